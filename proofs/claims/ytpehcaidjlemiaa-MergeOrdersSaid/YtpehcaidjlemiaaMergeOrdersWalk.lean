/- MergeOrders, walked: true for every input. (ord_ok : OrdOk is to stand in OrdersOk11: what the landed Order and Places give.) -/
import Derived.Test.YtpehcaidjlemiaaMOWalk11
import Derived.Test.YtpehcaidjlemiaaArgL11
import Derived.Test.YtpehcaidjlemiaaOrdersOk11
namespace Go.Proofs.Ytpehcaidjlemiaa
open Go Go.RowKit

theorem walk_MergeOrders (a0 : Option Addr) (len0 cap0 : Nat) (z0 : List (List Int)) (a1 : Int) (w : World) (h0 : InLols w a0 len0 cap0 z0) (h1 : (Lit.int .i64 a1).wf = true) :
    Calls Try.prog 3 #[.slice a0 len0 cap0, .int .i64 a1] w fun e w' => e = .returned (.bool true) ∧ Below w.heap.size w w' := by
  obtain ⟨hlc, hcm, hl, hL, hz⟩ := h0
  unfold maxLen at hcm
  exact walk0_MergeOrders ord_ok a0 len0 cap0 z0 a1 w hL hl (by omega) hz h1
end Go.Proofs.Ytpehcaidjlemiaa
