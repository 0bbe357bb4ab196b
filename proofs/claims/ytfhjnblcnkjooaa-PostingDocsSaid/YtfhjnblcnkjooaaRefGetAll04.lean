/- What the document's own Get answers, at any place. -/
import Derived.Test.YtfhjnblcnkjooaaRefGet04
namespace Go.Proofs.Ytfhjnblcnkjooaa
open Go Go.RowKit
set_option linter.unusedVariables false

set_option maxHeartbeats 1000000 in
set_option maxRecDepth 100000 in
theorem ref_Get_out (A : Option Addr) (m c : Nat) (a : Int) (w : World) (ha : a < 0 ∨ (m : Int) < a) :
    Calls Try.prog 38 #[.slice A m c, .int .i64 a] w (GaveZ (0, 0, 1) w) := by
  by_cases h0 : a < 0
  · go_enter Try.func38, Try.ntmps38
    go_wp2
    go_ret3
    exact ⟨rfl, Below.refl _ _⟩
  · have h1 : (m : Int) < a := by omega
    go_enter Try.func38, Try.ntmps38
    go_wp2
    go_ret3
    exact ⟨rfl, Below.refl _ _⟩
theorem ref_Get (A : Option Addr) (m c : Nat) (a : Int) (l : List UInt8) (w : World) (hr : Row w w.heap.size A (Lib.byteCells l)) (hm : l.length = m) (hc : m ≤ c) (hcx : c ≤ maxLen) (hl : m ≤ 1073741824) :
    Calls Try.prog 38 #[.slice A m c, .int .i64 a] w (GaveZ (getZ l a) w) := by
  by_cases h0 : a < 0 ∨ (m : Int) < a
  · rw [getZ_out (by rw [hm]; exact h0)]
    exact ref_Get_out A m c a w h0
  · obtain ⟨k, rfl⟩ : ∃ k : Nat, a = k := ⟨a.toNat, by omega⟩
    exact ref_Get_in A m c k l w hr hm hc hcx hl (by omega)
end Go.Proofs.Ytfhjnblcnkjooaa
