/- PostingRound, walked: true for every input. -/
import Derived.Test.YtfhjnblcnkjooaaOk05
namespace Go.Proofs.Ytfhjnblcnkjooaa
open Go Go.RowKit
theorem walk_PostingRound (a0 : Option Addr) (len0 cap0 : Nat) (z0 : List Po) (a1 : Int) (w : World) (w0 : InPosts w a0 len0 cap0 z0) (w1 : (Lit.int .i64 a1).wf = true) :
    Calls Try.prog 5 #[.slice a0 len0 cap0, .int .i64 a1] w fun e w' => e = .returned (.bool true) ∧ Below w.heap.size w w' := round_of posting_ok a0 len0 cap0 z0 a1 w w0 w1
end Go.Proofs.Ytfhjnblcnkjooaa
