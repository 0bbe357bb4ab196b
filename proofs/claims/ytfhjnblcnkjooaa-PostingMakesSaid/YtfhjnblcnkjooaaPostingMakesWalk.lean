/- PostingMakes, walked: true for every input. -/
import Derived.Test.YtfhjnblcnkjooaaOk05
import Derived.Test.YtfhjnblcnkjooaaMakesL05
namespace Go.Proofs.Ytfhjnblcnkjooaa
open Go Go.RowKit
theorem walk_PostingMakes (a0 : Option Addr) (len0 cap0 : Nat) (z0 : List Po) (w : World) (w0 : InPosts w a0 len0 cap0 z0) :
    Calls Try.prog 3 #[.slice a0 len0 cap0] w fun e w' => e = .returned (.bool true) ∧ Below w.heap.size w w' := makes_of posting_ok a0 len0 cap0 z0 w w0
end Go.Proofs.Ytfhjnblcnkjooaa
