/- The walk of CursorBoth. -/
import Derived.Test.YtnmnbckaccicaaaBothW06
import Derived.Test.YtnmnbckaccicaaaOk06
namespace Go.Proofs.Ytnmnbckaccicaaa
open Go Go.RowKit

theorem walk_CursorBoth (a0 : Option Addr) (len0 cap0 : Nat) (z0 : List Po) (a1 : Option Addr) (len1 cap1 : Nat) (z1 : List Po) (w : World) (w0 : InPosts w a0 len0 cap0 z0) (w1 : InPosts w a1 len1 cap1 z1) :
    Calls Try.prog 5 #[.slice a0 len0 cap0, .slice a1 len1 cap1] w fun e w' => e = .returned (.bool true) ∧ Below w.heap.size w w' := both_of cursor_ok a0 len0 cap0 z0 a1 len1 cap1 z1 w w0 w1
end Go.Proofs.Ytnmnbckaccicaaa
