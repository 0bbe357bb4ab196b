/- The walk of CursorAll. -/
import Derived.Test.YtnmnbckaccicaaaAllW06
import Derived.Test.YtnmnbckaccicaaaOk06
set_option linter.unusedVariables false
namespace Go.Proofs.Ytnmnbckaccicaaa
open Go Go.RowKit

theorem walk_CursorAll (a0 : Option Addr) (len0 cap0 : Nat) (z0 : List Po) (a1 : Int) (w : World) (w0 : InPosts w a0 len0 cap0 z0) (w1 : (Lit.int IntKind.i64 a1).wf = true) :
    Calls Try.prog 4 #[.slice a0 len0 cap0, .int .i64 a1] w fun e w' => e = .returned (.bool true) ∧ Below w.heap.size w w' :=
  all_of cursor_ok a0 len0 cap0 z0 a1 w w0
end Go.Proofs.Ytnmnbckaccicaaa
