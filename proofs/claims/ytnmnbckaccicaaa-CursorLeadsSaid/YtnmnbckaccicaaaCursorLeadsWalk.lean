/- The walk of CursorLeads. -/
import Derived.Test.YtnmnbckaccicaaaLeadsW06
import Derived.Test.YtnmnbckaccicaaaOk06
import Derived.Test.YtnmnbckaccicaaaP04
namespace Go.Proofs.Ytnmnbckaccicaaa
open Go Go.RowKit

theorem walk_CursorLeads (a0 : Option Addr) (len0 cap0 : Nat) (z0 : List Po) (a1 : Int) (w : World) (w0 : InPosts w a0 len0 cap0 z0) (w1 : (Lit.int IntKind.i64 a1).wf = true) :
    Calls Try.prog 6 #[.slice a0 len0 cap0, .int .i64 a1] w fun e w' => e = .returned (.bool true) ∧ Below w.heap.size w w' :=
  leads_of cursor_ok a0 len0 cap0 z0 a1 w w0 (wf_bd w1).1 (wf_bd w1).2
end Go.Proofs.Ytnmnbckaccicaaa
