/- The walk of CursorPlays. -/
import Derived.Test.YtnmnbckaccicaaaPlaysW06
import Derived.Test.YtnmnbckaccicaaaOk06
namespace Go.Proofs.Ytnmnbckaccicaaa
open Go Go.RowKit

theorem walk_CursorPlays (a0 : Option Addr) (len0 cap0 : Nat) (z0 : List Po) (a1 : Option Addr) (len1 cap1 : Nat) (z1 : List Int) (w : World) (w0 : InPosts w a0 len0 cap0 z0) (w1 : InRow .i64 w a1 len1 cap1 z1) :
    Calls Try.prog 3 #[.slice a0 len0 cap0, .slice a1 len1 cap1] w fun e w' => e = .returned (.bool true) ∧ Below w.heap.size w w' :=
  plays_of cursor_ok a0 len0 cap0 z0 a1 len1 cap1 z1 w w0 w1
end Go.Proofs.Ytnmnbckaccicaaa
