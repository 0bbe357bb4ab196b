/- Package cursor's calls give what its promises say. -/
import Derived.Test.YtnmnbckaccicaaaBoth06
import Derived.Test.YtnmnbckaccicaaaNew06
set_option linter.unusedVariables false
namespace Go.Proofs.Ytnmnbckaccicaaa
open Go Go.RowKit

theorem CAt.good {p : Prop × Nat} {C : Nat} {g : List Po} {i : Int} {w : World} (h : CAt p C g i w) : GoodG g := by
  obtain ⟨vb, ve, A, c, nx, bh, rd, rest, _, _, _, _, _, _, hg⟩ := h
  exact hg
theorem cursor_ok : CursorOk where
  new := fun base B g w h hm hl hb => (cur_New (fu := (True, 0)) base B g w h ⟨hm, hl, hb⟩ (Nat.zero_le _)).mono fun e w' ⟨C, h1, h2, h3, h4⟩ => ⟨C, CAt (True, 0) C g, h1, cur_ok C g ⟨hm, hl, hb⟩, h3, h2, h4⟩
  both := fun C D g h At Bt w CO DO hne hat hbt _ _ _ _ => by
    have ha := CO.real _ _ hat
    have hb := DO.real _ _ hbt
    obtain ⟨_, _, h1⟩ := CO.own _ _ hat
    obtain ⟨_, _, h2⟩ := DO.own _ _ hbt
    exact cur_Both C D g h w ha.good hb.good hne ha hb (lt_of_block' h1) (lt_of_block' h2)
end Go.Proofs.Ytnmnbckaccicaaa
