/- The document's examples of layer 1 hold: what the statements' own 'lives' answers. -/
import Derived.Test.YtfgkhophgganjaaSigns
import Derived.Test.YtfgkhophgganjaaKinds
set_option linter.unusedVariables false
namespace Go.Proofs.Ytfgkhophgganjaa
open Go Go.RowKit

set_option maxHeartbeats 1000000 in
set_option maxRecDepth 100000 in
theorem law01_lives (w : World) :
    Calls Try.prog 15 #[] w fun e w' => e = .returned (.bool true) ∧ Below w.heap.size w w' := by
  have hsg : signs [97, 255] = [97, 65533] := by decide
  have hf : fold 196 = 228 := by decide
  have hl : isLetter 196 = true := by decide
  have c1 := fun w => sign_Fold 196 w
  have c2 := fun w => sign_Letter 196 w
  rw [hf] at c1
  rw [hl] at c2
  have C1 := Lib.hid c1
  have C2 := Lib.hid c2
  clear hf hl c1 c2
  go_enter Try.func15, Try.ntmps15
  go_wp2_with (go_at_call 11; refine (sign_Signs ⟨#[97, 255]⟩ _ (by decide)).mono ?_)
  rintro e w1 ⟨v, rfl, hown, hb⟩
  obtain ⟨A, c, rfl, hc, hrow⟩ := owned_row hown
  obtain ⟨b, off, rfl, hblt, hcell⟩ := hrow.at_ (by simp [ints])
  have h0 : w1.cell? ⟨b, off, none⟩ = some (.int .i64 97) := hcell 0 _ rfl
  have h1 : w1.cell? ⟨b, off + 1, none⟩ = some (.int .i64 65533) := hcell 1 _ rfl
  clear hcell hrow hown hsg
  go_wp2_with (first
    | (go_at_call 19; refine (C1.out _).mono ?_; rintro e w' ⟨rfl, rfl⟩)
    | (go_at_call 16; refine (C2.out _).mono ?_; rintro e w' ⟨rfl, rfl⟩))
  go_ret
  exact ⟨rfl, hb⟩
end Go.Proofs.Ytfgkhophgganjaa
