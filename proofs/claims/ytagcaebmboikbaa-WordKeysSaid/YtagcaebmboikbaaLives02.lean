/- The document's example of layer 2 holds: what the statements' own 'lives' answers. -/
import Derived.Test.YtagcaebmboikbaaMay02
namespace Go.Proofs.Ytagcaebmboikbaa
open Go Go.RowKit
set_option linter.unusedVariables false

set_option maxHeartbeats 1000000 in
set_option maxRecDepth 100000 in
theorem law02_lives (w : World) :
    Calls Try.prog 16 #[] w fun e w' => e = .returned (.bool true) ∧ Below w.heap.size w w' := by
  have hw : words [73, 116, 39, 115, 32, 51, 80, 77] = [[105, 116], [115], [51, 112, 109]] := by decide +kernel
  have hm : mayWord [105, 116] = true := by decide +kernel
  have c1 := fun w => word_Words ⟨#[73, 116, 39, 115, 32, 51, 80, 77]⟩ w (by decide)
  have c2 := fun w => word_May ⟨#[105, 116]⟩ w (by decide)
  simp only [] at c1 c2
  rw [hw] at c1
  rw [hm] at c2
  have C1 := Lib.hid c1
  have C2 := Lib.hid c2
  clear hw hm c1 c2
  go_enter Try.func16, Try.ntmps16
  go_wp2_with (go_at_call 14; refine (C1.out _).mono ?_)
  rintro e w1 ⟨v, rfl, hown, hb⟩
  obtain ⟨A, c, rfl, hc, hrow⟩ := owned_row hown
  obtain ⟨b, off, rfl, hblt, hcell⟩ := hrow.at_ (by simp [strs])
  have h0 : w1.cell? ⟨b, off, none⟩ = some (.string ⟨#[105, 116]⟩) := hcell 0 _ rfl
  have h1 : w1.cell? ⟨b, off + 1, none⟩ = some (.string ⟨#[115]⟩) := hcell 1 _ rfl
  have h2 : w1.cell? ⟨b, off + 2, none⟩ = some (.string ⟨#[51, 112, 109]⟩) := hcell 2 _ rfl
  have hs := hb.size
  clear hcell hrow hown
  go_wp2_with (go_at_call 17; refine (C2.out _).mono ?_; rintro e w' ⟨rfl, hb2⟩)
  go_ret
  exact ⟨rfl, hb.trans (hb2.mono hs)⟩
end Go.Proofs.Ytagcaebmboikbaa
