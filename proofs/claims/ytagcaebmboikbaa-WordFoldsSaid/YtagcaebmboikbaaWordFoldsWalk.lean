/- The walk of WordFolds: it returns true for every input, and nothing that was there turns. -/
import Derived.Test.YtagcaebmboikbaaLives02
namespace Go.Proofs.Ytagcaebmboikbaa
open Go Go.RowKit
set_option linter.unusedVariables false

set_option maxHeartbeats 2000000 in
set_option maxRecDepth 100000 in
theorem walk_WordFolds (a0 : ByteArray) (w : World) (w0 : a0.size ≤ maxLen) :
    Calls Try.prog 9 #[.string a0] w fun e w' => e = .returned (.bool true) ∧ Below w.heap.size w w' := by
  have HW0 := Lib.hid w0
  clear w0
  go_enter Try.func9, Try.ntmps9
  go_wp2_with (go_at_call 10; refine (law02_few a0 100 _ HW0.out (by omega)).mono ?_)
  rintro e w' ⟨t, rfl, ht, rfl⟩
  have hfl := foldText_length t.data.toList
  have hsz : t.data.toList.length = t.size := Array.length_toList
  rw [hsz] at hfl
  have hwl := words_length t.data.toList
  rw [hsz] at hwl
  obtain ⟨u, hu⟩ : ∃ u : ByteArray, u = ⟨(foldText t.data.toList).toArray⟩ := ⟨_, rfl⟩
  have hul : u.data.toList = foldText t.data.toList := by rw [hu]
  have husz : u.size ≤ 400 := by rw [← size_list, hul]; omega
  have c1 := fun w => word_Words u w (by omega)
  have c2 := fun w => word_Words t w (by omega)
  rw [hul, words_fold] at c1
  generalize words t.data.toList = ws at c1 c2 hwl
  have C1 := Lib.hid c1
  have C2 := Lib.hid c2
  have HU := Lib.hid hu
  clear c1 c2 hu hul hsz hfl
  go_wp2_with (go_at_call 24; refine (ref_FoldText t _ (by omega)).mono ?_)
  rintro e w2 ⟨he2, hb2⟩
  rw [← HU.out] at he2
  subst he2
  go_wp2_with (go_at_call 14; refine (C1.out _).mono ?_)
  rintro e w3 ⟨v3, rfl, hown3, hb3⟩
  obtain ⟨A3, c3, rfl, _, hrow3⟩ := owned_row hown3
  have HR3 := Lib.hid hrow3
  clear hrow3 hown3
  go_wp2_with (go_at_call 14; refine (C2.out _).mono ?_)
  rintro e w4 ⟨v4, rfl, hown4, hb4⟩
  obtain ⟨A4, c4, rfl, _, hrow4⟩ := owned_row hown4
  have HR4 := Lib.hid hrow4
  clear hrow4 hown4
  go_wp2_with (go_at_call 13; refine (ref02_Same _ _ _ _ _ _ ws _ rfl rfl ((HR3.out.below hb4).more hb4.size) HR4.out (by omega)).mono ?_)
  rintro e w5 ⟨rfl, hb5⟩
  have s2 := hb2.size
  have s3 := hb3.size
  have s4 := hb4.size
  have hb : Below w.heap.size w w5 := ((hb2.trans (hb3.mono (by omega))).trans (hb4.mono (by omega))).trans (hb5.mono (by omega))
  clear hb2 hb3 hb4 hb5 HR3 HR4
  go_wp2_with (go_at_call 16; refine (law02_lives _).mono ?_)
  rintro e w9 ⟨rfl, hb9⟩
  go_wp2
  go_ret
  exact ⟨rfl, hb.trans (hb9.mono hb.size)⟩
end Go.Proofs.Ytagcaebmboikbaa
