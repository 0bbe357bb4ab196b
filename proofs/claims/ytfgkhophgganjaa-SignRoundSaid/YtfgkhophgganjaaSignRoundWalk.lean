/- The walk of SignRound: it returns true for every input, and nothing that was there turns. -/
import Derived.Test.YtfgkhophgganjaaRefFold
import Derived.Test.YtfgkhophgganjaaFoldText
import Derived.Test.YtfgkhophgganjaaFew01
import Derived.Test.YtfgkhophgganjaaLives01
namespace Go.Proofs.Ytfgkhophgganjaa
open Go Go.RowKit
set_option linter.unusedVariables false

set_option maxHeartbeats 2000000 in
set_option maxRecDepth 100000 in
theorem walk_SignRound (a0 : ByteArray) (w : World) (w0 : a0.size ≤ maxLen) :
    Calls Try.prog 4 #[.string a0] w fun e w' => e = .returned (.bool true) ∧ Below w.heap.size w w' := by
  have HW0 := Lib.hid w0
  clear w0
  go_enter Try.func4, Try.ntmps4
  go_wp2_with (go_at_call 9; refine (law01_few a0 _ HW0.out).mono ?_)
  rintro e w' ⟨t, rfl, ht, rfl⟩
  go_wp2_with (go_at_call 11; refine (sign_Signs t _ (by omega)).mono ?_)
  rintro e w2 ⟨v2, rfl, hown2, hb2⟩
  obtain ⟨A2, c2, rfl, _, hrow2⟩ := owned_row hown2
  have HR2 := Lib.hid hrow2
  clear hrow2 hown2
  have hsl := signs_length t.data.toList
  rw [size_list] at hsl
  have hrt : signs (text (signs t.data.toList)) = signs t.data.toList := signs_text _ (signs_valid _)
  have htl := text_length (signs t.data.toList)
  obtain ⟨xs, hxs⟩ : ∃ xs, xs = signs t.data.toList := ⟨_, rfl⟩
  rw [← hxs] at HR2 hrt htl hsl
  rw [← hxs]
  clear hxs
  obtain ⟨u, hu⟩ : ∃ u : ByteArray, u = ⟨(text xs).toArray⟩ := ⟨_, rfl⟩
  have hul : u.data.toList = text xs := by rw [hu]
  have husz : u.size ≤ 400 := by rw [← size_list, hul]; omega
  have HRT : Hid (signs u.data.toList = xs) := by rw [hul]; exact hrt
  have HU := Lib.hid hu
  clear hrt hu hul htl
  go_wp2_with (go_at_call 13; refine (sign_Text_at _ _ _ xs _ rfl HR2.out (by omega)).mono ?_)
  rintro e w3 ⟨he3, hb3⟩
  rw [← HU.out] at he3
  subst he3
  go_wp2_with (go_at_call 11; refine (sign_Signs u _ (by omega)).mono ?_)
  rintro e w4 ⟨v4, rfl, hown4, hb4⟩
  rw [HRT.out] at hown4
  obtain ⟨A4, c4, rfl, _, hrow4⟩ := owned_row hown4
  have HR4 := Lib.hid hrow4
  clear hrow4 hown4
  have hb24 : Below w2.heap.size w2 w4 := hb3.trans (hb4.mono hb3.size)
  go_wp2_with (go_at_call 10; refine (ref_Same_at _ _ _ _ _ _ xs _ rfl rfl HR4.out ((HR2.out.below hb24).more hb24.size) (by omega)).mono ?_)
  rintro e w5 ⟨rfl, hb5⟩
  go_wp2_with (go_at_call 11; refine (sign_Signs u _ (by omega)).mono ?_)
  rintro e w6 ⟨v6, rfl, hown6, hb6⟩
  rw [HRT.out] at hown6
  obtain ⟨A6, c6, rfl, _, hrow6⟩ := owned_row hown6
  have HR6 := Lib.hid hrow6
  clear hrow6 hown6
  go_wp2_with (go_at_call 13; refine (sign_Text_at _ _ _ xs _ rfl HR6.out (by omega)).mono ?_)
  rintro e w7 ⟨he7, hb7⟩
  rw [← HU.out] at he7
  subst he7
  have s2 := hb2.size
  have s3 := hb3.size
  have s4 := hb4.size
  have s5 := hb5.size
  have s6 := hb6.size
  have s7 := hb7.size
  have hb : Below w.heap.size w w7 := ((((hb2.trans (hb3.mono (by omega))).trans (hb4.mono (by omega))).trans (hb5.mono (by omega))).trans (hb6.mono (by omega))).trans (hb7.mono (by omega))
  clear hb2 hb3 hb4 hb5 hb6 hb7 hb24 HR2 HR4 HR6
  go_wp2_with (go_at_call 15; refine (law01_lives _).mono ?_)
  rintro e w9 ⟨rfl, hb9⟩
  go_wp2
  go_ret
  exact ⟨rfl, hb.trans (hb9.mono hb.size)⟩
end Go.Proofs.Ytfgkhophgganjaa
