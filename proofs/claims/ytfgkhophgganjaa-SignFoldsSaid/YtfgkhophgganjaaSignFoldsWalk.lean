/- The walk of SignFolds: it returns true for every input, and nothing that was there turns. -/
import Derived.Test.YtfgkhophgganjaaSignSignsWalk
import Derived.BigQuiet
import Derived.Deep.QuietTactic
import Derived.Test.YtfgkhophgganjaaFoldText
import Derived.Test.YtfgkhophgganjaaFew01
import Derived.Test.YtfgkhophgganjaaLives01
namespace Go.Proofs.Ytfgkhophgganjaa
open Go Go.RowKit
set_option linter.unusedVariables false

theorem back_letter (c : Int) (w : World) : Calls Try.prog 16 #[.int .i64 c] w fun e w' => e = .returned (.bool (isLetter c)) ∧ w' = w := (sign_Letter c w).mono fun _ _ h => ⟨h.1, h.2.symm⟩
theorem back_digit (c : Int) (w : World) : Calls Try.prog 18 #[.int .i64 c] w fun e w' => e = .returned (.bool (isDigit c)) ∧ w' = w := (sign_Digit c w).mono fun _ _ h => ⟨h.1, h.2.symm⟩
theorem back_fold (c : Int) (w : World) : Calls Try.prog 19 #[.int .i64 c] w fun e w' => e = .returned (.int .i64 (fold c)) ∧ w' = w := (sign_Fold c w).mono fun _ _ h => ⟨h.1, h.2.symm⟩
def FoldsRel (w : World) (n : Nat) (i : Value) (wr : World) : Prop := ∃ k : Nat, k ≤ n ∧ i = .int .i64 k ∧ Below w.heap.size w wr

set_option maxHeartbeats 2000000 in
set_option maxRecDepth 100000 in
theorem walk_SignFolds (a0 : ByteArray) (w : World) (w0 : a0.size ≤ maxLen) :
    Calls Try.prog 6 #[.string a0] w fun e w' => e = .returned (.bool true) ∧ Below w.heap.size w w' := by
  have HW0 := Lib.hid w0
  clear w0
  go_enter Try.func6, Try.ntmps6
  go_wp2_with (go_at_call 9; refine (law01_few a0 _ HW0.out).mono ?_)
  rintro e w' ⟨t, rfl, ht, rfl⟩
  have hfl := foldText_length t.data.toList
  rw [size_list] at hfl
  obtain ⟨u, hu⟩ : ∃ u : ByteArray, u = ⟨(foldText t.data.toList).toArray⟩ := ⟨_, rfl⟩
  have hul : u.data.toList = foldText t.data.toList := by rw [hu]
  have husz : u.size ≤ 400 := by rw [← size_list, hul]; omega
  have HTW : Hid (u = ⟨(foldText u.data.toList).toArray⟩) := by rw [hul, foldText_twice]; exact hu
  have HSU : Hid (signs u.data.toList = (signs t.data.toList).map fold) := by rw [hul]; exact signs_foldText _
  have HU := Lib.hid hu
  clear hu hul hfl
  go_wp2_with (go_at_call 21; refine (sign_FoldText t _ (by omega)).mono ?_)
  rintro e w2 ⟨he2, hb2⟩
  rw [← HU.out] at he2
  subst he2
  go_wp2_with (go_at_call 22; refine (ref_FoldText t _ (by omega)).mono ?_)
  rintro e w3 ⟨he3, hb3⟩
  rw [← HU.out] at he3
  subst he3
  go_wp2_with (go_at_call 21; refine (sign_FoldText u _ (by omega)).mono ?_)
  rintro e w4 ⟨he4, hb4⟩
  rw [← HTW.out] at he4
  subst he4
  have hb : Below w.heap.size w w4 := (hb2.trans (hb3.mono hb2.size)).trans (hb4.mono (by have := hb2.size; have := hb3.size; omega))
  clear hb2 hb3 hb4
  go_wp2_with (go_at_call 11; refine (sign_Signs t _ (by omega)).mono ?_)
  rintro e w5 ⟨v5, rfl, hown5, hb5⟩
  obtain ⟨A5, c5, rfl, _, hrow5⟩ := owned_row hown5
  have HR5 := Lib.hid hrow5
  clear hrow5 hown5
  go_wp2_with (go_at_call 11; refine (sign_Signs u _ (by omega)).mono ?_)
  rintro e w6 ⟨v6, rfl, hown6, hb6⟩
  rw [HSU.out] at hown6
  obtain ⟨A6, c6, rfl, _, hrow6⟩ := owned_row hown6
  have HR6 := Lib.hid hrow6
  have HR7 := Lib.hid ((HR5.out.below hb6).more hb6.size)
  have hbw : Below w.heap.size w w6 := (hb.trans (hb5.mono hb.size)).trans (hb6.mono (by have := hb.size; have := hb5.size; omega))
  clear hrow6 hown6 hb5 hb6 hb HR5
  have hsl := signs_length t.data.toList
  rw [size_list] at hsl
  obtain ⟨l, hl⟩ : ∃ l, l = signs t.data.toList := ⟨_, rfl⟩
  rw [← hl] at HR6 HR7 hsl ⊢
  rw [List.length_map]
  clear hl HSU
  go_wp2
  go_loopw [6] (fun i wr => FoldsRel w6 l.length i wr) (fun i _ => l.length - (intOf i).toNat)
  case atStart => exact ⟨0, Nat.zero_le _, rfl, Below.refl _ _⟩
  case round =>
    obtain ⟨k, hk, rfl, hbr⟩ := hrel
    by_cases hlt : k < l.length
    · obtain ⟨b1, o1, e1, _, hc1⟩ := row_int (HR7.out.below hbr) hlt
      obtain ⟨b2, o2, e2, _, hc2⟩ := row_int (xs := l.map fold) (HR6.out.below hbr) (k := k) (by rw [List.length_map]; exact hlt)
      subst e1 e2
      rw [List.getElem_map] at hc2
      obtain ⟨x, hx⟩ : ∃ x, x = l[k] := ⟨_, rfl⟩
      rw [← hx] at hc1 hc2
      clear hx
      have hi0 : (0 : Int) ≤ k := by omega
      have hi1 : (k : Int) < l.length := by omega
      have l1 := back_letter x
      have l2 := back_letter (fold x)
      have d1 := back_digit x
      have d2 := back_digit (fold x)
      have f1 := back_fold x
      rw [letter_fold] at l2
      rw [digit_fold] at d2
      generalize isLetter x = L at l1 l2
      generalize isDigit x = D at d1 d2
      generalize fold x = y at l2 d2 f1 hc2
      have L1 := Lib.hid l1
      have L2 := Lib.hid l2
      have D1 := Lib.hid d1
      have D2 := Lib.hid d2
      have F1 := Lib.hid f1
      clear l1 l2 d1 d2 f1
      go_wp2
      go_quiet (first
        | (go_at_call 16; with_reducible exact Calls.quiet_of_same (L1.out _))
        | (go_at_call 16; with_reducible exact Calls.quiet_of_same (L2.out _))
        | (go_at_call 18; with_reducible exact Calls.quiet_of_same (D1.out _))
        | (go_at_call 18; with_reducible exact Calls.quiet_of_same (D2.out _))
        | (go_at_call 19; with_reducible exact Calls.quiet_of_same (F1.out _)))
      go_wp2
      go_roundw
      case rel => exact ⟨k + 1, by omega, by go_num, hbr.trans ⟨rfl, rfl, rfl, Nat.le_refl _, fun _ _ => rfl⟩⟩
      case measure => simp [intOf]; omega
    · go_wp2_with (go_at_call 15; refine (law01_lives _).mono ?_)
      rintro e w9 ⟨rfl, hb9⟩
      go_wp2
      go_ret
      have hbz := hbw.trans (hbr.mono hbw.size)
      exact ⟨rfl, hbz.trans (hb9.mono hbz.size)⟩
end Go.Proofs.Ytfgkhophgganjaa
