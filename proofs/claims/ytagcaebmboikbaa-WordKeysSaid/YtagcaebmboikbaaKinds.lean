/- What package sign's Letter, Digit, Fold and whole answer, and the document's Letter and Fold: for every integer of 64 bits. -/
import Derived.Test.YtagcaebmboikbaaProg
import Derived.WalkKit
import Derived.Test.YtagcaebmboikbaaPlain01
import Derived.Test.YtagcaebmboikbaaBase
set_option linter.unusedVariables false
namespace Go.Proofs.Ytagcaebmboikbaa
open Go.RowKit


set_option maxHeartbeats 1000000 in
theorem sign_Letter (c : Int) (w : World) :
    Calls Try.prog 40 #[.int .i64 c] w fun e w' => e = .returned (.bool (isLetter c)) ∧ w = w' := by
  go_enter Try.func40, Try.ntmps40
  go_wp2
  all_goals
    go_ret
    refine ⟨ret_bool ?_, rfl⟩
    rw [Bool.eq_iff_iff]
    simp [isLetter]
    try omega

set_option maxHeartbeats 1000000 in
theorem ref_Letter (c : Int) (w : World) :
    Calls Try.prog 39 #[.int .i64 c] w fun e w' => e = .returned (.bool (isLetter c)) ∧ w = w' := by
  go_enter Try.func39, Try.ntmps39
  go_wp2
  all_goals
    go_ret
    refine ⟨ret_bool ?_, rfl⟩
    rw [Bool.eq_iff_iff]
    simp [isLetter]
    try omega

set_option maxHeartbeats 1000000 in
theorem sign_Digit (c : Int) (w : World) :
    Calls Try.prog 41 #[.int .i64 c] w fun e w' => e = .returned (.bool (isDigit c)) ∧ w = w' := by
  go_enter Try.func41, Try.ntmps41
  go_wp2
  all_goals
    go_ret
    refine ⟨ret_bool ?_, rfl⟩
    rw [Bool.eq_iff_iff]
    simp [isDigit]
    try omega

set_option maxHeartbeats 1000000 in
theorem sign_Fold (c : Int) (w : World) :
    Calls Try.prog 33 #[.int .i64 c] w fun e w' => e = .returned (.int .i64 (fold c)) ∧ w = w' := by
  go_enter Try.func33, Try.ntmps33
  go_wp2
  all_goals
    go_ret
    refine ⟨ret_int ?_, rfl⟩
    try simp only [bne_iff_ne, ne_eq, bne_eq_false_iff_eq] at *
    unfold fold
    split
    all_goals
      rename_i hu
      simp [isUpper] at hu
      try omega

set_option maxHeartbeats 1000000 in
theorem ref_Fold (c : Int) (w : World) :
    Calls Try.prog 30 #[.int .i64 c] w fun e w' => e = .returned (.int .i64 (fold c)) ∧ w = w' := by
  go_enter Try.func30, Try.ntmps30
  go_wp2
  all_goals
    go_ret
    refine ⟨ret_int ?_, rfl⟩
    try simp only [bne_iff_ne, ne_eq, bne_eq_false_iff_eq] at *
    unfold fold
    split
    all_goals
      rename_i hu
      simp [isUpper] at hu
      try omega

set_option maxHeartbeats 1000000 in
theorem sign_whole (c : Int) (w : World) :
    Calls Try.prog 44 #[.int .i64 c] w fun e w' => e = .returned (.int .i32 (clamp c)) ∧ w = w' := by
  go_enter Try.func44, Try.ntmps44
  go_wp2
  all_goals
    go_ret
    refine ⟨ret_int ?_, rfl⟩
    unfold clamp
    split
    all_goals
      rename_i hu
      simp [okSign] at hu
      try omega
end Go.Proofs.Ytagcaebmboikbaa
