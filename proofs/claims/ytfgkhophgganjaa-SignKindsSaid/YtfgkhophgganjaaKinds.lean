/- What package sign's Letter, Digit, Fold and whole answer, and the document's Letter and Fold: for every integer of 64 bits. -/
import Derived.Test.YtfgkhophgganjaaProg
import Derived.WalkKit
import Derived.Test.YtfgkhophgganjaaPlain01
import Derived.Test.YtfgkhophgganjaaBase
set_option linter.unusedVariables false
namespace Go.Proofs.Ytfgkhophgganjaa
open Go.RowKit


set_option maxHeartbeats 1000000 in
theorem sign_Letter (c : Int) (w : World) :
    Calls Try.prog 16 #[.int .i64 c] w fun e w' => e = .returned (.bool (isLetter c)) ∧ w = w' := by
  go_enter Try.func16, Try.ntmps16
  go_wp2
  all_goals
    go_ret
    refine ⟨ret_bool ?_, rfl⟩
    rw [Bool.eq_iff_iff]
    simp [isLetter]
    try omega

set_option maxHeartbeats 1000000 in
theorem ref_Letter (c : Int) (w : World) :
    Calls Try.prog 17 #[.int .i64 c] w fun e w' => e = .returned (.bool (isLetter c)) ∧ w = w' := by
  go_enter Try.func17, Try.ntmps17
  go_wp2
  all_goals
    go_ret
    refine ⟨ret_bool ?_, rfl⟩
    rw [Bool.eq_iff_iff]
    simp [isLetter]
    try omega

set_option maxHeartbeats 1000000 in
theorem sign_Digit (c : Int) (w : World) :
    Calls Try.prog 18 #[.int .i64 c] w fun e w' => e = .returned (.bool (isDigit c)) ∧ w = w' := by
  go_enter Try.func18, Try.ntmps18
  go_wp2
  all_goals
    go_ret
    refine ⟨ret_bool ?_, rfl⟩
    rw [Bool.eq_iff_iff]
    simp [isDigit]
    try omega

set_option maxHeartbeats 1000000 in
theorem sign_Fold (c : Int) (w : World) :
    Calls Try.prog 19 #[.int .i64 c] w fun e w' => e = .returned (.int .i64 (fold c)) ∧ w = w' := by
  go_enter Try.func19, Try.ntmps19
  go_wp2
  all_goals
    go_ret
    refine ⟨ret_int ?_, rfl⟩
    try simp only [bne_iff_ne, ne_eq, bne_eq_false_iff_eq] at *
    unfold fold
    split
    all_goals
      rename_i hu
      simp [isUpper] at hu
      try omega

set_option maxHeartbeats 1000000 in
theorem ref_Fold (c : Int) (w : World) :
    Calls Try.prog 20 #[.int .i64 c] w fun e w' => e = .returned (.int .i64 (fold c)) ∧ w = w' := by
  go_enter Try.func20, Try.ntmps20
  go_wp2
  all_goals
    go_ret
    refine ⟨ret_int ?_, rfl⟩
    try simp only [bne_iff_ne, ne_eq, bne_eq_false_iff_eq] at *
    unfold fold
    split
    all_goals
      rename_i hu
      simp [isUpper] at hu
      try omega

set_option maxHeartbeats 1000000 in
theorem sign_whole (c : Int) (w : World) :
    Calls Try.prog 26 #[.int .i64 c] w fun e w' => e = .returned (.int .i32 (clamp c)) ∧ w = w' := by
  go_enter Try.func26, Try.ntmps26
  go_wp2
  all_goals
    go_ret
    refine ⟨ret_int ?_, rfl⟩
    unfold clamp
    split
    all_goals
      rename_i hu
      simp [okSign] at hu
      try omega
end Go.Proofs.Ytfgkhophgganjaa
