/- The walk of SignKinds: it returns true for every number, and nothing that was there turns. -/
import Derived.Test.YtfgkhophgganjaaLives01
namespace Go.Proofs.Ytfgkhophgganjaa
open Go Go.RowKit
set_option linter.unusedVariables false

set_option maxHeartbeats 1000000 in
theorem walk_SignKinds (c : Int) (w : World) (w0 : (Lit.int .i64 c).wf = true) :
    Calls Try.prog 5 #[.int .i64 c] w fun e w' => e = .returned (.bool true) ∧ Below w.heap.size w w' := by
  have hd : isDigit c = (decide (48 ≤ c) && decide (c ≤ 57)) := by simp [isDigit]
  have HD := Lib.hid hd
  clear hd
  go_enter Try.func5, Try.ntmps5
  go_wp2_with (first
    | (go_at_call 16; refine (sign_Letter _ _).mono ?_; rintro e w' ⟨rfl, rfl⟩)
    | (go_at_call 17; refine (ref_Letter _ _).mono ?_; rintro e w' ⟨rfl, rfl⟩)
    | (go_at_call 18; refine (sign_Digit _ _).mono ?_; rintro e w' ⟨rfl, rfl⟩)
    | (go_at_call 19; refine (sign_Fold _ _).mono ?_; rintro e w' ⟨rfl, rfl⟩)
    | (go_at_call 20; refine (ref_Fold _ _).mono ?_; rintro e w' ⟨rfl, rfl⟩)
    | (go_at_call 15; refine (law01_lives _).mono ?_; rintro e w' ⟨rfl, hb⟩))
  all_goals first
    | (go_ret; exact ⟨rfl, hb⟩)
    | (exfalso; have hh := HD.out; simp_all; try omega)
end Go.Proofs.Ytfgkhophgganjaa
