/- How many digits a number has to the base 2: what package dict's Probes answers, and the document's. -/
import Derived.Test.YtebdnjfohahpgaaShelf07
namespace Go.Proofs.Ytebdnjfohahpgaa
open Go Go.RowKit
set_option linter.unusedVariables false

set_option maxHeartbeats 1000000 in
theorem dict_Probes (n : Int) (w : World) (h0 : -9223372036854775808 ≤ n) (h1 : n ≤ 9223372036854775807) :
    Calls Try.prog 27 #[.int .i64 n] w fun e w' => e = .returned (.int .i64 (Lib.bitLen n.toNat)) ∧ w = w' := by
  obtain ⟨m, hm⟩ : ∃ m : Nat, m = n.toNat := ⟨_, rfl⟩
  have hmx : ∀ (w : World) (ts : Array TypeId) (t : TypeId), (Builtin.max_ ts t #[.int .i64 n, .int .i64 0]).run Try.prog w = .ok (.int .i64 (m : Int)) w := fun w ts t => by rw [run_max_int2, hm]; congr 2; split <;> omega
  have hm2 : (m : Int) ≤ 9223372036854775807 := by omega
  rw [← hm]
  clear hm
  go_enter Try.func27, Try.ntmps27
  go_wp2_with (go_at_call 40; refine (bits_len (m : Int) _ (by omega) (by omega)).mono ?_; rintro e w' ⟨rfl, rfl⟩)
  go_ret
  exact ⟨by simp, rfl⟩

def ProbRel (x : Nat) (n k : Value) : Prop := ∃ y j : Nat, n = .int .i64 (y : Int) ∧ k = .int .i64 (j : Int) ∧ y ≤ 9223372036854775807 ∧ j ≤ 64 ∧ Lib.bitLen x = j + Lib.bitLen y
set_option maxHeartbeats 1000000 in
theorem ref_Probes07 (n : Int) (w : World) (h0 : -9223372036854775808 ≤ n) (h1 : n ≤ 9223372036854775807) :
    Calls Try.prog 28 #[.int .i64 n] w fun e w' => e = .returned (.int .i64 (Lib.bitLen n.toNat)) ∧ w = w' := by
  by_cases hn : n ≤ 0
  · have e : n.toNat = 0 := by omega
    rw [e, bitLen_zero]
    have hn2 : decide (0 < n) = false := decide_eq_false (by omega)
    clear e
    go_enter Try.func28, Try.ntmps28
    go_wp2
    go_loop [0, 3] (fun x k => x = .int .i64 n ∧ k = .int .i64 0) (fun _ _ => 0)
    case atStart => exact ⟨rfl, rfl⟩
    case round =>
      obtain ⟨rfl, rfl⟩ := hrel
      go_wp2
      go_ret
      exact ⟨rfl, rfl⟩
  · obtain ⟨x, hx⟩ : ∃ x : Nat, x = n.toNat := ⟨_, rfl⟩
    obtain rfl : n = (x : Int) := by omega
    rw [← hx]
    obtain ⟨ans, hans⟩ : ∃ ans, ans = Lib.bitLen x := ⟨_, rfl⟩
    rw [← hans]
    have HA := Lib.hid hans
    clear hx hans
    go_enter Try.func28, Try.ntmps28
    go_wp2
    go_loop [0, 3] (fun n k => ProbRel x n k) (fun n _ => (intOf n).toNat)
    case atStart => exact ⟨x, 0, rfl, rfl, by omega, by omega, by omega⟩
    case round =>
      obtain ⟨y, j, rfl, rfl, hy, hj, hsum⟩ := hrel
      by_cases h : 0 < y
      · have hb := bitLen_step h (by omega)
        have hl := bitLen_le x
        have HS : Hid (Lib.bitLen x = (j + 1 : Nat) + Lib.bitLen (y / 2)) := Lib.hid (by omega)
        have hj2 : j < 64 := by omega
        clear hsum hb hl
        go_wp2
        go_round
        case rel => exact ⟨y / 2, j + 1, by first | rfl | (simp; omega) | (rw [Int.natCast_ediv]; rfl), by go_num, by omega, by omega, HS.out⟩
        case measure => simp [intOf]; omega
      · have hy0 : y = 0 := by omega
        subst hy0
        rw [bitLen_zero, ← HA.out] at hsum
        have HS := Lib.hid hsum
        clear hsum
        go_wp2
        go_ret
        exact ⟨ret_int (by have := HS.out; omega), rfl⟩
end Go.Proofs.Ytebdnjfohahpgaa
