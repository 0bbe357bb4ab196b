/- What the document's own Rises of layer 4 answers. -/
import Derived.Test.YtpehcaidjlemiaaRow04
import Derived.BigCall
import Derived.BigQuiet
import Derived.Deep.QuietTactic
namespace Go.Proofs.Ytpehcaidjlemiaa
open Go Go.RowKit
set_option linter.unusedVariables false

def RefRisesRel10 (l : List Int) (r i : Value) : Prop := r = .bool false ∧ ∃ (k : Nat), k ≤ l.length ∧ i = .int .i64 (k : Int) ∧ risesZ (ahead l k) (l.drop k) = risesZ (-1) l ∧ -1 ≤ ahead l k

set_option maxHeartbeats 1000000 in
set_option maxRecDepth 100000 in
theorem ref04_Rises (A : Option Addr) (m c : Nat) (l : List Int) (w : World) (hr : Row w w.heap.size A (ints l)) (hm : l.length = m) (hl : m ≤ 9223372036854775807) :
    Calls Try.prog 17 #[.slice A m c] w fun e w' => e = .returned (.bool (risesZ (-1) l)) ∧ Below w.heap.size w w' := by
  have HR := Lib.hid hr
  clear hr
  subst hm
  obtain ⟨ans, hans⟩ : ∃ ans, ans = risesZ (-1) l := ⟨_, rfl⟩
  rw [← hans]
  have HA := Lib.hid hans
  clear hans
  go_enter Try.func17, Try.ntmps17
  go_wp2
  go_loopw [2, 3] (fun r i wr => RefRisesRel10 l r i ∧ Below w.heap.size w wr) (fun _ i _ => l.length - (intOf i).toNat)
  case atStart => exact ⟨⟨rfl, 0, by omega, rfl, rfl, by simp [ahead]⟩, Below.refl _ _⟩
  case round =>
    obtain ⟨⟨rfl, k, hk, rfl, hx, hx1⟩, hbw⟩ := hrel
    by_cases hlt : k < l.length
    · obtain ⟨b1, o1, e1, _, hc1⟩ := row_int' (HR.out.below hbw) hlt
      subst e1
      have hc0 : 0 < k → wr.cell? ⟨b1, o1 + (k - 1), none⟩ = some (.int .i64 (ahead l k)) := fun h => by
        obtain ⟨b2, o2, e2, _, hc2⟩ := row_int' (HR.out.below hbw) (k := k - 1) (by omega)
        injection e2 with e2
        injection e2 with e3 e4
        subst e3 e4
        rw [hc2]
        simp [ahead]
        omega
      have ha0 : k = 0 → ahead l k = -1 := fun h => by simp [ahead, h]
      rw [risesZ_drop hlt] at hx
      have hs := ahead_succ (l := l) (k := k)
      obtain ⟨y, hy⟩ : ∃ y, y = l.getD k 0 := ⟨_, rfl⟩
      rw [← hy] at hc1 hx hs
      obtain ⟨x, hxx⟩ : ∃ x, x = ahead l k := ⟨_, rfl⟩
      rw [← hxx] at hx hx1 hc0 ha0
      have HS := Lib.hid hs
      clear hy hs hxx
      by_cases hxy : y ≤ x
      · rw [decide_eq_false (by omega), Bool.false_and, ← HA.out] at hx
        subst hx
        by_cases hy0 : y < 0
        · go_wp2
          go_quiet (fail)
          go_wp2
          go_ret
          exact ⟨rfl, hbw.trans ⟨rfl, rfl, rfl, Nat.le_refl _, fun _ _ => rfl⟩⟩
        · have hyb : decide (y < 0) = false := decide_eq_false hy0
          have hk0 : 0 < k := by
            rcases Nat.eq_zero_or_pos k with h | h
            · have := ha0 h; omega
            · exact h
          have hcp := hc0 hk0
          obtain ⟨j, hj⟩ : ∃ j, j = k - 1 := ⟨_, rfl⟩
          have hw : IntKind.i64.wrap ((k : Int) - 1) = (j : Int) := by rw [IntWalk.i64_in _ (by omega)]; omega
          have hjl : j < l.length := by omega
          rw [← hj] at hcp
          clear hc0 ha0 hj
          go_wp2
          go_quiet (fail)
          go_wp2
          go_ret
          exact ⟨rfl, hbw.trans ⟨rfl, rfl, rfl, Nat.le_refl _, fun _ _ => rfl⟩⟩
      · rw [decide_eq_true (by omega), Bool.true_and] at hx
        have HX := Lib.hid hx
        clear hx
        have hy0 : ¬ y < 0 := by omega
        have hyb : decide (y < 0) = false := decide_eq_false hy0
        rcases Nat.eq_zero_or_pos k with hk0 | hk0
        · clear hc0 ha0
          subst hk0
          rw [Nat.add_zero] at hc1
          go_wp2
          go_quiet (fail)
          go_wp2
          go_roundw
          case rel => exact ⟨⟨rfl, 0 + 1, by omega, by go_num, by rw [HS.out]; exact HX.out, by rw [HS.out]; omega⟩, hbw.trans ⟨rfl, rfl, rfl, Nat.le_refl _, fun _ _ => rfl⟩⟩
          case measure => simp [intOf]; omega
        · have hcp := hc0 hk0
          obtain ⟨j, hj⟩ : ∃ j, j = k - 1 := ⟨_, rfl⟩
          have hw : IntKind.i64.wrap ((k : Int) - 1) = (j : Int) := by rw [IntWalk.i64_in _ (by omega)]; omega
          have hjl : j < l.length := by omega
          rw [← hj] at hcp
          clear hc0 ha0 hj
          go_wp2
          go_quiet (fail)
          go_wp2
          go_roundw
          case rel => exact ⟨⟨rfl, k + 1, by omega, by go_num, by rw [HS.out]; exact HX.out, by rw [HS.out]; omega⟩, hbw.trans ⟨rfl, rfl, rfl, Nat.le_refl _, fun _ _ => rfl⟩⟩
          case measure => simp [intOf]; omega
    · rw [risesZ_end (by omega), ← HA.out] at hx
      subst hx
      go_wp2
      go_ret
      exact ⟨rfl, hbw⟩
end Go.Proofs.Ytpehcaidjlemiaa
