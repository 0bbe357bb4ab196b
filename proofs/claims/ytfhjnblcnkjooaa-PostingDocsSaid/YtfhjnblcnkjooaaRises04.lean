/- What package vint's rises answers. -/
import Derived.Test.YtfhjnblcnkjooaaRefRises04
import Derived.Test.YtfhjnblcnkjooaaPut04
namespace Go.Proofs.Ytfhjnblcnkjooaa
open Go Go.RowKit
set_option linter.unusedVariables false

def RisesRel (l : List Int) (r last i : Value) : Prop := r = .bool false ∧ ∃ (k : Nat) (x : Int), k ≤ l.length ∧ i = .int .i64 (k : Int) ∧ last = .int .i64 x ∧ risesZ x (l.drop k) = risesZ (-1) l

set_option maxHeartbeats 1000000 in
set_option maxRecDepth 100000 in
theorem vint_rises (A : Option Addr) (m c : Nat) (l : List Int) (w : World) (hr : Row w w.heap.size A (ints l)) (hm : l.length = m) (hl : m ≤ 1073741824) :
    Calls Try.prog 50 #[.slice A m c] w fun e w' => e = .returned (.bool (risesZ (-1) l)) ∧ w = w' := by
  have HR := Lib.hid hr
  clear hr
  subst hm
  obtain ⟨ans, hans⟩ : ∃ ans, ans = risesZ (-1) l := ⟨_, rfl⟩
  rw [← hans]
  have HA := Lib.hid hans
  clear hans
  go_enter Try.func50, Try.ntmps50
  go_wp2
  go_loop [2, 3, 8] (fun r last i => RisesRel l r last i) (fun _ _ i => l.length - (intOf i).toNat)
  case atStart => exact ⟨rfl, 0, -1, by omega, rfl, rfl, rfl⟩
  case round =>
    obtain ⟨rfl, k, x, hk, rfl, rfl, hx⟩ := hrel
    by_cases hlt : k < l.length
    · obtain ⟨b1, o1, e1, _, hc1⟩ := row_int' HR.out hlt
      subst e1
      rw [risesZ_drop hlt] at hx
      obtain ⟨y, hy⟩ : ∃ y, y = l.getD k 0 := ⟨_, rfl⟩
      rw [← hy] at hc1 hx
      clear hy
      by_cases hxy : y ≤ x
      · rw [decide_eq_false (by omega), Bool.false_and, ← HA.out] at hx
        subst hx
        go_wp2
        go_ret
        exact ⟨rfl, rfl⟩
      · rw [decide_eq_true (by omega), Bool.true_and] at hx
        have HX := Lib.hid hx
        clear hx
        go_wp2
        go_round
        case rel => exact ⟨rfl, k + 1, y, by omega, by go_num, rfl, HX.out⟩
        case measure => simp [intOf]; omega
    · rw [risesZ_end (by omega), ← HA.out] at hx
      subst hx
      go_wp2
      go_ret
      exact ⟨rfl, rfl⟩

end Go.Proofs.Ytfhjnblcnkjooaa
