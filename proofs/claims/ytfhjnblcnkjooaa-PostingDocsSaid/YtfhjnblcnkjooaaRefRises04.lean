/- What the document's own Rises of layer 4 answers. -/
import Derived.Test.YtfhjnblcnkjooaaBytes04
import Derived.BigCall
import Derived.BigQuiet
import Derived.Deep.QuietTactic
namespace Go.Proofs.Ytfhjnblcnkjooaa
open Go Go.RowKit
set_option linter.unusedVariables false

/-- The number ahead of place k: -1 ahead of the first. -/
def ahead (l : List Int) (k : Nat) : Int := if k = 0 then -1 else l.getD (k - 1) 0
theorem ahead_succ {l : List Int} {k : Nat} : ahead l (k + 1) = l.getD k 0 := by simp [ahead]
theorem risesZ_drop {l : List Int} {k : Nat} (hk : k < l.length) (last : Int) : risesZ last (l.drop k) = (decide (last < l.getD k 0) && risesZ (l.getD k 0) (l.drop (k + 1))) := by
  rw [List.drop_eq_getElem_cons hk, risesZ, List.getD_eq_getElem?_getD, List.getElem?_eq_getElem hk]
  rfl
theorem risesZ_end {l : List Int} {k : Nat} (hk : l.length ≤ k) (last : Int) : risesZ last (l.drop k) = true := by rw [List.drop_eq_nil_of_le hk]; rfl
theorem row_int' {w : World} {B : Nat} {A : Option Addr} {xs : List Int} (h : Row w B A (ints xs)) {k : Nat} (hk : k < xs.length) :
    ∃ b off, A = some ⟨b, off, none⟩ ∧ b < B ∧ w.cell? ⟨b, off + k, none⟩ = some (.int .i64 (xs.getD k 0)) := by
  obtain ⟨b, off, h1, h2, h3⟩ := row_int h hk
  refine ⟨b, off, h1, h2, ?_⟩
  rw [h3, List.getD_eq_getElem?_getD, List.getElem?_eq_getElem hk]
  rfl

def RefRisesRel (l : List Int) (r i : Value) : Prop := r = .bool false ∧ ∃ (k : Nat), k ≤ l.length ∧ i = .int .i64 (k : Int) ∧ risesZ (ahead l k) (l.drop k) = risesZ (-1) l ∧ -1 ≤ ahead l k

set_option maxHeartbeats 1000000 in
set_option maxRecDepth 100000 in
theorem ref_Rises (A : Option Addr) (m c : Nat) (l : List Int) (w : World) (hr : Row w w.heap.size A (ints l)) (hm : l.length = m) (hl : m ≤ 1073741824) :
    Calls Try.prog 23 #[.slice A m c] w fun e w' => e = .returned (.bool (risesZ (-1) l)) ∧ Below w.heap.size w w' := by
  have HR := Lib.hid hr
  clear hr
  subst hm
  obtain ⟨ans, hans⟩ : ∃ ans, ans = risesZ (-1) l := ⟨_, rfl⟩
  rw [← hans]
  have HA := Lib.hid hans
  clear hans
  go_enter Try.func23, Try.ntmps23
  go_wp2
  go_loopw [2, 3] (fun r i wr => RefRisesRel l r i ∧ Below w.heap.size w wr) (fun _ i _ => l.length - (intOf i).toNat)
  case atStart => exact ⟨⟨rfl, 0, by omega, rfl, rfl, by simp [ahead]⟩, Below.refl _ _⟩
  case round =>
    obtain ⟨⟨rfl, k, hk, rfl, hx, hx1⟩, hbw⟩ := hrel
    by_cases hlt : k < l.length
    · obtain ⟨b1, o1, e1, _, hc1⟩ := row_int' (HR.out.below hbw) hlt
      subst e1
      have hc0 : 0 < k → wr.cell? ⟨b1, o1 + (k - 1), none⟩ = some (.int .i64 (ahead l k)) := fun h => by
        obtain ⟨b2, o2, e2, _, hc2⟩ := row_int' (HR.out.below hbw) (k := k - 1) (by omega)
        injection e2 with e2
        injection e2 with e3 e4
        subst e3 e4
        rw [hc2]
        simp [ahead]
        omega
      have ha0 : k = 0 → ahead l k = -1 := fun h => by simp [ahead, h]
      rw [risesZ_drop hlt] at hx
      have hs := ahead_succ (l := l) (k := k)
      obtain ⟨y, hy⟩ : ∃ y, y = l.getD k 0 := ⟨_, rfl⟩
      rw [← hy] at hc1 hx hs
      obtain ⟨x, hxx⟩ : ∃ x, x = ahead l k := ⟨_, rfl⟩
      rw [← hxx] at hx hx1 hc0 ha0
      have HS := Lib.hid hs
      clear hy hs hxx
      by_cases hxy : y ≤ x
      · rw [decide_eq_false (by omega), Bool.false_and, ← HA.out] at hx
        subst hx
        by_cases hy0 : y < 0
        · go_wp2
          go_quiet (fail)
          go_wp2
          go_ret
          exact ⟨rfl, hbw.trans ⟨rfl, rfl, rfl, Nat.le_refl _, fun _ _ => rfl⟩⟩
        · have hyb : decide (y < 0) = false := decide_eq_false hy0
          have hk0 : 0 < k := by
            rcases Nat.eq_zero_or_pos k with h | h
            · have := ha0 h; omega
            · exact h
          have hcp := hc0 hk0
          obtain ⟨j, hj⟩ : ∃ j, j = k - 1 := ⟨_, rfl⟩
          have hw : IntKind.i64.wrap ((k : Int) - 1) = (j : Int) := by rw [IntWalk.i64_in _ (by omega)]; omega
          have hjl : j < l.length := by omega
          rw [← hj] at hcp
          clear hc0 ha0 hj
          go_wp2
          go_quiet (fail)
          go_wp2
          go_ret
          exact ⟨rfl, hbw.trans ⟨rfl, rfl, rfl, Nat.le_refl _, fun _ _ => rfl⟩⟩
      · rw [decide_eq_true (by omega), Bool.true_and] at hx
        have HX := Lib.hid hx
        clear hx
        have hy0 : ¬ y < 0 := by omega
        have hyb : decide (y < 0) = false := decide_eq_false hy0
        rcases Nat.eq_zero_or_pos k with hk0 | hk0
        · clear hc0 ha0
          subst hk0
          rw [Nat.add_zero] at hc1
          go_wp2
          go_quiet (fail)
          go_wp2
          go_roundw
          case rel => exact ⟨⟨rfl, 0 + 1, by omega, by go_num, by rw [HS.out]; exact HX.out, by rw [HS.out]; omega⟩, hbw.trans ⟨rfl, rfl, rfl, Nat.le_refl _, fun _ _ => rfl⟩⟩
          case measure => simp [intOf]; omega
        · have hcp := hc0 hk0
          obtain ⟨j, hj⟩ : ∃ j, j = k - 1 := ⟨_, rfl⟩
          have hw : IntKind.i64.wrap ((k : Int) - 1) = (j : Int) := by rw [IntWalk.i64_in _ (by omega)]; omega
          have hjl : j < l.length := by omega
          rw [← hj] at hcp
          clear hc0 ha0 hj
          go_wp2
          go_quiet (fail)
          go_wp2
          go_roundw
          case rel => exact ⟨⟨rfl, k + 1, by omega, by go_num, by rw [HS.out]; exact HX.out, by rw [HS.out]; omega⟩, hbw.trans ⟨rfl, rfl, rfl, Nat.le_refl _, fun _ _ => rfl⟩⟩
          case measure => simp [intOf]; omega
    · rw [risesZ_end (by omega), ← HA.out] at hx
      subst hx
      go_wp2
      go_ret
      exact ⟨rfl, hbw⟩
end Go.Proofs.Ytfhjnblcnkjooaa
