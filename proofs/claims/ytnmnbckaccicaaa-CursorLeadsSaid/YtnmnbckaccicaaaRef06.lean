/- What the document's own answers of layer 6 are: a place in postings. -/
import Derived.Test.YtnmnbckaccicaaaPlain06
import Derived.Test.YtnmnbckaccicaaaP05
import Derived.Laws.Rows
set_option linter.unusedVariables false
namespace Go.Proofs.Ytnmnbckaccicaaa
open Go Go.RowKit

/-- What a call gives that tells places. -/
def GavePl (ps : List Int) (w : World) (e : Ending) (w' : World) : Prop := ∃ A' c', e = .returned (.slice A' ps.length c') ∧ Row w' w'.heap.size A' (ints ps) ∧ Below w.heap.size w w'
/-- A place in postings, as a value. -/
def curV (A : Option Addr) (n c : Nat) (i : Int) : Value := .agg #[.slice A n c, .int .i64 i]

set_option maxHeartbeats 1000000 in
set_option maxRecDepth 100000 in
theorem ref06_New (A : Option Addr) (n c : Nat) (w : World) :
    Calls Try.prog 11 #[.slice A n c] w fun e w' => e = .returned (curV A n c (-1)) ∧ Below w.heap.size w w' := by
  unfold curV
  go_enter Try.func11, Try.ntmps11
  go_wp2
  refine bodyPost_ret (results_cell_row (P := Try.prog) rfl _ _ w.heap.size 32 _ (0, 0) _ rfl (by first | rfl | exact heap_alloc_new _ _) Try.underlying32 rfl (by kernel_rfl)) rfl ?_
  exact ⟨rfl, by repeat (first | exact (Below.refl _ _).alloc (Nat.le_refl _) _ | refine Below.setCell ?_ (by simp) _)⟩

set_option maxHeartbeats 1000000 in
set_option maxRecDepth 100000 in
theorem ref06_Doc (A : Option Addr) (n c : Nat) (g : List Po) (i : Int) (w : World) (hn : g.length = n) (hnx : n ≤ 1000000) (hpo : Posts w w.heap.size A g) (h0 : -1 ≤ i) (h1 : i ≤ (n : Int)) :
    Calls Try.prog 17 #[curV A n c i] w fun e w' => e = .returned (.int .i64 (docC g i)) ∧ Below w.heap.size w w' := by
  subst hn
  unfold curV
  have hbl : ∀ o, Below w.heap.size w (w.alloc o) := fun o => (Below.refl _ w).alloc (Nat.le_refl _) o
  by_cases hneg : i < 0
  · obtain rfl : i = -1 := by omega
    rw [docC_ahead (by omega)]
    go_enter Try.func17, Try.ntmps17
    go_wp2
    go_ret
    exact ⟨rfl, hbl _⟩
  · obtain ⟨k, rfl⟩ : ∃ k : Nat, i = (k : Int) := ⟨i.toNat, by omega⟩
    have hd0 : decide ((k : Int) < 0) = false := decide_eq_false (by omega)
    by_cases hk : k < g.length
    · obtain ⟨b, off, rfl, hb, hc, _⟩ := hpo.at_ hk
      rw [docC_at hk]
      obtain ⟨y, hy⟩ : ∃ y, y = (g.getD k (0, [])).1 := ⟨_, rfl⟩
      rw [← hy] at hc ⊢
      have hca : ∀ o, (w.alloc o).cell? ⟨b, off + k * 2, none⟩ = some (.int .i64 y) := fun o => ((hbl o).cell (p := ⟨b, off + k * 2, none⟩) hb).trans hc
      have hd1 : decide ((g.length : Int) ≤ (k : Int)) = false := decide_eq_false (by omega)
      obtain ⟨n, hn⟩ : ∃ n, n = g.length := ⟨_, rfl⟩
      rw [← hn] at hk hd1 hnx h1
      rw [← hn]
      clear hy hpo hn hc
      go_enter Try.func17, Try.ntmps17
      go_wp2
      go_ret
      exact ⟨rfl, hbl _⟩
    · rw [docC_behind (by omega) (by omega)]
      have hd1 : decide ((g.length : Int) ≤ (k : Int)) = true := decide_eq_true (by omega)
      clear hpo
      go_enter Try.func17, Try.ntmps17
      go_wp2
      go_ret
      exact ⟨rfl, hbl _⟩

set_option maxHeartbeats 1000000 in
set_option maxRecDepth 100000 in
theorem ref06_Places (A : Option Addr) (n c : Nat) (g : List Po) (i : Int) (w : World) (hn : g.length = n) (hnx : n ≤ 1000000) (hpo : Posts w w.heap.size A g) (h0 : -1 ≤ i) (h1 : i ≤ (n : Int)) :
    Calls Try.prog 31 #[curV A n c i] w (GavePl (placesC g i) w) := by
  subst hn
  unfold curV
  have hbl : ∀ o, Below w.heap.size w (w.alloc o) := fun o => (Below.refl _ w).alloc (Nat.le_refl _) o
  by_cases hneg : i < 0
  · obtain rfl : i = -1 := by omega
    rw [placesC_none (by omega)]
    go_enter Try.func31, Try.ntmps31
    go_wp2
    go_ret
    exact ⟨_, _, rfl, Row.nil, hbl _⟩
  · obtain ⟨k, rfl⟩ : ∃ k : Nat, i = (k : Int) := ⟨i.toNat, by omega⟩
    have hd0 : decide ((k : Int) < 0) = false := decide_eq_false (by omega)
    by_cases hk : k < g.length
    · obtain ⟨b, off, rfl, hb, _, A', c', hc, _, _, hr⟩ := hpo.at_ hk
      rw [placesC_at hk]
      obtain ⟨ps, hps⟩ : ∃ ps, ps = (g.getD k (0, [])).2 := ⟨_, rfl⟩
      rw [← hps] at hc hr ⊢
      obtain ⟨m, hm⟩ : ∃ m, m = ps.length := ⟨_, rfl⟩
      rw [← hm] at hc
      have HM := Lib.hid hm
      have hca : ∀ o, (w.alloc o).cell? ⟨b, off + k * 2 + 1, none⟩ = some (.slice A' m c') := fun o => ((hbl o).cell (p := ⟨b, off + k * 2 + 1, none⟩) hb).trans hc
      have hd1 : decide ((g.length : Int) ≤ (k : Int)) = false := decide_eq_false (by omega)
      have HR := Lib.hid (fun o => (hr.below (hbl o)).more (hbl o).size)
      obtain ⟨n, hn⟩ : ∃ n, n = g.length := ⟨_, rfl⟩
      rw [← hn] at hk hd1 hnx h1
      rw [← hn]
      clear hps hpo hn hc hr hm
      go_enter Try.func31, Try.ntmps31
      go_wp2
      go_ret
      refine ⟨A', c', ?_, HR.out _, hbl _⟩
      rw [← HM.out]
      rfl
    · rw [placesC_none (by omega)]
      have hd1 : decide ((g.length : Int) ≤ (k : Int)) = true := decide_eq_true (by omega)
      clear hpo
      go_enter Try.func31, Try.ntmps31
      go_wp2
      go_ret
      exact ⟨_, _, rfl, Row.nil, hbl _⟩

set_option maxHeartbeats 1000000 in
set_option maxRecDepth 100000 in
theorem ref06_Next (A : Option Addr) (n c : Nat) (g : List Po) (i : Int) (w : World) (hn : g.length = n) (hnx : n ≤ 1000000) (h0 : -1 ≤ i) (h1 : i ≤ (n : Int)) :
    Calls Try.prog 14 #[curV A n c i] w fun e w' => e = .returned (curV A n c (nextC g i)) ∧ Below w.heap.size w w' := by
  unfold curV nextC
  subst hn
  by_cases hlt : i < (g.length : Int)
  · rw [if_pos hlt]
    go_enter Try.func14, Try.ntmps14
    go_wp2
    refine bodyPost_ret (results_cell_row (P := Try.prog) rfl _ _ (w.heap.size + 1) 32 _ (0, 0) _ rfl (heap_alloc2_new _ _ _) Try.underlying32 rfl (by kernel_rfl)) rfl ?_
    exact ⟨rfl, ((Below.refl _ w).alloc (Nat.le_refl _) _).alloc (by simp) _⟩
  · rw [if_neg hlt]
    go_enter Try.func14, Try.ntmps14
    go_wp2
    refine bodyPost_ret (results_cell_row (P := Try.prog) rfl _ _ (w.heap.size + 1) 32 _ (0, 0) _ rfl (heap_alloc2_new _ _ _) Try.underlying32 rfl (by kernel_rfl)) rfl ?_
    exact ⟨rfl, ((Below.refl _ w).alloc (Nat.le_refl _) _).alloc (by simp) _⟩
end Go.Proofs.Ytnmnbckaccicaaa
