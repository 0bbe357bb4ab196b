/- Counting, ranks, the next number, the lowest bit of a word: of lists of words. No program. -/
import Derived.Test.YtkflmhpmnceniaaDoorPop03
set_option linter.unusedVariables false
namespace Go.Proofs.YtkflmhpmnceniaaDoor.Plain

/-- How many numbers words have. -/
def countW (ws : List Wd) : Nat := (ws.map fun p => pop p.2).sum
theorem elemW_length (p : Wd) : (elemW p).length = pop p.2 := by simp [elemW, pop]
theorem countW_eq : ∀ ws : List Wd, countW ws = (elems ws).length
  | [] => rfl
  | p :: ws => by
    have ih := countW_eq ws
    unfold countW elems at ih ⊢
    rw [List.map_cons, List.sum_cons, ih, List.flatMap_cons, List.length_append, elemW_length]
theorem countW_take {ws : List Wd} {k : Nat} (hk : k < ws.length) : countW (ws.take (k + 1)) = countW (ws.take k) + pop (ws[k]'hk).2 := by
  unfold countW
  rw [List.take_succ_eq_append_getElem hk, List.map_append, List.sum_append]
  simp
theorem countW_le : ∀ ws : List Wd, countW ws ≤ 64 * ws.length
  | [] => by simp [countW]
  | p :: ws => by
    have ih := countW_le ws
    have h1 := pop_le p.2
    unfold countW at ih ⊢
    rw [List.map_cons, List.sum_cons, List.length_cons]
    omega
theorem elems_append (a b : List Wd) : elems (a ++ b) = elems a ++ elems b := by simp [elems]
theorem elems_cons (p : Wd) (b : List Wd) : elems (p :: b) = elemW p ++ elems b := by simp [elems]

theorem elemW_ge {p : Wd} {i x : Nat} (h : i ∈ elemW p) : p.1 * 64 ≤ i := (elemW_bounds h).1
theorem bitsOf_low (x m : Nat) (hm : m < 64) : bitsOf (x &&& (2 ^ m - 1)) = (bitsOf x).filter fun j => decide (j < m) := by
  unfold bitsOf
  rw [List.filter_filter]
  congr 1
  funext j
  rw [Nat.testBit_and, Nat.testBit_two_pow_sub_one, Bool.and_comm]
theorem bitsOf_high (x m : Nat) (hm : m < 64) : bitsOf (andn x (2 ^ m - 1)) = (bitsOf x).filter fun j => decide (m ≤ j) := by
  unfold bitsOf
  rw [List.filter_filter]
  congr 1
  funext j
  rw [andn_bit, Nat.testBit_two_pow_sub_one, Bool.and_comm]
  congr 1
  rw [Bool.eq_iff_iff]
  simp

/-! ### Ranks -/

theorem rank_word {p : Wd} {i : Nat} : (elemW p).countP (fun k => decide (k < i)) = if p.1 < i / 64 then pop p.2 else if p.1 = i / 64 then pop (p.2 &&& (2 ^ (i % 64) - 1)) else 0 := by
  have hm : i % 64 < 64 := Nat.mod_lt _ (by decide)
  split
  · rename_i h
    rw [List.countP_eq_length.2, elemW_length]
    intro k hk
    have := elemW_bounds hk
    simp
    omega
  · rename_i h
    split
    · rename_i h2
      unfold elemW pop
      rw [bitsOf_low _ _ hm, List.countP_map, List.countP_eq_length_filter]
      congr 2
      funext j
      simp only [Function.comp, decide_eq_decide]
      omega
    · rename_i h2
      rw [List.countP_eq_zero]
      intro k hk
      have := elemW_bounds hk
      simp
      omega
theorem rank_low : ∀ (ws : List Wd) (i : Nat), (∀ p ∈ ws, p.1 < i / 64) → (elems ws).countP (fun k => decide (k < i)) = countW ws
  | [], i, _ => rfl
  | p :: ws, i, h => by
    rw [elems_cons, List.countP_append, rank_word, if_pos (h p (by simp)), rank_low ws i fun q hq => h q (by simp [hq])]
    simp [countW]
theorem rank_high : ∀ (ws : List Wd) (i : Nat), (∀ p ∈ ws, i / 64 < p.1) → (elems ws).countP (fun k => decide (k < i)) = 0
  | [], i, _ => rfl
  | p :: ws, i, h => by
    have h1 := h p (by simp)
    rw [elems_cons, List.countP_append, rank_word, if_neg (by omega), if_neg (by omega), rank_high ws i fun q hq => h q (by simp [hq])]
theorem split_pos {n : Nat} {ws : List Wd} (h : WS n ws) (a : Nat) :
    (∀ p ∈ ws.take (posW ws a), p.1 < a) ∧ (∀ p ∈ ws.drop (posW ws a), a ≤ p.1) := by
  have hs := posW_split ws h.asc a
  refine ⟨fun p hp => ?_, fun p hp => ?_⟩
  · obtain ⟨i, hi⟩ := List.getElem?_of_mem hp
    rw [List.getElem?_take] at hi
    split at hi
    · rename_i hlt
      exact (hs i p hi).1 hlt
    · cases hi
  · obtain ⟨i, hi⟩ := List.getElem?_of_mem hp
    rw [List.getElem?_drop] at hi
    apply Nat.le_of_not_lt
    intro hc
    have := (hs _ p hi).2 hc
    omega
/-- What 'Rank' reckons. -/
theorem rank_eq {n : Nat} {ws : List Wd} (h : WS n ws) (i : Nat) :
    (elems ws).countP (fun k => decide (k < i)) = countW (ws.take (posW ws (i / 64))) + pop (getW ws (i / 64) &&& (2 ^ (i % 64) - 1)) := by
  obtain ⟨h1, h2⟩ := split_pos h (i / 64)
  have e : elems ws = elems (ws.take (posW ws (i / 64))) ++ elems (ws.drop (posW ws (i / 64))) := by rw [← elems_append, List.take_append_drop]
  rw [e, List.countP_append, rank_low _ _ h1]
  congr 1
  cases hk : keptW ws (i / 64)
  · rw [getW_not h.asc hk, Nat.zero_and]
    have h3 : ∀ p ∈ ws, p.1 ≠ i / 64 := fun p hp e => by rw [(keptW_iff h.asc _).2 ⟨p, hp, e⟩] at hk; cases hk
    rw [rank_high _ _ fun p hp => by have := h2 p hp; have := h3 p (List.mem_of_mem_drop hp); omega]
    decide
  · obtain ⟨x, hx, hlt⟩ := keptW_at hk
    rw [getW_kept h hx]
    have hx2 : ws[posW ws (i / 64)]'hlt = (i / 64, x) := (List.getElem?_eq_some_iff.1 hx).2
    rw [List.drop_eq_getElem_cons hlt, hx2, elems_cons, List.countP_append, rank_word]
    simp only [Nat.lt_irrefl, if_false, if_true]
    rw [rank_high, Nat.add_zero]
    intro p hp
    obtain ⟨j, hj⟩ := List.getElem?_of_mem hp
    rw [List.getElem?_drop] at hj
    obtain ⟨hjl, hje⟩ := List.getElem?_eq_some_iff.1 hj
    have := List.pairwise_iff_getElem.1 h.asc (posW ws (i / 64)) (posW ws (i / 64) + 1 + j) hlt hjl (by omega)
    rw [hx2, hje] at this
    exact this

/-! ### The lowest bit -/

theorem ctz_bit {y : Nat} (hy : y < 18446744073709551616) (h0 : y ≠ 0) : ∃ m, y = 2 ^ Lib.ctz 64 y * (2 * m + 1) ∧ Lib.ctz 64 y < 64 := by
  obtain ⟨m, hm, hk⟩ := Lib.ctzFrom_spec 64 y (by omega) hy
  have e : Lib.ctz 64 y = Lib.ctzFrom 64 y := by simp [Lib.ctz, h0]
  rw [e]
  exact ⟨m, hm, hk⟩
theorem odd_bits (k m j : Nat) : (2 ^ k * (2 * m + 1)).testBit j = (decide (k ≤ j) && (j == k || m.testBit (j - k - 1))) := by
  rw [Nat.testBit_two_pow_mul]
  by_cases h : k ≤ j
  · simp only [h, decide_true, Bool.true_and]
    obtain ⟨d, rfl⟩ : ∃ d, j = k + d := ⟨j - k, by omega⟩
    cases d with
    | zero => simp
    | succ d =>
      rw [show k + (d + 1) - k = d + 1 by omega, Nat.testBit_succ, show (2 * m + 1) / 2 = m by omega]
      simp
  · simp [h]
theorem even_bits (k m j : Nat) : (2 ^ k * (2 * m) + (2 ^ k - 1)).testBit j = (decide (j < k) || (decide (k < j) && m.testBit (j - k - 1))) := by
  have hp : 2 ^ k - 1 < 2 ^ k := by have := Nat.two_pow_pos k; omega
  rw [Nat.testBit_two_pow_mul_add _ hp]
  by_cases h : j < k
  · simp [h, Nat.testBit_two_pow_sub_one]
  · simp only [h, if_false, decide_false, Bool.false_or]
    obtain ⟨d, rfl⟩ : ∃ d, j = k + d := ⟨j - k, by omega⟩
    cases d with
    | zero => simp
    | succ d =>
      rw [show k + (d + 1) - k = d + 1 by omega, Nat.testBit_succ, show (2 * m) / 2 = m by omega]
      simp
theorem low_bit {y : Nat} (hy : y < 18446744073709551616) (h0 : y ≠ 0) (j : Nat) :
    (y &&& (y - 1)).testBit j = (y.testBit j && !(j == Lib.ctz 64 y)) ∧ (y.testBit j = true → Lib.ctz 64 y ≤ j) ∧ y.testBit (Lib.ctz 64 y) = true := by
  obtain ⟨m, hm, hk⟩ := ctz_bit hy h0
  generalize Lib.ctz 64 y = k at *
  have hp := Nat.two_pow_pos k
  have e : y - 1 = 2 ^ k * (2 * m) + (2 ^ k - 1) := by
    rw [hm, Nat.mul_add, Nat.mul_one]
    omega
  rw [Nat.testBit_and, e, even_bits]
  rw [hm, odd_bits, odd_bits]
  refine ⟨?_, fun h => ?_, by simp⟩
  · by_cases h1 : j < k
    · simp [show ¬ k ≤ j by omega]
    · by_cases h2 : j = k
      · subst h2; simp
      · have h3 : (j == k) = false := by simpa using h2
        simp [show k ≤ j by omega, show k < j by omega, h3, show ¬ j < k by omega]
  · simp only [Bool.and_eq_true, decide_eq_true_eq] at h
    exact h.1
/-- The lowest one, then those of the word without it. -/
theorem bitsOf_step {y : Nat} (hy : y < 18446744073709551616) (h0 : y ≠ 0) : bitsOf y = Lib.ctz 64 y :: bitsOf (y &&& (y - 1)) := by
  have hl := low_bit hy h0
  have hk := (ctz_bit hy h0).choose_spec.2
  refine asc_ext _ _ (bitsOf_asc y) ?_ fun j => ?_
  · rw [List.pairwise_cons]
    refine ⟨fun j hj => ?_, bitsOf_asc _⟩
    rw [bitsOf_mem, (hl j).1] at hj
    simp only [Bool.and_eq_true, Bool.not_eq_true', beq_eq_false_iff_ne, ne_eq] at hj
    have := (hl j).2.1 hj.2.1
    omega
  · rw [List.mem_cons, bitsOf_mem, bitsOf_mem, (hl j).1]
    simp only [Bool.and_eq_true, Bool.not_eq_true', beq_eq_false_iff_ne, ne_eq]
    constructor
    · rintro ⟨h1, h2⟩
      by_cases h3 : j = Lib.ctz 64 y
      · exact .inl h3
      · exact .inr ⟨h1, h2, h3⟩
    · rintro (rfl | ⟨h1, h2, _⟩)
      · exact ⟨hk, (hl 0).2.2⟩
      · exact ⟨h1, h2⟩
theorem elemW_step {a y : Nat} (hy : y < 18446744073709551616) (h0 : y ≠ 0) : elemW (a, y) = (a * 64 + Lib.ctz 64 y) :: elemW (a, y &&& (y - 1)) := by
  unfold elemW
  rw [bitsOf_step hy h0]
  rfl
theorem elemW_zero (a : Nat) : elemW (a, 0) = [] := by
  unfold elemW bitsOf
  simp
theorem low_lt {y : Nat} (h0 : y ≠ 0) : y &&& (y - 1) < y := by
  have : y &&& (y - 1) ≤ y - 1 := Nat.and_le_right
  omega

/-! ### The next one -/

/-- What is left of a word from i on. -/
def fromW (p : Wd) (i : Nat) : Nat := if p.1 = i / 64 then andn p.2 (2 ^ (i % 64) - 1) else p.2
theorem next_word {p : Wd} {i : Nat} (h : i / 64 ≤ p.1) : (elemW p).filter (fun k => decide (i ≤ k)) = elemW (p.1, fromW p i) := by
  have hm : i % 64 < 64 := Nat.mod_lt _ (by decide)
  unfold fromW
  split
  · rename_i h2
    unfold elemW
    simp only
    rw [bitsOf_high _ _ hm, List.filter_map]
    congr 2
    funext j
    simp only [Function.comp, decide_eq_decide]
    omega
  · rename_i h2
    rw [List.filter_eq_self]
    intro k hk
    have := elemW_bounds hk
    simp
    omega
/-- The first one that is not below i, of words from k on. -/
def firstFrom (ws : List Wd) (i : Nat) : Int := match (elems ws).find? (fun k => decide (i ≤ k)) with | some k => (k : Int) | none => -1
theorem firstFrom_low {n : Nat} {ws : List Wd} (h : WS n ws) (i : Nat) : firstFrom ws i = firstFrom (ws.drop (posW ws (i / 64))) i := by
  obtain ⟨h1, _⟩ := split_pos h (i / 64)
  unfold firstFrom
  have e : elems ws = elems (ws.take (posW ws (i / 64))) ++ elems (ws.drop (posW ws (i / 64))) := by rw [← elems_append, List.take_append_drop]
  rw [e, List.find?_append]
  have : (elems (ws.take (posW ws (i / 64)))).find? (fun k => decide (i ≤ k)) = none := by
    rw [List.find?_eq_none]
    intro k hk
    obtain ⟨p, hp, hk⟩ := List.mem_flatMap.1 hk
    have := elemW_bounds hk
    have := h1 p hp
    simp
    omega
  rw [this]
  rfl
theorem firstFrom_step {ws : List Wd} {k i : Nat} (hk : k < ws.length) (hp : i / 64 ≤ (ws[k]'hk).1) (h0 : fromW (ws[k]'hk) i = 0) : firstFrom (ws.drop k) i = firstFrom (ws.drop (k + 1)) i := by
  unfold firstFrom
  rw [List.drop_eq_getElem_cons hk, elems_cons, List.find?_append]
  have : (elemW ws[k]).find? (fun k => decide (i ≤ k)) = none := by
    rw [← List.head?_filter, next_word hp, h0, elemW_zero]
    rfl
  rw [this]
  rfl
theorem firstFrom_hit {ws : List Wd} {k i : Nat} (hk : k < ws.length) (hp : i / 64 ≤ (ws[k]'hk).1) (h0 : fromW (ws[k]'hk) i ≠ 0) (hf : fromW (ws[k]'hk) i < 18446744073709551616) :
    firstFrom (ws.drop k) i = (((ws[k]'hk).1 * 64 + Lib.ctz 64 (fromW (ws[k]'hk) i) : Nat) : Int) := by
  unfold firstFrom
  rw [List.drop_eq_getElem_cons hk, elems_cons, List.find?_append]
  have : (elemW ws[k]).find? (fun k => decide (i ≤ k)) = some ((ws[k]'hk).1 * 64 + Lib.ctz 64 (fromW (ws[k]'hk) i)) := by
    rw [← List.head?_filter, next_word hp, elemW_step hf h0]
    rfl
  rw [this]
  rfl
theorem fromW_fits {p : Wd} {i : Nat} (h : p.2 < 18446744073709551616) : fromW p i < 18446744073709551616 := by
  unfold fromW
  split
  · exact Nat.lt_of_le_of_lt (andn_le _ _) h
  · exact h

/-! ### In the words of truths -/

theorem Rep.count {r : List Bool} {ws : List Wd} (h : Rep r ws) : countW ws = (ones r).length := by rw [countW_eq, elems_eq h]
theorem Rep.rank {r : List Bool} {ws : List Wd} (h : Rep r ws) (i : Nat) : countW (ws.take (posW ws (i / 64))) + pop (getW ws (i / 64) &&& (2 ^ (i % 64) - 1)) = rankB r i := by
  rw [← rank_eq h.wds, elems_eq h]
  unfold rankB
  congr 1
  funext k
  simp
theorem Rep.next {r : List Bool} {ws : List Wd} (h : Rep r ws) (i : Nat) : firstFrom ws i = nextB r i := by
  unfold firstFrom nextB
  rw [elems_eq h]
  congr 1
  congr 1
  funext k
  simp
theorem rankB_neg (r : List Bool) (i : Int) (h : i ≤ 0) : rankB r i = rankB r 0 := by
  unfold rankB
  rw [List.countP_eq_zero.2 (fun k _ => by simp; omega), List.countP_eq_zero.2 (fun k _ => by simp)]
theorem nextB_neg (r : List Bool) (i : Int) (h : i ≤ 0) : nextB r i = nextB r 0 := by
  unfold nextB
  have e : (fun k : Nat => decide (i ≤ (k : Int))) = fun k : Nat => decide ((0 : Int) ≤ (k : Int)) := by
    funext k
    have h1 : i ≤ (k : Int) := by omega
    have h2 : (0 : Int) ≤ (k : Int) := by omega
    simp [h1, h2]
  rw [e]
theorem ones_length (r : List Bool) : (ones r).length ≤ r.length := by
  unfold ones
  exact Nat.le_trans (List.length_filter_le _ _) (by simp)
theorem rankB_le (r : List Bool) (i : Int) : rankB r i ≤ r.length := Nat.le_trans List.countP_le_length (ones_length r)
end Go.Proofs.YtkflmhpmnceniaaDoor.Plain
