/- Where Advance leads, block by block. No program. -/
import Derived.Test.YtnmnbckaccicaaaPlain06
import Derived.Test.YtnmnbckaccicaaaP05
set_option linter.unusedVariables false
namespace Go.Proofs.Ytnmnbckaccicaaa

theorem docOf_last : ∀ (l : List Po) (x : Int), l ≠ [] → docOf x l = (l.getD (l.length - 1) (0, [])).1
  | [], _, h => absurd rfl h
  | [p], _, _ => rfl
  | p :: q :: r, x, _ => by
    have ih := docOf_last (q :: r) p.1 (by simp)
    rw [docOf, ih]
    simp only [List.length_cons, Nat.add_sub_cancel]
    rw [List.getD_cons_succ]
theorem doc_mono : ∀ {g : List Po} {x : Int}, mayB' x g = true → ∀ {i j : Nat}, i < j → j < g.length → (g.getD i (0, [])).1 < (g.getD j (0, [])).1
  | [], _, _, i, j, _, hj => by simp at hj
  | p :: r, x, h, 0, j + 1, _, hj => by
    obtain ⟨_, _, _, h4⟩ := mayB'_cons.1 h
    have hj' : j < r.length := by simpa using hj
    rw [List.getD_cons_succ, List.getD_cons_zero]
    refine (may_memC h4 _ ?_).1
    rw [List.getD_eq_getElem?_getD, List.getElem?_eq_getElem hj']
    exact List.getElem_mem hj'
  | p :: r, x, h, i + 1, j + 1, hij, hj => by
    obtain ⟨_, _, _, h4⟩ := mayB'_cons.1 h
    rw [List.getD_cons_succ, List.getD_cons_succ]
    exact doc_mono h4 (by omega) (by simpa using hj)
theorem docC_mono {g : List Po} (h : mayB' (-1) g = true) {i j : Nat} (hij : i ≤ j) (hj : j < g.length) : docC g (i : Int) ≤ docC g (j : Int) := by
  rcases Nat.lt_or_ge i j with hl | hl
  · rw [docC_at (by omega), docC_at hj]
    have := doc_mono h hl hj
    omega
  · obtain rfl : i = j := by omega
    exact Int.le_refl _
theorem getD_take {g : List Po} {n k : Nat} (h : k < n) : (g.take n).getD k (0, []) = g.getD k (0, []) := by
  rw [List.getD_eq_getElem?_getD, List.getD_eq_getElem?_getD, List.getElem?_take, if_pos h]
/-- A block's last document is that of its last posting. -/
theorem lastP_doc {g : List Po} {k : Nat} (hk : k < blocksP g.length) : lastP g (k : Int) = docC g ((8 * k + (blockP g (k : Int)).length - 1 : Nat) : Int) := by
  have hp := blockP_some hk
  have hl := blockP_length (l := g) k
  have e : (g.take (8 * (k + 1))).length = 8 * k + (blockP g (k : Int)).length := by rw [List.length_take, hl]; unfold blocksP at hk; omega
  rw [lastP_end hk, docOf_last _ _ (by intro h; rw [h] at e; simp at e; omega), e, getD_take (by omega), docC_at (by omega)]
theorem block_at {g : List Po} {k j : Nat} (hj : j < (blockP g (k : Int)).length) : k < blocksP g.length ∧ 8 * k + j < g.length ∧ (blockP g (k : Int)).drop j = g.getD (8 * k + j) (0, []) :: (blockP g (k : Int)).drop (j + 1) := by
  have hl := blockP_length (l := g) k
  have h2 : 8 * k + j < g.length := by omega
  refine ⟨by unfold blocksP; omega, h2, ?_⟩
  rw [drop_poA hj]
  congr 1
  rw [blockP_nat, getD_take (by omega), List.getD_eq_getElem?_getD, List.getD_eq_getElem?_getD, List.getElem?_drop]

/-- Where Advance leads is told by what it passes. -/
theorem advC_is {g : List Po} {doc : Int} : ∀ (n : Nat) (i j : Int), (j - i).toNat = n → i ≤ j → j ≤ (g.length : Int) → (∀ k, i ≤ k → k < j → docC g k < doc) → (j = (g.length : Int) ∨ doc ≤ docC g j) → advC g doc i = j := by
  intro n
  induction n with
  | zero =>
    intro i j h h1 h2 h3 h4
    obtain rfl : i = j := by omega
    exact advC_stay (by omega)
  | succ n ih =>
    intro i j h h1 h2 h3 h4
    rw [advC_step ⟨h3 i (by omega) (by omega), by omega⟩]
    exact ih (i + 1) j (by omega) (by omega) h2 (fun k hk => h3 k (by omega)) h4
theorem advC_skip {g : List Po} {doc : Int} : ∀ (n : Nat) (i j : Int), (j - i).toNat = n → i ≤ j → j ≤ (g.length : Int) → (∀ k, i ≤ k → k < j → docC g k < doc) → advC g doc i = advC g doc j := by
  intro n
  induction n with
  | zero =>
    intro i j h h1 h2 h3
    obtain rfl : i = j := by omega
    rfl
  | succ n ih =>
    intro i j h h1 h2 h3
    rw [advC_step ⟨h3 i (by omega) (by omega), by omega⟩]
    exact ih (i + 1) j (by omega) (by omega) h2 (fun k hk => h3 k (by omega))

/-- How many of the first so many are not: where what holds from some place on begins. -/
theorem count_from {p : Nat → Bool} : ∀ (N : Nat), (∀ a b, a ≤ b → b < N → p a = true → p b = true) →
    (List.range N).countP (fun i => !p i) ≤ N ∧ (∀ k, k < (List.range N).countP (fun i => !p i) → p k = false) ∧ (∀ k, (List.range N).countP (fun i => !p i) ≤ k → k < N → p k = true) := by
  intro N
  induction N with
  | zero => intro _; simp
  | succ N ih =>
    intro hm
    obtain ⟨h1, h2, h3⟩ := ih fun a b hab hb => hm a b hab (by omega)
    rw [List.range_succ, List.countP_append]
    obtain ⟨m, hm'⟩ : ∃ m, m = (List.range N).countP (fun i => !p i) := ⟨_, rfl⟩
    rw [← hm'] at h1 h2 h3 ⊢
    rcases hp : p N with _ | _
    · have e : m = N := by
        rcases Nat.lt_or_ge m N with hl | hl
        · have := hm m N (by omega) (by omega) (h3 m (Nat.le_refl _) hl)
          rw [hp] at this; cases this
        · omega
      subst e
      rw [show List.countP (fun i => !p i) [m] = 1 by simp [hp]]
      refine ⟨by omega, fun k hk => ?_, fun k hk hk2 => by omega⟩
      rcases Nat.lt_or_ge k m with hl | hl
      · exact h2 k hl
      · obtain rfl : k = m := by omega
        exact hp
    · rw [show List.countP (fun i => !p i) [N] = 0 by simp [hp]]
      refine ⟨by omega, fun k hk => h2 k (by omega), fun k hk hk2 => ?_⟩
      rcases Nat.lt_or_ge k N with hl | hl
      · exact h3 k (by omega) hl
      · obtain rfl : k = N := by omega
        exact hp

/-- Where a cursor stands that keeps the rest of the block that it read last, and the number of the block behind that one. -/
def Pos (g : List Po) (i : Int) (nx : Nat) (bh : Bool) (rest : List Po) : Prop :=
  (i = -1 ∧ nx = 0 ∧ bh = false ∧ rest = []) ∨ (i = (g.length : Int) ∧ nx = blocksP g.length ∧ bh = true ∧ rest = []) ∨
    ∃ k j : Nat, j < (blockP g (k : Int)).length ∧ i = ((8 * k + j : Nat) : Int) ∧ nx = k + 1 ∧ bh = false ∧ rest = (blockP g (k : Int)).drop j
section
variable {g : List Po} {i : Int} {nx : Nat} {bh : Bool} {rest : List Po} {doc : Int}
theorem Pos.bd (h : Pos g i nx bh rest) : -1 ≤ i ∧ i ≤ (g.length : Int) ∧ nx ≤ blocksP g.length := by
  rcases h with ⟨rfl, rfl, _⟩ | ⟨rfl, rfl, _⟩ | ⟨k, j, hj, rfl, rfl, _⟩
  · exact ⟨by omega, by omega, by omega⟩
  · exact ⟨by omega, by omega, by omega⟩
  · have := block_at hj
    exact ⟨by omega, by omega, by omega⟩
/-- What it is asked, it answers from the rest alone. -/
theorem Pos.tells (h : Pos g i nx bh rest) : (bh = true → docC g i = 2147483648) ∧ (bh = false → rest = [] → docC g i = -1) ∧ (rest = [] → placesC g i = []) ∧
    ∀ p r, rest = p :: r → bh = false ∧ docC g i = p.1 ∧ placesC g i = p.2 := by
  rcases h with ⟨rfl, rfl, rfl, rfl⟩ | ⟨rfl, rfl, rfl, rfl⟩ | ⟨k, j, hj, rfl, rfl, rfl, rfl⟩
  · exact ⟨(fun h => by cases h), fun _ _ => docC_ahead (by omega), fun _ => placesC_none (.inl (by omega)), (fun p r h => by cases h)⟩
  · exact ⟨fun _ => docC_behind (by omega) (Int.le_refl _), (fun h => by cases h), fun _ => placesC_none (.inr (Int.le_refl _)), (fun p r h => by cases h)⟩
  · obtain ⟨h1, h2, h3⟩ := block_at hj
    refine ⟨(fun h => by cases h), (fun _ h => by rw [h3] at h; cases h), (fun h => by rw [h3] at h; cases h), fun p r h => ?_⟩
    rw [h3] at h
    injection h with h _
    subst h
    exact ⟨rfl, docC_at h2, placesC_at h2⟩
/-- The block that was read last ends below doc: from where it stands all is below, up to the first block that doesn't. -/
theorem Pos.below (h : Pos g i nx bh rest) (hm : mayB' (-1) g = true) (hlt : lastP g ((nx : Int) - 1) < doc) : ∀ k : Int, i ≤ k → k < ((8 * nx : Nat) : Int) → k < (g.length : Int) → docC g k < doc := by
  intro k h1 h2 h3
  rcases h with ⟨rfl, rfl, rfl, rfl⟩ | ⟨rfl, rfl, rfl, rfl⟩ | ⟨b, j, hj, rfl, rfl, rfl, rfl⟩
  · obtain rfl : k = -1 := by omega
    rw [docC_ahead (by omega)]
    rw [show ((0 : Nat) : Int) - 1 = -1 by omega] at hlt
    have : lastP g (-1) = -1 := by unfold lastP; rw [blockP_neg (by omega)]; rfl
    omega
  · omega
  · obtain ⟨hb, hbl, _⟩ := block_at hj
    obtain ⟨n, rfl⟩ := Int.eq_ofNat_of_zero_le (show 0 ≤ k by omega)
    rw [show ((b + 1 : Nat) : Int) - 1 = (b : Int) by omega, lastP_doc hb] at hlt
    have hl := blockP_length (l := g) b
    have := docC_mono hm (i := n) (j := 8 * b + (blockP g (b : Int)).length - 1) (by omega) (by omega)
    omega
/-- All of a block whose last document is below doc is below doc. -/
theorem block_below (hm : mayB' (-1) g = true) {b : Nat} (hb : b < blocksP g.length) (hlt : lastP g (b : Int) < doc) {k : Int} (h1 : ((8 * b : Nat) : Int) ≤ k) (h2 : k < ((8 * (b + 1) : Nat) : Int)) (h3 : k < (g.length : Int)) : docC g k < doc := by
  obtain ⟨n, rfl⟩ := Int.eq_ofNat_of_zero_le (show 0 ≤ k by omega)
  rw [lastP_doc hb] at hlt
  have hl := blockP_length (l := g) b
  have := docC_mono hm (i := n) (j := 8 * b + (blockP g (b : Int)).length - 1) (by omega) (by omega)
  omega
/-- Where it leads, if all blocks up to block t end below doc. -/
theorem Pos.turned (h : Pos g i nx bh rest) (hm : mayB' (-1) g = true) (hlt : lastP g ((nx : Int) - 1) < doc) {t : Nat} (ht : nx ≤ t) (ht2 : t ≤ blocksP g.length) (hbl : ∀ b : Nat, nx ≤ b → b < t → lastP g (b : Int) < doc) :
    advC g doc i = advC g doc (if t = blocksP g.length then (g.length : Int) else ((8 * t : Nat) : Int)) ∧ i ≤ (if t = blocksP g.length then (g.length : Int) else ((8 * t : Nat) : Int)) := by
  have hbd := h.bd
  obtain ⟨J, hJ⟩ : ∃ J : Int, J = (if t = blocksP g.length then (g.length : Int) else ((8 * t : Nat) : Int)) := ⟨_, rfl⟩
  have hJ1 : J ≤ (g.length : Int) ∧ J ≤ ((8 * t : Nat) : Int) ∧ (J = (g.length : Int) ∨ J = ((8 * t : Nat) : Int)) := by
    rw [hJ]
    split
    · rename_i e
      rw [e]
      unfold blocksP
      exact ⟨Int.le_refl _, by omega, .inl rfl⟩
    · rename_i e
      unfold blocksP at e ht2
      exact ⟨by omega, Int.le_refl _, .inr rfl⟩
  rw [← hJ]
  have hiJ : i ≤ J := by
    rcases h with ⟨rfl, _, _⟩ | ⟨rfl, e, _⟩ | ⟨b, j, hj, rfl, rfl, _⟩
    · rcases hJ1.2.2 with e | e <;> omega
    · rw [hJ, if_pos (by omega)]; exact Int.le_refl _
    · have h1 := block_at hj
      have h2 := blockP_length (l := g) b
      rcases hJ1.2.2 with e | e <;> omega
  refine ⟨advC_skip _ i J rfl hiJ hJ1.1 fun k h1 h2 => ?_, hiJ⟩
  by_cases hk : k < ((8 * nx : Nat) : Int)
  · exact h.below hm hlt k h1 hk (by omega)
  · obtain ⟨n, rfl⟩ := Int.eq_ofNat_of_zero_le (show 0 ≤ k by omega)
    exact block_below hm (b := n / 8) (by unfold blocksP; omega) (hbl _ (by omega) (by omega)) (by omega) (by omega) (by omega)
/-- Nothing to read: it stays where it is, or goes on in the block. -/
theorem Pos.stays (h : Pos g i nx bh rest) (hlt : doc ≤ lastP g ((nx : Int) - 1)) (hr : rest = []) : advC g doc i = i := by
  rcases h with ⟨rfl, rfl, rfl, rfl⟩ | ⟨rfl, rfl, rfl, rfl⟩ | ⟨b, j, hj, rfl, rfl, rfl, rfl⟩
  · have : lastP g (((0 : Nat) : Int) - 1) = -1 := by unfold lastP; rw [blockP_neg (by omega)]; rfl
    refine advC_stay ?_
    rw [docC_ahead (by omega)]
    omega
  · exact advC_stay (by omega)
  · rw [(block_at hj).2.2] at hr; cases hr
end
end Go.Proofs.Ytnmnbckaccicaaa
