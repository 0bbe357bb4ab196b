/- The order of numbers of lists. No program. -/
import Derived.Test.YtpehcaidjlemiaaPlain04
set_option linter.unusedVariables false
namespace Go.Proofs.Ytpehcaidjlemiaa
open Go

/-- A row of things that rise by a relation is known by what is in it. -/
theorem row_ext {α : Type} {R : α → α → Prop} (irr : ∀ x, ¬ R x x) (asym : ∀ x y, R x y → ¬ R y x) : ∀ {a b : List α}, a.Pairwise R → b.Pairwise R → (∀ x, x ∈ a ↔ x ∈ b) → a = b
  | [], [], _, _, _ => rfl
  | [], y :: b, _, _, h => by have := (h y).2 (List.mem_cons_self ..); simp at this
  | x :: a, [], _, _, h => by have := (h x).1 (List.mem_cons_self ..); simp at this
  | x :: a, y :: b, ha, hb, h => by
    rw [List.pairwise_cons] at ha hb
    have hxy : x = y := by
      rcases List.mem_cons.1 ((h x).1 (List.mem_cons_self ..)) with e | h1
      · exact e
      · rcases List.mem_cons.1 ((h y).2 (List.mem_cons_self ..)) with e | h2
        · exact e.symm
        · exact absurd (ha.1 y h2) (asym _ _ (hb.1 x h1))
    subst hxy
    rw [row_ext irr asym ha.2 hb.2 fun z => ⟨fun hz => ?_, fun hz => ?_⟩]
    · rcases List.mem_cons.1 ((h z).1 (List.mem_cons_of_mem _ hz)) with e | h1
      · exact absurd (ha.1 z hz) (e ▸ irr _)
      · exact h1
    · rcases List.mem_cons.1 ((h z).2 (List.mem_cons_of_mem _ hz)) with e | h1
      · exact absurd (hb.1 z hz) (e ▸ irr _)
      · exact h1

/-- The place of a list, and the place in it. -/
abbrev Pl := Nat × Nat
def valO (l : List (List Int)) (p : Pl) : Int := (l.getD p.1 []).getD p.2 0
def InO (l : List (List Int)) (p : Pl) : Prop := p.1 < l.length ∧ p.2 < (l.getD p.1 []).length
/-- All places of lists, in the order of what stands there. -/
structure IsOrd (l : List (List Int)) (o : List Pl) : Prop where
  rise : o.Pairwise fun p q => valO l p < valO l q
  mem : ∀ p, p ∈ o ↔ InO l p
theorem IsOrd.ext {l : List (List Int)} {a b : List Pl} (ha : IsOrd l a) (hb : IsOrd l b) : a = b :=
  row_ext (R := fun p q => valO l p < valO l q) (fun _ h => Int.lt_irrefl _ h) (fun _ _ h k => Int.lt_irrefl _ (Int.lt_trans h k)) ha.rise hb.rise fun p => (ha.mem p).trans (hb.mem p).symm
/-- A number stands in two of them. -/
def TwiceO (l : List (List Int)) : Prop := ∃ p q, InO l p ∧ InO l q ∧ valO l p = valO l q ∧ p ≠ q
theorem IsOrd.once {l : List (List Int)} {o : List Pl} (h : IsOrd l o) : ¬ TwiceO l := fun ⟨p, q, hp, hq, e, hn⟩ => by
  have h1 := (h.mem p).2 hp
  have h2 := (h.mem q).2 hq
  obtain ⟨i, hi, hi2⟩ := List.getElem_of_mem h1
  obtain ⟨j, hj, hj2⟩ := List.getElem_of_mem h2
  rcases Nat.lt_trichotomy i j with hij | hij | hij
  · have := List.pairwise_iff_getElem.1 h.rise i j hi hj hij
    rw [hi2, hj2, e] at this
    exact Int.lt_irrefl _ this
  · subst hij
    exact hn (hi2.symm.trans hj2)
  · have := List.pairwise_iff_getElem.1 h.rise j i hj hi hij
    rw [hi2, hj2, e] at this
    exact Int.lt_irrefl _ this
/-- What Order tells: the error and the order. -/
inductive OrdIs (l : List (List Int)) : Int → List Pl → Prop
  | bad : ¬ (∀ s ∈ l, risesZ (-1) s = true) → OrdIs l 1 []
  | twice : (∀ s ∈ l, risesZ (-1) s = true) → TwiceO l → OrdIs l 5 []
  | ok {o : List Pl} : (∀ s ∈ l, risesZ (-1) s = true) → IsOrd l o → OrdIs l 0 o
theorem OrdIs.det {l : List (List Int)} {e f : Int} {a b : List Pl} (h : OrdIs l e a) (k : OrdIs l f b) : e = f ∧ a = b := by
  cases h with
  | bad h => cases k with
    | bad _ => exact ⟨rfl, rfl⟩
    | twice k _ => exact absurd k h
    | ok k _ => exact absurd k h
  | twice h h2 => cases k with
    | bad k => exact absurd h k
    | twice _ _ => exact ⟨rfl, rfl⟩
    | ok _ k2 => exact absurd h2 k2.once
  | ok h h2 => cases k with
    | bad k => exact absurd h k
    | twice _ k2 => exact absurd k2 h2.once
    | ok _ k2 => exact ⟨rfl, h2.ext k2⟩
/-- Numbers that rise from one on. -/
theorem rises_at11 : ∀ {l : List Int} {x : Int}, risesZ x l = true → ∀ i (hi : i < l.length), x < l[i] ∧ ∀ j (hj : j < l.length), j < i → l[j] < l[i]
  | [], x, h, i, hi => by simp at hi
  | y :: l, x, h, i, hi => by
    rw [risesZ, Bool.and_eq_true, decide_eq_true_eq] at h
    cases i with
    | zero => exact ⟨h.1, fun j _ hj => by omega⟩
    | succ i =>
      obtain ⟨h1, h2⟩ := rises_at11 h.2 i (by simpa using hi)
      refine ⟨by rw [List.getElem_cons_succ]; omega, fun j hj hji => ?_⟩
      cases j with
      | zero => simpa using h1
      | succ j => simpa using h2 j (by simpa using hj) (by omega)
theorem valO_at {l : List (List Int)} {i k : Nat} (hi : i < l.length) (hk : k < l[i].length) : valO l (i, k) = l[i][k] := by
  simp [valO, List.getD_eq_getElem?_getD, List.getElem?_eq_getElem hi, List.getElem?_eq_getElem hk]
theorem inO_at {l : List (List Int)} {i k : Nat} : InO l (i, k) ↔ ∃ hi : i < l.length, k < l[i].length := by
  constructor
  · rintro ⟨h1, h2⟩
    simp only at h1 h2
    exact ⟨h1, by simpa [List.getD_eq_getElem?_getD, List.getElem?_eq_getElem h1] using h2⟩
  · rintro ⟨h1, h2⟩
    exact ⟨h1, by simpa [List.getD_eq_getElem?_getD, List.getElem?_eq_getElem h1] using h2⟩
theorem valO_up {l : List (List Int)} (hr : ∀ s ∈ l, risesZ (-1) s = true) {i k m : Nat} (h : InO l (i, m)) (hk : k < m) : valO l (i, k) < valO l (i, m) := by
  obtain ⟨hi, hm⟩ := inO_at.1 h
  rw [valO_at hi hm, valO_at hi (by omega)]
  exact (rises_at11 (hr _ (List.getElem_mem hi)) m hm).2 k (by omega) hk
theorem valO_pos {l : List (List Int)} (hr : ∀ s ∈ l, risesZ (-1) s = true) {p : Pl} (h : InO l p) : -1 < valO l p := by
  obtain ⟨hi, hm⟩ := inO_at.1 h
  rw [show p = (p.1, p.2) from rfl, valO_at hi hm]
  exact (rises_at11 (hr _ (List.getElem_mem hi)) _ hm).1
/-- An order that is being made: so far of each list that many, the last number that was taken. -/
structure OrdMid (l : List (List Int)) (a : List Nat) (o : List Pl) (last : Int) : Prop where
  len : a.length = l.length
  le : ∀ i (hi : i < l.length), a.getD i 0 ≤ l[i].length
  rise : o.Pairwise fun p q => valO l p < valO l q
  mem : ∀ p, p ∈ o ↔ p.1 < l.length ∧ p.2 < a.getD p.1 0
  low : ∀ p ∈ o, valO l p ≤ last
  lasts : last = -1 ∨ ∃ p ∈ o, valO l p = last
  ahead : ∀ p, InO l p → a.getD p.1 0 ≤ p.2 → last ≤ valO l p
theorem ordMid_begin {l : List (List Int)} (hr : ∀ s ∈ l, risesZ (-1) s = true) : OrdMid l (List.replicate l.length 0) [] (-1) where
  len := by simp
  le := fun i hi => by simp [List.getD_eq_getElem?_getD, hi]
  rise := List.Pairwise.nil
  mem := fun p => by
    constructor
    · intro h; simp at h
    · rintro ⟨h1, h2⟩
      simp [List.getD_eq_getElem?_getD, h1] at h2
  low := fun p h => by simp at h
  lasts := .inl rfl
  ahead := fun p hp _ => by have := valO_pos hr hp; omega
theorem OrdMid.inO {l : List (List Int)} {a : List Nat} {o : List Pl} {last : Int} (h : OrdMid l a o last) {p : Pl} (hp : p ∈ o) : InO l p := by
  obtain ⟨h1, h2⟩ := (h.mem p).1 hp
  exact inO_at.2 ⟨h1, Nat.lt_of_lt_of_le h2 (h.le _ h1)⟩
/-- All are taken. -/
theorem OrdMid.done {l : List (List Int)} {a : List Nat} {o : List Pl} {last : Int} (h : OrdMid l a o last) (hd : ∀ i (hi : i < l.length), l[i].length ≤ a.getD i 0) : IsOrd l o :=
  ⟨h.rise, fun p => ⟨h.inO, fun hp => (h.mem p).2 (by obtain ⟨h1, h2⟩ := inO_at.1 hp; exact ⟨h1, Nat.lt_of_lt_of_le h2 (hd _ h1)⟩)⟩⟩
/-- The least that is ahead has been taken already. -/
theorem OrdMid.twice {l : List (List Int)} (hr : ∀ s ∈ l, risesZ (-1) s = true) {a : List Nat} {o : List Pl} {last : Int} (h : OrdMid l a o last) {b : Nat} (hb : InO l (b, a.getD b 0)) (he : valO l (b, a.getD b 0) = last) : TwiceO l := by
  rcases h.lasts with e | ⟨p, hp, e⟩
  · have := valO_pos hr hb; omega
  · refine ⟨p, _, h.inO hp, hb, by rw [e, he], fun e => ?_⟩
    have := ((h.mem p).1 hp).2
    rw [e] at this
    simp at this
/-- The least that is ahead is taken. -/
theorem OrdMid.step {l : List (List Int)} (hr : ∀ s ∈ l, risesZ (-1) s = true) {a : List Nat} {o : List Pl} {last : Int} (h : OrdMid l a o last) {b : Nat} (hb : InO l (b, a.getD b 0)) (hm : ∀ i, InO l (i, a.getD i 0) → valO l (b, a.getD b 0) ≤ valO l (i, a.getD i 0)) (hn : valO l (b, a.getD b 0) ≠ last) : OrdMid l (a.set b (a.getD b 0 + 1)) (o ++ [(b, a.getD b 0)]) (valO l (b, a.getD b 0)) := by
  obtain ⟨hb1, hb2⟩ := inO_at.1 hb
  have hlt : last < valO l (b, a.getD b 0) := by have := h.ahead _ hb (Nat.le_refl _); omega
  have hba : b < a.length := by rw [h.len]; exact hb1
  have hset : ∀ i, (a.set b (a.getD b 0 + 1)).getD i 0 = if i = b then a.getD b 0 + 1 else a.getD i 0 := fun i => by
    rw [List.getD_eq_getElem?_getD, List.getElem?_set]
    by_cases e : b = i
    · subst e; simp [hba]
    · rw [if_neg e, if_neg (fun e2 => e e2.symm), List.getD_eq_getElem?_getD (l := a) (i := i)]
  exact {
    len := by rw [List.length_set]; exact h.len
    le := fun i hi => by
      rw [hset]
      split
      · rename_i e; subst e; omega
      · exact h.le i hi
    rise := List.pairwise_append.2 ⟨h.rise, List.pairwise_singleton .., fun p hp q hq => by
      rw [List.mem_singleton.1 hq]
      have := h.low p hp
      omega⟩
    mem := fun p => by
      rw [List.mem_append, List.mem_singleton, h.mem, hset]
      constructor
      · rintro (⟨h1, h2⟩ | rfl)
        · refine ⟨h1, ?_⟩
          split
          · rename_i e; rw [e] at h2; omega
          · exact h2
        · exact ⟨hb1, by simp⟩
      · rintro ⟨h1, h2⟩
        split at h2
        · rename_i e
          by_cases e2 : p.2 = a.getD b 0
          · exact .inr (by rw [← e2, ← e])
          · exact .inl ⟨h1, by rw [e]; omega⟩
        · exact .inl ⟨h1, h2⟩
    low := fun p hp => by
      rcases List.mem_append.1 hp with hp | hp
      · have := h.low p hp; omega
      · rw [List.mem_singleton.1 hp]; omega
    lasts := .inr ⟨_, List.mem_append_right _ (List.mem_singleton.2 rfl), rfl⟩
    ahead := fun p hp hle => by
      rw [hset] at hle
      split at hle
      · rename_i e
        have : valO l (b, a.getD b 0) < valO l (b, p.2) := valO_up hr (by rw [← e]; exact hp) (by omega)
        rw [← e] at this ⊢
        exact Int.le_of_lt this
      · have h1 := inO_at.1 (show InO l (p.1, p.2) from hp)
        by_cases e2 : p.2 = a.getD p.1 0
        · have := hm p.1 (by rw [← e2]; exact hp)
          rwa [← e2] at this
        · have h2 := hm p.1 (inO_at.2 ⟨h1.1, by have := h1.2; omega⟩)
          have h3 : valO l (p.1, a.getD p.1 0) < valO l (p.1, p.2) := valO_up hr hp (by omega)
          exact Int.le_of_lt (Int.lt_of_le_of_lt h2 h3) }
/-- Where a place of a list stands in an order. -/
def placeO : List Pl → Nat → Int → Int → Int
  | [], _, _, _ => -1
  | p :: o, j, i, k => if (p.1 : Int) = i ∧ (p.2 : Int) = k then (j : Int) else placeO o (j + 1) i k
end Go.Proofs.Ytpehcaidjlemiaa
