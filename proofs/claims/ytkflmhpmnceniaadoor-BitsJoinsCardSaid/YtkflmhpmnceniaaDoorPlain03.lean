/- Sets of numbers, plainly: a list of truths; words of 64; what is in both. No program. -/
import Derived.Lib.TrailingZeros
set_option linter.unusedVariables false
namespace Go.Proofs.YtkflmhpmnceniaaDoor.Plain

/-! ## Lists of truths -/

/-- Is a number in? -/
def hasB (r : List Bool) (i : Int) : Bool := decide (0 ≤ i) && r.getD i.toNat false
/-- Is a number one of those that may be in? -/
def mayB (n : Nat) (i : Int) : Bool := decide (0 ≤ i) && decide (i < n)
/-- The list where a number is in, or not. -/
def turnB (r : List Bool) (i : Int) (b : Bool) : List Bool := if 0 ≤ i then r.set i.toNat b else r
/-- Was that otherwise? -/
def turnedB (r : List Bool) (i : Int) (b : Bool) : Bool := mayB r.length i && (r.getD i.toNat false != b)
/-- All numbers that are in, rising. -/
def ones (r : List Bool) : List Nat := (List.range r.length).filter fun i => r.getD i false
/-- The first one that is not below i. -/
def nextB (r : List Bool) (i : Int) : Int := match (ones r).find? (fun k : Nat => decide (i ≤ (k : Int))) with | some k => (k : Int) | none => -1
/-- How many are below i. -/
def rankB (r : List Bool) (i : Int) : Nat := (ones r).countP fun k : Nat => decide ((k : Int) < i)
def joinB (a b : List Bool) (or : Bool) : List Bool := (List.range (max a.length b.length)).map fun i => (a.getD i false && b.getD i false) || (or && (a.getD i false || b.getD i false))
def notB (a : List Bool) : List Bool := a.map (!·)

theorem turnB_length (r : List Bool) (i : Int) (b : Bool) : (turnB r i b).length = r.length := by unfold turnB; split <;> simp
theorem joinB_length (a b : List Bool) (o : Bool) : (joinB a b o).length = max a.length b.length := by simp [joinB]
theorem notB_length (a : List Bool) : (notB a).length = a.length := by simp [notB]
theorem ones_mem (r : List Bool) (i : Nat) : i ∈ ones r ↔ i < r.length ∧ r.getD i false = true := by simp [ones]
theorem getD_lt (r : List Bool) (i : Nat) (h : r.getD i false = true) : i < r.length := by
  rcases Nat.lt_or_ge i r.length with h1 | h1
  · exact h1
  · rw [List.getD_eq_getElem?_getD, List.getElem?_eq_none h1] at h; cases h
theorem ones_mem' (r : List Bool) (i : Nat) : i ∈ ones r ↔ r.getD i false = true := by
  rw [ones_mem]
  exact ⟨fun h => h.2, fun h => ⟨getD_lt r i h, h⟩⟩
theorem ones_asc (r : List Bool) : (ones r).Pairwise (· < ·) := List.Pairwise.filter _ List.pairwise_lt_range
theorem ones_lt (r : List Bool) (i : Nat) (h : i ∈ ones r) : i < r.length := ((ones_mem r i).1 h).1

/-- Two rising lists with the same in them are one. -/
theorem asc_ext : ∀ (a b : List Nat), a.Pairwise (· < ·) → b.Pairwise (· < ·) → (∀ x, x ∈ a ↔ x ∈ b) → a = b
  | [], [], _, _, _ => rfl
  | [], y :: b, _, _, h => by have := (h y).2 (by simp); simp at this
  | x :: a, [], _, _, h => by have := (h x).1 (by simp); simp at this
  | x :: a, y :: b, ha, hb, h => by
    rw [List.pairwise_cons] at ha hb
    have hx : x ∈ y :: b := (h x).1 (by simp)
    have hy : y ∈ x :: a := (h y).2 (by simp)
    have e : x = y := by
      simp only [List.mem_cons] at hx hy
      rcases hx with rfl | hx
      · rfl
      · rcases hy with rfl | hy
        · rfl
        · have h1 := ha.1 y hy
          have h2 := hb.1 x hx
          omega
    subst e
    rw [asc_ext a b ha.2 hb.2 fun z => ?_]
    have hz := h z
    simp only [List.mem_cons] at hz
    constructor
    · intro hm
      rcases hz.1 (.inr hm) with rfl | h1
      · exact absurd (ha.1 z hm) (Nat.lt_irrefl _)
      · exact h1
    · intro hm
      rcases hz.2 (.inr hm) with rfl | h1
      · exact absurd (hb.1 z hm) (Nat.lt_irrefl _)
      · exact h1

/-! ## Words -/

/-- A word: its place, and which are in. -/
abbrev Wd := Nat × Nat

def bitsOf (x : Nat) : List Nat := (List.range 64).filter fun j => x.testBit j
theorem bitsOf_mem (x j : Nat) : j ∈ bitsOf x ↔ j < 64 ∧ x.testBit j = true := by simp [bitsOf]
theorem bitsOf_asc (x : Nat) : (bitsOf x).Pairwise (· < ·) := List.Pairwise.filter _ List.pairwise_lt_range

/-- The word that is kept at a place; 0, if none is. -/
def getW (ws : List Wd) (a : Nat) : Nat := match ws.find? (fun p => p.1 == a) with | some p => p.2 | none => 0
def memW (ws : List Wd) (i : Nat) : Bool := (getW ws (i / 64)).testBit (i % 64)
/-- All numbers, word by word. -/
def elemW (p : Wd) : List Nat := (bitsOf p.2).map fun j => p.1 * 64 + j
def elems (ws : List Wd) : List Nat := ws.flatMap elemW
/-- How many words stand ahead of a place. -/
def posW (ws : List Wd) (a : Nat) : Nat := ws.countP fun p => decide (p.1 < a)

structure WS (n : Nat) (ws : List Wd) : Prop where
  asc : ws.Pairwise fun p q => p.1 < q.1
  fits : ∀ p ∈ ws, p.2 < 18446744073709551616
  here : ∀ p ∈ ws, p.1 * 64 < n
  inn : ∀ p ∈ ws, ∀ j, p.2.testBit j = true → p.1 * 64 + j < n

/-- The words are the truths. -/
structure Rep (r : List Bool) (ws : List Wd) : Prop where
  wds : WS r.length ws
  mem : ∀ i, r.getD i false = memW ws i

theorem find_asc : ∀ (ws : List Wd), (ws.Pairwise fun p q => p.1 < q.1) → ∀ p ∈ ws, ws.find? (fun q => q.1 == p.1) = some p
  | [], _, p, hp => by simp at hp
  | q :: ws, h, p, hp => by
    rw [List.pairwise_cons] at h
    rw [List.find?_cons]
    rcases List.mem_cons.1 hp with rfl | hp'
    · simp
    · have := h.1 p hp'
      have e : (q.1 == p.1) = false := by simp; omega
      rw [e]
      exact find_asc ws h.2 p hp'
theorem getW_mem {n : Nat} {ws : List Wd} (h : WS n ws) {p : Wd} (hp : p ∈ ws) : getW ws p.1 = p.2 := by
  unfold getW
  rw [find_asc ws h.asc p hp]
theorem getW_none {ws : List Wd} {a : Nat} (h : ∀ p ∈ ws, p.1 ≠ a) : getW ws a = 0 := by
  unfold getW
  rw [List.find?_eq_none.2 (fun p hp => by simpa using h p hp)]
theorem getW_some {ws : List Wd} {a : Nat} (h : getW ws a ≠ 0) : ∃ p ∈ ws, p.1 = a ∧ p.2 = getW ws a := by
  unfold getW at h ⊢
  cases hf : ws.find? (fun p => p.1 == a) with
  | none => rw [hf] at h; exact absurd rfl h
  | some p => exact ⟨p, List.mem_of_find?_eq_some hf, by simpa using List.find?_some hf, rfl⟩
theorem getW_fits {n : Nat} {ws : List Wd} (h : WS n ws) (a : Nat) : getW ws a < 18446744073709551616 := by
  by_cases h0 : getW ws a = 0
  · omega
  · obtain ⟨p, hp, _, e⟩ := getW_some h0
    rw [← e]
    exact h.fits p hp
theorem testBit_64 {x j : Nat} (hx : x < 18446744073709551616) (h : x.testBit j = true) : j < 64 := by
  apply Nat.lt_of_not_le
  intro hj
  rw [Nat.testBit_lt_two_pow (Nat.lt_of_lt_of_le hx (Nat.pow_le_pow_right (n := 2) (by decide) hj))] at h
  cases h
theorem elemW_mem {p : Wd} {i : Nat} (hp : p.2 < 18446744073709551616) : i ∈ elemW p ↔ i / 64 = p.1 ∧ p.2.testBit (i % 64) = true := by
  simp only [elemW, List.mem_map, bitsOf_mem]
  constructor
  · rintro ⟨j, ⟨h1, h2⟩, rfl⟩
    have e1 : (p.1 * 64 + j) / 64 = p.1 := by omega
    have e2 : (p.1 * 64 + j) % 64 = j := by omega
    exact ⟨e1, by rw [e2]; exact h2⟩
  · rintro ⟨h1, h2⟩
    exact ⟨i % 64, ⟨Nat.mod_lt _ (by decide), h2⟩, by omega⟩
theorem elems_mem {n : Nat} {ws : List Wd} (h : WS n ws) (i : Nat) : i ∈ elems ws ↔ memW ws i = true := by
  unfold elems memW
  rw [List.mem_flatMap]
  constructor
  · rintro ⟨p, hp, hi⟩
    obtain ⟨rfl', h2⟩ := (elemW_mem (h.fits p hp)).1 hi
    rw [rfl', getW_mem h hp]
    exact h2
  · intro hb
    have h0 : getW ws (i / 64) ≠ 0 := by
      intro e
      rw [e] at hb
      simp at hb
    obtain ⟨p, hp, e1, e2⟩ := getW_some h0
    exact ⟨p, hp, (elemW_mem (h.fits p hp)).2 ⟨e1.symm, by rw [e2]; exact hb⟩⟩
theorem elemW_bounds {p : Wd} {i : Nat} (h : i ∈ elemW p) : p.1 * 64 ≤ i ∧ i < p.1 * 64 + 64 := by
  simp only [elemW, List.mem_map, bitsOf_mem] at h
  obtain ⟨j, ⟨h1, _⟩, rfl⟩ := h
  omega
theorem elemW_asc (p : Wd) : (elemW p).Pairwise (· < ·) := by
  unfold elemW
  rw [List.pairwise_map]
  exact (bitsOf_asc _).imp fun h => by omega
theorem elems_asc : ∀ (ws : List Wd), (ws.Pairwise fun p q => p.1 < q.1) → (elems ws).Pairwise (· < ·)
  | [], _ => by simp [elems]
  | p :: ws, h => by
    rw [List.pairwise_cons] at h
    unfold elems
    rw [List.flatMap_cons, List.pairwise_append]
    refine ⟨elemW_asc p, elems_asc ws h.2, fun a ha b hb => ?_⟩
    obtain ⟨q, hq, hb⟩ := List.mem_flatMap.1 hb
    have h1 := elemW_bounds ha
    have h2 := elemW_bounds hb
    have h3 := h.1 q hq
    omega
theorem elems_eq {r : List Bool} {ws : List Wd} (h : Rep r ws) : elems ws = ones r :=
  asc_ext _ _ (elems_asc ws h.wds.asc) (ones_asc r) fun i => by rw [elems_mem h.wds, ones_mem', h.mem]

theorem WS.length {n : Nat} {ws : List Wd} (h : WS n ws) : ws.length ≤ n / 64 + 1 := by
  have key : ∀ (l : List Wd) (m : Nat), (l.Pairwise fun p q => p.1 < q.1) → (∀ p ∈ l, m ≤ p.1 ∧ p.1 * 64 < n) → l.length + m ≤ n / 64 + 1 ∨ l = [] := by
    intro l
    induction l with
    | nil => intros; exact .inr rfl
    | cons p l ih =>
      intro m hp hb
      rw [List.pairwise_cons] at hp
      have h1 := hb p (by simp)
      rcases ih (p.1 + 1) hp.2 (fun q hq => ⟨hp.1 q hq, (hb q (by simp [hq])).2⟩) with h2 | rfl
      · left
        simp only [List.length_cons]
        omega
      · left
        simp only [List.length_cons, List.length_nil]
        omega
  rcases key ws 0 h.asc (fun p hp => ⟨Nat.zero_le _, h.here p hp⟩) with h1 | rfl
  · omega
  · simp

/-! ### Where a word stands -/

theorem posW_le (ws : List Wd) (a : Nat) : posW ws a ≤ ws.length := List.countP_le_length
theorem posW_split : ∀ (ws : List Wd), (ws.Pairwise fun p q => p.1 < q.1) → ∀ (a : Nat), (∀ k p, ws[k]? = some p → (k < posW ws a ↔ p.1 < a))
  | [], _, a, k, p, hk => by simp at hk
  | q :: ws, h, a, k, p, hk => by
    rw [List.pairwise_cons] at h
    have ih := posW_split ws h.2 a
    unfold posW at ih ⊢
    by_cases hq : q.1 < a
    · rw [List.countP_cons_of_pos (by simpa using hq)]
      cases k with
      | zero =>
        simp only [List.getElem?_cons_zero, Option.some.injEq] at hk
        subst hk
        exact ⟨fun _ => hq, fun _ => by omega⟩
      | succ k =>
        rw [List.getElem?_cons_succ] at hk
        have := ih k p hk
        omega
    · have h0 : ∀ p ∈ ws, ¬ p.1 < a := fun p hp => by have := h.1 p hp; omega
      rw [List.countP_cons_of_neg (by simpa using hq), List.countP_eq_zero.2 (fun p hp => by simpa using h0 p hp)]
      have hp : p ∈ q :: ws := List.mem_of_getElem? hk
      have : ¬ p.1 < a := by
        rcases List.mem_cons.1 hp with rfl | hp
        · exact hq
        · exact h0 p hp
      omega
/-- Is the word kept? -/
def keptW (ws : List Wd) (a : Nat) : Bool := match ws[posW ws a]? with | some p => p.1 == a | none => false
theorem keptW_iff {ws : List Wd} (h : ws.Pairwise fun p q => p.1 < q.1) (a : Nat) : keptW ws a = true ↔ ∃ p ∈ ws, p.1 = a := by
  unfold keptW
  constructor
  · intro hk
    cases hp : ws[posW ws a]? with
    | none => rw [hp] at hk; cases hk
    | some p => rw [hp] at hk; exact ⟨p, List.mem_of_getElem? hp, by simpa using hk⟩
  · rintro ⟨p, hp, rfl⟩
    obtain ⟨k, hk⟩ := List.getElem?_of_mem hp
    have s := posW_split ws h p.1
    have h1 : ¬ k < posW ws p.1 := fun hc => absurd ((s k p hk).1 hc) (Nat.lt_irrefl _)
    have hkl : k < ws.length := (List.getElem?_eq_some_iff.1 hk).1
    have h2 : ws[posW ws p.1]? = some ws[posW ws p.1] := List.getElem?_eq_getElem (by omega)
    rw [h2]
    have h3 : ¬ ws[posW ws p.1].1 < p.1 := fun hc => absurd ((s _ _ h2).2 hc) (Nat.lt_irrefl _)
    rcases Nat.lt_trichotomy k (posW ws p.1) with h4 | h4 | h4
    · omega
    · subst h4
      rw [h2] at hk
      simp only [Option.some.injEq] at hk
      rw [hk]
      simp
    · have := List.pairwise_iff_getElem.1 h (posW ws p.1) k (by omega) hkl h4
      have e : ws[k] = p := (List.getElem?_eq_some_iff.1 hk).2
      rw [e] at this
      omega
theorem keptW_at {ws : List Wd} {a : Nat} (hk : keptW ws a = true) : ∃ x, ws[posW ws a]? = some (a, x) ∧ posW ws a < ws.length := by
  unfold keptW at hk
  cases hp : ws[posW ws a]? with
  | none => rw [hp] at hk; cases hk
  | some p =>
    rw [hp] at hk
    have : p.1 = a := by simpa using hk
    subst this
    exact ⟨p.2, rfl, (List.getElem?_eq_some_iff.1 hp).1⟩
theorem getW_kept {n : Nat} {ws : List Wd} (h : WS n ws) {a x : Nat} (hk : ws[posW ws a]? = some (a, x)) : getW ws a = x := getW_mem h (p := (a, x)) (List.mem_of_getElem? hk)
theorem getW_not {ws : List Wd} (h : ws.Pairwise fun p q => p.1 < q.1) {a : Nat} (hk : keptW ws a = false) : getW ws a = 0 :=
  getW_none fun p hp e => by rw [(keptW_iff h a).2 ⟨p, hp, e⟩] at hk; cases hk

/-! ### Turning a word -/

/-- The list with another word at place k. -/
theorem WS.set {n : Nat} {ws : List Wd} (h : WS n ws) {k a x y : Nat} (hk : ws[k]? = some (a, x)) (hy : y < 18446744073709551616) (hin : ∀ j, y.testBit j = true → a * 64 + j < n) :
    WS n (ws.set k (a, y)) ∧ ∀ b, getW (ws.set k (a, y)) b = if b = a then y else getW ws b := by
  have hkl : k < ws.length := (List.getElem?_eq_some_iff.1 hk).1
  have hke : ws[k] = (a, x) := (List.getElem?_eq_some_iff.1 hk).2
  have hmem : ∀ p, p ∈ ws.set k (a, y) → p = (a, y) ∨ p ∈ ws := fun p hp => (List.mem_or_eq_of_mem_set hp).symm
  have W : WS n (ws.set k (a, y)) := by
    refine ⟨?_, fun p hp => ?_, fun p hp => ?_, fun p hp => ?_⟩
    · rw [List.pairwise_iff_getElem]
      intro i j hi hj hij
      simp only [List.length_set] at hi hj
      have := List.pairwise_iff_getElem.1 h.asc i j hi hj hij
      rw [List.getElem_set, List.getElem_set]
      split
      · rename_i e
        subst e
        rw [hke] at this
        rw [if_neg (by omega)]
        exact this
      · split
        · rename_i e
          subst e
          rw [hke] at this
          exact this
        · exact this
    · rcases hmem p hp with rfl | h1
      · exact hy
      · exact h.fits p h1
    · rcases hmem p hp with rfl | h1
      · exact h.here (a, x) (List.mem_of_getElem? hk)
      · exact h.here p h1
    · rcases hmem p hp with rfl | h1
      · exact hin
      · exact h.inn p h1
  refine ⟨W, fun b => ?_⟩
  split
  · rename_i e
    subst e
    exact getW_mem W (p := (b, y)) (List.mem_set hkl (b, y))
  · rename_i e
    by_cases h0 : ∃ p ∈ ws, p.1 = b
    · obtain ⟨p, hp, rfl⟩ := h0
      rw [getW_mem h hp]
      refine getW_mem W (p := p) ?_
      obtain ⟨i, hi⟩ := List.getElem?_of_mem hp
      have hik : k ≠ i := by
        rintro rfl
        rw [hk] at hi
        simp only [Option.some.injEq] at hi
        subst hi
        exact e rfl
      exact List.mem_of_getElem? (i := i) (by rw [List.getElem?_set_ne hik]; exact hi)
    · rw [getW_none fun p hp e' => h0 ⟨p, hp, e'⟩]
      refine getW_none fun p hp e' => ?_
      rcases hmem p hp with rfl | h1
      · exact e e'.symm
      · exact h0 ⟨p, h1, e'⟩
/-- The list with a word more, at its place. -/
theorem WS.insert {n : Nat} {ws : List Wd} (h : WS n ws) {a y : Nat} (hk : keptW ws a = false) (ha : a * 64 < n) (hy : y < 18446744073709551616) (hin : ∀ j, y.testBit j = true → a * 64 + j < n) :
    WS n (ws.take (posW ws a) ++ (a, y) :: ws.drop (posW ws a)) ∧ ∀ b, getW (ws.take (posW ws a) ++ (a, y) :: ws.drop (posW ws a)) b = if b = a then y else getW ws b := by
  have hs := posW_split ws h.asc a
  have hne : ∀ p ∈ ws, p.1 ≠ a := fun p hp e => by rw [(keptW_iff h.asc a).2 ⟨p, hp, e⟩] at hk; cases hk
  have hmem : ∀ p, p ∈ ws.take (posW ws a) ++ (a, y) :: ws.drop (posW ws a) ↔ p = (a, y) ∨ p ∈ ws := by
    intro p
    rw [List.mem_append, List.mem_cons]
    constructor
    · rintro (h1 | h1 | h1)
      · exact .inr (List.mem_of_mem_take h1)
      · exact .inl h1
      · exact .inr (List.mem_of_mem_drop h1)
    · rintro (h1 | h1)
      · exact .inr (.inl h1)
      · rw [← List.take_append_drop (posW ws a) ws] at h1
        rcases List.mem_append.1 h1 with h1 | h1
        · exact .inl h1
        · exact .inr (.inr h1)
  have hlo : ∀ p ∈ ws.take (posW ws a), p.1 < a := by
    intro p hp
    obtain ⟨i, hi⟩ := List.getElem?_of_mem hp
    rw [List.getElem?_take] at hi
    split at hi
    · rename_i hlt
      exact (hs i p hi).1 hlt
    · cases hi
  have hhi : ∀ p ∈ ws.drop (posW ws a), a < p.1 := by
    intro p hp
    obtain ⟨i, hi⟩ := List.getElem?_of_mem hp
    rw [List.getElem?_drop] at hi
    have h1 : ¬ p.1 < a := fun hc => by have := (hs _ p hi).2 hc; omega
    have h2 := hne p (List.mem_of_getElem? hi)
    omega
  have W : WS n (ws.take (posW ws a) ++ (a, y) :: ws.drop (posW ws a)) := by
    refine ⟨?_, fun p hp => ?_, fun p hp => ?_, fun p hp => ?_⟩
    · rw [List.pairwise_append, List.pairwise_cons]
      refine ⟨h.asc.sublist (List.take_sublist _ _), ⟨hhi, h.asc.sublist (List.drop_sublist _ _)⟩, fun p hp q hq => ?_⟩
      have h1 := hlo p hp
      rcases List.mem_cons.1 hq with rfl | hq
      · exact h1
      · have := hhi q hq
        omega
    · rcases (hmem p).1 hp with rfl | h1
      · exact hy
      · exact h.fits p h1
    · rcases (hmem p).1 hp with rfl | h1
      · exact ha
      · exact h.here p h1
    · rcases (hmem p).1 hp with rfl | h1
      · exact hin
      · exact h.inn p h1
  refine ⟨W, fun b => ?_⟩
  split
  · rename_i e
    subst e
    exact getW_mem W (p := (b, y)) ((hmem _).2 (.inl rfl))
  · rename_i e
    by_cases h0 : ∃ p ∈ ws, p.1 = b
    · obtain ⟨p, hp, rfl⟩ := h0
      rw [getW_mem h hp]
      exact getW_mem W (p := p) ((hmem p).2 (.inr hp))
    · rw [getW_none fun p hp e' => h0 ⟨p, hp, e'⟩]
      refine getW_none fun p hp e' => ?_
      rcases (hmem p).1 hp with rfl | h1
      · exact e e'.symm
      · exact h0 ⟨p, h1, e'⟩

/-! ### Bits -/

/-- a, without what is in b. -/
def andn (a b : Nat) : Nat := a ^^^ (a &&& b)
theorem andn_bit (a b j : Nat) : (andn a b).testBit j = (a.testBit j && !b.testBit j) := by
  simp only [andn, Nat.testBit_xor, Nat.testBit_and]
  cases a.testBit j <;> cases b.testBit j <;> rfl
theorem andn_le (a b : Nat) : andn a b ≤ a := Nat.le_of_testBit fun i h => by
  rw [andn_bit] at h
  simp only [Bool.and_eq_true] at h
  exact h.1
theorem or_fits {a b : Nat} (ha : a < 18446744073709551616) (hb : b < 18446744073709551616) : a ||| b < 18446744073709551616 := Nat.or_lt_two_pow (n := 64) ha hb
theorem bit_fits {j : Nat} (hj : j < 64) : 2 ^ j < 18446744073709551616 := Nat.pow_lt_pow_right (a := 2) (by decide) hj

theorem getD_set (r : List Bool) (i j : Nat) (b : Bool) (hi : i < r.length) : (r.set i b).getD j false = if j = i then b else r.getD j false := by
  rw [List.getD_eq_getElem?_getD, List.getD_eq_getElem?_getD, List.getElem?_set]
  by_cases h : i = j
  · subst h; simp [hi]
  · rw [if_neg h, if_neg (by omega)]

/-- Behind a turn of the word of i to what has i, or not. -/
theorem Rep.turned {r : List Bool} {ws ws' : List Wd} (h : Rep r ws) {i : Nat} (hi : i < r.length) {b : Bool} {y : Nat} (hW : WS r.length ws') (hg : ∀ a, getW ws' a = if a = i / 64 then y else getW ws a)
    (hy : ∀ j, y.testBit j = if j = i % 64 then b else (getW ws (i / 64)).testBit j) : Rep (r.set i b) ws' := by
  refine ⟨by simpa using hW, fun j => ?_⟩
  rw [getD_set _ _ _ _ hi]
  unfold memW
  rw [hg]
  by_cases hd : j / 64 = i / 64
  · rw [if_pos hd, hy]
    by_cases hm : j % 64 = i % 64
    · rw [if_pos hm, if_pos (by omega)]
    · rw [if_neg hm, if_neg (by omega), h.mem]
      unfold memW
      rw [hd]
  · rw [if_neg hd, if_neg (by rintro rfl; exact hd rfl), h.mem]
    rfl
theorem or_pow_bit (x k j : Nat) : (x ||| 2 ^ k).testBit j = if j = k then true else x.testBit j := by
  rw [Nat.testBit_or, Nat.testBit_two_pow]
  by_cases h : k = j
  · subst h; simp
  · simp [h, show ¬ j = k by omega]
theorem andn_pow_bit (x k j : Nat) : (andn x (2 ^ k)).testBit j = if j = k then false else x.testBit j := by
  rw [andn_bit, Nat.testBit_two_pow]
  by_cases h : k = j
  · subst h; simp
  · simp [h, show ¬ j = k by omega]
/-- 'x & 1 << k', told. -/
theorem and_pow (x k : Nat) : (x &&& 2 ^ k != 0) = x.testBit k := by
  rw [Bool.eq_iff_iff, bne_iff_ne]
  constructor
  · intro h
    obtain ⟨j, hj⟩ := Nat.exists_testBit_of_ne_zero h
    rw [Nat.testBit_and, Nat.testBit_two_pow] at hj
    simp only [Bool.and_eq_true, decide_eq_true_eq] at hj
    rw [hj.2]
    exact hj.1
  · intro h e
    have : (x &&& 2 ^ k).testBit k = true := by rw [Nat.testBit_and, h, Nat.testBit_two_pow_self]; rfl
    rw [e] at this
    simp at this
/-- 'x | 1 << k' is another one just if k was not in. -/
theorem or_pow_ne (x k : Nat) : (x ||| 2 ^ k != x) = !x.testBit k := by
  cases hb : x.testBit k
  · simp only [Bool.not_false, bne_iff_ne, ne_eq]
    intro e
    have : (x ||| 2 ^ k).testBit k = true := by rw [or_pow_bit]; simp
    rw [e, hb] at this
    cases this
  · simp only [Bool.not_true, bne_eq_false_iff_eq]
    apply Nat.eq_of_testBit_eq
    intro j
    rw [or_pow_bit]
    split
    · rename_i e; subst e; exact hb.symm
    · rfl
end Go.Proofs.YtkflmhpmnceniaaDoor.Plain
