/- Names in order, byte by byte: where one stands, which begin so, what is put among them, what lists of them have together. No program. -/
import Derived.Sort.Walk0
import Derived.Lib.RowBridge
import Derived.Lib.SlicesCompact
import Derived.Lib.BitFns
import Derived.Lib.Strings
set_option linter.unusedVariables false
namespace Go.Proofs.YtgcdekaceimdnaaGreat

abbrev Nm := List UInt8
theorem nm_nil_lt {a : UInt8} {x : Nm} : ([] : Nm) < a :: x := by simp
theorem nm_lt_nil {x : Nm} : ¬ x < ([] : Nm) := by simp
theorem nm_cons {a b : UInt8} {x y : Nm} : a :: x < b :: y ↔ a < b ∨ a = b ∧ x < y := List.cons_lt_cons_iff
theorem by_irr (a : UInt8) : ¬ a < a := by rw [UInt8.lt_iff_toNat_lt]; omega
theorem nm_irrefl : ∀ x : Nm, ¬ x < x
  | [] => nm_lt_nil
  | a :: x => by
    rw [nm_cons]
    rintro (h | ⟨_, h⟩)
    · exact by_irr a h
    · exact nm_irrefl x h
theorem nm_trans : ∀ {x y z : Nm}, x < y → y < z → x < z
  | _, [], _, h, _ => absurd h nm_lt_nil
  | _, _ :: _, [], _, h => absurd h nm_lt_nil
  | [], _ :: _, _ :: _, _, _ => nm_nil_lt
  | a :: x, b :: y, c :: z, h, k => by
    rw [nm_cons] at h k ⊢
    rcases h with h | ⟨rfl, h⟩
    · rcases k with k | ⟨rfl, k⟩
      · left; rw [UInt8.lt_iff_toNat_lt] at *; omega
      · exact .inl h
    · rcases k with k | ⟨rfl, k⟩
      · exact .inl k
      · exact .inr ⟨rfl, nm_trans h k⟩
theorem nm_tri : ∀ x y : Nm, x < y ∨ x = y ∨ y < x
  | [], [] => .inr (.inl rfl)
  | [], _ :: _ => .inl nm_nil_lt
  | _ :: _, [] => .inr (.inr nm_nil_lt)
  | a :: x, b :: y => by
    rw [nm_cons, nm_cons]
    by_cases h1 : a < b
    · exact .inl (.inl h1)
    · by_cases h2 : b < a
      · exact .inr (.inr (.inl h2))
      · have e : a = b := by
          rw [UInt8.lt_iff_toNat_lt] at h1 h2
          exact UInt8.toNat_inj.1 (by omega)
        subst e
        rcases nm_tri x y with h | rfl | h
        · exact .inl (.inr ⟨rfl, h⟩)
        · exact .inr (.inl rfl)
        · exact .inr (.inr (.inr ⟨rfl, h⟩))
theorem nm_asym {x y : Nm} (h : x < y) : ¬ y < x := fun k => nm_irrefl x (nm_trans h k)
theorem nm_ne {x y : Nm} (h : x < y) : x ≠ y := fun e => nm_irrefl y (e ▸ h)
theorem nm_le_lt {x y z : Nm} (h : ¬ y < x) (k : y < z) : x < z := by
  rcases nm_tri x y with h1 | rfl | h1
  · exact nm_trans h1 k
  · exact k
  · exact absurd h1 h
theorem nm_lt_le {x y z : Nm} (h : x < y) (k : ¬ z < y) : x < z := by
  rcases nm_tri y z with h1 | rfl | h1
  · exact nm_trans h h1
  · exact h
  · exact absurd h1 k

/-- Names that rise, each once. -/
def Rise (l : List Nm) : Prop := l.Pairwise (· < ·)
instance (l : List Nm) : Decidable (Rise l) := inferInstanceAs (Decidable (l.Pairwise (· < ·)))
def risesN (l : List Nm) : Bool := decide (Rise l)
theorem risesN_iff {l : List Nm} : risesN l = true ↔ Rise l := by simp [risesN]
theorem rise_at {l : List Nm} (h : Rise l) {i j : Nat} (hj : j < l.length) (hij : i < j) : l[i] < l[j] := List.pairwise_iff_getElem.1 h i j (by omega) hj hij
theorem rise_adj {l : List Nm} (h : ∀ i, (hi : i + 1 < l.length) → l[i] < l[i + 1]) : Rise l := by
  refine List.pairwise_iff_getElem.2 fun i j hi hj hij => ?_
  induction j with
  | zero => omega
  | succ j ih =>
    by_cases e : i = j
    · subst e; exact h i hj
    · exact nm_trans (ih (by omega) (by omega)) (h j hj)
theorem rise_bad {l : List Nm} {k : Nat} (hk : k < l.length) (h0 : 0 < k) (h : ¬ l[k - 1] < l[k]) : risesN l = false := by
  rw [← Bool.not_eq_true, risesN_iff]
  exact fun hr => h (rise_at hr hk (by omega))
theorem rise_good {l : List Nm} (h : ∀ i, (hi : i < l.length) → 0 < i → l[i - 1] < l[i]) : risesN l = true := by
  rw [risesN_iff]
  exact rise_adj fun i hi => by have := h (i + 1) hi (by omega); simpa using this

/-- Where a name stands, or would. -/
def placeN : List Nm → Nm → Nat
  | [], _ => 0
  | x :: l, s => if x < s then placeN l s + 1 else 0
def isN : List Nm → Nm → Bool
  | [], _ => false
  | x :: l, s => if x < s then isN l s else x == s
def putN : List Nm → Nm → List Nm
  | [], s => [s]
  | x :: l, s => if x < s then x :: putN l s else if x = s then x :: l else s :: x :: l
theorem placeN_le : ∀ (l : List Nm) (s : Nm), placeN l s ≤ l.length
  | [], _ => Nat.le_refl _
  | x :: l, s => by
    have := placeN_le l s
    simp only [placeN, List.length_cons]
    split <;> omega
theorem placeN_below : ∀ {l : List Nm} {s : Nm} {j : Nat} (hj : j < l.length), j < placeN l s → l[j] < s
  | [], _, _, h, _ => by simp at h
  | x :: l, s, j, hj, h => by
    simp only [placeN] at h
    split at h
    · rename_i hx
      cases j with
      | zero => exact hx
      | succ j => exact placeN_below (l := l) (by simpa using hj) (by omega)
    · omega
theorem placeN_stop : ∀ {l : List Nm} {s : Nm} (h : placeN l s < l.length), ¬ l[placeN l s] < s
  | [], _, h => by simp at h
  | x :: l, s, h => by
    by_cases hx : x < s
    · have e : placeN (x :: l) s = placeN l s + 1 := by simp [placeN, hx]
      have := placeN_stop (l := l) (s := s) (by rw [e] at h; simpa using h)
      simpa [e] using this
    · have e : placeN (x :: l) s = 0 := by simp [placeN, hx]
      simpa [e] using hx
theorem place_of {l : List Nm} {s : Nm} {k : Nat} (hk : k ≤ l.length) (h1 : ∀ j (hj : j < l.length), j < k → l[j] < s) (h2 : ∀ h : k < l.length, ¬ l[k] < s) : placeN l s = k := by
  have a := placeN_le l s
  rcases Nat.lt_trichotomy (placeN l s) k with h | h | h
  · exact absurd (h1 _ (by omega) h) (placeN_stop (by omega))
  · exact h
  · exact absurd (placeN_below (by omega) h) (h2 (by omega))
theorem isN_at : ∀ {l : List Nm} {s : Nm} (h : placeN l s < l.length), isN l s = (l[placeN l s] == s)
  | [], _, h => by simp at h
  | x :: l, s, h => by
    by_cases hx : x < s
    · have e : placeN (x :: l) s = placeN l s + 1 := by simp [placeN, hx]
      have e2 : isN (x :: l) s = isN l s := by simp [isN, hx]
      have := isN_at (l := l) (s := s) (by rw [e] at h; simpa using h)
      rw [e2, this]
      simp [e]
    · have e : placeN (x :: l) s = 0 := by simp [placeN, hx]
      simp [e, isN, hx]
theorem isN_end : ∀ {l : List Nm} {s : Nm}, placeN l s = l.length → isN l s = false
  | [], _, _ => rfl
  | x :: l, s, h => by
    by_cases hx : x < s
    · have e : placeN (x :: l) s = placeN l s + 1 := by simp [placeN, hx]
      rw [e] at h
      simpa [isN, hx] using isN_end (l := l) (s := s) (by simpa using h)
    · have e : placeN (x :: l) s = 0 := by simp [placeN, hx]
      rw [e] at h
      simp at h
/-- What is found at a place where all ahead are below. -/
theorem found_of {l : List Nm} {s : Nm} {k : Nat} (hk : k < l.length) (h1 : ∀ j (hj : j < l.length), j < k → l[j] < s) (h2 : l[k] = s) : placeN l s = k ∧ isN l s = true := by
  have e := place_of (s := s) (by omega) h1 (fun _ => by rw [h2]; exact nm_irrefl s)
  subst e
  exact ⟨rfl, by rw [isN_at hk, h2]; simp⟩
theorem missed_of {l : List Nm} {s : Nm} {k : Nat} (hk : k ≤ l.length) (h1 : ∀ j (hj : j < l.length), j < k → l[j] < s) (h2 : ∀ h : k < l.length, s < l[k]) : placeN l s = k ∧ isN l s = false := by
  have e := place_of (s := s) hk h1 (fun h => nm_asym (h2 h))
  subst e
  refine ⟨rfl, ?_⟩
  by_cases h : placeN l s < l.length
  · rw [isN_at h]
    simpa using (nm_ne (h2 h)).symm
  · exact isN_end (by have := placeN_le l s; omega)
theorem isN_found {l : List Nm} {s : Nm} (h : isN l s = true) : ∃ hk : placeN l s < l.length, l[placeN l s] = s := by
  by_cases hk : placeN l s < l.length
  · rw [isN_at hk] at h
    exact ⟨hk, by simpa using h⟩
  · rw [isN_end (by have := placeN_le l s; omega)] at h
    cases h
theorem isN_own {l : List Nm} (hr : Rise l) {i : Nat} (hi : i < l.length) : placeN l l[i] = i ∧ isN l l[i] = true :=
  found_of hi (fun j hj hji => rise_at hr hi hji) rfl
/-- How two names compare. -/
def cmpN (x s : Nm) : Int := if x < s then -1 else if x = s then 0 else 1

theorem putN_is : ∀ {l : List Nm} {s : Nm}, isN l s = true → putN l s = l
  | [], _, h => by cases h
  | x :: l, s, h => by
    by_cases hx : x < s
    · rw [isN, if_pos hx] at h
      rw [putN, if_pos hx, putN_is h]
    · rw [isN, if_neg hx] at h
      rw [putN, if_neg hx, if_pos (by simpa using h)]
theorem putN_not : ∀ {l : List Nm} {s : Nm}, isN l s = false → putN l s = l.take (placeN l s) ++ [s] ++ l.drop (placeN l s)
  | [], _, h => rfl
  | x :: l, s, h => by
    by_cases hx : x < s
    · rw [isN, if_pos hx] at h
      rw [putN, if_pos hx, putN_not h, placeN, if_pos hx]
      simp
    · rw [isN, if_neg hx] at h
      rw [putN, if_neg hx, if_neg (by simpa using h), placeN, if_neg hx]
      simp
theorem mem_putN : ∀ {l : List Nm} {s x : Nm}, x ∈ putN l s ↔ x = s ∨ x ∈ l
  | [], s, x => by simp [putN]
  | y :: l, s, x => by
    rw [putN]
    split
    · rw [List.mem_cons, mem_putN, List.mem_cons]; exact or_left_comm
    · split
      · rename_i e
        subst e
        rw [List.mem_cons]
        exact ⟨fun h => .inr h, fun h => h.elim .inl id⟩
      · rw [List.mem_cons, List.mem_cons]
theorem rise_putN : ∀ {l : List Nm} {s : Nm}, Rise l → Rise (putN l s)
  | [], s, _ => by simp [putN, Rise]
  | y :: l, s, h => by
    have h' := List.pairwise_cons.1 h
    rw [putN]
    split
    · rename_i hy
      refine List.pairwise_cons.2 ⟨fun a ha => ?_, rise_putN h'.2⟩
      rcases mem_putN.1 ha with rfl | ha
      · exact hy
      · exact h'.1 a ha
    · rename_i hy
      split
      · exact h
      · rename_i hne
        have hs : s < y := ((nm_tri y s).resolve_left hy).resolve_left hne
        refine List.pairwise_cons.2 ⟨fun a ha => ?_, h⟩
        rcases List.mem_cons.1 ha with rfl | ha
        · exact hs
        · exact nm_trans hs (h'.1 a ha)
theorem putN_length (l : List Nm) (s : Nm) : (putN l s).length ≤ l.length + 1 := by
  cases h : isN l s with
  | true => rw [putN_is h]; omega
  | false => rw [putN_not h]; have := placeN_le l s; simp; omega
/-- Names that rise are known by what they are. -/
theorem rise_ext : ∀ {a b : List Nm}, Rise a → Rise b → (∀ x, x ∈ a ↔ x ∈ b) → a = b
  | [], [], _, _, _ => rfl
  | [], y :: b, _, _, h => absurd ((h y).2 (List.mem_cons_self ..)) (by simp)
  | x :: a, [], _, _, h => absurd ((h x).1 (List.mem_cons_self ..)) (by simp)
  | x :: a, y :: b, ha, hb, h => by
    have ha' := List.pairwise_cons.1 ha
    have hb' := List.pairwise_cons.1 hb
    have e : x = y := by
      rcases List.mem_cons.1 ((h x).1 (List.mem_cons_self ..)) with e | h1
      · exact e
      · rcases List.mem_cons.1 ((h y).2 (List.mem_cons_self ..)) with e | h2
        · exact e.symm
        · exact absurd (ha'.1 y h2) (nm_asym (hb'.1 x h1))
    subst e
    congr 1
    refine rise_ext ha'.2 hb'.2 fun z => ⟨fun hz => ?_, fun hz => ?_⟩
    · rcases List.mem_cons.1 ((h z).1 (List.mem_cons_of_mem _ hz)) with rfl | h1
      · exact absurd (ha'.1 z hz) (nm_irrefl z)
      · exact h1
    · rcases List.mem_cons.1 ((h z).2 (List.mem_cons_of_mem _ hz)) with rfl | h1
      · exact absurd (hb'.1 z hz) (nm_irrefl z)
      · exact h1

/-- Names made of any: the first n, the first 8 bytes of each. -/
def goodN (l : List Nm) (n : Nat) : List Nm := (l.take n).foldl (fun a x => putN a (x.take 8)) []
theorem goodN_zero (l : List Nm) : goodN l 0 = [] := rfl
theorem goodN_succ {l : List Nm} {k : Nat} (hk : k < l.length) : goodN l (k + 1) = putN (goodN l k) (l[k].take 8) := by
  rw [goodN, List.take_succ_eq_append_getElem hk, List.foldl_append]; rfl
theorem goodN_all {l : List Nm} {k n : Nat} (hk : l.length ≤ k) (hn : k ≤ n) : goodN l k = goodN l n := by
  rw [goodN, goodN, List.take_of_length_le hk, List.take_of_length_le (by omega)]
theorem goodN_min (l : List Nm) (n : Nat) : goodN l (min n l.length) = goodN l n := by
  rcases Nat.le_total n l.length with h | h
  · rw [Nat.min_eq_left h]
  · rw [Nat.min_eq_right h]; exact goodN_all (Nat.le_refl _) h
structure Good (g : List Nm) : Prop where
  rise : Rise g
  eight : ∀ x ∈ g, x.length ≤ 8
theorem good_goodN (l : List Nm) (n : Nat) : Good (goodN l n) ∧ (goodN l n).length ≤ n := by
  have : ∀ k, k ≤ l.length → Good (goodN l k) ∧ (goodN l k).length ≤ k := by
    intro k
    induction k with
    | zero => intro _; exact ⟨⟨List.Pairwise.nil, fun x hx => by cases hx⟩, Nat.le_refl _⟩
    | succ k ih =>
      intro hk
      obtain ⟨h1, h2⟩ := ih (by omega)
      rw [goodN_succ (by omega)]
      refine ⟨⟨rise_putN h1.rise, fun x hx => ?_⟩, by have := putN_length (goodN l k) (l[k].take 8); omega⟩
      rcases mem_putN.1 hx with rfl | hx
      · rw [List.length_take]; omega
      · exact h1.eight x hx
  have h := this (min n l.length) (by omega)
  rw [goodN_min] at h
  exact ⟨h.1, by omega⟩

/-- All names of lists. -/
def joinN (ls : List (List Nm)) : List Nm := ls.flatten.foldl putN []
theorem mem_foldl_putN : ∀ (xs : List Nm) (a : List Nm) (x : Nm), x ∈ xs.foldl putN a ↔ x ∈ xs ∨ x ∈ a
  | [], a, x => by simp
  | y :: xs, a, x => by
    rw [List.foldl_cons, mem_foldl_putN xs, mem_putN, List.mem_cons]
    constructor
    · rintro (h | h | h)
      · exact .inl (.inr h)
      · exact .inl (.inl h)
      · exact .inr h
    · rintro ((h | h) | h)
      · exact .inr (.inl h)
      · exact .inl h
      · exact .inr (.inr h)
theorem rise_foldl_putN : ∀ (xs : List Nm) (a : List Nm), Rise a → Rise (xs.foldl putN a)
  | [], a, h => h
  | y :: xs, a, h => rise_foldl_putN xs _ (rise_putN h)
theorem rise_joinN (ls : List (List Nm)) : Rise (joinN ls) := rise_foldl_putN _ _ List.Pairwise.nil
theorem mem_joinN {ls : List (List Nm)} {x : Nm} : x ∈ joinN ls ↔ ∃ a ∈ ls, x ∈ a := by
  rw [joinN, mem_foldl_putN]
  simp [List.mem_flatten]
theorem joinN_of {ls : List (List Nm)} {r : List Nm} (h : Rise r) (hm : ∀ x, x ∈ r ↔ ∃ a ∈ ls, x ∈ a) : r = joinN ls :=
  rise_ext h (rise_joinN ls) fun x => by rw [hm, mem_joinN]
theorem foldl_putN_length : ∀ (xs a : List Nm), (xs.foldl putN a).length ≤ xs.length + a.length
  | [], a => by simp
  | y :: xs, a => by
    rw [List.foldl_cons, List.length_cons]
    have := foldl_putN_length xs (putN a y)
    have := putN_length a y
    omega

/-- One list, sorted, each name once. -/
def sortN (l : List Nm) : List Nm := Lib.compact (l.mergeSort fun x y => decide (x ≤ y))
theorem nm_le {x y : Nm} : x ≤ y ↔ ¬ y < x := Iff.rfl
theorem sorted_le (l : List Nm) : (l.mergeSort fun x y => decide (x ≤ y)).Pairwise (fun x y => ¬ y < x) := by
  have h := List.pairwise_mergeSort (le := fun x y : Nm => decide (x ≤ y)) (fun a b c h1 h2 => decide_eq_true (show ¬ c < a from fun h => (of_decide_eq_true h2 : ¬ c < b) (nm_lt_le h (of_decide_eq_true h1 : ¬ b < a)))) (fun a b => by
    by_cases h : b < a
    · rw [Bool.or_eq_true]; exact .inr (decide_eq_true (show ¬ a < b from nm_asym h))
    · rw [Bool.or_eq_true]; exact .inl (decide_eq_true (show ¬ b < a from h))) l
  exact h.imp fun {a b} hab => (of_decide_eq_true hab : ¬ b < a)
theorem compact_mem {l : List Nm} (x : Nm) : x ∈ Lib.compact l ↔ x ∈ l := by
  unfold Lib.compact
  have : ∀ m, m ≤ l.length → (x ∈ Lib.compactUpTo l.toArray m ↔ x ∈ l.take m) := by
    intro m
    induction m with
    | zero => intro _; simp [Lib.compactUpTo]
    | succ m ih =>
      intro hm
      have hg : l.toArray[m]! = l[m] := by rw [getElem!_pos l.toArray m (by simp; omega)]; simp
      rw [Lib.compactUpTo_succ, List.mem_append, ih (by omega), List.take_succ_eq_append_getElem (by omega), List.mem_append, hg]
      by_cases hk : Lib.keeps l.toArray m = true
      · rw [if_pos hk]
      · rw [if_neg hk]
        have hk' : m ≠ 0 ∧ l.toArray[m]! = l.toArray[m - 1]! := by
          simp only [Lib.keeps, decide_eq_true_eq, not_or, Decidable.not_not] at hk
          exact hk
        have hg1 : l.toArray[m - 1]! = l[m - 1] := by rw [getElem!_pos l.toArray (m - 1) (by simp; omega)]; simp
        rw [hg, hg1] at hk'
        constructor
        · rintro (h | h)
          · exact .inl h
          · cases h
        · rintro (h | h)
          · exact .inl h
          · rw [List.mem_singleton] at h
            left
            rw [h, hk'.2]
            exact List.mem_take_iff_getElem.2 ⟨m - 1, by omega, rfl⟩
  have h := this l.length (Nat.le_refl _)
  rwa [List.take_length] at h
theorem compact_rise {l : List Nm} (hl : l.Pairwise (fun x y => ¬ y < x)) : Rise (Lib.compact l) := by
  unfold Lib.compact
  have : ∀ m, m ≤ l.length → Rise (Lib.compactUpTo l.toArray m) ∧ ∀ x ∈ Lib.compactUpTo l.toArray m, ∃ j, j < m ∧ l[j]? = some x := by
    intro m
    induction m with
    | zero => intro _; simp [Lib.compactUpTo, Rise]
    | succ m ih =>
      intro hm
      obtain ⟨h1, h2⟩ := ih (by omega)
      have hg : l.toArray[m]! = l[m] := by rw [getElem!_pos l.toArray m (by simp; omega)]; simp
      rw [Lib.compactUpTo_succ, hg]
      by_cases hk : Lib.keeps l.toArray m = true
      · rw [if_pos hk]
        refine ⟨List.pairwise_append.2 ⟨h1, List.pairwise_singleton _ _, fun a ha b hb => ?_⟩, fun x hx => ?_⟩
        · rw [List.mem_singleton] at hb
          subst hb
          obtain ⟨j, hj, hja⟩ := h2 a ha
          obtain ⟨hjl, rfl⟩ := List.getElem?_eq_some_iff.1 hja
          have hm0 : m ≠ 0 := by omega
          have hg1 : l.toArray[m - 1]! = l[m - 1] := by rw [getElem!_pos l.toArray (m - 1) (by simp; omega)]; simp
          have hne : l[m] ≠ l[m - 1] := by
            simp only [Lib.keeps, decide_eq_true_eq] at hk
            have := hk.resolve_left hm0
            rwa [hg, hg1] at this
          have hlt : l[m - 1] < l[m] := by
            have h3 := List.pairwise_iff_getElem.1 hl (m - 1) m (by omega) (by omega) (by omega)
            rcases nm_tri l[m - 1] l[m] with h | h | h
            · exact h
            · exact absurd h.symm hne
            · exact absurd h h3
          by_cases e : j = m - 1
          · subst e; exact hlt
          · exact nm_le_lt (List.pairwise_iff_getElem.1 hl j (m - 1) (by omega) (by omega) (by omega)) hlt
        · rcases List.mem_append.1 hx with hx | hx
          · obtain ⟨j, hj, hja⟩ := h2 x hx
            exact ⟨j, by omega, hja⟩
          · rw [List.mem_singleton] at hx
            subst hx
            exact ⟨m, by omega, by simp⟩
      · rw [if_neg hk, List.append_nil]
        exact ⟨h1, fun x hx => by obtain ⟨j, hj, hja⟩ := h2 x hx; exact ⟨j, by omega, hja⟩⟩
  exact (this l.length (Nat.le_refl _)).1
theorem rise_sortN (l : List Nm) : Rise (sortN l) := compact_rise (sorted_le l)
theorem mem_sortN {l : List Nm} (x : Nm) : x ∈ sortN l ↔ x ∈ l := by rw [sortN, compact_mem, List.mem_mergeSort]
theorem sortN_length (l : List Nm) : (sortN l).length ≤ l.length := by
  have := Lib.compact_length_le (l.mergeSort fun x y => decide (x ≤ y))
  rw [List.length_mergeSort] at this
  exact this

/-- Two lists that rise, laid together. -/
def mergeN : List Nm → List Nm → List Nm
  | [], b => b
  | a, [] => a
  | x :: a, y :: b => if x < y then x :: mergeN a (y :: b) else if x = y then mergeN a (y :: b) else y :: mergeN (x :: a) b
termination_by a b => a.length + b.length
theorem mergeN_nil (a : List Nm) : mergeN a [] = a := by cases a <;> simp [mergeN]
theorem nil_mergeN (b : List Nm) : mergeN [] b = b := by simp [mergeN]
theorem mem_mergeN : ∀ (a b : List Nm) (x : Nm), x ∈ mergeN a b ↔ x ∈ a ∨ x ∈ b
  | [], b, x => by simp [mergeN]
  | y :: a, [], x => by simp [mergeN]
  | y :: a, z :: b, x => by
    rw [mergeN]
    split
    · rw [List.mem_cons, mem_mergeN a (z :: b), List.mem_cons (a := x) (b := y), or_assoc]
    · split
      · rename_i e
        subst e
        rw [mem_mergeN a (y :: b)]
        simp only [List.mem_cons]
        exact ⟨fun h => h.elim (fun h => .inl (.inr h)) .inr, fun h => h.elim (fun h => h.elim (fun h => .inr (.inl h)) .inl) .inr⟩
      · rw [List.mem_cons, mem_mergeN (y :: a) b, List.mem_cons (a := x) (b := z)]
        exact or_left_comm
termination_by a b => a.length + b.length
theorem rise_mergeN : ∀ {a b : List Nm}, Rise a → Rise b → Rise (mergeN a b)
  | [], b, _, h => by rw [nil_mergeN]; exact h
  | y :: a, [], h, _ => by rw [mergeN_nil]; exact h
  | y :: a, z :: b, ha, hb => by
    have ha' := List.pairwise_cons.1 ha
    have hb' := List.pairwise_cons.1 hb
    rw [mergeN]
    split
    · rename_i h
      refine List.pairwise_cons.2 ⟨fun x hx => ?_, rise_mergeN ha'.2 hb⟩
      rcases (mem_mergeN _ _ _).1 hx with hx | hx
      · exact ha'.1 x hx
      · rcases List.mem_cons.1 hx with rfl | hx
        · exact h
        · exact nm_trans h (hb'.1 x hx)
    · rename_i h
      split
      · exact rise_mergeN ha'.2 hb
      · rename_i hne
        have hz : z < y := ((nm_tri y z).resolve_left h).resolve_left hne
        refine List.pairwise_cons.2 ⟨fun x hx => ?_, rise_mergeN ha hb'.2⟩
        rcases (mem_mergeN _ _ _).1 hx with hx | hx
        · rcases List.mem_cons.1 hx with rfl | hx
          · exact hz
          · exact nm_trans hz (ha'.1 x hx)
        · exact hb'.1 x hx
termination_by a b => a.length + b.length
theorem mergeN_length : ∀ (a b : List Nm), (mergeN a b).length ≤ a.length + b.length
  | [], b => by simp [mergeN]
  | y :: a, [] => by simp [mergeN]
  | y :: a, z :: b => by
    rw [mergeN]
    split
    · have := mergeN_length a (z :: b); simp only [List.length_cons] at *; omega
    · split
      · have := mergeN_length a (z :: b); simp only [List.length_cons] at *; omega
      · have := mergeN_length (y :: a) b; simp only [List.length_cons] at *; omega
termination_by a b => a.length + b.length

/-- Does a name begin so? -/
def beginsN (x t : Nm) : Bool := t.isPrefixOf x
theorem beginsN_take {x t : Nm} : beginsN x t = true ↔ t.length ≤ x.length ∧ x.take t.length = t := by
  rw [beginsN, List.isPrefixOf_iff_prefix]
  constructor
  · rintro ⟨r, rfl⟩
    simp
  · rintro ⟨_, h⟩
    exact ⟨x.drop t.length, by conv => lhs; lhs; rw [← h]
                               exact List.take_append_drop _ _⟩
theorem begins_ge : ∀ {x t : Nm}, beginsN x t = true → ¬ x < t
  | x, [], _ => nm_lt_nil
  | [], b :: t, h => by simp [beginsN] at h
  | a :: x, b :: t, h => by
    simp only [beginsN, List.isPrefixOf_cons_cons, Bool.and_eq_true, beq_iff_eq] at h
    obtain ⟨rfl, h⟩ := h
    rw [nm_cons]
    rintro (h1 | ⟨_, h1⟩)
    · exact by_irr _ h1
    · exact begins_ge h h1
theorem begins_mid : ∀ {t x y : Nm}, ¬ x < t → x < y → beginsN y t = true → beginsN x t = true
  | [], x, y, _, _, _ => by simp [beginsN]
  | b :: t, [], y, h, _, _ => absurd nm_nil_lt h
  | b :: t, a :: x, [], _, h, _ => absurd h nm_lt_nil
  | b :: t, a :: x, c :: y, h1, h2, h3 => by
    simp only [beginsN, List.isPrefixOf_cons_cons, Bool.and_eq_true, beq_iff_eq] at h3 ⊢
    obtain ⟨rfl, h3⟩ := h3
    rw [nm_cons, not_or] at h1
    rw [nm_cons] at h2
    have e : b = a := by
      rcases h2 with h2 | ⟨e, _⟩
      · exact absurd h2 h1.1
      · exact e.symm
    subst e
    refine ⟨rfl, ?_⟩
    rcases h2 with h2 | ⟨_, h2⟩
    · exact absurd h2 (by_irr _)
    · exact begins_mid (fun h => h1.2 ⟨rfl, h⟩) h2 h3

/-- How many begin so, from the head on. -/
def runN : List Nm → Nm → Nat
  | [], _ => 0
  | x :: l, t => if beginsN x t then runN l t + 1 else 0
theorem runN_le : ∀ (l : List Nm) (t : Nm), runN l t ≤ l.length
  | [], _ => Nat.le_refl _
  | x :: l, t => by
    have := runN_le l t
    simp only [runN, List.length_cons]
    split <;> omega
theorem runN_of : ∀ {l : List Nm} {t : Nm} {k : Nat}, k ≤ l.length → (∀ j (hj : j < l.length), j < k → beginsN l[j] t = true) → (∀ h : k < l.length, beginsN l[k] t = false) → runN l t = k
  | [], t, k, hk, _, _ => by simp at hk; subst hk; rfl
  | x :: l, t, 0, _, _, h2 => by simp [runN, show beginsN x t = false from h2 (by simp)]
  | x :: l, t, k + 1, hk, h1, h2 => by
    have hx : beginsN x t = true := h1 0 (by simp) (by omega)
    have := runN_of (l := l) (t := t) (k := k) (by simpa using hk) (fun j hj hjk => h1 (j + 1) (by simpa using hj) (by omega)) (fun h => h2 (by simpa using h))
    simp [runN, hx, this]
theorem runN_in : ∀ {l : List Nm} {t : Nm} {j : Nat} (hj : j < l.length), j < runN l t → beginsN l[j] t = true
  | [], _, _, h, _ => by simp at h
  | x :: l, t, j, hj, h => by
    simp only [runN] at h
    split at h
    · rename_i hx
      cases j with
      | zero => exact hx
      | succ j => exact runN_in (l := l) (by simpa using hj) (by omega)
    · omega
theorem runN_stop : ∀ {l : List Nm} {t : Nm} (h : runN l t < l.length), beginsN l[runN l t] t = false
  | [], _, h => by simp at h
  | x :: l, t, h => by
    by_cases hx : beginsN x t = true
    · have e : runN (x :: l) t = runN l t + 1 := by simp [runN, hx]
      have := runN_stop (l := l) (t := t) (by rw [e] at h; simpa using h)
      simpa [e] using this
    · have e : runN (x :: l) t = 0 := by simp [runN, hx]
      simpa [e] using hx
/-- Up to which place names begin so. -/
def endN (l : List Nm) (t : Nm) : Nat := placeN l t + runN (l.drop (placeN l t)) t
theorem endN_le (l : List Nm) (t : Nm) : endN l t ≤ l.length := by
  have h1 := placeN_le l t
  have h2 := runN_le (l.drop (placeN l t)) t
  rw [List.length_drop] at h2
  unfold endN
  omega
/-- Behind a name that does not begin so, from the place on, none does. -/
theorem begins_behind {l : List Nm} (hr : Rise l) {t : Nm} {i j : Nat} (hj : j < l.length) (hij : i ≤ j) (hp : placeN l t ≤ i) (h : beginsN l[i] t = false) : beginsN l[j] t = false := by
  by_cases e : i = j
  · subst e; exact h
  · rw [← Bool.not_eq_true]
    intro hb
    have hge : ¬ l[i] < t := by
      by_cases e2 : placeN l t = i
      · have := placeN_stop (l := l) (s := t) (by omega)
        simpa [e2] using this
      · have h1 := placeN_stop (l := l) (s := t) (by omega)
        have h2 : l[placeN l t] < l[i] := rise_at hr (by omega) (by omega)
        exact fun h3 => h1 (nm_trans h2 h3)
    have := begins_mid hge (rise_at hr hj (by omega)) hb
    rw [this] at h
    cases h
/-- Just those between begin so. -/
theorem begins_iff {l : List Nm} (hr : Rise l) {t : Nm} {i : Nat} (hi : i < l.length) : beginsN l[i] t = decide (placeN l t ≤ i ∧ i < endN l t) := by
  by_cases h1 : i < placeN l t
  · have h2 : beginsN l[i] t = false := by
      rw [← Bool.not_eq_true]
      exact fun h => begins_ge h (placeN_below hi h1)
    rw [h2]; symm; rw [decide_eq_false_iff_not]; omega
  · by_cases h2 : i < endN l t
    · have h3 : beginsN l[i] t = true := by
        have := runN_in (l := l.drop (placeN l t)) (t := t) (j := i - placeN l t) (by rw [List.length_drop]; omega) (by unfold endN at h2; omega)
        rw [List.getElem_drop] at this
        simpa [show placeN l t + (i - placeN l t) = i by omega] using this
      rw [h3]; symm; rw [decide_eq_true_eq]; omega
    · have h3 : beginsN l[i] t = false := by
        have h4 : runN (l.drop (placeN l t)) t < (l.drop (placeN l t)).length := by rw [List.length_drop]; unfold endN at h2; omega
        have h5 := runN_stop h4
        rw [List.getElem_drop] at h5
        exact begins_behind hr (i := placeN l t + runN (l.drop (placeN l t)) t) hi (by unfold endN at h2; omega) (by omega) h5
      rw [h3]; symm; rw [decide_eq_false_iff_not]; omega
/-- How many of the first n are so, where those that are stand ahead. -/
theorem countP_run {q : Nat → Bool} {n k : Nat} (hk : k ≤ n) (h1 : ∀ i, i < k → q i = true) (h2 : ∀ i, k ≤ i → i < n → q i = false) : (List.range n).countP q = k := by
  induction n with
  | zero => simp; omega
  | succ n ih =>
    rw [List.range_succ, List.countP_append]
    by_cases e : k = n + 1
    · subst e
      have : (List.range n).countP q = n := by
        have := (List.countP_eq_length (p := q) (l := List.range n)).2 (fun a ha => h1 a (by have := List.mem_range.1 ha; omega))
        simpa using this
      rw [this]
      simp [h1 n (by omega)]
    · rw [ih (by omega) (fun i hi hin => h2 i hi (by omega))]
      simp [h2 n (by omega) (by omega)]

/-- How many digits to the base 2. -/
theorem bitLenAux_step (f x : Nat) (h : 0 < x) : Lib.bitLenAux (f + 1) x = 1 + Lib.bitLenAux f (x / 2) := by rw [Lib.bitLenAux, if_neg (by omega)]
theorem bitLenAux_more : ∀ (f x : Nat), x < 2 ^ f → Lib.bitLenAux (f + 1) x = Lib.bitLenAux f x
  | 0, x, h => by simp [Lib.bitLenAux]; omega
  | f + 1, x, h => by
    by_cases h0 : x = 0
    · subst h0; simp [Lib.bitLenAux]
    · have hh : x / 2 < 2 ^ f := by rw [Nat.pow_succ] at h; omega
      rw [bitLenAux_step (f + 1) x (by omega), bitLenAux_step f x (by omega), bitLenAux_more f (x / 2) hh]
theorem bitLen_step {x : Nat} (h : 0 < x) (hx : x < 2 ^ 64) : Lib.bitLen x = Lib.bitLen (x / 2) + 1 := by
  unfold Lib.bitLen
  rw [bitLenAux_step 63 x h, bitLenAux_more 63 (x / 2) (by omega)]
  omega
theorem bitLen_zero : Lib.bitLen 0 = 0 := rfl
theorem bitLenAux_le : ∀ (f x : Nat), Lib.bitLenAux f x ≤ f
  | 0, _ => by simp [Lib.bitLenAux]
  | f + 1, x => by
    rw [Lib.bitLenAux]
    have := bitLenAux_le f (x / 2)
    split <;> omega
theorem bitLen_le (x : Nat) : Lib.bitLen x ≤ 64 := bitLenAux_le 64 x
end Go.Proofs.YtgcdekaceimdnaaGreat
