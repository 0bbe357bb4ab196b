/- Texts laid together: Plain07, Plain08, Plain12, Nms07, Fld08. -/
import Derived.Sort.Walk0
import Derived.Lib.RowBridge
import Derived.Lib.SlicesCompact
import Derived.Lib.BitFns
import Derived.Lib.Strings
import Derived.Test.YtolfkhflbjnakaaGreatDoorNAQ03
import Derived.Sort.OwnSorted
import Derived.Test.YtolfkhflbjnakaaGreatDoorNAQ02

/- Names in order, byte by byte: where one stands, which begin so, what is put among them, what lists of them have together. No program. -/
set_option linter.unusedVariables false
namespace Go.Proofs.YtolfkhflbjnakaaGreatDoor

abbrev Nm := List UInt8
theorem nm_nil_lt {a : UInt8} {x : Nm} : ([] : Nm) < a :: x := by simp
theorem nm_lt_nil {x : Nm} : ¬ x < ([] : Nm) := by simp
theorem nm_cons {a b : UInt8} {x y : Nm} : a :: x < b :: y ↔ a < b ∨ a = b ∧ x < y := List.cons_lt_cons_iff
theorem by_irr (a : UInt8) : ¬ a < a := by rw [UInt8.lt_iff_toNat_lt]; omega
theorem nm_irrefl : ∀ x : Nm, ¬ x < x
  | [] => nm_lt_nil
  | a :: x => by
    rw [nm_cons]
    rintro (h | ⟨_, h⟩)
    · exact by_irr a h
    · exact nm_irrefl x h
theorem nm_trans : ∀ {x y z : Nm}, x < y → y < z → x < z
  | _, [], _, h, _ => absurd h nm_lt_nil
  | _, _ :: _, [], _, h => absurd h nm_lt_nil
  | [], _ :: _, _ :: _, _, _ => nm_nil_lt
  | a :: x, b :: y, c :: z, h, k => by
    rw [nm_cons] at h k ⊢
    rcases h with h | ⟨rfl, h⟩
    · rcases k with k | ⟨rfl, k⟩
      · left; rw [UInt8.lt_iff_toNat_lt] at *; omega
      · exact .inl h
    · rcases k with k | ⟨rfl, k⟩
      · exact .inl k
      · exact .inr ⟨rfl, nm_trans h k⟩
theorem nm_tri : ∀ x y : Nm, x < y ∨ x = y ∨ y < x
  | [], [] => .inr (.inl rfl)
  | [], _ :: _ => .inl nm_nil_lt
  | _ :: _, [] => .inr (.inr nm_nil_lt)
  | a :: x, b :: y => by
    rw [nm_cons, nm_cons]
    by_cases h1 : a < b
    · exact .inl (.inl h1)
    · by_cases h2 : b < a
      · exact .inr (.inr (.inl h2))
      · have e : a = b := by
          rw [UInt8.lt_iff_toNat_lt] at h1 h2
          exact UInt8.toNat_inj.1 (by omega)
        subst e
        rcases nm_tri x y with h | rfl | h
        · exact .inl (.inr ⟨rfl, h⟩)
        · exact .inr (.inl rfl)
        · exact .inr (.inr (.inr ⟨rfl, h⟩))
theorem nm_asym {x y : Nm} (h : x < y) : ¬ y < x := fun k => nm_irrefl x (nm_trans h k)
theorem nm_ne {x y : Nm} (h : x < y) : x ≠ y := fun e => nm_irrefl y (e ▸ h)
theorem nm_le_lt {x y z : Nm} (h : ¬ y < x) (k : y < z) : x < z := by
  rcases nm_tri x y with h1 | rfl | h1
  · exact nm_trans h1 k
  · exact k
  · exact absurd h1 h
theorem nm_lt_le {x y z : Nm} (h : x < y) (k : ¬ z < y) : x < z := by
  rcases nm_tri y z with h1 | rfl | h1
  · exact nm_trans h h1
  · exact h
  · exact absurd h1 k

/-- Names that rise, each once. -/
def Rise (l : List Nm) : Prop := l.Pairwise (· < ·)
instance (l : List Nm) : Decidable (Rise l) := inferInstanceAs (Decidable (l.Pairwise (· < ·)))
def risesN (l : List Nm) : Bool := decide (Rise l)
theorem risesN_iff {l : List Nm} : risesN l = true ↔ Rise l := by simp [risesN]
theorem rise_at {l : List Nm} (h : Rise l) {i j : Nat} (hj : j < l.length) (hij : i < j) : l[i] < l[j] := List.pairwise_iff_getElem.1 h i j (by omega) hj hij
theorem rise_adj {l : List Nm} (h : ∀ i, (hi : i + 1 < l.length) → l[i] < l[i + 1]) : Rise l := by
  refine List.pairwise_iff_getElem.2 fun i j hi hj hij => ?_
  induction j with
  | zero => omega
  | succ j ih =>
    by_cases e : i = j
    · subst e; exact h i hj
    · exact nm_trans (ih (by omega) (by omega)) (h j hj)
theorem rise_bad {l : List Nm} {k : Nat} (hk : k < l.length) (h0 : 0 < k) (h : ¬ l[k - 1] < l[k]) : risesN l = false := by
  rw [← Bool.not_eq_true, risesN_iff]
  exact fun hr => h (rise_at hr hk (by omega))
theorem rise_good {l : List Nm} (h : ∀ i, (hi : i < l.length) → 0 < i → l[i - 1] < l[i]) : risesN l = true := by
  rw [risesN_iff]
  exact rise_adj fun i hi => by have := h (i + 1) hi (by omega); simpa using this

/-- Where a name stands, or would. -/
def placeN : List Nm → Nm → Nat
  | [], _ => 0
  | x :: l, s => if x < s then placeN l s + 1 else 0
def isN : List Nm → Nm → Bool
  | [], _ => false
  | x :: l, s => if x < s then isN l s else x == s
def putN : List Nm → Nm → List Nm
  | [], s => [s]
  | x :: l, s => if x < s then x :: putN l s else if x = s then x :: l else s :: x :: l
theorem placeN_le : ∀ (l : List Nm) (s : Nm), placeN l s ≤ l.length
  | [], _ => Nat.le_refl _
  | x :: l, s => by
    have := placeN_le l s
    simp only [placeN, List.length_cons]
    split <;> omega
theorem placeN_below : ∀ {l : List Nm} {s : Nm} {j : Nat} (hj : j < l.length), j < placeN l s → l[j] < s
  | [], _, _, h, _ => by simp at h
  | x :: l, s, j, hj, h => by
    simp only [placeN] at h
    split at h
    · rename_i hx
      cases j with
      | zero => exact hx
      | succ j => exact placeN_below (l := l) (by simpa using hj) (by omega)
    · omega
theorem placeN_stop : ∀ {l : List Nm} {s : Nm} (h : placeN l s < l.length), ¬ l[placeN l s] < s
  | [], _, h => by simp at h
  | x :: l, s, h => by
    by_cases hx : x < s
    · have e : placeN (x :: l) s = placeN l s + 1 := by simp [placeN, hx]
      have := placeN_stop (l := l) (s := s) (by rw [e] at h; simpa using h)
      simpa [e] using this
    · have e : placeN (x :: l) s = 0 := by simp [placeN, hx]
      simpa [e] using hx
theorem place_of {l : List Nm} {s : Nm} {k : Nat} (hk : k ≤ l.length) (h1 : ∀ j (hj : j < l.length), j < k → l[j] < s) (h2 : ∀ h : k < l.length, ¬ l[k] < s) : placeN l s = k := by
  have a := placeN_le l s
  rcases Nat.lt_trichotomy (placeN l s) k with h | h | h
  · exact absurd (h1 _ (by omega) h) (placeN_stop (by omega))
  · exact h
  · exact absurd (placeN_below (by omega) h) (h2 (by omega))
theorem isN_at : ∀ {l : List Nm} {s : Nm} (h : placeN l s < l.length), isN l s = (l[placeN l s] == s)
  | [], _, h => by simp at h
  | x :: l, s, h => by
    by_cases hx : x < s
    · have e : placeN (x :: l) s = placeN l s + 1 := by simp [placeN, hx]
      have e2 : isN (x :: l) s = isN l s := by simp [isN, hx]
      have := isN_at (l := l) (s := s) (by rw [e] at h; simpa using h)
      rw [e2, this]
      simp [e]
    · have e : placeN (x :: l) s = 0 := by simp [placeN, hx]
      simp [e, isN, hx]
theorem isN_end : ∀ {l : List Nm} {s : Nm}, placeN l s = l.length → isN l s = false
  | [], _, _ => rfl
  | x :: l, s, h => by
    by_cases hx : x < s
    · have e : placeN (x :: l) s = placeN l s + 1 := by simp [placeN, hx]
      rw [e] at h
      simpa [isN, hx] using isN_end (l := l) (s := s) (by simpa using h)
    · have e : placeN (x :: l) s = 0 := by simp [placeN, hx]
      rw [e] at h
      simp at h
/-- What is found at a place where all ahead are below. -/
theorem found_of {l : List Nm} {s : Nm} {k : Nat} (hk : k < l.length) (h1 : ∀ j (hj : j < l.length), j < k → l[j] < s) (h2 : l[k] = s) : placeN l s = k ∧ isN l s = true := by
  have e := place_of (s := s) (by omega) h1 (fun _ => by rw [h2]; exact nm_irrefl s)
  subst e
  exact ⟨rfl, by rw [isN_at hk, h2]; simp⟩
theorem missed_of {l : List Nm} {s : Nm} {k : Nat} (hk : k ≤ l.length) (h1 : ∀ j (hj : j < l.length), j < k → l[j] < s) (h2 : ∀ h : k < l.length, s < l[k]) : placeN l s = k ∧ isN l s = false := by
  have e := place_of (s := s) hk h1 (fun h => nm_asym (h2 h))
  subst e
  refine ⟨rfl, ?_⟩
  by_cases h : placeN l s < l.length
  · rw [isN_at h]
    simpa using (nm_ne (h2 h)).symm
  · exact isN_end (by have := placeN_le l s; omega)
theorem isN_found {l : List Nm} {s : Nm} (h : isN l s = true) : ∃ hk : placeN l s < l.length, l[placeN l s] = s := by
  by_cases hk : placeN l s < l.length
  · rw [isN_at hk] at h
    exact ⟨hk, by simpa using h⟩
  · rw [isN_end (by have := placeN_le l s; omega)] at h
    cases h
theorem isN_own {l : List Nm} (hr : Rise l) {i : Nat} (hi : i < l.length) : placeN l l[i] = i ∧ isN l l[i] = true :=
  found_of hi (fun j hj hji => rise_at hr hi hji) rfl
/-- How two names compare. -/
def cmpN (x s : Nm) : Int := if x < s then -1 else if x = s then 0 else 1

theorem putN_is : ∀ {l : List Nm} {s : Nm}, isN l s = true → putN l s = l
  | [], _, h => by cases h
  | x :: l, s, h => by
    by_cases hx : x < s
    · rw [isN, if_pos hx] at h
      rw [putN, if_pos hx, putN_is h]
    · rw [isN, if_neg hx] at h
      rw [putN, if_neg hx, if_pos (by simpa using h)]
theorem putN_not : ∀ {l : List Nm} {s : Nm}, isN l s = false → putN l s = l.take (placeN l s) ++ [s] ++ l.drop (placeN l s)
  | [], _, h => rfl
  | x :: l, s, h => by
    by_cases hx : x < s
    · rw [isN, if_pos hx] at h
      rw [putN, if_pos hx, putN_not h, placeN, if_pos hx]
      simp
    · rw [isN, if_neg hx] at h
      rw [putN, if_neg hx, if_neg (by simpa using h), placeN, if_neg hx]
      simp
theorem mem_putN : ∀ {l : List Nm} {s x : Nm}, x ∈ putN l s ↔ x = s ∨ x ∈ l
  | [], s, x => by simp [putN]
  | y :: l, s, x => by
    rw [putN]
    split
    · rw [List.mem_cons, mem_putN, List.mem_cons]; exact or_left_comm
    · split
      · rename_i e
        subst e
        rw [List.mem_cons]
        exact ⟨fun h => .inr h, fun h => h.elim .inl id⟩
      · rw [List.mem_cons, List.mem_cons]
theorem rise_putN : ∀ {l : List Nm} {s : Nm}, Rise l → Rise (putN l s)
  | [], s, _ => by simp [putN, Rise]
  | y :: l, s, h => by
    have h' := List.pairwise_cons.1 h
    rw [putN]
    split
    · rename_i hy
      refine List.pairwise_cons.2 ⟨fun a ha => ?_, rise_putN h'.2⟩
      rcases mem_putN.1 ha with rfl | ha
      · exact hy
      · exact h'.1 a ha
    · rename_i hy
      split
      · exact h
      · rename_i hne
        have hs : s < y := ((nm_tri y s).resolve_left hy).resolve_left hne
        refine List.pairwise_cons.2 ⟨fun a ha => ?_, h⟩
        rcases List.mem_cons.1 ha with rfl | ha
        · exact hs
        · exact nm_trans hs (h'.1 a ha)
theorem putN_length (l : List Nm) (s : Nm) : (putN l s).length ≤ l.length + 1 := by
  cases h : isN l s with
  | true => rw [putN_is h]; omega
  | false => rw [putN_not h]; have := placeN_le l s; simp; omega
/-- Names that rise are known by what they are. -/
theorem rise_ext : ∀ {a b : List Nm}, Rise a → Rise b → (∀ x, x ∈ a ↔ x ∈ b) → a = b
  | [], [], _, _, _ => rfl
  | [], y :: b, _, _, h => absurd ((h y).2 (List.mem_cons_self ..)) (by simp)
  | x :: a, [], _, _, h => absurd ((h x).1 (List.mem_cons_self ..)) (by simp)
  | x :: a, y :: b, ha, hb, h => by
    have ha' := List.pairwise_cons.1 ha
    have hb' := List.pairwise_cons.1 hb
    have e : x = y := by
      rcases List.mem_cons.1 ((h x).1 (List.mem_cons_self ..)) with e | h1
      · exact e
      · rcases List.mem_cons.1 ((h y).2 (List.mem_cons_self ..)) with e | h2
        · exact e.symm
        · exact absurd (ha'.1 y h2) (nm_asym (hb'.1 x h1))
    subst e
    congr 1
    refine rise_ext ha'.2 hb'.2 fun z => ⟨fun hz => ?_, fun hz => ?_⟩
    · rcases List.mem_cons.1 ((h z).1 (List.mem_cons_of_mem _ hz)) with rfl | h1
      · exact absurd (ha'.1 z hz) (nm_irrefl z)
      · exact h1
    · rcases List.mem_cons.1 ((h z).2 (List.mem_cons_of_mem _ hz)) with rfl | h1
      · exact absurd (hb'.1 z hz) (nm_irrefl z)
      · exact h1

/-- Names made of any: the first n, the first 8 bytes of each. -/
def goodN (l : List Nm) (n : Nat) : List Nm := (l.take n).foldl (fun a x => putN a (x.take 8)) []
theorem goodN_zero (l : List Nm) : goodN l 0 = [] := rfl
theorem goodN_succ {l : List Nm} {k : Nat} (hk : k < l.length) : goodN l (k + 1) = putN (goodN l k) (l[k].take 8) := by
  rw [goodN, List.take_succ_eq_append_getElem hk, List.foldl_append]; rfl
theorem goodN_all {l : List Nm} {k n : Nat} (hk : l.length ≤ k) (hn : k ≤ n) : goodN l k = goodN l n := by
  rw [goodN, goodN, List.take_of_length_le hk, List.take_of_length_le (by omega)]
theorem goodN_min (l : List Nm) (n : Nat) : goodN l (min n l.length) = goodN l n := by
  rcases Nat.le_total n l.length with h | h
  · rw [Nat.min_eq_left h]
  · rw [Nat.min_eq_right h]; exact goodN_all (Nat.le_refl _) h
structure Good (g : List Nm) : Prop where
  rise : Rise g
  eight : ∀ x ∈ g, x.length ≤ 8
theorem good_goodN (l : List Nm) (n : Nat) : Good (goodN l n) ∧ (goodN l n).length ≤ n := by
  have : ∀ k, k ≤ l.length → Good (goodN l k) ∧ (goodN l k).length ≤ k := by
    intro k
    induction k with
    | zero => intro _; exact ⟨⟨List.Pairwise.nil, fun x hx => by cases hx⟩, Nat.le_refl _⟩
    | succ k ih =>
      intro hk
      obtain ⟨h1, h2⟩ := ih (by omega)
      rw [goodN_succ (by omega)]
      refine ⟨⟨rise_putN h1.rise, fun x hx => ?_⟩, by have := putN_length (goodN l k) (l[k].take 8); omega⟩
      rcases mem_putN.1 hx with rfl | hx
      · rw [List.length_take]; omega
      · exact h1.eight x hx
  have h := this (min n l.length) (by omega)
  rw [goodN_min] at h
  exact ⟨h.1, by omega⟩

/-- All names of lists. -/
def joinN (ls : List (List Nm)) : List Nm := ls.flatten.foldl putN []
theorem mem_foldl_putN : ∀ (xs : List Nm) (a : List Nm) (x : Nm), x ∈ xs.foldl putN a ↔ x ∈ xs ∨ x ∈ a
  | [], a, x => by simp
  | y :: xs, a, x => by
    rw [List.foldl_cons, mem_foldl_putN xs, mem_putN, List.mem_cons]
    constructor
    · rintro (h | h | h)
      · exact .inl (.inr h)
      · exact .inl (.inl h)
      · exact .inr h
    · rintro ((h | h) | h)
      · exact .inr (.inl h)
      · exact .inl h
      · exact .inr (.inr h)
theorem rise_foldl_putN : ∀ (xs : List Nm) (a : List Nm), Rise a → Rise (xs.foldl putN a)
  | [], a, h => h
  | y :: xs, a, h => rise_foldl_putN xs _ (rise_putN h)
theorem rise_joinN (ls : List (List Nm)) : Rise (joinN ls) := rise_foldl_putN _ _ List.Pairwise.nil
theorem mem_joinN {ls : List (List Nm)} {x : Nm} : x ∈ joinN ls ↔ ∃ a ∈ ls, x ∈ a := by
  rw [joinN, mem_foldl_putN]
  simp [List.mem_flatten]
theorem joinN_of {ls : List (List Nm)} {r : List Nm} (h : Rise r) (hm : ∀ x, x ∈ r ↔ ∃ a ∈ ls, x ∈ a) : r = joinN ls :=
  rise_ext h (rise_joinN ls) fun x => by rw [hm, mem_joinN]
theorem foldl_putN_length : ∀ (xs a : List Nm), (xs.foldl putN a).length ≤ xs.length + a.length
  | [], a => by simp
  | y :: xs, a => by
    rw [List.foldl_cons, List.length_cons]
    have := foldl_putN_length xs (putN a y)
    have := putN_length a y
    omega

/-- One list, sorted, each name once. -/
def sortN (l : List Nm) : List Nm := Lib.compact (l.mergeSort fun x y => decide (x ≤ y))
theorem nm_le {x y : Nm} : x ≤ y ↔ ¬ y < x := Iff.rfl
theorem sorted_le (l : List Nm) : (l.mergeSort fun x y => decide (x ≤ y)).Pairwise (fun x y => ¬ y < x) := by
  have h := List.pairwise_mergeSort (le := fun x y : Nm => decide (x ≤ y)) (fun a b c h1 h2 => decide_eq_true (show ¬ c < a from fun h => (of_decide_eq_true h2 : ¬ c < b) (nm_lt_le h (of_decide_eq_true h1 : ¬ b < a)))) (fun a b => by
    by_cases h : b < a
    · rw [Bool.or_eq_true]; exact .inr (decide_eq_true (show ¬ a < b from nm_asym h))
    · rw [Bool.or_eq_true]; exact .inl (decide_eq_true (show ¬ b < a from h))) l
  exact h.imp fun {a b} hab => (of_decide_eq_true hab : ¬ b < a)
theorem compact_mem {l : List Nm} (x : Nm) : x ∈ Lib.compact l ↔ x ∈ l := by
  unfold Lib.compact
  have : ∀ m, m ≤ l.length → (x ∈ Lib.compactUpTo l.toArray m ↔ x ∈ l.take m) := by
    intro m
    induction m with
    | zero => intro _; simp [Lib.compactUpTo]
    | succ m ih =>
      intro hm
      have hg : l.toArray[m]! = l[m] := by rw [getElem!_pos l.toArray m (by simp; omega)]; simp
      rw [Lib.compactUpTo_succ, List.mem_append, ih (by omega), List.take_succ_eq_append_getElem (by omega), List.mem_append, hg]
      by_cases hk : Lib.keeps l.toArray m = true
      · rw [if_pos hk]
      · rw [if_neg hk]
        have hk' : m ≠ 0 ∧ l.toArray[m]! = l.toArray[m - 1]! := by
          simp only [Lib.keeps, decide_eq_true_eq, not_or, Decidable.not_not] at hk
          exact hk
        have hg1 : l.toArray[m - 1]! = l[m - 1] := by rw [getElem!_pos l.toArray (m - 1) (by simp; omega)]; simp
        rw [hg, hg1] at hk'
        constructor
        · rintro (h | h)
          · exact .inl h
          · cases h
        · rintro (h | h)
          · exact .inl h
          · rw [List.mem_singleton] at h
            left
            rw [h, hk'.2]
            exact List.mem_take_iff_getElem.2 ⟨m - 1, by omega, rfl⟩
  have h := this l.length (Nat.le_refl _)
  rwa [List.take_length] at h
theorem compact_rise {l : List Nm} (hl : l.Pairwise (fun x y => ¬ y < x)) : Rise (Lib.compact l) := by
  unfold Lib.compact
  have : ∀ m, m ≤ l.length → Rise (Lib.compactUpTo l.toArray m) ∧ ∀ x ∈ Lib.compactUpTo l.toArray m, ∃ j, j < m ∧ l[j]? = some x := by
    intro m
    induction m with
    | zero => intro _; simp [Lib.compactUpTo, Rise]
    | succ m ih =>
      intro hm
      obtain ⟨h1, h2⟩ := ih (by omega)
      have hg : l.toArray[m]! = l[m] := by rw [getElem!_pos l.toArray m (by simp; omega)]; simp
      rw [Lib.compactUpTo_succ, hg]
      by_cases hk : Lib.keeps l.toArray m = true
      · rw [if_pos hk]
        refine ⟨List.pairwise_append.2 ⟨h1, List.pairwise_singleton _ _, fun a ha b hb => ?_⟩, fun x hx => ?_⟩
        · rw [List.mem_singleton] at hb
          subst hb
          obtain ⟨j, hj, hja⟩ := h2 a ha
          obtain ⟨hjl, rfl⟩ := List.getElem?_eq_some_iff.1 hja
          have hm0 : m ≠ 0 := by omega
          have hg1 : l.toArray[m - 1]! = l[m - 1] := by rw [getElem!_pos l.toArray (m - 1) (by simp; omega)]; simp
          have hne : l[m] ≠ l[m - 1] := by
            simp only [Lib.keeps, decide_eq_true_eq] at hk
            have := hk.resolve_left hm0
            rwa [hg, hg1] at this
          have hlt : l[m - 1] < l[m] := by
            have h3 := List.pairwise_iff_getElem.1 hl (m - 1) m (by omega) (by omega) (by omega)
            rcases nm_tri l[m - 1] l[m] with h | h | h
            · exact h
            · exact absurd h.symm hne
            · exact absurd h h3
          by_cases e : j = m - 1
          · subst e; exact hlt
          · exact nm_le_lt (List.pairwise_iff_getElem.1 hl j (m - 1) (by omega) (by omega) (by omega)) hlt
        · rcases List.mem_append.1 hx with hx | hx
          · obtain ⟨j, hj, hja⟩ := h2 x hx
            exact ⟨j, by omega, hja⟩
          · rw [List.mem_singleton] at hx
            subst hx
            exact ⟨m, by omega, by simp⟩
      · rw [if_neg hk, List.append_nil]
        exact ⟨h1, fun x hx => by obtain ⟨j, hj, hja⟩ := h2 x hx; exact ⟨j, by omega, hja⟩⟩
  exact (this l.length (Nat.le_refl _)).1
theorem rise_sortN (l : List Nm) : Rise (sortN l) := compact_rise (sorted_le l)
theorem mem_sortN {l : List Nm} (x : Nm) : x ∈ sortN l ↔ x ∈ l := by rw [sortN, compact_mem, List.mem_mergeSort]
theorem sortN_length (l : List Nm) : (sortN l).length ≤ l.length := by
  have := Lib.compact_length_le (l.mergeSort fun x y => decide (x ≤ y))
  rw [List.length_mergeSort] at this
  exact this

/-- Two lists that rise, laid together. -/
def mergeN : List Nm → List Nm → List Nm
  | [], b => b
  | a, [] => a
  | x :: a, y :: b => if x < y then x :: mergeN a (y :: b) else if x = y then mergeN a (y :: b) else y :: mergeN (x :: a) b
termination_by a b => a.length + b.length
theorem mergeN_nil (a : List Nm) : mergeN a [] = a := by cases a <;> simp [mergeN]
theorem nil_mergeN (b : List Nm) : mergeN [] b = b := by simp [mergeN]
theorem mem_mergeN : ∀ (a b : List Nm) (x : Nm), x ∈ mergeN a b ↔ x ∈ a ∨ x ∈ b
  | [], b, x => by simp [mergeN]
  | y :: a, [], x => by simp [mergeN]
  | y :: a, z :: b, x => by
    rw [mergeN]
    split
    · rw [List.mem_cons, mem_mergeN a (z :: b), List.mem_cons (a := x) (b := y), or_assoc]
    · split
      · rename_i e
        subst e
        rw [mem_mergeN a (y :: b)]
        simp only [List.mem_cons]
        exact ⟨fun h => h.elim (fun h => .inl (.inr h)) .inr, fun h => h.elim (fun h => h.elim (fun h => .inr (.inl h)) .inl) .inr⟩
      · rw [List.mem_cons, mem_mergeN (y :: a) b, List.mem_cons (a := x) (b := z)]
        exact or_left_comm
termination_by a b => a.length + b.length
theorem rise_mergeN : ∀ {a b : List Nm}, Rise a → Rise b → Rise (mergeN a b)
  | [], b, _, h => by rw [nil_mergeN]; exact h
  | y :: a, [], h, _ => by rw [mergeN_nil]; exact h
  | y :: a, z :: b, ha, hb => by
    have ha' := List.pairwise_cons.1 ha
    have hb' := List.pairwise_cons.1 hb
    rw [mergeN]
    split
    · rename_i h
      refine List.pairwise_cons.2 ⟨fun x hx => ?_, rise_mergeN ha'.2 hb⟩
      rcases (mem_mergeN _ _ _).1 hx with hx | hx
      · exact ha'.1 x hx
      · rcases List.mem_cons.1 hx with rfl | hx
        · exact h
        · exact nm_trans h (hb'.1 x hx)
    · rename_i h
      split
      · exact rise_mergeN ha'.2 hb
      · rename_i hne
        have hz : z < y := ((nm_tri y z).resolve_left h).resolve_left hne
        refine List.pairwise_cons.2 ⟨fun x hx => ?_, rise_mergeN ha hb'.2⟩
        rcases (mem_mergeN _ _ _).1 hx with hx | hx
        · rcases List.mem_cons.1 hx with rfl | hx
          · exact hz
          · exact nm_trans hz (ha'.1 x hx)
        · exact hb'.1 x hx
termination_by a b => a.length + b.length
theorem mergeN_length : ∀ (a b : List Nm), (mergeN a b).length ≤ a.length + b.length
  | [], b => by simp [mergeN]
  | y :: a, [] => by simp [mergeN]
  | y :: a, z :: b => by
    rw [mergeN]
    split
    · have := mergeN_length a (z :: b); simp only [List.length_cons] at *; omega
    · split
      · have := mergeN_length a (z :: b); simp only [List.length_cons] at *; omega
      · have := mergeN_length (y :: a) b; simp only [List.length_cons] at *; omega
termination_by a b => a.length + b.length

/-- Does a name begin so? -/
def beginsN (x t : Nm) : Bool := t.isPrefixOf x
theorem beginsN_take {x t : Nm} : beginsN x t = true ↔ t.length ≤ x.length ∧ x.take t.length = t := by
  rw [beginsN, List.isPrefixOf_iff_prefix]
  constructor
  · rintro ⟨r, rfl⟩
    simp
  · rintro ⟨_, h⟩
    exact ⟨x.drop t.length, by conv => lhs; lhs; rw [← h]
                               exact List.take_append_drop _ _⟩
theorem begins_ge : ∀ {x t : Nm}, beginsN x t = true → ¬ x < t
  | x, [], _ => nm_lt_nil
  | [], b :: t, h => by simp [beginsN] at h
  | a :: x, b :: t, h => by
    simp only [beginsN, List.isPrefixOf_cons_cons, Bool.and_eq_true, beq_iff_eq] at h
    obtain ⟨rfl, h⟩ := h
    rw [nm_cons]
    rintro (h1 | ⟨_, h1⟩)
    · exact by_irr _ h1
    · exact begins_ge h h1
theorem begins_mid : ∀ {t x y : Nm}, ¬ x < t → x < y → beginsN y t = true → beginsN x t = true
  | [], x, y, _, _, _ => by simp [beginsN]
  | b :: t, [], y, h, _, _ => absurd nm_nil_lt h
  | b :: t, a :: x, [], _, h, _ => absurd h nm_lt_nil
  | b :: t, a :: x, c :: y, h1, h2, h3 => by
    simp only [beginsN, List.isPrefixOf_cons_cons, Bool.and_eq_true, beq_iff_eq] at h3 ⊢
    obtain ⟨rfl, h3⟩ := h3
    rw [nm_cons, not_or] at h1
    rw [nm_cons] at h2
    have e : b = a := by
      rcases h2 with h2 | ⟨e, _⟩
      · exact absurd h2 h1.1
      · exact e.symm
    subst e
    refine ⟨rfl, ?_⟩
    rcases h2 with h2 | ⟨_, h2⟩
    · exact absurd h2 (by_irr _)
    · exact begins_mid (fun h => h1.2 ⟨rfl, h⟩) h2 h3

/-- How many begin so, from the head on. -/
def runN : List Nm → Nm → Nat
  | [], _ => 0
  | x :: l, t => if beginsN x t then runN l t + 1 else 0
theorem runN_le : ∀ (l : List Nm) (t : Nm), runN l t ≤ l.length
  | [], _ => Nat.le_refl _
  | x :: l, t => by
    have := runN_le l t
    simp only [runN, List.length_cons]
    split <;> omega
theorem runN_of : ∀ {l : List Nm} {t : Nm} {k : Nat}, k ≤ l.length → (∀ j (hj : j < l.length), j < k → beginsN l[j] t = true) → (∀ h : k < l.length, beginsN l[k] t = false) → runN l t = k
  | [], t, k, hk, _, _ => by simp at hk; subst hk; rfl
  | x :: l, t, 0, _, _, h2 => by simp [runN, show beginsN x t = false from h2 (by simp)]
  | x :: l, t, k + 1, hk, h1, h2 => by
    have hx : beginsN x t = true := h1 0 (by simp) (by omega)
    have := runN_of (l := l) (t := t) (k := k) (by simpa using hk) (fun j hj hjk => h1 (j + 1) (by simpa using hj) (by omega)) (fun h => h2 (by simpa using h))
    simp [runN, hx, this]
theorem runN_in : ∀ {l : List Nm} {t : Nm} {j : Nat} (hj : j < l.length), j < runN l t → beginsN l[j] t = true
  | [], _, _, h, _ => by simp at h
  | x :: l, t, j, hj, h => by
    simp only [runN] at h
    split at h
    · rename_i hx
      cases j with
      | zero => exact hx
      | succ j => exact runN_in (l := l) (by simpa using hj) (by omega)
    · omega
theorem runN_stop : ∀ {l : List Nm} {t : Nm} (h : runN l t < l.length), beginsN l[runN l t] t = false
  | [], _, h => by simp at h
  | x :: l, t, h => by
    by_cases hx : beginsN x t = true
    · have e : runN (x :: l) t = runN l t + 1 := by simp [runN, hx]
      have := runN_stop (l := l) (t := t) (by rw [e] at h; simpa using h)
      simpa [e] using this
    · have e : runN (x :: l) t = 0 := by simp [runN, hx]
      simpa [e] using hx
/-- Up to which place names begin so. -/
def endN (l : List Nm) (t : Nm) : Nat := placeN l t + runN (l.drop (placeN l t)) t
theorem endN_le (l : List Nm) (t : Nm) : endN l t ≤ l.length := by
  have h1 := placeN_le l t
  have h2 := runN_le (l.drop (placeN l t)) t
  rw [List.length_drop] at h2
  unfold endN
  omega
/-- Behind a name that does not begin so, from the place on, none does. -/
theorem begins_behind {l : List Nm} (hr : Rise l) {t : Nm} {i j : Nat} (hj : j < l.length) (hij : i ≤ j) (hp : placeN l t ≤ i) (h : beginsN l[i] t = false) : beginsN l[j] t = false := by
  by_cases e : i = j
  · subst e; exact h
  · rw [← Bool.not_eq_true]
    intro hb
    have hge : ¬ l[i] < t := by
      by_cases e2 : placeN l t = i
      · have := placeN_stop (l := l) (s := t) (by omega)
        simpa [e2] using this
      · have h1 := placeN_stop (l := l) (s := t) (by omega)
        have h2 : l[placeN l t] < l[i] := rise_at hr (by omega) (by omega)
        exact fun h3 => h1 (nm_trans h2 h3)
    have := begins_mid hge (rise_at hr hj (by omega)) hb
    rw [this] at h
    cases h
/-- Just those between begin so. -/
theorem begins_iff {l : List Nm} (hr : Rise l) {t : Nm} {i : Nat} (hi : i < l.length) : beginsN l[i] t = decide (placeN l t ≤ i ∧ i < endN l t) := by
  by_cases h1 : i < placeN l t
  · have h2 : beginsN l[i] t = false := by
      rw [← Bool.not_eq_true]
      exact fun h => begins_ge h (placeN_below hi h1)
    rw [h2]; symm; rw [decide_eq_false_iff_not]; omega
  · by_cases h2 : i < endN l t
    · have h3 : beginsN l[i] t = true := by
        have := runN_in (l := l.drop (placeN l t)) (t := t) (j := i - placeN l t) (by rw [List.length_drop]; omega) (by unfold endN at h2; omega)
        rw [List.getElem_drop] at this
        simpa [show placeN l t + (i - placeN l t) = i by omega] using this
      rw [h3]; symm; rw [decide_eq_true_eq]; omega
    · have h3 : beginsN l[i] t = false := by
        have h4 : runN (l.drop (placeN l t)) t < (l.drop (placeN l t)).length := by rw [List.length_drop]; unfold endN at h2; omega
        have h5 := runN_stop h4
        rw [List.getElem_drop] at h5
        exact begins_behind hr (i := placeN l t + runN (l.drop (placeN l t)) t) hi (by unfold endN at h2; omega) (by omega) h5
      rw [h3]; symm; rw [decide_eq_false_iff_not]; omega
/-- How many of the first n are so, where those that are stand ahead. -/
theorem countP_run {q : Nat → Bool} {n k : Nat} (hk : k ≤ n) (h1 : ∀ i, i < k → q i = true) (h2 : ∀ i, k ≤ i → i < n → q i = false) : (List.range n).countP q = k := by
  induction n with
  | zero => simp; omega
  | succ n ih =>
    rw [List.range_succ, List.countP_append]
    by_cases e : k = n + 1
    · subst e
      have : (List.range n).countP q = n := by
        have := (List.countP_eq_length (p := q) (l := List.range n)).2 (fun a ha => h1 a (by have := List.mem_range.1 ha; omega))
        simpa using this
      rw [this]
      simp [h1 n (by omega)]
    · rw [ih (by omega) (fun i hi hin => h2 i hi (by omega))]
      simp [h2 n (by omega) (by omega)]

/-- How many digits to the base 2. -/
theorem bitLenAux_step (f x : Nat) (h : 0 < x) : Lib.bitLenAux (f + 1) x = 1 + Lib.bitLenAux f (x / 2) := by rw [Lib.bitLenAux, if_neg (by omega)]
theorem bitLenAux_more : ∀ (f x : Nat), x < 2 ^ f → Lib.bitLenAux (f + 1) x = Lib.bitLenAux f x
  | 0, x, h => by simp [Lib.bitLenAux]; omega
  | f + 1, x, h => by
    by_cases h0 : x = 0
    · subst h0; simp [Lib.bitLenAux]
    · have hh : x / 2 < 2 ^ f := by rw [Nat.pow_succ] at h; omega
      rw [bitLenAux_step (f + 1) x (by omega), bitLenAux_step f x (by omega), bitLenAux_more f (x / 2) hh]
theorem bitLen_step {x : Nat} (h : 0 < x) (hx : x < 2 ^ 64) : Lib.bitLen x = Lib.bitLen (x / 2) + 1 := by
  unfold Lib.bitLen
  rw [bitLenAux_step 63 x h, bitLenAux_more 63 (x / 2) (by omega)]
  omega
theorem bitLen_zero : Lib.bitLen 0 = 0 := rfl
theorem bitLenAux_le : ∀ (f x : Nat), Lib.bitLenAux f x ≤ f
  | 0, _ => by simp [Lib.bitLenAux]
  | f + 1, x => by
    rw [Lib.bitLenAux]
    have := bitLenAux_le f (x / 2)
    split <;> omega
theorem bitLen_le (x : Nat) : Lib.bitLen x ≤ 64 := bitLenAux_le 64 x
end Go.Proofs.YtolfkhflbjnakaaGreatDoor

/- Documents, plain: their names, their errors, their words, where terms stand, phrases, weights. No program. -/
set_option linter.unusedVariables false
namespace Go.Proofs.YtolfkhflbjnakaaGreatDoor
open Go

/-- A field: its name, its text. -/
abbrev Fd := Nm × Nm
/-- A term: a field's name, a word. -/
abbrev Tm := Nm × Nm
def smallB (c : UInt8) : Bool := decide (97 ≤ c.toNat) && decide (c.toNat ≤ 122)
def nameB (s : Nm) : Bool := s.all smallB && (decide (1 ≤ s.length) && decide (s.length ≤ 12))
theorem nameB_bad {s : Nm} {k : Nat} (hk : k < s.length) (h : smallB s[k] = false) : nameB s = false := by
  rw [← Bool.not_eq_true, nameB, Bool.and_eq_true]
  intro hh
  rw [List.all_eq_true.1 hh.1 _ (List.getElem_mem hk)] at h
  cases h
theorem nameB_good {s : Nm} (h : ∀ k (hk : k < s.length), smallB s[k] = true) : nameB s = (decide (1 ≤ s.length) && decide (s.length ≤ 12)) := by
  rw [nameB, List.all_eq_true.2 fun c hc => by obtain ⟨k, hk, rfl⟩ := List.getElem_of_mem hc; exact h k hk, Bool.true_and]
theorem nameB_zero {s : Nm} (h : nameB s = true) : (0 : UInt8) ∉ s := fun h0 => by
  rw [nameB, Bool.and_eq_true] at h
  exact absurd (List.all_eq_true.1 h.1 _ h0) (by decide)

/-- The first error of fields, behind fields of some names and of so many words. -/
def mayF : List Nm → Nat → List Fd → Int
  | _, n, [] => if 500 < n then 7 else 0
  | seen, n, f :: fs => if nameB f.1 = false then 4 else if f.1 ∈ seen then 5 else if errFrom 0 (words f.2) ≠ 0 then errFrom 0 (words f.2) else mayF (seen ++ [f.1]) (n + (words f.2).length) fs
def mayD (l : List Fd) : Int := if 8 < l.length then 7 else mayF [] 0 l
/-- The words of the field of a name. -/
def wordsD : List Fd → Nm → List Nm
  | [], _ => []
  | f :: fs, s => if f.1 = s then words f.2 else wordsD fs s
theorem wordsD_at {l : List Fd} {s : Nm} : ∀ {k : Nat} (hk : k < l.length), (∀ j (hj : j < l.length), j < k → l[j].1 ≠ s) → l[k].1 = s → wordsD l s = words l[k].2 := by
  induction l with
  | nil => intro k hk; simp at hk
  | cons f fs ih =>
    intro k hk h1 h2
    cases k with
    | zero => exact if_pos h2
    | succ k =>
      have e := h1 0 (by simp) (by omega)
      rw [List.getElem_cons_zero] at e
      rw [wordsD, if_neg e]
      exact ih (by simpa using hk) (fun j hj hjk => by have := h1 (j + 1) (by simpa using hj) (by omega); simpa using this) (by simpa using h2)
theorem wordsD_none {l : List Fd} {s : Nm} (h : ∀ j (hj : j < l.length), l[j].1 ≠ s) : wordsD l s = [] := by
  induction l with
  | nil => rfl
  | cons f fs ih =>
    have e := h 0 (by simp)
    rw [List.getElem_cons_zero] at e
    rw [wordsD, if_neg e]
    exact ih fun j hj => by have := h (j + 1) (by simpa using hj); simpa using this
/-- Where a word stands among words, counted from i on. -/
def placesW : Nat → List Nm → Nm → List Int
  | _, [], _ => []
  | i, y :: l, x => if y = x then (i : Int) :: placesW (i + 1) l x else placesW (i + 1) l x
theorem placesW_at {l : List Nm} {x : Nm} {i k : Nat} (hk : k < l.length) : placesW i (l.drop k) x = if l[k] = x then (i : Int) :: placesW (i + 1) (l.drop (k + 1)) x else placesW (i + 1) (l.drop (k + 1)) x := by
  rw [List.drop_eq_getElem_cons hk, placesW]
def placesD (l : List Fd) (t : Tm) : List Int := placesW 0 (wordsD l t.1) t.2
theorem placesW_length (x : Nm) : ∀ (l : List Nm) (i : Nat), (placesW i l x).length ≤ l.length
  | [], _ => Nat.le_refl _
  | y :: l, i => by
    have := placesW_length x l (i + 1)
    rw [placesW]
    split <;> simp <;> omega

def keyT (t : Tm) : Nm := keyL t.1 t.2
def atT (l : List Tm) (k : Nat) : Tm := l.getD k ([], [])
/-- Where a term belongs, looked for from place k down. -/
def backT (l : List Tm) (t : Tm) : Nat → Nat
  | 0 => 0
  | k + 1 => if keyT t < keyT (atT l k) then backT l t k else k + 1
theorem backT_le (l : List Tm) (t : Tm) : ∀ k, backT l t k ≤ k
  | 0 => Nat.le_refl _
  | k + 1 => by
    have := backT_le l t k
    rw [backT]
    split <;> omega
theorem backT_stop {l : List Tm} {t : Tm} : ∀ {k : Nat}, 0 < backT l t k → ¬ keyT t < keyT (atT l (backT l t k - 1))
  | 0, h => by simp [backT] at h
  | k + 1, h => by
    by_cases hk : keyT t < keyT (atT l k)
    · have e : backT l t (k + 1) = backT l t k := by rw [backT, if_pos hk]
      rw [e] at h ⊢
      exact backT_stop h
    · have e : backT l t (k + 1) = k + 1 := by rw [backT, if_neg hk]
      rw [e]
      exact hk
theorem backT_above {l : List Tm} {t : Tm} : ∀ {k j : Nat}, backT l t k ≤ j → j < k → keyT t < keyT (atT l j)
  | 0, j, _, h => by omega
  | k + 1, j, h1, h2 => by
    by_cases hk : keyT t < keyT (atT l k)
    · have e : backT l t (k + 1) = backT l t k := by rw [backT, if_pos hk]
      rw [e] at h1
      by_cases e : j = k
      · subst e; exact hk
      · exact backT_above h1 (by omega)
    · have e : backT l t (k + 1) = k + 1 := by rw [backT, if_neg hk]
      omega
/-- Is it there already, ahead of place k? -/
def hereT (l : List Tm) (t : Tm) (k : Nat) : Bool := decide (0 < k) && decide (atT l (k - 1) = t)
def putT (l : List Tm) (t : Tm) : List Tm := if hereT l t (backT l t l.length) = true then l else l.take (backT l t l.length) ++ t :: l.drop (backT l t l.length)
def termsD (l : List Fd) : List Tm := l.foldl (fun a f => (wordsD l f.1).foldl (fun b x => putT b (f.1, x)) a) []

/-- Terms whose keys rise. -/
def RiseT (l : List Tm) : Prop := Rise (l.map keyT)
theorem atT_lt {l : List Tm} {k : Nat} (hk : k < l.length) : atT l k = l[k] := by rw [atT, List.getD_eq_getElem?_getD, List.getElem?_eq_getElem hk]; rfl
theorem keyT_inj {s t : Tm} (h : keyT s = keyT t) (h0 : (0 : UInt8) ∉ s.1) (h1 : (0 : UInt8) ∉ t.1) : s = t := by
  obtain ⟨e1, e2⟩ := keyL_inj h h0 h1
  exact Prod.ext e1 e2
theorem mem_putT {l : List Tm} {s t : Tm} : s ∈ putT l t ↔ s ∈ l ∨ s = t := by
  unfold putT
  split
  · rename_i h
    rw [hereT, Bool.and_eq_true, decide_eq_true_iff, decide_eq_true_iff] at h
    have := backT_le l t l.length
    have hk : backT l t l.length - 1 < l.length := by omega
    rw [atT_lt hk] at h
    constructor
    · exact .inl
    · rintro (h1 | rfl)
      · exact h1
      · rw [← h.2]; exact List.getElem_mem hk
  · rw [List.mem_append, List.mem_cons]
    conv => rhs; rw [← List.take_append_drop (backT l t l.length) l, List.mem_append]
    constructor
    · rintro (h | h | h)
      · exact .inl (.inl h)
      · exact .inr h
      · exact .inl (.inr h)
    · rintro ((h | h) | h)
      · exact .inl h
      · exact .inr (.inr h)
      · exact .inr (.inl h)
theorem riseT_at {l : List Tm} (h : RiseT l) {i j : Nat} (hj : j < l.length) (hij : i < j) : keyT (atT l i) < keyT (atT l j) := by
  have := rise_at h (i := i) (j := j) (by simpa using hj) hij
  rwa [atT_lt hj, atT_lt (by omega), ← List.getElem_map keyT, ← List.getElem_map keyT]
  all_goals simp <;> omega
theorem riseT_put {l : List Tm} {t : Tm} (h : RiseT l) (h0 : ∀ s ∈ l, (0 : UInt8) ∉ s.1) (h1 : (0 : UInt8) ∉ t.1) : RiseT (putT l t) := by
  unfold putT
  split
  · exact h
  · rename_i hh
    obtain ⟨k, hk⟩ : ∃ k, k = backT l t l.length := ⟨_, rfl⟩
    have hle := backT_le l t l.length
    have habove : ∀ j, k ≤ j → j < l.length → keyT t < keyT (atT l j) := fun j a b => backT_above (k := l.length) (by omega) b
    have hstop : 0 < k → ¬ keyT t < keyT (atT l (k - 1)) := fun a => by rw [hk]; exact backT_stop (by omega)
    rw [← hk] at hh hle
    rw [← hk]
    have hlow : 0 < k → keyT (atT l (k - 1)) < keyT t := fun a => by
      rcases nm_tri (keyT (atT l (k - 1))) (keyT t) with e | e | e
      · exact e
      · refine absurd ?_ hh
        rw [hereT, Bool.and_eq_true, decide_eq_true_iff, decide_eq_true_iff]
        have hk1 : k - 1 < l.length := by omega
        exact ⟨a, keyT_inj e (by rw [atT_lt hk1]; exact h0 _ (List.getElem_mem hk1)) h1⟩
      · exact absurd e (hstop a)
    unfold RiseT Rise
    rw [List.map_append, List.map_cons]
    have hp : List.Pairwise (· < ·) (l.map keyT) := h
    refine List.pairwise_append.2 ⟨?_, List.pairwise_cons.2 ⟨?_, ?_⟩, ?_⟩
    · exact hp.sublist ((List.take_sublist k l).map keyT)
    · intro x hx
      obtain ⟨s, hs, rfl⟩ := List.mem_map.1 hx
      obtain ⟨j, hj, rfl⟩ := List.getElem_of_mem hs
      rw [List.length_drop] at hj
      have := habove (k + j) (by omega) (by omega)
      rw [atT_lt (by omega)] at this
      rwa [List.getElem_drop]
    · exact hp.sublist ((List.drop_sublist k l).map keyT)
    · intro x hx y hy
      obtain ⟨s, hs, rfl⟩ := List.mem_map.1 hx
      obtain ⟨i, hi, rfl⟩ := List.getElem_of_mem hs
      rw [List.length_take] at hi
      have hx : keyT (atT l i) < keyT t := by
        by_cases e : i = k - 1
        · subst e; exact hlow (by omega)
        · exact nm_trans (riseT_at h (i := i) (j := k - 1) (by omega) (by omega)) (hlow (by omega))
      rw [atT_lt (by omega)] at hx
      rw [List.getElem_take]
      rcases List.mem_cons.1 hy with rfl | hy
      · exact hx
      · obtain ⟨s, hs, rfl⟩ := List.mem_map.1 hy
        obtain ⟨j, hj, rfl⟩ := List.getElem_of_mem hs
        rw [List.length_drop] at hj
        have := habove (k + j) (by omega) (by omega)
        rw [atT_lt (by omega)] at this
        rw [List.getElem_drop]
        exact nm_trans hx this

/-- How often words begin to stand side by side. -/
def phraseW (ws : List Nm) : List Nm → Nat
  | [] => 0
  | y :: l => (if ws ≠ [] ∧ (y :: l).take ws.length = ws then 1 else 0) + phraseW ws l
def phraseD (l : List Fd) (s : Nm) (ws : List Nm) : Nat := phraseW ws (wordsD l s)
theorem phraseW_at {ws l : List Nm} {k : Nat} (hk : k < l.length) : phraseW ws (l.drop k) = (if ws ≠ [] ∧ (l.drop k).take ws.length = ws then 1 else 0) + phraseW ws (l.drop (k + 1)) := by
  rw [List.drop_eq_getElem_cons hk, phraseW]
theorem phraseW_nil (l : List Nm) : phraseW [] l = 0 := by
  induction l with
  | nil => rfl
  | cons y l ih => rw [phraseW, ih, if_neg (by simp)]
theorem phraseW_short {ws : List Nm} : ∀ {l : List Nm}, l.length < ws.length → phraseW ws l = 0
  | [], _ => rfl
  | y :: l, h => by
    rw [phraseW, phraseW_short (by simp at h; omega), if_neg]
    rintro ⟨_, h2⟩
    have := congrArg List.length h2
    rw [List.length_take] at this
    omega
theorem phraseW_one (x : Nm) : ∀ (l : List Nm) (i : Nat), phraseW [x] l = (placesW i l x).length
  | [], _ => rfl
  | y :: l, i => by
    rw [phraseW, placesW, phraseW_one x l (i + 1)]
    by_cases h : y = x
    · subst h; simp; omega
    · rw [if_neg (by simpa using h), if_neg h]; omega
def weightD (l : List Fd) : Nat := (l.map fun f => (wordsD l f.1).length).sum

/-- A field that may be, made of any: the i-th. -/
def poolN (i : Nat) : Nm := [116 + UInt8.ofNat i]
def goodF (i : Nat) (f : Fd) : Fd := (if nameB f.1 = true then f.1 else poolN i, f.2.take 40)
def goodUp (l : List Fd) : Nat → List Fd
  | 0 => []
  | k + 1 => if mayD (goodUp l k ++ [goodF k (l.getD k ([], []))]) = 0 then goodUp l k ++ [goodF k (l.getD k ([], []))] else goodUp l k
def goodD (l : List Fd) : List Fd := goodUp l (min l.length 4)
theorem mayF_nil (n : Nat) : mayF [] n [] = if 500 < n then 7 else 0 := rfl
theorem mayD_nil : mayD [] = 0 := rfl
theorem goodUp_may (l : List Fd) : ∀ k, mayD (goodUp l k) = 0
  | 0 => rfl
  | k + 1 => by
    rw [goodUp]
    split
    · rename_i h; exact h
    · exact goodUp_may l k
theorem goodD_may (l : List Fd) : mayD (goodD l) = 0 := goodUp_may _ _
theorem goodUp_length (l : List Fd) : ∀ k, (goodUp l k).length ≤ k
  | 0 => Nat.le_refl _
  | k + 1 => by
    have := goodUp_length l k
    rw [goodUp]
    split
    · simp; omega
    · omega
theorem goodF_text (i : Nat) (f : Fd) : (goodF i f).2.length ≤ 40 := by simp [goodF]; omega
theorem goodUp_text (l : List Fd) : ∀ k, ∀ f ∈ goodUp l k, f.2.length ≤ 40
  | 0, f, h => by cases h
  | k + 1, f, h => by
    rw [goodUp] at h
    split at h
    · rcases List.mem_append.1 h with h | h
      · exact goodUp_text l k f h
      · rw [List.mem_singleton.1 h]; exact goodF_text _ _
    · exact goodUp_text l k f h
end Go.Proofs.YtolfkhflbjnakaaGreatDoor

/- Queries, plain: which may be, how deep they are, their texts, their terms, what fits them. No program. -/
set_option linter.unusedVariables false
namespace Go.Proofs.YtolfkhflbjnakaaGreatDoor
open Go

/-- A query: its kind, its term, its words, its kids. -/
inductive Qy where
  | mk (k : Int) (t : Tm) (ws : List Nm) (ks : List Qy) : Qy
def Qy.kind : Qy → Int | .mk k _ _ _ => k
def Qy.kids : Qy → List Qy | .mk _ _ _ ks => ks
instance : Inhabited Qy := ⟨.mk 0 ([], []) [] []⟩

mutual
/-- How many stand one in the other. -/
def deepQ : Qy → Nat
  | .mk _ _ _ ks => 1 + deepL ks
def deepL : List Qy → Nat
  | [] => 0
  | q :: l => max (deepQ q) (deepL l)
end
theorem deepL_mem : ∀ {l : List Qy} {q : Qy}, q ∈ l → deepQ q ≤ deepL l
  | [], _, h => by cases h
  | a :: l, q, h => by
    rw [deepL]
    rcases List.mem_cons.1 h with rfl | h
    · omega
    · have := deepL_mem h; omega
theorem deepL_at {l : List Qy} {i : Nat} (hi : i < l.length) : deepL (l.drop i) = max (deepQ l[i]) (deepL (l.drop (i + 1))) := by rw [List.drop_eq_getElem_cons hi, deepL]
theorem deepQ_pos (q : Qy) : 1 ≤ deepQ q := by cases q; rw [deepQ]; omega
theorem deep_kid {k : Int} {t : Tm} {ws : List Nm} {ks : List Qy} {i n : Nat} (h : deepQ (.mk k t ws ks) ≤ n + 1) (hi : i < ks.length) : deepQ ks[i] ≤ n := by
  have := deepL_mem (List.getElem_mem hi)
  rw [deepQ] at h
  omega
mutual
/-- How many there are in all. -/
def sizeQ : Qy → Nat
  | .mk _ _ _ ks => 1 + sizeL ks
def sizeL : List Qy → Nat
  | [] => 0
  | q :: l => sizeQ q + sizeL l
end
theorem sizeQ_pos (q : Qy) : 1 ≤ sizeQ q := by cases q; rw [sizeQ]; omega
theorem sizeL_at {l : List Qy} {i : Nat} (hi : i < l.length) : sizeL (l.drop i) = sizeQ l[i] + sizeL (l.drop (i + 1)) := by rw [List.drop_eq_getElem_cons hi, sizeL]
theorem sizeL_length : ∀ l : List Qy, l.length ≤ sizeL l
  | [] => Nat.le_refl _
  | q :: l => by have := sizeL_length l; have := sizeQ_pos q; rw [sizeL, List.length_cons]; omega
mutual
theorem deep_size : ∀ q : Qy, deepQ q ≤ sizeQ q
  | .mk _ _ _ ks => by have := deep_sizeL ks; rw [deepQ, sizeQ]; omega
theorem deep_sizeL : ∀ l : List Qy, deepL l ≤ sizeL l
  | [] => Nat.le_refl _
  | q :: l => by have := deep_size q; have := deep_sizeL l; rw [deepL, sizeL]; omega
end

/-- The first error of words. -/
def badW : List Nm → Bool
  | [] => false
  | w :: l => !mayWord w || badW l
theorem badW_at {l : List Nm} {i : Nat} (hi : i < l.length) : badW (l.drop i) = (!mayWord l[i] || badW (l.drop (i + 1))) := by rw [List.drop_eq_getElem_cons hi, badW]
theorem badW_false {l : List Nm} : badW l = false ↔ ∀ w ∈ l, mayWord w = true := by
  induction l with
  | nil => simp [badW]
  | cons a l ih => simp [badW, ih]
/-- May a query be, but for its kids? -/
def ownQ (k : Int) (t : Tm) (ws : List Nm) (n : Nat) : Int :=
  if k < 1 ∨ 5 < k then 9
  else if 2 ≤ k ∧ k ≤ 4 then
    if t ≠ ([], []) ∨ ws ≠ [] ∨ n = 0 then 9 else if 8 < n ∨ (k = 4 ∧ 1 < n) then 7 else 0
  else if 0 < n ∨ (k = 1 ∧ ws ≠ []) ∨ (k = 5 ∧ t.2 ≠ []) then 9
  else if nameB t.1 = false then 4
  else if k = 1 then if mayWord t.2 = true then 0 else 9
  else if ws = [] ∨ badW ws = true then 9
  else if 6 < ws.length then 7 else 0
mutual
/-- May a query be that stands so deep? -/
def mayQ : Nat → Qy → Int
  | d, .mk k t ws ks => if 6 < d then 8 else if ownQ k t ws ks.length ≠ 0 then ownQ k t ws ks.length else mayL (d + 1) ks
def mayL : Nat → List Qy → Int
  | _, [] => 0
  | d, q :: l => if mayQ d q ≠ 0 then mayQ d q else mayL d l
end
theorem mayL_at {d : Nat} {l : List Qy} {i : Nat} (hi : i < l.length) : mayL d (l.drop i) = if mayQ d l[i] ≠ 0 then mayQ d l[i] else mayL d (l.drop (i + 1)) := by rw [List.drop_eq_getElem_cons hi, mayL]
theorem mayL_zero : ∀ {d : Nat} {l : List Qy}, mayL d l = 0 → ∀ q ∈ l, mayQ d q = 0
  | _, [], _, _, h => by cases h
  | d, a :: l, h, q, hq => by
    rw [mayL] at h
    split at h
    · rename_i h1; exact absurd h h1
    · rename_i h1
      rcases List.mem_cons.1 hq with rfl | hq
      · exact Classical.not_not.1 h1
      · exact mayL_zero h q hq
theorem mayL_of : ∀ {d : Nat} {l : List Qy}, (∀ q ∈ l, mayQ d q = 0) → mayL d l = 0
  | _, [], _ => rfl
  | d, a :: l, h => by
    rw [mayL, if_neg (by rw [h a (List.mem_cons_self ..)]; exact fun e => e rfl)]
    exact mayL_of fun q hq => h q (List.mem_cons_of_mem _ hq)
theorem mayQ_zero {d : Nat} {k : Int} {t : Tm} {ws : List Nm} {ks : List Qy} (h : mayQ d (.mk k t ws ks) = 0) : d ≤ 6 ∧ ownQ k t ws ks.length = 0 ∧ mayL (d + 1) ks = 0 := by
  rw [mayQ] at h
  split at h
  · cases h
  · split at h
    · rename_i h1; exact absurd h h1
    · rename_i h0 h1; exact ⟨by omega, Classical.not_not.1 h1, h⟩
theorem mayQ_of {d : Nat} {k : Int} {t : Tm} {ws : List Nm} {ks : List Qy} (h1 : d ≤ 6) (h2 : ownQ k t ws ks.length = 0) (h3 : mayL (d + 1) ks = 0) : mayQ d (.mk k t ws ks) = 0 := by
  rw [mayQ, if_neg (by omega), if_neg (by rw [h2]; exact fun e => e rfl), h3]
mutual
theorem mayQ_deep : ∀ {d : Nat} {q : Qy}, mayQ d q = 0 → d + deepQ q ≤ 7
  | d, .mk k t ws ks, h => by
    obtain ⟨h1, _, h3⟩ := mayQ_zero h
    have := mayL_deep h3
    rw [deepQ]
    omega
theorem mayL_deep : ∀ {d : Nat} {l : List Qy}, mayL d l = 0 → deepL l = 0 ∨ d + deepL l ≤ 7
  | _, [], _ => .inl rfl
  | d, a :: l, h => by
    have h1 := mayQ_deep (mayL_zero h a (List.mem_cons_self ..))
    have h2 := mayL_deep (mayL_of fun q hq => mayL_zero h q (List.mem_cons_of_mem _ hq))
    rw [deepL]
    omega
end
/-- What one that may be is like: a term, a phrase, or one of kids. -/
theorem own_zero {k : Int} {t : Tm} {ws : List Nm} {n : Nat} (h : ownQ k t ws n = 0) :
    (k = 1 ∧ n = 0 ∧ ws = [] ∧ nameB t.1 = true ∧ mayWord t.2 = true) ∨ (k = 5 ∧ n = 0 ∧ t.2 = [] ∧ nameB t.1 = true ∧ ws ≠ [] ∧ badW ws = false ∧ ws.length ≤ 6) ∨
    (2 ≤ k ∧ k ≤ 4 ∧ t = ([], []) ∧ ws = [] ∧ 0 < n ∧ n ≤ 8 ∧ (k = 4 → n = 1)) := by
  unfold ownQ at h
  split at h
  · cases h
  · rename_i h1
    split at h
    · rename_i h2
      split at h
      · cases h
      · rename_i h3
        split at h
        · cases h
        · rename_i h4
          refine .inr (.inr ⟨h2.1, h2.2, Classical.not_not.1 fun e => h3 (.inl e), Classical.not_not.1 fun e => h3 (.inr (.inl e)), ?_, ?_, ?_⟩)
          · have : ¬ n = 0 := fun e => h3 (.inr (.inr e)); omega
          · have : ¬ 8 < n := fun e => h4 (.inl e); omega
          · intro e; have : ¬ 1 < n := fun e' => h4 (.inr ⟨e, e'⟩); have : ¬ n = 0 := fun e => h3 (.inr (.inr e)); omega
    · rename_i h2
      split at h
      · cases h
      · rename_i h3
        have hn : n = 0 := by have : ¬ 0 < n := fun e => h3 (.inl e); omega
        split at h
        · cases h
        · rename_i h4
          split at h
          · rename_i h5
            split at h
            · rename_i h6
              exact .inl ⟨h5, hn, Classical.not_not.1 fun e => h3 (.inr (.inl ⟨h5, e⟩)), by simpa using h4, h6⟩
            · cases h
          · rename_i h5
            have hk : k = 5 := by omega
            split at h
            · cases h
            · rename_i h6
              split at h
              · cases h
              · rename_i h7
                exact .inr (.inl ⟨hk, hn, Classical.not_not.1 fun e => h3 (.inr (.inr ⟨hk, e⟩)), by simpa using h4, fun e => h6 (.inl e), by have : ¬ badW ws = true := fun e => h6 (.inr e); simpa using this, by omega⟩)

mutual
/-- Are all things the same? -/
def sameQ : Qy → Qy → Bool
  | .mk k t ws ks, .mk k' t' ws' ks' => decide (k = k' ∧ t = t' ∧ ws = ws' ∧ ks.length = ks'.length) && sameL ks ks'
def sameL : List Qy → List Qy → Bool
  | [], _ => true
  | _ :: _, [] => true
  | q :: l, q' :: l' => sameQ q q' && sameL l l'
end
theorem sameL_at {l l' : List Qy} {i : Nat} (hi : i < l.length) (hi' : i < l'.length) : sameL (l.drop i) (l'.drop i) = (sameQ l[i] l'[i] && sameL (l.drop (i + 1)) (l'.drop (i + 1))) := by
  rw [List.drop_eq_getElem_cons hi, List.drop_eq_getElem_cons hi', sameL]
mutual
theorem same_self : ∀ q : Qy, sameQ q q = true
  | .mk k t ws ks => by rw [sameQ, same_selfL ks]; simp
theorem same_selfL : ∀ l : List Qy, sameL l l = true
  | [] => rfl
  | q :: l => by rw [sameL, same_self q, same_selfL l]; rfl
end

/-- Words with a blank between. -/
def joinW : List Nm → Nm
  | [] => []
  | [w] => w
  | w :: l => w ++ 32 :: joinW l
/-- The names of kinds of queries that have kids. -/
def kindN (k : Int) : Nm := if k = 2 then [97, 110, 100] else if k = 3 then [111, 114] else if k = 4 then [110, 111, 116] else []
mutual
def textQ : Qy → Nm
  | .mk k t ws ks => if k = 1 then t.1 ++ 58 :: t.2 else if k = 5 then t.1 ++ 58 :: 34 :: (joinW ws ++ [34]) else 40 :: (kindN k ++ (textL ks ++ [41]))
def textL : List Qy → Nm
  | [] => []
  | q :: l => 32 :: (textQ q ++ textL l)
end

mutual
def termsQ : Qy → List Tm
  | .mk k t ws ks => termsL (ws.foldl (fun b x => putT b (t.1, x)) (if k = 1 then [t] else [])) ks
def termsL : List Tm → List Qy → List Tm
  | a, [] => a
  | a, q :: l => termsL ((termsQ q).foldl putT a) l
end

mutual
def fitsQ (f : List Fd) : Qy → Bool
  | .mk k t ws ks => if k = 1 then decide (0 < (placesD f t).length) else if k = 5 then decide (0 < phraseD f t.1 ws) else if k = 2 then decide (fitL f ks = ks.length) else decide (0 < fitL f ks) == decide (k = 3)
def fitL (f : List Fd) : List Qy → Nat
  | [] => 0
  | q :: l => (if fitsQ f q = true then 1 else 0) + fitL f l
end
theorem fitL_le (f : List Fd) : ∀ l : List Qy, fitL f l ≤ l.length
  | [] => Nat.le_refl _
  | q :: l => by have := fitL_le f l; rw [fitL, List.length_cons]; split <;> omega
theorem fitL_at {f : List Fd} {l : List Qy} {i : Nat} (hi : i < l.length) : fitL f (l.drop i) = (if fitsQ f l[i] = true then 1 else 0) + fitL f (l.drop (i + 1)) := by rw [List.drop_eq_getElem_cons hi, fitL]
mutual
def scoreQ (f : List Fd) : Qy → Nat
  | .mk k t ws ks => if fitsQ f (.mk k t ws ks) = false ∨ k = 4 then 0 else if k = 1 then (placesD f t).length else if k = 5 then phraseD f t.1 ws else scoreL f ks
def scoreL (f : List Fd) : List Qy → Nat
  | [] => 0
  | q :: l => scoreQ f q + scoreL f l
end
theorem scoreL_at {f : List Fd} {l : List Qy} {i : Nat} (hi : i < l.length) : scoreL f (l.drop i) = scoreQ f l[i] + scoreL f (l.drop (i + 1)) := by rw [List.drop_eq_getElem_cons hi, scoreL]

/-- A query that may be, made of any, that stands so deep. -/
def goodK (k : Int) : Int := 1 + (if k < 0 then -(k + 1) else k) % 5
def goodFn (s : Nm) : Nm := if nameB s = true then s else [116]
def goodWd (s : Nm) : Nm := if mayWord s = true then s else [97]
def goodWs (ws : List Nm) : List Nm := (ws.take 3).filter mayWord
mutual
def goodQ : Nat → Qy → Qy
  | d, .mk k t ws ks =>
    if (2 ≤ goodK k ∧ goodK k ≤ 4) ∧ d < 4 ∧ 0 < ks.length then .mk (goodK k) ([], []) [] (goodL (if goodK k = 4 then 1 else 3) (d + 1) ks)
    else if goodK k = 5 ∧ 0 < (goodWs ws).length then .mk 5 (goodFn t.1, []) (goodWs ws) []
    else .mk 1 (goodFn t.1, goodWd t.2) [] []
def goodL : Nat → Nat → List Qy → List Qy
  | 0, _, _ => []
  | _ + 1, _, [] => []
  | m + 1, d, q :: l => goodQ d q :: goodL m d l
end
mutual
/-- .. cut to its first kids and words. -/
def fewQ : Nat → Qy → Qy
  | d, .mk k t ws ks => .mk k (t.1.take 15, t.2.take 35) ((ws.take 9).map (·.take 35)) (match d with | 0 => [] | d + 1 => fewL 9 d ks)
def fewL : Nat → Nat → List Qy → List Qy
  | 0, _, _ => []
  | _ + 1, _, [] => []
  | m + 1, d, q :: l => fewQ d q :: fewL m d l
end
end Go.Proofs.YtolfkhflbjnakaaGreatDoor

/- Lists of texts of a call's own; names as texts, and how a test of texts comes out. -/
set_option linter.unusedVariables false
namespace Go.Proofs.YtolfkhflbjnakaaGreatDoor
open Go Go.RowKit Go.Sort
/-- A list of texts of the call's own. -/
def OwnNm (base : Nat) (w : World) (v : Value) (l : List Nm) : Prop := w.ownsRow base 9 1 v l.length (strs l)
theorem OwnNm.below {base : Nat} {w w' : World} {v : Value} {l : List Nm} (h : OwnNm base w v l) (hb : Below w.heap.size w w') : OwnNm base w' v l := owned_below h hb
theorem OwnNm.low {base b : Nat} {w : World} {v : Value} {l : List Nm} (h : OwnNm base w v l) (hb : b ≤ base) : OwnNm b w v l := owned_low h hb
theorem OwnNm.row {base : Nat} {w : World} {v : Value} {l : List Nm} (h : OwnNm base w v l) : ∃ A c, v = .slice A l.length c ∧ l.length ≤ c ∧ Row w w.heap.size A (strs l) := owned_row h
theorem OwnNm.nil {base : Nat} {w : World} : OwnNm base w (.slice none 0 0) [] := World.ownsRow_nil _ _ _ _
/-- What a call gives that makes a list of texts. -/
def GaveNm (l : List Nm) (w : World) (e : Ending) (w' : World) : Prop := ∃ v, e = .returned v ∧ OwnNm w.heap.size w' v l ∧ Below w.heap.size w w'
theorem less_of {x y : Nm} : Op.bytesLess x y = decide (x < y) := bytesLess_eq x y
theorem ba_list (x : Nm) : ByteArray.toList ⟨x.toArray⟩ = x := by rw [Lib.toList_data]
theorem row_nm {w : World} {B : Nat} {A : Option Addr} {xs : List Nm} (h : Row w B A (strs xs)) {k : Nat} (hk : k < xs.length) :
    ∃ b off, A = some ⟨b, off, none⟩ ∧ b < B ∧ w.cell? ⟨b, off + k, none⟩ = some (.string ⟨xs[k].toArray⟩) := row_str h hk
/-- A name as a text, by a name of its own. -/
theorem as_text (x : Nm) : ∃ t : ByteArray, t = ⟨x.toArray⟩ ∧ t.data.toList = x := ⟨_, rfl, rfl⟩
theorem size_nm (x : Nm) : (⟨x.toArray⟩ : ByteArray).size = x.length := List.size_toArray
theorem less_true {s t : ByteArray} (h : s.data.toList < t.data.toList) : Op.bytesLess s.toList t.toList = true := by rw [Lib.toList_data, Lib.toList_data, less_of]; exact decide_eq_true h
theorem less_false {s t : ByteArray} (h : ¬ s.data.toList < t.data.toList) : Op.bytesLess s.toList t.toList = false := by rw [Lib.toList_data, Lib.toList_data, less_of]; exact decide_eq_false h
theorem same_true {s t : ByteArray} (h : s.data.toList = t.data.toList) : (s.toList == t.toList) = true := by rw [Lib.toList_data, Lib.toList_data, h]; exact beq_self_eq_true _
theorem same_false {s t : ByteArray} (h : s.data.toList ≠ t.data.toList) : (s.toList == t.toList) = false := by rw [Lib.toList_data, Lib.toList_data]; simpa using h
theorem strs_append (a b : List Nm) : strs (a ++ b) = strs a ++ strs b := by simp [strs]
theorem Row.dropped {w : World} {B b off : Nat} {l : List Nm} (h : Row w B (some ⟨b, off, none⟩) (strs l)) (k : Nat) : Row w B (some ⟨b, off + k, none⟩) (strs (l.drop k)) := by
  rcases h with h | ⟨b', o', e, hb, hc⟩
  · refine .inl ?_
    have : l = [] := by simpa [strs] using h
    simp [this, strs]
  · injection e with e
    injection e with e1 e2
    subst e1 e2
    refine .inr ⟨b, off + k, rfl, hb, fun j u hu => ?_⟩
    have := hc (k + j) u (by rw [← hu]; simp [strs])
    rwa [← Nat.add_assoc] at this
theorem strs_oneCell (l : List Nm) : ∀ u ∈ strs l, u.oneCell' = true := by
  intro u hu
  obtain ⟨x, _, rfl⟩ := List.mem_map.1 hu
  rfl
theorem Row.later {w w' : World} {A : Option Addr} {xs : List Value} (h : Row w w.heap.size A xs) (hb : Below w.heap.size w w') : Row w' w'.heap.size A xs := (h.below hb).more hb.size
end Go.Proofs.YtolfkhflbjnakaaGreatDoor

/- Fields in memory: two texts each, one behind the other. -/
set_option linter.unusedVariables false
namespace Go.Proofs.YtolfkhflbjnakaaGreatDoor
open Go Go.RowKit

def flds : List Fd → List Value
  | [] => []
  | f :: l => .string ⟨f.1.toArray⟩ :: .string ⟨f.2.toArray⟩ :: flds l
theorem flds_length : ∀ l : List Fd, (flds l).length = l.length * 2
  | [] => rfl
  | f :: l => by simp only [flds, List.length_cons, flds_length l]; omega
theorem flds_append : ∀ a b : List Fd, flds (a ++ b) = flds a ++ flds b
  | [], _ => rfl
  | f :: a, b => by simp [flds, flds_append a b]
theorem flds_at : ∀ {l : List Fd} {k : Nat} (hk : k < l.length), (flds l)[k * 2]? = some (.string ⟨l[k].1.toArray⟩) ∧ (flds l)[k * 2 + 1]? = some (.string ⟨l[k].2.toArray⟩)
  | [], _, h => by simp at h
  | f :: l, 0, _ => ⟨rfl, rfl⟩
  | f :: l, k + 1, h => by
    have := flds_at (l := l) (k := k) (by simpa using h)
    rw [show (k + 1) * 2 = k * 2 + 1 + 1 by omega]
    simpa [flds] using this
theorem flds_take : ∀ (l : List Fd) (k : Nat), flds (l.take k) = (flds l).take (k * 2)
  | l, 0 => by simp [flds]
  | [], k + 1 => by simp [flds]
  | f :: l, k + 1 => by rw [show (k + 1) * 2 = k * 2 + 1 + 1 by omega]; simp [flds, flds_take l k]
theorem flds_oneCell : ∀ (l : List Fd), ∀ u ∈ flds l, u.oneCell' = true
  | [], u, h => by cases h
  | f :: l, u, h => by
    simp only [flds, List.mem_cons] at h
    rcases h with rfl | rfl | h
    · rfl
    · rfl
    · exact flds_oneCell l u h
/-- Fields behind an address, below block B. -/
def FRow (w : World) (B : Nat) (A : Option Addr) (l : List Fd) : Prop := Row w B A (flds l)
theorem FRow.below {w w' : World} {B : Nat} {A : Option Addr} {l : List Fd} (h : FRow w B A l) (hb : Below B w w') : FRow w' B A l := Row.below h hb
theorem FRow.more {w : World} {B B' : Nat} {A : Option Addr} {l : List Fd} (h : FRow w B A l) (hB : B ≤ B') : FRow w B' A l := Row.more h hB
theorem FRow.nil {w : World} {B : Nat} {A : Option Addr} : FRow w B A [] := Row.nil
theorem FRow.later {w w' : World} {A : Option Addr} {l : List Fd} (h : FRow w w.heap.size A l) (hb : Below w.heap.size w w') : FRow w' w'.heap.size A l := (h.below hb).more hb.size
theorem FRow.at_ {w : World} {B : Nat} {A : Option Addr} {l : List Fd} (h : FRow w B A l) {k : Nat} (hk : k < l.length) :
    ∃ b off, A = some ⟨b, off, none⟩ ∧ b < B ∧ w.cell? ⟨b, off + k * 2, none⟩ = some (.string ⟨l[k].1.toArray⟩) ∧ w.cell? ⟨b, off + k * 2 + 1, none⟩ = some (.string ⟨l[k].2.toArray⟩) := by
  obtain ⟨b, off, rfl, hb, hc⟩ := Row.at_ h (by rw [flds_length]; omega)
  obtain ⟨g1, g2⟩ := flds_at hk
  exact ⟨b, off, rfl, hb, hc _ _ g1, by have := hc _ _ g2; rwa [← Nat.add_assoc] at this⟩
/-- A document as a value. -/
abbrev docV (id : Int) (A : Option Addr) (n c : Nat) : Value := .agg #[.int .i64 id, .slice A n c]
theorem info_field : (Tryz.prog.info? 60).map (fun i => (i.zero, i.size, i.bytes)) = some (some (.agg #[.string ByteArray.empty, .string ByteArray.empty]), 2, 32) := by kernel_rfl
end Go.Proofs.YtolfkhflbjnakaaGreatDoor
