/- A heap in a list: what is up, what is down. No program. -/
import Derived.Test.YtpehcaidjlemiaaOrdP11
set_option linter.unusedVariables false
namespace Go.Proofs.Ytpehcaidjlemiaa
open Go

section
variable {α : Type} (key : α → Int)
/-- The first n of a list are a heap. -/
def HeapN (l : List α) (n : Nat) : Prop := ∀ i (hi : i < l.length), 0 < i → i < n → key (l[(i - 1) / 2]'(by omega)) ≤ key l[i]
/-- They are, but that the one at j may be below those ahead of it. -/
structure HeapUp (l : List α) (j : Nat) : Prop where
  but : ∀ i (hi : i < l.length), 0 < i → i ≠ j → key (l[(i - 1) / 2]'(by omega)) ≤ key l[i]
  kids : ∀ c (hc : c < l.length) (_ : 0 < c), ∀ (hp : (c - 1) / 2 = j) (h0 : 0 < j), key (l[(j - 1) / 2]'(by omega)) ≤ key l[c]
/-- They are, but that the one at j may be above those behind it. -/
structure HeapDn (l : List α) (j n : Nat) : Prop where
  but : ∀ i (hi : i < l.length), 0 < i → i < n → (i - 1) / 2 ≠ j → key (l[(i - 1) / 2]'(by omega)) ≤ key l[i]
  kids : ∀ c (hc : c < l.length), 0 < c → c < n → ∀ (hp : (c - 1) / 2 = j) (h0 : 0 < j), key (l[(j - 1) / 2]'(by omega)) ≤ key l[c]
def swapL (l : List α) (i j : Nat) (hi : i < l.length) (hj : j < l.length) : List α := (l.set i l[j]).set j l[i]
variable {key} {l : List α} {i j n : Nat}
theorem swapL_length (hi : i < l.length) (hj : j < l.length) : (swapL l i j hi hj).length = l.length := by simp [swapL]
theorem swapL_perm (hi : i < l.length) (hj : j < l.length) : (swapL l i j hi hj).Perm l := List.set_set_perm hi hj
theorem swapL_at (hi : i < l.length) (hj : j < l.length) {k : Nat} (hk : k < (swapL l i j hi hj).length) :
    (swapL l i j hi hj)[k] = if k = j then l[i] else if k = i then l[j] else l[k]'(by rw [swapL_length] at hk; exact hk) := by
  have hsw : (swapL l i j hi hj)[k] = ((l.set i l[j]).set j l[i])[k]'(by simpa [swapL] using hk) := rfl
  rw [hsw, List.getElem_set]
  by_cases h : j = k
  · rw [if_pos h, if_pos h.symm]
  · rw [if_neg h, if_neg (fun e => h e.symm), List.getElem_set]
    by_cases h2 : i = k
    · rw [if_pos h2, if_pos h2.symm]
    · rw [if_neg h2, if_neg (fun e => h2 e.symm)]
theorem HeapUp.top (h : HeapUp key l 0) : HeapN key l l.length := fun i hi h0 _ => h.but i hi h0 (by omega)
theorem HeapUp.stop (h : HeapUp key l j) (hj : j < l.length) (hs : ¬ key l[j] < key (l[(j - 1) / 2]'(by omega))) : HeapN key l l.length := fun i hi h0 _ => by
  by_cases e : i = j
  · subst e; omega
  · exact h.but i hi h0 e
theorem HeapUp.step (h : HeapUp key l j) (hj : j < l.length) (h0 : 0 < j) (hs : key l[j] < key (l[(j - 1) / 2]'(by omega))) : HeapUp key (swapL l ((j - 1) / 2) j (by omega) hj) ((j - 1) / 2) := by
  constructor
  · intro i hi hi0 hne
    rw [swapL_at, swapL_at]
    have hil : i < l.length := by rwa [swapL_length] at hi
    by_cases e : i = j
    · subst e
      rw [if_pos rfl, if_neg (by omega), if_pos rfl]
      omega
    · rw [if_neg e, if_neg hne]
      by_cases e2 : (i - 1) / 2 = j
      · rw [if_pos e2]
        exact h.kids i hil hi0 e2 h0
      · rw [if_neg e2]
        by_cases e3 : (i - 1) / 2 = (j - 1) / 2
        · rw [if_pos e3]
          have := h.but i hil hi0 e
          simp only [e3] at this
          omega
        · rw [if_neg e3]
          exact h.but i hil hi0 e
  · intro c hc hc0 hp h1
    rw [swapL_at, swapL_at]
    have hcl : c < l.length := by rwa [swapL_length] at hc
    have hpp := h.but ((j - 1) / 2) (by omega) h1 (by omega)
    rw [if_neg (by omega), if_neg (by omega)]
    by_cases e : c = j
    · rw [if_pos e]; exact hpp
    · rw [if_neg e, if_neg (by omega)]
      have := h.but c hcl hc0 e
      simp only [hp] at this
      omega
theorem HeapDn.stop (h : HeapDn key l j n) (hn : n ≤ l.length) (hs : ∀ c (hc : c < n) (h0 : 0 < c) (hp : (c - 1) / 2 = j), key (l[j]'(by omega)) ≤ key (l[c]'(by omega))) : HeapN key l n := fun i hi h0 hin => by
  by_cases e : (i - 1) / 2 = j
  · have := hs i hin h0 e
    simp only [e]
    exact this
  · exact h.but i hi h0 hin e
theorem HeapDn.step (h : HeapDn key l j n) (hn : n ≤ l.length) {m : Nat} (hm : m < n) (h0 : 0 < m) (hp : (m - 1) / 2 = j) (hs : key (l[m]'(by omega)) < key (l[j]'(by omega)))
    (hl : ∀ c (hc : c < n) (h0 : 0 < c) (hp : (c - 1) / 2 = j), key (l[m]'(by omega)) ≤ key (l[c]'(by omega))) : HeapDn key (swapL l j m (by omega) (by omega)) m n := by
  constructor
  · intro i hi hi0 hin hne
    have hil : i < l.length := by rwa [swapL_length] at hi
    rw [swapL_at, swapL_at, if_neg hne]
    by_cases e : i = m
    · subst e
      rw [if_pos hp, if_pos rfl]
      exact Int.le_of_lt hs
    · rw [if_neg e]
      by_cases e2 : (i - 1) / 2 = j
      · rw [if_pos e2, if_neg (by omega)]
        exact hl i hin hi0 e2
      · rw [if_neg e2]
        by_cases e3 : i = j
        · rw [if_pos e3]
          have := h.kids m (by omega) h0 hm hp (by omega)
          simp only [e3]
          exact this
        · rw [if_neg e3]
          exact h.but i hil hi0 hin e2
  · intro c hc hc0 hcn hcp hm0
    have hcl : c < l.length := by rwa [swapL_length] at hc
    rw [swapL_at, swapL_at, if_neg (by omega), if_pos hp, if_neg (by omega), if_neg (by omega)]
    have := h.but c hcl hc0 hcn (by omega)
    simp only [hcp] at this
    exact this
/-- The first one is the least. -/
theorem HeapN.least (h : HeapN key l n) (hn : n ≤ l.length) : ∀ i (hi : i < n), key (l[0]'(by omega)) ≤ key (l[i]'(by omega)) := by
  intro i
  induction i using Nat.strongRecOn with
  | _ i ih =>
    intro hi
    by_cases e : i = 0
    · subst e; omega
    · have h1 := ih ((i - 1) / 2) (by omega) (by omega)
      have h2 := h i (by omega) (by omega) hi
      omega
/-- One that is put behind. -/
theorem HeapN.put (h : HeapN key l l.length) (x : α) : HeapUp key (l ++ [x]) l.length := by
  constructor
  · intro i hi h0 hne
    have hil : i < l.length := by simp at hi; omega
    rw [List.getElem_append_left (by omega), List.getElem_append_left hil]
    exact h i hil h0 hil
  · intro c hc h0 hp _
    simp at hc
    omega
/-- The last one in the place of the first one. -/
theorem HeapN.pop (h : HeapN key l l.length) (hl : 0 < l.length) : HeapDn key (swapL l 0 (l.length - 1) hl (by omega)) 0 (l.length - 1) := by
  constructor
  · intro i hi h0 hin hne
    have hil : i < l.length := by rwa [swapL_length] at hi
    rw [swapL_at, swapL_at, if_neg (by omega), if_neg hne, if_neg (by omega), if_neg (by omega)]
    exact h i hil h0 hil
  · intro c _ _ _ _ h0
    omega
/-- Another one in the place of the first one. -/
theorem HeapN.put0 (h : HeapN key l l.length) (x : α) : HeapDn key (l.set 0 x) 0 l.length := by
  constructor
  · intro i hi h0 hin hne
    rw [List.getElem_set, List.getElem_set, if_neg (by omega), if_neg (by omega)]
    exact h i hin h0 hin
  · intro c _ _ _ _ h0
    omega
end
end Go.Proofs.Ytpehcaidjlemiaa
