/- A heap in a list that is made from behind: what is down, from some place on. No program. -/
import Derived.Test.YtpehcaidjlemiaaHeap11
set_option linter.unusedVariables false
namespace Go.Proofs.Ytpehcaidjlemiaa
open Go

section
variable {α : Type} (key : α → Int)
/-- The first n of a list are a heap, from those ahead of which stands one from m on. -/
def HeapF (l : List α) (n m : Nat) : Prop := ∀ i (hi : i < l.length), 0 < i → i < n → m ≤ (i - 1) / 2 → key (l[(i - 1) / 2]'(by omega)) ≤ key l[i]
/-- They are, but that the one at j may be above those behind it. -/
structure HeapDnF (l : List α) (j n m : Nat) : Prop where
  but : ∀ i (hi : i < l.length), 0 < i → i < n → m ≤ (i - 1) / 2 → (i - 1) / 2 ≠ j → key (l[(i - 1) / 2]'(by omega)) ≤ key l[i]
  kids : ∀ c (hc : c < l.length), 0 < c → c < n → ∀ (hp : (c - 1) / 2 = j) (h0 : 0 < j), m ≤ (j - 1) / 2 → key (l[(j - 1) / 2]'(by omega)) ≤ key l[c]
variable {key} {l : List α} {i j n m : Nat}
theorem HeapF.all (h : HeapF key l n 0) : HeapN key l n := fun i hi h0 hin => h i hi h0 hin (Nat.zero_le _)
theorem heapF_begin (l : List α) (n : Nat) : HeapF key l n (n / 2) := fun i hi h0 hin hm => by omega
theorem HeapF.down (h : HeapF key l n (j + 1)) : HeapDnF key l j n j :=
  ⟨fun i hi h0 hin hm hne => h i hi h0 hin (by omega), fun c hc h0 hcn hp hj hm => by omega⟩
theorem HeapN.downF (h : HeapN key l n) : HeapDnF key l 0 n 0 :=
  ⟨fun i hi h0 hin _ _ => h i hi h0 hin, fun c hc h0 hcn hp hj hm => by omega⟩
theorem HeapDn.f (h : HeapDn key l j n) : HeapDnF key l j n 0 := ⟨fun i hi h0 hin _ hne => h.but i hi h0 hin hne, fun c hc h0 hcn hp hj _ => h.kids c hc h0 hcn hp hj⟩
theorem HeapDnF.stop (h : HeapDnF key l j n m) (hn : n ≤ l.length) (hs : ∀ c (hc : c < n) (h0 : 0 < c) (hp : (c - 1) / 2 = j), key (l[j]'(by omega)) ≤ key (l[c]'(by omega))) : HeapF key l n m := fun i hi h0 hin hm => by
  by_cases e : (i - 1) / 2 = j
  · have := hs i hin h0 e
    simp only [e]
    exact this
  · exact h.but i hi h0 hin hm e
theorem HeapDnF.step (h : HeapDnF key l j n m) (hn : n ≤ l.length) {k : Nat} (hk : k < n) (h0 : 0 < k) (hp : (k - 1) / 2 = j) (hmj : m ≤ j) (hs : key (l[k]'(by omega)) < key (l[j]'(by omega)))
    (hl : ∀ c (hc : c < n) (h0 : 0 < c) (hp : (c - 1) / 2 = j), key (l[k]'(by omega)) ≤ key (l[c]'(by omega))) : HeapDnF key (swapL l j k (by omega) (by omega)) k n m := by
  constructor
  · intro i hi hi0 hin hm hne
    have hil : i < l.length := by rwa [swapL_length] at hi
    rw [swapL_at, swapL_at, if_neg hne]
    by_cases e : i = k
    · subst e
      rw [if_pos hp, if_pos rfl]
      exact Int.le_of_lt hs
    · rw [if_neg e]
      by_cases e2 : (i - 1) / 2 = j
      · rw [if_pos e2, if_neg (by omega)]
        exact hl i hin hi0 e2
      · rw [if_neg e2]
        by_cases e3 : i = j
        · rw [if_pos e3]
          have := h.kids k (by omega) h0 hk hp (by omega) (by omega)
          simp only [e3]
          exact this
        · rw [if_neg e3]
          exact h.but i hil hi0 hin hm e2
  · intro c hc hc0 hcn hcp hk0 hm
    have hcl : c < l.length := by rwa [swapL_length] at hc
    rw [swapL_at, swapL_at, if_neg (by omega), if_pos hp, if_neg (by omega), if_neg (by omega)]
    have := h.but c hcl hc0 hcn (by omega) (by omega)
    simp only [hcp] at this
    exact this
/-- The swap of the last one and the first one, and what of it counts. -/
theorem HeapN.popF (h : HeapN key l l.length) (hl : 0 < l.length) : HeapDnF key (swapL l 0 (l.length - 1) hl (by omega)) 0 (l.length - 1) 0 := (h.pop hl).f
/-- What is ahead of the end alone counts. -/
theorem HeapN.init {x : α} (h : HeapN key (l ++ [x]) l.length) : HeapN key l l.length := fun i hi h0 hin => by
  have := h i (by simp; omega) h0 hin
  rwa [List.getElem_append_left (by omega), List.getElem_append_left hi] at this
end
end Go.Proofs.Ytpehcaidjlemiaa
