/- The next number of each list, in a row: what is in it while an order is made. No program. -/
import Derived.Test.YtpehcaidjlemiaaHeap11
set_option linter.unusedVariables false
namespace Go.Proofs.Ytpehcaidjlemiaa
open Go

/-- A number, its list, its place there. -/
abbrev Hd := Int × Nat × Nat
/-- A row has the next number of each list that has one, once. -/
structure Heads (l : List (List Int)) (a : List Nat) (H : List Hd) : Prop where
  ins : ∀ x ∈ H, InO l x.2 ∧ x.2.2 = a.getD x.2.1 0 ∧ x.1 = valO l x.2
  all : ∀ i, InO l (i, a.getD i 0) → ∃ x ∈ H, x.2.1 = i
  once : (H.map (·.2.1)).Nodup
theorem Heads.perm {l : List (List Int)} {a : List Nat} {H K : List Hd} (h : Heads l a H) (hp : K.Perm H) : Heads l a K :=
  ⟨fun x hx => h.ins x (hp.mem_iff.1 hx), fun i hi => by obtain ⟨x, hx, e⟩ := h.all i hi; exact ⟨x, hp.mem_iff.2 hx, e⟩, (hp.map _).nodup_iff.2 h.once⟩
theorem heads_getD {a : List Nat} {b : Nat} (hb : b < a.length) (v i : Nat) : (a.set b v).getD i 0 = if i = b then v else a.getD i 0 := by
  rw [List.getD_eq_getElem?_getD, List.getElem?_set]
  by_cases e : b = i
  · subst e; simp [hb]
  · rw [if_neg e, if_neg (fun e2 => e e2.symm), List.getD_eq_getElem?_getD (l := a) (i := i)]
theorem Heads.rest {l : List (List Int)} {a : List Nat} {x : Hd} {R : List Hd} (h : Heads l a (x :: R)) : ∀ y ∈ R, y.2.1 ≠ x.2.1 := fun y hy e => by
  have := h.once
  rw [List.map_cons, List.nodup_cons] at this
  exact this.1 (List.mem_map.2 ⟨y, hy, e⟩)
/-- The first one is taken, and its list has no more. -/
theorem Heads.last {l : List (List Int)} {a : List Nat} {x : Hd} {R : List Hd} (hl : a.length = l.length) (h : Heads l a (x :: R)) (hn : ¬ InO l (x.2.1, x.2.2 + 1)) : Heads l (a.set x.2.1 (x.2.2 + 1)) R := by
  have hx := h.ins x (List.mem_cons_self ..)
  have hb : x.2.1 < a.length := by rw [hl]; exact hx.1.1
  have hr := h.rest
  refine ⟨fun y hy => ?_, fun i hi => ?_, ?_⟩
  · obtain ⟨h1, h2, h3⟩ := h.ins y (List.mem_cons_of_mem _ hy)
    refine ⟨h1, ?_, h3⟩
    rw [heads_getD hb, if_neg (hr y hy)]
    exact h2
  · rw [heads_getD hb] at hi
    split at hi
    · rename_i e
      subst e
      exact absurd hi hn
    · rename_i e
      obtain ⟨y, hy, e2⟩ := h.all i hi
      rcases List.mem_cons.1 hy with rfl | hy
      · exact absurd e2.symm e
      · exact ⟨y, hy, e2⟩
  · have := h.once
    rw [List.map_cons, List.nodup_cons] at this
    exact this.2
/-- The first one is taken, and the next one of its list comes in its place. -/
theorem Heads.next {l : List (List Int)} {a : List Nat} {x : Hd} {R : List Hd} (hl : a.length = l.length) (h : Heads l a (x :: R)) (hn : InO l (x.2.1, x.2.2 + 1)) : Heads l (a.set x.2.1 (x.2.2 + 1)) ((valO l (x.2.1, x.2.2 + 1), x.2.1, x.2.2 + 1) :: R) := by
  have hx := h.ins x (List.mem_cons_self ..)
  have hb : x.2.1 < a.length := by rw [hl]; exact hx.1.1
  have hr := h.rest
  refine ⟨fun y hy => ?_, fun i hi => ?_, ?_⟩
  · rcases List.mem_cons.1 hy with rfl | hy
    · exact ⟨hn, by simp only; rw [heads_getD hb, if_pos rfl], rfl⟩
    · obtain ⟨h1, h2, h3⟩ := h.ins y (List.mem_cons_of_mem _ hy)
      refine ⟨h1, ?_, h3⟩
      rw [heads_getD hb, if_neg (hr y hy)]
      exact h2
  · rw [heads_getD hb] at hi
    split at hi
    · rename_i e
      subst e
      exact ⟨_, List.mem_cons_self .., rfl⟩
    · rename_i e
      obtain ⟨y, hy, e2⟩ := h.all i hi
      rcases List.mem_cons.1 hy with rfl | hy
      · exact absurd e2.symm e
      · exact ⟨y, List.mem_cons_of_mem _ hy, e2⟩
  · have := h.once
    rw [List.map_cons] at this ⊢
    exact this
/-- None is left: all numbers have been taken. -/
theorem Heads.none {l : List (List Int)} {a : List Nat} {o : List Pl} {last : Int} (h : Heads l a []) (hm : OrdMid l a o last) : IsOrd l o :=
  hm.done fun i hi => by
    apply Classical.byContradiction
    intro hc
    obtain ⟨x, hx, _⟩ := h.all i (inO_at.2 ⟨hi, by omega⟩)
    simp at hx
/-- The least one of the row is the least one that is ahead. -/
theorem Heads.least {l : List (List Int)} {a : List Nat} {x : Hd} {R : List Hd} (h : Heads l a (x :: R)) (hm : ∀ y ∈ R, x.1 ≤ y.1) : InO l (x.2.1, a.getD x.2.1 0) ∧ ∀ i, InO l (i, a.getD i 0) → valO l (x.2.1, a.getD x.2.1 0) ≤ valO l (i, a.getD i 0) := by
  obtain ⟨h1, h2, h3⟩ := h.ins x (List.mem_cons_self ..)
  rw [← h2]
  refine ⟨h1, fun i hi => ?_⟩
  obtain ⟨y, hy, rfl⟩ := h.all i hi
  obtain ⟨g1, g2, g3⟩ := h.ins y hy
  rw [← g2, ← show x.1 = valO l (x.2.1, x.2.2) from h3, ← show y.1 = valO l (y.2.1, y.2.2) from g3]
  rcases List.mem_cons.1 hy with rfl | hy
  · exact Int.le_refl _
  · exact hm y hy
/-- The row at the begin: the first k lists' first numbers. -/
structure HeadsTo (l : List (List Int)) (k : Nat) (H : List Hd) : Prop where
  ins : ∀ x ∈ H, InO l x.2 ∧ x.2.2 = 0 ∧ x.1 = valO l x.2 ∧ x.2.1 < k
  all : ∀ i, i < k → InO l (i, 0) → ∃ x ∈ H, x.2.1 = i
  once : (H.map (·.2.1)).Nodup
theorem headsTo_zero (l : List (List Int)) : HeadsTo l 0 [] := ⟨fun x h => by simp at h, fun i h => by omega, List.Pairwise.nil⟩
theorem HeadsTo.perm {l : List (List Int)} {k : Nat} {H K : List Hd} (h : HeadsTo l k H) (hp : K.Perm H) : HeadsTo l k K :=
  ⟨fun x hx => h.ins x (hp.mem_iff.1 hx), fun i hi hi2 => by obtain ⟨x, hx, e⟩ := h.all i hi hi2; exact ⟨x, hp.mem_iff.2 hx, e⟩, (hp.map _).nodup_iff.2 h.once⟩
theorem HeadsTo.skip {l : List (List Int)} {k : Nat} {H : List Hd} (h : HeadsTo l k H) (hn : ¬ InO l (k, 0)) : HeadsTo l (k + 1) H :=
  ⟨fun x hx => by obtain ⟨h1, h2, h3, h4⟩ := h.ins x hx; exact ⟨h1, h2, h3, by omega⟩, fun i hi hi2 => by
    by_cases e : i = k
    · subst e; exact absurd hi2 hn
    · exact h.all i (by omega) hi2, h.once⟩
theorem HeadsTo.put {l : List (List Int)} {k : Nat} {H : List Hd} (h : HeadsTo l k H) (hn : InO l (k, 0)) : HeadsTo l (k + 1) (H ++ [(valO l (k, 0), k, 0)]) := by
  refine ⟨fun x hx => ?_, fun i hi hi2 => ?_, ?_⟩
  · rcases List.mem_append.1 hx with hx | hx
    · obtain ⟨h1, h2, h3, h4⟩ := h.ins x hx; exact ⟨h1, h2, h3, by omega⟩
    · rw [List.mem_singleton.1 hx]
      exact ⟨hn, rfl, rfl, by simp⟩
  · by_cases e : i = k
    · subst e; exact ⟨_, List.mem_append_right _ (List.mem_singleton.2 rfl), rfl⟩
    · obtain ⟨x, hx, e2⟩ := h.all i (by omega) hi2
      exact ⟨x, List.mem_append_left _ hx, e2⟩
  · rw [List.map_append, List.nodup_append]
    refine ⟨h.once, by simp, fun u hu v hv e => ?_⟩
    obtain ⟨x, hx, rfl⟩ := List.mem_map.1 hu
    simp at hv
    have := (h.ins x hx).2.2.2
    omega
theorem HeadsTo.start {l : List (List Int)} {H : List Hd} (h : HeadsTo l l.length H) : Heads l (List.replicate l.length 0) H := by
  have e : ∀ i, (List.replicate l.length 0).getD i 0 = 0 := fun i => by
    rw [List.getD_eq_getElem?_getD, List.getElem?_replicate]
    split <;> rfl
  exact ⟨fun x hx => by obtain ⟨h1, h2, h3, h4⟩ := h.ins x hx; exact ⟨h1, by rw [e]; exact h2, h3⟩, fun i hi => by rw [e] at hi; exact h.all i hi.1 hi, h.once⟩
end Go.Proofs.Ytpehcaidjlemiaa
