/- Where places of lists stand in an order. No program. -/
import Derived.Test.YtpehcaidjlemiaaOrdP11
set_option linter.unusedVariables false
namespace Go.Proofs.Ytpehcaidjlemiaa
open Go

abbrev AtO (p : Pl) (i k : Int) : Prop := (p.1 : Int) = i ∧ (p.2 : Int) = k
theorem placeO_drop {o : List Pl} {j : Nat} (hj : j < o.length) (m : Nat) (i k : Int) : placeO (o.drop j) m i k = if AtO o[j] i k then (m : Int) else placeO (o.drop (j + 1)) (m + 1) i k := by
  rw [List.drop_eq_getElem_cons hj, placeO]
theorem placeO_end {o : List Pl} {j : Nat} (hj : o.length ≤ j) (m : Nat) (i k : Int) : placeO (o.drop j) m i k = -1 := by
  rw [List.drop_eq_nil_of_le hj]; rfl
theorem placeO_snoc : ∀ (o : List Pl) (m : Nat) (p : Pl) (i k : Int), placeO (o ++ [p]) m i k = if placeO o m i k ≠ -1 then placeO o m i k else if AtO p i k then ((m + o.length : Nat) : Int) else -1
  | [], m, p, i, k => by
    by_cases h : (p.1 : Int) = i ∧ (p.2 : Int) = k <;> simp [placeO, AtO, h]
  | q :: o, m, p, i, k => by
    rw [List.cons_append, placeO, placeO]
    by_cases h : (q.1 : Int) = i ∧ (q.2 : Int) = k
    · rw [if_pos h, if_pos h, if_pos (by omega)]
    · rw [if_neg h, if_neg h, placeO_snoc o (m + 1) p i k, List.length_cons, show m + 1 + o.length = m + (o.length + 1) by omega]
theorem placeO_in : ∀ {o : List Pl} {m : Nat} {i k : Int}, placeO o m i k ≠ -1 → ∃ p ∈ o, AtO p i k
  | [], m, i, k, h => by simp [placeO] at h
  | q :: o, m, i, k, h => by
    rw [placeO] at h
    split at h
    · rename_i e; exact ⟨q, List.mem_cons_self .., e⟩
    · obtain ⟨p, hp, e⟩ := placeO_in h
      exact ⟨p, List.mem_cons_of_mem _ hp, e⟩
theorem placeO_none {o : List Pl} {m : Nat} {i k : Int} (h : ∀ p ∈ o, ¬ AtO p i k) : placeO o m i k = -1 := by
  apply Classical.byContradiction
  intro hn
  obtain ⟨p, hp, e⟩ := placeO_in hn
  exact h p hp e
theorem atO_eq {p q : Pl} {i k : Int} (h : AtO p i k) (h2 : AtO q i k) : p = q := by
  obtain ⟨h1, h2'⟩ := h
  obtain ⟨h3, h4⟩ := h2
  exact Prod.ext (by omega) (by omega)
/-- One place more: where each stands once. -/
theorem placeO_take {o : List Pl} (ho : o.Nodup) {j : Nat} (hj : j < o.length) (i k : Int) : placeO (o.take (j + 1)) 0 i k = if AtO o[j] i k then (j : Int) else placeO (o.take j) 0 i k := by
  rw [List.take_succ_eq_append_getElem hj, placeO_snoc, List.length_take, Nat.min_eq_left (by omega), Nat.zero_add]
  by_cases h : AtO o[j] i k
  · have hn : placeO (o.take j) 0 i k = -1 := placeO_none fun p hp e => by
      have e2 := atO_eq e h
      subst e2
      obtain ⟨x, hx, e3⟩ := List.getElem_of_mem hp
      rw [List.getElem_take] at e3
      rw [List.length_take] at hx
      have := List.pairwise_iff_getElem.1 ho x j (by omega) hj (by omega)
      exact this e3
    rw [if_pos h, if_pos h, if_neg (by omega)]
  · rw [if_neg h, if_neg h]
    split
    · rfl
    · rename_i h2
      exact (Classical.not_not.1 h2).symm
theorem IsOrd.nodup {l : List (List Int)} {o : List Pl} (h : IsOrd l o) : o.Nodup := h.rise.imp fun h e => by rw [e] at h; exact Int.lt_irrefl _ h
/-- Of the n places of a list: where each stands. -/
def placesO (o : List Pl) (i : Int) (n : Nat) : List Int := (List.range n).map fun (k : Nat) => placeO o 0 i (k : Int)
end Go.Proofs.Ytpehcaidjlemiaa
