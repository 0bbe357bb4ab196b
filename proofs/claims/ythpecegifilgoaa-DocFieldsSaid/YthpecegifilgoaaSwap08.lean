/- Two fields, and the same with their names changed. No program. -/
import Derived.Test.YthpecegifilgoaaQ13
set_option linter.unusedVariables false
namespace Go.Proofs.Ythpecegifilgoaa
open Go

def nT : Nm := [116]
def nU : Nm := [117]
theorem nTU : nT ≠ nU := by decide
def swapN (s : Nm) : Nm := if s = nT then nU else nT
def swapT (t : Tm) : Tm := (swapN t.1, t.2)
def two (x y : Nm) : List Fd := [(nT, x), (nU, y)]
def owt (x y : Nm) : List Fd := [(nU, x), (nT, y)]
theorem goodF_T (s : Nm) : goodF 0 (nT, s) = (nT, s.take 40) := by rw [goodF, if_pos (show nameB nT = true by decide)]
theorem goodF_U (s : Nm) : goodF 1 (nU, s) = (nU, s.take 40) := by rw [goodF, if_pos (show nameB nU = true by decide)]
theorem good_two {s t : Nm} (h : (goodD (two s t)).length = 2) : goodD (two s t) = two (s.take 40) (t.take 40) := by
  have e : goodD (two s t) = goodUp (two s t) 2 := rfl
  rw [e] at h ⊢
  have h1 := goodUp_length (two s t) 1
  rw [goodUp] at h ⊢
  split at h
  · rename_i h2
    rw [if_pos h2]
    rw [List.length_append, List.length_singleton] at h
    have h3 : (goodUp (two s t) 1).length = 1 := by omega
    rw [goodUp] at h3 ⊢
    split at h3
    · rename_i h4
      rw [if_pos h4]
      show ([] ++ [goodF 0 (nT, s)]) ++ [goodF 1 (nU, t)] = _
      rw [goodF_T, goodF_U]
      rfl
    · simp [goodUp] at h3
  · omega
theorem places_swap (x y : Nm) {t : Tm} (h : t.1 = nT ∨ t.1 = nU) : placesD (owt x y) (swapT t) = placesD (two x y) t := by
  unfold placesD
  congr 1
  rcases h with h | h
  · simp [owt, two, wordsD, swapT, swapN, h]
  · simp [owt, two, wordsD, swapT, swapN, h, nTU, nTU.symm]
theorem weight_swap (x y : Nm) : weightD (owt x y) = weightD (two x y) := by
  simp [weightD, owt, two, wordsD, nTU, nTU.symm]
theorem weight_two (x y : Nm) : weightD (two x y) = (words x).length + (words y).length := by
  simp [weightD, two, wordsD, nTU]
theorem good_owt {x y : Nm} (h : GoodF (two x y)) : GoodF (owt x y) := by
  have hx := h.wordsF (nT, x) (by simp [two])
  have hy := h.wordsF (nU, y) (by simp [two])
  have tx := h.texts (nT, x) (by simp [two])
  have ty := h.texts (nU, y) (by simp [two])
  have hw : weightD (owt x y) ≤ 500 := by rw [weight_swap]; exact h.weight
  have ha : ApartF (owt x y) := by simp [ApartF, owt, nTU.symm]
  refine ⟨by simp [owt], fun f hf => ?_, fun f hf => ?_, ha, fun f hf => ?_, fun f hf => ?_, fun s => Nat.le_trans (wordsD_le ha s) hw, hw⟩
  all_goals
    simp only [owt, List.mem_cons, List.not_mem_nil, or_false] at hf
    rcases hf with rfl | rfl
    all_goals first | assumption | (dsimp only; decide)
theorem two_names {x y : Nm} (h : GoodF (two x y)) {t : Tm} (ht : t ∈ termsD (two x y)) : t.1 = nT ∨ t.1 = nU := by
  obtain ⟨f, hf, h1, _⟩ := (tellD_mem t _).1 ((termsD_mem h.apart t).1 ht)
  simp only [two, List.mem_cons, List.not_mem_nil, or_false] at hf
  rcases hf with rfl | rfl
  · exact .inl h1
  · exact .inr h1
theorem terms_nodup {l : List Fd} (h : NoZero l) : (termsD l).Nodup := by
  have hr := termsD_rise h
  unfold RiseT Rise at hr
  rw [List.pairwise_map] at hr
  exact hr.imp fun {a b} (hab : keyT a < keyT b) (e : a = b) => nm_irrefl (keyT b) (e ▸ hab)
theorem swap_mem {x y : Nm} (h : GoodF (two x y)) {t : Tm} (ht : t.1 = nT ∨ t.1 = nU) : swapT t ∈ termsD (owt x y) ↔ t ∈ termsD (two x y) := by
  rw [termsD_mem h.apart, termsD_mem (good_owt h).apart, tellD_mem, tellD_mem]
  obtain ⟨t1, t2⟩ := t
  rcases ht with ht | ht
  · simp only at ht
    subst ht
    simp [two, owt, swapT, swapN, nTU, nTU.symm]
  · simp only at ht
    subst ht
    simp [two, owt, swapT, swapN, nTU, nTU.symm]
theorem owt_names {x y : Nm} (h : GoodF (two x y)) {t : Tm} (ht : t ∈ termsD (owt x y)) : t.1 = nT ∨ t.1 = nU := by
  obtain ⟨f, hf, h1, _⟩ := (tellD_mem t _).1 ((termsD_mem (good_owt h).apart t).1 ht)
  simp only [owt, List.mem_cons, List.not_mem_nil, or_false] at hf
  rcases hf with rfl | rfl
  · exact .inr h1
  · exact .inl h1
theorem swap_swap {t : Tm} (h : t.1 = nT ∨ t.1 = nU) : swapT (swapT t) = t := by
  obtain ⟨t1, t2⟩ := t
  rcases h with h | h
  · simp only at h
    subst h
    simp [swapT, swapN, nTU.symm]
  · simp only at h
    subst h
    simp [swapT, swapN, nTU.symm]
theorem swap_name {t : Tm} : (swapT t).1 = nT ∨ (swapT t).1 = nU := by
  unfold swapT swapN
  split
  · exact .inr rfl
  · exact .inl rfl
theorem terms_swap {x y : Nm} (h : GoodF (two x y)) : (termsD (owt x y)).length = (termsD (two x y)).length := by
  have hp : ((termsD (two x y)).map swapT).Perm (termsD (owt x y)) := by
    refine (List.perm_ext_iff_of_nodup ?_ (terms_nodup (good_owt h).zero)).2 fun t => ?_
    · rw [List.Nodup, List.pairwise_map]
      refine List.Pairwise.imp_of_mem (fun {a b} ha hb hab e => hab ?_) (terms_nodup h.zero)
      have := congrArg swapT e
      rwa [swap_swap (two_names h ha), swap_swap (two_names h hb)] at this
    · rw [List.mem_map]
      constructor
      · rintro ⟨a, ha, rfl⟩
        exact (swap_mem h (two_names h ha)).2 ha
      · intro ht
        have hn := owt_names h ht
        refine ⟨swapT t, ?_, swap_swap hn⟩
        rw [← swap_mem h swap_name, swap_swap hn]
        exact ht
  rw [← hp.length_eq, List.length_map]
end Go.Proofs.Ythpecegifilgoaa
