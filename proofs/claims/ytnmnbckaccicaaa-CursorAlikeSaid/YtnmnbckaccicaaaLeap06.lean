/- Two cursors that leap over each other meet at what is in both. No program. -/
import Derived.Test.YtnmnbckaccicaaaAdv06
set_option linter.unusedVariables false
namespace Go.Proofs.Ytnmnbckaccicaaa

/-- What is told twice alike. -/
def coll (xs : List (Int × Int)) : List Int := (xs.filter fun p => p.1 == p.2).map (·.1)
theorem coll_nil : coll [] = [] := rfl
theorem coll_same (xs : List (Int × Int)) (x y : Int) (h : x = y) : coll (xs ++ [(x, y)]) = coll xs ++ [x] := by
  subst h; simp [coll]
theorem coll_other (xs : List (Int × Int)) (x y : Int) (h : ¬ x = y) : coll (xs ++ [(x, y)]) = coll xs := by
  simp [coll, h]

theorem advC_spec {g : List Po} {doc : Int} : ∀ (n : Nat) (i : Int), ((g.length : Int) - i).toNat = n → i ≤ (g.length : Int) →
    (∀ k, i ≤ k → k < advC g doc i → docC g k < doc) ∧ (advC g doc i = (g.length : Int) ∨ doc ≤ docC g (advC g doc i)) := by
  intro n
  induction n with
  | zero =>
    intro i h hi
    rw [advC_stay (by omega)]
    exact ⟨fun k h1 h2 => by omega, .inl (by omega)⟩
  | succ n ih =>
    intro i h hi
    by_cases hc : docC g i < doc ∧ i < (g.length : Int)
    · rw [advC_step hc]
      obtain ⟨h1, h2⟩ := ih (i + 1) (by omega) (by omega)
      refine ⟨fun k h3 h4 => ?_, h2⟩
      by_cases e : k = i
      · subst e; exact hc.1
      · exact h1 k (by omega) h4
    · rw [advC_stay hc]
      exact ⟨fun k h1 h2 => by omega, by omega⟩
theorem drop_ge {h : List Po} (hm : mayB' (-1) h = true) {j : Nat} {q : Po} (hq : q ∈ h.drop j) : docC h (j : Int) ≤ q.1 ∧ j < h.length := by
  obtain ⟨m, hm1, rfl⟩ := List.getElem_of_mem hq
  rw [List.length_drop] at hm1
  have h1 := docC_mono hm (i := j) (j := j + m) (by omega) (by omega)
  rw [docC_at (k := j + m) (by omega), List.getD_eq_getElem?_getD, List.getElem?_eq_getElem (by omega)] at h1
  rw [List.getElem_drop]
  exact ⟨h1, by omega⟩
theorem drop_one {g : List Po} {k : Nat} (h : k < g.length) : g.drop k = g.getD k (0, []) :: g.drop (k + 1) := by
  rw [List.drop_eq_getElem_cons h, List.getD_eq_getElem?_getD, List.getElem?_eq_getElem h]
  rfl
theorem inter_nil (a : List Po) : interP a [] = [] := by cases a <;> rw [interP]
theorem inter_skipL {p : Po} {r b : List Po} (h : ∀ q ∈ b, p.1 < q.1) : interP (p :: r) b = interP r b := by
  cases b with
  | nil => rw [inter_nil, inter_nil]
  | cons q s =>
    have := h q (by simp)
    rw [interP, if_neg (by omega), if_pos this]
theorem inter_skipR {a : List Po} {q : Po} {s : List Po} (h : ∀ p ∈ a, q.1 < p.1) : interP a (q :: s) = interP a s := by
  rw [inter_comm _ a (q :: s) rfl, inter_comm _ a s rfl]
  exact inter_skipL h
theorem drops_skipL {g b : List Po} : ∀ (n i i' : Nat), i' - i = n → i ≤ i' → i' ≤ g.length → (∀ k, i ≤ k → k < i' → ∀ q ∈ b, (g.getD k (0, [])).1 < q.1) → interP (g.drop i) b = interP (g.drop i') b := by
  intro n
  induction n with
  | zero => intro i i' h1 h2 _ _; rw [show i = i' by omega]
  | succ n ih =>
    intro i i' h1 h2 h3 h4
    rw [drop_one (by omega), inter_skipL (h4 i (Nat.le_refl _) (by omega))]
    exact ih (i + 1) i' (by omega) (by omega) h3 fun k hk => h4 k (by omega)
theorem drops_skipR {a h : List Po} (i i' : Nat) (h1 : i ≤ i') (h2 : i' ≤ h.length) (h3 : ∀ k, i ≤ k → k < i' → ∀ p ∈ a, (h.getD k (0, [])).1 < p.1) : interP a (h.drop i) = interP a (h.drop i') := by
  rw [inter_comm _ a _ rfl, inter_comm _ a (h.drop i') rfl]
  exact drops_skipL _ i i' rfl h1 h2 h3

theorem inter_skipR_drop {a h : List Po} {b : Nat} (hb : b < h.length) (hs : ∀ p ∈ a, (h.getD b (0, [])).1 < p.1) : interP a (h.drop b) = interP a (h.drop (b + 1)) := by
  rw [drop_one hb]
  exact inter_skipR hs

/-- One leap of each. -/
theorem leap_step {g h : List Po} (hg : mayB' (-1) g = true) (hh : mayB' (-1) h = true) (i : Nat) (hi : i < g.length) (j : Int) (hj0 : -1 ≤ j) (hj1 : j ≤ (h.length : Int)) (x y z : Int) (j' i' : Int)
    (hx : x = docC g (i : Int)) (hj' : j' = advC h x j) (hy : y = docC h j') (hz : z = if x + 1 ≤ y then y else x + 1) (hi' : i' = advC g z (i : Int)) :
    interP (g.drop i) (h.drop j.toNat) = (if x = y then [x] else []) ++ interP (g.drop i'.toNat) (h.drop j'.toNat) ∧ (i : Int) < i' ∧ i' ≤ (g.length : Int) ∧ -1 ≤ j' ∧ j' ≤ (h.length : Int) ∧ x ≤ y ∧ 0 ≤ y ∧ y ≤ 2147483648 ∧ 0 ≤ x ∧ x < 2147483648 := by
  have hxb := docC_lt hg hi
  rw [← hx] at hxb
  have hbj := advC_bd (g := h) (doc := x) _ j rfl hj1
  obtain ⟨hsj, hej⟩ := advC_spec (g := h) (doc := x) _ j rfl hj1
  rw [← hj'] at hbj hsj hej
  have hj'0 : 0 ≤ j' := by
    rcases Int.lt_or_le j' 0 with h0 | h0
    · rcases hej with e | e
      · omega
      · rw [docC_ahead h0] at e; omega
    · exact h0
  obtain ⟨b, hb⟩ := Int.eq_ofNat_of_zero_le hj'0
  have hyb : x ≤ y ∧ y ≤ 2147483648 := by
    rcases Nat.lt_or_ge b h.length with hbl | hbl
    · have := docC_lt hh hbl
      rw [hy, hb]
      rcases hej with e | e
      · omega
      · rw [hb] at e; omega
    · rw [hy, hb, docC_behind (by omega) (by omega)]; omega
  have hzx : x < z := by rw [hz]; split <;> omega
  have hbi := advC_bd (g := g) (doc := z) _ (i : Int) rfl (by omega)
  obtain ⟨hsi, _⟩ := advC_spec (g := g) (doc := z) _ (i : Int) rfl (by omega)
  have hstep : advC g z (i : Int) = advC g z ((i : Int) + 1) := advC_step ⟨by rw [← hx]; exact hzx, by omega⟩
  have hbi1 := advC_bd (g := g) (doc := z) _ ((i : Int) + 1) rfl (by omega)
  rw [← hstep] at hbi1
  rw [← hi'] at hbi hsi hbi1
  obtain ⟨c, hc⟩ := Int.eq_ofNat_of_zero_le (show 0 ≤ i' by omega)
  refine ⟨?_, by omega, hbi.2, by omega, hbj.2, hyb.1, by omega, hyb.2, hxb.1, hxb.2⟩
  have e1 : interP (g.drop i) (h.drop j.toNat) = interP (g.drop i) (h.drop b) := by
    refine drops_skipR j.toNat b (by omega) (by omega) fun k h1 h2 p hp => ?_
    have hk := hsj (k : Int) (by omega) (by omega)
    rw [docC_at (by omega)] at hk
    have := (drop_ge hg hp).1
    omega
  rw [e1, hb, hc]
  simp only [Int.toNat_natCast]
  by_cases hxy : x = y
  · rw [if_pos hxy]
    have hbl : b < h.length := by
      rcases Nat.lt_or_ge b h.length with h1 | h1
      · exact h1
      · rw [hy, hb, docC_behind (by omega) (by omega)] at hxy; omega
    have hyd : (h.getD b (0, [])).1 = y := by rw [hy, hb, docC_at hbl]
    have hxd : (g.getD i (0, [])).1 = x := by rw [hx, docC_at hi]
    have hzx1 : z = x + 1 := by rw [hz, if_neg (by omega)]
    have hgt : ∀ p ∈ g.drop (i + 1), x < p.1 := fun p hp => by
      have h1 := drop_ge hg hp
      have h2 := doc_mono hg (i := i) (j := i + 1) (by omega) h1.2
      have h3 := h1.1
      rw [docC_at h1.2] at h3
      omega
    have hci : c = i + 1 := by
      rcases Nat.lt_or_ge (i + 1) c with h1 | h1
      · have h2 := hsi ((i + 1 : Nat) : Int) (by omega) (by omega)
        rw [docC_at (by omega), hzx1] at h2
        have h3 := doc_mono hg (i := i) (j := i + 1) (by omega) (by omega)
        omega
      · omega
    have e2 : interP (g.drop (i + 1)) (h.drop b) = interP (g.drop (i + 1)) (h.drop (b + 1)) := inter_skipR_drop hbl fun p hp => by rw [hyd, ← hxy]; exact hgt p hp
    rw [hci, e2, drop_one hi, drop_one hbl]
    rw [interP, if_pos (by rw [hxd, hyd, hxy]), hxd]
    rfl
  · rw [if_neg hxy, List.nil_append]
    have hzy : z = y := by rw [hz, if_pos (by omega)]
    refine drops_skipL _ i c rfl (by omega) (by omega) fun k h1 h2 q hq => ?_
    have hk := hsi (k : Int) (by omega) (by omega)
    rw [docC_at (by omega), hzy] at hk
    have := (drop_ge hh hq).1
    rw [← hb, ← hy] at this
    omega
end Go.Proofs.Ytnmnbckaccicaaa
