/- What is got of bytes is what these bytes are: numbers, rising numbers, postings that stand at a place. No program. -/
import Derived.Test.YtfhjnblcnkjooaaPlain05
set_option linter.unusedVariables false
namespace Go.Proofs.Ytfhjnblcnkjooaa

theorem getF_exact (l : List UInt8) : (getF l).2 = 0 ∨ putB (getF l).1 = l.take (getF l).2 := by
  have key : ∀ (f : Nat) (l : List UInt8) (k : Nat), scan f l = some k → k < l.length ∧ High l k ∧ (l.getD k 0).toNat < 128 := by
    intro f
    induction f with
    | zero => intro l k h; cases h
    | succ f ih =>
      intro l k h
      cases l with
      | nil => cases h
      | cons c r =>
        rw [scan] at h
        split at h
        · rename_i hc
          simp at h
          subst h
          exact ⟨by simp, High.zero _, by simpa using hc⟩
        · rename_i hc
          rw [Option.map_eq_some_iff] at h
          obtain ⟨j, hj, rfl⟩ := h
          obtain ⟨h1, h2, h3⟩ := ih r j hj
          refine ⟨by simp; omega, fun i hi => ?_, by simpa using h3⟩
          cases i with
          | zero => simp; omega
          | succ i => simpa using h2 i (by omega)
  unfold getF
  rcases hs : scan 9 l with _ | k
  · exact .inl rfl
  · obtain ⟨h1, h2, h3⟩ := key 9 l k hs
    have hd : ∀ j, j < k + 1 → (l.take (k + 1)).getD j 0 = l.getD j 0 := fun j hj => by
      rw [List.getD_eq_getElem?_getD, List.getElem?_take_of_lt hj, ← List.getD_eq_getElem?_getD]
    simp only
    split
    · exact .inl rfl
    · rename_i hne
      refine .inr ?_
      simp only
      refine (putB_valB (k := k) (l := l.take (k + 1)) (by rw [List.length_take]; omega) (fun j hj => ?_) ?_ ?_).1
      · rw [hd j (by omega)]
        exact h2 j hj
      · rw [hd k (by omega)]
        exact h3
      · rw [hd k (by omega)]
        omega
theorem getZ_exact {b : List UInt8} {a : Nat} {d q : Int} (h : getZ b (a : Int) = (d, q, 0)) :
    ∃ n k : Nat, d = (n : Int) ∧ q = (k : Int) ∧ a ≤ k ∧ k ≤ b.length ∧ b.take k = b.take a ++ putB n := by
  unfold getZ at h
  split at h
  · simp at h
  · rename_i h0
    rw [Int.toNat_natCast] at h
    split at h
    · simp at h
    · rename_i h1
      simp only [Prod.mk.injEq, and_true] at h
      obtain ⟨hd, hq⟩ := h
      have hbd := (getF_bd (b.drop a)).2.1
      rw [List.length_drop] at hbd
      refine ⟨_, a + (getF (b.drop a)).2, hd.symm, by rw [← hq]; simp, by omega, by omega, ?_⟩
      rcases getF_exact (b.drop a) with h2 | h2
      · exact absurd h2 h1
      · rw [h2, List.take_add]
theorem takeR_exact {b : List UInt8} : ∀ (m : Nat) (last : Int) (a : Nat) (acc xs : List Int) (q : Nat), takeR b m last a acc = some (xs, q) → a ≤ b.length →
    ∃ ys, xs = acc ++ ys ∧ ys.length = m ∧ risesZ last ys = true ∧ a ≤ q ∧ q ≤ b.length ∧ b.take q = b.take a ++ dB last ys
  | 0, last, a, acc, xs, q, h, ha => by
    simp only [takeR, Option.some.injEq, Prod.mk.injEq] at h
    obtain ⟨rfl, rfl⟩ := h
    exact ⟨[], by simp, rfl, rfl, Nat.le_refl _, ha, by simp [dB]⟩
  | m + 1, last, a, acc, xs, q, h, ha => by
    rw [takeR] at h
    split at h
    · cases h
    · rename_i h0
      have hbd := (getF_bd (b.drop a)).2.1
      rw [List.length_drop] at hbd
      obtain ⟨ys, h1, h2, h3, h4, h5, h6⟩ := takeR_exact m _ _ _ _ _ h (by omega)
      have hx : putB (getF (b.drop a)).1 = (b.drop a).take (getF (b.drop a)).2 := by
        rcases getF_exact (b.drop a) with h2 | h2
        · exact absurd (.inl h2) h0
        · exact h2
      refine ⟨(last + (((getF (b.drop a)).1 : Int) + 1)) :: ys, by rw [h1]; simp, by simp [h2], ?_, by omega, h5, ?_⟩
      · rw [risesZ, h3, Bool.and_true, decide_eq_true_iff]
        omega
      · rw [h6, List.take_add, dB, show (last + (((getF (b.drop a)).1 : Int) + 1) - (last + 1)).toNat = (getF (b.drop a)).1 by omega, hx, List.append_assoc]
theorem risZ_exact {b : List UInt8} {a : Nat} {ps : List Int} {q : Int} (h : risZ b (a : Int) = (ps, q, 0)) :
    ∃ k : Nat, q = (k : Int) ∧ a ≤ k ∧ k ≤ b.length ∧ risesZ (-1) ps = true ∧ b.take k = b.take a ++ putR ps := by
  unfold risZ at h
  split at h
  · rename_i h0
    obtain ⟨d, q2, e, hz⟩ : ∃ d q2 e, getZ b (a : Int) = (d, q2, e) := ⟨_, _, _, rfl⟩
    rw [hz] at h h0
    simp only at h h0
    subst h0
    obtain ⟨n, k, rfl, rfl, hak, hkb, hk⟩ := getZ_exact hz
    rw [Int.toNat_natCast, Int.toNat_natCast] at h
    rcases ht : takeR b n (-1) k [] with _ | ⟨xs, q'⟩
    · rw [ht] at h; simp at h
    · rw [ht] at h
      simp only [Prod.mk.injEq, and_true] at h
      obtain ⟨rfl, rfl⟩ := h
      obtain ⟨ys, h1, h2, h3, h4, h5, h6⟩ := takeR_exact _ _ _ _ _ _ ht hkb
      rw [List.nil_append] at h1
      subst h1
      exact ⟨q', rfl, by omega, h5, h3, by rw [h6, hk, putR, h2, List.append_assoc]⟩
  · rename_i h0
    simp only [Prod.mk.injEq] at h
    exact absurd h.2.2 h0

/-! ## Postings that stand at a place, behind a document -/

def Stands (b : List UInt8) (last : Int) (a : Nat) (g : List Po) : Prop :=
  mayB' last g = true ∧ a + (bytesP last g).length ≤ b.length ∧ b.take (a + (bytesP last g).length) = b.take a ++ bytesP last g
theorem Stands.nil {b : List UInt8} {last : Int} {a : Nat} (h : a ≤ b.length) : Stands b last a [] := ⟨rfl, by simpa [bytesP] using h, by simp [bytesP]⟩
theorem Stands.split {b : List UInt8} {last : Int} {a : Nat} {g : List Po} (h : Stands b last a g) : b = b.take a ++ (bytesP last g ++ b.drop (a + (bytesP last g).length)) := by
  have := (List.take_append_drop (a + (bytesP last g).length) b).symm
  rw [h.2.2, List.append_assoc] at this
  exact this
/-- Every place takes a byte at the least. -/
theorem bytes_placesA : ∀ (l : List Po) (last : Int) (p : Po), p ∈ l → p.2.length ≤ (bytesP last l).length
  | [], _, p, h => by cases h
  | q :: r, last, p, h => by
    have hd : ∀ (ps : List Int) (x : Int), ps.length ≤ (dB x ps).length := by
      intro ps
      induction ps with
      | nil => simp
      | cons a t ih =>
        intro x
        have := ih a
        have := putB_pos (a - (x + 1)).toNat
        rw [dB, List.length_append, List.length_cons]
        omega
    rw [bytesP, List.length_append, List.length_append]
    rcases List.mem_cons.1 h with rfl | h
    · have := hd p.2 (-1)
      rw [putR, List.length_append]
      omega
    · have := bytes_placesA r q.1 p h
      omega
theorem drop_poA {l : List Po} {k : Nat} (hk : k < l.length) : l.drop k = l.getD k (0, []) :: l.drop (k + 1) := by
  rw [List.drop_eq_getElem_cons hk, List.getD_eq_getElem?_getD, List.getElem?_eq_getElem hk]
  rfl
/-- The next one of postings that stand at a place. -/
theorem stands_next {b : List UInt8} {last : Int} {a : Nat} {g : List Po} (h : Stands b last a g) (h0 : -1 ≤ last) {k : Nat} (hk : k < g.length) (hb : b.length ≤ 1000000000) :
    ∃ a2 : Nat, getZ b (((a + (bytesP last (g.take k)).length : Nat)) : Int) = ((g.getD k (0, [])).1 - (docOf last (g.take k) + 1), (a2 : Int), 0) ∧
      risZ b (a2 : Int) = ((g.getD k (0, [])).2, (((a + (bytesP last (g.take (k + 1))).length : Nat)) : Int), 0) ∧ -1 ≤ docOf last (g.take k) ∧ docOf last (g.take k) < (g.getD k (0, [])).1 ∧ (g.getD k (0, [])).1 < 2147483648 ∧ placesB (g.getD k (0, [])).2 = true ∧ g.take (k + 1) = g.take k ++ [((g.getD k (0, [])).1, (g.getD k (0, [])).2)] := by
  have hspl := h.split
  obtain ⟨h1, h2, h3⟩ := h
  have hsp : g = g.take k ++ (g.getD k (0, []) :: g.drop (k + 1)) := by rw [← drop_poA hk, List.take_append_drop]
  have hm := h1
  rw [hsp, mayB'_append, Bool.and_eq_true] at hm
  obtain ⟨m1, m2⟩ := hm
  obtain ⟨m3, m4, m5, m6⟩ := mayB'_cons.1 m2
  have hge := docOf_ge _ _ m1
  have hpl := bytes_placesA g last (g.getD k (0, [])) (by rw [List.getD_eq_getElem?_getD, List.getElem?_eq_getElem hk]; simp)
  have hts : g.take (k + 1) = g.take k ++ [g.getD k (0, [])] := by
    rw [List.take_succ_eq_append_getElem hk, List.getD_eq_getElem?_getD, List.getElem?_eq_getElem hk]
    rfl
  obtain ⟨q, hq⟩ : ∃ q, q = g.getD k (0, []) := ⟨_, rfl⟩
  rw [← hq] at m3 m4 m5 m6 hsp hts hpl
  rw [← hq]
  obtain ⟨d, ps⟩ := q
  have hta : (b.take a).length = a := by rw [List.length_take]; omega
  obtain ⟨g1, g2⟩ := get_posting (pre := b.take a ++ bytesP last (g.take k)) (post := b.drop (a + (bytesP last g).length)) (r := g.drop (k + 1)) (by omega) m3 m4 m5 (by have h9 : ps.length ≤ (bytesP last g).length := hpl; omega)
  have hbe : (b.take a ++ bytesP last (g.take k)) ++ (bytesP (docOf last (g.take k)) ((d, ps) :: g.drop (k + 1)) ++ b.drop (a + (bytesP last g).length)) = b := by
    have e1 : bytesP last (g.take k) ++ bytesP (docOf last (g.take k)) ((d, ps) :: g.drop (k + 1)) = bytesP last g := by rw [← bytesP_append, ← hsp]
    have e2 : (b.take a ++ bytesP last (g.take k)) ++ (bytesP (docOf last (g.take k)) ((d, ps) :: g.drop (k + 1)) ++ b.drop (a + (bytesP last g).length)) = b.take a ++ ((bytesP last (g.take k) ++ bytesP (docOf last (g.take k)) ((d, ps) :: g.drop (k + 1))) ++ b.drop (a + (bytesP last g).length)) := by simp only [List.append_assoc]
    rw [e2, e1]
    exact hspl.symm
  rw [hbe, List.length_append, hta] at g1 g2
  refine ⟨_, g1, ?_, by omega, m3, m4, m5, hts⟩
  rw [g2, hts, bytesP_append]
  simp [bytesP, Nat.add_assoc]
/-- One more that stands behind. -/
theorem stands_step {b : List UInt8} {last : Int} {a : Nat} {acc : List Po} (h : Stands b last a acc) (h0 : -1 ≤ docOf last acc) {d q2 q3 : Int} {ps : List Int}
    (hz : getZ b (((a + (bytesP last acc).length : Nat)) : Int) = (d, q2, 0)) (hr : risZ b q2 = (ps, q3, 0)) (hd : d + (docOf last acc + 1) < 2147483648) (hp : placesB ps = true) :
    Stands b last a (acc ++ [(d + (docOf last acc + 1), ps)]) ∧ q3 = ((a + (bytesP last (acc ++ [(d + (docOf last acc + 1), ps)])).length : Nat) : Int) := by
  obtain ⟨n, k, rfl, rfl, hak, hkb, hk⟩ := getZ_exact hz
  obtain ⟨k2, rfl, hkk, hkb2, hris, hk2⟩ := risZ_exact hr
  obtain ⟨h1, h2, h3⟩ := h
  obtain ⟨x, hx⟩ : ∃ x, x = docOf last acc := ⟨_, rfl⟩
  rw [← hx] at h0 hd
  rw [← hx]
  have hby : bytesP last (acc ++ [((n : Int) + (x + 1), ps)]) = bytesP last acc ++ (putB n ++ putR ps) := by
    rw [bytesP_append, ← hx]
    simp only [bytesP, List.append_nil]
    rw [show ((n : Int) + (x + 1) - (x + 1)).toNat = n by omega]
  have hlen : k2 = a + (bytesP last (acc ++ [((n : Int) + (x + 1), ps)])).length := by
    have e1 := congrArg List.length hk
    have e2 := congrArg List.length hk2
    rw [List.length_append, List.length_take, List.length_take] at e1 e2
    rw [hby, List.length_append, List.length_append]
    omega
  refine ⟨⟨?_, by omega, ?_⟩, by rw [← hlen]⟩
  · rw [mayB'_append, h1, Bool.true_and, ← hx]
    exact mayB'_cons.2 ⟨by simp only; omega, by simp only; omega, hp, rfl⟩
  · rw [← hlen, hk2, hk, h3, hby]
    simp only [List.append_assoc]
theorem docOf_step {last : Int} {acc : List Po} {y : Int} {ps : List Int} : docOf last (acc ++ [(y, ps)]) = y := by rw [docOf_append]; rfl

/-! ## Places, as they are looked through one by one -/

def placesOn : Int → List Int → Bool
  | _, [] => true
  | last, n :: r => decide (last < n) && decide (n < 2147483648) && placesOn n r
theorem placesOn_eq : ∀ (ps : List Int) (last : Int), ps ≠ [] → placesOn last ps = (risesZ last ps && decide (ps.getLastD 0 < 2147483648))
  | [], _, h => absurd rfl h
  | [n], last, _ => by simp [placesOn, risesZ]
  | n :: m :: r, last, _ => by
    have ih := placesOn_eq (m :: r) n (by simp)
    have e : (n :: m :: r).getLastD 0 = (m :: r).getLastD 0 := by simp [List.getLastD]
    rw [placesOn, risesZ, ih, e]
    rcases h1 : risesZ n (m :: r) with _ | _
    · simp
    · by_cases h2 : (m :: r).getLastD 0 < 2147483648
      · have := (rises_le_last h1 ((m :: r).getLastD 0) (lastD_mem (by simp))).1
        have h3 : n < 2147483648 := by omega
        simp [h3]
      · rw [decide_eq_false h2]
        simp
theorem placesB_on (ps : List Int) : placesB ps = (placesOn (-1) ps && decide (0 < ps.length)) := by
  by_cases h : ps = []
  · subst h; rfl
  · unfold placesB
    rw [placesOn_eq ps (-1) h]
    have hl : 0 < ps.length := List.length_pos_iff.2 h
    have he : ps.isEmpty = false := by simpa using h
    rw [he]
    simp [hl]
theorem placesOn_cut {last : Int} {ps : List Int} {k : Nat} (hk : k < ps.length) : placesOn last (ps.drop k) = (decide (last < ps.getD k 0) && decide (ps.getD k 0 < 2147483648) && placesOn (ps.getD k 0) (ps.drop (k + 1))) := by
  rw [List.drop_eq_getElem_cons hk, placesOn, List.getD_eq_getElem?_getD, List.getElem?_eq_getElem hk]
  rfl

/-! ## Where blocks end -/

def endsC (l : List Po) : Nat → List (Int × Nat)
  | 0 => []
  | k + 1 => endsC l k ++ [(docOf (-1) (l.take (8 * (k + 1))), (bytesP (-1) (l.take (8 * (k + 1)))).length)]
theorem endsC_length (l : List Po) : ∀ n, (endsC l n).length = n
  | 0 => rfl
  | k + 1 => by rw [endsC, List.length_append, endsC_length l k]; rfl
theorem endsC_at (l : List Po) : ∀ (n k : Nat), k < n → (endsC l n)[k]? = some (docOf (-1) (l.take (8 * (k + 1))), (bytesP (-1) (l.take (8 * (k + 1)))).length)
  | 0, _, h => by omega
  | n + 1, k, h => by
    rw [endsC]
    by_cases e : k = n
    · subst e
      rw [List.getElem?_append_right (by rw [endsC_length]; exact Nat.le_refl _), endsC_length, Nat.sub_self]
      rfl
    · rw [List.getElem?_append_left (by rw [endsC_length]; omega)]
      exact endsC_at l n k (by omega)
theorem endsC_append {l b : List Po} : ∀ {n : Nat}, 8 * n ≤ l.length → endsC (l ++ b) n = endsC l n
  | 0, _ => rfl
  | k + 1, h => by
    rw [endsC, endsC, endsC_append (by omega), List.take_append_of_le_length h]
theorem blocksP_push {l b : List Po} {n : Nat} (hl : l.length = 8 * n) (h0 : 0 < b.length) (h8 : b.length ≤ 8) : blocksP l.length = n ∧ blocksP (l ++ b).length = n + 1 := by
  unfold blocksP
  rw [List.length_append]
  omega
theorem endsC_push {l b : List Po} {n : Nat} (hl : l.length = 8 * n) (h0 : 0 < b.length) (h8 : b.length ≤ 8) : endsC (l ++ b) (n + 1) = endsC l n ++ [(docOf (-1) (l ++ b), (bytesP (-1) (l ++ b)).length)] := by
  rw [endsC, endsC_append (by omega), List.take_of_length_le (by rw [List.length_append]; omega)]
theorem totalP_append : ∀ (a b : List Po), totalP (a ++ b) = totalP a + totalP b
  | [], b => by simp [totalP]
  | p :: r, b => by simp [totalP, totalP_append r b, Nat.add_assoc]
theorem docOf_some : ∀ {b : List Po} {x y : Int}, b ≠ [] → docOf x b = docOf y b
  | [], _, _, h => absurd rfl h
  | p :: r, _, _, _ => rfl
/-- A block's last document is where it ends. -/
theorem lastP_end {l : List Po} {k : Nat} (hk : k < blocksP l.length) : lastP l (k : Int) = docOf (-1) (l.take (8 * (k + 1))) := by
  have h := blockP_some hk
  rw [blocks_all, docOf_append]
  exact docOf_some (List.length_pos_iff.1 h)
/-- A block stands in all the bytes, behind those ahead. -/
theorem block_stands {l : List Po} {k : Nat} (hk : k < blocksP l.length) (hm : mayB' (-1) l = true) : Stands (bytesP (-1) l) (docOf (-1) (l.take (8 * k))) (bytesP (-1) (l.take (8 * k))).length (blockP l (k : Int)) := by
  have hsp : l = l.take (8 * k) ++ (blockP l (k : Int) ++ l.drop (8 * (k + 1))) := by
    rw [← List.append_assoc, ← blocks_all, List.take_append_drop]
  have hb : bytesP (-1) l = bytesP (-1) (l.take (8 * k)) ++ (bytesP (docOf (-1) (l.take (8 * k))) (blockP l (k : Int)) ++ bytesP (docOf (docOf (-1) (l.take (8 * k))) (blockP l (k : Int))) (l.drop (8 * (k + 1)))) := by
    conv => lhs; rw [hsp]
    rw [bytesP_append, bytesP_append]
  have hm2 := hm
  rw [hsp, mayB'_append, mayB'_append, Bool.and_eq_true, Bool.and_eq_true] at hm2
  obtain ⟨a, ha⟩ : ∃ a, a = bytesP (-1) (l.take (8 * k)) := ⟨_, rfl⟩
  obtain ⟨c, hc⟩ : ∃ c, c = bytesP (docOf (-1) (l.take (8 * k))) (blockP l (k : Int)) := ⟨_, rfl⟩
  rw [← ha, ← hc] at hb
  refine ⟨hm2.2.1, ?_, ?_⟩
  · rw [← ha, ← hc, hb]; simp
  · rw [← ha, ← hc, hb, List.take_left, ← List.append_assoc, ← List.length_append, List.take_left]
end Go.Proofs.Ytfhjnblcnkjooaa
