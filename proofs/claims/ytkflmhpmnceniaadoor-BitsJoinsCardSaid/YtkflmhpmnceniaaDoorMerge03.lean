/- Two lists of words, merged: the plain mathematics of Or. -/
import Derived.Test.YtkflmhpmnceniaaDoorAnd03
set_option linter.unusedVariables false
namespace Go.Proofs.YtkflmhpmnceniaaDoor
open Go Go.RowKit
namespace Plain

theorem getW_asc {ws : List Wd} (h : ws.Pairwise fun p q => p.1 < q.1) {p : Wd} (hp : p ∈ ws) : getW ws p.1 = p.2 := by
  unfold getW
  rw [find_asc ws h p hp]
theorem drop_le {ws : List Wd} (h : ws.Pairwise fun p q => p.1 < q.1) {k : Nat} (hk : k < ws.length) : ∀ q ∈ ws.drop k, (ws[k]'hk).1 ≤ q.1 := by
  intro q hq
  obtain ⟨i, hi, rfl⟩ := List.getElem_of_mem hq
  rw [List.length_drop] at hi
  rw [List.getElem_drop]
  by_cases e : i = 0
  · subst e; exact Nat.le_refl _
  · exact Nat.le_of_lt (List.pairwise_iff_getElem.1 h k (k + i) hk (by omega) (by omega))
theorem drop_lt {ws : List Wd} (h : ws.Pairwise fun p q => p.1 < q.1) {k : Nat} (hk : k < ws.length) : ∀ q ∈ ws.drop (k + 1), (ws[k]'hk).1 < q.1 := by
  intro q hq
  obtain ⟨i, hi, rfl⟩ := List.getElem_of_mem hq
  rw [List.length_drop] at hi
  rw [List.getElem_drop]
  exact List.pairwise_iff_getElem.1 h k (k + 1 + i) hk (by omega) (by omega)
theorem drop_mem {ws : List Wd} {k : Nat} (hk : k < ws.length) : ws[k]'hk ∈ ws.drop k := by
  rw [List.drop_eq_getElem_cons hk]
  exact List.mem_cons_self
theorem drop_succ {ws : List Wd} {k : Nat} : ∀ q ∈ ws.drop (k + 1), q ∈ ws.drop k := by
  intro q hq
  rw [← List.drop_drop] at hq
  exact List.mem_of_mem_drop hq

/-- What the words made so far are, behind k words of the one and j of the other. -/
structure Merged (ws wo : List Wd) (k j : Nat) (res : List Wd) : Prop where
  asc : res.Pairwise fun p q => p.1 < q.1
  low1 : ∀ p ∈ res, ∀ q ∈ ws.drop k, p.1 < q.1
  low2 : ∀ p ∈ res, ∀ q ∈ wo.drop j, p.1 < q.1
  keys : ∀ a, (∃ p ∈ res, p.1 = a) ↔ (∃ q ∈ ws.take k, q.1 = a) ∨ (∃ q ∈ wo.take j, q.1 = a)
  get : ∀ a, getW res a = getW (ws.take k) a ||| getW (wo.take j) a
  len : res.length ≤ k + j
theorem Merged.start (ws wo : List Wd) : Merged ws wo 0 0 [] :=
  ⟨List.Pairwise.nil, (fun p hp => absurd hp List.not_mem_nil), (fun p hp => absurd hp List.not_mem_nil), (fun a => by simp), (fun a => by simp [getW]), Nat.le_refl _⟩
theorem Merged.symm {ws wo : List Wd} {k j : Nat} {res : List Wd} (h : Merged ws wo k j res) : Merged wo ws j k res :=
  ⟨h.asc, h.low2, h.low1, fun a => by rw [h.keys a]; exact Or.comm, fun a => by rw [h.get a, Nat.or_comm], by have := h.len; omega⟩
theorem Merged.push {ws wo : List Wd} {k j k' j' : Nat} {res : List Wd} {a v : Nat} (h : Merged ws wo k j res) (h1 : ∀ p ∈ res, p.1 < a) (h2 : ∀ q ∈ ws.drop k', a < q.1) (h3 : ∀ q ∈ wo.drop j', a < q.1)
    (hd1 : ∀ q ∈ ws.drop k', q ∈ ws.drop k) (hd2 : ∀ q ∈ wo.drop j', q ∈ wo.drop j)
    (hkeys : ∀ b, ((∃ q ∈ ws.take k', q.1 = b) ∨ (∃ q ∈ wo.take j', q.1 = b)) ↔ ((∃ q ∈ ws.take k, q.1 = b) ∨ (∃ q ∈ wo.take j, q.1 = b)) ∨ b = a)
    (hget : ∀ b, getW (ws.take k') b ||| getW (wo.take j') b = if b = a then v else getW (ws.take k) b ||| getW (wo.take j) b) (hlen : k + j + 1 ≤ k' + j') :
    Merged ws wo k' j' (res ++ [(a, v)]) := by
  refine ⟨?_, fun p hp q hq => ?_, fun p hp q hq => ?_, fun b => ?_, fun b => ?_, ?_⟩
  · rw [List.pairwise_append]
    exact ⟨h.asc, List.pairwise_singleton _ _, fun p hp q hq => by rw [List.mem_singleton] at hq; rw [hq]; exact h1 p hp⟩
  · rcases List.mem_append.1 hp with hp | hp
    · exact h.low1 p hp q (hd1 q hq)
    · rw [List.mem_singleton] at hp; rw [hp]; exact h2 q hq
  · rcases List.mem_append.1 hp with hp | hp
    · exact h.low2 p hp q (hd2 q hq)
    · rw [List.mem_singleton] at hp; rw [hp]; exact h3 q hq
  · rw [hkeys b, ← h.keys b]
    constructor
    · rintro ⟨p, hp, e⟩
      rcases List.mem_append.1 hp with hp | hp
      · exact .inl ⟨p, hp, e⟩
      · rw [List.mem_singleton] at hp; rw [hp] at e; exact .inr e.symm
    · rintro (⟨p, hp, e⟩ | e)
      · exact ⟨p, List.mem_append_left _ hp, e⟩
      · exact ⟨(a, v), List.mem_append_right _ (List.mem_singleton.2 rfl), e.symm⟩
  · rw [hget b, getW_append, ← h.get b]
    by_cases e : b = a
    · rw [if_pos e]
      have hn : res.find? (fun p => p.1 == b) = none := by
        rw [List.find?_eq_none]
        intro p hp
        have := h1 p hp
        simp
        omega
      rw [hn]
      unfold getW
      simp [e]
    · rw [if_neg e]
      have h0 : getW [(a, v)] b = 0 := getW_none (fun p hp => by rw [List.mem_singleton] at hp; rw [hp]; exact fun e' => e e'.symm)
      rw [h0]
      rfl
  · have := h.len
    simp
    omega
theorem take_keys {ws : List Wd} {k : Nat} (hk : k < ws.length) (b : Nat) : (∃ q ∈ ws.take (k + 1), q.1 = b) ↔ (∃ q ∈ ws.take k, q.1 = b) ∨ b = (ws[k]'hk).1 := by
  rw [List.take_succ_eq_append_getElem hk]
  constructor
  · rintro ⟨q, hq, e⟩
    rcases List.mem_append.1 hq with hq | hq
    · exact .inl ⟨q, hq, e⟩
    · rw [List.mem_singleton] at hq; rw [hq] at e; exact .inr e.symm
  · rintro (⟨q, hq, e⟩ | e)
    · exact ⟨q, List.mem_append_left _ hq, e⟩
    · exact ⟨_, List.mem_append_right _ (List.mem_singleton.2 rfl), e.symm⟩
theorem Merged.fresh1 {ws wo : List Wd} {k j : Nat} {res : List Wd} (h : Merged ws wo k j res) {a : Nat} (h1 : ∀ p ∈ res, p.1 < a) : getW (ws.take k) a = 0 :=
  getW_none fun q hq e => by
    obtain ⟨p, hp, e'⟩ := (h.keys a).2 (.inl ⟨q, hq, e⟩)
    have := h1 p hp
    omega
/-- The other's next word, which lies below all that is left of the one. -/
theorem Merged.other {ws wo : List Wd} {k j : Nat} {res : List Wd} (h : Merged ws wo k j res) (ho : wo.Pairwise fun p q => p.1 < q.1) (hj : j < wo.length) (hlt : ∀ q ∈ ws.drop k, (wo[j]'hj).1 < q.1) :
    Merged ws wo k (j + 1) (res ++ [((wo[j]'hj).1, (wo[j]'hj).2)]) := by
  have h1 : ∀ p ∈ res, p.1 < (wo[j]'hj).1 := fun p hp => h.low2 p hp _ (drop_mem hj)
  refine h.push h1 hlt (drop_lt ho hj) (fun q hq => hq) drop_succ (fun b => ?_) (fun b => ?_) (by omega)
  · rw [take_keys hj, or_assoc]
  · rw [getW_take ho hj]
    by_cases e : b = (wo[j]'hj).1
    · rw [if_pos e, if_pos e, e, h.fresh1 h1, Nat.zero_or]
    · rw [if_neg e, if_neg e]
theorem Merged.one {ws wo : List Wd} {k j : Nat} {res : List Wd} (h : Merged ws wo k j res) (hw : ws.Pairwise fun p q => p.1 < q.1) (hk : k < ws.length) (hlt : ∀ q ∈ wo.drop j, (ws[k]'hk).1 < q.1) :
    Merged ws wo (k + 1) j (res ++ [((ws[k]'hk).1, (ws[k]'hk).2)]) := (h.symm.other hw hk hlt).symm
theorem Merged.both {ws wo : List Wd} {k j : Nat} {res : List Wd} (h : Merged ws wo k j res) (hw : ws.Pairwise fun p q => p.1 < q.1) (ho : wo.Pairwise fun p q => p.1 < q.1) (hk : k < ws.length) (hj : j < wo.length) (he : (wo[j]'hj).1 = (ws[k]'hk).1) :
    Merged ws wo (k + 1) (j + 1) (res ++ [((ws[k]'hk).1, (ws[k]'hk).2 ||| (wo[j]'hj).2)]) := by
  have h1 : ∀ p ∈ res, p.1 < (ws[k]'hk).1 := fun p hp => h.low1 p hp _ (drop_mem hk)
  refine h.push h1 (drop_lt hw hk) (fun q hq => by rw [← he]; exact drop_lt ho hj q hq) drop_succ drop_succ (fun b => ?_) (fun b => ?_) (by omega)
  · rw [take_keys hk, take_keys hj, he]
    constructor
    · rintro ((h | h) | (h | h))
      · exact .inl (.inl h)
      · exact .inr h
      · exact .inl (.inr h)
      · exact .inr h
    · rintro ((h | h) | h)
      · exact .inl (.inl h)
      · exact .inr (.inl h)
      · exact .inl (.inr h)
  · rw [getW_take ho hj, getW_take hw hk, he]
    by_cases e : b = (ws[k]'hk).1
    · rw [if_pos e, if_pos e, if_pos e]
    · rw [if_neg e, if_neg e, if_neg e]
theorem Merged.rest {ws wo : List Wd} (ho : wo.Pairwise fun p q => p.1 < q.1) : ∀ (m j : Nat) (res : List Wd), wo.length - j = m → j ≤ wo.length → Merged ws wo ws.length j res → Merged ws wo ws.length wo.length (res ++ wo.drop j)
  | 0, j, res, hm, hj, h => by
    obtain rfl : j = wo.length := by omega
    rw [List.drop_length, List.append_nil]
    exact h
  | m + 1, j, res, hm, hj, h => by
    have hlt : j < wo.length := by omega
    rw [List.drop_eq_getElem_cons hlt]
    have := Merged.rest ho m (j + 1) _ (by omega) hlt (h.other ho hlt (by rw [List.drop_length]; exact fun q hq => absurd hq List.not_mem_nil))
    rwa [List.append_assoc] at this
theorem WS.bit {n : Nat} {ws : List Wd} (h : WS n ws) {a i : Nat} (hb : (getW ws a).testBit i = true) : a * 64 + i < n := by
  have h0 : getW ws a ≠ 0 := fun e => by rw [e, Nat.zero_testBit] at hb; cases hb
  obtain ⟨p, hp, e1, e2⟩ := getW_some h0
  rw [← e2] at hb
  rw [← e1]
  exact h.inn p hp i hb
theorem Merged.rep {r r2 : List Bool} {ws wo fin : List Wd} (h : Rep r ws) (h2 : Rep r2 wo) (hm : Merged ws wo ws.length wo.length fin) : Rep (joinB r r2 true) fin := by
  have hl := joinB_length r r2 true
  have hget : ∀ a, getW fin a = getW ws a ||| getW wo a := fun a => by have := hm.get a; rwa [List.take_length, List.take_length] at this
  have hW : WS (joinB r r2 true).length fin := by
    rw [hl]
    refine ⟨hm.asc, fun p hp => ?_, fun p hp => ?_, fun p hp i hi => ?_⟩
    · rw [← getW_asc hm.asc hp, hget]
      exact or_fits (getW_fits h.wds _) (getW_fits h2.wds _)
    · have := (hm.keys p.1).1 ⟨p, hp, rfl⟩
      rw [List.take_length, List.take_length] at this
      rcases this with ⟨q, hq, e⟩ | ⟨q, hq, e⟩
      · have := h.wds.here q hq; omega
      · have := h2.wds.here q hq; omega
    · rw [← getW_asc hm.asc hp, hget, Nat.testBit_or, Bool.or_eq_true] at hi
      rcases hi with hi | hi
      · have := h.wds.bit hi; omega
      · have := h2.wds.bit hi; omega
  refine ⟨hW, fun i => ?_⟩
  rw [joinB_getD]
  unfold memW joinF
  rw [hget, Nat.testBit_or, h.mem, h2.mem]
  unfold memW
  cases (getW ws (i / 64)).testBit (i % 64) <;> cases (getW wo (i / 64)).testBit (i % 64) <;> rfl
end Plain
end Go.Proofs.YtkflmhpmnceniaaDoor
