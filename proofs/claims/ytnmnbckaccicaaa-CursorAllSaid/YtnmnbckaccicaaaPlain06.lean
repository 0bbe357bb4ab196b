/- A place in postings, plainly: where a cursor stands, where it goes; what is in both of two lists. No program. -/
import Derived.Test.YtnmnbckaccicaaaP05
set_option linter.unusedVariables false
namespace Go.Proofs.Ytnmnbckaccicaaa

/-- The document of a place: -1 ahead of all, 2^31 behind all. -/
def docC (g : List Po) (i : Int) : Int := if i < 0 then -1 else if (g.length : Int) ≤ i then 2147483648 else (g.getD i.toNat (0, [])).1
def placesC (g : List Po) (i : Int) : List Int := if i < 0 ∨ (g.length : Int) ≤ i then [] else (g.getD i.toNat (0, [])).2
def nextC (g : List Po) (i : Int) : Int := if i < (g.length : Int) then i + 1 else i
/-- Where Advance leads. -/
def advC (g : List Po) (doc : Int) (i : Int) : Int := if docC g i < doc ∧ i < (g.length : Int) then advC g doc (i + 1) else i
termination_by ((g.length : Int) - i).toNat
decreasing_by omega

theorem docC_ahead {g : List Po} {i : Int} (h : i < 0) : docC g i = -1 := by unfold docC; rw [if_pos h]
theorem docC_behind {g : List Po} {i : Int} (h0 : 0 ≤ i) (h : (g.length : Int) ≤ i) : docC g i = 2147483648 := by unfold docC; rw [if_neg (by omega), if_pos h]
theorem docC_at {g : List Po} {k : Nat} (h : k < g.length) : docC g (k : Int) = (g.getD k (0, [])).1 := by unfold docC; rw [if_neg (by omega), if_neg (by omega), Int.toNat_natCast]
theorem placesC_none {g : List Po} {i : Int} (h : i < 0 ∨ (g.length : Int) ≤ i) : placesC g i = [] := by unfold placesC; rw [if_pos h]
theorem placesC_at {g : List Po} {k : Nat} (h : k < g.length) : placesC g (k : Int) = (g.getD k (0, [])).2 := by unfold placesC; rw [if_neg (by omega), Int.toNat_natCast]
theorem advC_stay {g : List Po} {doc i : Int} (h : ¬ (docC g i < doc ∧ i < (g.length : Int))) : advC g doc i = i := by rw [advC, if_neg h]
theorem advC_step {g : List Po} {doc i : Int} (h : docC g i < doc ∧ i < (g.length : Int)) : advC g doc i = advC g doc (i + 1) := by rw [advC, if_pos h]
theorem advC_bd {g : List Po} {doc : Int} : ∀ (n : Nat) (i : Int), ((g.length : Int) - i).toNat = n → i ≤ (g.length : Int) → i ≤ advC g doc i ∧ advC g doc i ≤ (g.length : Int) := by
  intro n
  induction n with
  | zero =>
    intro i h hi
    rw [advC_stay (by omega)]
    omega
  | succ n ih =>
    intro i h hi
    by_cases hc : docC g i < doc ∧ i < (g.length : Int)
    · rw [advC_step hc]
      have := ih (i + 1) (by omega) (by omega)
      omega
    · rw [advC_stay hc]
      omega

theorem may_memC : ∀ {l : List Po} {x : Int}, mayB' x l = true → ∀ q ∈ l, x < q.1 ∧ q.1 < 2147483648
  | [], _, _, q, hq => by cases hq
  | p :: r, x, h, q, hq => by
    obtain ⟨h1, h2, _, h4⟩ := mayB'_cons.1 h
    rcases List.mem_cons.1 hq with rfl | hq
    · exact ⟨h1, h2⟩
    · have := may_memC h4 q hq
      exact ⟨by omega, this.2⟩
theorem docC_lt {g : List Po} (h : mayB' (-1) g = true) {k : Nat} (hk : k < g.length) : 0 ≤ docC g (k : Int) ∧ docC g (k : Int) < 2147483648 := by
  rw [docC_at hk]
  have := may_memC h (g.getD k (0, [])) (by rw [List.getD_eq_getElem?_getD, List.getElem?_eq_getElem hk]; simp)
  omega

/-! ## What is in both -/

def bothP (a b : List Po) : List Int := a.flatMap fun p => (b.filter fun q => p.1 == q.1).map fun _ => p.1
def interP : List Po → List Po → List Int
  | [], _ => []
  | _ :: _, [] => []
  | p :: r, q :: s => if p.1 = q.1 then p.1 :: interP r s else if p.1 < q.1 then interP r (q :: s) else interP (p :: r) s
termination_by a b => a.length + b.length
theorem bothP_cons (p : Po) (r b : List Po) : bothP (p :: r) b = ((b.filter fun q => p.1 == q.1).map fun _ => p.1) ++ bothP r b := rfl
theorem bothP_none (a : List Po) : bothP a [] = [] := by
  induction a with
  | nil => rfl
  | cons p r ih => rw [bothP_cons, ih]; rfl
theorem filter_none {b : List Po} {x : Int} (h : ∀ q ∈ b, x < q.1) : (b.filter fun q => x == q.1) = [] := by
  rw [List.filter_eq_nil_iff]
  intro q hq
  have := h q hq
  simp
  omega
theorem bothP_skip {a : List Po} {q : Po} {s : List Po} (h : ∀ p ∈ a, q.1 < p.1) : bothP a (q :: s) = bothP a s := by
  induction a with
  | nil => rfl
  | cons p r ih =>
    have hp := h p (by simp)
    rw [bothP_cons, bothP_cons, ih fun p hp => h p (by simp [hp]), List.filter_cons_of_neg (by simp; omega)]
theorem both_inter : ∀ (n : Nat) (a b : List Po) (x y : Int), a.length + b.length = n → mayB' x a = true → mayB' y b = true → bothP a b = interP a b := by
  intro n
  induction n using Nat.strongRecOn with
  | _ n ih =>
    intro a b x y hn ha hb
    match a, b with
    | [], b => rw [interP]; rfl
    | p :: r, [] => rw [interP, bothP_none]
    | p :: r, q :: s =>
      obtain ⟨h1, h2, h3, h4⟩ := mayB'_cons.1 ha
      obtain ⟨k1, k2, k3, k4⟩ := mayB'_cons.1 hb
      have hr := fun u hu => (may_memC h4 u hu).1
      have hs := fun u hu => (may_memC k4 u hu).1
      simp only [List.length_cons] at hn
      rw [interP]
      split
      · rename_i he
        have hsk : bothP r (q :: s) = bothP r s := bothP_skip fun u hu => by have := hr u hu; omega
        rw [bothP_cons, hsk, ih (r.length + s.length) (by omega) r s p.1 q.1 rfl h4 k4, List.filter_cons_of_pos (by simp [he]), filter_none fun u hu => by have := hs u hu; omega]
        rfl
      · rename_i he
        split
        · rename_i hl
          rw [bothP_cons, filter_none fun u hu => by
            rcases List.mem_cons.1 hu with rfl | hu
            · exact hl
            · have := hs u hu; omega]
          exact ih (r.length + (q :: s).length) (by simp only [List.length_cons]; omega) r (q :: s) p.1 y rfl h4 hb
        · rename_i hl
          rw [bothP_skip fun u hu => by
            rcases List.mem_cons.1 hu with rfl | hu
            · omega
            · have := hr u hu; omega]
          exact ih ((p :: r).length + s.length) (by simp only [List.length_cons]; omega) (p :: r) s x q.1 rfl ha k4
theorem inter_comm : ∀ (n : Nat) (a b : List Po), a.length + b.length = n → interP a b = interP b a := by
  intro n
  induction n using Nat.strongRecOn with
  | _ n ih =>
    intro a b hn
    match a, b with
    | [], [] => rfl
    | [], q :: s => rw [interP, interP]
    | p :: r, [] => rw [interP, interP]
    | p :: r, q :: s =>
      simp only [List.length_cons] at hn
      conv => lhs; rw [interP]
      conv => rhs; rw [interP]
      by_cases he : p.1 = q.1
      · rw [if_pos he, if_pos (show q.1 = p.1 from he.symm), ih (r.length + s.length) (by omega) r s rfl, he]
      · rw [if_neg he, if_neg (show ¬ q.1 = p.1 from fun e => he e.symm)]
        by_cases hl : p.1 < q.1
        · rw [if_pos hl, if_neg (show ¬ q.1 < p.1 by omega), ih (r.length + (q :: s).length) (by simp only [List.length_cons]; omega) r (q :: s) rfl]
        · rw [if_neg hl, if_pos (show q.1 < p.1 by omega), ih ((p :: r).length + s.length) (by simp only [List.length_cons]; omega) (p :: r) s rfl]
theorem inter_self : ∀ (a : List Po), interP a a = a.map (·.1)
  | [] => by rw [interP]; rfl
  | p :: r => by rw [interP, if_pos rfl, inter_self r]; rfl
end Go.Proofs.Ytnmnbckaccicaaa
