/- Postings as bytes, plainly: which may be, their bytes, what is read of bytes, blocks. No program. -/
import Derived.Test.YtfhjnblcnkjooaaPlain04
set_option linter.unusedVariables false
namespace Go.Proofs.Ytfhjnblcnkjooaa

/-- A posting: the document, and the places. -/
abbrev Po := Int × List Int

/-! ## Which may be -/

/-- Places of a posting: they rise from 0 on, are some, and are below 2^31. -/
def placesB (ps : List Int) : Bool := risesZ (-1) ps && (!ps.isEmpty) && decide (ps.getLastD 0 < 2147483648)
def mayB' : Int → List Po → Bool
  | _, [] => true
  | last, p :: r => decide (last < p.1) && decide (p.1 < 2147483648) && placesB p.2 && mayB' p.1 r
theorem placesB_iff {ps : List Int} : placesB ps = true ↔ risesZ (-1) ps = true ∧ ps ≠ [] ∧ ps.getLastD 0 < 2147483648 := by
  simp [placesB, and_assoc]
theorem mayB'_cons {last : Int} {p : Po} {r : List Po} : mayB' last (p :: r) = true ↔ last < p.1 ∧ p.1 < 2147483648 ∧ placesB p.2 = true ∧ mayB' p.1 r = true := by
  simp [mayB', and_assoc]
/-- Rising numbers are at most the last one. -/
theorem rises_le_last : ∀ {ps : List Int} {x : Int}, risesZ x ps = true → ∀ y ∈ ps, x < y ∧ y ≤ ps.getLastD 0
  | [], _, _ => by simp
  | n :: r, x, h => by
    rw [risesZ, Bool.and_eq_true, decide_eq_true_iff] at h
    have ih := rises_le_last h.2
    intro y hy
    rcases List.mem_cons.1 hy with rfl | hy
    · refine ⟨h.1, ?_⟩
      cases r with
      | nil => simp
      | cons m r' =>
        have := ih m (by simp)
        have e : (y :: m :: r').getLastD 0 = (m :: r').getLastD 0 := by simp [List.getLastD]
        rw [e]
        omega
    · have := ih y hy
      refine ⟨by omega, ?_⟩
      cases r with
      | nil => cases hy
      | cons m r' =>
        have e : (n :: m :: r').getLastD 0 = (m :: r').getLastD 0 := by simp [List.getLastD]
        rw [e]
        exact this.2
theorem lastD_mem : ∀ {l : List Int}, l ≠ [] → l.getLastD 0 ∈ l
  | [], h => absurd rfl h
  | [a], _ => by simp
  | a :: b :: r, _ => by
    have e : (a :: b :: r).getLastD 0 = (b :: r).getLastD 0 := by simp [List.getLastD]
    rw [e]
    exact List.mem_cons_of_mem _ (lastD_mem (l := b :: r) (by simp))
theorem places_bd {ps : List Int} (h : placesB ps = true) : ∀ y ∈ ps, 0 ≤ y ∧ y < 2147483648 := by
  obtain ⟨h1, _, h3⟩ := placesB_iff.1 h
  intro y hy
  have := rises_le_last h1 y hy
  omega

/-! ## Bytes -/

def bytesP : Int → List Po → List UInt8
  | _, [] => []
  | last, p :: r => putB (p.1 - (last + 1)).toNat ++ (putR p.2 ++ bytesP p.1 r)
/-- The document of the last one. -/
def docOf : Int → List Po → Int
  | last, [] => last
  | _, p :: r => docOf p.1 r
theorem bytesP_append : ∀ (a b : List Po) (last : Int), bytesP last (a ++ b) = bytesP last a ++ bytesP (docOf last a) b
  | [], b, last => rfl
  | p :: r, b, last => by simp [bytesP, docOf, bytesP_append r b p.1, List.append_assoc]
theorem docOf_append : ∀ (a b : List Po) (last : Int), docOf last (a ++ b) = docOf (docOf last a) b
  | [], _, _ => rfl
  | p :: r, b, _ => by simp [docOf, docOf_append r b p.1]
theorem mayB'_append : ∀ (a b : List Po) (last : Int), mayB' last (a ++ b) = (mayB' last a && mayB' (docOf last a) b)
  | [], b, last => by simp [mayB', docOf]
  | p :: r, b, last => by simp [mayB', docOf, mayB'_append r b p.1, Bool.and_assoc]
theorem docOf_ge : ∀ (l : List Po) (last : Int), mayB' last l = true → last ≤ docOf last l
  | [], _, _ => Int.le_refl _
  | p :: r, last, h => by
    have := mayB'_cons.1 h
    have ih := docOf_ge r p.1 this.2.2.2
    rw [docOf]; omega
theorem docOf_lt : ∀ (l : List Po) (last : Int), mayB' last l = true → last < 2147483648 → docOf last l < 2147483648
  | [], _, _, h => h
  | p :: r, last, h, _ => by
    have := mayB'_cons.1 h
    exact docOf_lt r p.1 this.2.2.2 this.2.1
/-- How many places there are in all. -/
def totalP : List Po → Nat
  | [] => 0
  | p :: r => p.2.length + totalP r
theorem putR_length {ps : List Int} (h : placesB ps = true) (hl : ps.length < 9223372036854775808) : (putR ps).length ≤ 9 + 9 * ps.length := by
  have hb := places_bd h
  have h1 := dB_length ps (-1) (by omega) (placesB_iff.1 h).1 fun x hx => by have := hb x hx; omega
  have h2 := putB_nine hl
  rw [putR, List.length_append]
  omega
theorem bytesP_length : ∀ (l : List Po) (last : Int), -1 ≤ last → mayB' last l = true → (∀ p ∈ l, p.2.length < 9223372036854775808) → (bytesP last l).length ≤ 18 * l.length + 9 * totalP l
  | [], _, _, _, _ => by simp [bytesP]
  | p :: r, last, h0, h, hl => by
    obtain ⟨h1, h2, h3, h4⟩ := mayB'_cons.1 h
    have ih := bytesP_length r p.1 (by omega) h4 fun q hq => hl q (by simp [hq])
    have e1 := putB_nine (n := (p.1 - (last + 1)).toNat) (by omega)
    have e2 := putR_length h3 (hl p (by simp))
    rw [bytesP, List.length_append, List.length_append, List.length_cons, totalP]
    omega

/-! ## What is read -/

/-- So many postings, read one behind the other. -/
def takeP (l : List UInt8) : Nat → Int → Nat → List Po → Option (List Po × Nat)
  | 0, _, a, acc => some (acc, a)
  | m + 1, last, a, acc =>
    if (getZ l a).2.2 = 0 then
      if (risZ l (getZ l a).2.1).2.2 = 0 then
        takeP l m ((getZ l a).1 + (last + 1)) (risZ l (getZ l a).2.1).2.1.toNat (acc ++ [((getZ l a).1 + (last + 1), (risZ l (getZ l a).2.1).1)])
      else none
    else none
theorem get_posting {pre post : List UInt8} {last d : Int} {ps : List Int} {r : List Po} (h0 : -1 ≤ last) (hd : last < d) (hd2 : d < 2147483648) (hp : placesB ps = true) (hl : ps.length < 9223372036854775808) :
    getZ (pre ++ (bytesP last ((d, ps) :: r) ++ post)) (pre.length : Int) = (d - (last + 1), ((pre.length + (putB (d - (last + 1)).toNat).length : Nat) : Int), 0) ∧
    risZ (pre ++ (bytesP last ((d, ps) :: r) ++ post)) ((pre.length + (putB (d - (last + 1)).toNat).length : Nat) : Int) = (ps, ((pre.length + ((putB (d - (last + 1)).toNat).length + (putR ps).length) : Nat) : Int), 0) := by
  have hb := places_bd hp
  have e1 : pre ++ (bytesP last ((d, ps) :: r) ++ post) = pre ++ (putB (d - (last + 1)).toNat ++ (putR ps ++ (bytesP d r ++ post))) := by simp [bytesP, List.append_assoc]
  have e2 : pre ++ (bytesP last ((d, ps) :: r) ++ post) = (pre ++ putB (d - (last + 1)).toNat) ++ (putR ps ++ (bytesP d r ++ post)) := by simp [bytesP, List.append_assoc]
  refine ⟨?_, ?_⟩
  · rw [e1, getZ_put (by omega)]
    simp only [Prod.mk.injEq, and_true]
    omega
  · have := risZ_put (g := ps) (placesB_iff.1 hp).1 (fun x hx => by have := hb x hx; omega) hl (pre ++ putB (d - (last + 1)).toNat) (bytesP d r ++ post)
    rw [List.length_append] at this
    rw [e2, this]
    simp [Nat.add_assoc]
/-- Of postings' bytes these are read, as many as are asked for (no more than there are). -/
theorem takeP_bytes : ∀ (m : Nat) (g : List Po) (last : Int) (pre post : List UInt8) (acc : List Po), m ≤ g.length → -1 ≤ last → mayB' last g = true → (∀ p ∈ g, p.2.length < 9223372036854775808) →
    takeP (pre ++ (bytesP last g ++ post)) m last pre.length acc = some (acc ++ g.take m, pre.length + (bytesP last (g.take m)).length)
  | 0, g, last, pre, post, acc, _, _, _, _ => by simp [takeP, bytesP]
  | m + 1, [], last, pre, post, acc, h, _, _, _ => by simp at h
  | m + 1, (d, ps) :: r, last, pre, post, acc, hm, h0, h, hl => by
    obtain ⟨h1, h2, h3, h4⟩ := mayB'_cons.1 h
    simp only at h1 h2 h3 h4
    obtain ⟨g1, g2⟩ := get_posting (pre := pre) (post := post) (r := r) h0 h1 h2 h3 (hl (d, ps) (by simp))
    rw [takeP, g1]
    simp only [if_true]
    rw [g2]
    simp only [if_true, Int.toNat_natCast]
    have e2 : pre ++ (bytesP last ((d, ps) :: r) ++ post) = (pre ++ (putB (d - (last + 1)).toNat ++ putR ps)) ++ (bytesP d r ++ post) := by simp [bytesP, List.append_assoc]
    have ih := takeP_bytes m r d (pre ++ (putB (d - (last + 1)).toNat ++ putR ps)) post (acc ++ [(d, ps)]) (by simpa using hm) (by omega) h4 (fun p hp => hl p (by simp [hp]))
    rw [e2, show d - (last + 1) + (last + 1) = d by omega]
    rw [show pre.length + ((putB (d - (last + 1)).toNat).length + (putR ps).length) = (pre ++ (putB (d - (last + 1)).toNat ++ putR ps)).length by simp, ih]
    simp [bytesP, Nat.add_assoc]
/-- Two lists that may be and have the same bytes are the same. -/
theorem bytesP_inj {a b : List Po} (ha : mayB' (-1) a = true) (hb : mayB' (-1) b = true) (hla : ∀ p ∈ a, p.2.length < 9223372036854775808) (hlb : ∀ p ∈ b, p.2.length < 9223372036854775808) (h : bytesP (-1) a = bytesP (-1) b) : a = b := by
  have key : ∀ {a b : List Po}, mayB' (-1) a = true → mayB' (-1) b = true → (∀ p ∈ a, p.2.length < 9223372036854775808) → (∀ p ∈ b, p.2.length < 9223372036854775808) → bytesP (-1) a = bytesP (-1) b → a.length ≤ b.length → a = b := by
    intro a b ha hb hla hlb h hle
    have t1 := takeP_bytes a.length a (-1) [] [] [] (Nat.le_refl _) (by omega) ha hla
    have t2 := takeP_bytes a.length b (-1) [] [] [] hle (by omega) hb hlb
    rw [h] at t1
    rw [t1] at t2
    simp only [List.nil_append, List.take_length, Option.some.injEq, Prod.mk.injEq, List.length_nil, Nat.zero_add] at t2
    obtain ⟨e1, e2⟩ := t2
    -- what is left of b has no bytes
    have hsplit : b = b.take a.length ++ b.drop a.length := (List.take_append_drop _ _).symm
    have hbb : bytesP (-1) b = bytesP (-1) (b.take a.length) ++ bytesP (docOf (-1) (b.take a.length)) (b.drop a.length) := by
      conv => lhs; rw [hsplit]
      rw [bytesP_append]
    have hlen := congrArg List.length hbb
    rw [← h, e2, List.length_append] at hlen
    have hz : (bytesP (docOf (-1) (b.take a.length)) (b.drop a.length)).length = 0 := by omega
    cases hd : b.drop a.length with
    | nil => rw [e1]; rw [hd] at hsplit; rw [List.append_nil] at hsplit; exact hsplit.symm
    | cons p r =>
      rw [hd, bytesP, List.length_append] at hz
      have := putB_pos (p.1 - (docOf (-1) (b.take a.length) + 1)).toNat
      omega
  rcases Nat.le_total a.length b.length with hle | hle
  · exact key ha hb hla hlb h hle
  · exact (key hb ha hlb hla h.symm hle).symm

/-! ## Blocks -/

def blocksP (n : Nat) : Nat := (n + 7) / 8
def blockP (l : List Po) (k : Int) : List Po := if k < 0 then [] else (l.drop (8 * k.toNat)).take 8
def lastP (l : List Po) (k : Int) : Int := docOf (-1) (blockP l k)
theorem blockP_neg {l : List Po} {k : Int} (h : k < 0) : blockP l k = [] := by unfold blockP; rw [if_pos h]
theorem blockP_nat {l : List Po} (k : Nat) : blockP l (k : Int) = (l.drop (8 * k)).take 8 := by unfold blockP; rw [if_neg (by omega), Int.toNat_natCast]
theorem blockP_out {l : List Po} {k : Nat} (h : blocksP l.length ≤ k) : blockP l (k : Int) = [] := by
  rw [blockP_nat, List.drop_eq_nil_of_le (by unfold blocksP at h; omega)]
  rfl
theorem blockP_length {l : List Po} (k : Nat) : (blockP l (k : Int)).length = min 8 (l.length - 8 * k) := by rw [blockP_nat, List.length_take, List.length_drop]
theorem blockP_some {l : List Po} {k : Nat} (h : k < blocksP l.length) : 0 < (blockP l (k : Int)).length := by
  rw [blockP_length]
  unfold blocksP at h
  omega
theorem blockP_full {l : List Po} {k : Nat} (h : k + 1 < blocksP l.length) : (blockP l (k : Int)).length = 8 := by
  rw [blockP_length]
  unfold blocksP at h
  omega
/-- The blocks, one behind the other, are all. -/
theorem blocks_all (l : List Po) (k : Nat) : l.take (8 * (k + 1)) = l.take (8 * k) ++ blockP l (k : Int) := by
  rw [blockP_nat, Nat.mul_add, Nat.mul_one, List.take_add]

/-! ## Good ones, made of any -/

def goodP : Int → List Po → List Po
  | _, [] => []
  | last, p :: r =>
    (last + 1 + (if p.1 < 0 then -(p.1 + 1) else p.1) % 50, if (goodZ (-1) (p.2.take 5)).isEmpty then [0] else goodZ (-1) (p.2.take 5)) ::
      goodP (last + 1 + (if p.1 < 0 then -(p.1 + 1) else p.1) % 50) r
theorem goodP_length : ∀ (l : List Po) (last : Int), (goodP last l).length = l.length
  | [], _ => rfl
  | p :: r, last => by simp [goodP, goodP_length r]
theorem good_places (ps : List Int) : placesB (if (goodZ (-1) (ps.take 5)).isEmpty then [0] else goodZ (-1) (ps.take 5)) = true ∧ (if (goodZ (-1) (ps.take 5)).isEmpty then [0] else goodZ (-1) (ps.take 5)).length ≤ 5 := by
  have h1 := goodZ_rises (ps.take 5) (-1)
  have h2 := goodZ_le (ps.take 5) (-1) (by omega)
  have h3 := goodZ_length (ps.take 5) (-1)
  have h4 := List.length_take_le 5 ps
  generalize goodZ (-1) (ps.take 5) = g at h1 h2 h3
  split
  · exact ⟨by decide, by simp⟩
  · rename_i hne
    have hg : g ≠ [] := by simpa using hne
    refine ⟨placesB_iff.2 ⟨h1, hg, ?_⟩, by omega⟩
    have hm := lastD_mem hg
    have := h2 _ hm
    omega
theorem goodP_may : ∀ (l : List Po) (last : Int), -1 ≤ last → last + 50 * l.length < 2147483648 → mayB' last (goodP last l) = true ∧ ∀ p ∈ goodP last l, p.2.length ≤ 5 ∧ 0 < p.2.length
  | [], _, _, _ => by simp [goodP, mayB']
  | p :: r, last, h0, h1 => by
    rw [List.length_cons] at h1
    have hm : 0 ≤ (if p.1 < 0 then -(p.1 + 1) else p.1) % 50 ∧ (if p.1 < 0 then -(p.1 + 1) else p.1) % 50 < 50 := ⟨Int.emod_nonneg _ (by omega), Int.emod_lt_of_pos _ (by omega)⟩
    have ih := goodP_may r (last + 1 + (if p.1 < 0 then -(p.1 + 1) else p.1) % 50) (by omega) (by omega)
    have hp := good_places p.2
    rw [goodP]
    refine ⟨mayB'_cons.2 ⟨by simp only; omega, by simp only; omega, hp.1, ih.1⟩, fun q hq => ?_⟩
    rcases List.mem_cons.1 hq with rfl | hq
    · refine ⟨hp.2, ?_⟩
      have := (placesB_iff.1 hp.1).2.1
      exact List.length_pos_iff.2 this
    · exact ih.2 q hq
end Go.Proofs.Ytfhjnblcnkjooaa
