/- Texts laid together: Plain05, Exact05, Post05, Good05, List05, More05, New05, Calls05, Take05, Has05, Block05, Last05, Told05, Firm05, Close05, Kept05, Chunk05, CloseW05, Fld05, Put05, HeldIn05, Make05, Arg05. -/
import Derived.Test.YtnmnbckaccicaaaP04
import Derived.Test.YtnmnbckaccicaaaP00
import Derived.Laws.Rows
import Derived.RangeFuncOwn
import Derived.BigQuiet
import Derived.Deep.QuietTactic
import Derived.Lib.SliceRun
import Derived.Deep.RegionHeld3
import Derived.RangeFuncNested
import Derived.RangeFuncBound
import Derived.RangeFuncCalls
import Derived.RangeFuncLeaves
import Derived.RangeFuncBox
import Derived.OwnWalkIn
import Derived.TacticsInMore
import Derived.LoopNIn
import Derived.LoopIn
import Derived.Maps.AppendAt
import Derived.Shelf.Abstract
import Derived.Shelf.RegionOpen
import Derived.Deep.AppendLies
import Derived.Deep.RegionLaw
import Derived.OrdersIn
import Derived.TacticsIn
import Derived.Lib.AppendZeros
import Derived.Deep.SlicePairs
import Derived.ProofKit
import Derived.OpenShut

/- Postings as bytes, plainly: which may be, their bytes, what is read of bytes, blocks. No program. -/
set_option linter.unusedVariables false
namespace Go.Proofs.Ytnmnbckaccicaaa

/-- A posting: the document, and the places. -/
abbrev Po := Int × List Int

/-! ## Which may be -/

/-- Places of a posting: they rise from 0 on, are some, and are below 2^31. -/
def placesB (ps : List Int) : Bool := risesZ (-1) ps && (!ps.isEmpty) && decide (ps.getLastD 0 < 2147483648)
def mayB' : Int → List Po → Bool
  | _, [] => true
  | last, p :: r => decide (last < p.1) && decide (p.1 < 2147483648) && placesB p.2 && mayB' p.1 r
theorem placesB_iff {ps : List Int} : placesB ps = true ↔ risesZ (-1) ps = true ∧ ps ≠ [] ∧ ps.getLastD 0 < 2147483648 := by
  simp [placesB, and_assoc]
theorem mayB'_cons {last : Int} {p : Po} {r : List Po} : mayB' last (p :: r) = true ↔ last < p.1 ∧ p.1 < 2147483648 ∧ placesB p.2 = true ∧ mayB' p.1 r = true := by
  simp [mayB', and_assoc]
/-- Rising numbers are at most the last one. -/
theorem rises_le_last : ∀ {ps : List Int} {x : Int}, risesZ x ps = true → ∀ y ∈ ps, x < y ∧ y ≤ ps.getLastD 0
  | [], _, _ => by simp
  | n :: r, x, h => by
    rw [risesZ, Bool.and_eq_true, decide_eq_true_iff] at h
    have ih := rises_le_last h.2
    intro y hy
    rcases List.mem_cons.1 hy with rfl | hy
    · refine ⟨h.1, ?_⟩
      cases r with
      | nil => simp
      | cons m r' =>
        have := ih m (by simp)
        have e : (y :: m :: r').getLastD 0 = (m :: r').getLastD 0 := by simp [List.getLastD]
        rw [e]
        omega
    · have := ih y hy
      refine ⟨by omega, ?_⟩
      cases r with
      | nil => cases hy
      | cons m r' =>
        have e : (n :: m :: r').getLastD 0 = (m :: r').getLastD 0 := by simp [List.getLastD]
        rw [e]
        exact this.2
theorem lastD_mem : ∀ {l : List Int}, l ≠ [] → l.getLastD 0 ∈ l
  | [], h => absurd rfl h
  | [a], _ => by simp
  | a :: b :: r, _ => by
    have e : (a :: b :: r).getLastD 0 = (b :: r).getLastD 0 := by simp [List.getLastD]
    rw [e]
    exact List.mem_cons_of_mem _ (lastD_mem (l := b :: r) (by simp))
theorem places_bd {ps : List Int} (h : placesB ps = true) : ∀ y ∈ ps, 0 ≤ y ∧ y < 2147483648 := by
  obtain ⟨h1, _, h3⟩ := placesB_iff.1 h
  intro y hy
  have := rises_le_last h1 y hy
  omega

/-! ## Bytes -/

def bytesP : Int → List Po → List UInt8
  | _, [] => []
  | last, p :: r => putB (p.1 - (last + 1)).toNat ++ (putR p.2 ++ bytesP p.1 r)
/-- The document of the last one. -/
def docOf : Int → List Po → Int
  | last, [] => last
  | _, p :: r => docOf p.1 r
theorem bytesP_append : ∀ (a b : List Po) (last : Int), bytesP last (a ++ b) = bytesP last a ++ bytesP (docOf last a) b
  | [], b, last => rfl
  | p :: r, b, last => by simp [bytesP, docOf, bytesP_append r b p.1, List.append_assoc]
theorem docOf_append : ∀ (a b : List Po) (last : Int), docOf last (a ++ b) = docOf (docOf last a) b
  | [], _, _ => rfl
  | p :: r, b, _ => by simp [docOf, docOf_append r b p.1]
theorem mayB'_append : ∀ (a b : List Po) (last : Int), mayB' last (a ++ b) = (mayB' last a && mayB' (docOf last a) b)
  | [], b, last => by simp [mayB', docOf]
  | p :: r, b, last => by simp [mayB', docOf, mayB'_append r b p.1, Bool.and_assoc]
theorem docOf_ge : ∀ (l : List Po) (last : Int), mayB' last l = true → last ≤ docOf last l
  | [], _, _ => Int.le_refl _
  | p :: r, last, h => by
    have := mayB'_cons.1 h
    have ih := docOf_ge r p.1 this.2.2.2
    rw [docOf]; omega
theorem docOf_lt : ∀ (l : List Po) (last : Int), mayB' last l = true → last < 2147483648 → docOf last l < 2147483648
  | [], _, _, h => h
  | p :: r, last, h, _ => by
    have := mayB'_cons.1 h
    exact docOf_lt r p.1 this.2.2.2 this.2.1
/-- How many places there are in all. -/
def totalP : List Po → Nat
  | [] => 0
  | p :: r => p.2.length + totalP r
theorem putR_length {ps : List Int} (h : placesB ps = true) (hl : ps.length < 9223372036854775808) : (putR ps).length ≤ 9 + 9 * ps.length := by
  have hb := places_bd h
  have h1 := dB_length ps (-1) (by omega) (placesB_iff.1 h).1 fun x hx => by have := hb x hx; omega
  have h2 := putB_nine hl
  rw [putR, List.length_append]
  omega
theorem bytesP_length : ∀ (l : List Po) (last : Int), -1 ≤ last → mayB' last l = true → (∀ p ∈ l, p.2.length < 9223372036854775808) → (bytesP last l).length ≤ 18 * l.length + 9 * totalP l
  | [], _, _, _, _ => by simp [bytesP]
  | p :: r, last, h0, h, hl => by
    obtain ⟨h1, h2, h3, h4⟩ := mayB'_cons.1 h
    have ih := bytesP_length r p.1 (by omega) h4 fun q hq => hl q (by simp [hq])
    have e1 := putB_nine (n := (p.1 - (last + 1)).toNat) (by omega)
    have e2 := putR_length h3 (hl p (by simp))
    rw [bytesP, List.length_append, List.length_append, List.length_cons, totalP]
    omega

/-! ## What is read -/

/-- So many postings, read one behind the other. -/
def takeP (l : List UInt8) : Nat → Int → Nat → List Po → Option (List Po × Nat)
  | 0, _, a, acc => some (acc, a)
  | m + 1, last, a, acc =>
    if (getZ l a).2.2 = 0 then
      if (risZ l (getZ l a).2.1).2.2 = 0 then
        takeP l m ((getZ l a).1 + (last + 1)) (risZ l (getZ l a).2.1).2.1.toNat (acc ++ [((getZ l a).1 + (last + 1), (risZ l (getZ l a).2.1).1)])
      else none
    else none
theorem get_posting {pre post : List UInt8} {last d : Int} {ps : List Int} {r : List Po} (h0 : -1 ≤ last) (hd : last < d) (hd2 : d < 2147483648) (hp : placesB ps = true) (hl : ps.length < 9223372036854775808) :
    getZ (pre ++ (bytesP last ((d, ps) :: r) ++ post)) (pre.length : Int) = (d - (last + 1), ((pre.length + (putB (d - (last + 1)).toNat).length : Nat) : Int), 0) ∧
    risZ (pre ++ (bytesP last ((d, ps) :: r) ++ post)) ((pre.length + (putB (d - (last + 1)).toNat).length : Nat) : Int) = (ps, ((pre.length + ((putB (d - (last + 1)).toNat).length + (putR ps).length) : Nat) : Int), 0) := by
  have hb := places_bd hp
  have e1 : pre ++ (bytesP last ((d, ps) :: r) ++ post) = pre ++ (putB (d - (last + 1)).toNat ++ (putR ps ++ (bytesP d r ++ post))) := by simp [bytesP, List.append_assoc]
  have e2 : pre ++ (bytesP last ((d, ps) :: r) ++ post) = (pre ++ putB (d - (last + 1)).toNat) ++ (putR ps ++ (bytesP d r ++ post)) := by simp [bytesP, List.append_assoc]
  refine ⟨?_, ?_⟩
  · rw [e1, getZ_put (by omega)]
    simp only [Prod.mk.injEq, and_true]
    omega
  · have := risZ_put (g := ps) (placesB_iff.1 hp).1 (fun x hx => by have := hb x hx; omega) hl (pre ++ putB (d - (last + 1)).toNat) (bytesP d r ++ post)
    rw [List.length_append] at this
    rw [e2, this]
    simp [Nat.add_assoc]
/-- Of postings' bytes these are read, as many as are asked for (no more than there are). -/
theorem takeP_bytes : ∀ (m : Nat) (g : List Po) (last : Int) (pre post : List UInt8) (acc : List Po), m ≤ g.length → -1 ≤ last → mayB' last g = true → (∀ p ∈ g, p.2.length < 9223372036854775808) →
    takeP (pre ++ (bytesP last g ++ post)) m last pre.length acc = some (acc ++ g.take m, pre.length + (bytesP last (g.take m)).length)
  | 0, g, last, pre, post, acc, _, _, _, _ => by simp [takeP, bytesP]
  | m + 1, [], last, pre, post, acc, h, _, _, _ => by simp at h
  | m + 1, (d, ps) :: r, last, pre, post, acc, hm, h0, h, hl => by
    obtain ⟨h1, h2, h3, h4⟩ := mayB'_cons.1 h
    simp only at h1 h2 h3 h4
    obtain ⟨g1, g2⟩ := get_posting (pre := pre) (post := post) (r := r) h0 h1 h2 h3 (hl (d, ps) (by simp))
    rw [takeP, g1]
    simp only [if_true]
    rw [g2]
    simp only [if_true, Int.toNat_natCast]
    have e2 : pre ++ (bytesP last ((d, ps) :: r) ++ post) = (pre ++ (putB (d - (last + 1)).toNat ++ putR ps)) ++ (bytesP d r ++ post) := by simp [bytesP, List.append_assoc]
    have ih := takeP_bytes m r d (pre ++ (putB (d - (last + 1)).toNat ++ putR ps)) post (acc ++ [(d, ps)]) (by simpa using hm) (by omega) h4 (fun p hp => hl p (by simp [hp]))
    rw [e2, show d - (last + 1) + (last + 1) = d by omega]
    rw [show pre.length + ((putB (d - (last + 1)).toNat).length + (putR ps).length) = (pre ++ (putB (d - (last + 1)).toNat ++ putR ps)).length by simp, ih]
    simp [bytesP, Nat.add_assoc]
/-- Two lists that may be and have the same bytes are the same. -/
theorem bytesP_inj {a b : List Po} (ha : mayB' (-1) a = true) (hb : mayB' (-1) b = true) (hla : ∀ p ∈ a, p.2.length < 9223372036854775808) (hlb : ∀ p ∈ b, p.2.length < 9223372036854775808) (h : bytesP (-1) a = bytesP (-1) b) : a = b := by
  have key : ∀ {a b : List Po}, mayB' (-1) a = true → mayB' (-1) b = true → (∀ p ∈ a, p.2.length < 9223372036854775808) → (∀ p ∈ b, p.2.length < 9223372036854775808) → bytesP (-1) a = bytesP (-1) b → a.length ≤ b.length → a = b := by
    intro a b ha hb hla hlb h hle
    have t1 := takeP_bytes a.length a (-1) [] [] [] (Nat.le_refl _) (by omega) ha hla
    have t2 := takeP_bytes a.length b (-1) [] [] [] hle (by omega) hb hlb
    rw [h] at t1
    rw [t1] at t2
    simp only [List.nil_append, List.take_length, Option.some.injEq, Prod.mk.injEq, List.length_nil, Nat.zero_add] at t2
    obtain ⟨e1, e2⟩ := t2
    -- what is left of b has no bytes
    have hsplit : b = b.take a.length ++ b.drop a.length := (List.take_append_drop _ _).symm
    have hbb : bytesP (-1) b = bytesP (-1) (b.take a.length) ++ bytesP (docOf (-1) (b.take a.length)) (b.drop a.length) := by
      conv => lhs; rw [hsplit]
      rw [bytesP_append]
    have hlen := congrArg List.length hbb
    rw [← h, e2, List.length_append] at hlen
    have hz : (bytesP (docOf (-1) (b.take a.length)) (b.drop a.length)).length = 0 := by omega
    cases hd : b.drop a.length with
    | nil => rw [e1]; rw [hd] at hsplit; rw [List.append_nil] at hsplit; exact hsplit.symm
    | cons p r =>
      rw [hd, bytesP, List.length_append] at hz
      have := putB_pos (p.1 - (docOf (-1) (b.take a.length) + 1)).toNat
      omega
  rcases Nat.le_total a.length b.length with hle | hle
  · exact key ha hb hla hlb h hle
  · exact (key hb ha hlb hla h.symm hle).symm

/-! ## Blocks -/

def blocksP (n : Nat) : Nat := (n + 7) / 8
def blockP (l : List Po) (k : Int) : List Po := if k < 0 then [] else (l.drop (8 * k.toNat)).take 8
def lastP (l : List Po) (k : Int) : Int := docOf (-1) (blockP l k)
theorem blockP_neg {l : List Po} {k : Int} (h : k < 0) : blockP l k = [] := by unfold blockP; rw [if_pos h]
theorem blockP_nat {l : List Po} (k : Nat) : blockP l (k : Int) = (l.drop (8 * k)).take 8 := by unfold blockP; rw [if_neg (by omega), Int.toNat_natCast]
theorem blockP_out {l : List Po} {k : Nat} (h : blocksP l.length ≤ k) : blockP l (k : Int) = [] := by
  rw [blockP_nat, List.drop_eq_nil_of_le (by unfold blocksP at h; omega)]
  rfl
theorem blockP_length {l : List Po} (k : Nat) : (blockP l (k : Int)).length = min 8 (l.length - 8 * k) := by rw [blockP_nat, List.length_take, List.length_drop]
theorem blockP_some {l : List Po} {k : Nat} (h : k < blocksP l.length) : 0 < (blockP l (k : Int)).length := by
  rw [blockP_length]
  unfold blocksP at h
  omega
theorem blockP_full {l : List Po} {k : Nat} (h : k + 1 < blocksP l.length) : (blockP l (k : Int)).length = 8 := by
  rw [blockP_length]
  unfold blocksP at h
  omega
/-- The blocks, one behind the other, are all. -/
theorem blocks_all (l : List Po) (k : Nat) : l.take (8 * (k + 1)) = l.take (8 * k) ++ blockP l (k : Int) := by
  rw [blockP_nat, Nat.mul_add, Nat.mul_one, List.take_add]

/-! ## Good ones, made of any -/

def goodP : Int → List Po → List Po
  | _, [] => []
  | last, p :: r =>
    (last + 1 + (if p.1 < 0 then -(p.1 + 1) else p.1) % 50, if (goodZ (-1) (p.2.take 5)).isEmpty then [0] else goodZ (-1) (p.2.take 5)) ::
      goodP (last + 1 + (if p.1 < 0 then -(p.1 + 1) else p.1) % 50) r
theorem goodP_length : ∀ (l : List Po) (last : Int), (goodP last l).length = l.length
  | [], _ => rfl
  | p :: r, last => by simp [goodP, goodP_length r]
theorem good_places (ps : List Int) : placesB (if (goodZ (-1) (ps.take 5)).isEmpty then [0] else goodZ (-1) (ps.take 5)) = true ∧ (if (goodZ (-1) (ps.take 5)).isEmpty then [0] else goodZ (-1) (ps.take 5)).length ≤ 5 := by
  have h1 := goodZ_rises (ps.take 5) (-1)
  have h2 := goodZ_le (ps.take 5) (-1) (by omega)
  have h3 := goodZ_length (ps.take 5) (-1)
  have h4 := List.length_take_le 5 ps
  generalize goodZ (-1) (ps.take 5) = g at h1 h2 h3
  split
  · exact ⟨by decide, by simp⟩
  · rename_i hne
    have hg : g ≠ [] := by simpa using hne
    refine ⟨placesB_iff.2 ⟨h1, hg, ?_⟩, by omega⟩
    have hm := lastD_mem hg
    have := h2 _ hm
    omega
theorem goodP_may : ∀ (l : List Po) (last : Int), -1 ≤ last → last + 50 * l.length < 2147483648 → mayB' last (goodP last l) = true ∧ ∀ p ∈ goodP last l, p.2.length ≤ 5 ∧ 0 < p.2.length
  | [], _, _, _ => by simp [goodP, mayB']
  | p :: r, last, h0, h1 => by
    rw [List.length_cons] at h1
    have hm : 0 ≤ (if p.1 < 0 then -(p.1 + 1) else p.1) % 50 ∧ (if p.1 < 0 then -(p.1 + 1) else p.1) % 50 < 50 := ⟨Int.emod_nonneg _ (by omega), Int.emod_lt_of_pos _ (by omega)⟩
    have ih := goodP_may r (last + 1 + (if p.1 < 0 then -(p.1 + 1) else p.1) % 50) (by omega) (by omega)
    have hp := good_places p.2
    rw [goodP]
    refine ⟨mayB'_cons.2 ⟨by simp only; omega, by simp only; omega, hp.1, ih.1⟩, fun q hq => ?_⟩
    rcases List.mem_cons.1 hq with rfl | hq
    · refine ⟨hp.2, ?_⟩
      have := (placesB_iff.1 hp.1).2.1
      exact List.length_pos_iff.2 this
    · exact ih.2 q hq
end Go.Proofs.Ytnmnbckaccicaaa

/- What is got of bytes is what these bytes are: numbers, rising numbers, postings that stand at a place. No program. -/
set_option linter.unusedVariables false
namespace Go.Proofs.Ytnmnbckaccicaaa

theorem getF_exact (l : List UInt8) : (getF l).2 = 0 ∨ putB (getF l).1 = l.take (getF l).2 := by
  have key : ∀ (f : Nat) (l : List UInt8) (k : Nat), scan f l = some k → k < l.length ∧ High l k ∧ (l.getD k 0).toNat < 128 := by
    intro f
    induction f with
    | zero => intro l k h; cases h
    | succ f ih =>
      intro l k h
      cases l with
      | nil => cases h
      | cons c r =>
        rw [scan] at h
        split at h
        · rename_i hc
          simp at h
          subst h
          exact ⟨by simp, High.zero _, by simpa using hc⟩
        · rename_i hc
          rw [Option.map_eq_some_iff] at h
          obtain ⟨j, hj, rfl⟩ := h
          obtain ⟨h1, h2, h3⟩ := ih r j hj
          refine ⟨by simp; omega, fun i hi => ?_, by simpa using h3⟩
          cases i with
          | zero => simp; omega
          | succ i => simpa using h2 i (by omega)
  unfold getF
  rcases hs : scan 9 l with _ | k
  · exact .inl rfl
  · obtain ⟨h1, h2, h3⟩ := key 9 l k hs
    have hd : ∀ j, j < k + 1 → (l.take (k + 1)).getD j 0 = l.getD j 0 := fun j hj => by
      rw [List.getD_eq_getElem?_getD, List.getElem?_take_of_lt hj, ← List.getD_eq_getElem?_getD]
    simp only
    split
    · exact .inl rfl
    · rename_i hne
      refine .inr ?_
      simp only
      refine (putB_valB (k := k) (l := l.take (k + 1)) (by rw [List.length_take]; omega) (fun j hj => ?_) ?_ ?_).1
      · rw [hd j (by omega)]
        exact h2 j hj
      · rw [hd k (by omega)]
        exact h3
      · rw [hd k (by omega)]
        omega
theorem getZ_exact {b : List UInt8} {a : Nat} {d q : Int} (h : getZ b (a : Int) = (d, q, 0)) :
    ∃ n k : Nat, d = (n : Int) ∧ q = (k : Int) ∧ a ≤ k ∧ k ≤ b.length ∧ b.take k = b.take a ++ putB n := by
  unfold getZ at h
  split at h
  · simp at h
  · rename_i h0
    rw [Int.toNat_natCast] at h
    split at h
    · simp at h
    · rename_i h1
      simp only [Prod.mk.injEq, and_true] at h
      obtain ⟨hd, hq⟩ := h
      have hbd := (getF_bd (b.drop a)).2.1
      rw [List.length_drop] at hbd
      refine ⟨_, a + (getF (b.drop a)).2, hd.symm, by rw [← hq]; simp, by omega, by omega, ?_⟩
      rcases getF_exact (b.drop a) with h2 | h2
      · exact absurd h2 h1
      · rw [h2, List.take_add]
theorem takeR_exact {b : List UInt8} : ∀ (m : Nat) (last : Int) (a : Nat) (acc xs : List Int) (q : Nat), takeR b m last a acc = some (xs, q) → a ≤ b.length →
    ∃ ys, xs = acc ++ ys ∧ ys.length = m ∧ risesZ last ys = true ∧ a ≤ q ∧ q ≤ b.length ∧ b.take q = b.take a ++ dB last ys
  | 0, last, a, acc, xs, q, h, ha => by
    simp only [takeR, Option.some.injEq, Prod.mk.injEq] at h
    obtain ⟨rfl, rfl⟩ := h
    exact ⟨[], by simp, rfl, rfl, Nat.le_refl _, ha, by simp [dB]⟩
  | m + 1, last, a, acc, xs, q, h, ha => by
    rw [takeR] at h
    split at h
    · cases h
    · rename_i h0
      have hbd := (getF_bd (b.drop a)).2.1
      rw [List.length_drop] at hbd
      obtain ⟨ys, h1, h2, h3, h4, h5, h6⟩ := takeR_exact m _ _ _ _ _ h (by omega)
      have hx : putB (getF (b.drop a)).1 = (b.drop a).take (getF (b.drop a)).2 := by
        rcases getF_exact (b.drop a) with h2 | h2
        · exact absurd (.inl h2) h0
        · exact h2
      refine ⟨(last + (((getF (b.drop a)).1 : Int) + 1)) :: ys, by rw [h1]; simp, by simp [h2], ?_, by omega, h5, ?_⟩
      · rw [risesZ, h3, Bool.and_true, decide_eq_true_iff]
        omega
      · rw [h6, List.take_add, dB, show (last + (((getF (b.drop a)).1 : Int) + 1) - (last + 1)).toNat = (getF (b.drop a)).1 by omega, hx, List.append_assoc]
theorem risZ_exact {b : List UInt8} {a : Nat} {ps : List Int} {q : Int} (h : risZ b (a : Int) = (ps, q, 0)) :
    ∃ k : Nat, q = (k : Int) ∧ a ≤ k ∧ k ≤ b.length ∧ risesZ (-1) ps = true ∧ b.take k = b.take a ++ putR ps := by
  unfold risZ at h
  split at h
  · rename_i h0
    obtain ⟨d, q2, e, hz⟩ : ∃ d q2 e, getZ b (a : Int) = (d, q2, e) := ⟨_, _, _, rfl⟩
    rw [hz] at h h0
    simp only at h h0
    subst h0
    obtain ⟨n, k, rfl, rfl, hak, hkb, hk⟩ := getZ_exact hz
    rw [Int.toNat_natCast, Int.toNat_natCast] at h
    rcases ht : takeR b n (-1) k [] with _ | ⟨xs, q'⟩
    · rw [ht] at h; simp at h
    · rw [ht] at h
      simp only [Prod.mk.injEq, and_true] at h
      obtain ⟨rfl, rfl⟩ := h
      obtain ⟨ys, h1, h2, h3, h4, h5, h6⟩ := takeR_exact _ _ _ _ _ _ ht hkb
      rw [List.nil_append] at h1
      subst h1
      exact ⟨q', rfl, by omega, h5, h3, by rw [h6, hk, putR, h2, List.append_assoc]⟩
  · rename_i h0
    simp only [Prod.mk.injEq] at h
    exact absurd h.2.2 h0

/-! ## Postings that stand at a place, behind a document -/

def Stands (b : List UInt8) (last : Int) (a : Nat) (g : List Po) : Prop :=
  mayB' last g = true ∧ a + (bytesP last g).length ≤ b.length ∧ b.take (a + (bytesP last g).length) = b.take a ++ bytesP last g
theorem Stands.nil {b : List UInt8} {last : Int} {a : Nat} (h : a ≤ b.length) : Stands b last a [] := ⟨rfl, by simpa [bytesP] using h, by simp [bytesP]⟩
theorem Stands.split {b : List UInt8} {last : Int} {a : Nat} {g : List Po} (h : Stands b last a g) : b = b.take a ++ (bytesP last g ++ b.drop (a + (bytesP last g).length)) := by
  have := (List.take_append_drop (a + (bytesP last g).length) b).symm
  rw [h.2.2, List.append_assoc] at this
  exact this
/-- Every place takes a byte at the least. -/
theorem bytes_placesA : ∀ (l : List Po) (last : Int) (p : Po), p ∈ l → p.2.length ≤ (bytesP last l).length
  | [], _, p, h => by cases h
  | q :: r, last, p, h => by
    have hd : ∀ (ps : List Int) (x : Int), ps.length ≤ (dB x ps).length := by
      intro ps
      induction ps with
      | nil => simp
      | cons a t ih =>
        intro x
        have := ih a
        have := putB_pos (a - (x + 1)).toNat
        rw [dB, List.length_append, List.length_cons]
        omega
    rw [bytesP, List.length_append, List.length_append]
    rcases List.mem_cons.1 h with rfl | h
    · have := hd p.2 (-1)
      rw [putR, List.length_append]
      omega
    · have := bytes_placesA r q.1 p h
      omega
theorem drop_poA {l : List Po} {k : Nat} (hk : k < l.length) : l.drop k = l.getD k (0, []) :: l.drop (k + 1) := by
  rw [List.drop_eq_getElem_cons hk, List.getD_eq_getElem?_getD, List.getElem?_eq_getElem hk]
  rfl
/-- The next one of postings that stand at a place. -/
theorem stands_next {b : List UInt8} {last : Int} {a : Nat} {g : List Po} (h : Stands b last a g) (h0 : -1 ≤ last) {k : Nat} (hk : k < g.length) (hb : b.length ≤ 1000000000) :
    ∃ a2 : Nat, getZ b (((a + (bytesP last (g.take k)).length : Nat)) : Int) = ((g.getD k (0, [])).1 - (docOf last (g.take k) + 1), (a2 : Int), 0) ∧
      risZ b (a2 : Int) = ((g.getD k (0, [])).2, (((a + (bytesP last (g.take (k + 1))).length : Nat)) : Int), 0) ∧ -1 ≤ docOf last (g.take k) ∧ docOf last (g.take k) < (g.getD k (0, [])).1 ∧ (g.getD k (0, [])).1 < 2147483648 ∧ placesB (g.getD k (0, [])).2 = true ∧ g.take (k + 1) = g.take k ++ [((g.getD k (0, [])).1, (g.getD k (0, [])).2)] := by
  have hspl := h.split
  obtain ⟨h1, h2, h3⟩ := h
  have hsp : g = g.take k ++ (g.getD k (0, []) :: g.drop (k + 1)) := by rw [← drop_poA hk, List.take_append_drop]
  have hm := h1
  rw [hsp, mayB'_append, Bool.and_eq_true] at hm
  obtain ⟨m1, m2⟩ := hm
  obtain ⟨m3, m4, m5, m6⟩ := mayB'_cons.1 m2
  have hge := docOf_ge _ _ m1
  have hpl := bytes_placesA g last (g.getD k (0, [])) (by rw [List.getD_eq_getElem?_getD, List.getElem?_eq_getElem hk]; simp)
  have hts : g.take (k + 1) = g.take k ++ [g.getD k (0, [])] := by
    rw [List.take_succ_eq_append_getElem hk, List.getD_eq_getElem?_getD, List.getElem?_eq_getElem hk]
    rfl
  obtain ⟨q, hq⟩ : ∃ q, q = g.getD k (0, []) := ⟨_, rfl⟩
  rw [← hq] at m3 m4 m5 m6 hsp hts hpl
  rw [← hq]
  obtain ⟨d, ps⟩ := q
  have hta : (b.take a).length = a := by rw [List.length_take]; omega
  obtain ⟨g1, g2⟩ := get_posting (pre := b.take a ++ bytesP last (g.take k)) (post := b.drop (a + (bytesP last g).length)) (r := g.drop (k + 1)) (by omega) m3 m4 m5 (by have h9 : ps.length ≤ (bytesP last g).length := hpl; omega)
  have hbe : (b.take a ++ bytesP last (g.take k)) ++ (bytesP (docOf last (g.take k)) ((d, ps) :: g.drop (k + 1)) ++ b.drop (a + (bytesP last g).length)) = b := by
    have e1 : bytesP last (g.take k) ++ bytesP (docOf last (g.take k)) ((d, ps) :: g.drop (k + 1)) = bytesP last g := by rw [← bytesP_append, ← hsp]
    have e2 : (b.take a ++ bytesP last (g.take k)) ++ (bytesP (docOf last (g.take k)) ((d, ps) :: g.drop (k + 1)) ++ b.drop (a + (bytesP last g).length)) = b.take a ++ ((bytesP last (g.take k) ++ bytesP (docOf last (g.take k)) ((d, ps) :: g.drop (k + 1))) ++ b.drop (a + (bytesP last g).length)) := by simp only [List.append_assoc]
    rw [e2, e1]
    exact hspl.symm
  rw [hbe, List.length_append, hta] at g1 g2
  refine ⟨_, g1, ?_, by omega, m3, m4, m5, hts⟩
  rw [g2, hts, bytesP_append]
  simp [bytesP, Nat.add_assoc]
/-- One more that stands behind. -/
theorem stands_step {b : List UInt8} {last : Int} {a : Nat} {acc : List Po} (h : Stands b last a acc) (h0 : -1 ≤ docOf last acc) {d q2 q3 : Int} {ps : List Int}
    (hz : getZ b (((a + (bytesP last acc).length : Nat)) : Int) = (d, q2, 0)) (hr : risZ b q2 = (ps, q3, 0)) (hd : d + (docOf last acc + 1) < 2147483648) (hp : placesB ps = true) :
    Stands b last a (acc ++ [(d + (docOf last acc + 1), ps)]) ∧ q3 = ((a + (bytesP last (acc ++ [(d + (docOf last acc + 1), ps)])).length : Nat) : Int) := by
  obtain ⟨n, k, rfl, rfl, hak, hkb, hk⟩ := getZ_exact hz
  obtain ⟨k2, rfl, hkk, hkb2, hris, hk2⟩ := risZ_exact hr
  obtain ⟨h1, h2, h3⟩ := h
  obtain ⟨x, hx⟩ : ∃ x, x = docOf last acc := ⟨_, rfl⟩
  rw [← hx] at h0 hd
  rw [← hx]
  have hby : bytesP last (acc ++ [((n : Int) + (x + 1), ps)]) = bytesP last acc ++ (putB n ++ putR ps) := by
    rw [bytesP_append, ← hx]
    simp only [bytesP, List.append_nil]
    rw [show ((n : Int) + (x + 1) - (x + 1)).toNat = n by omega]
  have hlen : k2 = a + (bytesP last (acc ++ [((n : Int) + (x + 1), ps)])).length := by
    have e1 := congrArg List.length hk
    have e2 := congrArg List.length hk2
    rw [List.length_append, List.length_take, List.length_take] at e1 e2
    rw [hby, List.length_append, List.length_append]
    omega
  refine ⟨⟨?_, by omega, ?_⟩, by rw [← hlen]⟩
  · rw [mayB'_append, h1, Bool.true_and, ← hx]
    exact mayB'_cons.2 ⟨by simp only; omega, by simp only; omega, hp, rfl⟩
  · rw [← hlen, hk2, hk, h3, hby]
    simp only [List.append_assoc]
theorem docOf_step {last : Int} {acc : List Po} {y : Int} {ps : List Int} : docOf last (acc ++ [(y, ps)]) = y := by rw [docOf_append]; rfl

/-! ## Places, as they are looked through one by one -/

def placesOn : Int → List Int → Bool
  | _, [] => true
  | last, n :: r => decide (last < n) && decide (n < 2147483648) && placesOn n r
theorem placesOn_eq : ∀ (ps : List Int) (last : Int), ps ≠ [] → placesOn last ps = (risesZ last ps && decide (ps.getLastD 0 < 2147483648))
  | [], _, h => absurd rfl h
  | [n], last, _ => by simp [placesOn, risesZ]
  | n :: m :: r, last, _ => by
    have ih := placesOn_eq (m :: r) n (by simp)
    have e : (n :: m :: r).getLastD 0 = (m :: r).getLastD 0 := by simp [List.getLastD]
    rw [placesOn, risesZ, ih, e]
    rcases h1 : risesZ n (m :: r) with _ | _
    · simp
    · by_cases h2 : (m :: r).getLastD 0 < 2147483648
      · have := (rises_le_last h1 ((m :: r).getLastD 0) (lastD_mem (by simp))).1
        have h3 : n < 2147483648 := by omega
        simp [h3]
      · rw [decide_eq_false h2]
        simp
theorem placesB_on (ps : List Int) : placesB ps = (placesOn (-1) ps && decide (0 < ps.length)) := by
  by_cases h : ps = []
  · subst h; rfl
  · unfold placesB
    rw [placesOn_eq ps (-1) h]
    have hl : 0 < ps.length := List.length_pos_iff.2 h
    have he : ps.isEmpty = false := by simpa using h
    rw [he]
    simp [hl]
theorem placesOn_cut {last : Int} {ps : List Int} {k : Nat} (hk : k < ps.length) : placesOn last (ps.drop k) = (decide (last < ps.getD k 0) && decide (ps.getD k 0 < 2147483648) && placesOn (ps.getD k 0) (ps.drop (k + 1))) := by
  rw [List.drop_eq_getElem_cons hk, placesOn, List.getD_eq_getElem?_getD, List.getElem?_eq_getElem hk]
  rfl

/-! ## Where blocks end -/

def endsC (l : List Po) : Nat → List (Int × Nat)
  | 0 => []
  | k + 1 => endsC l k ++ [(docOf (-1) (l.take (8 * (k + 1))), (bytesP (-1) (l.take (8 * (k + 1)))).length)]
theorem endsC_length (l : List Po) : ∀ n, (endsC l n).length = n
  | 0 => rfl
  | k + 1 => by rw [endsC, List.length_append, endsC_length l k]; rfl
theorem endsC_at (l : List Po) : ∀ (n k : Nat), k < n → (endsC l n)[k]? = some (docOf (-1) (l.take (8 * (k + 1))), (bytesP (-1) (l.take (8 * (k + 1)))).length)
  | 0, _, h => by omega
  | n + 1, k, h => by
    rw [endsC]
    by_cases e : k = n
    · subst e
      rw [List.getElem?_append_right (by rw [endsC_length]; exact Nat.le_refl _), endsC_length, Nat.sub_self]
      rfl
    · rw [List.getElem?_append_left (by rw [endsC_length]; omega)]
      exact endsC_at l n k (by omega)
theorem endsC_append {l b : List Po} : ∀ {n : Nat}, 8 * n ≤ l.length → endsC (l ++ b) n = endsC l n
  | 0, _ => rfl
  | k + 1, h => by
    rw [endsC, endsC, endsC_append (by omega), List.take_append_of_le_length h]
theorem blocksP_push {l b : List Po} {n : Nat} (hl : l.length = 8 * n) (h0 : 0 < b.length) (h8 : b.length ≤ 8) : blocksP l.length = n ∧ blocksP (l ++ b).length = n + 1 := by
  unfold blocksP
  rw [List.length_append]
  omega
theorem endsC_push {l b : List Po} {n : Nat} (hl : l.length = 8 * n) (h0 : 0 < b.length) (h8 : b.length ≤ 8) : endsC (l ++ b) (n + 1) = endsC l n ++ [(docOf (-1) (l ++ b), (bytesP (-1) (l ++ b)).length)] := by
  rw [endsC, endsC_append (by omega), List.take_of_length_le (by rw [List.length_append]; omega)]
theorem totalP_append : ∀ (a b : List Po), totalP (a ++ b) = totalP a + totalP b
  | [], b => by simp [totalP]
  | p :: r, b => by simp [totalP, totalP_append r b, Nat.add_assoc]
theorem docOf_some : ∀ {b : List Po} {x y : Int}, b ≠ [] → docOf x b = docOf y b
  | [], _, _, h => absurd rfl h
  | p :: r, _, _, _ => rfl
/-- A block's last document is where it ends. -/
theorem lastP_end {l : List Po} {k : Nat} (hk : k < blocksP l.length) : lastP l (k : Int) = docOf (-1) (l.take (8 * (k + 1))) := by
  have h := blockP_some hk
  rw [blocks_all, docOf_append]
  exact docOf_some (List.length_pos_iff.1 h)
/-- A block stands in all the bytes, behind those ahead. -/
theorem block_stands {l : List Po} {k : Nat} (hk : k < blocksP l.length) (hm : mayB' (-1) l = true) : Stands (bytesP (-1) l) (docOf (-1) (l.take (8 * k))) (bytesP (-1) (l.take (8 * k))).length (blockP l (k : Int)) := by
  have hsp : l = l.take (8 * k) ++ (blockP l (k : Int) ++ l.drop (8 * (k + 1))) := by
    rw [← List.append_assoc, ← blocks_all, List.take_append_drop]
  have hb : bytesP (-1) l = bytesP (-1) (l.take (8 * k)) ++ (bytesP (docOf (-1) (l.take (8 * k))) (blockP l (k : Int)) ++ bytesP (docOf (docOf (-1) (l.take (8 * k))) (blockP l (k : Int))) (l.drop (8 * (k + 1)))) := by
    conv => lhs; rw [hsp]
    rw [bytesP_append, bytesP_append]
  have hm2 := hm
  rw [hsp, mayB'_append, mayB'_append, Bool.and_eq_true, Bool.and_eq_true] at hm2
  obtain ⟨a, ha⟩ : ∃ a, a = bytesP (-1) (l.take (8 * k)) := ⟨_, rfl⟩
  obtain ⟨c, hc⟩ : ∃ c, c = bytesP (docOf (-1) (l.take (8 * k))) (blockP l (k : Int)) := ⟨_, rfl⟩
  rw [← ha, ← hc] at hb
  refine ⟨hm2.2.1, ?_, ?_⟩
  · rw [← ha, ← hc, hb]; simp
  · rw [← ha, ← hc, hb, List.take_left, ← List.append_assoc, ← List.length_append, List.take_left]
end Go.Proofs.Ytnmnbckaccicaaa

/- Lists of postings in memory: two cells each, the second one a slice of ints that lies in a row of its own. No program but the number of the type int. -/
set_option linter.unusedVariables false
namespace Go.Proofs.Ytnmnbckaccicaaa
open Go Go.RowKit

/-- The cells of postings; R says where the places lie. -/
def PoCells (R : Option Addr → List Value → Prop) : List Po → List Value → Prop
  | [], cs => cs = []
  | q :: r, cs => ∃ A c cs', cs = .int .i64 q.1 :: .slice A q.2.length c :: cs' ∧ q.2.length ≤ c ∧ c ≤ maxLen ∧ R A (ints q.2) ∧ PoCells R r cs'

section
variable {R R' : Option Addr → List Value → Prop}
theorem PoCells.len : ∀ {l : List Po} {cs : List Value}, PoCells R l cs → cs.length = l.length * 2
  | [], cs, h => by simp only [PoCells] at h; subst h; rfl
  | q :: r, cs, h => by
    obtain ⟨A, c, cs', rfl, _, _, _, h'⟩ := h
    have := PoCells.len h'
    simp only [List.length_cons, this]
    omega
theorem PoCells.imp : ∀ {l : List Po} {cs : List Value}, PoCells R l cs → (∀ A xs, R A xs → R' A xs) → PoCells R' l cs
  | [], cs, h, _ => h
  | q :: r, cs, h, hi => by
    obtain ⟨A, c, cs', rfl, h1, h2, h3, h'⟩ := h
    exact ⟨A, c, cs', rfl, h1, h2, hi _ _ h3, PoCells.imp h' hi⟩
theorem PoCells.at_ : ∀ {l : List Po} {cs : List Value} {k : Nat}, PoCells R l cs → k < l.length →
    cs[k * 2]? = some (.int .i64 (l.getD k (0, [])).1) ∧ ∃ A c, cs[k * 2 + 1]? = some (.slice A (l.getD k (0, [])).2.length c) ∧ (l.getD k (0, [])).2.length ≤ c ∧ c ≤ maxLen ∧ R A (ints (l.getD k (0, [])).2)
  | [], _, k, _, h => by simp at h
  | q :: r, cs, 0, h, _ => by
    obtain ⟨A, c, cs', rfl, h1, h2, h3, h'⟩ := h
    exact ⟨rfl, A, c, rfl, h1, h2, h3⟩
  | q :: r, cs, k + 1, h, hk => by
    obtain ⟨A, c, cs', rfl, h1, h2, h3, h'⟩ := h
    have := PoCells.at_ (k := k) h' (by simpa using hk)
    rw [show (k + 1) * 2 = k * 2 + 1 + 1 by omega, List.getD_cons_succ]
    simpa using this
theorem PoCells.snoc : ∀ {l : List Po} {cs : List Value} {A : Option Addr} {c : Nat} {d : Int} {ps : List Int}, PoCells R l cs → ps.length ≤ c → c ≤ maxLen → R A (ints ps) → PoCells R (l ++ [(d, ps)]) (cs ++ [.int .i64 d, .slice A ps.length c])
  | [], cs, A, c, d, ps, h, h1, h2, h3 => by
    simp only [PoCells] at h
    subst h
    exact ⟨A, c, [], rfl, h1, h2, h3, rfl⟩
  | q :: r, cs, A, c, d, ps, h, h1, h2, h3 => by
    obtain ⟨A', c', cs', rfl, g1, g2, g3, h'⟩ := h
    exact ⟨A', c', cs' ++ [.int .i64 d, .slice A ps.length c], rfl, g1, g2, g3, PoCells.snoc h' h1 h2 h3⟩
theorem PoCells.take : ∀ {l : List Po} {cs : List Value} (k : Nat), PoCells R l cs → PoCells R (l.take k) (cs.take (k * 2))
  | _, cs, 0, _ => by simp [PoCells]
  | [], cs, k + 1, h => by simp only [PoCells] at h; subst h; simp [PoCells]
  | q :: r, cs, k + 1, h => by
    obtain ⟨A, c, cs', rfl, h1, h2, h3, h'⟩ := h
    rw [List.take_succ_cons, show (k + 1) * 2 = k * 2 + 1 + 1 by omega, List.take_succ_cons, List.take_succ_cons]
    exact ⟨A, c, _, rfl, h1, h2, h3, PoCells.take k h'⟩
theorem PoCells.drop : ∀ {l : List Po} {cs : List Value} (k : Nat), PoCells R l cs → PoCells R (l.drop k) (cs.drop (k * 2))
  | l, cs, 0, h => by simpa using h
  | [], cs, k + 1, h => by simp only [PoCells] at h; subst h; simp [PoCells]
  | q :: r, cs, k + 1, h => by
    obtain ⟨A, c, cs', rfl, h1, h2, h3, h'⟩ := h
    rw [List.drop_succ_cons, show (k + 1) * 2 = k * 2 + 1 + 1 by omega, List.drop_succ_cons, List.drop_succ_cons]
    exact PoCells.drop k h'
end

/-- A list of postings lies behind the address A, all of it below block B. -/
def Posts (w : World) (B : Nat) (A : Option Addr) (l : List Po) : Prop := ∃ cs, PoCells (Row w B) l cs ∧ Row w B A cs
theorem Posts.nil {w : World} {B : Nat} {A : Option Addr} : Posts w B A [] := ⟨[], rfl, Row.nil⟩
theorem Posts.below {w w' : World} {B : Nat} {A : Option Addr} {l : List Po} (h : Posts w B A l) (hb : Below B w w') : Posts w' B A l := by
  obtain ⟨cs, h1, h2⟩ := h
  exact ⟨cs, h1.imp fun _ _ h => h.below hb, h2.below hb⟩
theorem Posts.more {w : World} {B B' : Nat} {A : Option Addr} {l : List Po} (h : Posts w B A l) (hB : B ≤ B') : Posts w B' A l := by
  obtain ⟨cs, h1, h2⟩ := h
  exact ⟨cs, h1.imp fun _ _ h => h.more hB, h2.more hB⟩
/-- .. in a later world, where nothing has turned. -/
theorem Posts.later {w w' : World} {A : Option Addr} {l : List Po} (h : Posts w w.heap.size A l) (hb : Below w.heap.size w w') : Posts w' w'.heap.size A l := (h.below hb).more hb.size
theorem Posts.cut {w : World} {B : Nat} {A : Option Addr} {l : List Po} (h : Posts w B A l) (k : Nat) : Posts w B A (l.take k) := by
  obtain ⟨cs, h1, h2⟩ := h
  exact ⟨_, h1.take k, h2.cut (k * 2)⟩
theorem Posts.at_ {w : World} {B : Nat} {A : Option Addr} {l : List Po} (h : Posts w B A l) {k : Nat} (hk : k < l.length) :
    ∃ b off, A = some ⟨b, off, none⟩ ∧ b < B ∧ w.cell? ⟨b, off + k * 2, none⟩ = some (.int .i64 (l.getD k (0, [])).1) ∧
      ∃ A' c', w.cell? ⟨b, off + k * 2 + 1, none⟩ = some (.slice A' (l.getD k (0, [])).2.length c') ∧ (l.getD k (0, [])).2.length ≤ c' ∧ c' ≤ maxLen ∧ Row w B A' (ints (l.getD k (0, [])).2) := by
  obtain ⟨cs, h1, h2⟩ := h
  obtain ⟨b, off, rfl, hb, hc⟩ := h2.at_ (by rw [h1.len]; omega)
  obtain ⟨g1, A', c', g2, g3, g4, g5⟩ := h1.at_ hk
  exact ⟨b, off, rfl, hb, hc _ _ g1, A', c', by have := hc _ _ g2; rwa [← Nat.add_assoc] at this, g3, g4, g5⟩
theorem Posts.drop {w : World} {B b off : Nat} {l : List Po} (h : Posts w B (some ⟨b, off, none⟩) l) (k : Nat) : Posts w B (some ⟨b, off + k * 2, none⟩) (l.drop k) := by
  obtain ⟨cs, h1, h2⟩ := h
  refine ⟨_, h1.drop k, ?_⟩
  rcases h2 with rfl | ⟨b', o', e, hb, hc⟩
  · exact .inl (by simp)
  · injection e with e
    injection e with e1 e2
    subst e1 e2
    refine .inr ⟨b, off + k * 2, rfl, hb, fun j u hu => ?_⟩
    have := hc (k * 2 + j) u (by rw [← hu]; simp)
    rwa [← Nat.add_assoc] at this

/-- A block that no list of the call's own lies in: it is below base, or holds ints. -/
def Safe (base : Nat) (w : World) (b : Nat) : Prop := b < w.heap.size ∧ (b < base ∨ ∃ cs fr, w.heap[b]? = some (.cells cs 3 fr))
def RowS (base : Nat) (w : World) (A : Option Addr) (xs : List Value) : Prop := xs = [] ∨ ∃ b off, A = some ⟨b, off, none⟩ ∧ Safe base w b ∧ ∀ j u, xs[j]? = some u → w.cell? ⟨b, off + j, none⟩ = some u
theorem RowS.row {base : Nat} {w : World} {A : Option Addr} {xs : List Value} (h : RowS base w A xs) : Row w w.heap.size A xs := by
  rcases h with rfl | ⟨b, off, rfl, hs, hc⟩
  · exact .inl rfl
  · exact .inr ⟨b, off, rfl, hs.1, hc⟩
theorem RowS.of_old {base : Nat} {w : World} {A : Option Addr} {xs : List Value} (h : Row w base A xs) (hb : base ≤ w.heap.size) : RowS base w A xs := by
  rcases h with rfl | ⟨b, off, rfl, hs, hc⟩
  · exact .inl rfl
  · exact .inr ⟨b, off, rfl, ⟨by omega, .inl hs⟩, hc⟩
theorem RowS.of_own {base base' : Nat} {w : World} {A : Option Addr} {n c : Nat} {xs : List Value} (h : w.ownsRow base' 3 1 (.slice A n c) n xs) : RowS base w A xs := by
  rcases h.2 with ⟨hv, hn⟩ | ⟨g, cap, cur, hv, hg, hh, hnc, hcp, hcs, htake⟩
  · refine .inl (List.eq_nil_of_length_eq_zero ?_)
    rw [h.1, hn]
  · injection hv with h1 h2 h3
    subst h1
    have hrow := owned_row_of h
    rcases hrow with rfl | ⟨b, off, e, hb, hc⟩
    · exact .inl rfl
    · injection e with e
      injection e with e1 e2
      subst e1 e2
      exact .inr ⟨g, 0, rfl, ⟨(Array.getElem?_eq_some_iff.1 hh).1, .inr ⟨_, _, hh⟩⟩, hc⟩
/-- It stays where a list of another kind, of the call's own, grows. -/
theorem RowS.grown {base : Nat} {w w' : World} {A : Option Addr} {xs ys : List Value} {E : TypeId} {size : Nat} {v : Value} {n : Nat} (h : RowS base w A xs) (hv : w.ownsRow base E size v n ys) (hE : E ≠ 3) (hg : w.grownBy w' v.ownBlock) : RowS base w' A xs := by
  rcases h with rfl | ⟨b, off, rfl, ⟨hs, hk⟩, hc⟩
  · exact .inl rfl
  · have hne : v.ownBlock ≠ some b := by
      rcases hk with hk | ⟨cs, fr, hk⟩
      · intro e
        have := (hv.lt b e).1
        omega
      · intro e
        rcases hv.2 with ⟨rfl, _⟩ | ⟨g, cap, cur, rfl, _, hh, _⟩
        · cases e
        · simp only [Value.ownBlock, Option.some.injEq] at e
          subst e
          rw [hh] at hk
          simp at hk
          exact hE hk.2.1
    have hblk : w'.heap[b]? = w.heap[b]? := hg.block b hs fun e => hne e.symm
    refine .inr ⟨b, off, rfl, ⟨Nat.lt_of_lt_of_le hs hg.size, hk.imp id fun ⟨cs, fr, h⟩ => ⟨cs, fr, hblk.trans h⟩⟩, fun j u hu => ?_⟩
    rw [World.cell?_of_block (a := ⟨b, off + j, none⟩) hblk]
    exact hc j u hu
theorem RowS.below {base : Nat} {w w' : World} {A : Option Addr} {xs : List Value} (h : RowS base w A xs) (hb : Below w.heap.size w w') : RowS base w' A xs := by
  rcases h with rfl | ⟨b, off, rfl, ⟨hs, hk⟩, hc⟩
  · exact .inl rfl
  · refine .inr ⟨b, off, rfl, ⟨Nat.lt_of_lt_of_le hs hb.size, hk.imp id fun ⟨cs, fr, h⟩ => ⟨cs, fr, (hb.block b hs).trans h⟩⟩, fun j u hu => ?_⟩
    rw [World.cell?_of_block (a := ⟨b, off + j, none⟩) (hb.block b hs)]
    exact hc j u hu

/-- A list of postings of the call's own: what it holds lies in blocks of their own. -/
def OwnPo (E : TypeId) (base : Nat) (w : World) (v : Value) (l : List Po) : Prop := ∃ cs, w.ownsRow base E 2 v l.length cs ∧ PoCells (RowS base w) l cs
section
variable {E : TypeId} {base : Nat} {w w' : World} {v v' : Value} {l : List Po}
theorem OwnPo.nil : OwnPo E base w (.slice none 0 0) [] := ⟨[], World.ownsRow_nil _ _ _ _, rfl⟩
theorem OwnPo.below (h : OwnPo E base w v l) (hb : Below w.heap.size w w') : OwnPo E base w' v l := by
  obtain ⟨cs, h1, h2⟩ := h
  exact ⟨cs, owned_below h1 hb, h2.imp fun _ _ h => h.below hb⟩
theorem OwnPo.posts (h : OwnPo E base w v l) : ∃ A c, v = .slice A l.length c ∧ l.length ≤ c ∧ Posts w w.heap.size A l := by
  obtain ⟨cs, h1, h2⟩ := h
  obtain ⟨A, c, rfl, hc, hr⟩ := owned_row h1
  exact ⟨A, c, rfl, hc, cs, h2.imp fun _ _ h => h.row, hr⟩
/-- One more behind them: the row has grown by two cells. -/
theorem OwnPo.push (hE : E ≠ 3) {cs : List Value} (h1 : w.ownsRow base E 2 v l.length cs) (h2 : PoCells (RowS base w) l cs) {A : Option Addr} {c : Nat} {d : Int} {ps : List Int} (hc : ps.length ≤ c) (hcx : c ≤ maxLen) (hr : RowS base w A (ints ps))
    (hown : w'.ownsRow base E 2 v' (l.length + 1) (cs ++ [.int .i64 d, .slice A ps.length c])) (hg : w.grownBy w' v.ownBlock) : OwnPo E base w' v' (l ++ [(d, ps)]) := by
  refine ⟨_, ?_, (h2.imp fun _ _ h => h.grown h1 hE hg).snoc hc hcx (hr.grown h1 hE hg)⟩
  rw [List.length_append, List.length_singleton]
  exact hown
end
end Go.Proofs.Ytnmnbckaccicaaa

/- What the document's own Good of layer 4 (of any many, up to 100) and of layer 5 answer. -/
namespace Go.Proofs.Ytnmnbckaccicaaa
open Go Go.RowKit
set_option linter.unusedVariables false

theorem info_posting : (Try.prog.info? 46).map (fun i => (i.zero, i.size, i.bytes)) = some (some (.agg #[.int .i64 0, .slice none 0 0]), 2, 32) := by kernel_rfl

/-- What a walk is told of a list of postings that came in. -/
def InPosts (w : World) (a : Option Addr) (len cap : Nat) (ps : List Po) : Prop :=
  len ≤ cap ∧ cap ≤ maxLen ∧ ps.length = len ∧ Posts w w.heap.size a ps ∧ ∀ p ∈ ps, (Lit.int .i64 p.1).wf = true ∧ ∀ x ∈ p.2, (Lit.int .i64 x).wf = true
theorem InPosts.below {w w' : World} {a : Option Addr} {len cap : Nat} {ps : List Po} (h : InPosts w a len cap ps) (hb : Below w.heap.size w w') : InPosts w' a len cap ps :=
  ⟨h.1, h.2.1, h.2.2.1, h.2.2.2.1.later hb, h.2.2.2.2⟩

def GoodMRel (all : List Int) (l : List Int) (w : World) (vo last i : Value) (wr : World) : Prop :=
  ∃ (acc : List Int) (x : Int) (k : Nat), k ≤ l.length ∧ i = .int .i64 (k : Int) ∧ last = .int .i64 x ∧ acc.length = k ∧ -1 ≤ x ∧ x ≤ 1000 * k ∧ acc ++ goodZ x (l.drop k) = all ∧ wr.ownsRow w.heap.size 3 1 vo k (ints acc) ∧ Below w.heap.size w wr

set_option maxHeartbeats 1000000 in
set_option maxRecDepth 100000 in
theorem ref04_GoodM (C : Option Addr) (n d : Nat) (l : List Int) (most : Nat) (w : World) (hn : l.length = n) (hnx : n ≤ maxLen) (hm100 : most ≤ 100) (hrl : Row w w.heap.size C (ints l)) (hwl : ∀ x ∈ l, (Lit.int .i64 x).wf = true) :
    Calls Try.prog 25 #[.slice C n d, .int .i64 (most : Int)] w fun e w' => ∃ v, e = .returned v ∧ w'.ownsRow w.heap.size 3 1 v (goodZ (-1) (l.take most)).length (ints (goodZ (-1) (l.take most))) ∧ Below w.heap.size w w' := by
  obtain ⟨i0, hi0, hz0, hz1, hz2⟩ := info_parts info_int
  subst hn
  unfold maxLen at hnx
  obtain ⟨L, hL⟩ : ∃ L, L = l.take most := ⟨_, rfl⟩
  have hLl : L.length = min most l.length := by rw [hL, List.length_take]
  have hget : ∀ k, k < L.length → l.getD k 0 = L.getD k 0 := fun k hk => by rw [hL, List.getD_eq_getElem?_getD, List.getD_eq_getElem?_getD, List.getElem?_take_of_lt (by omega)]
  obtain ⟨all, hall⟩ : ∃ all, all = goodZ (-1) L := ⟨_, rfl⟩
  rw [← hL, ← hall]
  have hal : all.length = L.length := by rw [hall, goodZ_length]
  have HGET := Lib.hid hget
  have HALL := Lib.hid hall
  have HAL := Lib.hid hal
  have HRL := Lib.hid hrl
  have HWL := Lib.hid hwl
  clear hall hrl hwl hL hget hal
  go_enter Try.func25, Try.ntmps25
  go_wp2
  go_loopw [5, 6, 7] (fun vo last i wr => GoodMRel all L w vo last i wr) (fun _ _ i _ => L.length - (intOf i).toNat)
  case atStart => exact ⟨[], -1, 0, by omega, rfl, rfl, rfl, by omega, by omega, by rw [HALL.out]; rfl, World.ownsRow_nil _ _ _ _, Below.refl _ _⟩
  case round =>
    obtain ⟨acc, x, k, hk, rfl, rfl, hacc, hx0, hx1, hcat, hown, hbw⟩ := hrel
    have hsz := hbw.size
    by_cases hlt : k < L.length
    · have d0 : k < l.length := by omega
      have d1 : decide ((k : Int) < (most : Int)) = true := decide_eq_true (by omega)
      have d1' : k < most := by omega
      obtain ⟨b1, o1, e1, _, hc1⟩ := row_int' (HRL.out.below hbw) d0
      subst e1
      have hbd := wf_bd (HWL.out (l.getD k 0) (by rw [List.getD_eq_getElem?_getD, List.getElem?_eq_getElem d0]; simp))
      rw [HGET.out k hlt] at hc1 hbd
      obtain ⟨g, hg, hneg, hpos⟩ := made_nat hbd
      rw [goodZ_drop hlt x hneg hpos] at hcat
      obtain ⟨y, hy⟩ : ∃ y, y = L.getD k 0 := ⟨_, rfl⟩
      rw [← hy] at hc1 hbd hneg hpos
      have HN := Lib.hid hneg
      have HP := Lib.hid hpos
      have HCAT := Lib.hid hcat
      have HOWN := Lib.hid hown
      have HA := Lib.hid hacc
      clear hneg hpos hcat hown hy hacc
      go_upto_if 25 with fail
      go_cut [8] from 24 to 28 (fun s wx => s = .int .i64 (g : Int) ∧ wr = wx)
      case first =>
        by_cases h0 : y < 0
        · have hng := HN.out h0
          go_wp2_with fail
          go_meet
          exact ⟨rfl, rfl⟩
        · have hng := HP.out h0
          subst hng
          go_wp2_with fail
          go_meet
          exact ⟨rfl, rfl⟩
      case rest =>
        obtain ⟨rfl, rfl⟩ := hcut
        clear hbd HN HP hc1
        have hm0 : 0 ≤ (g : Int) % 1000 := Int.emod_nonneg _ (by omega)
        have hm1 : (g : Int) % 1000 < 1000 := Int.emod_lt_of_pos _ (by omega)
        obtain ⟨q, hq⟩ : ∃ q, (g : Int) % 1000 = q := ⟨_, rfl⟩
        rw [hq] at HCAT hm0 hm1
        go_wp2_with (at_builtin; refine wpList_append_own _ rfl (.tmp 34) (.tmp 36) 23 rfl w.heap.size 3 i0 _ 1 8 Try.underlying23 hi0 hz0 hz1 hz2 rfl (by omega) _ k (ints acc) rfl (HOWN.out.alloc _) ⟨wr.heap.size, 0, none⟩ 1 1 [.int .i64 (x + 1 + q)] rfl rfl (news_at wr [.int .i64 (x + 1 + q)] 3) (by intro u hu; simp at hu; subst hu; rfl) (by unfold maxLen; omega) (by omega) (by simp; omega) ?_)
        intro v5 w5 hown5 hg5 _
        have hb5 : Below w.heap.size wr w5 := ((Below.refl _ wr).alloc (by omega) _).grown hg5 (by simp; omega) fun k hk => (HOWN.out.lt k hk).1
        have hfin : GoodMRel all L w v5 (.int .i64 (x + 1 + q)) (.int .i64 ((k : Int) + 1)) w5 :=
          ⟨acc ++ [x + 1 + q], x + 1 + q, k + 1, by omega, by simp, rfl, by simp [HA.out], by omega, by omega, by rw [List.append_assoc]; exact HCAT.out,
            by rw [show ints (acc ++ [x + 1 + q]) = ints acc ++ [.int .i64 (x + 1 + q)] by simp [ints]]; exact hown5, hbw.trans hb5⟩
        have HF := Lib.hid hfin
        clear hfin hb5 hg5 hown5
        go_wp2
        go_roundw
        case rel => exact HF.out
        case measure => simp [intOf]; omega
    · rw [goodZ_end (by omega), List.append_nil] at hcat
      have hown2 : wr.ownsRow w.heap.size 3 1 u5 all.length (ints all) := by rw [← hcat, hacc]; exact hown
      have HFIN : Hid (∃ v, Ending.returned u5 = Ending.returned v ∧ wr.ownsRow w.heap.size 3 1 v all.length (ints all) ∧ Below w.heap.size w wr) := Lib.hid ⟨_, rfl, hown2, hbw⟩
      have hsp : (k < l.length ∧ ¬ k < most) ∨ ¬ k < l.length := by omega
      clear hcat hown hown2 hbw hacc hlt hk
      rcases hsp with ⟨h1, h2⟩ | h1
      · have d1 : decide ((k : Int) < (most : Int)) = false := decide_eq_false (by omega)
        go_wp2
        go_ret
        exact HFIN.out
      · go_wp2
        go_ret
        exact HFIN.out

theorem goodP_drop {l : List Po} {k : Nat} (hk : k < l.length) (x : Int) {g : Nat} (hneg : (l.getD k (0, [])).1 < 0 → -((l.getD k (0, [])).1 + 1) = (g : Int)) (hpos : ¬ (l.getD k (0, [])).1 < 0 → (l.getD k (0, [])).1 = (g : Int)) :
    goodP x (l.drop k) = (x + 1 + (g : Int) % 50, if (goodZ (-1) ((l.getD k (0, [])).2.take 5)).isEmpty then [0] else goodZ (-1) ((l.getD k (0, [])).2.take 5)) :: goodP (x + 1 + (g : Int) % 50) (l.drop (k + 1)) := by
  have e : (if (l.getD k (0, [])).1 < 0 then -((l.getD k (0, [])).1 + 1) else (l.getD k (0, [])).1) = (g : Int) := by
    split
    · exact hneg (by assumption)
    · exact hpos (by assumption)
  have e2 : l[k] = l.getD k (0, []) := by rw [List.getD_eq_getElem?_getD, List.getElem?_eq_getElem hk]; rfl
  rw [List.drop_eq_getElem_cons hk, goodP, e2, e]
theorem goodP_end {l : List Po} {k : Nat} (hk : l.length ≤ k) (x : Int) : goodP x (l.drop k) = [] := by rw [List.drop_eq_nil_of_le hk]; rfl

/-- What a call gives that makes a list of postings. -/
def GavePo (l : List Po) (w : World) (e : Ending) (w' : World) : Prop := ∃ v, e = .returned v ∧ OwnPo 46 w.heap.size w' v l ∧ Below w.heap.size w w'

def GoodPRel (all : List Po) (l : List Po) (w : World) (vo last i : Value) (wr : World) : Prop :=
  ∃ (acc : List Po) (x : Int) (k : Nat), k ≤ l.length ∧ i = .int .i64 (k : Int) ∧ last = .int .i64 x ∧ acc.length = k ∧ -1 ≤ x ∧ x ≤ 50 * k ∧ acc ++ goodP x (l.drop k) = all ∧ OwnPo 46 w.heap.size wr vo acc ∧ Below w.heap.size w wr

set_option maxHeartbeats 2000000 in
set_option maxRecDepth 100000 in
theorem ref05_Good (A : Option Addr) (n d : Nat) (l : List Po) (most : Nat) (w : World) (hin : InPosts w A n d l) (hm100 : most ≤ 100) :
    Calls Try.prog 8 #[.slice A n d, .int .i64 (most : Int)] w (GavePo (goodP (-1) (l.take most)) w) := by
  obtain ⟨hnd, hdx, hn, hposts, hwf⟩ := hin
  obtain ⟨i0, hi0, hz0, hz1, hz2⟩ := info_parts info_posting
  subst hn
  unfold maxLen at hdx
  obtain ⟨L, hL⟩ : ∃ L, L = l.take most := ⟨_, rfl⟩
  have hLl : L.length = min most l.length := by rw [hL, List.length_take]
  have hget : ∀ k, k < L.length → l.getD k (0, []) = L.getD k (0, []) := fun k hk => by rw [hL, List.getD_eq_getElem?_getD, List.getD_eq_getElem?_getD, List.getElem?_take_of_lt (by omega)]
  obtain ⟨all, hall⟩ : ∃ all, all = goodP (-1) L := ⟨_, rfl⟩
  rw [← hL, ← hall]
  have HGET := Lib.hid hget
  have HALL := Lib.hid hall
  have HPO := Lib.hid hposts
  have HWF := Lib.hid hwf
  clear hall hposts hwf hL hget
  go_enter Try.func8, Try.ntmps8
  go_wp2
  go_loopw [5, 6, 7] (fun vo last i wr => GoodPRel all L w vo last i wr) (fun _ _ i _ => L.length - (intOf i).toNat)
  case atStart => exact ⟨[], -1, 0, by omega, rfl, rfl, rfl, by omega, by omega, by rw [HALL.out]; rfl, OwnPo.nil, Below.refl _ _⟩
  case round =>
    obtain ⟨acc, x, k, hk, rfl, rfl, hacc, hx0, hx1, hcat, hown, hbw⟩ := hrel
    have hsz := hbw.size
    by_cases hlt : k < L.length
    · have d0 : k < l.length := by omega
      have d1 : decide ((k : Int) < (most : Int)) = true := decide_eq_true (by omega)
      have d1' : k < most := by omega
      obtain ⟨b1, o1, e1, hb1, hc1, A2, c2, hc2, hlc, hcx, hr2⟩ := (HPO.out.below hbw).at_ d0
      subst e1
      obtain ⟨hwd, hwp⟩ := HWF.out (l.getD k (0, [])) (by rw [List.getD_eq_getElem?_getD, List.getElem?_eq_getElem d0]; simp)
      have hbd := wf_bd hwd
      rw [HGET.out k hlt] at hc1 hc2 hlc hr2 hbd hwp
      obtain ⟨g, hg, hneg, hpos⟩ := made_nat hbd
      rw [goodP_drop hlt x hneg hpos] at hcat
      obtain ⟨q, hq⟩ : ∃ q, q = L.getD k (0, []) := ⟨_, rfl⟩
      rw [← hq] at hc1 hc2 hlc hr2 hbd hwp hneg hpos hcat
      obtain ⟨y, ps⟩ := q
      simp only at hc1 hc2 hlc hr2 hbd hwp hneg hpos hcat
      obtain ⟨gz, hgz⟩ : ∃ gz, gz = goodZ (-1) (ps.take 5) := ⟨_, rfl⟩
      obtain ⟨fp, hfp⟩ : ∃ fp, fp = (if gz.isEmpty then [0] else gz) := ⟨_, rfl⟩
      rw [← hgz, ← hfp] at hcat
      have hgl : gz.length ≤ 5 := by rw [hgz, goodZ_length]; exact List.length_take_le _ _
      have gm := ref04_GoodM A2 ps.length c2 ps 5 wr rfl (by omega) (by omega) (hr2.more hsz) hwp
      rw [← hgz] at gm
      have GM := Lib.hid gm
      have HFP := Lib.hid hfp
      have HN := Lib.hid hneg
      have HP := Lib.hid hpos
      have HCAT := Lib.hid hcat
      have HOWN := Lib.hid hown
      have HA := Lib.hid hacc
      clear hneg hpos hcat hown hq hacc gm hgz hfp hwp hr2 hwd
      go_upto_if 27 with fail
      go_cut [8] from 26 to 30 (fun s wx => s = .int .i64 (g : Int) ∧ wr = wx)
      case first =>
        by_cases h0 : y < 0
        · have hng := HN.out h0
          go_wp2_with fail
          go_meet
          exact ⟨rfl, rfl⟩
        · have hng := HP.out h0
          subst hng
          go_wp2_with fail
          go_meet
          exact ⟨rfl, rfl⟩
      case rest =>
        obtain ⟨rfl, rfl⟩ := hcut
        clear hbd HN HP
        have hm0 : 0 ≤ (g : Int) % 50 := Int.emod_nonneg _ (by omega)
        have hm1 : (g : Int) % 50 < 50 := Int.emod_lt_of_pos _ (by omega)
        obtain ⟨q, hq⟩ : ∃ q, (g : Int) % 50 = q := ⟨_, rfl⟩
        rw [hq] at HCAT hm0 hm1
        go_wp2_with (go_at_call 25; refine GM.out.mono ?_)
        rintro e w3 ⟨v3, rfl, hown3, hb3⟩
        obtain ⟨A3, c3, rfl, hc3, hr3⟩ := owned_row hown3
        have hcx3 : c3 ≤ maxLen := by
          rcases hown3.2 with ⟨h, _⟩ | ⟨_, cap, _, h, _, _, _, h4, _⟩
          · injection h with _ _ h; omega
          · injection h with _ _ h; rw [h]; exact h4
        have HO3 := Lib.hid hown3
        have hs3 := hb3.size
        have HB3 := Lib.hid hb3
        have HOW3 := Lib.hid (HOWN.out.below hb3)
        clear hown3 hb3 hr3
        go_upto_if 44 with fail
        go_cut [9] from 42 to 45 (fun s wx => ∃ A4 c4, s = .slice A4 fp.length c4 ∧ fp.length ≤ c4 ∧ c4 ≤ maxLen ∧ RowS w.heap.size wx A4 (ints fp) ∧ Below wr.heap.size wr wx ∧ OwnPo 46 w.heap.size wx u5 acc)
        case first =>
          by_cases hz : gz = []
          · have hf : fp = [0] := by rw [HFP.out, hz]; rfl
            have hl0 : ((gz.length : Int) == 0) = true := by rw [hz]; rfl
            have HF := Lib.hid hf
            clear hf hz
            go_wp2_with fail
            go_meet
            rw [HF.out]
            refine ⟨_, _, rfl, by simp, by unfold maxLen; omega, .inr ⟨_, _, rfl, ⟨by simp, .inr ⟨_, _, heap_alloc_new _ _⟩⟩, fun j u hu => ?_⟩, HB3.out.alloc hs3 _, HOW3.out.below ((Below.refl _ _).alloc (Nat.le_refl _) _)⟩
            have := news_at w3 (ints [0]) 3 j u hu
            rwa [Addr.add_lit] at this
          · have hf : fp = gz := by rw [HFP.out, if_neg (by simpa using hz)]
            have hl0 : ((gz.length : Int) == 0) = false := by
              rw [beq_eq_false_iff_ne]
              have := List.length_pos_iff.2 hz
              omega
            have HF := Lib.hid hf
            clear hf hz
            go_wp2_with fail
            go_meet
            rw [HF.out]
            exact ⟨_, _, rfl, hc3, hcx3, RowS.of_own HO3.out, HB3.out, HOW3.out⟩
        case rest =>
          obtain ⟨A4, c4, rfl, hc4, hcx4, hr4, hb4, hown4⟩ := hcut
          obtain ⟨cs, hcs1, hcs2⟩ := hown4
          have hs4 := hb4.size
          have hb4' := hbw.trans (hb4.mono hsz)
          rw [HA.out] at hcs1
          obtain ⟨F, hF⟩ : ∃ F, F = fp.length := ⟨_, rfl⟩
          rw [← hF] at hc4
          rw [← hF]
          have HFL := Lib.hid hF
          have HC1 := Lib.hid hcs1
          have HC2 := Lib.hid hcs2
          have HR4 := Lib.hid hr4
          have HB4 := Lib.hid hb4'
          have hs4' := hb4'.size
          clear hF hcs1 hcs2 hr4 hb4 hb4' HFP GM HO3 HOW3 HB3
          go_wp2_with (at_builtin; refine wpList_append_own _ rfl (.tmp 46) (.tmp 50) 22 rfl w.heap.size 46 i0 _ 2 32 Try.underlying22 hi0 hz0 hz1 hz2 rfl (by omega) _ k cs rfl (HC1.out.alloc _) ⟨wc.heap.size, 0, none⟩ 1 1 [.int .i64 (x + 1 + q), .slice A4 F c4] rfl rfl (news_at wc [.int .i64 (x + 1 + q), .slice A4 F c4] 46) (by intro u hu; simp at hu; rcases hu with hu | hu <;> (subst hu; rfl)) (by unfold maxLen; omega) (by omega) (by simp; omega) ?_)
          intro v5 w5 hown5 hg5 _
          have hal := (Below.refl wc.heap.size wc).alloc (Nat.le_refl _) (.cells #[.int .i64 (x + 1 + q), .slice A4 F c4] 46)
          have hb5 : Below w.heap.size wc w5 := ((Below.refl _ wc).alloc hs4' _).grown hg5 (by simp; omega) fun k hk => (HC1.out.lt k hk).1
          have hpush : OwnPo 46 w.heap.size w5 v5 (acc ++ [(x + 1 + q, fp)]) :=
            OwnPo.push (c := c4) (A := A4) (cs := cs) (by decide) (by rw [HA.out]; exact HC1.out.alloc _) (HC2.out.imp fun _ _ h => h.below hal) (by rw [← HFL.out]; exact hc4) hcx4 (HR4.out.below hal) (by rw [HA.out, ← HFL.out]; exact hown5) hg5
          have hfin : GoodPRel all L w v5 (.int .i64 (x + 1 + q)) (.int .i64 ((k : Int) + 1)) w5 :=
            ⟨acc ++ [(x + 1 + q, fp)], x + 1 + q, k + 1, by omega, by simp, rfl, by simp [HA.out], by omega, by omega, by rw [List.append_assoc]; exact HCAT.out, hpush, HB4.out.trans hb5⟩
          have HF := Lib.hid hfin
          clear hfin hb5 hg5 hown5 hpush hal
          go_wp2
          go_roundw
          case rel => exact HF.out
          case measure => simp [intOf]; omega
    · rw [goodP_end (by omega), List.append_nil] at hcat
      have HFIN : Hid (∃ v, Ending.returned u5 = Ending.returned v ∧ OwnPo 46 w.heap.size wr v all ∧ Below w.heap.size w wr) := Lib.hid ⟨_, rfl, by rw [← hcat]; exact hown, hbw⟩
      have hsp : (k < l.length ∧ ¬ k < most) ∨ ¬ k < l.length := by omega
      clear hcat hown hbw hacc hlt hk
      rcases hsp with ⟨h1, h2⟩ | h1
      · have d1 : decide ((k : Int) < (most : Int)) = false := decide_eq_false (by omega)
        go_wp2
        go_ret
        exact HFIN.out
      · go_wp2
        go_ret
        exact HFIN.out
end Go.Proofs.Ytnmnbckaccicaaa

/- A list of postings in memory: a struct of its bytes, where its blocks end, how many postings and places there are; what its short calls answer. -/
set_option linter.unusedVariables false
namespace Go.Proofs.Ytnmnbckaccicaaa
open Go Go.RowKit

def endCells : List (Int × Nat) → List Value
  | [] => []
  | p :: r => .int .i64 p.1 :: .int .i64 (p.2 : Int) :: endCells r
theorem endCells_length : ∀ l : List (Int × Nat), (endCells l).length = l.length * 2
  | [] => rfl
  | p :: r => by simp only [endCells, List.length_cons, endCells_length r]; omega
theorem endCells_append : ∀ a b : List (Int × Nat), endCells (a ++ b) = endCells a ++ endCells b
  | [], b => rfl
  | p :: a, b => by simp only [List.cons_append, endCells, endCells_append a b]
theorem endCells_at : ∀ (l : List (Int × Nat)) (k : Nat) (p : Int × Nat), l[k]? = some p → (endCells l)[k * 2]? = some (.int .i64 p.1) ∧ (endCells l)[k * 2 + 1]? = some (.int .i64 (p.2 : Int))
  | [], k, p, h => by simp at h
  | q :: l, 0, p, h => by
    simp only [List.getElem?_cons_zero, Option.some.injEq] at h
    subst h
    exact ⟨rfl, rfl⟩
  | q :: l, k + 1, p, h => by
    rw [List.getElem?_cons_succ] at h
    have ih := endCells_at l k p h
    rw [endCells, show (k + 1) * 2 = k * 2 + 1 + 1 by omega]
    exact ih
theorem endCells_one : ∀ (l : List (Int × Nat)), ∀ u ∈ endCells l, u.oneCell' = true
  | [], u, h => by cases h
  | p :: l, u, h => by
    simp only [endCells, List.mem_cons] at h
    rcases h with rfl | rfl | h
    · rfl
    · rfl
    · exact endCells_one l u h
theorem info_end : (Try.prog.info? 64).map (fun i => (i.zero, i.size, i.bytes)) = some (some (.agg #[.int .i64 0, .int .i64 0]), 2, 16) := by kernel_rfl

/-- Where the blocks of a list end, in memory. -/
def endsV (l : List Po) : List Value := endCells (endsC l (blocksP l.length))
theorem endsV_length (l : List Po) : (endsV l).length = blocksP l.length * 2 := by rw [endsV, endCells_length, endsC_length]

/-- The struct lies at block B: the bytes bs, and all else of the postings l; its rows are its own, from base on. -/
def LAt (w : World) (base B : Nat) (bs : List UInt8) (l : List Po) : Prop :=
  base ≤ B ∧ ∃ vb ve, w.heap[B]? = some (.cells #[vb, ve, .int .i64 (l.length : Int), .int .i64 (totalP l : Int)] 58 (0, 0)) ∧
    w.ownsRow base 5 1 vb bs.length (Lib.byteCells bs) ∧ w.ownsRow base 64 2 ve (blocksP l.length) (endsV l)
theorem cell_four {w : World} {B : Nat} {a b c d : Value} {t : TypeId} (h : w.heap[B]? = some (.cells #[a, b, c, d] t (0, 0))) :
    (w.cell? ⟨B, 0, none⟩ = some a ∧ w.cell? ⟨B, 1, none⟩ = some b ∧ w.cell? ⟨B, 2, none⟩ = some c ∧ w.cell? ⟨B, 3, none⟩ = some d) ∧
    w.frozen? ⟨B, 0, none⟩ = false ∧ w.frozen? ⟨B, 1, none⟩ = false ∧ w.frozen? ⟨B, 2, none⟩ = false ∧ w.frozen? ⟨B, 3, none⟩ = false := by
  simp [World.cell?, World.frozen?, h]
section
variable {w w' : World} {base B : Nat} {bs : List UInt8} {l : List Po}
theorem LAt.lt (h : LAt w base B bs l) : B < w.heap.size := by
  obtain ⟨_, vb, ve, hv, _⟩ := h
  exact (Array.getElem?_eq_some_iff.1 hv).1
theorem LAt.below (h : LAt w base B bs l) (hb : Below w.heap.size w w') : LAt w' base B bs l := by
  have hl := h.lt
  obtain ⟨h1, vb, ve, hv, ho, he⟩ := h
  exact ⟨h1, vb, ve, (hb.block B hl).trans hv, owned_below ho hb, owned_below he hb⟩
/-- It stays where all cells stay. -/
theorem LAt.cellsKept (h : LAt w base B bs l) (hk : ∀ (k : Nat) (o : Obj), w.heap[k]? = some o → o.isCells = true → w'.heap[k]? = some o) : LAt w' base B bs l := by
  obtain ⟨h1, vb, ve, hv, ho, he⟩ := h
  have key : ∀ {E : TypeId} {size : Nat} {v : Value} {n : Nat} {xs : List Value}, w.ownsRow base E size v n xs → w'.ownsRow base E size v n xs := fun ho => by
    refine owned_keep ho fun g hg => ?_
    rcases ho.2 with ⟨rfl, _⟩ | ⟨g', cap, cur, rfl, _, hh, _⟩
    · cases hg
    · simp only [Value.ownBlock, Option.some.injEq] at hg
      subst hg
      rw [hk _ _ hh rfl, hh]
  exact ⟨h1, vb, ve, hk B _ hv rfl, key ho, key he⟩
/-- What a reader of it has. -/
theorem LAt.read (h : LAt w base B bs l) : ∃ Ab cb Ae ce, (w.cell? ⟨B, 0, none⟩ = some (.slice Ab bs.length cb) ∧ w.cell? ⟨B, 1, none⟩ = some (.slice Ae (blocksP l.length) ce) ∧ w.cell? ⟨B, 2, none⟩ = some (.int .i64 (l.length : Int)) ∧ w.cell? ⟨B, 3, none⟩ = some (.int .i64 (totalP l : Int))) ∧
    bs.length ≤ cb ∧ cb ≤ maxLen ∧ blocksP l.length ≤ ce ∧ Row w w.heap.size Ab (Lib.byteCells bs) ∧ Row w w.heap.size Ae (endsV l) ∧ (Ab = none → bs.length = 0 ∧ cb = 0) := by
  obtain ⟨_, vb, ve, hv, ho, he⟩ := h
  have hx := (cell_four hv).1
  obtain ⟨Ae, ce, rfl, hce, hre⟩ := owned_row he
  rcases ho.2 with ⟨rfl, h0⟩ | ⟨g, c, cur, rfl, _, _, hnc, hcm, _, _⟩
  · exact ⟨none, 0, Ae, ce, by rw [h0]; exact hx, by omega, by unfold maxLen; omega, hce, by rw [List.eq_nil_of_length_eq_zero h0]; exact Row.nil, hre, fun _ => ⟨h0, rfl⟩⟩
  · exact ⟨_, c, Ae, ce, hx, hnc, hcm, hce, owned_row_of ho, hre, fun e => by cases e⟩
end
/-- A list lies in the first four cells of block B, whatever stands behind them. -/
def LIn (w : World) (B : Nat) (bs : List UInt8) (l : List Po) : Prop :=
  B < w.heap.size ∧ ∃ Ab cb Ae ce, (w.cell? ⟨B, 0, none⟩ = some (.slice Ab bs.length cb) ∧ w.cell? ⟨B, 1, none⟩ = some (.slice Ae (blocksP l.length) ce) ∧ w.cell? ⟨B, 2, none⟩ = some (.int .i64 (l.length : Int)) ∧ w.cell? ⟨B, 3, none⟩ = some (.int .i64 (totalP l : Int))) ∧
    bs.length ≤ cb ∧ cb ≤ maxLen ∧ blocksP l.length ≤ ce ∧ Row w w.heap.size Ab (Lib.byteCells bs) ∧ Row w w.heap.size Ae (endsV l)
theorem LAt.in_ {w : World} {base B : Nat} {bs : List UInt8} {l : List Po} (h : LAt w base B bs l) : LIn w B bs l := by
  obtain ⟨Ab, cb, Ae, ce, h1, h2, h3, h4, h5, h6, _⟩ := h.read
  exact ⟨h.lt, Ab, cb, Ae, ce, h1, h2, h3, h4, h5, h6⟩
theorem LIn.below {w w' : World} {B : Nat} {bs : List UInt8} {l : List Po} (h : LIn w B bs l) (hb : Below w.heap.size w w') : LIn w' B bs l := by
  obtain ⟨hl, Ab, cb, Ae, ce, ⟨c0, c1, c2, c3⟩, h2, h3, h4, h5, h6⟩ := h
  have hs := hb.size
  refine ⟨by omega, Ab, cb, Ae, ce, ⟨(hb.cell (p := ⟨B, 0, none⟩) hl).trans c0, (hb.cell (p := ⟨B, 1, none⟩) hl).trans c1, (hb.cell (p := ⟨B, 2, none⟩) hl).trans c2, (hb.cell (p := ⟨B, 3, none⟩) hl).trans c3⟩, h2, h3, h4, (h5.below hb).more hs, (h6.below hb).more hs⟩
/-- Where block k ends, in memory. -/
theorem row_end {w : World} {D : Nat} {A : Option Addr} {l : List Po} (h : Row w D A (endsV l)) {k : Nat} (hk : k < blocksP l.length) :
    ∃ b off, A = some ⟨b, off, none⟩ ∧ b < D ∧ w.cell? ⟨b, off + k * 2, none⟩ = some (.int .i64 (docOf (-1) (l.take (8 * (k + 1))))) ∧ w.cell? ⟨b, off + k * 2 + 1, none⟩ = some (.int .i64 ((bytesP (-1) (l.take (8 * (k + 1)))).length : Int)) := by
  obtain ⟨b, off, rfl, hb, hc⟩ := h.at_ (by rw [endsV_length]; omega)
  have h2 := endCells_at _ _ _ (endsC_at l (blocksP l.length) k hk)
  exact ⟨b, off, rfl, hb, hc _ _ h2.1, by rw [Nat.add_assoc]; exact hc _ _ h2.2⟩

/-! ## The short calls -/

section
variable (B : Nat) (bs : List UInt8) (l : List Po) (w : World) (h : LIn w B bs l)
include h
theorem in_Blocks : Calls Try.prog 43 #[.pointer (some ⟨B, 0, none⟩)] w fun e w' => e = .returned (.int .i64 (blocksP l.length : Int)) ∧ w = w' := by
  obtain ⟨_, Ab, cb, Ae, ce, ⟨c0, c1, c2, c3⟩, _⟩ := h
  go_enter Try.func43, Try.ntmps43
  go_wp2
  go_ret
  exact ⟨rfl, rfl⟩
/-- Where what stands ahead of block k ends. -/
theorem in_ahead (k : Nat) (hk : k ≤ blocksP l.length) (hl : l.length ≤ 1073741824) : Calls Try.prog 42 #[.pointer (some ⟨B, 0, none⟩), .int .i64 (k : Int)] w fun e w' =>
    e = .returned (.agg #[.int .i64 (docOf (-1) (l.take (8 * k))), .int .i64 ((bytesP (-1) (l.take (8 * k))).length : Int)]) ∧ Below w.heap.size w w' := by
  have hlt := h.1
  obtain ⟨_, Ab, cb, Ae, ce, ⟨c0, c1, c2, c3⟩, _, _, hce, _, hre⟩ := h
  have hbl : blocksP l.length ≤ 1073741824 := by unfold blocksP; omega
  clear c0 c2 c3
  rcases Nat.eq_zero_or_pos k with rfl | hpos
  · go_enter Try.func42, Try.ntmps42
    go_wp2
    refine bodyPost_ret (results_cell_row (P := Try.prog) rfl _ _ w.heap.size 64 _ (0, 0) _ rfl (by first | rfl | exact heap_alloc_new _ _) Try.underlying64 rfl (by kernel_rfl)) rfl ?_
    exact ⟨rfl, by repeat (first | exact (Below.refl _ _).alloc (Nat.le_refl _) _ | refine Below.setCell ?_ (by simp) _)⟩
  · obtain ⟨j, rfl⟩ : ∃ j, k = j + 1 := ⟨k - 1, by omega⟩
    obtain ⟨b, o, rfl, hb, e0, e1⟩ := row_end hre (k := j) (by omega)
    obtain ⟨n, hn⟩ : ∃ n, n = blocksP l.length := ⟨_, rfl⟩
    rw [← hn] at c1 hk hce hbl
    obtain ⟨x, hx⟩ : ∃ x, x = docOf (-1) (l.take (8 * (j + 1))) := ⟨_, rfl⟩
    obtain ⟨y, hy⟩ : ∃ y, y = (bytesP (-1) (l.take (8 * (j + 1)))).length := ⟨_, rfl⟩
    rw [← hx] at e0 ⊢
    rw [← hy] at e1 ⊢
    have hj : ((j + 1 : Nat) : Int) = (j : Int) + 1 := by omega
    have hz : ((j : Int) + 1 == 0) = false := by rw [beq_eq_false_iff_ne]; omega
    rw [hj]
    have hjn : j < n := by omega
    clear hn hx hy hre hj hk hpos
    go_enter Try.func42, Try.ntmps42
    go_wp2
    refine bodyPost_ret (results_cell_row (P := Try.prog) rfl _ _ w.heap.size 64 _ (0, 0) _ rfl (by first | rfl | exact heap_alloc_new _ _) Try.underlying64 rfl (by kernel_rfl)) rfl ?_
    exact ⟨rfl, by repeat (first | exact (Below.refl _ _).alloc (Nat.le_refl _) _ | refine Below.setCell ?_ (by simp) _)⟩
end
section
variable (base B : Nat) (bs : List UInt8) (l : List Po) (w : World) (h : LAt w base B bs l)
include h
theorem list_Blocks : Calls Try.prog 43 #[.pointer (some ⟨B, 0, none⟩)] w fun e w' => e = .returned (.int .i64 (blocksP l.length : Int)) ∧ w = w' := in_Blocks B bs l w h.in_
/-- Where what stands ahead of block k ends. -/
theorem list_ahead (k : Nat) (hk : k ≤ blocksP l.length) (hl : l.length ≤ 1073741824) : Calls Try.prog 42 #[.pointer (some ⟨B, 0, none⟩), .int .i64 (k : Int)] w fun e w' =>
    e = .returned (.agg #[.int .i64 (docOf (-1) (l.take (8 * k))), .int .i64 ((bytesP (-1) (l.take (8 * k))).length : Int)]) ∧ Below w.heap.size w w' := in_ahead B bs l w h.in_ k hk hl
end
end Go.Proofs.Ytnmnbckaccicaaa

/- Small facts on postings, their bytes and their memory, which several texts want. -/
set_option linter.unusedVariables false
namespace Go.Proofs.Ytnmnbckaccicaaa
open Go Go.RowKit

/-- Bytes behind bytes of the call's own. -/
theorem own_more {base : Nat} {w' : World} {v' : Value} {a b : List UInt8} {m : Nat} (hm : b.length = m) (hown : w'.ownsRow base 5 1 v' (a.length + m) (Lib.byteCells a ++ Lib.byteCells b)) : Own base w' v' (a ++ b) := by
  unfold Own
  rw [Lib.byteCells_append, List.length_append, hm]
  exact hown

theorem drop_po {l : List Po} {k : Nat} (hk : k < l.length) : l.drop k = l.getD k (0, []) :: l.drop (k + 1) := by
  rw [List.drop_eq_getElem_cons hk, List.getD_eq_getElem?_getD, List.getElem?_eq_getElem hk]
  rfl

theorem quiet_below {w : World} {n : Nat} (B : Nat) : Below B w (w.drewN n) := ⟨rfl, rfl, rfl, Nat.le_refl _, fun _ _ => rfl⟩

/-- These are so many postings, which may be, and these are their bytes. -/
def Fits (many : Int) (b : List UInt8) (l : List Po) : Prop := mayB' (-1) l = true ∧ (l.length : Int) = many ∧ bytesP (-1) l = b

theorem docOf_getD : ∀ {l : List Po} {x : Int}, 0 < l.length → docOf x l = (l.getD (l.length - 1) (0, [])).1
  | [], _, h => by simp at h
  | [p], x, _ => rfl
  | p :: q :: r, x, _ => by
    have ih := docOf_getD (l := q :: r) (x := p.1) (by simp)
    rw [docOf, ih]
    simp

/-- Every place takes a byte at the least. -/
theorem bytes_places : ∀ (l : List Po) (last : Int) (p : Po), p ∈ l → p.2.length ≤ (bytesP last l).length
  | [], _, p, h => by cases h
  | q :: r, last, p, h => by
    have hd : ∀ (ps : List Int) (x : Int), ps.length ≤ (dB x ps).length := by
      intro ps
      induction ps with
      | nil => simp
      | cons a t ih =>
        intro x
        have := ih a
        have := putB_pos (a - (x + 1)).toNat
        rw [dB, List.length_append, List.length_cons]
        omega
    rw [bytesP, List.length_append, List.length_append]
    rcases List.mem_cons.1 h with rfl | h
    · have := hd p.2 (-1)
      rw [putR, List.length_append]
      omega
    · have := bytes_places r q.1 p h
      omega

theorem risZ_split (l : List UInt8) (a : Int) : (∃ e : Int, risZ l a = ([], 0, e) ∧ e ≠ 0) ∨ ∃ (ps : List Int) (q : Nat), risZ l a = (ps, (q : Int), 0) ∧ q ≤ l.length ∧ ps.length ≤ l.length := by
  have hlen := risZ_length l a
  rcases getZ_split l a with ⟨e, hz, he⟩ | ⟨n, b, hz, hb, _⟩
  · exact .inl ⟨e, risZ_err hz (by omega), by omega⟩
  · rw [risZ_ok hz] at hlen ⊢
    rcases h : takeR l n (-1) b [] with _ | ⟨xs, q⟩
    · exact .inl ⟨2, rfl, by omega⟩
    · rw [h] at hlen
      have := takeR_length n l _ _ _ xs q h hb
      exact .inr ⟨xs, q, rfl, this.2, hlen⟩

theorem totalP_le : ∀ {l : List Po} {n : Nat}, (∀ p ∈ l, p.2.length ≤ n) → totalP l ≤ l.length * n
  | [], _, _ => by simp [totalP]
  | p :: r, n, h => by
    have h1 := h p (by simp)
    have h2 := totalP_le (l := r) fun q hq => h q (by simp [hq])
    rw [totalP, List.length_cons, Nat.add_mul, Nat.one_mul]
    omega

theorem totalP_take {l : List Po} {k : Nat} (hk : k < l.length) : totalP (l.take (k + 1)) = totalP (l.take k) + (l.getD k (0, [])).2.length := by
  have e : ∀ (a b : List Po), totalP (a ++ b) = totalP a + totalP b := by
    intro a
    induction a with
    | nil => intro b; simp [totalP]
    | cons p r ih => intro b; simp [totalP, ih, Nat.add_assoc]
  rw [List.take_succ_eq_append_getElem hk, e, List.getD_eq_getElem?_getD, List.getElem?_eq_getElem hk]
  simp [totalP]

theorem totalP_le_take {l : List Po} (k : Nat) : totalP (l.take k) ≤ totalP l := by
  have e : ∀ (a b : List Po), totalP (a ++ b) = totalP a + totalP b := by
    intro a
    induction a with
    | nil => intro b; simp [totalP]
    | cons p r ih => intro b; simp [totalP, ih, Nat.add_assoc]
  have h := e (l.take k) (l.drop k)
  rw [List.take_append_drop] at h
  omega

theorem fits_same {a b : Int} {bs : List UInt8} {l g : List Po} (hb : bs.length ≤ 1000000) (h : Fits a bs l) (h2 : Fits b bs g) : l = g := by
  obtain ⟨h1, _, h3⟩ := h
  obtain ⟨g1, _, g3⟩ := h2
  refine bytesP_inj h1 g1 (fun p hp => ?_) (fun p hp => ?_) (h3.trans g3.symm)
  · have := bytes_places l (-1) p hp
    rw [h3] at this
    omega
  · have := bytes_places g (-1) p hp
    rw [g3] at this
    omega

theorem OwnPo.room {E : TypeId} {base : Nat} {w : World} {v : Value} {l : List Po} (h : OwnPo E base w v l) : ∃ A c, v = .slice A l.length c ∧ l.length ≤ c ∧ c ≤ maxLen ∧ Posts w w.heap.size A l := by
  obtain ⟨A, c, rfl, h1, h2⟩ := h.posts
  refine ⟨A, c, rfl, h1, ?_, h2⟩
  obtain ⟨cs, h3, _⟩ := h
  rcases h3.2 with ⟨h4, _⟩ | ⟨g, cap, cur, h4, _, _, _, h5, _⟩
  · injection h4 with _ _ h4; omega
  · injection h4 with _ _ h4; rw [h4]; exact h5

/-- What is known of postings that are made such as may be. -/
theorem good40 (z : List Po) (most : Nat) (hm : most ≤ 100) : (goodP (-1) (z.take most)).length ≤ most ∧ mayB' (-1) (goodP (-1) (z.take most)) = true ∧ (∀ q ∈ goodP (-1) (z.take most), q.2.length ≤ 5 ∧ 0 < q.2.length) ∧ (bytesP (-1) (goodP (-1) (z.take most))).length ≤ 10000 := by
  have h1 : (goodP (-1) (z.take most)).length ≤ most := by rw [goodP_length]; exact List.length_take_le _ _
  have hl := List.length_take_le most z
  obtain ⟨h2, h3⟩ := goodP_may (z.take most) (-1) (by omega) (by omega)
  have h4 := bytesP_length _ (-1) (by omega) h2 (fun p hp => by have := (h3 p hp).1; omega)
  have h5 := totalP_le (n := 5) fun p hp => (h3 p hp).1
  refine ⟨h1, h2, h3, ?_⟩
  omega
end Go.Proofs.Ytnmnbckaccicaaa

/- A list of postings that a call has made: its row is its own, its places lie in rows of ints. -/
set_option linter.unusedVariables false
namespace Go.Proofs.Ytnmnbckaccicaaa
open Go Go.RowKit

/-- Ints in a row of their own, from base on. -/
def RowL (base : Nat) (w : World) (A : Option Addr) (xs : List Value) : Prop := RowS 0 w A xs ∧ (xs = [] ∨ ∃ b off, A = some ⟨b, off, none⟩ ∧ base ≤ b)
theorem RowL.of_own {base base' : Nat} {w : World} {A : Option Addr} {n c : Nat} {xs : List Value} (h : w.ownsRow base' 3 1 (.slice A n c) n xs) (hb : base ≤ base') : RowL base w A xs := by
  refine ⟨RowS.of_own h, ?_⟩
  rcases h.2 with ⟨hv, hn⟩ | ⟨g, cap, cur, hv, hg, _⟩
  · exact .inl (List.eq_nil_of_length_eq_zero (by rw [h.1, hn]))
  · injection hv with h1 h2 h3
    exact .inr ⟨g, 0, h1, by omega⟩
/-- A list of postings in a row of the call's own; their places lie in rows of ints. -/
def NewPo (base : Nat) (w : World) (v : Value) (l : List Po) : Prop := ∃ cs, w.ownsRow base 46 2 v l.length cs ∧ PoCells (RowL base w) l cs
section
variable {base : Nat} {w w' : World} {v v' : Value} {l : List Po}
theorem NewPo.nil : NewPo base w (.slice none 0 0) [] := ⟨[], World.ownsRow_nil _ _ _ _, rfl⟩
theorem NewPo.below (h : NewPo base w v l) (hb : Below w.heap.size w w') : NewPo base w' v l := by
  obtain ⟨cs, h1, h2⟩ := h
  exact ⟨cs, owned_below h1 hb, h2.imp fun _ _ h => ⟨h.1.below hb, h.2⟩⟩
theorem RowS.any {A : Option Addr} {xs : List Value} (h : RowS 0 w A xs) : RowS base w A xs := by
  rcases h with h | ⟨b, off, e, ⟨h1, h2⟩, hc⟩
  · exact .inl h
  · exact .inr ⟨b, off, e, ⟨h1, .inr (h2.resolve_left (Nat.not_lt_zero _))⟩, hc⟩
theorem NewPo.room (h : NewPo base w v l) : ∃ A c, v = .slice A l.length c ∧ l.length ≤ c ∧ c ≤ maxLen ∧ Posts w w.heap.size A l := by
  obtain ⟨cs, h1, h2⟩ := h
  obtain ⟨A, c, rfl, hc, hr⟩ := owned_row h1
  refine ⟨A, c, rfl, hc, ?_, cs, h2.imp fun _ _ h => h.1.row, hr⟩
  rcases h1.2 with ⟨h4, _⟩ | ⟨g, cap, cur, h4, _, _, _, h5, _⟩
  · injection h4 with _ _ h4; omega
  · injection h4 with _ _ h4; rw [h4]; exact h5
theorem NewPo.push {cs : List Value} (h1 : w.ownsRow base 46 2 v l.length cs) (h2 : PoCells (RowL base w) l cs) {A : Option Addr} {c : Nat} {d : Int} {ps : List Int} (hc : ps.length ≤ c) (hcx : c ≤ maxLen) (hr : RowL base w A (ints ps))
    (hown : w'.ownsRow base 46 2 v' (l.length + 1) (cs ++ [.int .i64 d, .slice A ps.length c])) (hg : w.grownBy w' v.ownBlock) : NewPo base w' v' (l ++ [(d, ps)]) := by
  have h0 := owned_low h1 (Nat.zero_le base)
  refine ⟨_, ?_, (h2.imp fun _ _ h => ⟨h.1.grown h0 (by decide) hg, h.2⟩).snoc hc hcx ⟨hr.1.grown h0 (by decide) hg, hr.2⟩⟩
  rw [List.length_append, List.length_singleton]
  exact hown
end

theorem NewPo.low {base base' : Nat} {w : World} {v : Value} {l : List Po} (h : NewPo base w v l) (hb : base' ≤ base) : NewPo base' w v l := by
  obtain ⟨cs, h1, h2⟩ := h
  exact ⟨cs, owned_low h1 hb, h2.imp fun _ _ h => ⟨h.1, h.2.imp id fun ⟨b, off, e, hl⟩ => ⟨b, off, e, by omega⟩⟩⟩

/-- What a call gives that makes a list of postings, its places in rows of ints. -/
def GaveNew (l : List Po) (w : World) (e : Ending) (w' : World) : Prop := ∃ v, e = .returned v ∧ NewPo w.heap.size w' v l ∧ Below w.heap.size w w'
end Go.Proofs.Ytnmnbckaccicaaa

/- What more of package posting's short calls answer: where all blocks end, a block's last document, which places and postings may be. -/
set_option linter.unusedVariables false
namespace Go.Proofs.Ytnmnbckaccicaaa
open Go Go.RowKit

theorem set_two {w : World} {B : Nat} {a b x y : Value} {t : TypeId} (h : w.heap[B]? = some (.cells #[a, b] t (0, 0))) : ((w.setCell ⟨B, 0, none⟩ x).setCell ⟨B, 1, none⟩ y).heap[B]? = some (.cells #[x, y] t (0, 0)) :=
  heap_setCell_same _ B 1 #[x, b] t y (heap_setCell_same w B 0 #[a, b] t x h)
theorem cells_two {w : World} {B : Nat} {x y : Value} {t : TypeId} (h : w.heap[B]? = some (.cells #[x, y] t (0, 0))) : w.cell? ⟨B, 0, none⟩ = some x ∧ w.cell? ⟨B, 1, none⟩ = some y ∧ w.frozen? ⟨B, 0, none⟩ = false ∧ w.frozen? ⟨B, 1, none⟩ = false := by
  simp [World.cell?, World.frozen?, h]
theorem take_blocks (l : List Po) : l.take (8 * blocksP l.length) = l := List.take_of_length_le (by unfold blocksP; omega)

/-- Where all blocks end. -/
theorem list_last (base B : Nat) (bs : List UInt8) (l : List Po) (w : World) (h : LAt w base B bs l) (hl : l.length ≤ 1073741824) :
    Calls Try.prog 29 #[.pointer (some ⟨B, 0, none⟩)] w fun e w' => e = .returned (.agg #[.int .i64 (docOf (-1) l), .int .i64 ((bytesP (-1) l).length : Int)]) ∧ Below w.heap.size w w' := by
  have hal := (Below.refl w.heap.size w).alloc (Nat.le_refl _) (.cells #[.int .i64 0, .int .i64 0] 64)
  have h1 := h.below hal
  have hb := list_Blocks base B bs l _ h1
  have ha := list_ahead base B bs l _ h1 (blocksP l.length) (Nat.le_refl _) hl
  rw [take_blocks] at ha
  have HAL := Lib.hid hal
  have HB := Lib.hid hb
  have HA := Lib.hid ha
  obtain ⟨n, hn⟩ : ∃ n, n = blocksP l.length := ⟨_, rfl⟩
  rw [← hn] at HA HB
  obtain ⟨x, hx⟩ : ∃ x, x = docOf (-1) l := ⟨_, rfl⟩
  obtain ⟨y, hy⟩ : ∃ y, y = (bytesP (-1) l).length := ⟨_, rfl⟩
  rw [← hx, ← hy] at HA ⊢
  clear h h1 hal hb ha hn hx hy
  go_enter Try.func29, Try.ntmps29
  go_wp2_with (first
    | (go_at_call 43; refine HB.out.mono ?_; rintro e w' ⟨rfl, rfl⟩)
    | (go_at_call 42; refine HA.out.mono ?_))
  rintro e w3 ⟨rfl, hb3⟩
  have hres : w3.heap[w.heap.size]? = some (.cells #[.int .i64 0, .int .i64 0] 64 (0, 0)) := (hb3.block w.heap.size (by simp)).trans (heap_alloc_new w _)
  obtain ⟨c0, c1, f0, f1⟩ := cells_two hres
  have hb4 := HAL.out.trans (hb3.mono (by simp))
  have HR := Lib.hid hres
  have HB4 := Lib.hid hb4
  clear hres hb4 hb3
  go_wp2
  refine bodyPost_ret (results_cell_row (P := Try.prog) rfl _ _ w.heap.size 64 _ (0, 0) _ rfl (set_two HR.out) Try.underlying64 rfl (by kernel_rfl)) rfl ?_
  exact ⟨rfl, (HB4.out.setCell (Nat.le_refl _) _).setCell (Nat.le_refl _) _⟩

def PlacesRel (l : List Int) (r last i : Value) : Prop := r = .bool false ∧ ∃ (k : Nat) (x : Int), k ≤ l.length ∧ i = .int .i64 (k : Int) ∧ last = .int .i64 x ∧ placesOn x (l.drop k) = placesOn (-1) l

set_option maxHeartbeats 1000000 in
set_option maxRecDepth 100000 in
theorem may_places (A : Option Addr) (m c : Nat) (l : List Int) (w : World) (hr : Row w w.heap.size A (ints l)) (hm : l.length = m) (hl : m ≤ 1073741824) :
    Calls Try.prog 38 #[.slice A m c] w fun e w' => e = .returned (.bool (placesB l)) ∧ w = w' := by
  have HR := Lib.hid hr
  clear hr
  subst hm
  rw [placesB_on]
  obtain ⟨ans, hans⟩ : ∃ ans, ans = placesOn (-1) l := ⟨_, rfl⟩
  rw [← hans]
  have HA := Lib.hid hans
  clear hans
  go_enter Try.func38, Try.ntmps38
  go_wp2
  go_loop [2, 3, 8] (fun r last i => PlacesRel l r last i) (fun _ _ i => l.length - (intOf i).toNat)
  case atStart => exact ⟨rfl, 0, -1, by omega, rfl, rfl, rfl⟩
  case round =>
    obtain ⟨rfl, k, x, hk, rfl, rfl, hx⟩ := hrel
    by_cases hlt : k < l.length
    · obtain ⟨b1, o1, e1, _, hc1⟩ := row_int' HR.out hlt
      subst e1
      rw [placesOn_cut hlt] at hx
      obtain ⟨y, hy⟩ : ∃ y, y = l.getD k 0 := ⟨_, rfl⟩
      rw [← hy] at hc1 hx
      clear hy
      by_cases hxy : y ≤ x
      · rw [decide_eq_false (by omega), Bool.false_and, Bool.false_and, ← HA.out] at hx
        subst hx
        have hd : decide (y ≤ x) = true := decide_eq_true hxy
        go_wp2
        go_ret
        exact ⟨rfl, rfl⟩
      · have hd : decide (y ≤ x) = false := decide_eq_false hxy
        by_cases hyb : 2147483648 ≤ y
        · rw [decide_eq_false (p := y < 2147483648) (by omega), Bool.and_false, Bool.false_and, ← HA.out] at hx
          subst hx
          have hd2 : decide (2147483648 ≤ y) = true := decide_eq_true hyb
          go_wp2
          go_ret
          exact ⟨rfl, rfl⟩
        · rw [decide_eq_true (p := x < y) (by omega), decide_eq_true (p := y < 2147483648) (by omega), Bool.true_and, Bool.true_and] at hx
          have hd2 : decide (2147483648 ≤ y) = false := decide_eq_false hyb
          have HX := Lib.hid hx
          clear hx
          go_wp2
          go_round
          case rel => exact ⟨rfl, k + 1, y, by omega, by go_num, rfl, HX.out⟩
          case measure => simp [intOf]; omega
    · have hx2 : placesOn x (l.drop k) = true := by rw [List.drop_eq_nil_of_le (by omega)]; rfl
      rw [hx2, ← HA.out] at hx
      subst hx
      clear hx2
      go_wp2
      go_ret
      exact ⟨rfl, rfl⟩
end Go.Proofs.Ytnmnbckaccicaaa

/- What package posting's get answers: so many postings that stand at a place, or that there are none. -/
set_option linter.unusedVariables false
namespace Go.Proofs.Ytnmnbckaccicaaa
open Go Go.RowKit

/-- What a call gives that takes so many postings from a place, behind a document. -/
def GaveGet (b : List UInt8) (x : Int) (a many : Nat) (w : World) (e : Ending) (w' : World) : Prop :=
  Below w.heap.size w w' ∧
    ((∃ g v, g.length = many ∧ Stands b x a g ∧ (∀ g', g'.length = many → Stands b x a g' → g' = g) ∧ (∀ p ∈ g, p.2.length ≤ b.length) ∧ e = .returned (.tuple #[v, .int .i64 ((a + (bytesP x g).length : Nat) : Int), .bool true]) ∧ NewPo w.heap.size w' v g) ∨
     ((∀ g', g'.length = many → ¬ Stands b x a g') ∧ e = .returned (.tuple #[.slice none 0 0, .int .i64 0, .bool false])))

def GetPRel (b : List UInt8) (x0 : Int) (a0 many : Nat) (w : World) (r6 r7 r8 vo last at_ i : Value) (wr : World) : Prop :=
  r6 = .slice none 0 0 ∧ r7 = .int .i64 0 ∧ r8 = .bool false ∧ ∃ (acc : List Po) (k a : Nat) (x : Int), k ≤ many ∧ i = .int .i64 (k : Int) ∧ acc.length = k ∧ last = .int .i64 x ∧ at_ = .int .i64 (a : Int) ∧ x = docOf x0 acc ∧ a = a0 + (bytesP x0 acc).length ∧ a ≤ b.length ∧
    Stands b x0 a0 acc ∧ -1 ≤ x ∧ x < 2147483648 ∧ (∀ g, g.length = many → Stands b x0 a0 g → acc = g.take k) ∧ (∀ p ∈ acc, p.2.length ≤ b.length) ∧ NewPo w.heap.size wr vo acc ∧ Below w.heap.size w wr

set_option maxHeartbeats 4000000 in
set_option maxRecDepth 100000 in
theorem posting_get (A : Option Addr) (m c : Nat) (b : List UInt8) (x0 : Int) (a0 many : Nat) (w : World) (hr : Row w w.heap.size A (Lib.byteCells b)) (hm : b.length = m) (hc : m ≤ c) (hcx : c ≤ maxLen) (hl : m ≤ 1000000) (ha0 : a0 ≤ m) (hx0 : -1 ≤ x0) (hx1 : x0 < 2147483648) (hmany : many ≤ 1000) :
    Calls Try.prog 52 #[.slice A m c, .agg #[.int .i64 x0, .int .i64 (a0 : Int)], .int .i64 (many : Int)] w (GaveGet b x0 a0 many w) := by
  obtain ⟨i0, hi0, hz0, hz1, hz2⟩ := info_parts info_posting
  have HR := Lib.hid hr
  have HM := Lib.hid hm
  clear hr
  go_enter Try.func52, Try.ntmps52
  go_wp2
  go_quiet (fail)
  go_wp2
  obtain ⟨wq, hwq⟩ : ∃ wq, wq = World.drewN (w.alloc (.cells #[.int .i64 x0, .int .i64 (a0 : Int)] 64)) nq := ⟨_, rfl⟩
  have hbq : Below w.heap.size w wq := by rw [hwq]; exact ((Below.refl _ w).alloc (Nat.le_refl _) _).trans (quiet_below _)
  rw [← hwq]
  have HBQ := Lib.hid hbq
  clear hwq hbq
  go_loopw [6, 7, 8, 9, 10, 11, 21] (fun r6 r7 r8 vo last at_ i wr => GetPRel b x0 a0 many w r6 r7 r8 vo last at_ i wr) (fun _ _ _ _ _ _ i _ => many - (intOf i).toNat)
  case atStart => exact ⟨rfl, rfl, rfl, [], 0, a0, x0, by omega, rfl, rfl, rfl, rfl, rfl, by simp [bytesP], by omega, Stands.nil (by omega), hx0, hx1, fun g _ _ => by simp, (by intro p hp; cases hp), NewPo.nil, HBQ.out⟩
  case round =>
    obtain ⟨rfl, rfl, rfl, acc, k, a, x, hk, rfl, hacc, rfl, rfl, hxe, hae, hab, hst, hxl, hxh, huni, hpl, hown, hbw⟩ := hrel
    have hsz := hbw.size
    by_cases hlt : k < many
    · have hnx : ∀ g, g.length = many → Stands b x0 a0 g → ∃ a2 : Nat, getZ b (a : Int) = ((g.getD k (0, [])).1 - (x + 1), (a2 : Int), 0) ∧ risZ b (a2 : Int) = ((g.getD k (0, [])).2, (((a0 + (bytesP x0 (g.take (k + 1))).length : Nat)) : Int), 0) ∧
          x < (g.getD k (0, [])).1 ∧ (g.getD k (0, [])).1 < 2147483648 ∧ placesB (g.getD k (0, [])).2 = true ∧ g.take (k + 1) = acc ++ [((g.getD k (0, [])).1, (g.getD k (0, [])).2)] := fun g h1 h2 => by
        obtain ⟨a2, e1, e2, e3, e4, e5, e6, e7⟩ := stands_next h2 hx0 (k := k) (by omega) (by omega)
        rw [← huni g h1 h2] at e1 e3 e4 e7
        rw [← hxe, ← hae] at e1
        rw [← hxe] at e3 e4
        exact ⟨a2, e1, e2, e4, e5, e6, e7⟩
      have HNX := Lib.hid hnx
      have HUNI := Lib.hid huni
      have HST := Lib.hid hst
      have HXE := Lib.hid hxe
      have HAE := Lib.hid hae
      have HPL := Lib.hid hpl
      have HOWN := Lib.hid hown
      have HA := Lib.hid hacc
      have HBW := Lib.hid hbw
      have g1 := vint_Get A m c (a : Int) b wr ((HR.out.below hbw).more hsz) hm hc hcx (by omega)
      clear hnx huni hst hxe hae hpl hown hacc hbw
      rcases getZ_split b (a : Int) with ⟨e, hz, he⟩ | ⟨dz, a2, hz, ha2, hdz⟩
      · rw [hz] at g1
        have G1 := Lib.hid g1
        have HNO : Hid (∀ g', g'.length = many → ¬ Stands b x0 a0 g') := Lib.hid fun g h1 h2 => by
          obtain ⟨q, e1, _⟩ := HNX.out g h1 h2
          rw [hz] at e1
          simp only [Prod.mk.injEq] at e1
          omega
        have hne : e ≠ 0 := by omega
        have heb : (e != 0) = true := by rw [bne_iff_ne]; exact hne
        clear g1 hz he
        go_wp2_with (go_at_call 53; refine G1.out.mono ?_)
        rintro en w4 ⟨rfl, hb4⟩
        have HB4 := Lib.hid (HBW.out.trans (hb4.mono hsz))
        clear hb4
        go_wp2
        go_ret3
        exact ⟨HB4.out, .inr ⟨HNO.out, rfl⟩⟩
      · rw [hz] at g1
        have G1 := Lib.hid g1
        have HZ := Lib.hid hz
        clear g1 hz
        by_cases hbig : 2147483648 - (x + 1) ≤ (dz : Int)
        · have HNO : Hid (∀ g', g'.length = many → ¬ Stands b x0 a0 g') := Lib.hid fun g h1 h2 => by
            obtain ⟨q, e1, _, e3, e4, _⟩ := HNX.out g h1 h2
            rw [HZ.out] at e1
            simp only [Prod.mk.injEq] at e1
            omega
          have hd : decide (2147483648 - (x + 1) ≤ (dz : Int)) = true := decide_eq_true hbig
          clear hdz
          go_wp2_with (go_at_call 53; refine G1.out.mono ?_)
          rintro en w4 ⟨rfl, hb4⟩
          have HB4 := Lib.hid (HBW.out.trans (hb4.mono hsz))
          clear hb4
          go_wp2
          go_ret3
          exact ⟨HB4.out, .inr ⟨HNO.out, rfl⟩⟩
        · have hd : decide (2147483648 - (x + 1) ≤ (dz : Int)) = false := decide_eq_false hbig
          go_wp2_with (go_at_call 53; refine G1.out.mono ?_)
          rintro en w4 ⟨rfl, hb4⟩
          have HB4 := Lib.hid (HBW.out.trans (hb4.mono hsz))
          have hs4 := HB4.out.size
          have g2 := vint_GetRising A m c (a2 : Int) b w4 ((HR.out.below HB4.out).more hs4) hm hc hcx (by omega)
          have HOW4 := Lib.hid (HOWN.out.below hb4)
          clear hb4
          rcases risZ_split b (a2 : Int) with ⟨e, hz2, he⟩ | ⟨ps, a3, hz2, ha3, hpsl⟩
          · rw [hz2] at g2
            have G2 := Lib.hid g2
            have HNO : Hid (∀ g', g'.length = many → ¬ Stands b x0 a0 g') := Lib.hid fun g h1 h2 => by
              obtain ⟨q, e1, e2, _⟩ := HNX.out g h1 h2
              rw [HZ.out] at e1
              simp only [Prod.mk.injEq] at e1
              rw [← e1.2.1, hz2] at e2
              simp only [Prod.mk.injEq] at e2
              exact he e2.2.2
            have heb : (e != 0) = true := by rw [bne_iff_ne]; exact he
            clear g2 hz2
            go_wp2_with (go_at_call 54; refine G2.out.mono ?_)
            rintro en w5 ⟨v5, rfl, _, hb5⟩
            have HB5 := Lib.hid (HB4.out.trans (hb5.mono hs4))
            clear hb5
            go_wp2
            go_ret3
            exact ⟨HB5.out, .inr ⟨HNO.out, rfl⟩⟩
          · rw [hz2] at g2
            have G2 := Lib.hid g2
            have HZ2 := Lib.hid hz2
            clear g2 hz2
            go_wp2_with (go_at_call 54; refine G2.out.mono ?_)
            rintro en w5 ⟨v5, rfl, hown5, hb5⟩
            simp only at hown5
            obtain ⟨A5, c5, rfl, hc5, hr5⟩ := owned_row hown5
            have hcx5 : c5 ≤ maxLen := by
              rcases hown5.2 with ⟨h, _⟩ | ⟨_, cap, _, h, _, _, _, h4, _⟩
              · injection h with _ _ h; omega
              · injection h with _ _ h; rw [h]; exact h4
            obtain ⟨F, hF⟩ : ∃ F, F = ps.length := ⟨_, rfl⟩
            have mp := may_places A5 F c5 ps w5 hr5 hF.symm (by omega)
            rw [← hF] at hc5 hpsl
            rw [← hF]
            have HFL := Lib.hid hF
            have MP := Lib.hid mp
            have HR5 := Lib.hid (RowL.of_own (base := w.heap.size) hown5 (by omega))
            have HB5 := Lib.hid (HB4.out.trans (hb5.mono hs4))
            have hs5 := HB5.out.size
            have HOW5 := Lib.hid (HOW4.out.below hb5)
            clear hown5 hb5 hF mp hr5
            rcases hpb : placesB ps with _ | _
            · rw [hpb] at MP
              have HNO : Hid (∀ g', g'.length = many → ¬ Stands b x0 a0 g') := Lib.hid fun g h1 h2 => by
                obtain ⟨q, e1, e2, _, _, e5, _⟩ := HNX.out g h1 h2
                rw [HZ.out] at e1
                simp only [Prod.mk.injEq] at e1
                rw [← e1.2.1, HZ2.out] at e2
                simp only [Prod.mk.injEq] at e2
                rw [← e2.1, hpb] at e5
                cases e5
              clear hpb
              go_wp2_with (go_at_call 38; refine MP.out.mono ?_; rintro e w' ⟨rfl, rfl⟩)
              go_ret3
              exact ⟨HB5.out, .inr ⟨HNO.out, rfl⟩⟩
            · rw [hpb] at MP
              have hstep := stands_step HST.out (by rw [← HXE.out]; exact hxl) (d := (dz : Int)) (q2 := (a2 : Int)) (q3 := (a3 : Int)) (ps := ps) (by rw [← HAE.out]; exact HZ.out) HZ2.out (by rw [← HXE.out]; omega) hpb
              rw [← HXE.out] at hstep
              obtain ⟨y, hy⟩ : ∃ y, y = x + 1 + (dz : Int) := ⟨_, rfl⟩
              rw [show (dz : Int) + (x + 1) = y by omega] at hstep
              have hst2 := hstep.1
              have ha32 : a3 = a0 + (bytesP x0 (acc ++ [(y, ps)])).length := by have := hstep.2; omega
              have huni2 : ∀ g, g.length = many → Stands b x0 a0 g → acc ++ [(y, ps)] = g.take (k + 1) := fun g h1 h2 => by
                obtain ⟨q, e1, e2, _, _, _, e6⟩ := HNX.out g h1 h2
                rw [HZ.out] at e1
                simp only [Prod.mk.injEq] at e1
                rw [← e1.2.1, HZ2.out] at e2
                simp only [Prod.mk.injEq] at e2
                rw [e6, ← e2.1, show y = (g.getD k (0, [])).1 by omega]
              have hpl2 : ∀ p ∈ acc ++ [(y, ps)], p.2.length ≤ b.length := fun p hp => by
                rcases List.mem_append.1 hp with h | h
                · exact HPL.out p h
                · simp at h; rw [h]; show ps.length ≤ b.length; rw [← HFL.out]; exact hpsl
              have hy2 : -1 ≤ y ∧ y < 2147483648 := by omega
              have hdoc : y = docOf x0 (acc ++ [(y, ps)]) := docOf_step.symm
              obtain ⟨cs, hcs1, hcs2⟩ := HOW5.out
              rw [HA.out] at hcs1
              have HC1 := Lib.hid hcs1
              have HC2 := Lib.hid hcs2
              have HST2 := Lib.hid hst2
              have HA32 := Lib.hid ha32
              have HUNI2 := Lib.hid huni2
              have HPL2 := Lib.hid hpl2
              have HDOC := Lib.hid hdoc
              have HY := Lib.hid hy
              clear hpb hstep hst2 ha32 huni2 hpl2 hdoc hcs1 hcs2 HST HNX HUNI HPL HZ HZ2 HOW5 HOW4 HOWN
              have hyx : x + 1 + (dz : Int) = y := HY.out.symm
              clear hy
              go_wp2_with (first
                | (go_at_call 38; refine MP.out.mono ?_; rintro e w' ⟨rfl, rfl⟩)
                | (at_builtin; refine wpList_append_own _ rfl (.tmp 58) (.tmp 62) 22 rfl w.heap.size 46 i0 _ 2 32 Try.underlying22 hi0 hz0 hz1 hz2 rfl (by omega) _ k cs rfl (HC1.out.alloc _) ⟨w5.heap.size, 0, none⟩ 1 1 [.int .i64 y, .slice A5 F c5] rfl rfl (news_at w5 [.int .i64 y, .slice A5 F c5] 46) (by intro u hu; simp at hu; rcases hu with hu | hu <;> (subst hu; rfl)) (by unfold maxLen; omega) (by omega) (by simp; omega) ?_))
              intro v7 w7 hown7 hg7 _
              have hal := (Below.refl w5.heap.size w5).alloc (Nat.le_refl _) (.cells #[.int .i64 y, .slice A5 F c5] 46)
              have hb7 : Below w.heap.size w5 w7 := ((Below.refl _ w5).alloc hs5 _).grown hg7 (by simp; omega) fun k hk => (HC1.out.lt k hk).1
              have hpush : NewPo w.heap.size w7 v7 (acc ++ [(y, ps)]) :=
                NewPo.push (c := c5) (A := A5) (cs := cs) (by rw [HA.out]; exact HC1.out.alloc _) (HC2.out.imp fun _ _ h => ⟨h.1.below hal, h.2⟩) (by rw [← HFL.out]; exact hc5) hcx5 ⟨HR5.out.1.below hal, HR5.out.2⟩ (by rw [HA.out, ← HFL.out]; exact hown7) hg7
              have hfin : GetPRel b x0 a0 many w (.slice none 0 0) (.int .i64 0) (.bool false) v7 (.int .i64 y) (.int .i64 (a3 : Int)) (.int .i64 ((k : Int) + 1)) w7 :=
                ⟨rfl, rfl, rfl, acc ++ [(y, ps)], k + 1, a3, y, by omega, by simp, by simp [HA.out], rfl, rfl, HDOC.out, HA32.out, ha3, HST2.out, hy2.1, hy2.2, HUNI2.out, HPL2.out, hpush, HB5.out.trans hb7⟩
              have HF := Lib.hid hfin
              clear hfin hb7 hg7 hown7 hpush hal
              go_wp2
              go_roundw
              case rel => exact HF.out
              case measure => simp [intOf]; omega
    · obtain rfl : k = many := by omega
      have hfin : Below w.heap.size w wr ∧ ((∃ g v, g.length = k ∧ Stands b x0 a0 g ∧ (∀ g', g'.length = k → Stands b x0 a0 g' → g' = g) ∧ (∀ p ∈ g, p.2.length ≤ b.length) ∧ Ending.returned (.tuple #[u9, .int .i64 (a : Int), .bool true]) = .returned (.tuple #[v, .int .i64 ((a0 + (bytesP x0 g).length : Nat) : Int), .bool true]) ∧ NewPo w.heap.size wr v g)) :=
        ⟨hbw, acc, u9, hacc, hst, fun g' h1 h2 => by rw [huni g' h1 h2, List.take_of_length_le (by omega)], hpl, by rw [hae], hown⟩
      have HF := Lib.hid hfin
      clear hfin hst huni hpl hown hbw hxe hae
      go_wp2
      go_ret3
      exact ⟨HF.out.1, .inl HF.out.2⟩
end Go.Proofs.Ytnmnbckaccicaaa

/- What the list's has answers. -/
set_option linter.unusedVariables false
namespace Go.Proofs.Ytnmnbckaccicaaa
open Go Go.RowKit

section
variable (B : Nat) (bs : List UInt8) (l : List Po) (w : World) (h : LIn w B bs l)
include h
theorem in_has (k : Int) (hk0 : -1 ≤ k) : Calls Try.prog 44 #[.pointer (some ⟨B, 0, none⟩), .int .i64 k] w fun e w' => e = .returned (.bool (decide (0 ≤ k ∧ k < (blocksP l.length : Int)))) ∧ w = w' := by
  have HB := Lib.hid (in_Blocks B bs l w h)
  clear h
  obtain ⟨n, hn⟩ : ∃ n, n = blocksP l.length := ⟨_, rfl⟩
  rw [← hn] at HB
  rw [← hn]
  clear hn
  by_cases hz : k < 0
  · have hd : decide (0 ≤ k ∧ k < (n : Int)) = false := decide_eq_false (by omega)
    rw [hd]
    have hg : decide (0 ≤ k) = false := decide_eq_false (by omega)
    go_enter Try.func44, Try.ntmps44
    go_wp2
    go_ret
    exact ⟨rfl, rfl⟩
  · have hg : decide (0 ≤ k) = true := decide_eq_true (by omega)
    have hd : decide (0 ≤ k ∧ k < (n : Int)) = decide (k < (n : Int)) := by
      by_cases h2 : k < (n : Int)
      · rw [decide_eq_true h2, decide_eq_true ⟨by omega, h2⟩]
      · rw [decide_eq_false h2, decide_eq_false (fun h => h2 h.2)]
    rw [hd]
    clear hd
    go_enter Try.func44, Try.ntmps44
    go_wp2_with (go_at_call 43; refine HB.out.mono ?_; rintro e w' ⟨rfl, rfl⟩)
    go_ret
    exact ⟨rfl, rfl⟩
end
theorem list_has (base B : Nat) (bs : List UInt8) (l : List Po) (w : World) (h : LAt w base B bs l) (k : Int) (hk0 : -1 ≤ k) : Calls Try.prog 44 #[.pointer (some ⟨B, 0, none⟩), .int .i64 k] w fun e w' => e = .returned (.bool (decide (0 ≤ k ∧ k < (blocksP l.length : Int)))) ∧ w = w' := in_has B bs l w h.in_ k hk0
end Go.Proofs.Ytnmnbckaccicaaa

/- What the list's Bytes and Block answer, in new memory. -/
set_option linter.unusedVariables false
namespace Go.Proofs.Ytnmnbckaccicaaa
open Go Go.RowKit

set_option maxHeartbeats 4000000 in
set_option maxRecDepth 100000 in
theorem in_Block (B : Nat) (l : List Po) (w : World) (h : LIn w B (bytesP (-1) l) l) (hm : mayB' (-1) l = true) (hbl : (bytesP (-1) l).length ≤ 1000000) (hl : l.length ≤ 1000000) (k : Int) (hk0 : -1 ≤ k) :
    Calls Try.prog 47 #[.pointer (some ⟨B, 0, none⟩), .int .i64 k] w (GaveNew (blockP l k) w) := by
  have HH := Lib.hid (in_has B _ l w h k hk0)
  by_cases hin : 0 ≤ k ∧ k < (blocksP l.length : Int)
  · obtain ⟨j, rfl⟩ : ∃ j : Nat, k = (j : Int) := ⟨k.toNat, by omega⟩
    have hj : j < blocksP l.length := by omega
    rw [decide_eq_true hin] at HH
    have hst := block_stands hj hm
    have hblen := blockP_length (l := l) j
    have hd0 := docOf_ge (l.take (8 * j)) (-1) (by have := hm; rw [← List.take_append_drop (8 * j) l, mayB'_append, Bool.and_eq_true] at this; exact this.1)
    have hd1 := docOf_lt (l.take (8 * j)) (-1) (by have := hm; rw [← List.take_append_drop (8 * j) l, mayB'_append, Bool.and_eq_true] at this; exact this.1) (by omega)
    have hal : (bytesP (-1) (l.take (8 * j))).length ≤ (bytesP (-1) l).length := by have := hst.2.1; omega
    have ah := fun w' (hb : Below w.heap.size w w') => in_ahead B _ l w' (h.below hb) j (by omega) (by omega)
    obtain ⟨bs, hbs⟩ : ∃ bs, bs = bytesP (-1) l := ⟨_, rfl⟩
    obtain ⟨blk, hblk⟩ : ∃ blk, blk = blockP l (j : Int) := ⟨_, rfl⟩
    obtain ⟨x, hx⟩ : ∃ x, x = docOf (-1) (l.take (8 * j)) := ⟨_, rfl⟩
    obtain ⟨a, ha⟩ : ∃ a, a = (bytesP (-1) (l.take (8 * j))).length := ⟨_, rfl⟩
    rw [← hx, ← ha] at ah
    rw [← hbs, ← hblk, ← hx, ← ha] at hst
    rw [← hx] at hd0 hd1
    rw [← hbs] at h hbl
    rw [← hbs, ← ha] at hal
    rw [← hblk] at hblen
    rw [← hblk]
    have hblt := h.1
    obtain ⟨_, Ab, cb, Ae, ce, ⟨c0, c1, c2, c3⟩, hcb, hcbx, _, hrb, _⟩ := h
    obtain ⟨n, hn⟩ : ∃ n, n = l.length := ⟨_, rfl⟩
    rw [← hn] at c2 hblen hl
    have hnj : 8 * j < n := by rw [hn]; unfold blocksP at hj; omega
    obtain ⟨M, hM⟩ : ∃ M, M = bs.length := ⟨_, rfl⟩
    rw [← hM] at c0 hal hbl hcb
    obtain ⟨q, hq⟩ : ∃ q : Nat, q = min 8 (n - 8 * j) := ⟨_, rfl⟩
    rw [← hq] at hblen
    have hq1 : q ≤ 8 := by omega
    have hqm : (if (8 : Int) < (n : Int) - (j : Int) * 8 then (8 : Int) else (n : Int) - (j : Int) * 8) = (q : Int) := by split <;> omega
    have HG : Hid (∀ w', Below w.heap.size w w' → Calls Try.prog 52 #[.slice Ab M cb, .agg #[.int .i64 x, .int .i64 (a : Int)], .int .i64 (q : Int)] w' fun e w2 =>
        ∃ (v : Value) (z : Int), e = .returned (.tuple #[v, .int .i64 z, .bool true]) ∧ NewPo w'.heap.size w2 v blk ∧ Below w'.heap.size w' w2) := Lib.hid fun w' hb =>
      (posting_get Ab M cb bs x a q w' ((hrb.below hb).more hb.size) hM.symm hcb hcbx hbl hal (by omega) hd1 (by omega)).mono fun e w2 => by
        rintro ⟨h1, (⟨g, v, h2, h3, h4, _, rfl, h5⟩ | ⟨h2, _⟩)⟩
        · exact ⟨v, _, rfl, by rw [h4 blk hblen hst]; exact h5, h1⟩
        · exact absurd hst (h2 blk hblen)
    have HA : Hid (∀ w', Below w.heap.size w w' → Calls Try.prog 42 #[.pointer (some ⟨B, 0, none⟩), .int .i64 (j : Int)] w' fun e w2 =>
        e = .returned (.agg #[.int .i64 x, .int .i64 (a : Int)]) ∧ Below w'.heap.size w' w2) := Lib.hid fun w' hb => ah w' hb
    have HC : Hid (∀ w', Below w.heap.size w w' → w'.cell? ⟨B, 0, none⟩ = some (.slice Ab M cb) ∧ w'.cell? ⟨B, 2, none⟩ = some (.int .i64 (n : Int))) := Lib.hid fun w' hb => ⟨(hb.cell (p := ⟨B, 0, none⟩) hblt).trans c0, (hb.cell (p := ⟨B, 2, none⟩) hblt).trans c2⟩
    have hsub : IntKind.i64.wrap ((n : Int) - (j : Int) * 8) = (n : Int) - (j : Int) * 8 := IntWalk.i64_in _ (by omega)
    have hmul : IntKind.i64.wrap ((j : Int) * 8) = (j : Int) * 8 := IntWalk.i64_in _ (by omega)
    have hjb : j ≤ 1000000 := by omega
    clear hst hblen hrb hbs hblk hx ha hn hM hq ah c1 c3 hd0 hd1 hj hin hm
    go_enter Try.func47, Try.ntmps47
    go_wp2_with (go_at_call 44; refine HH.out.mono ?_; rintro e w' ⟨rfl, rfl⟩)
    go_region_held3 (fun w' => w'.cell? ⟨B, 0, none⟩ = some (.slice Ab M cb) ∧ w'.cell? ⟨B, 2, none⟩ = some (.int .i64 (n : Int)))
      (first | exact HC.out _ (Below.refl _ _).drew | exact HC.out _ HB5.out | exact HC.out _ HB6.out)
      (first
        | (go_simp; go_at_call 42; (with_reducible refine (HA.out _ (Below.refl _ _).drew).mono ?_); rintro e w5 ⟨rfl, hb5⟩; have HB5 : Hid (Below w.heap.size w w5) := Lib.hid ((Below.refl _ w).drew.trans hb5))
        | (go_simp; go_at_call 52; (with_reducible refine (HG.out _ HB5.out).mono ?_); rintro e w6 ⟨v, z, rfl, hown6, hb6⟩; have HB6 : Hid (Below w.heap.size w w6) := Lib.hid (HB5.out.trans (hb6.mono HB5.out.size))))
    all_goals
      go_wp2
      go_ret
      exact ⟨_, rfl, hown6.low HB5.out.size, HB6.out⟩
  · have hx : blockP l k = [] := by
      by_cases hz : k < 0
      · exact blockP_neg hz
      · obtain ⟨j, rfl⟩ : ∃ j : Nat, k = (j : Int) := ⟨k.toNat, by omega⟩
        exact blockP_out (by omega)
    rw [hx]
    rw [decide_eq_false hin] at HH
    clear hx hin
    go_enter Try.func47, Try.ntmps47
    go_wp2_with (go_at_call 44; refine HH.out.mono ?_; rintro e w' ⟨rfl, rfl⟩)
    go_ret
    exact ⟨_, rfl, NewPo.nil, Below.refl _ _⟩
theorem list_Block (base B : Nat) (l : List Po) (w : World) (h : LAt w base B (bytesP (-1) l) l) (hm : mayB' (-1) l = true) (hbl : (bytesP (-1) l).length ≤ 1000000) (hl : l.length ≤ 1000000) (k : Int) (hk0 : -1 ≤ k) :
    Calls Try.prog 47 #[.pointer (some ⟨B, 0, none⟩), .int .i64 k] w (GaveNew (blockP l k) w) := in_Block B l w h.in_ hm hbl hl k hk0
end Go.Proofs.Ytnmnbckaccicaaa

/- A block's last document. -/
set_option linter.unusedVariables false
namespace Go.Proofs.Ytnmnbckaccicaaa
open Go Go.RowKit

/-- A block's last document. -/
theorem in_Last (B : Nat) (bs : List UInt8) (l : List Po) (w : World) (h : LIn w B bs l) (hl : l.length ≤ 1073741824) (k : Int) (hk0 : -1 ≤ k) :
    Calls Try.prog 33 #[.pointer (some ⟨B, 0, none⟩), .int .i64 k] w fun e w' => e = .returned (.int .i64 (lastP l k)) ∧ w = w' := by
  have HH := Lib.hid (in_has B bs l w h k hk0)
  obtain ⟨_, Ab, cb, Ae, ce, ⟨c0, c1, c2, c3⟩, _, _, hce, _, hre⟩ := h
  clear c0 c2 c3
  by_cases hin : 0 ≤ k ∧ k < (blocksP l.length : Int)
  · obtain ⟨j, rfl⟩ : ∃ j : Nat, k = (j : Int) := ⟨k.toNat, by omega⟩
    have hj : j < blocksP l.length := by omega
    obtain ⟨b, o, rfl, _, e0, _⟩ := row_end hre hj
    rw [← lastP_end hj] at e0
    rw [decide_eq_true hin] at HH
    obtain ⟨n, hn⟩ : ∃ n, n = blocksP l.length := ⟨_, rfl⟩
    rw [← hn] at c1 hj hce
    obtain ⟨x, hx⟩ : ∃ x, x = lastP l (j : Int) := ⟨_, rfl⟩
    rw [← hx] at e0 ⊢
    have hnb : n ≤ 1073741824 := by rw [hn]; unfold blocksP; omega
    clear hn hx hre hin
    go_enter Try.func33, Try.ntmps33
    go_wp2_with (go_at_call 44; refine HH.out.mono ?_; rintro e w' ⟨rfl, rfl⟩)
    go_ret
    exact ⟨rfl, rfl⟩
  · have hx : lastP l k = -1 := by
      unfold lastP
      by_cases hz : k < 0
      · rw [blockP_neg hz]; rfl
      · obtain ⟨j, rfl⟩ : ∃ j : Nat, k = (j : Int) := ⟨k.toNat, by omega⟩
        rw [blockP_out (by omega)]; rfl
    rw [hx]
    rw [decide_eq_false hin] at HH
    clear hx hre c1 hin
    go_enter Try.func33, Try.ntmps33
    go_wp2_with (go_at_call 44; refine HH.out.mono ?_; rintro e w' ⟨rfl, rfl⟩)
    go_ret
    exact ⟨rfl, rfl⟩
theorem list_Last (base B : Nat) (bs : List UInt8) (l : List Po) (w : World) (h : LAt w base B bs l) (hl : l.length ≤ 1073741824) (k : Int) (hk0 : -1 ≤ k) :
    Calls Try.prog 33 #[.pointer (some ⟨B, 0, none⟩), .int .i64 k] w fun e w' => e = .returned (.int .i64 (lastP l k)) ∧ w = w' := in_Last B bs l w h.in_ hl k hk0
end Go.Proofs.Ytnmnbckaccicaaa

/- A range over a function whose body always goes on: of each thing that it is told the body knows what holds of it in the world in which it is told. -/
set_option linter.unusedVariables false
namespace Go.Proofs.Ytnmnbckaccicaaa
open Go Go.RowKit

/-- What is called g hands things on, each with Ok, and in the end S holds of all; rounds keep Kp. -/
def Told {α : Type} (n : Nat) (P : Program) (g : Nat) (lb : Array Value) (encs : α → Array Value) (Kp : World → World → Prop) (Ok : List α → α → World → Prop) (S : List α → Prop) (w : World) : Prop :=
  ∀ (l : Nat) (J : List α → World → Prop) (W : World), Below w.heap.size w W → (∀ s A B, J s A → Below A.heap.size A B → J s B) →
    (∀ pre x W1, J pre W1 → Ok pre x W1 → YieldAt Fence.wide (n - 1) P l (encs x) W1 fun e W' => e = .returned (.bool true) ∧ J (pre ++ [x]) W' ∧ Kp W1 W') →
    J [] W → CallsIn Fence.wide n P g (#[.func (.yield l) #[] #[]] ++ lb) W fun e W' => (∃ v, e = .returned v) ∧ ∃ xs, S xs ∧ J xs W'

/-- A thing that stays while a block that is no cells, from B on, is turned. -/
def Firm (B : Nat) (p : World → Prop) : Prop := ∀ W l (o o' : Obj), B ≤ l → W.heap[l]? = some o → o.isCells = false → p W → p (W.putObj l o')

variable {n : Nat} {P : Program}
theorem wpIn_range_told {α : Type} {g : Operand} {ps : Array Tmp} {assign body : Code} {Q : Exit → Act → World → Prop} {a : Act} {w : World} (h1 : 1 ≤ n) {gf : Nat} {lb : Array Value} (hg : a.eval g = .func (.func gf) #[] lb)
    (eg : ∀ args w, (callFunc gf args).run P w = .ok (.enter gf args) w) {encs : α → Array Value} {Kp : World → World → Prop} {Ok : List α → α → World → Prop} {S : List α → Prop} (hseq : Told (n - 1) P gf lb encs Kp Ok S w)
    (hKt : ∀ {A B C : World}, Kp A B → Kp B C → Kp A C) (hKp : ∀ (W : World) (l : Nat) (o o' : Obj), w.heap.size ≤ l → W.heap[l]? = some o → o.isCells = false → Kp W (W.putObj l o')) (hps : ∀ x, (encs x).size = ps.size)
    (I : List α → World → Prop) (hIb : ∀ s A B, I s A → Below A.heap.size A B → I s B) (hIp : ∀ s, Firm w.heap.size (I s)) (hOk : ∀ s x, Firm w.heap.size (Ok s x)) (h0 : I [] w) (a₁ : α → Act)
    (hassign : ∀ (l : Nat) (x : α) (W : World) (K : Act → World → Prop), K (a₁ x) W → assign.wpIn (Fence.wide.inRound l) (n - 1 - 1) P (Exit.then K (fun _ _ _ => False)) { tmps := (ps.zip (encs x)).foldl (fun t (p, v) => t.setIfInBounds p v) a.tmps, defers := [] } W)
    (hbody : ∀ (l : Nat) (pre : List α) (x : α) (W : World), I pre W → Ok pre x W → body.wpIn (Fence.wide.inRound l) (n - 1 - 1) P (ownPostK Kp I (fun _ _ _ => False) (pre ++ [x]) W) (a₁ x) W)
    (hdone : ∀ (D : Nat) (xs : List α) (W : World), w.heap.size ≤ D → S xs → I xs W → W.heap[D]? = some (.deferred (some [])) → Q .normal { a with defers := { target := .collected D, args := #[] } :: a.defers } W) :
    (Code.rangeFunc g ps assign body).wpIn Fence.wide n P Q a w := by
  refine wpIn_rangeFunc fun fn hfn => ?_
  have enter := run_enterLoop_outer (P := P) (w := w) fn a.tmps ps assign body
  obtain ⟨D, hD⟩ : ∃ D, D = w.heap.size := ⟨_, rfl⟩
  obtain ⟨st, hst⟩ : ∃ st : LoopState → Loop, st = fun s => { state := s, pending := none, fn := fn, tmps := a.tmps, params := ps, assign := assign, body := body, defers := w.heap.size } := ⟨_, rfl⟩
  obtain ⟨V, hV⟩ : ∃ V, V = (w.alloc (.deferred (some []))).alloc (.loop (st .ready)) := ⟨_, rfl⟩
  have enter' : (Instr.enterLoop fn a.tmps ps assign body Fence.wide.round).run P w = .ok (D + 1, [{ target := .collected D, args := #[] }]) V := by rw [hV, hst, hD]; exact enter
  have bel : Below w.heap.size w V := by rw [hV]; exact ((Below.refl _ w).alloc (Nat.le_refl _) _).alloc (by simp) _
  have hdV : V.heap[D]? = some (.deferred (some [])) := by rw [hV, hD]; exact (Below.heap_alloc _ _ _ (by simp)).trans (World.alloc_heap_new w _)
  have hlV : V.heap[D + 1]? = some (.loop (st .ready)) := by
    have := World.alloc_heap_new (w.alloc (.deferred (some []))) (.loop (st .ready))
    rwa [World.size_alloc, ← hV, ← hD] at this
  -- what a round meets: the caller's own invariant, the record ready, the block of deferred calls
  have stay : ∀ (s : List α) (A B : World), (I s A ∧ A.heap[D + 1]? = some (.loop (st .ready)) ∧ A.heap[D]? = some (.deferred (some []))) → Below A.heap.size A B → (I s B ∧ B.heap[D + 1]? = some (.loop (st .ready)) ∧ B.heap[D]? = some (.deferred (some []))) := by
    rintro s A B ⟨i1, i2, i3⟩ hb
    exact ⟨hIb s A B i1 hb, (hb.block _ (Array.getElem?_eq_some_iff.1 i2).1).trans i2, (hb.block _ (Array.getElem?_eq_some_iff.1 i3).1).trans i3⟩
  have round : ∀ (pre : List α) (x : α) (A : World), (I pre A ∧ A.heap[D + 1]? = some (.loop (st .ready)) ∧ A.heap[D]? = some (.deferred (some []))) → Ok pre x A →
      YieldAt Fence.wide (n - 1 - 1) P (D + 1) (encs x) A fun e B => e = .returned (.bool true) ∧ (I (pre ++ [x]) B ∧ B.heap[D + 1]? = some (.loop (st .ready)) ∧ B.heap[D]? = some (.deferred (some []))) ∧ Kp A B := by
    rintro pre x A ⟨i1, i2, i3⟩ hx
    have hl : D + 1 < A.heap.size := (Array.getElem?_eq_some_iff.1 i2).1
    have y := run_yield (P := P) (args := encs x) i2 (by rw [hst]; exact hps x)
    have beg := run_beginRound (P := P) i2 (by rw [hst])
    rw [hst] at y
    refine ⟨fn, _, assign, body, y, roundIn_of_wpIn hfn (hassign _ x A _ ⟨_, beg, ?_⟩)⟩
    obtain ⟨A1, hA1⟩ : ∃ A1, A1 = A.putObj (D + 1) (.loop { st .ready with state := .busy }) := ⟨_, rfl⟩
    rw [← hA1]
    have l1 : A1.heap[D + 1]? = some (.loop { st .ready with state := .busy }) := by rw [hA1]; exact World.putObj_heap_same hl
    have d1 : A1.heap[D]? = some (.deferred (some [])) := by rw [hA1]; exact (World.putObj_heap_other (by omega)).trans i3
    have k1 : Kp A A1 := by rw [hA1]; exact hKp A _ _ _ (by omega) i2 rfl
    have b1 := hbody (D + 1) pre x A1 (by rw [hA1]; exact hIp pre A _ _ _ (by omega) i2 rfl i1) (by rw [hA1]; exact hOk pre x A _ _ _ (by omega) i2 rfl hx)
    refine wpIn_mono b1 ?_
    rintro ex a2 A2 hp
    cases ex with
    | normal =>
      obtain ⟨ko, k2, i4⟩ := hp
      have l2 := ko.same _ _ l1 rfl
      have d2 := ko.same _ _ d1 rfl
      have fin := run_endRound (P := P) none l2
      have hl2 : D + 1 < A2.heap.size := (Array.getElem?_eq_some_iff.1 l2).1
      refine ⟨_, _, fin, rfl, ⟨hIp _ A2 _ _ _ (by omega) l2 rfl i4, ?_, (World.putObj_heap_other (by omega)).trans d2⟩, hKt (hKt k1 k2) (hKp A2 _ _ _ (by omega) l2 rfl)⟩
      rw [World.putObj_heap_same hl2, hst]
      rfl
    | ret => exact hp.2.elim
    | exit id => exact hp.2.elim
    | goto t => exact hp.2.elim
    | panic c => exact hp.elim
    | outgrown => exact hp.elim
  refine ⟨D + 1, _, V, { target := .fn (.func gf) lb, args := #[.func (.yield (D + 1)) #[] #[]] }, V, gf, #[.func (.yield (D + 1)) #[] #[]] ++ lb, V, enter', ?_, ?_, ?_, fun _ => h1, ?_⟩
  · simp only [resolve, hg]
    simp [go_sem]
  · intro f' _
    trivial
  · simp [invoke, go_sem, eg]
  · refine (hseq (D + 1) _ V bel stay round ⟨hIb [] w V h0 bel, hlV, hdV⟩).mono ?_
    rintro e A ⟨⟨v, rfl⟩, xs, hS, i1, i2, i3⟩
    have fin := run_endLoop (P := P) i2 (by rw [hst]; simp)
    rw [hst] at fin
    refine ⟨none, _, fin, hdone D xs _ (by omega) hS (hIp xs A _ _ _ (by omega) i2 rfl i1) ((World.putObj_heap_other (by omega)).trans i3)⟩
end Go.Proofs.Ytnmnbckaccicaaa

/- Things that stay while a range over a function keeps its books. -/
set_option linter.unusedVariables false
namespace Go.Proofs.Ytnmnbckaccicaaa
open Go Go.RowKit

theorem Firm.lat (N base B : Nat) (bs : List UInt8) (l : List Po) : Firm N (fun W => LAt W base B bs l) := fun W k o o' hk ho hc h => h.cellsKept fun j u hj hu => by
  by_cases e : j = k
  · subst e
    rw [ho] at hj
    injection hj with hj
    subst hj
    rw [hc] at hu
    cases hu
  · exact (World.putObj_heap_other e).trans hj
theorem Firm.block {N k : Nat} (hk : k < N) (o : Obj) : Firm N (fun W => W.heap[k]? = some o) := fun W l u u' hl _ _ h => (World.putObj_heap_other (by omega)).trans h
theorem Firm.belowW {N n0 : Nat} {w0 : World} (hN : n0 ≤ N) : Firm N (fun W => Below n0 w0 W) := fun W l o o' hl ho _ h =>
  h.trans ((Below.refl n0 W).grown (grownBy_putObj' W l o') (by have := (Array.getElem?_eq_some_iff.1 ho).1; omega) (fun k e => by cases e; omega))
theorem Firm.and {N : Nat} {p q : World → Prop} (h : Firm N p) (k : Firm N q) : Firm N (fun W => p W ∧ q W) := fun W l o o' hl ho hc hp => ⟨h W l o o' hl ho hc hp.1, k W l o o' hl ho hc hp.2⟩
theorem Firm.pure {N : Nat} {p : Prop} : Firm N (fun _ => p) := fun _ _ _ _ _ _ _ h => h
end Go.Proofs.Ytnmnbckaccicaaa

/- A list that takes a block in: its struct's cells turn, and the row of where blocks end grows; what else lies there stays. -/
set_option linter.unusedVariables false
namespace Go.Proofs.Ytnmnbckaccicaaa
open Go Go.RowKit

/-- Types of blocks that a list's own building turns. -/
def Turning (t : TypeId) : Prop := t = 58 ∨ t = 64 ∨ t = 5
/-- Nothing below base has turned, nor any block of another type. -/
structure Mild (base : Nat) (w w' : World) : Prop where
  below : Below base w w'
  keep : ∀ (k : Nat) (o : Obj), w.heap[k]? = some o → (∀ cs t fr, o = .cells cs t fr → ¬ Turning t) → w'.heap[k]? = some o
section
variable {base : Nat} {w w' w'' : World}
theorem Mild.refl (base : Nat) (w : World) : Mild base w w := ⟨Below.refl _ _, fun _ _ h _ => h⟩
theorem Mild.trans (h : Mild base w w') (k : Mild base w' w'') : Mild base w w'' := ⟨h.below.trans k.below, fun i o hi ho => k.keep i o (h.keep i o hi ho) ho⟩
theorem Mild.of_below (h : Below w.heap.size w w') (hb : base ≤ w.heap.size) : Mild base w w' :=
  ⟨h.mono hb, fun k o hk _ => by rw [h.block k (Array.getElem?_eq_some_iff.1 hk).1, hk]⟩
theorem Mild.setCell {B i : Nat} {cs : Array Value} {t : TypeId} {fr : Nat × Nat} (h : w.heap[B]? = some (.cells cs t fr)) (ht : Turning t) (hb : base ≤ B) (v : Value) : Mild base w (w.setCell ⟨B, i, none⟩ v) :=
  ⟨(Below.refl base w).setCell (p := ⟨B, i, none⟩) hb v, fun k o hk ho => by
    by_cases e : k = B
    · subst e
      rw [h] at hk
      injection hk with hk
      exact absurd ht (ho _ _ _ hk.symm)
    · rw [Below.heap_setCell _ _ _ _ e, hk]⟩
theorem Mild.grown {row : Option Nat} (hg : w.grownBy w' row) (hr : ∀ k, row = some k → base ≤ k ∧ ∃ cs t fr, w.heap[k]? = some (.cells cs t fr) ∧ Turning t) (hb : base ≤ w.heap.size) : Mild base w w' :=
  ⟨(Below.refl base w).grown hg hb (fun k e => (hr k e).1), fun k o hk ho => by
    rw [hg.block k (Array.getElem?_eq_some_iff.1 hk).1 ?_, hk]
    intro e
    obtain ⟨_, cs, t, fr, h1, h2⟩ := hr k e.symm
    rw [h1] at hk
    injection hk with hk
    exact ho _ _ _ hk.symm h2⟩
theorem Mild.keepsOthers (h : Mild base w w') : KeepsOthers w w' :=
  ⟨h.below.size, fun k o hk hc => h.keep k o hk fun cs t fr e => by subst e; cases hc⟩
theorem owned_type {b : Nat} {e : TypeId} {size n : Nat} {v : Value} {xs : List Value} (h : w.ownsRow b e size v n xs) {g : Nat} (hg : v.ownBlock = some g) : ∃ cs fr, w.heap[g]? = some (.cells cs e fr) := by
  rcases h.2 with ⟨rfl, _⟩ | ⟨g', cap, cur, rfl, _, hh, r⟩
  · cases hg
  · simp only [Value.ownBlock, Option.some.injEq] at hg
    subst hg
    exact ⟨_, _, hh⟩
theorem Mild.grownOwn {e : TypeId} {size n : Nat} {v : Value} {xs : List Value} (ho : w.ownsRow base e size v n xs) (he : Turning e) (hg : w.grownBy w' v.ownBlock) (hb : base ≤ w.heap.size) : Mild base w w' :=
  Mild.grown hg (fun k hk => ⟨(ho.lt k hk).1, by obtain ⟨cs, fr, h⟩ := owned_type ho hk; exact ⟨cs, e, fr, h, he⟩⟩) hb

/-- Cells that stay while a list is built. -/
def RowM (base : Nat) (w : World) (A : Option Addr) (xs : List Value) : Prop :=
  xs = [] ∨ ∃ b off, A = some ⟨b, off, none⟩ ∧ b < w.heap.size ∧ (b < base ∨ ∃ cs t fr, w.heap[b]? = some (.cells cs t fr) ∧ ¬ Turning t) ∧ ∀ j u, xs[j]? = some u → w.cell? ⟨b, off + j, none⟩ = some u
theorem RowM.mild {A : Option Addr} {xs : List Value} (h : RowM base w A xs) (hm : Mild base w w') : RowM base w' A xs := by
  rcases h with h | ⟨b, off, e, hlt, hs, hc⟩
  · exact .inl h
  · have hblk : w'.heap[b]? = w.heap[b]? := by
      rcases hs with hs | ⟨cs, t, fr, h1, h2⟩
      · exact hm.below.block b hs
      · rw [hm.keep b _ h1 (fun cs' t' fr' e => by cases e; exact h2), h1]
    refine .inr ⟨b, off, e, Nat.lt_of_lt_of_le hlt hm.below.size, hs.imp id (fun ⟨cs, t, fr, h1, h2⟩ => ⟨cs, t, fr, hblk.trans h1, h2⟩), fun j u hu => ?_⟩
    rw [World.cell?_of_block (a := ⟨b, off + j, none⟩) hblk]
    exact hc j u hu
theorem RowM.at_ {A : Option Addr} {xs : List Value} (h : RowM base w A xs) (hn : 0 < xs.length) : ∃ b off, A = some ⟨b, off, none⟩ ∧ b < w.heap.size ∧ ∀ j u, xs[j]? = some u → w.cell? ⟨b, off + j, none⟩ = some u := by
  rcases h with rfl | ⟨b, off, e, h1, _, h2⟩
  · simp at hn
  · exact ⟨b, off, e, h1, h2⟩
theorem RowM.of_row {A : Option Addr} {xs : List Value} (h : Row w base A xs) (hb : base ≤ w.heap.size) : RowM base w A xs := by
  rcases h with h | ⟨b, off, e, h1, h2⟩
  · exact .inl h
  · exact .inr ⟨b, off, e, by omega, .inl h1, h2⟩
theorem RowM.of_own {b : Nat} {e : TypeId} {size n c : Nat} {A : Option Addr} {xs : List Value} (h : w.ownsRow b e size (.slice A n c) n xs) (he : ¬ Turning e) : RowM base w A xs := by
  have hr := owned_row_of h
  rcases hr with hr | ⟨b', off, rfl, h1, h2⟩
  · exact .inl hr
  · rcases h.2 with ⟨hv, _⟩ | ⟨g, cap, cur, hv, _, hh, _⟩
    · cases hv
    · injection hv with hv
      injection hv with hv
      injection hv with hv1 hv2
      subst hv1
      exact .inr ⟨_, off, rfl, h1, .inr ⟨_, _, _, hh, he⟩, h2⟩
end

/-- The struct, all cells on their own. -/
def LMid (w : World) (base B : Nat) (bs : List UInt8) (es : List (Int × Nat)) (many total : Int) : Prop :=
  base ≤ B ∧ ∃ vb ve, w.heap[B]? = some (.cells #[vb, ve, .int .i64 many, .int .i64 total] 58 (0, 0)) ∧
    w.ownsRow base 5 1 vb bs.length (Lib.byteCells bs) ∧ w.ownsRow base 64 2 ve es.length (endCells es)
theorem lat_mid {w : World} {base B : Nat} {bs : List UInt8} {l : List Po} : LAt w base B bs l ↔ LMid w base B bs (endsC l (blocksP l.length)) (l.length : Int) (totalP l : Int) := by
  unfold LAt LMid endsV
  rw [endsC_length]
section
variable {w w' : World} {base B : Nat} {bs : List UInt8} {es : List (Int × Nat)} {many total : Int}
theorem LMid.lt (h : LMid w base B bs es many total) : B < w.heap.size := by
  obtain ⟨_, vb, ve, hv, _⟩ := h
  exact (Array.getElem?_eq_some_iff.1 hv).1
theorem LMid.below (h : LMid w base B bs es many total) (hb : Below w.heap.size w w') : LMid w' base B bs es many total := by
  have hl := h.lt
  obtain ⟨h1, vb, ve, hv, ho, he⟩ := h
  exact ⟨h1, vb, ve, (hb.block B hl).trans hv, owned_below ho hb, owned_below he hb⟩
theorem owned_setCell {b : Nat} {e : TypeId} {size n : Nat} {v : Value} {xs : List Value} (h : w.ownsRow b e size v n xs) {B i : Nat} (hB : v.ownBlock ≠ some B) (u : Value) : (w.setCell ⟨B, i, none⟩ u).ownsRow b e size v n xs :=
  owned_keep h fun g hg => Below.heap_setCell _ _ _ _ fun e => hB (by rw [hg, e])
theorem LMid.setMany (h : LMid w base B bs es many total) (m : Int) : LMid (w.setCell ⟨B, 2, none⟩ (.int .i64 m)) base B bs es m total ∧ Mild base w (w.setCell ⟨B, 2, none⟩ (.int .i64 m)) := by
  obtain ⟨h1, vb, ve, hv, ho, he⟩ := h
  exact ⟨⟨h1, vb, ve, heap_setCell_same w B 2 _ _ _ hv, owned_setCell ho (owned_apart ho hv (by decide)) _, owned_setCell he (owned_apart he hv (by decide)) _⟩, Mild.setCell hv (.inl rfl) h1 _⟩
theorem LMid.setTotal (h : LMid w base B bs es many total) (m : Int) : LMid (w.setCell ⟨B, 3, none⟩ (.int .i64 m)) base B bs es many m ∧ Mild base w (w.setCell ⟨B, 3, none⟩ (.int .i64 m)) := by
  obtain ⟨h1, vb, ve, hv, ho, he⟩ := h
  exact ⟨⟨h1, vb, ve, heap_setCell_same w B 3 _ _ _ hv, owned_setCell ho (owned_apart ho hv (by decide)) _, owned_setCell he (owned_apart he hv (by decide)) _⟩, Mild.setCell hv (.inl rfl) h1 _⟩
/-- The row of ends has grown, and the struct leads to it. -/
theorem LMid.pushed {vb ve v' : Value} {w0 w1 : World} {x : Int} {z : Nat} (hB : base ≤ B) (hv : w.heap[B]? = some (.cells #[vb, ve, .int .i64 many, .int .i64 total] 58 (0, 0))) (ho : w.ownsRow base 5 1 vb bs.length (Lib.byteCells bs)) (he : w.ownsRow base 64 2 ve es.length (endCells es))
    (hb : Below w.heap.size w w0) (hg : w0.grownBy w1 ve.ownBlock) (hown : w1.ownsRow base 64 2 v' (es.length + 1) (endCells es ++ [.int .i64 x, .int .i64 (z : Int)])) :
    w1.heap[B]? = some (.cells #[vb, ve, .int .i64 many, .int .i64 total] 58 (0, 0)) ∧ LMid (w1.setCell ⟨B, 1, none⟩ v') base B bs (es ++ [(x, z)]) many total ∧ Mild base w (w1.setCell ⟨B, 1, none⟩ v') := by
  have hlt : B < w.heap.size := (Array.getElem?_eq_some_iff.1 hv).1
  have hv0 := (hb.block B hlt).trans hv
  have he0 := owned_below he hb
  have ho0 := owned_below ho hb
  have hv1 : w1.heap[B]? = some (.cells #[vb, ve, .int .i64 many, .int .i64 total] 58 (0, 0)) := (hg.block B (by have := hb.size; omega) (fun e => owned_apart he0 hv0 (by decide) e.symm)).trans hv0
  have ho1 : w1.ownsRow base 5 1 vb bs.length (Lib.byteCells bs) := owned_keep ho0 fun g hg' => hg.block g (ho0.lt g hg').2 fun e => owned_apart2 he0 ho0 (by decide) hg' e.symm
  refine ⟨hv1, ⟨hB, vb, v', heap_setCell_same w1 B 1 _ _ _ hv1, owned_setCell ho1 (owned_apart ho1 hv1 (by decide)) _, ?_⟩, ?_⟩
  · refine owned_setCell ?_ (owned_apart hown hv1 (by decide)) _
    rw [endCells_append, List.length_append, List.length_singleton]
    exact hown
  · have hbw : base ≤ w.heap.size := by omega
    exact (Mild.of_below hb hbw).trans ((Mild.grownOwn he0 (.inr (.inl rfl)) hg (by have := hb.size; omega)).trans (Mild.setCell hv1 (.inl rfl) hB _))
end
end Go.Proofs.Ytnmnbckaccicaaa

/- What stays while a block that is no cells is turned: rows of one's own, postings. -/
set_option linter.unusedVariables false
namespace Go.Proofs.Ytnmnbckaccicaaa
open Go Go.RowKit

theorem cellsKept_owned {w w' : World} {b : Nat} {e : TypeId} {size n : Nat} {v : Value} {xs : List Value} (h : w.ownsRow b e size v n xs) (hk : ∀ (k : Nat) (o : Obj), w.heap[k]? = some o → o.isCells = true → w'.heap[k]? = some o) : w'.ownsRow b e size v n xs :=
  owned_keep h fun g hg => by
    obtain ⟨cs, fr, hh⟩ := owned_type h hg
    rw [hk _ _ hh rfl, hh]
theorem RowS.moved {w w' : World} {A : Option Addr} {xs : List Value} (h : RowS 0 w A xs) (hk : ∀ (k : Nat) (cs : Array Value) (fr : Nat × Nat), w.heap[k]? = some (.cells cs 3 fr) → w'.heap[k]? = some (.cells cs 3 fr)) : RowS 0 w' A xs := by
  rcases h with h | ⟨b, off, e, ⟨h1, h2⟩, hc⟩
  · exact .inl h
  · obtain ⟨cs, fr, hh⟩ := h2.resolve_left (Nat.not_lt_zero _)
    have hh' := hk _ _ _ hh
    refine .inr ⟨b, off, e, ⟨(Array.getElem?_eq_some_iff.1 hh').1, .inr ⟨cs, fr, hh'⟩⟩, fun j u hu => ?_⟩
    rw [World.cell?_of_block (a := ⟨b, off + j, none⟩) (hh'.trans hh.symm)]
    exact hc j u hu
theorem kept_putObj {W : World} {l : Nat} {o o' : Obj} (ho : W.heap[l]? = some o) (hc : o.isCells = false) : ∀ (k : Nat) (u : Obj), W.heap[k]? = some u → u.isCells = true → (W.putObj l o').heap[k]? = some u := fun k u hk hu => by
  by_cases e : k = l
  · subst e
    rw [ho] at hk
    injection hk with hk
    subst hk
    rw [hc] at hu
    cases hu
  · exact (World.putObj_heap_other e).trans hk
theorem NewPo.kept {base : Nat} {w w' : World} {v : Value} {l : List Po} (h : NewPo base w v l) (hk : ∀ (k : Nat) (o : Obj), w.heap[k]? = some o → o.isCells = true → w'.heap[k]? = some o) : NewPo base w' v l := by
  obtain ⟨cs, h1, h2⟩ := h
  exact ⟨cs, cellsKept_owned h1 hk, h2.imp fun _ _ h => ⟨h.1.moved fun k cs fr hh => hk k _ hh rfl, h.2⟩⟩
theorem Firm.newPo (N base : Nat) (v : Value) (l : List Po) : Firm N (fun W => NewPo base W v l) := fun W k o o' _ ho hc h => h.kept (kept_putObj ho hc)
end Go.Proofs.Ytnmnbckaccicaaa

/- slices.Chunk of postings, by eight: what its function hands on, one by one. -/
set_option linter.unusedVariables false
namespace Go.Proofs.Ytnmnbckaccicaaa
open Go Go.RowKit
attribute [local go_sem] Oper.semAt_some

/-- Two blocks stay. -/
def KpTwo (D1 D2 : Nat) (A B : World) : Prop := A.heap.size ≤ B.heap.size ∧ (D1 < A.heap.size → B.heap[D1]? = A.heap[D1]?) ∧ (D2 < A.heap.size → B.heap[D2]? = A.heap[D2]?)
theorem KpTwo.refl (D1 D2 : Nat) (A : World) : KpTwo D1 D2 A A := ⟨Nat.le_refl _, fun _ => rfl, fun _ => rfl⟩
theorem KpTwo.trans {D1 D2 : Nat} {A B C : World} (h : KpTwo D1 D2 A B) (k : KpTwo D1 D2 B C) : KpTwo D1 D2 A C :=
  ⟨Nat.le_trans h.1 k.1, fun e => (k.2.1 (Nat.lt_of_lt_of_le e h.1)).trans (h.2.1 e), fun e => (k.2.2 (Nat.lt_of_lt_of_le e h.1)).trans (h.2.2 e)⟩
theorem KpTwo.putObj {D1 D2 : Nat} (W : World) (l : Nat) (o : Obj) (h1 : D1 ≠ l) (h2 : D2 ≠ l) : KpTwo D1 D2 W (W.putObj l o) :=
  ⟨by simp [World.putObj], fun _ => World.putObj_heap_other h1, fun _ => World.putObj_heap_other h2⟩
theorem KpTwo.of_below {D1 D2 : Nat} {W W' : World} (h : Below W.heap.size W W') : KpTwo D1 D2 W W' := ⟨h.size, fun e => h.block _ e, fun e => h.block _ e⟩

/-- The k-th chunk of a slice of postings. -/
def chunkV (b off n k : Nat) : Value := .slice (some ⟨b, off + 8 * k * 2, none⟩) (min 8 (n - 8 * k)) (min 8 (n - 8 * k))
def ChunkRel (D1 D2 n : Nat) (A : Option Addr) (c : Nat) (J : List Nat → World → Prop) (i : Value) (wr : World) : Prop :=
  ∃ k a : Nat, a = 8 * k ∧ a < n + 8 ∧ i = .int .i64 (a : Int) ∧ J (List.range k) wr ∧ wr.heap[D1]? = some (.cells #[.slice A n c] 22 (0, 0)) ∧ wr.heap[D2]? = some (.cells #[.int .i64 8] 3 (0, 0))

set_option maxHeartbeats 4000000 in
set_option maxRecDepth 100000 in
theorem chunk_told (m D1 D2 n c : Nat) (A : Option Addr) (b off : Nat) (hm : 1 ≤ m) (hA : 0 < n → A = some ⟨b, off, none⟩) (hc : n ≤ c) (hcx : c ≤ maxLen) (hn : n ≤ 1000000) (w : World) (d1 : w.heap[D1]? = some (.cells #[.slice A n c] 22 (0, 0))) (d2 : w.heap[D2]? = some (.cells #[.int .i64 8] 3 (0, 0))) :
    Told m Try.prog 39 #[.pointer (some ⟨D1, 0, none⟩), .pointer (some ⟨D2, 0, none⟩)] (fun k : Nat => #[chunkV b off n k]) (KpTwo D1 D2) (fun pre k _ => k = pre.length ∧ k < blocksP n) (fun ys => ys = List.range (blocksP n)) w := by
  intro l J W hW hJ hY h0
  have e1 : W.heap[D1]? = some (.cells #[.slice A n c] 22 (0, 0)) := (hW.block D1 (lt_of_block d1)).trans d1
  have e2 : W.heap[D2]? = some (.cells #[.int .i64 8] 3 (0, 0)) := (hW.block D2 (lt_of_block d2)).trans d2
  refine callsIn_of_wp Try.func39 rfl trivial ?_ rfl
  simp only [Try.ntmps39, List.size_toArray, List.length_cons, List.length_nil, Nat.reduceAdd, Nat.reduceSub, Array.replicate_succ, Array.replicate_zero, List.push_toArray, List.append_toArray, List.nil_append, List.cons_append]
  have HY := Lib.hid hY
  have HJ := Lib.hid hJ
  have H0 := Lib.hid h0
  have HA := Lib.hid hA
  have HE1 := Lib.hid e1
  have HE2 := Lib.hid e2
  clear hY hJ h0 hW d1 d2 e1 e2 hA
  unfold maxLen at hcx
  gi_wp2
  gi_loopw [4] (fun i wr => ChunkRel D1 D2 n A c J i wr) (fun i _ => n + 8 - (intOf i).toNat)
  case atStart => exact ⟨0, 0, rfl, by omega, rfl, H0.out, HE1.out, HE2.out⟩
  case round =>
    obtain ⟨k, a, hak, han, rfl, hj, e1, e2⟩ := hrel
    have c1 := cell_of_one e1
    have c2 := cell_of_one e2
    have HJK := Lib.hid hj
    have E1 := Lib.hid e1
    have E2 := Lib.hid e2
    have HAK := Lib.hid hak
    clear hj e1 e2 hak
    by_cases hlt : a < n
    · have hsome := HA.out (by omega)
      subst hsome
      obtain ⟨q, hq⟩ : ∃ q, q = min 8 (n - a) := ⟨_, rfl⟩
      have hq1 : 0 < q ∧ q ≤ 8 ∧ a + q ≤ n := by omega
      have hpre : chunkV b off n k = .slice (some ⟨b, off + a * 2, none⟩) q q := by unfold chunkV; rw [← HAK.out, ← hq]
      obtain ⟨fn, tmps, assign, body, hy, hR⟩ := HY.out (List.range k) k (wr.drew) (HJ.out _ _ _ HJK.out (Below.refl _ _).drew) ⟨by simp, by have := HAK.out; unfold blocksP; omega⟩
      rw [hpre] at hy
      clear hpre
      have hqm : (if ((n - a : Nat) : Int) < 8 then ((n - a : Nat) : Int) else 8) = (q : Int) := by split <;> omega
      have hj2 : List.range (k + 1) = List.range k ++ [k] := List.range_succ
      have HJ2 := Lib.hid hj2
      have hq3 : a + q ≤ c := by omega
      have hqs : a + q - a = q := by omega
      clear hq hj2
      gi_wp2
      gi_region
      gi_wp2
      refine hR.mono ?_
      rintro e W4 ⟨rfl, hJ4, hk4⟩
      have f1 : W4.heap[D1]? = some (.cells #[.slice (some ⟨b, off, none⟩) n c] 22 (0, 0)) := (hk4.2.1 (lt_of_block E1.out)).trans E1.out
      have f2 : W4.heap[D2]? = some (.cells #[.int .i64 8] 3 (0, 0)) := (hk4.2.2 (lt_of_block E2.out)).trans E2.out
      have c3 := cell_of_one f1
      have c4 := cell_of_one f2
      rw [← HJ2.out] at hJ4
      have HJ4 := Lib.hid hJ4
      have F1 := Lib.hid f1
      have F2 := Lib.hid f2
      clear hJ4 hk4 f1 f2 hy hR c1 c2
      gi_wp2
      go_roundw
      case rel => exact ⟨k + 1, a + 8, by have := HAK.out; omega, by omega, by go_num, HJ4.out, F1.out, F2.out⟩
      case measure => simp [intOf]; omega
    · have hk : k = blocksP n := by have := HAK.out; unfold blocksP; omega
      have hfin := HJK.out
      rw [hk] at hfin
      have HF := Lib.hid hfin
      clear hk hfin
      gi_wp2
      go_end0
      exact ⟨⟨_, rfl⟩, _, rfl, HF.out⟩

/-- What slices.Chunk gives: a function that keeps the slice and the number. -/
theorem posting_Chunk (A : Option Addr) (n c : Nat) (w : World) :
    Calls Try.prog 27 #[.slice A n c, .int .i64 8] w fun e w' => e = .returned (.func (.func 39) #[] #[.pointer (some ⟨w.heap.size, 0, none⟩), .pointer (some ⟨w.heap.size + 1, 0, none⟩)]) ∧
      w'.heap[w.heap.size]? = some (.cells #[.slice A n c] 22 (0, 0)) ∧ w'.heap[w.heap.size + 1]? = some (.cells #[.int .i64 8] 3 (0, 0)) ∧ Below w.heap.size w w' ∧ w'.heap.size = w.heap.size + 2 := by
  go_enter Try.func27, Try.ntmps27
  go_wp2
  go_ret
  have h1 := heap_alloc_new (w.alloc (.cells #[.slice A n c] 22)) (.cells #[.int .i64 8] 3)
  rw [World.size_alloc] at h1
  refine ⟨rfl, ?_, h1, ((Below.refl _ w).alloc (Nat.le_refl _) _).alloc (by simp) _, by simp⟩
  exact (Below.heap_alloc _ _ _ (by simp)).trans (heap_alloc_new w _)
end Go.Proofs.Ytnmnbckaccicaaa

/- The list's close: a block is taken in. -/
set_option linter.unusedVariables false
namespace Go.Proofs.Ytnmnbckaccicaaa
open Go Go.RowKit

def CloseRel (base B : Nat) (bs : List UInt8) (es : List (Int × Nat)) (blk : List Po) (many total : Int) (w : World) (i : Value) (wr : World) : Prop :=
  ∃ k : Nat, k ≤ blk.length ∧ i = .int .i64 (k : Int) ∧ LMid wr base B bs es many (total + (totalP (blk.take k) : Int)) ∧ Mild base w wr

set_option maxHeartbeats 4000000 in
set_option maxRecDepth 100000 in
theorem close_mid (base B : Nat) (bs : List UInt8) (es : List (Int × Nat)) (many total : Int) (A : Option Addr) (m c : Nat) (blk : List Po) (cs : List Value) (z : Nat) (w : World) (h : LMid w base B bs es many total) (hm : blk.length = m) (hc : m ≤ c) (hcx : c ≤ maxLen)
    (hpc : PoCells (fun _ _ => True) blk cs) (hr : RowM base w A cs) (h0 : 0 < m) (hm8 : m ≤ 1000) (hes : es.length ≤ 1000000) (hmany : 0 ≤ many ∧ many ≤ 1000000000) (htot : 0 ≤ total ∧ total + (totalP blk : Int) ≤ 1000000000) (hz : z ≤ 1000000000) :
    Calls Try.prog 30 #[.pointer (some ⟨B, 0, none⟩), .slice A m c, .int .i64 (z : Int)] w fun e w' => (∃ v, e = .returned v) ∧
      LMid w' base B bs (es ++ [((blk.getD (m - 1) (0, [])).1, z)]) (many + (m : Int)) (total + (totalP blk : Int)) ∧ Mild base w w' := by
  obtain ⟨i0, hi0, hz0, hz1, hz2⟩ := info_parts info_end
  subst hm
  have hbase : base ≤ w.heap.size := by have := h.lt; have := h.1; omega
  obtain ⟨j, hj⟩ : ∃ j, j = blk.length - 1 := ⟨_, rfl⟩
  have hjm : j < blk.length := by omega
  obtain ⟨p0, p1⟩ := hpc.at_ hjm
  obtain ⟨b1, o1, e1, hb1, hcc⟩ := hr.at_ (by rw [hpc.len]; omega)
  have hcd := hcc _ _ p0
  obtain ⟨x, hx⟩ : ∃ x, x = (blk.getD j (0, [])).1 := ⟨_, rfl⟩
  rw [← hx] at hcd
  rw [← hj, ← hx]
  have hkj : IntKind.i64.wrap ((blk.length : Int) - 1) = (j : Int) := by rw [IntWalk.i64_in _ (by omega)]; omega
  have hwj : IntKind.i64.wrap (j : Int) = (j : Int) := IntWalk.i64_in _ (by omega)
  have hkj2 : (blk.length : Int) - 1 = (j : Int) := by omega
  obtain ⟨hB, vb, ve, hv, ho, he⟩ := h
  obtain ⟨⟨c0, c1, c2, c3⟩, f0, f1, f2, f3⟩ := cell_four hv
  obtain ⟨M, hM⟩ : ∃ M, M = blk.length := ⟨_, rfl⟩
  have HPC := Lib.hid hpc
  have HR := Lib.hid hr
  have HML := Lib.hid hM
  have hblt : B < w.heap.size := (Array.getElem?_eq_some_iff.1 hv).1
  have HV := Lib.hid hv
  have HO := Lib.hid ho
  have HE := Lib.hid he
  have HX := Lib.hid hx
  have hc1a : ∀ o, (w.alloc o).cell? ⟨B, 1, none⟩ = some ve := fun o => (((Below.refl w.heap.size w).alloc (Nat.le_refl _) o).cell (p := ⟨B, 1, none⟩) hblt).trans c1
  have hcda : ∀ o, (w.alloc o).cell? ⟨b1, o1 + j * 2, none⟩ = some (.int .i64 x) := fun o => (((Below.refl w.heap.size w).alloc (Nat.le_refl _) o).cell (p := ⟨b1, o1 + j * 2, none⟩) hb1).trans hcd
  subst e1
  rw [← hM] at hjm hc h0 hm8 hkj hkj2
  rw [← hM]
  clear hpc hr hM hv ho he hx p0 p1 hcc hj
  go_enter Try.func30, Try.ntmps30
  go_upto_region 0 with fail
  go_cut [] from 8 to 26 (fun wx => LMid wx base B bs (es ++ [(x, z)]) many total ∧ Mild base w wx)
  case first =>
    go_region_law (first
      | (refine step_append_lies _ (by rfl) _ _ _ (by rfl) base 64 i0 _ 2 16 Try.underlying56 hi0 hz0 hz1 hz2 rfl (by omega) ve es.length (endCells es) (by rfl) ((HE.out.alloc _).drew)
          ⟨w.heap.size, 0, none⟩ 1 1 [.int .i64 x, .int .i64 (z : Int)] (by rfl) (by rfl) (World.news_of_block (cs := #[.int .i64 x, .int .i64 (z : Int)]) (t := 64) (fr := (0, 0)) (heap_alloc_new w _)) (by intro u hu; simp at hu; rcases hu with hu | hu <;> (subst hu; rfl))
          (by omega) (by unfold maxLen; omega) (by omega) (by simp; omega) (w.heap.size + 1) (by simp) ?_
         intro gg cap w1 hown1 hgrow hat hlt
         obtain ⟨hv1, hmid, hmild⟩ := LMid.pushed hB HV.out HO.out HE.out (((Below.refl _ w).alloc (Nat.le_refl _) _).drew) hgrow hown1
         obtain ⟨⟨cB0, cB1, cB2, cB3⟩, fB0, fB1, fB2, fB3⟩ := cell_four hv1))
    all_goals
      go_wp2_with fail
      go_meet
      exact ⟨hmid, hmild⟩
  case rest =>
    clear hc1a hcda hcd c0 c1 c2 c3 f0 f1 f2 f3 hwj hkj hkj2 hjm HV HO HE hb1
    obtain ⟨hmid, hmild⟩ := hcut
    have hRM := HR.out.mild hmild
    obtain ⟨hn1, hn2⟩ := hmid.setMany (many + (M : Int))
    have HN1 := Lib.hid hn1
    have HN2 := Lib.hid (hmild.trans hn2)
    obtain ⟨_, vb', ve', hv', _, _⟩ := hmid
    obtain ⟨⟨c0, c1, c2, c3⟩, f0, f1, f2, f3⟩ := cell_four hv'
    clear hv' hn1 hn2 hmild hRM
    go_wp2
    go_loopw [37] (fun i wr => CloseRel base B bs (es ++ [(x, z)]) blk (many + (M : Int)) total w i wr) (fun i _ => M - (intOf i).toNat)
    case atStart => exact ⟨0, by omega, rfl, by simpa [totalP] using HN1.out, HN2.out⟩
    case round =>
      obtain ⟨k, hk, rfl, hmid, hmild⟩ := hrel
      by_cases hlt : k < M
      · have hrm := HR.out.mild hmild
        obtain ⟨q0, A2, c2, q1, hlc, hcx2, _⟩ := HPC.out.at_ (k := k) (by rw [← HML.out]; exact hlt)
        obtain ⟨b2, o2, e2, hb2, hcc⟩ := hrm.at_ (by rw [HPC.out.len, ← HML.out]; omega)
        have hq0 := hcc _ _ q0
        have hq1 := hcc _ _ q1
        rw [← Nat.add_assoc] at hq1
        injection e2 with e2
        injection e2 with e3 e4
        subst e3 e4
        have htk := totalP_take (l := blk) (k := k) (by rw [← HML.out]; exact hlt)
        have htl := totalP_le_take (l := blk) (k + 1)
        obtain ⟨q, hq⟩ : ∃ q, q = blk.getD k (0, []) := ⟨_, rfl⟩
        rw [← hq] at hq0 hq1 htk hlc
        obtain ⟨y, ps⟩ := q
        simp only at hq0 hq1 htk hlc
        obtain ⟨P, hP⟩ : ∃ P, P = ps.length := ⟨_, rfl⟩
        rw [← hP] at hq1 htk hlc
        obtain ⟨T, hT⟩ : ∃ T : Int, T = total + (totalP (blk.take k) : Int) := ⟨_, rfl⟩
        rw [← hT] at hmid
        have hT2 : T + (P : Int) = total + (totalP (blk.take (k + 1)) : Int) := by omega
        have hbr : base ≤ wr.heap.size := by have := hmild.below.size; omega
        have hal := (Below.refl wr.heap.size wr).alloc (Nat.le_refl _) (.cells #[.int .i64 y, .slice A2 P c2] 46)
        have hma := hmid.below hal
        have hmd := hma.below (Below.refl _ (wr.alloc (.cells #[.int .i64 y, .slice A2 P c2] 46))).drew
        obtain ⟨hn1, hn2⟩ := hmd.setTotal (T + (P : Int))
        have HN1 := Lib.hid hn1
        have HN2 := Lib.hid ((hmild.trans (Mild.of_below hal hbr)).trans ((Mild.of_below (Below.refl _ _).drew (by have := hal.size; omega)).trans hn2))
        have hT0 : 0 ≤ T := by omega
        have hTP : T + (P : Int) ≤ 1000000000 := by omega
        obtain ⟨_, vb', ve', hv', _, _⟩ := hma
        obtain ⟨⟨d0, d1, d2, d3⟩, g0, g1, g2, g3⟩ := cell_four hv'
        have HT2 := Lib.hid hT2
        clear hv' hn1 hn2 hmild hmid hmd hal hrm q0 q1 hcc hT hT2 htk htl hq hP
        have h8 := HN1.out
        rw [HT2.out] at h8
        have H8 := Lib.hid h8
        clear h8
        go_wp2
        go_region_law (fail)
        all_goals
          go_wp2
          go_roundw
          case rel => exact ⟨k + 1, by have := HML.out; omega, by simp, by first | exact H8.out | (have h8 := H8.out; rw [← HT2.out] at h8 ⊢; exact h8), HN2.out⟩
          case measure => simp [intOf]; omega
      · obtain rfl : k = M := by have := HML.out; omega
        rw [List.take_of_length_le (by have := HML.out; omega)] at hmid
        have H8 := Lib.hid hmid
        have H9 := Lib.hid hmild
        clear hmid hmild
        go_wp2
        go_end0
        exact ⟨⟨_, rfl⟩, H8.out, H9.out⟩

/-- A block that is taken in behind full blocks. -/
theorem list_close (base B : Nat) (bs : List UInt8) (l blk : List Po) (n : Nat) (A : Option Addr) (m c : Nat) (cs : List Value) (z : Nat) (w : World) (h : LAt w base B bs l) (hl : l.length = 8 * n) (hm : blk.length = m) (hc : m ≤ c) (hcx : c ≤ maxLen)
    (hpc : PoCells (fun _ _ => True) blk cs) (hr : RowM base w A cs) (h0 : 0 < m) (hm8 : m ≤ 8) (hll : l.length ≤ 1000000) (htot : totalP (l ++ blk) ≤ 1000000000) (hz : z = (bytesP (-1) (l ++ blk)).length) (hzb : z ≤ 1000000000) :
    Calls Try.prog 30 #[.pointer (some ⟨B, 0, none⟩), .slice A m c, .int .i64 (z : Int)] w fun e w' => (∃ v, e = .returned v) ∧ LAt w' base B bs (l ++ blk) ∧ Mild base w w' := by
  have hb := blocksP_push hl (b := blk) (by omega) (by omega)
  have hmid := lat_mid.1 h
  rw [totalP_append] at htot
  refine (close_mid base B bs _ _ _ A m c blk cs z w hmid hm hc hcx hpc hr h0 (by omega) (by rw [endsC_length]; unfold blocksP; omega) (by omega) (by omega) hzb).mono ?_
  rintro e w' ⟨h1, h2, h3⟩
  refine ⟨h1, lat_mid.2 ?_, h3⟩
  rw [hb.2, endsC_push hl (by omega) (by omega), totalP_append, List.length_append, hm, docOf_append, docOf_getD (by omega), hm, ← hz]
  rw [hb.1] at h2
  have e1 : ((l.length + m : Nat) : Int) = (l.length : Int) + (m : Int) := by omega
  have e2 : ((totalP l + totalP blk : Nat) : Int) = (totalP l : Int) + (totalP blk : Int) := by omega
  rw [e1, e2]
  exact h2
end Go.Proofs.Ytnmnbckaccicaaa

/- A field of where a block ends. -/
namespace Go.Proofs.Ytnmnbckaccicaaa
open Go Go.RowKit
theorem fld_at (x a : Int) (w : World) : Sem.run Try.prog (Instr.field 64 (.agg #[.int .i64 x, .int .i64 a]) 1) w = .ok (.int .i64 a) w := by
  simp [Instr.field, go_sem, part, asAgg]
theorem fld_doc (x a : Int) (w : World) : Sem.run Try.prog (Instr.field 64 (.agg #[.int .i64 x, .int .i64 a]) 0) w = .ok (.int .i64 x) w := by
  simp [Instr.field, go_sem, part, asAgg]
end Go.Proofs.Ytnmnbckaccicaaa

/- What package posting's May and put answer: whether postings may be, and the bytes of those that may, behind a document. -/
set_option linter.unusedVariables false
namespace Go.Proofs.Ytnmnbckaccicaaa
open Go Go.RowKit

def MayRelD (l : List Po) (w : World) (r last i : Value) (wr : World) : Prop := r = .bool false ∧ ∃ (k : Nat) (x : Int), k ≤ l.length ∧ i = .int .i64 (k : Int) ∧ last = .int .i64 x ∧ mayB' x (l.drop k) = mayB' (-1) l ∧ Below w.heap.size w wr

set_option maxHeartbeats 2000000 in
set_option maxRecDepth 100000 in
theorem posting_May (A : Option Addr) (n d : Nat) (l : List Po) (w : World) (hn : l.length = n) (hnx : n ≤ 1073741824) (hpo : Posts w w.heap.size A l) (hpl : ∀ p ∈ l, p.2.length ≤ 1073741824) :
    Calls Try.prog 26 #[.slice A n d] w fun e w' => e = .returned (.bool (mayB' (-1) l)) ∧ Below w.heap.size w w' := by
  subst hn
  obtain ⟨ans, hans⟩ : ∃ ans, ans = mayB' (-1) l := ⟨_, rfl⟩
  rw [← hans]
  have HANS := Lib.hid hans
  have HPO := Lib.hid hpo
  have HPL := Lib.hid hpl
  clear hans hpo hpl
  go_enter Try.func26, Try.ntmps26
  go_wp2
  go_loopw [2, 3, 8] (fun r last i wr => MayRelD l w r last i wr) (fun _ _ i _ => l.length - (intOf i).toNat)
  case atStart => exact ⟨rfl, 0, -1, by omega, rfl, rfl, rfl, Below.refl _ _⟩
  case round =>
    obtain ⟨rfl, k, x, hk, rfl, rfl, hris, hbw⟩ := hrel
    have hsz := hbw.size
    by_cases hlt : k < l.length
    · obtain ⟨b1, o1, e1, hb1, hc1, A2, c2, hc2, hlc, hcx, hr2⟩ := (HPO.out.below hbw).at_ hlt
      subst e1
      have hlp := HPL.out (l.getD k (0, [])) (by rw [List.getD_eq_getElem?_getD, List.getElem?_eq_getElem hlt]; simp)
      rw [drop_po hlt] at hris
      obtain ⟨q, hq⟩ : ∃ q, q = l.getD k (0, []) := ⟨_, rfl⟩
      rw [← hq] at hc1 hc2 hlc hr2 hris hlp
      obtain ⟨y, ps⟩ := q
      simp only at hc1 hc2 hlc hr2 hlp
      obtain ⟨P, hP⟩ : ∃ P, P = ps.length := ⟨_, rfl⟩
      rw [← hP] at hc2 hlp
      have hmp := fun w1 (h : Row w1 w1.heap.size A2 (ints ps)) => may_places A2 P c2 ps w1 h hP.symm (by omega)
      have hr3 : Row (wr.alloc (.cells #[.int .i64 y, .slice A2 P c2] 46)) (wr.alloc (.cells #[.int .i64 y, .slice A2 P c2] 46)).heap.size A2 (ints ps) :=
        (hr2.below ((Below.refl _ wr).alloc hsz _)).more (by simp; omega)
      have hmp2 := hmp _ hr3
      rw [mayB'] at hris
      simp only at hris
      have HBW := Lib.hid (hbw.trans (((Below.refl _ wr).alloc (Nat.le_refl _) (.cells #[.int .i64 y, .slice A2 P c2] 46)).mono hsz))
      clear hmp hr3 hr2 hP hq hbw
      by_cases hxy : y ≤ x
      · rw [decide_eq_false (p := x < y) (by omega), Bool.false_and, Bool.false_and, Bool.false_and, ← HANS.out] at hris
        subst hris
        have hd : decide (y ≤ x) = true := decide_eq_true hxy
        clear hmp2
        go_wp2
        go_ret
        exact ⟨rfl, HBW.out⟩
      · have hd : decide (y ≤ x) = false := decide_eq_false hxy
        by_cases hyb : 2147483648 ≤ y
        · rw [decide_eq_false (p := y < 2147483648) (by omega), Bool.and_false, Bool.false_and, Bool.false_and, ← HANS.out] at hris
          subst hris
          have hd2 : decide (2147483648 ≤ y) = true := decide_eq_true hyb
          clear hmp2
          go_wp2
          go_ret
          exact ⟨rfl, HBW.out⟩
        · have hd2 : decide (2147483648 ≤ y) = false := decide_eq_false hyb
          rw [decide_eq_true (p := x < y) (by omega), decide_eq_true (p := y < 2147483648) (by omega), Bool.true_and, Bool.true_and] at hris
          have HMP := Lib.hid hmp2
          have HR := Lib.hid hris
          clear hmp2 hris
          rcases hpb : placesB ps with _ | _
          · rw [hpb] at HMP HR
            go_wp2_with (go_at_call 38; refine HMP.out.mono ?_; rintro e w' ⟨rfl, rfl⟩)
            go_ret
            exact ⟨ret_bool (by rw [HANS.out, ← HR.out, Bool.false_and]), HBW.out⟩
          · rw [hpb] at HMP HR
            go_wp2_with (go_at_call 38; refine HMP.out.mono ?_; rintro e w' ⟨rfl, rfl⟩)
            go_roundw
            case rel => exact ⟨rfl, k + 1, y, by omega, by go_num, rfl, by rw [← HR.out, Bool.true_and], HBW.out⟩
            case measure => simp [intOf]; omega
    · have hx2 : mayB' x (l.drop k) = true := by rw [List.drop_eq_nil_of_le (by omega)]; rfl
      rw [hx2, ← HANS.out] at hris
      subst hris
      clear hx2
      go_wp2
      go_ret
      exact ⟨rfl, hbw⟩

def PutRelD (all : List UInt8) (l : List Po) (w : World) (last v i : Value) (wr : World) : Prop :=
  ∃ (cur : List UInt8) (k : Nat) (x : Int), k ≤ l.length ∧ i = .int .i64 (k : Int) ∧ last = .int .i64 x ∧ -1 ≤ x ∧ mayB' x (l.drop k) = true ∧ cur.length ≤ all.length ∧ cur ++ bytesP x (l.drop k) = all ∧ Own w.heap.size wr v cur ∧ Below w.heap.size w wr

set_option maxHeartbeats 2000000 in
set_option maxRecDepth 100000 in
theorem posting_put (A : Option Addr) (n d : Nat) (l : List Po) (x0 : Int) (w : World) (hn : l.length = n) (hn60 : n ≤ 100) (hpo : Posts w w.heap.size A l) (hx0 : -1 ≤ x0) (hmay : mayB' x0 l = true) (hpl : ∀ p ∈ l, p.2.length ≤ 20) (hal0 : (bytesP x0 l).length ≤ 1000000) :
    Calls Try.prog 28 #[.slice A n d, .int .i64 x0] w (GaveOwn w.heap.size (bytesP x0 l) w) := by
  obtain ⟨i0, hi0, hz0, hz1, hz2⟩ := info_parts info_byte
  subst hn
  obtain ⟨all, hall⟩ : ∃ all, all = bytesP x0 l := ⟨_, rfl⟩
  rw [← hall] at hal0
  rw [← hall]
  have HALL := Lib.hid hall
  have HPO := Lib.hid hpo
  have HMAY := Lib.hid hmay
  have HPL := Lib.hid hpl
  clear hall hpo hmay hpl
  go_enter Try.func28, Try.ntmps28
  go_wp2
  go_loopw [1, 5, 12] (fun last v i wr => PutRelD all l w last v i wr) (fun _ _ i _ => l.length - (intOf i).toNat)
  case atStart => exact ⟨[], 0, x0, by omega, rfl, rfl, hx0, HMAY.out, by simp, HALL.out.symm, World.ownsRow_nil _ _ _ _, Below.refl _ _⟩
  case round =>
    obtain ⟨cur, k, x, hk, rfl, rfl, hx1, hris, hcl, hcat, hown, hbw⟩ := hrel
    have hsz := hbw.size
    by_cases hlt : k < l.length
    · obtain ⟨b1, o1, e1, hb1, hc1, A2, c2, hc2, hlc, hcx, hr2⟩ := (HPO.out.below hbw).at_ hlt
      subst e1
      have hlp := HPL.out (l.getD k (0, [])) (by rw [List.getD_eq_getElem?_getD, List.getElem?_eq_getElem hlt]; simp)
      rw [drop_po hlt] at hris hcat
      obtain ⟨q, hq⟩ : ∃ q, q = l.getD k (0, []) := ⟨_, rfl⟩
      rw [← hq] at hc1 hc2 hlc hr2 hris hcat hlp
      obtain ⟨y, ps⟩ := q
      simp only at hc1 hc2 hlc hr2 hlp
      obtain ⟨hxy, hyb, hps, hris⟩ := mayB'_cons.1 hris
      simp only at hxy hyb hps hris
      simp only [bytesP] at hcat
      obtain ⟨g, hg⟩ : ∃ g : Nat, y - (x + 1) = (g : Int) := ⟨(y - (x + 1)).toNat, by omega⟩
      rw [hg, Int.toNat_natCast, ← List.append_assoc, ← List.append_assoc] at hcat
      have hcl2 : ((cur ++ putB g) ++ putR ps).length ≤ all.length := by rw [← hcat, List.length_append (bs := bytesP y _)]; omega
      have hpb := places_bd hps
      have hg0 : g < 9223372036854775808 := by omega
      have hpu : ∀ w', Calls Try.prog 41 #[.slice none 0 0, .int .i64 (y - (x + 1))] w' (GaveOwn w'.heap.size (putB g) w') := fun w' => by
        have := vint_Put none 0 0 [] g w' rfl (Nat.le_refl _) Row.nil hg0 (by simp)
        rw [List.nil_append] at this
        rwa [hg]
      obtain ⟨P, hP⟩ : ∃ P, P = ps.length := ⟨_, rfl⟩
      have hal := (Below.refl wr.heap.size wr).alloc (Nat.le_refl _) (.cells #[.int .i64 y, .slice A2 P c2] 46)
      have hpr := vint_PutRising_ok none 0 0 [] A2 P c2 ps (wr.alloc (.cells #[.int .i64 y, .slice A2 P c2] 46)) rfl (Nat.le_refl _) Row.nil (by omega) hP.symm (by omega) ((hr2.below (hal.mono hsz)).more (by simp; omega)) (fun x hx => by have := hpb x hx; omega) (placesB_iff.1 hps).1
      rw [List.nil_append] at hpr
      rw [← hP] at hc2 hlc
      have hpl9 := putR_length hps (by omega)
      obtain ⟨Q, hQ⟩ : ∃ Q, Q = (putR ps).length := ⟨_, rfl⟩
      rw [← hP, ← hQ] at hpl9
      have hP20 : P ≤ 20 := by omega
      have h9g := putB_nine hg0
      obtain ⟨G, hG⟩ : ∃ G, G = (putB g).length := ⟨_, rfl⟩
      rw [← hG] at h9g
      have HQ := Lib.hid hQ
      have HGL := Lib.hid hG
      have HPU := Lib.hid hpu
      have HPR := Lib.hid hpr
      have HAL := Lib.hid hal
      have HBW := Lib.hid hbw
      have HCAT := Lib.hid hcat
      have HRIS := Lib.hid hris
      have HCL := Lib.hid hcl2
      have HOW := Lib.hid (hown.below hal)
      have HCV : Hid (∀ k, u5.ownBlock = some k → k < wr.heap.size) := Lib.hid fun k hk => (hown.lt k hk).2
      clear hq hg hpu hP hal hpr hQ hG hcat hris hcl2 hown hpb hps hr2 hlp hbw
      go_wp2_with (go_at_call 40; refine HPR.out.mono ?_)
      rintro e w4 ⟨v4, rfl, hown4, hb4⟩
      obtain ⟨A4, c4, rfl, _, hr4⟩ := hown4.row
      have hnb : wr.heap.size < (wr.alloc (.cells #[.int .i64 y, .slice A2 P c2] 46)).heap.size := by simp
      have hpb4 : w4.heap[wr.heap.size]? = some (.cells #[.int .i64 y, .slice A2 P c2] 46 (0, 0)) := (hb4.block wr.heap.size hnb).trans (heap_alloc_new wr _)
      have hdc := (cells_two hpb4).1
      have HO4 := Lib.hid hown4
      have hB4 := HBW.out.trans ((HAL.out.mono hsz).trans (hb4.mono (by simp; omega)))
      have hs4 := hB4.size
      have HR4 := Lib.hid hr4
      have HB4 := Lib.hid hB4
      have hw4 : wr.heap.size + 1 ≤ w4.heap.size := by have := hb4.size; simpa using this
      have HOW4 := Lib.hid (HOW.out.below hb4)
      rw [← HQ.out]
      clear hown4 hb4 hr4 hB4 HOW HPR
      go_wp2_with (go_at_call 41; refine (HPU.out _).mono ?_)
      rintro e w5 ⟨v5, rfl, hown5, hb5⟩
      obtain ⟨A5, c5, rfl, _, hr5⟩ := hown5.row
      have hpb5 : w5.heap[wr.heap.size]? = some (.cells #[.int .i64 y, .slice A2 P c2] 46 (0, 0)) := (hb5.block wr.heap.size (by omega)).trans hpb4
      have HOW5 := Lib.hid (HOW4.out.below hb5)
      have HR5 := Lib.hid hr5
      have HO5 := Lib.hid (HO4.out.below hb5)
      have hB5 := HB4.out.trans (hb5.mono hs4)
      have hs5 := hB5.size
      have HB5 := Lib.hid hB5
      have hw5 : w4.heap.size ≤ w5.heap.size := hb5.size
      rw [← HGL.out]
      have hcurl : cur.length + G + Q ≤ all.length := by have := HCL.out; rw [List.length_append, List.length_append, ← HGL.out, ← HQ.out] at this; omega
      clear hown5 hb5 hr5 hB5 hdc hpb4 HOW4 HO4 HR4 HPU HB4
      go_wp2_with (at_builtin; refine wpList_append_row _ rfl (.tmp 22) (.tmp 28) 55 rfl w.heap.size 5 i0 _ 1 1 Try.underlying55 hi0 hz0 hz1 hz2 rfl (by omega) _ cur.length (Lib.byteCells cur) rfl HOW5.out _ A5 G c5 (Lib.byteCells (putB g)) rfl (by rw [Lib.byteCells_length, HGL.out]; omega) HR5.out (byteCells_oneCell _) (by unfold maxLen; omega) (by omega) hs5 ?_)
      intro v6 w6 hown6 hg6
      have hb6 : Below w.heap.size w5 w6 := (Below.refl _ w5).grown hg6 hs5 fun k hk => (HOW5.out.lt k hk).1
      have hpb6 : w6.heap[wr.heap.size]? = some (.cells #[.int .i64 y, .slice A2 P c2] 46 (0, 0)) := (hg6.block wr.heap.size (by omega) (fun e => owned_apart HOW5.out hpb5 (by decide) e.symm)).trans hpb5
      have hs6 : w.heap.size ≤ w6.heap.size := by have := hb6.size; omega
      have hw6 : w5.heap.size ≤ w6.heap.size := hb6.size
      have ho6 : Own (wr.alloc (.cells #[.int .i64 y, .slice A2 P c2] 46)).heap.size w6 (.slice A4 (putR ps).length c4) (putR ps) :=
        owned_keep HO5.out fun g hg => hg6.block g (HO5.out.lt g hg).2 fun e => by
          have h1 := HCV.out g e.symm
          have h2 := (HO5.out.lt g hg).1
          omega
      have hr6 := owned_row_of ho6
      have HR6 := Lib.hid hr6
      have HO6 := Lib.hid (own_more HGL.out.symm hown6)
      obtain ⟨cur2, hc2⟩ : ∃ cur2, cur2 = cur ++ putB g := ⟨_, rfl⟩
      have hl2 : cur2.length + Q ≤ 1000000 := by rw [hc2, List.length_append, ← HGL.out]; omega
      rw [← hc2] at HO6
      have HC2 := Lib.hid hc2
      have HB6 := Lib.hid (HB5.out.trans hb6)
      clear hown6 hg6 hb6 ho6 hr6 hc2 HB5 HOW5 HO5 HR5 HCV hpb5
      go_wp2_with (at_builtin; refine wpList_append_row _ rfl (.tmp 30) (.tmp 31) 55 rfl w.heap.size 5 i0 _ 1 1 Try.underlying55 hi0 hz0 hz1 hz2 rfl (by omega) _ cur2.length (Lib.byteCells cur2) rfl HO6.out _ A4 Q c4 (Lib.byteCells (putR ps)) rfl (by rw [Lib.byteCells_length, HQ.out]; omega) HR6.out (byteCells_oneCell _) (by unfold maxLen; omega) (by omega) hs6 ?_)
      intro v7 w7 hown7 hg7
      have hb7 : Below w.heap.size w6 w7 := (Below.refl _ w6).grown hg7 hs6 fun k hk => (HO6.out.lt k hk).1
      have hpb7 : w7.heap[wr.heap.size]? = some (.cells #[.int .i64 y, .slice A2 P c2] 46 (0, 0)) := (hg7.block wr.heap.size (by omega) (fun e => owned_apart HO6.out hpb6 (by decide) e.symm)).trans hpb6
      have hd7 := (cells_two hpb7).1
      have hfin : PutRelD all l w (.int .i64 y) v7 (.int .i64 ((k : Int) + 1)) w7 := by
        refine ⟨cur2 ++ putR ps, k + 1, y, by omega, by simp, rfl, by omega, HRIS.out, by rw [HC2.out]; exact HCL.out, by rw [HC2.out]; exact HCAT.out, own_more HQ.out.symm hown7, HB6.out.trans hb7⟩
      have HF := Lib.hid hfin
      clear hfin hown7 hg7 hb7 hpb6 hpb7
      go_wp2
      go_roundw
      case rel => exact HF.out
      case measure => simp [intOf]; omega
    · rw [List.drop_eq_nil_of_le (by omega)] at hcat
      simp only [bytesP, List.append_nil] at hcat
      subst hcat
      go_wp2
      go_ret
      exact ⟨_, rfl, hown, hbw⟩
end Go.Proofs.Ytnmnbckaccicaaa

/- A region that draws its order, in a round of a range over a function: what is shown of it outside of every round, step by step, holds there too. -/
set_option linter.unusedVariables false
namespace Go.Proofs.Ytnmnbckaccicaaa
open Go

section
variable {P : Program} {ops : Array Oper} {Q : Exit → Act → World → Prop} {md : Region.Mode} {n l : Nat}

/-- The post at its normal end alone. -/
def AtEnd (Q : Exit → Act → World → Prop) : Exit → Act → World → Prop
  | .normal, a, w => Q .normal a w
  | _, _, _ => False
theorem AtEnd.imp : ∀ e a w, AtEnd Q e a w → Q e a w := fun e a w h => by
  cases e <;> first | exact h | exact (h : False).elim
theorem AtEnd.fin {a : Act} {w : World} (h : Q .normal a w) : AtEnd Q .normal a w := h
theorem AtEnd.no_out : ¬ LetsOut (AtEnd Q) := fun ⟨_, _, h⟩ => h

theorem step_in_round {o : Oper} {a : Act} {w : World} {K : Act → World → Prop} (hd : ∀ c, o.op ≠ .defer c) (h : o.wp P a w K Q) : o.wpIn (Fence.wide.inRound l) n P a w K Q := by
  refine ⟨fun _ _ => trivial, ?_⟩
  have e : o.semAt (Fence.wide.inRound l).round a.eval = execOp a.eval o := Oper.semAt_some l _ _ hd
  rw [e]
  unfold Oper.wp at h
  generalize (execOp a.eval o).run P w = r at *
  cases r with
  | ok x w' =>
    cases x <;> first
      | exact h
      | exact (h : False).elim
      | exact ⟨fun e => (by cases e), CallsIn.inRound l (callsIn_wide.2 h)⟩
      | exact ⟨fun e => (by cases e), fun c cs _ => let ⟨v, w2, h1, h2⟩ := h c cs; ⟨v, w2, h1, stepsIn_wide.2 h2⟩⟩
  | halt x w' => cases x <;> exact h

theorem op_in_round {i : Nat} {a : Act} {w : World} {K K' : Act → World → Prop} (hd : ∀ (i : Nat) (o : Oper), ops[i]? = some o → ∀ c, o.op ≠ .defer c) (hk : ∀ a w, K a w → K' a w) (h : wpOp P ops (AtEnd Q) i K a w) : wpOpIn (Fence.wide.inRound l) n P ops (AtEnd Q) i K' a w := by
  unfold wpOp at h
  unfold wpOpIn
  cases ho : ops[i]? with
  | none => rw [ho] at h; exact hk _ _ h
  | some o =>
    rw [ho] at h
    simp only at h ⊢
    split
    · rename_i hw
      rw [if_pos hw] at h
      rcases h with h | ⟨_, h⟩
      · exact Oper.wpIn_mono hk (step_in_round (hd i o ho) h)
      · exact (AtEnd.no_out h).elim
    · rename_i hw
      rw [if_neg hw] at h
      exact ⟨fun _ _ => trivial, hk _ _ h⟩

theorem any_in_round (hd : ∀ (i : Nat) (o : Oper), ops[i]? = some o → ∀ c, o.op ≠ .defer c) : ∀ (fuel : Nat) (listed : Array Bool) (a : Act) (w : World), wpAny P md ops (AtEnd Q) fuel listed a w → wpAnyIn (Fence.wide.inRound l) n P md ops (AtEnd Q) fuel listed a w
  | 0, _, _, _, h => h
  | fuel + 1, listed, a, w, h => ⟨h.1, fun i hi => op_in_round hd (fun a' w' h' => any_in_round hd fuel _ a' w' h') (h.2 i hi)⟩

def notDefer (o : Oper) : Bool := match o.op with | .defer _ => false | _ => true
theorem no_defer (h : ops.toList.all notDefer = true) : ∀ (i : Nat) (o : Oper), ops[i]? = some o → ∀ c, o.op ≠ .defer c := fun i o hi c e => by
  have h1 := List.all_eq_true.1 h o (by rw [Array.mem_toList_iff]; exact Array.mem_of_getElem? hi)
  unfold notDefer at h1
  rw [e] at h1
  cases h1

/-- append, whose run is known, as one step of a region that draws. -/
theorem step_append_known {o : Oper} {a : Act} {w : World} {K : Act → World → Prop} {E : Prop} (hg : o.guard = none) (s x : Operand) (t : TypeId)
    (hop : o.op = Op.call { callee := Callee.builtin Builtin.append, args := #[s, x], argTypes := #[t, t] }) (vs vx : Value) (hs : a.eval s = vs) (hx : a.eval x = vx) (v' : Value) (w' : World)
    (hr : (Builtin.append_ #[t, t] o.type #[vs, vx]).run P w = .ok v' w') (hK : K (a.put o.dst v') w') : if Region.wanted o (yielded ops a.tmps) = true then Oper.wp P o a w K Q else E := by
  have hw : Region.wanted o (yielded ops a.tmps) = true := by simp [Region.wanted, hg]
  rw [if_pos hw]
  exact Lib.wp_append_run w s x t t hop vs vx hs hx v' w' hr hK

/-- A region in a round, by steps that hold S. -/
theorem region_in_round {S : World → Prop} {id : Nat} {a : Act} {w : World} (hm : P.follows .mixedOrders = true) (hd : ops.toList.all notDefer = true) (hS : S w.drew)
    (h : S w.drew → wpAnyH P .any ops (AtEnd Q) S ops.size (Array.replicate ops.size false) a w.drew) : (Code.region id ops true).wpIn (Fence.wide.inRound l) n P Q a w :=
  wpIn_mono (wpIn_region_any hm (any_in_round (no_defer hd) _ _ _ _ (wpAny_of_held _ _ _ _ (h hS)))) AtEnd.imp
end
end Go.Proofs.Ytnmnbckaccicaaa

/- What package posting's Make answers of postings that may be: a list of these. -/
set_option linter.unusedVariables false
namespace Go.Proofs.Ytnmnbckaccicaaa
open Go Go.RowKit
attribute [local go_sem] Oper.semAt_some

/-- What a call gives that makes a list of postings. -/
def MadeList (l : List Po) (w : World) (e : Ending) (w' : World) : Prop := ∃ B, e = .returned (.tuple #[.pointer (some ⟨B, 0, none⟩), .int .i64 0]) ∧ LAt w' w.heap.size B (bytesP (-1) l) l ∧ Below w.heap.size w w'

theorem bytesP_pos {l : List Po} {x : Int} (h : l ≠ []) : 0 < (bytesP x l).length := by
  cases l with
  | nil => exact absurd rfl h
  | cons p r =>
    have := putB_pos (p.1 - (x + 1)).toNat
    rw [bytesP, List.length_append]
    omega
/-- What lies there between two rounds: the blocks that came are the list's. -/
def MakeI (w : World) (B : Nat) (A : Option Addr) (n c : Nat) (l : List Po) (pre : List Nat) (W : World) : Prop :=
  (W.heap[B + 1 + 1]? = some (.cells #[.slice A n c] 22 (0, 0)) ∧ W.heap[B + 1 + 1 + 1]? = some (.cells #[.int .i64 8] 3 (0, 0))) ∧ LAt W w.heap.size B (bytesP (-1) (l.take (8 * pre.length))) (l.take (8 * pre.length)) ∧ W.heap[B + 1]? = some (.cells #[.pointer (some ⟨B, 0, none⟩)] 25 (0, 0)) ∧ Below w.heap.size w W
/-- The struct's bytes have grown. -/
theorem LAt.moreBytes {w w0 w1 : World} {base B : Nat} {bs cs : List UInt8} {l : List Po} {vb ve v' : Value} {m : Nat} (hB : base ≤ B) (hv : w.heap[B]? = some (.cells #[vb, ve, .int .i64 (l.length : Int), .int .i64 (totalP l : Int)] 58 (0, 0)))
    (ho : w.ownsRow base 5 1 vb bs.length (Lib.byteCells bs)) (he : w.ownsRow base 64 2 ve (blocksP l.length) (endsV l)) (hb : Below w.heap.size w w0) (hg : w0.grownBy w1 vb.ownBlock) (hm : cs.length = m)
    (hown : w1.ownsRow base 5 1 v' (bs.length + m) (Lib.byteCells bs ++ Lib.byteCells cs)) :
    w1.heap[B]? = some (.cells #[vb, ve, .int .i64 (l.length : Int), .int .i64 (totalP l : Int)] 58 (0, 0)) ∧ LAt (w1.setCell ⟨B, 0, none⟩ v') base B (bs ++ cs) l ∧ Mild base w (w1.setCell ⟨B, 0, none⟩ v') := by
  have hlt : B < w.heap.size := (Array.getElem?_eq_some_iff.1 hv).1
  have hv0 := (hb.block B hlt).trans hv
  have he0 := owned_below he hb
  have ho0 := owned_below ho hb
  have hv1 : w1.heap[B]? = some (.cells #[vb, ve, .int .i64 (l.length : Int), .int .i64 (totalP l : Int)] 58 (0, 0)) := (hg.block B (by have := hb.size; omega) (fun e => owned_apart ho0 hv0 (by decide) e.symm)).trans hv0
  have he1 : w1.ownsRow base 64 2 ve (blocksP l.length) (endsV l) := owned_keep he0 fun g hg' => hg.block g (he0.lt g hg').2 fun e => owned_apart2 ho0 he0 (by decide) hg' e.symm
  have hbw : base ≤ w.heap.size := by omega
  refine ⟨hv1, ⟨hB, v', ve, heap_setCell_same w1 B 0 _ _ _ hv1, owned_setCell (own_more hm hown) (owned_apart hown hv1 (by decide)) _, owned_setCell he1 (owned_apart he1 hv1 (by decide)) _⟩, ?_⟩
  exact (Mild.of_below hb hbw).trans ((Mild.grownOwn ho0 (.inr (.inr rfl)) hg (by have := hb.size; omega)).trans (Mild.setCell hv1 (.inl rfl) hB _))

set_option maxHeartbeats 8000000 in
set_option maxRecDepth 100000 in
theorem posting_Make (A : Option Addr) (n c : Nat) (l : List Po) (w : World) (hn : l.length = n) (hc : n ≤ c) (hcx : c ≤ maxLen) (hn100 : n ≤ 100) (hpo : Posts w w.heap.size A l) (hpl : ∀ p ∈ l, p.2.length ≤ 20) (hm : mayB' (-1) l = true) :
    Calls Try.prog 9 #[.slice A n c] w (MadeList l w) := by
  obtain ⟨i0, hi0, hz0, hz1, hz2⟩ := info_parts info_byte
  refine (callsIn_wide (n := 6)).1 ?_
  have my := posting_May A n c l w hn (by omega) hpo (fun p hp => by have := hpl p hp; omega)
  rw [hm] at my
  have MY := Lib.hid my
  have HPO := Lib.hid hpo
  have HPL := Lib.hid hpl
  have HM := Lib.hid hm
  have HN := Lib.hid hn
  clear my hpo hpl hm hn
  refine callsIn_of_wp_marks Try.func9 rfl trivial ?_ rfl
  simp only [Try.ntmps9, List.size_toArray, List.length_cons, List.length_nil, Nat.reduceAdd, Nat.reduceSub, Array.replicate_succ, Array.replicate_zero, List.push_toArray, List.append_toArray, List.nil_append, List.cons_append]
  gi_wp2_with (first
    | (refine ⟨trivial, ?_⟩; gi_at_call 26; refine (callsIn_wide.2 MY.out).mono ?_; rintro e w1 ⟨rfl, hb1⟩)
    | (gi_at_call 26; refine (callsIn_wide.2 MY.out).mono ?_; rintro e w1 ⟨rfl, hb1⟩)
    | (refine ⟨trivial, ?_⟩; gi_at_call 27; refine (callsIn_wide.2 (posting_Chunk A n c _)).mono ?_)
    | (gi_at_call 27; refine (callsIn_wide.2 (posting_Chunk A n c _)).mono ?_))
  rintro e w3 ⟨rfl, e1, e2, hb3, hz3⟩
  obtain ⟨B, hB⟩ : ∃ B, B = w1.heap.size := ⟨_, rfl⟩
  have hsz1 := hb1.size
  have hal := ((Below.refl w1.heap.size w1).alloc (Nat.le_refl _) (.cells #[.slice none 0 0, .slice none 0 0, .int .i64 0, .int .i64 0] 58)).alloc (by simp) (.cells #[.pointer (some ⟨w1.heap.size, 0, none⟩)] 25)
  have hb13 : Below w1.heap.size w1 w3 := hal.trans (hb3.mono (by simp; omega))
  have hb03 : Below w.heap.size w w3 := hb1.trans (hb13.mono hsz1)
  have hlist : w3.heap[w1.heap.size]? = some (.cells #[.slice none 0 0, .slice none 0 0, .int .i64 0, .int .i64 0] 58 (0, 0)) :=
    (hb3.block _ (by simp; omega)).trans ((Below.heap_alloc _ _ _ (by simp)).trans (heap_alloc_new w1 _))
  have hbox : w3.heap[w1.heap.size + 1]? = some (.cells #[.pointer (some ⟨w1.heap.size, 0, none⟩)] 25 (0, 0)) := by
    refine (hb3.block _ (by simp)).trans ?_
    have h1 := heap_alloc_new (w1.alloc (.cells #[.slice none 0 0, .slice none 0 0, .int .i64 0, .int .i64 0] 58)) (.cells #[.pointer (some ⟨w1.heap.size, 0, none⟩)] 25)
    rwa [World.size_alloc] at h1
  simp only [World.size_alloc] at e1 e2 hz3
  rw [← hB] at e1 e2 hz3 hlist hbox
  rw [← hB] at hsz1
  have hlat : LAt w3 w.heap.size B [] [] := ⟨hsz1, _, _, hlist, World.ownsRow_nil _ _ _ _, World.ownsRow_nil _ _ _ _⟩
  have hi0' : MakeI w B A n c l [] w3 := ⟨⟨e1, e2⟩, by simpa [bytesP] using hlat, hbox, hb03⟩
  obtain ⟨b, off, hA⟩ : ∃ b off, 0 < n → A = some ⟨b, off, none⟩ := by
    by_cases h0 : 0 < n
    · obtain ⟨b, off, e, _⟩ := HPO.out.at_ (k := 0) (by rw [HN.out]; exact h0)
      exact ⟨b, off, fun _ => e⟩
    · exact ⟨0, 0, fun h => absurd h h0⟩
  have HI0 := Lib.hid hi0'
  have HA := Lib.hid hA
  have HZ3 := Lib.hid hz3
  have HE1 := Lib.hid e1
  have HE2 := Lib.hid e2
  have HBW : Hid (w.heap.size ≤ B) := Lib.hid hsz1
  clear hi0' hlat hA hz3 e1 e2 hlist hbox hb03 hb13 hal hb3
  gi_wp2
  rw [← hB]
  clear hB hb1 hsz1
  refine wpIn_range_told (by omega) (gf := 39) (lb := #[.pointer (some ⟨B + 1 + 1, 0, none⟩), .pointer (some ⟨B + 1 + 1 + 1, 0, none⟩)]) rfl (enters_of Try.func39 (by kernel_rfl) rfl)
    (chunk_told 5 (B + 1 + 1) (B + 1 + 1 + 1) n c A b off (by omega) HA.out hc hcx (by omega) w3 HE1.out HE2.out) KpTwo.trans (fun W l o o' hl ho hc => KpTwo.putObj W l o' (by have := HZ3.out; omega) (by have := HZ3.out; omega)) (fun _ => rfl)
    (MakeI w B A n c l) (fun s A' B' h hb => ⟨⟨(hb.block _ (lt_of_block h.1.1)).trans h.1.1, (hb.block _ (lt_of_block h.1.2)).trans h.1.2⟩, h.2.1.below hb, (hb.block _ (lt_of_block h.2.2.1)).trans h.2.2.1, h.2.2.2.trans (hb.mono h.2.2.2.size)⟩)
    (fun s => ((Firm.block (by have := HZ3.out; omega) _).and (Firm.block (by have := HZ3.out; omega) _)).and <| (Firm.lat _ _ _ _ _).and ((Firm.block (by have := HZ3.out; omega) _).and (Firm.belowW (by have := HZ3.out; have := HBW.out; omega)))) (fun s x => Firm.pure) HI0.out
    (fun k => { tmps := #[.slice A n c, undef, .pointer none, .int .i64 0, .pointer (some ⟨B + 1, 0, none⟩), chunkV b off n k, undef, .slice A n c, .bool true, .bool false, .agg #[.slice none 0 0, .slice none 0 0, .int .i64 0, .int .i64 0], .pointer (some ⟨B, 0, none⟩), .slice A n c,
      .func (.func 39) #[] #[.pointer (some ⟨B + 1 + 1, 0, none⟩), .pointer (some ⟨B + 1 + 1 + 1, 0, none⟩)], chunkV b off n k, undef, undef, undef, undef, undef, undef, undef, undef, undef, undef, undef, undef, undef, undef, undef, undef, undef, undef, undef, undef, undef, undef, undef], defers := [] }) ?assign ?body ?done
  case assign =>
    intro lp x W K' hK'
    gi_wp2
    exact hK'
  case body =>
    rintro lp pre x W ⟨⟨hd1, hd2⟩, hla, hbx, hbw⟩ ⟨rfl, hx⟩
    obtain ⟨k, hk⟩ : ∃ k, k = pre.length := ⟨_, rfl⟩
    rw [← hk] at hla hx
    rw [← hk]
    have hMI : ∀ W', LAt W' w.heap.size B (bytesP (-1) (l.take (8 * (k + 1)))) (l.take (8 * (k + 1))) → W'.heap[B + 1]? = some (.cells #[.pointer (some ⟨B, 0, none⟩)] 25 (0, 0)) → Below w.heap.size w W' → Mild w.heap.size W W' → MakeI w B A n c l (pre ++ [k]) W' ∧ KpTwo (B + 1 + 1) (B + 1 + 1 + 1) W W' := fun W' h1 h2 h3 h4 => by
      have k1 := h4.keep _ _ hd1 (fun cs t fr e => by cases e; unfold Turning; decide)
      have k2 := h4.keep _ _ hd2 (fun cs t fr e => by cases e; unfold Turning; decide)
      refine ⟨?_, h4.below.size, fun _ => k1.trans hd1.symm, fun _ => k2.trans hd2.symm⟩
      unfold MakeI
      rw [List.length_append, List.length_singleton, ← hk]
      exact ⟨⟨k1, k2⟩, h1, h2, h3⟩
    have hnk : 8 * k < n := by unfold blocksP at hx; omega
    have hxl : k < blocksP l.length := by rw [HN.out]; exact hx
    have hqlen := blockP_length (l := l) k
    rw [HN.out] at hqlen
    have hcat := blocks_all l k
    have hacl : (l.take (8 * k)).length = 8 * k := by rw [List.length_take, HN.out]; omega
    have hmt := HM.out
    rw [← List.take_append_drop (8 * (k + 1)) l, mayB'_append, Bool.and_eq_true, hcat, mayB'_append, Bool.and_eq_true] at hmt
    have hx0 := docOf_ge _ _ hmt.1.1
    have hmb := hmt.1.2
    have hbpl : ∀ p ∈ blockP l (k : Int), p.2.length ≤ 20 := fun p hp => HPL.out p (by rw [blockP_nat] at hp; exact List.mem_of_mem_drop (List.mem_of_mem_take hp))
    have hapl : ∀ p ∈ l.take (8 * (k + 1)), p.2.length ≤ 20 := fun p hp => HPL.out p (List.mem_of_mem_take hp)
    have hbys : (bytesP (-1) (l.take (8 * (k + 1)))).length ≤ 100000 := by
      have h1 := bytesP_length (l.take (8 * (k + 1))) (-1) (by omega) (by rw [hcat, mayB'_append, hmt.1.1, hmb]; rfl) (fun p hp => by have := hapl p hp; omega)
      have h2 := totalP_le hapl
      have h3 : (l.take (8 * (k + 1))).length ≤ 100 := by rw [List.length_take, HN.out]; omega
      omega
    have htot : totalP (l.take (8 * (k + 1))) ≤ 100000 := by
      have h2 := totalP_le hapl
      have h3 : (l.take (8 * (k + 1))).length ≤ 100 := by rw [List.length_take, HN.out]; omega
      omega
    have hbya : (bytesP (-1) (l.take (8 * (k + 1)))).length = (bytesP (-1) (l.take (8 * k))).length + (bytesP (docOf (-1) (l.take (8 * k))) (blockP l (k : Int))).length := by rw [hcat, bytesP_append, List.length_append]
    have hA' := HA.out (by omega)
    obtain ⟨q, hq⟩ : ∃ q, q = min 8 (n - 8 * k) := ⟨_, rfl⟩
    have hch : chunkV b off n k = .slice (some ⟨b, off + 8 * k * 2, none⟩) q q := by unfold chunkV; rw [← hq]
    rw [← hq] at hqlen
    have hq1 : 0 < q ∧ q ≤ 8 := by omega
    rw [hch]
    have hpos : Posts w w.heap.size (some ⟨b, off + 8 * k * 2, none⟩) (blockP l (k : Int)) := by
      have h1 := HPO.out
      rw [hA'] at h1
      rw [blockP_nat]
      exact (h1.drop (8 * k)).cut 8
    obtain ⟨acc, hacc⟩ : ∃ acc, acc = l.take (8 * k) := ⟨_, rfl⟩
    obtain ⟨blk, hblk⟩ : ∃ blk, blk = blockP l (k : Int) := ⟨_, rfl⟩
    rw [← hacc, ← hblk] at hcat
    rw [hcat] at hMI hbys htot hbya
    rw [← hacc] at hla hacl hx0 hmb hbya
    rw [← hblk] at hqlen hmb hbpl hbya hpos
    have hlast := list_last w.heap.size B (bytesP (-1) acc) acc W hla (by omega)
    obtain ⟨x0, hx0e⟩ : ∃ x0, x0 = docOf (-1) acc := ⟨_, rfl⟩
    rw [← hx0e] at hx0 hmb hbya hlast
    obtain ⟨a, hae⟩ : ∃ a, a = (bytesP (-1) acc).length := ⟨_, rfl⟩
    rw [← hae] at hbya hlast
    have hfld := fun w1 => fld_doc x0 (a : Int) w1
    have hput : ∀ W', Below W.heap.size W W' → Calls Try.prog 28 #[.slice (some ⟨b, off + 8 * k * 2, none⟩) q q, .int .i64 x0] W' (GaveOwn W'.heap.size (bytesP x0 blk) W') := fun W' hb =>
      posting_put _ q q blk x0 W' hqlen (by omega) ((hpos.below (hbw.trans (hb.mono hbw.size))).more (by have := hbw.size; have := hb.size; omega)) hx0 hmb hbpl (by omega)
    obtain ⟨bb, hbb⟩ : ∃ bb, bb = bytesP x0 blk := ⟨_, rfl⟩
    rw [← hbb] at hput hbya
    have hc1 := cell_of_one hbx
    have HLAST := Lib.hid hlast
    have HPUT := Lib.hid hput
    have HLA := Lib.hid hla
    have HBX := Lib.hid hbx
    have HW := Lib.hid hbw
    have HPOS := Lib.hid hpos
    have HMI := Lib.hid hMI
    have HACL := Lib.hid hacl
    have HQL := Lib.hid hqlen
    have HBB := Lib.hid hbb
    have HX0E := Lib.hid hx0e
    have HAE := Lib.hid hae
    have hBW0 : ∀ W', Below W.heap.size W W' → W'.cell? ⟨B + 1, 0, none⟩ = some (.pointer (some ⟨B, 0, none⟩)) := fun W' hb => (hb.cell (p := ⟨B + 1, 0, none⟩) (lt_of_block HBX.out)).trans (cell_of_one HBX.out)
    have HC1 := Lib.hid hBW0
    clear hlast hput hla hbx hbw hpos hMI hacl hqlen hbb hx0e hae hacc hblk hcat hk hq hch hbpl hapl hmt hA' hxl hmb hBW0
    gi_wp2_with (first
      | (refine ⟨trivial, ?_⟩; gi_at_call 29; refine (CallsIn.inRound lp (callsIn_wide.2 HLAST.out)).mono ?_; rintro e w5 ⟨rfl, hb5⟩; have HB5 := Lib.hid hb5; clear hb5)
      | (gi_at_call 29; refine (CallsIn.inRound lp (callsIn_wide.2 HLAST.out)).mono ?_; rintro e w5 ⟨rfl, hb5⟩; have HB5 := Lib.hid hb5; clear hb5)
      | (refine ⟨trivial, ?_⟩; gi_at_call 28; refine (CallsIn.inRound lp (callsIn_wide.2 (HPUT.out _ HB5.out))).mono ?_)
      | (gi_at_call 28; refine (CallsIn.inRound lp (callsIn_wide.2 (HPUT.out _ HB5.out))).mono ?_))
    rintro e w6 ⟨v6, rfl, hown6, hb6⟩
    obtain ⟨A6, c6, rfl, hc6, hr6⟩ := hown6.row
    have hbbp : 0 < bb.length := by rw [HBB.out]; exact bytesP_pos (fun e => by have := HQL.out; rw [e] at this; simp at this; omega)
    obtain ⟨ba, oa, rfl, _, hca⟩ := hr6.at_ (by rw [Lib.byteCells_length]; exact hbbp)
    have hb56 := HB5.out.trans (hb6.mono HB5.out.size)
    have hla6 := HLA.out.below hb56
    have hbase6 : w.heap.size ≤ w6.heap.size := by have := hb56.size; have := HW.out.size; omega
    have hpc6 := HC1.out w6 hb56
    have hbx6 := (hb56.block _ (lt_of_block HBX.out)).trans HBX.out
    obtain ⟨hB6, vb, ve, hv, ho, he⟩ := hla6
    rw [← HAE.out] at ho
    obtain ⟨M, hM⟩ : ∃ M, M = bb.length := ⟨_, rfl⟩
    rw [← hM] at hbya hbbp hc6
    rw [← hM]
    obtain ⟨g, cap, w7, hrun, hown7, hg7, _, _⟩ := run_append_lies (P := Try.prog) w6.drew 55 55 w.heap.size 5 i0 _ 1 1 Try.underlying55 hi0 hz0 hz1 hz2 rfl (by omega) vb a (Lib.byteCells (bytesP (-1) acc)) ho ⟨ba, oa, none⟩ M c6 (Lib.byteCells bb) (by rw [Lib.byteCells_length, hM]; omega) (fun j u hu => by rw [Addr.add_lit]; exact hca j u hu) (byteCells_oneCell _) hbbp (by unfold maxLen; omega) (by omega) hbase6 w6.heap.size rfl
    have ho' := ho
    rw [HAE.out] at ho' hown7
    obtain ⟨hv7, hla7, hmild7⟩ := LAt.moreBytes hB6 hv ho' he (Below.refl _ w6).drew hg7 hM.symm hown7
    obtain ⟨⟨cB0, cB1, cB2, cB3⟩, fB0, fB1, fB2, fB3⟩ := cell_four hv7
    have c6a := (cell_four hv).1.1
    rw [← HAE.out] at hla7 hmild7
    have HLA7 := Lib.hid hla7
    have HM7 := Lib.hid (((Mild.of_below hb56 HW.out.size)).trans hmild7)
    have HMM := Lib.hid hM
    have hbx8 := HM7.out.keep _ _ HBX.out (fun cs t fr e => by cases e; unfold Turning; decide)
    have hS6 : (w6.drew).cell? ⟨B + 1, 0, none⟩ = some (.pointer (some ⟨B, 0, none⟩)) := hpc6
    have hS7 : w7.cell? ⟨B + 1, 0, none⟩ = some (.pointer (some ⟨B, 0, none⟩)) := by
      have h1 : w7.heap[B + 1]? = w6.drew.heap[B + 1]? := hg7.block (B + 1) (lt_of_block (w := w6) hbx6) (fun e => owned_apart ho hbx6 (by decide) e.symm)
      exact cell_of_one (h1.trans hbx6)
    have hcl : Calls Try.prog 30 #[.pointer (some ⟨B, 0, none⟩), .slice (some ⟨b, off + 8 * k * 2, none⟩) q q, .int .i64 ((a + M : Nat) : Int)] ((w7.setCell ⟨B, 0, none⟩ (.slice (some ⟨g, 0, none⟩) (a + M) cap)).drew) fun e w' => (∃ v, e = .returned v) ∧ LAt w' w.heap.size B (bytesP (-1) acc ++ bb) (acc ++ blk) ∧ Mild w.heap.size ((w7.setCell ⟨B, 0, none⟩ (.slice (some ⟨g, 0, none⟩) (a + M) cap)).drew) w' := by
      obtain ⟨cs, h1, h2⟩ := HPOS.out
      have hbl8 := HW.out.trans HM7.out.below
      have hzz : a + M = (bytesP (-1) (acc ++ blk)).length := by rw [hbya, HMM.out]
      exact list_close w.heap.size B _ acc blk k _ q q cs (a + M) _ (HLA7.out.below (Below.refl _ _).drew) HACL.out HQL.out (Nat.le_refl _) (by unfold maxLen; omega) (h1.imp fun _ _ _ => trivial) (RowM.of_row (h2.below (hbl8.trans (Below.refl _ _).drew)) (by have := hbl8.size; simpa using this)) (by omega) (by omega) (by have := HACL.out; omega) (by omega) hzz (by omega)
    have c7b : (w7.setCell ⟨B, 0, none⟩ (.slice (some ⟨g, 0, none⟩) (a + M) cap)).cell? ⟨B, 0, none⟩ = some (.slice (some ⟨g, 0, none⟩) (a + M) cap) := (cell_four (heap_setCell_same w7 B 0 _ _ _ hv7)).1.1
    have HS6 := Lib.hid hS6
    have HS7 := Lib.hid hS7
    have HS8 : Hid ((w7.setCell ⟨B, 0, none⟩ (.slice (some ⟨g, 0, none⟩) (a + M) cap)).cell? ⟨B + 1, 0, none⟩ = some (.pointer (some ⟨B, 0, none⟩))) := Lib.hid (cell_of_one hbx8)
    have HS9 : Hid ((w7.setCell ⟨B, 0, none⟩ (.slice (some ⟨g, 0, none⟩) (a + M) cap)).drew.cell? ⟨B + 1, 0, none⟩ = some (.pointer (some ⟨B, 0, none⟩))) := Lib.hid (cell_of_one (w := (w7.setCell ⟨B, 0, none⟩ (.slice (some ⟨g, 0, none⟩) (a + M) cap)).drew) hbx8)
    have HBX8 : Hid ((w7.setCell ⟨B, 0, none⟩ (.slice (some ⟨g, 0, none⟩) (a + M) cap)).drew.heap[B + 1]? = some (.cells #[.pointer (some ⟨B, 0, none⟩)] 25 (0, 0))) := Lib.hid hbx8
    have HCL := Lib.hid hcl
    have HRUN := Lib.hid hrun
    have C7B := Lib.hid c7b
    clear hla7 hmild7 hown7 hg7 ho ho' he hv7 hca hr6 hown6 hb6 hM hB6 hrun hbx8 hS6 hS7 hcl c7b hbx6 hbya
    clear hc1 hpc6
    gi_wp2
    refine region_in_round (S := fun w' => w'.cell? ⟨B + 1, 0, none⟩ = some (.pointer (some ⟨B, 0, none⟩))) (by kernel_rfl) (by kernel_rfl) HS6.out (fun hHeld0 => ?_)
    refine wpAnyH_take (i := 0) (v := .pointer (some ⟨B, 0, none⟩)) rfl (by kernel_rfl) (by kernel_rfl) (by kernel_rfl) (fun _ _ _ h => h) (Or.inl ⟨by rfl, fun wx hSw => by go_simp⟩) (by assumption) ?_
    try simp only [Act.put, List.getElem_toArray, List.getElem_cons_zero, List.setIfInBounds_toArray, List.set_cons_zero, List.set_cons_succ]
    refine wpAnyH_take (i := 1) (v := .pointer (some ⟨B, 0, none⟩)) rfl (by kernel_rfl) (by kernel_rfl) (by kernel_rfl) (fun _ _ _ h => h) (Or.inl ⟨by rfl, fun wx hSw => by go_simp⟩) (by assumption) ?_
    try simp only [Act.put, List.getElem_toArray, List.getElem_cons_zero, List.getElem_cons_succ, List.setIfInBounds_toArray, List.set_cons_zero, List.set_cons_succ]
    refine wpAnyH_take (i := 2) (v := .pointer (some ⟨B, 0, none⟩)) rfl (by kernel_rfl) (by kernel_rfl) (by kernel_rfl) (fun _ _ _ h => h) (Or.inl ⟨by rfl, fun wx hSw => by go_simp⟩) (by assumption) ?_
    try simp only [Act.put, List.getElem_toArray, List.getElem_cons_zero, List.getElem_cons_succ, List.setIfInBounds_toArray, List.set_cons_zero, List.set_cons_succ]
    refine wpAnyH_take (i := 3) (v := .pointer (some ⟨B, 0, none⟩)) rfl (by kernel_rfl) (by kernel_rfl) (by kernel_rfl) (fun _ _ _ h => h) (Or.inl ⟨by rfl, fun wx hSw => by go_simp⟩) (by assumption) ?_
    try simp only [Act.put, List.getElem_toArray, List.getElem_cons_zero, List.getElem_cons_succ, List.setIfInBounds_toArray, List.set_cons_zero, List.set_cons_succ]
    refine wpAnyH_take (i := 5) (v := .slice (some ⟨ba, oa, none⟩) M c6) rfl (by kernel_rfl) (by kernel_rfl) (by kernel_rfl) (fun _ _ _ h => h) (Or.inl ⟨by rfl, fun wx hSw => by go_simp⟩) (by assumption) ?_
    try simp only [Act.put, List.getElem_toArray, List.getElem_cons_zero, List.getElem_cons_succ, List.setIfInBounds_toArray, List.set_cons_zero, List.set_cons_succ]
    refine wpAnyH_ready (rs := [4]) (by kernel_rfl) (by simp) ?_
    refine AllReadyH.cons rfl (fun K hK => ?_) AllReadyH.nil
    try simp only [List.getElem_toArray, List.getElem_cons_zero, List.getElem_cons_succ]
    go_simp
    refine hK.out _ _ ?_ (fun hHeld1 => ?_)
    · exact HS6.out
    clear hK K
    try simp only [Act.put, List.getElem_toArray, List.getElem_cons_zero, List.getElem_cons_succ, List.setIfInBounds_toArray, List.set_cons_zero, List.set_cons_succ]
    refine wpAnyH_ready (rs := [6]) (by kernel_rfl) (by simp) ?_
    refine AllReadyH.cons rfl (fun K hK => ?_) AllReadyH.nil
    try simp only [List.getElem_toArray, List.getElem_cons_zero, List.getElem_cons_succ]
    refine step_append_known (a := ⟨_, _⟩) ?_ (.tmp 24) (.tmp 25) 55 ?_ vb (.slice (some ⟨ba, oa, none⟩) M c6) ?_ ?_ (.slice (some ⟨g, 0, none⟩) (a + M) cap) w7 ?_ ?_
    · rfl
    · rfl
    · rfl
    · rfl
    · exact HRUN.out
    refine hK.out _ _ HS7.out (fun hHeld2 => ?_)
    clear hK K
    try simp only [Act.put, List.setIfInBounds_toArray, List.set_cons_zero, List.set_cons_succ]
    refine wpAnyH_take (i := 7) (v := .pointer (some ⟨B, 0, none⟩)) rfl (by kernel_rfl) (by kernel_rfl) (by kernel_rfl) (fun _ _ _ h => h) (Or.inl ⟨by rfl, fun wx hSw => by go_simp⟩) (by assumption) ?_
    try simp only [Act.put, List.getElem_toArray, List.getElem_cons_zero, List.getElem_cons_succ, List.setIfInBounds_toArray, List.set_cons_zero, List.set_cons_succ]
    refine wpAnyH_take (i := 8) (v := .pointer (some ⟨B, 0, none⟩)) rfl (by kernel_rfl) (by kernel_rfl) (by kernel_rfl) (fun _ _ _ h => h) (Or.inl ⟨by rfl, fun wx hSw => by go_simp⟩) (by assumption) ?_
    try simp only [Act.put, List.getElem_toArray, List.getElem_cons_zero, List.getElem_cons_succ, List.setIfInBounds_toArray, List.set_cons_zero, List.set_cons_succ]
    refine wpAnyH_ready (rs := [9]) (by kernel_rfl) (by simp) ?_
    refine AllReadyH.cons rfl (fun K hK => ?_) AllReadyH.nil
    try simp only [List.getElem_toArray, List.getElem_cons_zero, List.getElem_cons_succ]
    go_simp
    refine hK.out _ _ ?_ (fun hHeld3 => ?_)
    · exact HS8.out
    clear hK K
    try simp only [Act.put, List.getElem_toArray, List.getElem_cons_zero, List.getElem_cons_succ, List.setIfInBounds_toArray, List.set_cons_zero, List.set_cons_succ]
    refine wpAnyH_done (by kernel_rfl) ?_ _
    refine AtEnd.fin ?_
    gi_wp2
    have c7b := C7B.out
    clear cB0 cB1 cB2 cB3 fB0 fB1 fB2 fB3 c6a
    refine region_in_round (S := fun w' => w'.cell? ⟨B + 1, 0, none⟩ = some (.pointer (some ⟨B, 0, none⟩))) (by kernel_rfl) (by kernel_rfl) HS9.out (fun hHeld0 => ?_)
    refine wpAnyH_take (i := 0) (v := .pointer (some ⟨B, 0, none⟩)) rfl (by kernel_rfl) (by kernel_rfl) (by kernel_rfl) (fun _ _ _ h => h) (Or.inl ⟨by rfl, fun wx hSw => by go_simp⟩) (by assumption) ?_
    try simp only [Act.put, List.getElem_toArray, List.getElem_cons_zero, List.setIfInBounds_toArray, List.set_cons_zero, List.set_cons_succ]
    refine wpAnyH_take (i := 1) (v := .slice (some ⟨b, off + 8 * k * 2, none⟩) q q) rfl (by kernel_rfl) (by kernel_rfl) (by kernel_rfl) (fun _ _ _ h => h) (Or.inl ⟨by rfl, fun wx hSw => by go_simp⟩) (by assumption) ?_
    try simp only [Act.put, List.getElem_toArray, List.getElem_cons_zero, List.getElem_cons_succ, List.setIfInBounds_toArray, List.set_cons_zero, List.set_cons_succ]
    refine wpAnyH_take (i := 2) (v := .pointer (some ⟨B, 0, none⟩)) rfl (by kernel_rfl) (by kernel_rfl) (by kernel_rfl) (fun _ _ _ h => h) (Or.inl ⟨by rfl, fun wx hSw => by go_simp⟩) (by assumption) ?_
    try simp only [Act.put, List.getElem_toArray, List.getElem_cons_zero, List.getElem_cons_succ, List.setIfInBounds_toArray, List.set_cons_zero, List.set_cons_succ]
    refine wpAnyH_take (i := 3) (v := .pointer (some ⟨B, 0, none⟩)) rfl (by kernel_rfl) (by kernel_rfl) (by kernel_rfl) (fun _ _ _ h => h) (Or.inl ⟨by rfl, fun wx hSw => by go_simp⟩) (by assumption) ?_
    try simp only [Act.put, List.getElem_toArray, List.getElem_cons_zero, List.getElem_cons_succ, List.setIfInBounds_toArray, List.set_cons_zero, List.set_cons_succ]
    refine wpAnyH_take (i := 4) (v := .pointer (some ⟨B, 0, none⟩)) rfl (by kernel_rfl) (by kernel_rfl) (by kernel_rfl) (fun _ _ _ h => h) (Or.inl ⟨by rfl, fun wx hSw => by go_simp⟩) (by assumption) ?_
    try simp only [Act.put, List.getElem_toArray, List.getElem_cons_zero, List.getElem_cons_succ, List.setIfInBounds_toArray, List.set_cons_zero, List.set_cons_succ]
    refine wpAnyH_ready (rs := [5]) (by kernel_rfl) (by simp) ?_
    refine AllReadyH.cons rfl (fun K hK => ?_) AllReadyH.nil
    try simp only [List.getElem_toArray, List.getElem_cons_zero, List.getElem_cons_succ]
    go_simp
    refine hK.out _ _ ?_ (fun hHeld1 => ?_)
    · exact HS9.out
    clear hK K
    try simp only [Act.put, List.getElem_toArray, List.getElem_cons_zero, List.getElem_cons_succ, List.setIfInBounds_toArray, List.set_cons_zero, List.set_cons_succ]
    refine wpAnyH_take (i := 6) (v := .int .i64 ((a + M : Nat) : Int)) rfl (by kernel_rfl) (by kernel_rfl) (by kernel_rfl) (fun _ _ _ h => h) (Or.inl ⟨by rfl, fun wx hSw => by go_simp⟩) (by assumption) ?_
    try simp only [Act.put, List.getElem_toArray, List.getElem_cons_zero, List.getElem_cons_succ, List.setIfInBounds_toArray, List.set_cons_zero, List.set_cons_succ]
    refine wpAnyH_ready (rs := [7]) (by kernel_rfl) (by simp) ?_
    refine AllReadyH.cons rfl (fun K hK => ?_) AllReadyH.nil
    try simp only [List.getElem_toArray, List.getElem_cons_zero, List.getElem_cons_succ]
    go_simp
    go_at_call 30
    refine HCL.out.mono ?_
    rintro e w9 ⟨⟨v9, rfl⟩, hla9, hmild9⟩
    have HS10 : Hid (w9.cell? ⟨B + 1, 0, none⟩ = some (.pointer (some ⟨B, 0, none⟩))) := Lib.hid (cell_of_one (hmild9.keep _ _ HBX8.out (fun cs t fr e => by cases e; unfold Turning; decide)))
    have HLA9 := Lib.hid hla9
    have HM9 := Lib.hid hmild9
    clear hla9 hmild9
    go_wp2_with fail
    refine hK.out _ _ ?_ (fun hHeld2 => ?_)
    · exact HS10.out
    clear hK K
    try simp only [Act.put, List.getElem_toArray, List.getElem_cons_zero, List.getElem_cons_succ, List.setIfInBounds_toArray, List.set_cons_zero, List.set_cons_succ]
    refine wpAnyH_done (by kernel_rfl) ?_ _
    refine AtEnd.fin ?_
    gi_wp2
    have hm9 := HM7.out.trans ((Mild.of_below (Below.refl _ _).drew (by have := (HW.out.trans HM7.out.below).size; omega)).trans HM9.out)
    have hla9 := HLA9.out
    rw [HBB.out, HX0E.out, ← bytesP_append] at hla9
    obtain ⟨h1, h2⟩ := HMI.out _ hla9 (hm9.keep _ _ HBX.out (fun cs t fr e => by cases e; unfold Turning; decide)) (HW.out.trans hm9.below) hm9
    exact ⟨hm9.keepsOthers, h2, h1⟩
  case done =>
    rintro D' ys W hD rfl ⟨_, hla, hbx, hbw⟩ hK'
    rw [List.length_range, ← HN.out, take_blocks] at hla
    have hc1 := cell_of_one hbx
    have HLA := Lib.hid hla
    have HBW2 := Lib.hid hbw
    clear hla hbx hbw
    gi_wp2
    refine ⟨by simp, .inl ⟨_, _, rfl, run_takeDeferred hK', ?_⟩⟩
    refine ⟨_, results_tmp2 rfl _ _ _, ?_⟩
    have hD2 : w.heap.size ≤ D' := by have := HZ3.out; have := HBW.out; omega
    exact ⟨B, rfl, Firm.lat 0 _ _ _ _ W D' _ _ (Nat.zero_le _) hK' rfl HLA.out, Firm.belowW (N := w.heap.size) (Nat.le_refl _) W D' _ _ hD2 hK' rfl HBW2.out⟩
end Go.Proofs.Ytnmnbckaccicaaa

/- A list of postings that came in, read as data: what a walk is told of it. -/
namespace Go.Proofs.Ytnmnbckaccicaaa
open Go Go.RowKit Go.ChangeShapes Go.WideShapes Go.ChangeAt
set_option linter.unusedVariables false

/-- The cells of the first k elements. -/
def cellsTo (V0 V1 : Nat → Value) : Nat → List Value
  | 0 => []
  | k + 1 => cellsTo V0 V1 k ++ [V0 k, V1 k]
theorem cellsTo_length (V0 V1 : Nat → Value) : ∀ k, (cellsTo V0 V1 k).length = k * 2
  | 0 => rfl
  | k + 1 => by rw [cellsTo, List.length_append, cellsTo_length V0 V1 k]; simp; omega
theorem cellsTo_row {w : World} {b off : Nat} {V0 V1 : Nat → Value} {n : Nat} (h : ∀ i, i < n → w.cell? ⟨b, off + i * 2, none⟩ = some (V0 i) ∧ w.cell? ⟨b, off + (i * 2 + 1), none⟩ = some (V1 i)) :
    ∀ k, k ≤ n → ∀ j u, (cellsTo V0 V1 k)[j]? = some u → w.cell? ⟨b, off + j, none⟩ = some u
  | 0, _, j, u, hu => by simp [cellsTo] at hu
  | k + 1, hk, j, u, hu => by
    rw [cellsTo] at hu
    by_cases hj : j < k * 2
    · rw [List.getElem?_append_left (by rw [cellsTo_length]; exact hj)] at hu
      exact cellsTo_row h k (by omega) j u hu
    · rw [List.getElem?_append_right (by rw [cellsTo_length]; omega), cellsTo_length] at hu
      obtain ⟨h0, h1⟩ := h k (by omega)
      rcases hq : j - k * 2 with _ | _ | q
      · rw [hq] at hu
        simp at hu
        rw [show j = k * 2 by omega, h0, hu]
      · rw [hq] at hu
        simp at hu
        rw [show j = k * 2 + 1 by omega, h1, hu]
      · rw [hq] at hu
        simp at hu
theorem cellsTo_po {R : Option Addr → List Value → Prop} {V0 V1 : Nat → Value} {f : Nat → Po} {n : Nat} (h : ∀ i, i < n → V0 i = .int .i64 (f i).1 ∧ ∃ A c, V1 i = .slice A (f i).2.length c ∧ (f i).2.length ≤ c ∧ c ≤ maxLen ∧ R A (ints (f i).2)) :
    ∀ k, k ≤ n → PoCells R ((List.range k).map f) (cellsTo V0 V1 k)
  | 0, _ => rfl
  | k + 1, hk => by
    have ih := cellsTo_po h k (by omega)
    obtain ⟨h0, A, c, h1, h2, h3, h4⟩ := h k (by omega)
    rw [List.range_succ, List.map_append, cellsTo, h0, h1]
    exact ih.snoc h2 h3 h4

theorem po_cells : Try.prog.cellsOf 46 = 2 := by kernel_rfl
theorem int_cells : Try.prog.cellsOf 3 = 1 := by kernel_rfl
theorem ints_cells : Try.prog.cellsOf 23 = 1 := by kernel_rfl

theorem in_posts {H : Type} {enc : TypeId × Value → H} {W : World} {fuel : Nat} {a : Option Addr} {len cap : Nat} {x : DataW H × List MemPlace}
    (h : DataW.trod enc Try.prog W 0 (fun _ => true) true fuel 22 (Value.slice a len cap).cells.toList = some x) : ∃ ps, InPosts W a len cap ps := by
  rcases Deep.open_slice_pairs Try.underlying22 Try.underlying46 po_cells rfl rfl int_cells ints_cells h with ⟨hcs, _⟩ | ⟨ad, l, c, m, n, V0, V1, D0, D1, P0, P1, hcs, _, hl, hm, hmm, _, hx⟩
  · simp [Value.cells] at hcs
    obtain ⟨rfl, rfl, rfl⟩ := hcs
    exact ⟨[], Nat.le_refl _, Nat.zero_le _, rfl, Posts.nil, fun p hp => by cases hp⟩
  · simp [Value.cells] at hcs
    obtain ⟨rfl, rfl, rfl⟩ := hcs
    simp only [if_true] at hmm
    subst hmm
    have each : ∀ i, i < m → ∃ q : Po, (V0 i = .int .i64 q.1 ∧ ∃ A c, V1 i = .slice A q.2.length c ∧ q.2.length ≤ c ∧ c ≤ maxLen ∧ Row W W.heap.size A (ints q.2)) ∧ (Lit.int .i64 q.1).wf = true ∧ ∀ y ∈ q.2, (Lit.int .i64 y).wf = true := fun i hi => by
      obtain ⟨_, _, g0, g1⟩ := hx i hi
      obtain ⟨d, e0, _, hd⟩ := DataW.trod_int Try.underlying3 g0
      simp only [List.cons.injEq, and_true] at e0
      rcases open_ints Try.underlying23 Try.underlying3 int_cells g1 with ⟨e1, _⟩ | ⟨b, l2, c2, zs, e1, _, hl2, hm2, hz2, _, hcell, hwz⟩
      · simp only [List.cons.injEq, and_true] at e1
        exact ⟨(d, []), ⟨e0, none, 0, e1, Nat.le_refl _, Nat.zero_le _, Row.nil⟩, hd, fun y hy => by cases hy⟩
      · simp only [List.cons.injEq, and_true] at e1
        simp only [if_true] at hz2
        obtain ⟨h1, h2, h3, h4, h5⟩ := inRow_of (k := .i64) hl2 hm2 hz2 hcell hwz
        exact ⟨(d, zs.take l2), ⟨e0, some b, c2, by rw [h3]; exact e1, by rw [h3]; exact h1, h2, h4⟩, hd, h5⟩
    obtain ⟨f, hf⟩ := Deep.choose_lt each
    by_cases h0 : m = 0
    · have hl0 : len = 0 := by omega
      subst hl0
      exact ⟨[], hl, hm, rfl, Posts.nil, fun p hp => by cases hp⟩
    · obtain ⟨c00, _, _, _⟩ := hx 0 (by omega)
      obtain ⟨b, off, spot⟩ := ad
      have hs : spot = none := by simpa [Addr.add] using World.cell?_spot c00
      subst hs
      have hblt : b < W.heap.size := by simpa [Addr.add_lit] using World.block_lt_of_cell? W _ c00
      refine ⟨(List.range len).map f, hl, hm, by simp, ⟨cellsTo V0 V1 len, cellsTo_po (n := m) (fun i hi => (hf i hi).1) len hl, .inr ⟨b, off, rfl, hblt, cellsTo_row (n := m) (fun i hi => ?_) len hl⟩⟩, fun p hp => ?_⟩
      · obtain ⟨g0, g1, _, _⟩ := hx i hi
        rw [Addr.add_lit] at g0 g1
        exact ⟨g0, g1⟩
      · obtain ⟨i, hi, rfl⟩ := List.mem_map.1 hp
        have hil := List.mem_range.1 hi
        exact (hf i (by omega)).2
end Go.Proofs.Ytnmnbckaccicaaa
