/- Texts laid together: Plain05, Bytes04, Post05, Gave05, Pm09, Buf09, Range08. -/
import Derived.Test.YtgcdekaceimdnaaGreatPlain04
import Derived.Test.YtgcdekaceimdnaaGreatQ02
import Derived.Test.YtgcdekaceimdnaaGreatProg
import Derived.ArgAppend
import Derived.Lib.Hide
import Derived.Laws.BytesArg
import Derived.Test.YtgcdekaceimdnaaGreatQ03
import Derived.Test.YtgcdekaceimdnaaGreatQ05
import Derived.Test.YtgcdekaceimdnaaGreatQ06
import Derived.Test.YtgcdekaceimdnaaGreatNest09
import Derived.RangeFuncNested
import Derived.RangeFuncBound
import Derived.RangeFuncCalls
import Derived.RangeFuncLeaves
import Derived.RangeFuncBox
import Derived.OwnWalkIn
import Derived.TacticsInMore
import Derived.LoopNIn
import Derived.LoopIn
import Derived.Maps.AppendAt
import Derived.Shelf.Abstract
import Derived.Shelf.RegionOpen

/- Postings as bytes, plainly: which may be, their bytes, what is read of bytes, blocks. No program. -/
set_option linter.unusedVariables false
namespace Go.Proofs.YtgcdekaceimdnaaGreat

/-- A posting: the document, and the places. -/
abbrev Po := Int × List Int

/-! ## Which may be -/

/-- Places of a posting: they rise from 0 on, are some, and are below 2^31. -/
def placesB (ps : List Int) : Bool := risesZ (-1) ps && (!ps.isEmpty) && decide (ps.getLastD 0 < 2147483648)
def mayB' : Int → List Po → Bool
  | _, [] => true
  | last, p :: r => decide (last < p.1) && decide (p.1 < 2147483648) && placesB p.2 && mayB' p.1 r
theorem placesB_iff {ps : List Int} : placesB ps = true ↔ risesZ (-1) ps = true ∧ ps ≠ [] ∧ ps.getLastD 0 < 2147483648 := by
  simp [placesB, and_assoc]
theorem mayB'_cons {last : Int} {p : Po} {r : List Po} : mayB' last (p :: r) = true ↔ last < p.1 ∧ p.1 < 2147483648 ∧ placesB p.2 = true ∧ mayB' p.1 r = true := by
  simp [mayB', and_assoc]
/-- Rising numbers are at most the last one. -/
theorem rises_le_last : ∀ {ps : List Int} {x : Int}, risesZ x ps = true → ∀ y ∈ ps, x < y ∧ y ≤ ps.getLastD 0
  | [], _, _ => by simp
  | n :: r, x, h => by
    rw [risesZ, Bool.and_eq_true, decide_eq_true_iff] at h
    have ih := rises_le_last h.2
    intro y hy
    rcases List.mem_cons.1 hy with rfl | hy
    · refine ⟨h.1, ?_⟩
      cases r with
      | nil => simp
      | cons m r' =>
        have := ih m (by simp)
        have e : (y :: m :: r').getLastD 0 = (m :: r').getLastD 0 := by simp [List.getLastD]
        rw [e]
        omega
    · have := ih y hy
      refine ⟨by omega, ?_⟩
      cases r with
      | nil => cases hy
      | cons m r' =>
        have e : (n :: m :: r').getLastD 0 = (m :: r').getLastD 0 := by simp [List.getLastD]
        rw [e]
        exact this.2
theorem lastD_mem : ∀ {l : List Int}, l ≠ [] → l.getLastD 0 ∈ l
  | [], h => absurd rfl h
  | [a], _ => by simp
  | a :: b :: r, _ => by
    have e : (a :: b :: r).getLastD 0 = (b :: r).getLastD 0 := by simp [List.getLastD]
    rw [e]
    exact List.mem_cons_of_mem _ (lastD_mem (l := b :: r) (by simp))
theorem places_bd {ps : List Int} (h : placesB ps = true) : ∀ y ∈ ps, 0 ≤ y ∧ y < 2147483648 := by
  obtain ⟨h1, _, h3⟩ := placesB_iff.1 h
  intro y hy
  have := rises_le_last h1 y hy
  omega

/-! ## Bytes -/

def bytesP : Int → List Po → List UInt8
  | _, [] => []
  | last, p :: r => putB (p.1 - (last + 1)).toNat ++ (putR p.2 ++ bytesP p.1 r)
/-- The document of the last one. -/
def docOf : Int → List Po → Int
  | last, [] => last
  | _, p :: r => docOf p.1 r
theorem bytesP_append : ∀ (a b : List Po) (last : Int), bytesP last (a ++ b) = bytesP last a ++ bytesP (docOf last a) b
  | [], b, last => rfl
  | p :: r, b, last => by simp [bytesP, docOf, bytesP_append r b p.1, List.append_assoc]
theorem docOf_append : ∀ (a b : List Po) (last : Int), docOf last (a ++ b) = docOf (docOf last a) b
  | [], _, _ => rfl
  | p :: r, b, _ => by simp [docOf, docOf_append r b p.1]
theorem mayB'_append : ∀ (a b : List Po) (last : Int), mayB' last (a ++ b) = (mayB' last a && mayB' (docOf last a) b)
  | [], b, last => by simp [mayB', docOf]
  | p :: r, b, last => by simp [mayB', docOf, mayB'_append r b p.1, Bool.and_assoc]
theorem docOf_ge : ∀ (l : List Po) (last : Int), mayB' last l = true → last ≤ docOf last l
  | [], _, _ => Int.le_refl _
  | p :: r, last, h => by
    have := mayB'_cons.1 h
    have ih := docOf_ge r p.1 this.2.2.2
    rw [docOf]; omega
theorem docOf_lt : ∀ (l : List Po) (last : Int), mayB' last l = true → last < 2147483648 → docOf last l < 2147483648
  | [], _, _, h => h
  | p :: r, last, h, _ => by
    have := mayB'_cons.1 h
    exact docOf_lt r p.1 this.2.2.2 this.2.1
/-- How many places there are in all. -/
def totalP : List Po → Nat
  | [] => 0
  | p :: r => p.2.length + totalP r
theorem putR_length {ps : List Int} (h : placesB ps = true) (hl : ps.length < 9223372036854775808) : (putR ps).length ≤ 9 + 9 * ps.length := by
  have hb := places_bd h
  have h1 := dB_length ps (-1) (by omega) (placesB_iff.1 h).1 fun x hx => by have := hb x hx; omega
  have h2 := putB_nine hl
  rw [putR, List.length_append]
  omega
theorem bytesP_length : ∀ (l : List Po) (last : Int), -1 ≤ last → mayB' last l = true → (∀ p ∈ l, p.2.length < 9223372036854775808) → (bytesP last l).length ≤ 18 * l.length + 9 * totalP l
  | [], _, _, _, _ => by simp [bytesP]
  | p :: r, last, h0, h, hl => by
    obtain ⟨h1, h2, h3, h4⟩ := mayB'_cons.1 h
    have ih := bytesP_length r p.1 (by omega) h4 fun q hq => hl q (by simp [hq])
    have e1 := putB_nine (n := (p.1 - (last + 1)).toNat) (by omega)
    have e2 := putR_length h3 (hl p (by simp))
    rw [bytesP, List.length_append, List.length_append, List.length_cons, totalP]
    omega

/-! ## What is read -/

/-- So many postings, read one behind the other. -/
def takeP (l : List UInt8) : Nat → Int → Nat → List Po → Option (List Po × Nat)
  | 0, _, a, acc => some (acc, a)
  | m + 1, last, a, acc =>
    if (getZ l a).2.2 = 0 then
      if (risZ l (getZ l a).2.1).2.2 = 0 then
        takeP l m ((getZ l a).1 + (last + 1)) (risZ l (getZ l a).2.1).2.1.toNat (acc ++ [((getZ l a).1 + (last + 1), (risZ l (getZ l a).2.1).1)])
      else none
    else none
theorem get_posting {pre post : List UInt8} {last d : Int} {ps : List Int} {r : List Po} (h0 : -1 ≤ last) (hd : last < d) (hd2 : d < 2147483648) (hp : placesB ps = true) (hl : ps.length < 9223372036854775808) :
    getZ (pre ++ (bytesP last ((d, ps) :: r) ++ post)) (pre.length : Int) = (d - (last + 1), ((pre.length + (putB (d - (last + 1)).toNat).length : Nat) : Int), 0) ∧
    risZ (pre ++ (bytesP last ((d, ps) :: r) ++ post)) ((pre.length + (putB (d - (last + 1)).toNat).length : Nat) : Int) = (ps, ((pre.length + ((putB (d - (last + 1)).toNat).length + (putR ps).length) : Nat) : Int), 0) := by
  have hb := places_bd hp
  have e1 : pre ++ (bytesP last ((d, ps) :: r) ++ post) = pre ++ (putB (d - (last + 1)).toNat ++ (putR ps ++ (bytesP d r ++ post))) := by simp [bytesP, List.append_assoc]
  have e2 : pre ++ (bytesP last ((d, ps) :: r) ++ post) = (pre ++ putB (d - (last + 1)).toNat) ++ (putR ps ++ (bytesP d r ++ post)) := by simp [bytesP, List.append_assoc]
  refine ⟨?_, ?_⟩
  · rw [e1, getZ_put (by omega)]
    simp only [Prod.mk.injEq, and_true]
    omega
  · have := risZ_put (g := ps) (placesB_iff.1 hp).1 (fun x hx => by have := hb x hx; omega) hl (pre ++ putB (d - (last + 1)).toNat) (bytesP d r ++ post)
    rw [List.length_append] at this
    rw [e2, this]
    simp [Nat.add_assoc]
/-- Of postings' bytes these are read, as many as are asked for (no more than there are). -/
theorem takeP_bytes : ∀ (m : Nat) (g : List Po) (last : Int) (pre post : List UInt8) (acc : List Po), m ≤ g.length → -1 ≤ last → mayB' last g = true → (∀ p ∈ g, p.2.length < 9223372036854775808) →
    takeP (pre ++ (bytesP last g ++ post)) m last pre.length acc = some (acc ++ g.take m, pre.length + (bytesP last (g.take m)).length)
  | 0, g, last, pre, post, acc, _, _, _, _ => by simp [takeP, bytesP]
  | m + 1, [], last, pre, post, acc, h, _, _, _ => by simp at h
  | m + 1, (d, ps) :: r, last, pre, post, acc, hm, h0, h, hl => by
    obtain ⟨h1, h2, h3, h4⟩ := mayB'_cons.1 h
    simp only at h1 h2 h3 h4
    obtain ⟨g1, g2⟩ := get_posting (pre := pre) (post := post) (r := r) h0 h1 h2 h3 (hl (d, ps) (by simp))
    rw [takeP, g1]
    simp only [if_true]
    rw [g2]
    simp only [if_true, Int.toNat_natCast]
    have e2 : pre ++ (bytesP last ((d, ps) :: r) ++ post) = (pre ++ (putB (d - (last + 1)).toNat ++ putR ps)) ++ (bytesP d r ++ post) := by simp [bytesP, List.append_assoc]
    have ih := takeP_bytes m r d (pre ++ (putB (d - (last + 1)).toNat ++ putR ps)) post (acc ++ [(d, ps)]) (by simpa using hm) (by omega) h4 (fun p hp => hl p (by simp [hp]))
    rw [e2, show d - (last + 1) + (last + 1) = d by omega]
    rw [show pre.length + ((putB (d - (last + 1)).toNat).length + (putR ps).length) = (pre ++ (putB (d - (last + 1)).toNat ++ putR ps)).length by simp, ih]
    simp [bytesP, Nat.add_assoc]
/-- Two lists that may be and have the same bytes are the same. -/
theorem bytesP_inj {a b : List Po} (ha : mayB' (-1) a = true) (hb : mayB' (-1) b = true) (hla : ∀ p ∈ a, p.2.length < 9223372036854775808) (hlb : ∀ p ∈ b, p.2.length < 9223372036854775808) (h : bytesP (-1) a = bytesP (-1) b) : a = b := by
  have key : ∀ {a b : List Po}, mayB' (-1) a = true → mayB' (-1) b = true → (∀ p ∈ a, p.2.length < 9223372036854775808) → (∀ p ∈ b, p.2.length < 9223372036854775808) → bytesP (-1) a = bytesP (-1) b → a.length ≤ b.length → a = b := by
    intro a b ha hb hla hlb h hle
    have t1 := takeP_bytes a.length a (-1) [] [] [] (Nat.le_refl _) (by omega) ha hla
    have t2 := takeP_bytes a.length b (-1) [] [] [] hle (by omega) hb hlb
    rw [h] at t1
    rw [t1] at t2
    simp only [List.nil_append, List.take_length, Option.some.injEq, Prod.mk.injEq, List.length_nil, Nat.zero_add] at t2
    obtain ⟨e1, e2⟩ := t2
    -- what is left of b has no bytes
    have hsplit : b = b.take a.length ++ b.drop a.length := (List.take_append_drop _ _).symm
    have hbb : bytesP (-1) b = bytesP (-1) (b.take a.length) ++ bytesP (docOf (-1) (b.take a.length)) (b.drop a.length) := by
      conv => lhs; rw [hsplit]
      rw [bytesP_append]
    have hlen := congrArg List.length hbb
    rw [← h, e2, List.length_append] at hlen
    have hz : (bytesP (docOf (-1) (b.take a.length)) (b.drop a.length)).length = 0 := by omega
    cases hd : b.drop a.length with
    | nil => rw [e1]; rw [hd] at hsplit; rw [List.append_nil] at hsplit; exact hsplit.symm
    | cons p r =>
      rw [hd, bytesP, List.length_append] at hz
      have := putB_pos (p.1 - (docOf (-1) (b.take a.length) + 1)).toNat
      omega
  rcases Nat.le_total a.length b.length with hle | hle
  · exact key ha hb hla hlb h hle
  · exact (key hb ha hlb hla h.symm hle).symm

/-! ## Blocks -/

def blocksP (n : Nat) : Nat := (n + 7) / 8
def blockP (l : List Po) (k : Int) : List Po := if k < 0 then [] else (l.drop (8 * k.toNat)).take 8
def lastP (l : List Po) (k : Int) : Int := docOf (-1) (blockP l k)
theorem blockP_neg {l : List Po} {k : Int} (h : k < 0) : blockP l k = [] := by unfold blockP; rw [if_pos h]
theorem blockP_nat {l : List Po} (k : Nat) : blockP l (k : Int) = (l.drop (8 * k)).take 8 := by unfold blockP; rw [if_neg (by omega), Int.toNat_natCast]
theorem blockP_out {l : List Po} {k : Nat} (h : blocksP l.length ≤ k) : blockP l (k : Int) = [] := by
  rw [blockP_nat, List.drop_eq_nil_of_le (by unfold blocksP at h; omega)]
  rfl
theorem blockP_length {l : List Po} (k : Nat) : (blockP l (k : Int)).length = min 8 (l.length - 8 * k) := by rw [blockP_nat, List.length_take, List.length_drop]
theorem blockP_some {l : List Po} {k : Nat} (h : k < blocksP l.length) : 0 < (blockP l (k : Int)).length := by
  rw [blockP_length]
  unfold blocksP at h
  omega
theorem blockP_full {l : List Po} {k : Nat} (h : k + 1 < blocksP l.length) : (blockP l (k : Int)).length = 8 := by
  rw [blockP_length]
  unfold blocksP at h
  omega
/-- The blocks, one behind the other, are all. -/
theorem blocks_all (l : List Po) (k : Nat) : l.take (8 * (k + 1)) = l.take (8 * k) ++ blockP l (k : Int) := by
  rw [blockP_nat, Nat.mul_add, Nat.mul_one, List.take_add]

/-! ## Good ones, made of any -/

def goodP : Int → List Po → List Po
  | _, [] => []
  | last, p :: r =>
    (last + 1 + (if p.1 < 0 then -(p.1 + 1) else p.1) % 50, if (goodZ (-1) (p.2.take 5)).isEmpty then [0] else goodZ (-1) (p.2.take 5)) ::
      goodP (last + 1 + (if p.1 < 0 then -(p.1 + 1) else p.1) % 50) r
theorem goodP_length : ∀ (l : List Po) (last : Int), (goodP last l).length = l.length
  | [], _ => rfl
  | p :: r, last => by simp [goodP, goodP_length r]
theorem good_places (ps : List Int) : placesB (if (goodZ (-1) (ps.take 5)).isEmpty then [0] else goodZ (-1) (ps.take 5)) = true ∧ (if (goodZ (-1) (ps.take 5)).isEmpty then [0] else goodZ (-1) (ps.take 5)).length ≤ 5 := by
  have h1 := goodZ_rises (ps.take 5) (-1)
  have h2 := goodZ_le (ps.take 5) (-1) (by omega)
  have h3 := goodZ_length (ps.take 5) (-1)
  have h4 := List.length_take_le 5 ps
  generalize goodZ (-1) (ps.take 5) = g at h1 h2 h3
  split
  · exact ⟨by decide, by simp⟩
  · rename_i hne
    have hg : g ≠ [] := by simpa using hne
    refine ⟨placesB_iff.2 ⟨h1, hg, ?_⟩, by omega⟩
    have hm := lastD_mem hg
    have := h2 _ hm
    omega
theorem goodP_may : ∀ (l : List Po) (last : Int), -1 ≤ last → last + 50 * l.length < 2147483648 → mayB' last (goodP last l) = true ∧ ∀ p ∈ goodP last l, p.2.length ≤ 5 ∧ 0 < p.2.length
  | [], _, _, _ => by simp [goodP, mayB']
  | p :: r, last, h0, h1 => by
    rw [List.length_cons] at h1
    have hm : 0 ≤ (if p.1 < 0 then -(p.1 + 1) else p.1) % 50 ∧ (if p.1 < 0 then -(p.1 + 1) else p.1) % 50 < 50 := ⟨Int.emod_nonneg _ (by omega), Int.emod_lt_of_pos _ (by omega)⟩
    have ih := goodP_may r (last + 1 + (if p.1 < 0 then -(p.1 + 1) else p.1) % 50) (by omega) (by omega)
    have hp := good_places p.2
    rw [goodP]
    refine ⟨mayB'_cons.2 ⟨by simp only; omega, by simp only; omega, hp.1, ih.1⟩, fun q hq => ?_⟩
    rcases List.mem_cons.1 hq with rfl | hq
    · refine ⟨hp.2, ?_⟩
      have := (placesB_iff.1 hp.1).2.1
      exact List.length_pos_iff.2 this
    · exact ih.2 q hq
end Go.Proofs.YtgcdekaceimdnaaGreat

/- Bytes that lie in a slice, and one byte more behind them; lists of ints; what came in as bytes. No program but the kinds' facts. -/
set_option linter.unusedVariables false
namespace Go.Proofs.YtgcdekaceimdnaaGreat
open Go Go.RowKit

theorem info_byte : (Tryz.prog.info? 5).map (fun i => (i.zero, i.size, i.bytes)) = some (some (.int .u8 0), 1, 1) := by kernel_rfl
theorem row_byte {w : World} {B : Nat} {A : Option Addr} {xs : List UInt8} (h : Row w B A (Lib.byteCells xs)) {k : Nat} (hk : k < xs.length) :
    ∃ b off, A = some ⟨b, off, none⟩ ∧ b < B ∧ w.cell? ⟨b, off + k, none⟩ = some (.int .u8 ((xs.getD k 0).toNat : Int)) := by
  obtain ⟨b, off, rfl, hb, hc⟩ := h.at_ (by rw [Lib.byteCells_length]; omega)
  refine ⟨b, off, rfl, hb, hc k _ ?_⟩
  simp [Lib.byteCells, hk]
theorem byteCells_oneCell (l : List UInt8) : ∀ u ∈ Lib.byteCells l, u.oneCell' = true := by
  intro u hu
  obtain ⟨b, _, rfl⟩ := List.mem_map.1 hu
  rfl
theorem ints_oneCell' (l : List Int) : ∀ u ∈ ints l, u.oneCell' = true := by
  intro u hu
  obtain ⟨b, _, rfl⟩ := List.mem_map.1 hu
  rfl

/-- Ints of the kind of bytes are bytes. -/
theorem bytes_of_ints : ∀ {zs : List Int}, (∀ n ∈ zs, (Lit.int IntKind.u8 n).wf = true) → ∃ l : List UInt8, zs.map (Value.int .u8) = Lib.byteCells l ∧ l.length = zs.length
  | [], _ => ⟨[], rfl, rfl⟩
  | z :: r, h => by
    obtain ⟨l, hl, hn⟩ := bytes_of_ints (zs := r) fun n hn => h n (by simp [hn])
    have hz := h z (by simp)
    have hb : 0 ≤ z ∧ z < 256 := by
      have e1 : IntKind.u8.min = 0 := rfl
      have e2 : IntKind.u8.max = 255 := rfl
      simp [Lit.wf] at hz
      omega
    refine ⟨UInt8.ofNat z.toNat :: l, ?_, by simp [hn]⟩
    rw [List.map_cons, hl]
    simp only [Lib.byteCells, List.map_cons]
    rw [byte_nat (by omega), Int.toNat_of_nonneg hb.1]

/-- Bytes lie in a slice: in one without room that was there, or in one of the call's own. -/
def Buf (base : Nat) (w : World) (v : Value) (bs : List UInt8) : Prop :=
  (∃ A, v = .slice A bs.length bs.length ∧ Row w base A (Lib.byteCells bs)) ∨ w.ownsRow base 5 1 v bs.length (Lib.byteCells bs)
/-- Bytes lie in a slice of the call's own. -/
def Own (base : Nat) (w : World) (v : Value) (bs : List UInt8) : Prop := w.ownsRow base 5 1 v bs.length (Lib.byteCells bs)
theorem Own.buf {base : Nat} {w : World} {v : Value} {bs : List UInt8} (h : Own base w v bs) : Buf base w v bs := .inr h
theorem Own.below {base : Nat} {w w' : World} {v : Value} {bs : List UInt8} (h : Own base w v bs) (hb : Below w.heap.size w w') : Own base w' v bs := owned_below h hb
theorem Own.low {base b : Nat} {w : World} {v : Value} {bs : List UInt8} (h : Own base w v bs) (hb : b ≤ base) : Own b w v bs := owned_low h hb
theorem Own.row {base : Nat} {w : World} {v : Value} {bs : List UInt8} (h : Own base w v bs) : ∃ A c, v = .slice A bs.length c ∧ bs.length ≤ c ∧ Row w w.heap.size A (Lib.byteCells bs) := owned_row h
theorem Buf.alloc {base : Nat} {w : World} {v : Value} {bs : List UInt8} (h : Buf base w v bs) (hb : base ≤ w.heap.size) (o : Obj) : Buf base (w.alloc o) v bs := by
  rcases h with ⟨A, rfl, hr⟩ | hown
  · exact .inl ⟨A, rfl, hr.below ((Below.refl _ _).alloc hb o)⟩
  · exact .inr (hown.alloc o)

section
variable {P : Program} (w : World)
/-- One byte more behind bytes. -/
theorem wpList_append_buf {ops : Array Oper} {rest : List Oper} {o : Oper} {a : Act} {Q : Exit → Act → World → Prop} (hgd : o.guard = none) (s x : Operand) (t : TypeId)
    (ho : o.op = .call { callee := .builtin .append, args := #[s, x], argTypes := #[t, t] })
    (base : Nat) (i : TypeInfo) (z : Value) (ht : P.underlying t = some (.slice 5)) (hi : P.info? 5 = some i) (hz : i.zero = some z)
    (hsize : i.size = 1) (hby : i.bytes = 1) (hzs : z.cells.size = 1)
    (v : Value) (bs : List UInt8) (hs : a.eval s = v) (hb : Buf base w v bs) (hbase : base ≤ w.heap.size)
    (ad : Addr) (c : Nat) (y : Int) (hx : a.eval x = .slice (some ad) 1 c) (hnews : ∀ j u, [Value.int .u8 y][j]? = some u → w.cell? (ad.add j) = some u)
    (u : UInt8) (hy : y = (u.toNat : Int)) (hl : bs.length ≤ 1099511627776)
    (h : ∀ v' w', Own base w' v' (bs ++ [u]) → Below base w w' → wpList P ops Q rest (a.put o.dst v') w') : wpList P ops Q (o :: rest) a w := by
  have hcells : Lib.byteCells bs ++ [Value.int .u8 y] = Lib.byteCells (bs ++ [u]) := by rw [hy, Lib.byteCells_append]; rfl
  have hlen : bs.length + 1 = (bs ++ [u]).length := by simp
  have h1 : ∀ q ∈ [Value.int .u8 y], q.oneCell' = true := by intro q hq; simp at hq; subst hq; rfl
  rcases hb with ⟨A, rfl, hr⟩ | hown
  · refine wpList_append_grows w hgd s x t ho 5 i z 1 1 ht hi hz hsize hby hzs (by omega) A bs.length bs.length (Lib.byteCells bs) hs ?_ (by rw [Lib.byteCells_length]; omega) ?_ ad 1 c _ hx rfl hnews h1 (by omega) (by unfold maxLen; omega) (by omega) ?_
    · rintro rfl
      rcases hr with h0 | ⟨b, off, h0, _⟩
      · have := congrArg List.length h0
        rw [Lib.byteCells_length] at this
        simp at this
        simp [this]
      · cases h0
    · rintro b rfl j q hq
      rcases hr with h0 | ⟨b', off, h0, _, hc⟩
      · rw [h0] at hq; simp at hq
      · injection h0 with h0
        subst h0
        rw [Addr.add_lit]
        exact hc j q hq
    · intro v' w' hown hg
      rw [hcells, hlen] at hown
      exact h v' w' (owned_low hown hbase) ((Below.refl _ w).grown hg hbase fun k hk => by cases hk)
  · refine wpList_append_own w hgd s x t ho base 5 i z 1 1 ht hi hz hsize hby hzs (by omega) v bs.length (Lib.byteCells bs) hs hown ad 1 c _ hx rfl hnews h1 (by unfold maxLen; omega) (by omega) hbase ?_
    intro v' w' hown' hg _
    rw [hcells, hlen] at hown'
    exact h v' w' hown' ((Below.refl _ w).grown hg hbase fun k hk => (hown.lt k hk).1)
end

theorem run_string_of {P : Program} {w : World} {B : Nat} {A : Option Addr} {l : List UInt8} (h : Row w B A (Lib.byteCells l)) (src dst e : TypeId) (n c : Nat) (hn : l.length = n)
    (hs : P.underlying src = some (.slice e)) (he : P.underlying e = some (.int .u8)) (hd : P.underlying dst = some .string) :
    (convert src dst (.slice A n c)).run P w = .ok (.string ⟨l.toArray⟩) w := by
  subst hn
  by_cases h0 : l = []
  · subst h0
    rcases A with _ | a
    · exact run_convert_bytes_nil w src e hs he 0 c dst hd
    · exact run_convert_bytes_back w src dst e a c [] hs he hd (fun j hj => absurd hj (by simp))
  · have hpos : 0 < l.length := List.length_pos_iff.2 h0
    obtain ⟨b, off, rfl, _, hc⟩ := h.at_ (by rw [Lib.byteCells_length]; exact hpos)
    refine run_convert_bytes_back w src dst e _ c l hs he hd (fun j hj => ?_)
    rw [Addr.add_lit]
    exact hc j _ (by simp [Lib.byteCells, hj])
end Go.Proofs.YtgcdekaceimdnaaGreat

/- Lists of postings in memory: two cells each, the second one a slice of ints that lies in a row of its own. No program but the number of the type int. -/
set_option linter.unusedVariables false
namespace Go.Proofs.YtgcdekaceimdnaaGreat
open Go Go.RowKit

/-- The cells of postings; R says where the places lie. -/
def PoCells (R : Option Addr → List Value → Prop) : List Po → List Value → Prop
  | [], cs => cs = []
  | q :: r, cs => ∃ A c cs', cs = .int .i64 q.1 :: .slice A q.2.length c :: cs' ∧ q.2.length ≤ c ∧ c ≤ maxLen ∧ R A (ints q.2) ∧ PoCells R r cs'

section
variable {R R' : Option Addr → List Value → Prop}
theorem PoCells.len : ∀ {l : List Po} {cs : List Value}, PoCells R l cs → cs.length = l.length * 2
  | [], cs, h => by simp only [PoCells] at h; subst h; rfl
  | q :: r, cs, h => by
    obtain ⟨A, c, cs', rfl, _, _, _, h'⟩ := h
    have := PoCells.len h'
    simp only [List.length_cons, this]
    omega
theorem PoCells.imp : ∀ {l : List Po} {cs : List Value}, PoCells R l cs → (∀ A xs, R A xs → R' A xs) → PoCells R' l cs
  | [], cs, h, _ => h
  | q :: r, cs, h, hi => by
    obtain ⟨A, c, cs', rfl, h1, h2, h3, h'⟩ := h
    exact ⟨A, c, cs', rfl, h1, h2, hi _ _ h3, PoCells.imp h' hi⟩
theorem PoCells.at_ : ∀ {l : List Po} {cs : List Value} {k : Nat}, PoCells R l cs → k < l.length →
    cs[k * 2]? = some (.int .i64 (l.getD k (0, [])).1) ∧ ∃ A c, cs[k * 2 + 1]? = some (.slice A (l.getD k (0, [])).2.length c) ∧ (l.getD k (0, [])).2.length ≤ c ∧ c ≤ maxLen ∧ R A (ints (l.getD k (0, [])).2)
  | [], _, k, _, h => by simp at h
  | q :: r, cs, 0, h, _ => by
    obtain ⟨A, c, cs', rfl, h1, h2, h3, h'⟩ := h
    exact ⟨rfl, A, c, rfl, h1, h2, h3⟩
  | q :: r, cs, k + 1, h, hk => by
    obtain ⟨A, c, cs', rfl, h1, h2, h3, h'⟩ := h
    have := PoCells.at_ (k := k) h' (by simpa using hk)
    rw [show (k + 1) * 2 = k * 2 + 1 + 1 by omega, List.getD_cons_succ]
    simpa using this
theorem PoCells.snoc : ∀ {l : List Po} {cs : List Value} {A : Option Addr} {c : Nat} {d : Int} {ps : List Int}, PoCells R l cs → ps.length ≤ c → c ≤ maxLen → R A (ints ps) → PoCells R (l ++ [(d, ps)]) (cs ++ [.int .i64 d, .slice A ps.length c])
  | [], cs, A, c, d, ps, h, h1, h2, h3 => by
    simp only [PoCells] at h
    subst h
    exact ⟨A, c, [], rfl, h1, h2, h3, rfl⟩
  | q :: r, cs, A, c, d, ps, h, h1, h2, h3 => by
    obtain ⟨A', c', cs', rfl, g1, g2, g3, h'⟩ := h
    exact ⟨A', c', cs' ++ [.int .i64 d, .slice A ps.length c], rfl, g1, g2, g3, PoCells.snoc h' h1 h2 h3⟩
theorem PoCells.take : ∀ {l : List Po} {cs : List Value} (k : Nat), PoCells R l cs → PoCells R (l.take k) (cs.take (k * 2))
  | _, cs, 0, _ => by simp [PoCells]
  | [], cs, k + 1, h => by simp only [PoCells] at h; subst h; simp [PoCells]
  | q :: r, cs, k + 1, h => by
    obtain ⟨A, c, cs', rfl, h1, h2, h3, h'⟩ := h
    rw [List.take_succ_cons, show (k + 1) * 2 = k * 2 + 1 + 1 by omega, List.take_succ_cons, List.take_succ_cons]
    exact ⟨A, c, _, rfl, h1, h2, h3, PoCells.take k h'⟩
theorem PoCells.drop : ∀ {l : List Po} {cs : List Value} (k : Nat), PoCells R l cs → PoCells R (l.drop k) (cs.drop (k * 2))
  | l, cs, 0, h => by simpa using h
  | [], cs, k + 1, h => by simp only [PoCells] at h; subst h; simp [PoCells]
  | q :: r, cs, k + 1, h => by
    obtain ⟨A, c, cs', rfl, h1, h2, h3, h'⟩ := h
    rw [List.drop_succ_cons, show (k + 1) * 2 = k * 2 + 1 + 1 by omega, List.drop_succ_cons, List.drop_succ_cons]
    exact PoCells.drop k h'
end

/-- A list of postings lies behind the address A, all of it below block B. -/
def Posts (w : World) (B : Nat) (A : Option Addr) (l : List Po) : Prop := ∃ cs, PoCells (Row w B) l cs ∧ Row w B A cs
theorem Posts.nil {w : World} {B : Nat} {A : Option Addr} : Posts w B A [] := ⟨[], rfl, Row.nil⟩
theorem Posts.below {w w' : World} {B : Nat} {A : Option Addr} {l : List Po} (h : Posts w B A l) (hb : Below B w w') : Posts w' B A l := by
  obtain ⟨cs, h1, h2⟩ := h
  exact ⟨cs, h1.imp fun _ _ h => h.below hb, h2.below hb⟩
theorem Posts.more {w : World} {B B' : Nat} {A : Option Addr} {l : List Po} (h : Posts w B A l) (hB : B ≤ B') : Posts w B' A l := by
  obtain ⟨cs, h1, h2⟩ := h
  exact ⟨cs, h1.imp fun _ _ h => h.more hB, h2.more hB⟩
/-- .. in a later world, where nothing has turned. -/
theorem Posts.later {w w' : World} {A : Option Addr} {l : List Po} (h : Posts w w.heap.size A l) (hb : Below w.heap.size w w') : Posts w' w'.heap.size A l := (h.below hb).more hb.size
theorem Posts.cut {w : World} {B : Nat} {A : Option Addr} {l : List Po} (h : Posts w B A l) (k : Nat) : Posts w B A (l.take k) := by
  obtain ⟨cs, h1, h2⟩ := h
  exact ⟨_, h1.take k, h2.cut (k * 2)⟩
theorem Posts.at_ {w : World} {B : Nat} {A : Option Addr} {l : List Po} (h : Posts w B A l) {k : Nat} (hk : k < l.length) :
    ∃ b off, A = some ⟨b, off, none⟩ ∧ b < B ∧ w.cell? ⟨b, off + k * 2, none⟩ = some (.int .i64 (l.getD k (0, [])).1) ∧
      ∃ A' c', w.cell? ⟨b, off + k * 2 + 1, none⟩ = some (.slice A' (l.getD k (0, [])).2.length c') ∧ (l.getD k (0, [])).2.length ≤ c' ∧ c' ≤ maxLen ∧ Row w B A' (ints (l.getD k (0, [])).2) := by
  obtain ⟨cs, h1, h2⟩ := h
  obtain ⟨b, off, rfl, hb, hc⟩ := h2.at_ (by rw [h1.len]; omega)
  obtain ⟨g1, A', c', g2, g3, g4, g5⟩ := h1.at_ hk
  exact ⟨b, off, rfl, hb, hc _ _ g1, A', c', by have := hc _ _ g2; rwa [← Nat.add_assoc] at this, g3, g4, g5⟩
theorem Posts.drop {w : World} {B b off : Nat} {l : List Po} (h : Posts w B (some ⟨b, off, none⟩) l) (k : Nat) : Posts w B (some ⟨b, off + k * 2, none⟩) (l.drop k) := by
  obtain ⟨cs, h1, h2⟩ := h
  refine ⟨_, h1.drop k, ?_⟩
  rcases h2 with rfl | ⟨b', o', e, hb, hc⟩
  · exact .inl (by simp)
  · injection e with e
    injection e with e1 e2
    subst e1 e2
    refine .inr ⟨b, off + k * 2, rfl, hb, fun j u hu => ?_⟩
    have := hc (k * 2 + j) u (by rw [← hu]; simp)
    rwa [← Nat.add_assoc] at this

/-- A block that no list of the call's own lies in: it is below base, or holds ints. -/
def Safe (base : Nat) (w : World) (b : Nat) : Prop := b < w.heap.size ∧ (b < base ∨ ∃ cs fr, w.heap[b]? = some (.cells cs 3 fr))
def RowS (base : Nat) (w : World) (A : Option Addr) (xs : List Value) : Prop := xs = [] ∨ ∃ b off, A = some ⟨b, off, none⟩ ∧ Safe base w b ∧ ∀ j u, xs[j]? = some u → w.cell? ⟨b, off + j, none⟩ = some u
theorem RowS.row {base : Nat} {w : World} {A : Option Addr} {xs : List Value} (h : RowS base w A xs) : Row w w.heap.size A xs := by
  rcases h with rfl | ⟨b, off, rfl, hs, hc⟩
  · exact .inl rfl
  · exact .inr ⟨b, off, rfl, hs.1, hc⟩
theorem RowS.of_old {base : Nat} {w : World} {A : Option Addr} {xs : List Value} (h : Row w base A xs) (hb : base ≤ w.heap.size) : RowS base w A xs := by
  rcases h with rfl | ⟨b, off, rfl, hs, hc⟩
  · exact .inl rfl
  · exact .inr ⟨b, off, rfl, ⟨by omega, .inl hs⟩, hc⟩
theorem RowS.of_own {base base' : Nat} {w : World} {A : Option Addr} {n c : Nat} {xs : List Value} (h : w.ownsRow base' 3 1 (.slice A n c) n xs) : RowS base w A xs := by
  rcases h.2 with ⟨hv, hn⟩ | ⟨g, cap, cur, hv, hg, hh, hnc, hcp, hcs, htake⟩
  · refine .inl (List.eq_nil_of_length_eq_zero ?_)
    rw [h.1, hn]
  · injection hv with h1 h2 h3
    subst h1
    have hrow := owned_row_of h
    rcases hrow with rfl | ⟨b, off, e, hb, hc⟩
    · exact .inl rfl
    · injection e with e
      injection e with e1 e2
      subst e1 e2
      exact .inr ⟨g, 0, rfl, ⟨(Array.getElem?_eq_some_iff.1 hh).1, .inr ⟨_, _, hh⟩⟩, hc⟩
/-- It stays where a list of another kind, of the call's own, grows. -/
theorem RowS.grown {base : Nat} {w w' : World} {A : Option Addr} {xs ys : List Value} {E : TypeId} {size : Nat} {v : Value} {n : Nat} (h : RowS base w A xs) (hv : w.ownsRow base E size v n ys) (hE : E ≠ 3) (hg : w.grownBy w' v.ownBlock) : RowS base w' A xs := by
  rcases h with rfl | ⟨b, off, rfl, ⟨hs, hk⟩, hc⟩
  · exact .inl rfl
  · have hne : v.ownBlock ≠ some b := by
      rcases hk with hk | ⟨cs, fr, hk⟩
      · intro e
        have := (hv.lt b e).1
        omega
      · intro e
        rcases hv.2 with ⟨rfl, _⟩ | ⟨g, cap, cur, rfl, _, hh, _⟩
        · cases e
        · simp only [Value.ownBlock, Option.some.injEq] at e
          subst e
          rw [hh] at hk
          simp at hk
          exact hE hk.2.1
    have hblk : w'.heap[b]? = w.heap[b]? := hg.block b hs fun e => hne e.symm
    refine .inr ⟨b, off, rfl, ⟨Nat.lt_of_lt_of_le hs hg.size, hk.imp id fun ⟨cs, fr, h⟩ => ⟨cs, fr, hblk.trans h⟩⟩, fun j u hu => ?_⟩
    rw [World.cell?_of_block (a := ⟨b, off + j, none⟩) hblk]
    exact hc j u hu
theorem RowS.below {base : Nat} {w w' : World} {A : Option Addr} {xs : List Value} (h : RowS base w A xs) (hb : Below w.heap.size w w') : RowS base w' A xs := by
  rcases h with rfl | ⟨b, off, rfl, ⟨hs, hk⟩, hc⟩
  · exact .inl rfl
  · refine .inr ⟨b, off, rfl, ⟨Nat.lt_of_lt_of_le hs hb.size, hk.imp id fun ⟨cs, fr, h⟩ => ⟨cs, fr, (hb.block b hs).trans h⟩⟩, fun j u hu => ?_⟩
    rw [World.cell?_of_block (a := ⟨b, off + j, none⟩) (hb.block b hs)]
    exact hc j u hu

/-- A list of postings of the call's own: what it holds lies in blocks of their own. -/
def OwnPo (E : TypeId) (base : Nat) (w : World) (v : Value) (l : List Po) : Prop := ∃ cs, w.ownsRow base E 2 v l.length cs ∧ PoCells (RowS base w) l cs
section
variable {E : TypeId} {base : Nat} {w w' : World} {v v' : Value} {l : List Po}
theorem OwnPo.nil : OwnPo E base w (.slice none 0 0) [] := ⟨[], World.ownsRow_nil _ _ _ _, rfl⟩
theorem OwnPo.below (h : OwnPo E base w v l) (hb : Below w.heap.size w w') : OwnPo E base w' v l := by
  obtain ⟨cs, h1, h2⟩ := h
  exact ⟨cs, owned_below h1 hb, h2.imp fun _ _ h => h.below hb⟩
theorem OwnPo.posts (h : OwnPo E base w v l) : ∃ A c, v = .slice A l.length c ∧ l.length ≤ c ∧ Posts w w.heap.size A l := by
  obtain ⟨cs, h1, h2⟩ := h
  obtain ⟨A, c, rfl, hc, hr⟩ := owned_row h1
  exact ⟨A, c, rfl, hc, cs, h2.imp fun _ _ h => h.row, hr⟩
/-- One more behind them: the row has grown by two cells. -/
theorem OwnPo.push (hE : E ≠ 3) {cs : List Value} (h1 : w.ownsRow base E 2 v l.length cs) (h2 : PoCells (RowS base w) l cs) {A : Option Addr} {c : Nat} {d : Int} {ps : List Int} (hc : ps.length ≤ c) (hcx : c ≤ maxLen) (hr : RowS base w A (ints ps))
    (hown : w'.ownsRow base E 2 v' (l.length + 1) (cs ++ [.int .i64 d, .slice A ps.length c])) (hg : w.grownBy w' v.ownBlock) : OwnPo E base w' v' (l ++ [(d, ps)]) := by
  refine ⟨_, ?_, (h2.imp fun _ _ h => h.grown h1 hE hg).snoc hc hcx (hr.grown h1 hE hg)⟩
  rw [List.length_append, List.length_singleton]
  exact hown
end
end Go.Proofs.YtgcdekaceimdnaaGreat

/- What is got that makes a list of postings; postings that came in. -/
namespace Go.Proofs.YtgcdekaceimdnaaGreat
open Go Go.RowKit
set_option linter.unusedVariables false

theorem owned_roomed {w : World} {base : Nat} {e : TypeId} {size : Nat} {v : Value} {n : Nat} {xs : List Value} (h : w.ownsRow base e size v n xs) : ∃ A c, v = .slice A n c ∧ (n ≤ c ∧ c ≤ maxLen) ∧ Row w w.heap.size A xs := by
  obtain ⟨A, c, rfl, hc, hr⟩ := owned_row h
  refine ⟨A, c, rfl, ⟨hc, ?_⟩, hr⟩
  rcases h.2 with ⟨hv, _⟩ | ⟨g, cap, cur, hv, _, _, _, hcp, _⟩
  · injection hv with _ _ e
    rw [e]
    exact Nat.zero_le _
  · injection hv with _ _ e
    rw [e]
    exact hcp
theorem info_posting : (Tryz.prog.info? 54).map (fun i => (i.zero, i.size, i.bytes)) = some (some (.agg #[.int .i64 0, .slice none 0 0]), 2, 32) := by kernel_rfl

/-- What a walk is told of a list of postings that came in. -/
def InPosts (w : World) (a : Option Addr) (len cap : Nat) (ps : List Po) : Prop :=
  len ≤ cap ∧ cap ≤ maxLen ∧ ps.length = len ∧ Posts w w.heap.size a ps ∧ ∀ p ∈ ps, (Lit.int .i64 p.1).wf = true ∧ ∀ x ∈ p.2, (Lit.int .i64 x).wf = true
theorem InPosts.below {w w' : World} {a : Option Addr} {len cap : Nat} {ps : List Po} (h : InPosts w a len cap ps) (hb : Below w.heap.size w w') : InPosts w' a len cap ps :=
  ⟨h.1, h.2.1, h.2.2.1, h.2.2.2.1.later hb, h.2.2.2.2⟩
/-- What a call gives that makes a list of postings. -/
def GavePo (l : List Po) (w : World) (e : Ending) (w' : World) : Prop := ∃ v, e = .returned v ∧ OwnPo 54 w.heap.size w' v l ∧ Below w.heap.size w w'
end Go.Proofs.YtgcdekaceimdnaaGreat

/- Groups of postings in memory: a map whose keys are texts, each thing in it a row of postings. -/
set_option linter.unusedVariables false
namespace Go.Proofs.YtgcdekaceimdnaaGreat
open Go Go.RowKit

/-- A block of S that holds cells of a type. -/
def Of (S : Nat → Prop) (t : TypeId) (w : World) (k : Nat) : Prop := S k ∧ ∃ cs fr, w.heap[k]? = some (.cells cs t fr) ∧ fr = (0, 0)
theorem Of.lt {S : Nat → Prop} {t : TypeId} {w : World} {k : Nat} (h : Of S t w k) : k < w.heap.size := by obtain ⟨_, cs, fr, h, _⟩ := h; exact (Array.getElem?_eq_some_iff.1 h).1
theorem Of.keep {S : Nat → Prop} {t : TypeId} {w w' : World} {k : Nat} (h : Of S t w k) (hk : w'.heap[k]? = w.heap[k]?) : Of S t w' k := by obtain ⟨h1, cs, fr, h, h0⟩ := h; exact ⟨h1, cs, fr, hk.trans h, h0⟩
theorem Of.imp {S T : Nat → Prop} {t : TypeId} {w : World} {k : Nat} (h : Of S t w k) (hs : S k → T k) : Of T t w k := ⟨hs h.1, h.2⟩
theorem RowP.keepO {S : Nat → Prop} {t : TypeId} {w w' : World} {A : Option Addr} {xs : List Value} (h : RowP (Of S t w) w A xs) (hk : ∀ k, Of S t w k → w'.heap[k]? = w.heap[k]?) : RowP (Of S t w') w' A xs := (h.keep hk).imp fun k hs => hs.keep (hk k hs)
/-- The row's own block, if there is one, is of its type. -/
theorem owned_type {w : World} {base : Nat} {e : TypeId} {size : Nat} {v : Value} {n : Nat} {xs : List Value} (h : w.ownsRow base e size v n xs) {k : Nat} (hk : v.ownBlock = some k) : ∃ cs fr, w.heap[k]? = some (.cells cs e fr) := by
  rcases h.2 with ⟨rfl, _⟩ | ⟨g, cap, cur, rfl, _, hh, _⟩
  · cases hk
  · simp only [Value.ownBlock, Option.some.injEq] at hk
    subst hk
    exact ⟨_, _, hh⟩

theorem owned_type0 {w : World} {base : Nat} {e : TypeId} {size : Nat} {v : Value} {n : Nat} {xs : List Value} (h : w.ownsRow base e size v n xs) {k : Nat} (hk : v.ownBlock = some k) : ∃ cs, w.heap[k]? = some (.cells cs e (0, 0)) := by
  rcases h.2 with ⟨rfl, _⟩ | ⟨g, cap, cur, rfl, _, hh, _⟩
  · cases hk
  · simp only [Value.ownBlock, Option.some.injEq] at hk
    subst hk
    exact ⟨_, hh⟩
/-- A row of postings, all of it in blocks of S. -/
def OwnPP (S : Nat → Prop) (w : World) (v : Value) (l : List Pn) : Prop := ∃ cs, w.ownsRow 0 54 2 v l.length cs ∧ (∀ k, v.ownBlock = some k → S k) ∧ PoCells (RowP (Of S 3 w) w) l cs
theorem OwnPP.nil {S : Nat → Prop} {w : World} : OwnPP S w (.slice none 0 0) [] := ⟨[], World.ownsRow_nil _ _ _ _, (fun k hk => by cases hk), rfl⟩
theorem OwnPP.keep {S : Nat → Prop} {w w' : World} {v : Value} {l : List Pn} (h : OwnPP S w v l) (hv : ∀ k, v.ownBlock = some k → w'.heap[k]? = w.heap[k]?) (hk : ∀ k, Of S 3 w k → w'.heap[k]? = w.heap[k]?) : OwnPP S w' v l := by
  obtain ⟨cs, h1, h2, h3⟩ := h
  exact ⟨cs, owned_keep h1 hv, h2, h3.imp fun _ _ h => h.keepO hk⟩
theorem OwnPP.imp {S T : Nat → Prop} {w : World} {v : Value} {l : List Pn} (h : OwnPP S w v l) (hs : ∀ k, S k → T k) : OwnPP T w v l := by
  obtain ⟨cs, h1, h2, h3⟩ := h
  exact ⟨cs, h1, fun k hk => hs k (h2 k hk), h3.imp fun _ _ h => h.imp fun k hk => hk.imp (hs k)⟩
theorem OwnPP.posts {S : Nat → Prop} {w : World} {v : Value} {l : List Pn} (h : OwnPP S w v l) : ∃ A c, v = .slice A l.length c ∧ (l.length ≤ c ∧ c ≤ maxLen) ∧ Posts w w.heap.size A l := by
  obtain ⟨cs, h1, h2, h3⟩ := h
  obtain ⟨A, c, rfl, hc, hr⟩ := owned_roomed h1
  exact ⟨A, c, rfl, hc, cs, h3.imp fun _ _ h => RowP.row h fun b hb => hb.lt, hr⟩
theorem OwnPP.push {S : Nat → Prop} {w w' : World} {v v' : Value} {l : List Pn} {cs : List Value} (h1 : w.ownsRow 0 54 2 v l.length cs) (h3 : PoCells (RowP (Of S 3 w) w) l cs) {A : Option Addr} {c : Nat} {d : Int} {ps : List Int} (hc : ps.length ≤ c) (hcx : c ≤ maxLen) (hr : RowP (Of S 3 w) w A (ints ps))
    (hown : w'.ownsRow 0 54 2 v' (l.length + 1) (cs ++ [.int .i64 d, .slice A ps.length c])) (hg : w.grownBy w' v.ownBlock) (hS : ∀ k, v'.ownBlock = some k → S k) : OwnPP S w' v' (l ++ [(d, ps)]) := by
  have hk : ∀ k, Of S 3 w k → w'.heap[k]? = w.heap[k]? := fun k hk => hg.block k hk.lt fun e => by
    obtain ⟨_, cs', fr, hh, _⟩ := hk
    exact owned_apart h1 hh (by decide) e.symm
  refine ⟨_, ?_, hS, (h3.imp fun _ _ h => h.keepO hk).snoc hc hcx (hr.keepO hk)⟩
  rw [List.length_append, List.length_singleton]
  exact hown

/-- The map at block M, whose first entry came as number c, has the groups g; all of it lies in blocks of S. -/
def PmAt (S : Nat → Prop) (w : World) (M c : Nat) (g : List GP) : Prop := ∃ m : List EntK, MapK w M c m ∧ S M ∧ m.length = g.length ∧
  (∀ (i : Nat) (e : EntK) (p : GP), m[i]? = some e → g[i]? = some p → e.1 = p.1 ∧ OwnPP S w e.2 p.2) ∧
  ∀ (i j : Nat) (e f : EntK) (k : Nat), i ≠ j → m[i]? = some e → m[j]? = some f → e.2.ownBlock = some k → f.2.ownBlock ≠ some k
/-- The blocks that the map turns: itself, and the rows. -/
def MapB (S : Nat → Prop) (w : World) (M k : Nat) : Prop := k = M ∨ Of S 54 w k
theorem OwnPP.not_map {S : Nat → Prop} {w : World} {v : Value} {l : List Pn} (h : OwnPP S w v l) {B : Nat} {es : Array MapEntry} {c : Nat} (hB : w.heap[B]? = some (.map es c)) : v.ownBlock ≠ some B := by
  intro he
  obtain ⟨cs, h1, _⟩ := h
  obtain ⟨cs', fr, hh⟩ := owned_type h1 he
  rw [hh] at hB
  cases hB
theorem PmAt.lt {S : Nat → Prop} {w : World} {M c : Nat} {g : List GP} (h : PmAt S w M c g) : M < w.heap.size := by obtain ⟨m, h1, _⟩ := h; exact (Array.getElem?_eq_some_iff.1 h1).1
theorem PmAt.map {S : Nat → Prop} {w : World} {M c : Nat} {g : List GP} (h : PmAt S w M c g) : ∃ es c', w.heap[M]? = some (.map es c') := by obtain ⟨m, h1, _⟩ := h; exact ⟨_, _, h1⟩
theorem PmAt.keep {S : Nat → Prop} {w w' : World} {M c : Nat} {g : List GP} (h : PmAt S w M c g) (hk : ∀ k, S k → k < w.heap.size → w'.heap[k]? = w.heap[k]?) : PmAt S w' M c g := by
  have hlt := h.lt
  obtain ⟨m, h1, h2, h3, h4, h5⟩ := h
  refine ⟨m, (hk M h2 hlt).trans h1, h2, h3, fun i e p he hp => ?_, h5⟩
  obtain ⟨r1, r2⟩ := h4 i e p he hp
  refine ⟨r1, r2.keep (fun k hv => ?_) fun k hs => hk k hs.1 hs.lt⟩
  obtain ⟨cs, q1, q2, _⟩ := r2
  exact hk k (q2 k hv) (q1.lt k hv).2
theorem PmAt.imp {S T : Nat → Prop} {w : World} {M c : Nat} {g : List GP} (h : PmAt S w M c g) (hs : ∀ k, S k → T k) : PmAt T w M c g := by
  obtain ⟨m, h1, h2, h3, h4, h5⟩ := h
  exact ⟨m, h1, hs M h2, h3, fun i e p he hp => ⟨(h4 i e p he hp).1, (h4 i e p he hp).2.imp hs⟩, h5⟩
theorem posK_getP {S : Nat → Prop} {w : World} : ∀ {m : List EntK} {g : List GP} (t : Nm), m.length = g.length → (∀ (i : Nat) (e : EntK) (p : GP), m[i]? = some e → g[i]? = some p → e.1 = p.1 ∧ OwnPP S w e.2 p.2) → OwnPP S w (valK m t) (getP g t)
  | [], g, t, hl, h => by
    cases g with
    | nil => exact OwnPP.nil
    | cons p g => cases hl
  | e :: m, g, t, hl, h => by
    cases g with
    | nil => cases hl
    | cons p g =>
      obtain ⟨h1, h2⟩ := h 0 e p rfl rfl
      have ih := posK_getP (m := m) (g := g) t (by simpa using hl) fun i e' p' he hp => h (i + 1) e' p' (by simpa using he) (by simpa using hp)
      rw [getP]
      by_cases ht : e.1 = t
      · have hp : posK (e :: m) t = 0 := by unfold posK; rw [List.findIdx_cons]; simp [ht]
        have hv : valK (e :: m) t = e.2 := by unfold valK; simp [hp]
        rw [if_pos (by rw [← h1]; exact ht), hv]
        exact h2
      · have hp : posK (e :: m) t = posK m t + 1 := by unfold posK; rw [List.findIdx_cons]; simp [ht]
        have hv : valK (e :: m) t = valK m t := by unfold valK; simp [hp]
        rw [if_neg (by rw [← h1]; exact ht), hv]
        exact ih
/-- What is looked up is the group's row. -/
theorem PmAt.look {S : Nat → Prop} {w : World} {M c : Nat} {g : List GP} (h : PmAt S w M c g) (t : Nm) : ∃ v, (∃ m, MapK w M c m ∧ valK m t = v) ∧ OwnPP S w v (getP g t) := by
  obtain ⟨m, h1, h2, h3, h4, h5⟩ := h
  exact ⟨_, ⟨m, h1, rfl⟩, posK_getP t h3 h4⟩
theorem PmAt.keys {S : Nat → Prop} {w : World} {M c : Nat} {g : List GP} (h : PmAt S w M c g) : ∃ m, MapK w M c m ∧ m.map (·.1) = g.map (·.1) ∧ m.length = g.length := by
  obtain ⟨m, h1, _, h3, h4, _⟩ := h
  refine ⟨m, h1, List.ext_getElem (by simp [h3]) fun i hi hj => ?_, h3⟩
  have hi' : i < m.length := by simpa using hi
  have hj' : i < g.length := by simpa using hj
  simpa using (h4 i _ _ (List.getElem?_eq_getElem hi') (List.getElem?_eq_getElem hj')).1
theorem addP_at : ∀ {m : List EntK} {g : List GP} {t : Nm} {a : Pn}, m.length = g.length → (∀ (i : Nat) (e : EntK) (p : GP), m[i]? = some e → g[i]? = some p → e.1 = p.1) →
    (addP g t a).length = (entK m t).length ∧ (addP g t a)[posK m t]? = some (t, getP g t ++ [a]) ∧ ∀ i p, i ≠ posK m t → (addP g t a)[i]? = some p → g[i]? = some p
  | [], g, t, a, hl, h => by
    cases g with
    | nil => refine ⟨by simp [addP, entK, posK], by simp [addP, posK, getP], fun i p hi hp => ?_⟩; cases i with | zero => simp [posK] at hi | succ i => simp [addP] at hp
    | cons p g => cases hl
  | e :: m, g, t, a, hl, h => by
    cases g with
    | nil => cases hl
    | cons p g =>
      have h1 := h 0 e p rfl rfl
      obtain ⟨i1, i2, i3⟩ := addP_at (m := m) (g := g) (t := t) (a := a) (by simpa using hl) fun i e' p' he hp => h (i + 1) e' p' (by simpa using he) (by simpa using hp)
      have hl' : m.length = g.length := by simpa using hl
      rw [addP]
      by_cases ht : e.1 = t
      · have hp : posK (e :: m) t = 0 := by unfold posK; rw [List.findIdx_cons]; simp [ht]
        have ht' : p.1 = t := by rw [← h1]; exact ht
        rw [if_pos ht', hp]
        refine ⟨by simp [entK, hp, hl'], by simp [getP, ht'], fun i q hi hq => ?_⟩
        cases i with
        | zero => exact absurd rfl hi
        | succ i => simpa using hq
      · have hp : posK (e :: m) t = posK m t + 1 := by unfold posK; rw [List.findIdx_cons]; simp [ht]
        have ht' : ¬ p.1 = t := by rw [← h1]; exact ht
        have he : (entK (e :: m) t).length = (entK m t).length + 1 := by
          unfold entK
          rw [hp]
          by_cases hq : posK m t < m.length
          · rw [if_pos hq, if_pos (by simpa using hq)]; rfl
          · rw [if_neg hq, if_neg (by simpa using hq)]; simp
        rw [if_neg ht', hp]
        refine ⟨by rw [he, List.length_cons, i1], by rw [List.getElem?_cons_succ, i2, getP, if_neg ht'], fun i q hi hq => ?_⟩
        cases i with
        | zero => simpa using hq
        | succ i => simpa using i3 i q (by omega) (by simpa using hq)
/-- The groups behind the entry, the append and the store. -/
theorem PmAt.added {S T : Nat → Prop} {w w3 : World} {M c : Nat} {g : List GP} {m : List EntK} {t : Nm} {a : Pn} {v' : Value}
    (h1 : MapK w M c m) (h2 : S M) (h3 : m.length = g.length) (h4 : ∀ (i : Nat) (e : EntK) (p : GP), m[i]? = some e → g[i]? = some p → e.1 = p.1 ∧ OwnPP S w e.2 p.2)
    (h5 : ∀ (i j : Nat) (e f : EntK) (k : Nat), i ≠ j → m[i]? = some e → m[j]? = some f → e.2.ownBlock = some k → f.2.ownBlock ≠ some k)
    (hST : ∀ k, S k → T k) (hk : ∀ (k : Nat), k < w.heap.size → k ≠ M → (valK m t).ownBlock ≠ some k → w3.heap[k]? = w.heap[k]?)
    (hm2 : MapK w3 M c ((entK m t).set (posK m t) (t, v'))) (ho : OwnPP T w3 v' (getP g t ++ [a])) (hn : v'.ownBlock = (valK m t).ownBlock ∨ ∀ k, v'.ownBlock = some k → w.heap.size ≤ k) : PmAt T w3 M c (addP g t a) := by
  obtain ⟨p1, p2⟩ := posK_entK m t
  obtain ⟨q1, q2, q3⟩ := addP_at (a := a) (t := t) h3 fun i e p he hp => (h4 i e p he hp).1
  have hB : M < w.heap.size := (Array.getElem?_eq_some_iff.1 h1).1
  have hent : ∀ (i : Nat) (e : EntK), i ≠ posK m t → (entK m t)[i]? = some e → m[i]? = some e := fun i e hi he => by
    unfold entK at he
    split at he
    · exact he
    · rename_i hlt
      have hle : posK m t ≤ m.length := List.findIdx_le_length
      rw [List.getElem?_append] at he
      split at he
      · exact he
      · rename_i h6
        have : i ≠ m.length := by omega
        rw [List.getElem?_eq_none (by simp; omega)] at he
        cases he
  have hval : ∀ (i : Nat) (e : EntK) (k : Nat), i ≠ posK m t → m[i]? = some e → e.2.ownBlock = some k → (valK m t).ownBlock ≠ some k := fun i e k hi he hk' => by
    unfold valK
    split
    · rename_i hlt
      exact h5 i (posK m t) e _ k hi he (List.getElem?_eq_getElem hlt) hk'
    · intro hh; cases hh
  refine ⟨_, hm2, hST M h2, by rw [List.length_set, q1], fun i e p he hp => ?_, fun i j e f k hij he hf hk' => ?_⟩
  · rw [List.getElem?_set] at he
    by_cases hi : posK m t = i
    · subst hi
      rw [if_pos rfl, if_pos p1] at he
      rw [q2] at hp
      cases he
      cases hp
      exact ⟨rfl, ho⟩
    · rw [if_neg hi] at he
      have he' := hent i e (fun h => hi h.symm) he
      have hp' := q3 i p (fun h => hi h.symm) hp
      obtain ⟨r1, r2⟩ := h4 i e p he' hp'
      have rv := hval i e
      have rm : ∀ k, e.2.ownBlock = some k → k ≠ M := fun k hk' e' => r2.not_map h1 (by rw [hk', e'])
      refine ⟨r1, OwnPP.imp (r2.keep (fun k hk' => ?_) fun k hs => ?_) hST⟩
      · have hlt : k < w.heap.size := by obtain ⟨cs, g1, _⟩ := r2; exact (g1.lt k hk').2
        exact hk k hlt (rm k hk') (rv k (fun h => hi h.symm) he' hk')
      · obtain ⟨_, cs', fr', hh, _⟩ := hs
        refine hk k (Array.getElem?_eq_some_iff.1 hh).1 (fun e' => ?_) (fun e' => ?_)
        · subst e'; rw [h1] at hh; cases hh
        · obtain ⟨cs2, g1, _⟩ := posK_getP (S := S) (w := w) t h3 h4
          exact owned_apart g1 hh (by decide) e'
  · rw [List.getElem?_set] at he hf
    have hother : ∀ (x : Nat) (u : EntK), posK m t ≠ x → (entK m t)[x]? = some u → ∀ k, u.2.ownBlock = some k → v'.ownBlock ≠ some k := fun x u hx hu k hk2 hv => by
      have hu' := hent x u (fun h => hx h.symm) hu
      rcases hn with hn | hn
      · rw [hn] at hv
        exact hval x u k (fun h => hx h.symm) hu' hk2 hv
      · have hlx : x < g.length := by rw [← h3]; exact (List.getElem?_eq_some_iff.1 hu').1
        obtain ⟨cs2, g1, _⟩ := (h4 x u _ hu' (List.getElem?_eq_getElem hlx)).2
        have := (g1.lt k hk2).2
        have := hn k hv
        omega
    by_cases hi : posK m t = i
    · subst hi
      rw [if_pos rfl, if_pos p1] at he
      cases he
      rw [if_neg hij] at hf
      intro hf2
      exact hother j f hij hf k hf2 hk'
    · rw [if_neg hi] at he
      by_cases hj : posK m t = j
      · subst hj
        rw [if_pos rfl, if_pos p1] at hf
        cases hf
        exact hother i e hi he k hk'
      · rw [if_neg hj] at hf
        exact h5 i j e f k hij (hent i e (fun h => hi h.symm) he) (hent j f (fun h => hj h.symm) hf) hk'
end Go.Proofs.YtgcdekaceimdnaaGreat

/- A buffer in memory: entries, where their terms stand, how many words, the last number. -/
set_option linter.unusedVariables false
namespace Go.Proofs.YtgcdekaceimdnaaGreat
open Go Go.RowKit

theorem four_cells {w : World} {b : Nat} {x y z u : Value} {t : TypeId} (h : w.heap[b]? = some (.cells #[x, y, z, u] t (0, 0))) :
    w.cell? ⟨b, 0, none⟩ = some x ∧ w.cell? ⟨b, 1, none⟩ = some y ∧ w.cell? ⟨b, 2, none⟩ = some z ∧ w.cell? ⟨b, 3, none⟩ = some u ∧
      w.frozen? ⟨b, 0, none⟩ = false ∧ w.frozen? ⟨b, 1, none⟩ = false ∧ w.frozen? ⟨b, 2, none⟩ = false ∧ w.frozen? ⟨b, 3, none⟩ = false := by
  simp [World.cell?, World.frozen?, h]

/-- Fields in blocks of S, behind a plain address. -/
def RowF (S : Nat → Prop) (w : World) (A : Option Addr) (xs : List Value) : Prop := RowP (Of S 59 w) w A xs ∧ (A = none ∨ ∃ b o, A = some ⟨b, o, none⟩)
theorem RowF.keepO {S : Nat → Prop} {w w' : World} {A : Option Addr} {xs : List Value} (h : RowF S w A xs) (hk : ∀ k, Of S 59 w k → w'.heap[k]? = w.heap[k]?) : RowF S w' A xs := ⟨RowP.keepO h.1 hk, h.2⟩
theorem RowF.impS {S T : Nat → Prop} {w : World} {A : Option Addr} {xs : List Value} (h : RowF S w A xs) (hs : ∀ k, S k → T k) : RowF T w A xs := ⟨RowP.imp h.1 fun k hk => hk.imp (hs k), h.2⟩
/-- A list of entries, all of it in blocks of S. -/
def OwnES (S : Nat → Prop) (w : World) (v : Value) (l : List En) : Prop := ∃ cs, w.ownsRow 0 37 3 v l.length cs ∧ (∀ k, v.ownBlock = some k → S k) ∧ NestC enS (RowF S w) l cs
section
variable {S T : Nat → Prop} {w w' : World} {v v' : Value} {l : List En}
theorem OwnES.nil : OwnES S w (.slice none 0 0) [] := ⟨[], World.ownsRow_nil _ _ _ _, (fun k hk => by cases hk), rfl⟩
theorem OwnES.keep (h : OwnES S w v l) (hv : ∀ k, v.ownBlock = some k → w'.heap[k]? = w.heap[k]?) (hk : ∀ k, Of S 59 w k → w'.heap[k]? = w.heap[k]?) : OwnES S w' v l := by
  obtain ⟨cs, h1, h2, h3⟩ := h
  exact ⟨cs, owned_keep h1 hv, h2, h3.imp fun _ _ h => h.keepO hk⟩
theorem OwnES.keeps (h : OwnES S w v l) (hk : ∀ k, S k → k < w.heap.size → w'.heap[k]? = w.heap[k]?) : OwnES S w' v l := by
  refine h.keep (fun k hv => ?_) fun k hs => hk k hs.1 hs.lt
  obtain ⟨cs, q1, q2, _⟩ := h
  exact hk k (q2 k hv) (q1.lt k hv).2
theorem OwnES.imp (h : OwnES S w v l) (hs : ∀ k, S k → T k) : OwnES T w v l := by
  obtain ⟨cs, h1, h2, h3⟩ := h
  exact ⟨cs, h1, fun k hk => hs k (h2 k hk), h3.imp fun _ _ h => h.impS hs⟩
/-- What the blocks are is known by their types. -/
theorem OwnES.nestP {p : Nat → Prop} (h : OwnES S w v l) (hp : ∀ k, S k → k < w.heap.size → (∃ cs t fr, w.heap[k]? = some (.cells cs t fr) ∧ (t = 37 ∨ t = 59)) → p k) : ∃ A c, v = .slice A l.length c ∧ (l.length ≤ c ∧ c ≤ maxLen) ∧ NestP enS p w A l := by
  obtain ⟨cs, h1, h2, h3⟩ := h
  obtain ⟨A, c, rfl, hc, hr⟩ := owned_roomed h1
  refine ⟨A, c, rfl, hc, cs, h3.imp fun _ _ h => h.1.imp fun k hk => hp k hk.1 hk.lt ?_, ?_⟩
  · obtain ⟨_, cs', fr, hh, _⟩ := hk
    exact ⟨cs', _, fr, hh, .inr rfl⟩
  · rcases h1.2 with ⟨hv, h0⟩ | ⟨g, cap, cur, hv, _, hh, _⟩
    · refine .inl (List.eq_nil_of_length_eq_zero ?_)
      rw [h1.1, h0]
    · injection hv with e1 e2 e3
      subst e1
      have hs := h2 g rfl
      rcases hr with h0 | ⟨b, off, e, hb, hcc⟩
      · exact .inl h0
      · injection e with e
        injection e with e4 e5
        subst e4 e5
        exact .inr ⟨g, 0, rfl, hp g hs hb ⟨_, _, _, hh, .inl rfl⟩, hcc⟩
theorem OwnES.nest (h : OwnES S w v l) : ∃ A c, v = .slice A l.length c ∧ (l.length ≤ c ∧ c ≤ maxLen) ∧ Nest enS w w.heap.size A l := h.nestP fun k _ hk _ => hk
/-- One more behind them. -/
theorem OwnES.push {cs : List Value} (h1 : w.ownsRow 0 37 3 v l.length cs) (h3 : NestC enS (RowF S w) l cs) {A : Option Addr} {c : Nat} {q : En} (hc : q.2.1.length ≤ c) (hcx : c ≤ maxLen) (hr : RowF S w A (flds q.2.1))
    (hown : w'.ownsRow 0 37 3 v' (l.length + 1) (cs ++ [.int .i64 q.1, .slice A q.2.1.length c, .int .i64 q.2.2])) (hg : w.grownBy w' v.ownBlock) (hS : ∀ k, v'.ownBlock = some k → S k) : OwnES S w' v' (l ++ [q]) := by
  have hk : ∀ k, Of S 59 w k → w'.heap[k]? = w.heap[k]? := fun k hk => hg.block k hk.lt fun e => by
    obtain ⟨_, cs', fr, hh, _⟩ := hk
    exact owned_apart h1 hh (by decide) e.symm
  refine ⟨_, ?_, hS, (h3.imp fun _ _ h => h.keepO hk).snoc (q := q) hc hcx (hr.keepO hk)⟩
  rw [List.length_append, List.length_singleton]
  exact hown
/-- Fields of a call's own lie in a block of their type. -/
theorem RowF.of_own {base : Nat} {A : Option Addr} {n c : Nat} {fs : List Fd} (h : w.ownsRow base 59 2 (.slice A n c) n (flds fs)) (hS : ∀ k, base ≤ k → k < w.heap.size → S k) : RowF S w A (flds fs) := by
  rcases h.2 with ⟨hv, hn⟩ | ⟨g, cap, cur, hv, hg, hh, hnc, hcp, hcs, htake⟩
  · injection hv with h1 h2 h3
    refine ⟨.inl (List.eq_nil_of_length_eq_zero ?_), .inl h1⟩
    rw [h.1, hn]
  · injection hv with h1 h2 h3
    subst h1
    refine ⟨?_, .inr ⟨g, 0, rfl⟩⟩
    rcases owned_row_of h with h0 | ⟨b, off, e, hb, hc⟩
    · exact .inl h0
    · injection e with e
      injection e with e1 e2
      subst e1 e2
      exact .inr ⟨g, 0, rfl, ⟨hS g hg hb, _, _, hh, rfl⟩, hc⟩
/-- An entry of the list, and where its fields lie. -/
theorem OwnES.at_ (h : OwnES S w v l) {k : Nat} (hk : k < l.length) : ∃ b c0 A c, v = .slice (some ⟨b, 0, none⟩) l.length c0 ∧ S b ∧ b < w.heap.size ∧ w.cell? ⟨b, k * 3, none⟩ = some (.int .i64 l[k].1) ∧ w.cell? ⟨b, k * 3 + 1, none⟩ = some (.slice A l[k].2.1.length c) ∧ w.cell? ⟨b, k * 3 + 2, none⟩ = some (.int .i64 l[k].2.2) ∧ l[k].2.1.length ≤ c ∧ c ≤ maxLen ∧ RowF S w A (flds l[k].2.1) := by
  obtain ⟨cs, h1, h2, h3⟩ := h
  obtain ⟨A, c, g1, g2, g3, g4, g5, g6⟩ := h3.at_ hk
  have e0 := g5 0 _ rfl
  have e2 := g6 0 _ rfl
  rcases h1.2 with ⟨hv, h0⟩ | ⟨g, cap, cur, hv, hg, hh, _⟩
  · omega
  · subst hv
    have hc : ∀ {j u}, cs[j]? = some u → w.cell? ⟨g, j, none⟩ = some u := fun {j u} hu => by have := h1.cells (g := g) rfl _ _ hu; simpa [Addr.add_lit] using this
    exact ⟨g, cap, A, c, rfl, h2 g rfl, (Array.getElem?_eq_some_iff.1 hh).1, hc e0, hc g1, hc e2, g2, g3, g4⟩
end

/-- The buffer at block B has the entries l; up is the last number that was ever added. All of it lies in blocks of S. -/
structure BufIn (S : Nat → Prop) (w : World) (B : Nat) (l : List En) (up : Int) (v : Value) (M c : Nat) (g : List GP) : Prop where
  cells : w.heap[B]? = some (.cells #[v, .map (some M), .int .i64 (weightE l : Int), .int .i64 up] 63 (0, 0))
  mine : S B
  own : OwnES S w v l
  map : PmAt S w M c g
  stand : Stand g l
  good : GoodE l
  up1 : -1 ≤ up
  last : l ≠ [] → up = lastE l
  lt : ∀ k, S k → k < w.heap.size
def BufAt (S : Nat → Prop) (w : World) (B : Nat) (l : List En) (up : Int) : Prop := ∃ v M c g, BufIn S w B l up v M c g
section
variable {S T : Nat → Prop} {w w' : World} {B : Nat} {l : List En} {up : Int}
theorem BufIn.keep {v : Value} {M c : Nat} {g : List GP} (h : BufIn S w B l up v M c g) (hk : ∀ k, S k → w'.heap[k]? = w.heap[k]?) (hs : w.heap.size ≤ w'.heap.size) : BufIn S w' B l up v M c g :=
  ⟨(hk B h.mine).trans h.cells, h.mine, h.own.keeps fun k hk' _ => hk k hk', h.map.keep fun k hk' _ => hk k hk', h.stand, h.good, h.up1, h.last, fun k hk' => Nat.lt_of_lt_of_le (h.lt k hk') hs⟩
theorem BufAt.keep (h : BufAt S w B l up) (hk : ∀ k, S k → w'.heap[k]? = w.heap[k]?) (hs : w.heap.size ≤ w'.heap.size) : BufAt S w' B l up := by
  obtain ⟨v, M, c, g, h⟩ := h
  exact ⟨v, M, c, g, h.keep hk hs⟩
theorem BufIn.below {v : Value} {M c : Nat} {g : List GP} (h : BufIn S w B l up v M c g) (hb : Below w.heap.size w w') : BufIn S w' B l up v M c g := h.keep (fun k hk => hb.block k (h.lt k hk)) hb.size
theorem BufAt.below (h : BufAt S w B l up) (hb : Below w.heap.size w w') : BufAt S w' B l up := by
  obtain ⟨v, M, c, g, h⟩ := h
  exact ⟨v, M, c, g, h.below hb⟩
theorem BufAt.only (h : BufAt S w B l up) (hb : OnlyIn T w w') (hd : ∀ k, S k → ¬ T k) : BufAt S w' B l up := by
  obtain ⟨v, M, c, g, h⟩ := h
  exact ⟨v, M, c, g, h.keep (fun k hk => hb.block k (h.lt k hk) (hd k hk)) hb.size⟩
theorem BufAt.lt (h : BufAt S w B l up) : ∀ k, S k → k < w.heap.size := by obtain ⟨v, M, c, g, h⟩ := h; exact h.lt
theorem BufAt.good (h : BufAt S w B l up) : GoodE l := by obtain ⟨v, M, c, g, h⟩ := h; exact h.good
theorem BufAt.up1 (h : BufAt S w B l up) : -1 ≤ up := by obtain ⟨v, M, c, g, h⟩ := h; exact h.up1
theorem BufAt.last (h : BufAt S w B l up) : l ≠ [] → up = lastE l := by obtain ⟨v, M, c, g, h⟩ := h; exact h.last
end
/-- The number that a walk calls the last one. -/
def lastB (l : List En) (up : Int) : Int := if l.length = 0 then -1 else up
theorem lastB_lastE {l : List En} {up : Int} (h : l ≠ [] → up = lastE l) : lastB l up = lastE l := by
  unfold lastB
  split
  · rename_i h0
    rw [List.eq_nil_of_length_eq_zero h0]
    rfl
  · rename_i h0
    exact h fun e => h0 (by rw [e]; rfl)
end Go.Proofs.YtgcdekaceimdnaaGreat

/- A range over a function whose body always goes on, where what tells may turn memory of its own between two rounds (a map that is gone through). -/
set_option linter.unusedVariables false
namespace Go.Proofs.YtgcdekaceimdnaaGreat
open Go Go.RowKit

/-- A thing that stays while a block that is no cells, from B on, is turned. -/
def FirmM (B : Nat) (p : World → Prop) : Prop := ∀ W l (o o' : Obj), B ≤ l → W.heap[l]? = some o → o.isCells = false → p W → p (W.putObj l o')
/-- What is called g hands things on, each with Ok, and in the end S holds of all; what it turns itself is Mv; rounds keep Kp. -/
def Moved {α : Type} (n : Nat) (P : Program) (g : Nat) (lb : Array Value) (encs : α → Array Value) (Mv Kp : World → World → Prop) (Ok : List α → α → World → Prop) (S : List α → Prop) (w : World) : Prop :=
  ∀ (l : Nat) (J : List α → World → Prop) (W : World), Below w.heap.size w W → (∀ s A B, J s A → Mv A B → J s B) →
    (∀ pre x W1, J pre W1 → Ok pre x W1 → YieldAt Fence.wide (n - 1) P l (encs x) W1 fun e W' => e = .returned (.bool true) ∧ J (pre ++ [x]) W' ∧ Kp W1 W') →
    J [] W → CallsIn Fence.wide n P g (#[.func (.yield l) #[] #[]] ++ lb) W fun e W' => (∃ v, e = .returned v) ∧ ∃ xs, S xs ∧ J xs W'

variable {n : Nat} {P : Program}
theorem wpIn_range_moved {α : Type} {g : Operand} {ps : Array Tmp} {assign body : Code} {Q : Exit → Act → World → Prop} {a : Act} {w : World} (h1 : 1 ≤ n) {gf : Nat} {lb : Array Value} (hg : a.eval g = .func (.func gf) #[] lb)
    (eg : ∀ args w, (callFunc gf args).run P w = .ok (.enter gf args) w) {encs : α → Array Value} {Mv Kp : World → World → Prop} {Ok : List α → α → World → Prop} {S : List α → Prop} (hseq : Moved (n - 1) P gf lb encs Mv Kp Ok S w)
    (hMb : ∀ {B : World}, Below w.heap.size w B → Mv w B) (hMk : ∀ {A B : World} {k : Nat} {o : Obj}, w.heap.size ≤ k → Mv A B → A.heap[k]? = some o → (∃ x, o = .loop x) ∨ (∃ x, o = .deferred x) → B.heap[k]? = some o)
    (hKt : ∀ {A B C : World}, Kp A B → Kp B C → Kp A C) (hKp : ∀ (W : World) (l : Nat) (x : Loop) (o' : Obj), w.heap.size ≤ l → W.heap[l]? = some (.loop x) → Kp W (W.putObj l o')) (hps : ∀ x, (encs x).size = ps.size)
    (I : List α → World → Prop) (hIb : ∀ s A B, I s A → Mv A B → I s B) (hIp : ∀ s, FirmM w.heap.size (I s)) (hOk : ∀ s x, FirmM w.heap.size (Ok s x)) (h0 : I [] w) (Ax : α → Act → World → Prop) (hAx : ∀ x a', FirmM w.heap.size (Ax x a'))
    (hassign : ∀ (l : Nat) (pre : List α) (x : α) (W : World) (K : Act → World → Prop), I pre W → Ok pre x W → (∀ a' W', Ax x a' W' → I pre W' → Ok pre x W' → Below W.heap.size W W' → Kp W W' → K a' W') → assign.wpIn (Fence.wide.inRound l) (n - 1 - 1) P (Exit.then K (fun _ _ _ => False)) { tmps := (ps.zip (encs x)).foldl (fun t (p, v) => t.setIfInBounds p v) a.tmps, defers := [] } W)
    (hbody : ∀ (l : Nat) (pre : List α) (x : α) (a' : Act) (W : World), Ax x a' W → I pre W → Ok pre x W → body.wpIn (Fence.wide.inRound l) (n - 1 - 1) P (ownPostK Kp I (fun _ _ _ => False) (pre ++ [x]) W) a' W)
    (hdone : ∀ (D : Nat) (xs : List α) (W : World), w.heap.size ≤ D → S xs → I xs W → W.heap[D]? = some (.deferred (some [])) → Q .normal { a with defers := { target := .collected D, args := #[] } :: a.defers } W) :
    (Code.rangeFunc g ps assign body).wpIn Fence.wide n P Q a w := by
  refine wpIn_rangeFunc fun fn hfn => ?_
  have enter := run_enterLoop_outer (P := P) (w := w) fn a.tmps ps assign body
  obtain ⟨D, hD⟩ : ∃ D, D = w.heap.size := ⟨_, rfl⟩
  obtain ⟨st, hst⟩ : ∃ st : LoopState → Loop, st = fun s => { state := s, pending := none, fn := fn, tmps := a.tmps, params := ps, assign := assign, body := body, defers := w.heap.size } := ⟨_, rfl⟩
  obtain ⟨V, hV⟩ : ∃ V, V = (w.alloc (.deferred (some []))).alloc (.loop (st .ready)) := ⟨_, rfl⟩
  have enter' : (Instr.enterLoop fn a.tmps ps assign body Fence.wide.round).run P w = .ok (D + 1, [{ target := .collected D, args := #[] }]) V := by rw [hV, hst, hD]; exact enter
  have bel : Below w.heap.size w V := by rw [hV]; exact ((Below.refl _ w).alloc (Nat.le_refl _) _).alloc (by simp) _
  have hdV : V.heap[D]? = some (.deferred (some [])) := by rw [hV, hD]; exact (Below.heap_alloc _ _ _ (by simp)).trans (World.alloc_heap_new w _)
  have hlV : V.heap[D + 1]? = some (.loop (st .ready)) := by
    have := World.alloc_heap_new (w.alloc (.deferred (some []))) (.loop (st .ready))
    rwa [World.size_alloc, ← hV, ← hD] at this
  -- what a round meets: the caller's own invariant, the record ready, the block of deferred calls
  have stay : ∀ (s : List α) (A B : World), (I s A ∧ A.heap[D + 1]? = some (.loop (st .ready)) ∧ A.heap[D]? = some (.deferred (some []))) → Mv A B → (I s B ∧ B.heap[D + 1]? = some (.loop (st .ready)) ∧ B.heap[D]? = some (.deferred (some []))) := by
    rintro s A B ⟨i1, i2, i3⟩ hb
    exact ⟨hIb s A B i1 hb, hMk (by omega) hb i2 (.inl ⟨_, rfl⟩), hMk (by omega) hb i3 (.inr ⟨_, rfl⟩)⟩
  have round : ∀ (pre : List α) (x : α) (A : World), (I pre A ∧ A.heap[D + 1]? = some (.loop (st .ready)) ∧ A.heap[D]? = some (.deferred (some []))) → Ok pre x A →
      YieldAt Fence.wide (n - 1 - 1) P (D + 1) (encs x) A fun e B => e = .returned (.bool true) ∧ (I (pre ++ [x]) B ∧ B.heap[D + 1]? = some (.loop (st .ready)) ∧ B.heap[D]? = some (.deferred (some []))) ∧ Kp A B := by
    rintro pre x A ⟨i1, i2, i3⟩ hx
    have hl : D + 1 < A.heap.size := (Array.getElem?_eq_some_iff.1 i2).1
    have y := run_yield (P := P) (args := encs x) i2 (by rw [hst]; exact hps x)
    rw [hst] at y
    refine ⟨fn, _, assign, body, y, roundIn_of_wpIn hfn (hassign _ pre x A _ i1 hx fun a' A0 hax j1 jx hbl hk0 => ?_)⟩
    have hl0 : D + 1 < A0.heap.size := Nat.lt_of_lt_of_le hl hbl.size
    have i2' : A0.heap[D + 1]? = some (.loop (st .ready)) := (hbl.block _ hl).trans i2
    have i3' : A0.heap[D]? = some (.deferred (some [])) := (hbl.block _ (by omega)).trans i3
    have beg := run_beginRound (P := P) i2' (by rw [hst])
    refine ⟨_, beg, ?_⟩
    obtain ⟨A1, hA1⟩ : ∃ A1, A1 = A0.putObj (D + 1) (.loop { st .ready with state := .busy }) := ⟨_, rfl⟩
    rw [← hA1]
    have l1 : A1.heap[D + 1]? = some (.loop { st .ready with state := .busy }) := by rw [hA1]; exact World.putObj_heap_same hl0
    have d1 : A1.heap[D]? = some (.deferred (some [])) := by rw [hA1]; exact (World.putObj_heap_other (by omega)).trans i3'
    have k1 : Kp A A1 := hKt hk0 (by rw [hA1]; exact hKp A0 _ _ _ (by omega) i2')
    have b1 := hbody (D + 1) pre x a' A1 (by rw [hA1]; exact hAx x a' A0 _ _ _ (by omega) i2' rfl hax) (by rw [hA1]; exact hIp pre A0 _ _ _ (by omega) i2' rfl j1) (by rw [hA1]; exact hOk pre x A0 _ _ _ (by omega) i2' rfl jx)
    refine wpIn_mono b1 ?_
    rintro ex a2 A2 hp
    cases ex with
    | normal =>
      obtain ⟨ko, k2, i4⟩ := hp
      have l2 := ko.same _ _ l1 rfl
      have d2 := ko.same _ _ d1 rfl
      have fin := run_endRound (P := P) none l2
      have hl2 : D + 1 < A2.heap.size := (Array.getElem?_eq_some_iff.1 l2).1
      refine ⟨_, _, fin, rfl, ⟨hIp _ A2 _ _ _ (by omega) l2 rfl i4, ?_, (World.putObj_heap_other (by omega)).trans d2⟩, hKt (hKt k1 k2) (hKp A2 _ _ _ (by omega) l2)⟩
      rw [World.putObj_heap_same hl2, hst]
      rfl
    | ret => exact hp.2.elim
    | exit id => exact hp.2.elim
    | goto t => exact hp.2.elim
    | panic c => exact hp.elim
    | outgrown => exact hp.elim
  refine ⟨D + 1, _, V, { target := .fn (.func gf) lb, args := #[.func (.yield (D + 1)) #[] #[]] }, V, gf, #[.func (.yield (D + 1)) #[] #[]] ++ lb, V, enter', ?_, ?_, ?_, fun _ => h1, ?_⟩
  · simp only [resolve, hg]
    simp [go_sem]
  · intro f' _
    trivial
  · simp [invoke, go_sem, eg]
  · refine (hseq (D + 1) _ V bel stay round ⟨hIb [] w V h0 (hMb bel), hlV, hdV⟩).mono ?_
    rintro e A ⟨⟨v, rfl⟩, xs, hS, i1, i2, i3⟩
    have fin := run_endLoop (P := P) i2 (by rw [hst]; simp)
    rw [hst] at fin
    refine ⟨none, _, fin, hdone D xs _ (by omega) hS (hIp xs A _ _ _ (by omega) i2 rfl i1) ((World.putObj_heap_other (by omega)).trans i3)⟩
end Go.Proofs.YtgcdekaceimdnaaGreat
