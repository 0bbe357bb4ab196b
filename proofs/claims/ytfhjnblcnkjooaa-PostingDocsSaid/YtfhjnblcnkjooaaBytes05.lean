/- What the document's own Bytes of layer 5 answers: the bytes of postings that may be. -/
import Derived.Test.YtfhjnblcnkjooaaPost05
import Derived.Test.YtfhjnblcnkjooaaRefPutR04
namespace Go.Proofs.Ytfhjnblcnkjooaa
open Go Go.RowKit
set_option linter.unusedVariables false

/-- Bytes behind bytes of the call's own. -/
theorem own_more {base : Nat} {w' : World} {v' : Value} {a b : List UInt8} {m : Nat} (hm : b.length = m) (hown : w'.ownsRow base 5 1 v' (a.length + m) (Lib.byteCells a ++ Lib.byteCells b)) : Own base w' v' (a ++ b) := by
  unfold Own
  rw [Lib.byteCells_append, List.length_append, hm]
  exact hown

/-- The document ahead of place k: -1 ahead of the first. -/
def docAt (l : List Po) (k : Nat) : Int := if k = 0 then -1 else (l.getD (k - 1) (0, [])).1
theorem docAt_succ {l : List Po} {k : Nat} : docAt l (k + 1) = (l.getD k (0, [])).1 := by simp [docAt]
theorem drop_po {l : List Po} {k : Nat} (hk : k < l.length) : l.drop k = l.getD k (0, []) :: l.drop (k + 1) := by
  rw [List.drop_eq_getElem_cons hk, List.getD_eq_getElem?_getD, List.getElem?_eq_getElem hk]
  rfl

def BytesRel (all : List UInt8) (l : List Po) (w : World) (v i : Value) (wr : World) : Prop :=
  ∃ (cur : List UInt8) (k : Nat), k ≤ l.length ∧ i = .int .i64 (k : Int) ∧ -1 ≤ docAt l k ∧ mayB' (docAt l k) (l.drop k) = true ∧ cur.length ≤ all.length ∧ cur ++ bytesP (docAt l k) (l.drop k) = all ∧ Own w.heap.size wr v cur ∧ Below w.heap.size w wr

set_option maxHeartbeats 2000000 in
set_option maxRecDepth 100000 in
theorem ref05_Bytes (A : Option Addr) (n d : Nat) (l : List Po) (w : World) (hn : l.length = n) (hn60 : n ≤ 100) (hpo : Posts w w.heap.size A l) (hmay : mayB' (-1) l = true) (hpl : ∀ p ∈ l, p.2.length ≤ 1000) (hal0 : (bytesP (-1) l).length ≤ 1000000) :
    Calls Try.prog 17 #[.slice A n d] w (GaveOwn w.heap.size (bytesP (-1) l) w) := by
  obtain ⟨i0, hi0, hz0, hz1, hz2⟩ := info_parts info_byte
  subst hn
  obtain ⟨all, hall⟩ : ∃ all, all = bytesP (-1) l := ⟨_, rfl⟩
  rw [← hall] at hal0
  rw [← hall]
  have HALL := Lib.hid hall
  have HPO := Lib.hid hpo
  have HMAY := Lib.hid hmay
  have HPL := Lib.hid hpl
  clear hall hpo hmay hpl
  go_enter Try.func17, Try.ntmps17
  go_wp2
  go_loopw [3, 4] (fun v i wr => BytesRel all l w v i wr) (fun _ i _ => l.length - (intOf i).toNat)
  case atStart => exact ⟨[], 0, by omega, rfl, by simp [docAt], HMAY.out, by simp, HALL.out.symm, World.ownsRow_nil _ _ _ _, Below.refl _ _⟩
  case round =>
    obtain ⟨cur, k, hk, rfl, hx1, hris, hcl, hcat, hown, hbw⟩ := hrel
    have hsz := hbw.size
    by_cases hlt : k < l.length
    · obtain ⟨b1, o1, e1, hb1, hc1, A2, c2, hc2, hlc, hcx, hr2⟩ := (HPO.out.below hbw).at_ hlt
      subst e1
      have hc0 : 0 < k → ∀ j, j = k - 1 → wr.cell? ⟨b1, o1 + j * 2, none⟩ = some (.int .i64 (docAt l k)) := fun h j hj => by
        obtain ⟨b2, o2, e2, _, hc3, _⟩ := (HPO.out.below hbw).at_ (k := j) (by omega)
        injection e2 with e2
        injection e2 with e3 e4
        subst e3 e4
        rw [hc3]
        have hk0 : k ≠ 0 := by omega
        simp only [docAt, if_neg hk0, hj]
      have ha0 : k = 0 → docAt l k = -1 := fun h => by simp [docAt, h]
      have hs := docAt_succ (l := l) (k := k)
      have hlp := HPL.out (l.getD k (0, [])) (by rw [List.getD_eq_getElem?_getD, List.getElem?_eq_getElem hlt]; simp)
      rw [drop_po hlt] at hris hcat
      obtain ⟨q, hq⟩ : ∃ q, q = l.getD k (0, []) := ⟨_, rfl⟩
      rw [← hq] at hc1 hc2 hlc hr2 hris hcat hs hlp
      obtain ⟨y, ps⟩ := q
      obtain ⟨x, hxx⟩ : ∃ x, x = docAt l k := ⟨_, rfl⟩
      rw [← hxx] at hris hcat hx1 hc0 ha0
      simp only at hc1 hc2 hlc hr2 hs hlp
      obtain ⟨hxy, hyb, hps, hris⟩ := mayB'_cons.1 hris
      simp only at hxy hyb hps hris
      simp only [bytesP] at hcat
      obtain ⟨g, hg⟩ : ∃ g : Nat, y - (x + 1) = (g : Int) := ⟨(y - (x + 1)).toNat, by omega⟩
      rw [hg, Int.toNat_natCast, ← List.append_assoc, ← List.append_assoc] at hcat
      have hcl2 : ((cur ++ putB g) ++ putR ps).length ≤ all.length := by rw [← hcat, List.length_append (bs := bytesP y _)]; omega
      have hpb := places_bd hps
      have hg0 : g < 9223372036854775808 := by omega
      have HCAT := Lib.hid hcat
      have HRIS := Lib.hid hris
      have HCL := Lib.hid hcl2
      have HS := Lib.hid hs
      have HOW := Lib.hid hown
      have HG := Lib.hid hg
      have HC0 := Lib.hid hc0
      have HA0 := Lib.hid ha0
      have HPS := Lib.hid hps
      have HPB := Lib.hid hpb
      have HR2 := Lib.hid hr2
      clear hcat hris hcl2 hs hxx hown hg hc0 ha0 hq hps hpb hr2
      go_upto_if 18 with fail
      go_cut [5] from 17 to 27 (fun s wx => s = .int .i64 (g : Int) ∧ wr = wx)
      case first =>
        rcases Nat.eq_zero_or_pos k with hk0 | hk0
        · have hd : decide (0 < k) = false := decide_eq_false (by omega)
          have hx := HA0.out hk0
          have hyg : y = (g : Int) := by have := HG.out; omega
          have HYG := Lib.hid hyg
          clear hk0 hx hyg
          rw [hd]
          go_wp2_with fail
          go_meet
          exact ⟨congrArg (Value.int .i64) HYG.out, rfl⟩
        · obtain ⟨j, hj⟩ : ∃ j, j = k - 1 := ⟨_, rfl⟩
          have hcp := HC0.out hk0 j hj
          have hkj : (k : Int) - 1 = (j : Int) := by omega
          have hjl : j < l.length := by omega
          have hd : decide (0 < k) = true := decide_eq_true hk0
          have hyx : y - x - 1 = (g : Int) := by have := HG.out; omega
          have HYX := Lib.hid hyx
          clear hj hk0 hyx
          rw [hd]
          go_wp2_with fail
          go_meet
          exact ⟨congrArg (Value.int .i64) HYX.out, rfl⟩
      case rest =>
        obtain ⟨rfl, rfl⟩ := hcut
        go_wp2_with (go_at_call 40; refine (ref_Put g _ hg0).mono ?_)
        rintro e w4 ⟨v4, rfl, hown4, hb4⟩
        obtain ⟨A4, c4, rfl, _, hr4⟩ := hown4.row
        have h9g := putB_nine hg0
        have HR4 := Lib.hid hr4
        have HB4 := Lib.hid (hbw.trans (hb4.mono hsz))
        have HBR4 := Lib.hid (hb4.mono hsz)
        have hs4 := HB4.out.size
        have HOW4 := Lib.hid (HOW.out.below hb4)
        obtain ⟨G, hG⟩ : ∃ G, G = (putB g).length := ⟨_, rfl⟩
        rw [← hG]
        have hG9 : G ≤ 9 := by omega
        have HGL := Lib.hid hG
        have hk2 := (hb4.cell (p := ⟨b1, o1 + k * 2 + 1, none⟩) (by show b1 < _; omega)).trans hc2
        clear hown4 hr4 hb4 hG h9g hc1 hc2 HC0 HA0 HG
        go_wp2_with (at_builtin; refine wpList_append_row _ rfl (.tmp 28) (.tmp 30) 32 rfl w.heap.size 5 i0 _ 1 1 Try.underlying32 hi0 hz0 hz1 hz2 rfl (by omega) _ cur.length (Lib.byteCells cur) rfl HOW4.out _ A4 G c4 (Lib.byteCells (putB g)) rfl (by rw [Lib.byteCells_length, HGL.out]; omega) HR4.out (byteCells_oneCell _) (by unfold maxLen; omega) (by omega) hs4 ?_)
        intro v5 w5 hown5 hg5
        have hb5 : Below w.heap.size w4 w5 := (Below.refl _ w4).grown hg5 hs4 fun k hk => (HOW4.out.lt k hk).1
        have HB5 := Lib.hid (HB4.out.trans hb5)
        have HROW5 := Lib.hid ((HR2.out.below (HBR4.out.trans hb5)).more HB5.out.size)
        have hs5 := HB5.out.size
        have HOW5 := Lib.hid (own_more HGL.out.symm hown5)
        have hk3 := (hb5.cell (p := ⟨b1, o1 + k * 2 + 1, none⟩) hb1).trans hk2
        have hcur : (cur ++ putB g).length ≤ all.length := by have := HCL.out; rw [List.length_append (bs := putR ps)] at this; omega
        clear hown5 hg5 hb5 hk2 HB4 HOW4 HR4
        obtain ⟨P, hP⟩ : ∃ P, P = ps.length := ⟨_, rfl⟩
        rw [← hP] at hk3 hlc hlp
        have rp := ref_PutRising A2 P c2 ps w5 hP.symm hlp HROW5.out (fun x hx => by have := HPB.out x hx; omega) (placesB_iff.1 HPS.out).1
        have hpl9 := putR_length HPS.out (by omega)
        rw [← hP] at hpl9
        have RP := Lib.hid rp
        clear rp hP
        go_wp2_with (go_at_call 41; refine RP.out.mono ?_)
        rintro e w6 ⟨v6, rfl, hown6, hb6⟩
        obtain ⟨A6, c6, rfl, _, hr6⟩ := hown6.row
        have HR6 := Lib.hid hr6
        have HB6 := Lib.hid (HB5.out.trans (hb6.mono hs5))
        have hs6 := HB6.out.size
        have HOW6 := Lib.hid (HOW5.out.below hb6)
        obtain ⟨Q, hQ⟩ : ∃ Q, Q = (putR ps).length := ⟨_, rfl⟩
        rw [← hQ] at hpl9
        rw [← hQ]
        have HQL := Lib.hid hQ
        obtain ⟨cur2, hc2⟩ : ∃ cur2, cur2 = cur ++ putB g := ⟨_, rfl⟩
        have HOW6' : Hid (Own w.heap.size w6 v5 cur2) := by rw [hc2]; exact HOW6
        have HCL2 : Hid ((cur2 ++ putR ps).length ≤ all.length) := by rw [hc2]; exact HCL
        have HCAT2 : Hid ((cur2 ++ putR ps) ++ bytesP y (l.drop (k + 1)) = all) := by rw [hc2]; exact HCAT
        rw [← hc2] at hcur
        clear hown6 hr6 hb6 hQ hk3 HROW5 HOW5 HOW6 HCL HCAT hc2
        go_wp2_with (at_builtin; refine wpList_append_row _ rfl (.tmp 32) (.tmp 38) 32 rfl w.heap.size 5 i0 _ 1 1 Try.underlying32 hi0 hz0 hz1 hz2 rfl (by omega) _ cur2.length (Lib.byteCells cur2) rfl HOW6'.out _ A6 Q c6 (Lib.byteCells (putR ps)) rfl (by rw [Lib.byteCells_length, HQL.out]; omega) HR6.out (byteCells_oneCell _) (by unfold maxLen; omega) (by omega) hs6 ?_)
        intro v7 w7 hown7 hg7
        have hb7 : Below w.heap.size w6 w7 := (Below.refl _ w6).grown hg7 hs6 fun k hk => (HOW6'.out.lt k hk).1
        have hfin : BytesRel all l w v7 (.int .i64 ((k : Int) + 1)) w7 := ⟨cur2 ++ putR ps, k + 1, by omega, by simp, by rw [HS.out]; omega, by rw [HS.out]; exact HRIS.out, HCL2.out, by rw [HS.out]; exact HCAT2.out, own_more HQL.out.symm hown7, HB6.out.trans hb7⟩
        have HF := Lib.hid hfin
        clear hfin hb7 hg7 hown7
        go_wp2
        go_roundw
        case rel => exact HF.out
        case measure => simp [intOf]; omega
    · rw [List.drop_eq_nil_of_le (by omega)] at hcat
      simp only [bytesP, List.append_nil] at hcat
      subst hcat
      go_wp2
      go_ret
      exact ⟨_, rfl, hown, hbw⟩
end Go.Proofs.Ytfhjnblcnkjooaa
