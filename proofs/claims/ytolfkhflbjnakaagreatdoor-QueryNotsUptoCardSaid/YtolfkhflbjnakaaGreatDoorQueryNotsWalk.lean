/- QueryNots' walk: Not, And and Or are as in logic. -/
import Derived.Test.YtolfkhflbjnakaaGreatDoorNAQ19
import Derived.Test.YtolfkhflbjnakaaGreatDoorNAQ16
import Derived.Test.YtolfkhflbjnakaaGreatDoorNAQ17
import Derived.Test.YtolfkhflbjnakaaGreatDoorNAQ07
import Derived.Deep.RegionHeld3
set_option linter.unusedVariables false
namespace Go.Proofs.YtolfkhflbjnakaaGreatDoor
open Go Go.RowKit

/-- The law's five variables that are read at its end. -/
structure NotsAt (w0 : World) (Ba Bn Bw Bo Bd g1 g3 g4 : Nat) (k : Int) (f x : ByteArray) (A : Option Addr) (n c : Nat) (K : Option Addr) (m d : Nat) (id : Int) (D : Option Addr) (dn dc : Nat) (a b : Qy) (l : List Fd) (wr : World) : Prop where
  bel : Below w0.heap.size w0 wr
  va : VQ wr Ba a k f x A n c K m d
  vn : VQ wr Bn (notQ a) 4 ⟨#[]⟩ ⟨#[]⟩ none 0 0 (some ⟨g1, 0, none⟩) 1 1
  vw : VQ wr Bw (andQ [a, b]) 2 ⟨#[]⟩ ⟨#[]⟩ none 0 0 (some ⟨g3, 0, none⟩) 2 2
  vo : VQ wr Bo (orQ [notQ a, notQ b]) 3 ⟨#[]⟩ ⟨#[]⟩ none 0 0 (some ⟨g4, 0, none⟩) 2 2
  dd : DocIn wr Bd id D dn dc l
theorem NotsAt.later {w0 : World} {Ba Bn Bw Bo Bd g1 g3 g4 : Nat} {k : Int} {f x : ByteArray} {A : Option Addr} {n c : Nat} {K : Option Addr} {m d : Nat} {id : Int} {D : Option Addr} {dn dc : Nat} {a b : Qy} {l : List Fd} {wr w' : World}
    (h : NotsAt w0 Ba Bn Bw Bo Bd g1 g3 g4 k f x A n c K m d id D dn dc a b l wr) (hb : Below wr.heap.size wr w') : NotsAt w0 Ba Bn Bw Bo Bd g1 g3 g4 k f x A n c K m d id D dn dc a b l w' :=
  ⟨h.bel.trans (hb.mono h.bel.size), h.va.later hb, h.vn.later hb, h.vw.later hb, h.vo.later hb, h.dd.later hb⟩
def box3q (w : World) (k : Int) (f x : ByteArray) (A : Option Addr) (n c : Nat) (K : Option Addr) (m d : Nat) (k2 : Int) (f2 x2 : ByteArray) (A2 : Option Addr) (n2 c2 : Nat) (K2 : Option Addr) (m2 d2 : Nat) (id : Int) (D : Option Addr) (dn dc : Nat) : World :=
  (boxQ (boxQ w k f x A n c K m d) k2 f2 x2 A2 n2 c2 K2 m2 d2).alloc (.cells #[.int .i64 id, .slice D dn dc] 46)
set_option maxHeartbeats 8000000 in
set_option maxRecDepth 100000 in
theorem walk_QueryNots (w : World) (hg : Glob w) (p : Qy) (u : Value) (hp : QIn w p u) (hrawp : RawQ 100000000 p) (q : Qy) (v : Value) (hq : QIn w q v) (hraw : RawQ 100000000 q) (id : Int) (D : Option Addr) (dn dc : Nat) (fs : List Fd) (hd : InFlds w D dn dc fs) :
    Calls Tryz.prog 8 #[u, v, docV id D dn dc] w fun e w' => e = .returned (.bool true) ∧ Below w.heap.size w w' := by
  obtain ⟨hnc, hcm, hln, hrow, hbd⟩ := hd
  have HGP : Hid (∀ w1, Below w.heap.size w w1 → Calls Tryz.prog 13 #[u, .int .i64 2] w1 (GaveQ (goodQ 2 p) w1)) := Lib.hid fun w1 hb => ref12_Good 2 p 2 u w1 (by omega) (by omega) hrawp (hp.later hb)
  have HGQ : Hid (∀ w1, Below w.heap.size w w1 → Calls Tryz.prog 13 #[v, .int .i64 2] w1 (GaveQ (goodQ 2 q) w1)) := Lib.hid fun w1 hb => ref12_Good 2 q 2 v w1 (by omega) (by omega) hraw (hq.later hb)
  have HGD : Hid (∀ w1, Below w.heap.size w w1 → Calls Tryz.prog 26 #[docV id D dn dc] w1 fun e w' => ∃ v, e = .returned (.agg #[.int .i64 id, v]) ∧ OwnFd w1.heap.size w' v (goodD fs) ∧ Below w1.heap.size w1 w') := Lib.hid fun w1 hb =>
    ref08_Good id D dn dc fs w1 hln (hrow.later hb) (by unfold maxLen at hcm; omega) (fun f hf => by have := hbd f hf; unfold maxLen at this; omega)
  have hmayp := good_may 2 (d := 2) (q := p) (by omega) (by omega)
  have hmay := good_may 2 (d := 2) (q := q) (by omega) (by omega)
  have hgood := goodD_good fs
  obtain ⟨a, ha⟩ : ∃ a, a = goodQ 2 p := ⟨_, rfl⟩
  obtain ⟨b, hb⟩ : ∃ b, b = goodQ 2 q := ⟨_, rfl⟩
  obtain ⟨l, hl⟩ : ∃ l, l = goodD fs := ⟨_, rfl⟩
  rw [← ha] at hmayp HGP
  rw [← hb] at hmay HGQ
  rw [← hl] at hgood HGD
  obtain ⟨ma, da⟩ := hmayp
  obtain ⟨mb, db⟩ := hmay
  have ma1 : mayQ 1 a = 0 := may_shift ma (by omega)
  have ma3 : mayQ 3 a = 0 := may_shift ma (by omega)
  have mb3 : mayQ 3 b = 0 := may_shift mb (by omega)
  have mna : mayQ 1 (notQ a) = 0 := not_may (by omega) ma
  have mand : mayQ 1 (andQ [a, b]) = 0 := and_may (by omega) (by simp) (by simp) fun y hy => by rcases List.mem_cons.1 hy with rfl | hy; exact ma; rw [List.mem_singleton.1 hy]; exact mb
  have mor : mayQ 1 (orQ [notQ a, notQ b]) = 0 := or_may (by omega) (by simp) (by simp) fun y hy => by
    rcases List.mem_cons.1 hy with rfl | hy
    · exact not_may (by omega) ma3
    · rw [List.mem_singleton.1 hy]; exact not_may (by omega) mb3
  obtain ⟨Fa, hFa⟩ : ∃ F, F = fitsQ l a := ⟨_, rfl⟩
  obtain ⟨Fo, hFo⟩ : ∃ F, F = fitsQ l (orQ [notQ a, notQ b]) := ⟨_, rfl⟩
  have HFa : Hid (∀ (v : Value) (id : Int) (D : Option Addr) (dn dc : Nat) (w2 : World), QIn w2 a v → l.length = dn → FRow w2 w2.heap.size D l → Calls Tryz.prog 27 #[v, docV id D dn dc] w2 fun e w' => e = .returned (.bool Fa) ∧ Below w2.heap.size w2 w') := Lib.hid fun v id D dn dc w2 h1 h2 h3 => by
    rw [hFa]; exact query_Fits hgood a v id D dn dc w2 ma1 h1 h2 h3
  have HFn : Hid (∀ (v : Value) (id : Int) (D : Option Addr) (dn dc : Nat) (w2 : World), QIn w2 (notQ a) v → l.length = dn → FRow w2 w2.heap.size D l → Calls Tryz.prog 27 #[v, docV id D dn dc] w2 fun e w' => e = .returned (.bool (!Fa)) ∧ Below w2.heap.size w2 w') := Lib.hid fun v id D dn dc w2 h1 h2 h3 => by
    rw [hFa, ← not_fits]; exact query_Fits hgood _ v id D dn dc w2 mna h1 h2 h3
  have HFo : Hid (∀ (v : Value) (id : Int) (D : Option Addr) (dn dc : Nat) (w2 : World), QIn w2 (orQ [notQ a, notQ b]) v → l.length = dn → FRow w2 w2.heap.size D l → Calls Tryz.prog 27 #[v, docV id D dn dc] w2 fun e w' => e = .returned (.bool Fo) ∧ Below w2.heap.size w2 w') := Lib.hid fun v id D dn dc w2 h1 h2 h3 => by
    rw [hFo]; exact query_Fits hgood _ v id D dn dc w2 mor h1 h2 h3
  have HFw : Hid (∀ (v : Value) (id : Int) (D : Option Addr) (dn dc : Nat) (w2 : World), QIn w2 (andQ [a, b]) v → l.length = dn → FRow w2 w2.heap.size D l → Calls Tryz.prog 27 #[v, docV id D dn dc] w2 fun e w' => e = .returned (.bool (!Fo)) ∧ Below w2.heap.size w2 w') := Lib.hid fun v id D dn dc w2 h1 h2 h3 => by
    rw [hFo, ← morgan]; exact query_Fits hgood _ v id D dn dc w2 mand h1 h2 h3
  have HS : Hid (∀ (v : Value) (id : Int) (D : Option Addr) (dn dc : Nat) (w2 : World), QIn w2 (notQ a) v → l.length = dn → FRow w2 w2.heap.size D l → Calls Tryz.prog 29 #[v, docV id D dn dc] w2 fun e w' => e = .returned (.int .i64 0) ∧ Below w2.heap.size w2 w') := Lib.hid fun v id D dn dc w2 h1 h2 h3 => by
    have := query_Score hgood _ v id D dn dc w2 mna h1 h2 h3
    rwa [not_score] at this
  have HL : Hid (∀ w2, Below w.heap.size w w2 → Calls Tryz.prog 18 #[] w2 fun e w' => e = .returned (.bool true) ∧ Below w2.heap.size w2 w') := Lib.hid fun w2 hb => law12_lives w2 (hg.below hb hg.size)
  obtain ⟨k1, t1, ws1, ks1, f1, x1, A1, c1, K1, m1, ds1, he1, rfl, -⟩ := hp.open_
  obtain ⟨k2, t2, ws2, ks2, f2, x2, A2, c2, K2, m2, ds2, he2, rfl, -⟩ := hq.open_
  obtain ⟨wa, hwa⟩ : ∃ wa, wa = boxQ w k1 f1 x1 A1 ws1.length c1 K1 ks1.length m1 := ⟨_, rfl⟩
  obtain ⟨wb, hwb⟩ : ∃ wb, wb = boxQ wa k2 f2 x2 A2 ws2.length c2 K2 ks2.length m2 := ⟨_, rfl⟩
  obtain ⟨w1, hw1⟩ : ∃ w1, w1 = wb.alloc (.cells #[.int .i64 id, .slice D dn dc] 46) := ⟨_, rfl⟩
  have hba : Below w.heap.size w wa := by rw [hwa]; exact boxQ_below
  have hsa : wa.heap.size = w.heap.size + 1 := by rw [hwa]; exact boxQ_size
  have hbb : Below wa.heap.size wa wb := by rw [hwb]; exact boxQ_below
  have hsb : wb.heap.size = w.heap.size + 2 := by rw [hwb, boxQ_size, hsa]
  have hb1 : Below wb.heap.size wb w1 := by rw [hw1]; exact (Below.refl _ _).alloc (Nat.le_refl _) _
  have HB0 : Hid (Below w.heap.size w w1) := Lib.hid (hba.trans ((hbb.trans (hb1.mono hbb.size)).mono hba.size))
  have VP : Hid (VQ w1 w.heap.size p k1 f1 x1 A1 ws1.length c1 K1 ks1.length m1) := Lib.hid (by
    have := VQ.made hp
    rw [← hwa] at this
    exact (this.later hbb).later hb1)
  have VQQ : Hid (VQ w1 (w.heap.size + 1) q k2 f2 x2 A2 ws2.length c2 K2 ks2.length m2) := Lib.hid (by
    have := VQ.made (hq.later hba)
    rw [← hwb, hsa] at this
    exact this.later hb1)
  have DD : Hid (DocIn w1 (w.heap.size + 2) id D dn dc fs) := Lib.hid (by
    have := DocIn.made (id := id) (c := dc) hln (hrow.later (hba.trans (hbb.mono hba.size)))
    rw [← hw1, hsb] at this
    exact this)
  have HW1 : Hid (w1 = ((w.alloc (.cells #[.int .i64 k1, .string f1, .string x1, .slice A1 ws1.length c1, .slice K1 ks1.length m1] 27)).alloc (.cells #[.int .i64 k2, .string f2, .string x2, .slice A2 ws2.length c2, .slice K2 ks2.length m2] 27)).alloc (.cells #[.int .i64 id, .slice D dn dc] 46)) := Lib.hid (by rw [hw1, hwb, hwa]; rfl)
  obtain ⟨a0, a1, a2, a3, a4⟩ := VP.out.cells
  clear hwa hwb hw1 hba hsa hbb hsb hb1 hFa hFo ha hb hl hgood ma mb da db ma1 ma3 mb3 mna mand mor he1 he2 hp hq hraw hrawp hrow hbd hg hnc hcm hln
  go_enter Tryz.func8, Tryz.ntmps8
  go_upto_region 1 with fail
  rw [show ((w.alloc _).alloc _).alloc _ = w1 from HW1.out.symm]
  go_upto_region 2 with (go_at_call 13; (with_reducible refine (HGP.out _ HB0.out).mono ?_); rintro e w3 ⟨v3, rfl, hq3, hb3⟩; obtain ⟨k3, f3, x3, A3, n3, c3, K3, m3, d3, e3, hq4⟩ := hq3; subst e3; have HQ3 : Hid (QIn w3 a (qV k3 f3 x3 A3 n3 c3 K3 m3 d3)) := Lib.hid ⟨_, _, _, _, _, _, _, _, _, rfl, hq4.imp fun b hb => hb.2⟩; have HB3 := Lib.hid hb3; clear hq4 hb3 a0 a1 a2 a3 a4)
  obtain ⟨w4, hw4⟩ : ∃ w4, w4 = boxQ w3 k3 f3 x3 A3 n3 c3 K3 m3 d3 := ⟨_, rfl⟩
  rw [show w3.alloc _ = w4 from hw4.symm]
  have hb4 : Below w3.heap.size w3 w4 := by rw [hw4]; exact boxQ_below
  have HB4 : Hid (Below w1.heap.size w1 w4) := Lib.hid (HB3.out.trans (hb4.mono HB3.out.size))
  have VA : Hid (VQ w4 w3.heap.size a k3 f3 x3 A3 n3 c3 K3 m3 d3) := Lib.hid (by rw [hw4]; exact VQ.made HQ3.out)
  obtain ⟨a0, a1, a2, a3, a4⟩ := (VQQ.out.later HB4.out).cells
  obtain ⟨Ba, hBa⟩ : ∃ Ba, Ba = w3.heap.size := ⟨_, rfl⟩
  rw [← hBa] at VA ⊢
  clear hw4 hb4 hBa
  go_upto_region 3 with (go_at_call 13; (with_reducible refine (HGQ.out _ (HB0.out.trans (HB4.out.mono HB0.out.size))).mono ?_); rintro e w5 ⟨v5, rfl, hq5, hb5⟩; obtain ⟨k5, f5, x5, A5, n5, c5, K5, m5, d5, e5, hq6⟩ := hq5; subst e5; have HQ5 : Hid (QIn w5 b (qV k5 f5 x5 A5 n5 c5 K5 m5 d5)) := Lib.hid ⟨_, _, _, _, _, _, _, _, _, rfl, hq6.imp fun b hb => hb.2⟩; have HB5 := Lib.hid hb5; clear hq6 hb5 a0 a1 a2 a3 a4)
  obtain ⟨w6, hw6⟩ : ∃ w6, w6 = boxQ w5 k5 f5 x5 A5 n5 c5 K5 m5 d5 := ⟨_, rfl⟩
  rw [show w5.alloc _ = w6 from hw6.symm]
  have hb6 : Below w5.heap.size w5 w6 := by rw [hw6]; exact boxQ_below
  have HB6 : Hid (Below w1.heap.size w1 w6) := Lib.hid (HB4.out.trans ((HB5.out.trans (hb6.mono HB5.out.size)).mono HB4.out.size))
  have VB : Hid (VQ w6 w5.heap.size b k5 f5 x5 A5 n5 c5 K5 m5 d5) := Lib.hid (by rw [hw6]; exact VQ.made HQ5.out)
  have VA2 := Lib.hid (VA.out.later (HB5.out.trans (hb6.mono HB5.out.size)))
  obtain ⟨Bb, hBb⟩ : ∃ Bb, Bb = w5.heap.size := ⟨_, rfl⟩
  rw [← hBb] at VB ⊢
  obtain ⟨b0, b1⟩ := (DD.out.later HB6.out).cells
  clear hw6 hb6 hBb
  go_upto_region 4 with (go_at_call 26; (with_reducible refine (HGD.out _ (HB0.out.trans (HB6.out.mono HB0.out.size))).mono ?_); rintro e w7 ⟨v7, rfl, ho7, hb7⟩; obtain ⟨A7, c7, rfl, hc7, hr7⟩ := ho7.row; have HR7 := Lib.hid hr7; have HB7 := Lib.hid hb7; clear ho7 hr7 hb7 b0 b1)
  obtain ⟨w8, hw8⟩ : ∃ w8, w8 = w7.alloc (.cells #[.int .i64 id, .slice A7 l.length c7] 46) := ⟨_, rfl⟩
  rw [show w7.alloc _ = w8 from hw8.symm]
  have hb8 : Below w7.heap.size w7 w8 := by rw [hw8]; exact (Below.refl _ _).alloc (Nat.le_refl _) _
  have hb68 : Below w6.heap.size w6 w8 := HB7.out.trans (hb8.mono HB7.out.size)
  have D8 : Hid (DocIn w8 w7.heap.size id A7 l.length c7 l) := Lib.hid (by rw [hw8]; exact DocIn.made rfl HR7.out)
  have VA3 := Lib.hid (VA2.out.later hb68)
  have VB3 := Lib.hid (VB.out.later hb68)
  have HB8 : Hid (Below w.heap.size w w8) := Lib.hid (HB0.out.trans ((HB6.out.trans (hb68.mono HB6.out.size)).mono HB0.out.size))
  obtain ⟨Bd, hBd⟩ : ∃ Bd, Bd = w7.heap.size := ⟨_, rfl⟩
  rw [← hBd] at D8 ⊢
  obtain ⟨dl, hdl⟩ : ∃ dl, dl = l.length := ⟨_, rfl⟩
  rw [← hdl] at D8 ⊢
  obtain ⟨a0, a1, a2, a3, a4⟩ := VA3.out.cells
  clear hw8 hb8 hb68 hBd hdl HR7 HQ3 HQ5 HB3 HB5 HB7 VA VA2 VB
  go_upto_region 5 with fail
  obtain ⟨hb9, vn9⟩ := VQ.not VA3.out.2
  obtain ⟨w9, hw9⟩ : ∃ w9, w9 = boxQ (boxQ w8 k3 f3 x3 A3 n3 c3 K3 m3 d3) 4 ⟨#[]⟩ ⟨#[]⟩ none 0 0 (some ⟨w8.heap.size, 0, none⟩) 1 1 := ⟨_, rfl⟩
  rw [← hw9] at hb9 vn9
  rw [show (w8.alloc _).alloc _ = w9 from hw9.symm]
  have VN9 := Lib.hid vn9
  have VA9 := Lib.hid (VA3.out.later hb9)
  have VB9 := Lib.hid (VB3.out.later hb9)
  have D9 := Lib.hid (D8.out.later hb9)
  have HB9 := Lib.hid (HB8.out.trans (hb9.mono HB8.out.size))
  clear hw9 hb9 vn9 a0 a1 a2 a3 a4
  obtain ⟨g8, hg8⟩ : ∃ g8, g8 = w8.heap.size := ⟨_, rfl⟩
  rw [← hg8] at VN9 ⊢
  clear hg8
  obtain ⟨a0, a1, a2, a3, a4⟩ := VB9.out.cells
  go_upto_region 6 with fail
  obtain ⟨hb10, vm10⟩ := VQ.not VB9.out.2
  obtain ⟨w10, hw10⟩ : ∃ w10, w10 = boxQ (boxQ w9 k5 f5 x5 A5 n5 c5 K5 m5 d5) 4 ⟨#[]⟩ ⟨#[]⟩ none 0 0 (some ⟨w9.heap.size, 0, none⟩) 1 1 := ⟨_, rfl⟩
  rw [← hw10] at hb10 vm10
  rw [show (w9.alloc _).alloc _ = w10 from hw10.symm]
  have VM10 := Lib.hid vm10
  have VN10 := Lib.hid (VN9.out.later hb10)
  have VA10 := Lib.hid (VA9.out.later hb10)
  have VB10 := Lib.hid (VB9.out.later hb10)
  have D10 := Lib.hid (D9.out.later hb10)
  have HB10 := Lib.hid (HB9.out.trans (hb10.mono HB9.out.size))
  clear hw10 hb10 vm10 a0 a1 a2 a3 a4
  obtain ⟨g9, hg9⟩ : ∃ g9, g9 = w9.heap.size := ⟨_, rfl⟩
  rw [← hg9] at VM10 ⊢
  clear hg9
  obtain ⟨a0, a1, a2, a3, a4⟩ := VA10.out.cells
  obtain ⟨b0, b1, b2, b3, b4⟩ := VB10.out.cells
  go_upto_region 7 with fail
  obtain ⟨hb11, vw11⟩ := VQ.two 2 VA10.out.2 VB10.out.2
  obtain ⟨w11, hw11⟩ : ∃ w11, w11 = boxQ (w10.alloc (two10 k3 f3 x3 A3 n3 c3 K3 m3 d3 k5 f5 x5 A5 n5 c5 K5 m5 d5)) 2 ⟨#[]⟩ ⟨#[]⟩ none 0 0 (some ⟨w10.heap.size, 0, none⟩) 2 2 := ⟨_, rfl⟩
  rw [← hw11] at hb11 vw11
  rw [show (w10.alloc _).alloc _ = w11 from hw11.symm]
  have VW11 := Lib.hid vw11
  have VM11 := Lib.hid (VM10.out.later hb11)
  have VN11 := Lib.hid (VN10.out.later hb11)
  have VA11 := Lib.hid (VA10.out.later hb11)
  have D11 := Lib.hid (D10.out.later hb11)
  have HB11 := Lib.hid (HB10.out.trans (hb11.mono HB10.out.size))
  clear hw11 hb11 vw11 a0 a1 a2 a3 a4 b0 b1 b2 b3 b4
  obtain ⟨g10, hg10⟩ : ∃ g10, g10 = w10.heap.size := ⟨_, rfl⟩
  rw [← hg10] at VW11 ⊢
  clear hg10
  obtain ⟨a0, a1, a2, a3, a4⟩ := VN11.out.cells
  obtain ⟨b0, b1, b2, b3, b4⟩ := VM11.out.cells
  go_upto_region 8 with fail
  obtain ⟨hb12, vo12⟩ := VQ.two 3 VN11.out.2 VM11.out.2
  obtain ⟨w12, hw12⟩ : ∃ w12, w12 = boxQ (w11.alloc (two10 4 ⟨#[]⟩ ⟨#[]⟩ none 0 0 (some ⟨g8, 0, none⟩) 1 1 4 ⟨#[]⟩ ⟨#[]⟩ none 0 0 (some ⟨g9, 0, none⟩) 1 1)) 3 ⟨#[]⟩ ⟨#[]⟩ none 0 0 (some ⟨w11.heap.size, 0, none⟩) 2 2 := ⟨_, rfl⟩
  rw [← hw12] at hb12 vo12
  rw [show (w11.alloc _).alloc _ = w12 from hw12.symm]
  obtain ⟨g11, hg11⟩ : ∃ g11, g11 = w11.heap.size := ⟨_, rfl⟩
  rw [← hg11] at vo12 ⊢
  have HZ : NotsAt w Ba (g8 + 1) (g10 + 1) (g11 + 1) Bd g8 g10 g11 k3 f3 x3 A3 n3 c3 K3 m3 d3 id A7 dl c7 a b l w12 := ⟨HB11.out.trans ((by rw [hg11]; exact hb12 : Below g11 w11 w12).mono (by rw [hg11]; exact HB11.out.size)), VA11.out.later (by rw [hg11] at *; exact hb12), VN11.out.later (by rw [hg11] at *; exact hb12), VW11.out.later (by rw [hg11] at *; exact hb12), vo12, D11.out.later (by rw [hg11] at *; exact hb12)⟩
  clear hw12 hb12 vo12 hg11 a0 a1 a2 a3 a4 b0 b1 b2 b3 b4
  have HX := Lib.hid (HZ.later (Below.refl _ w12).drew)
  clear HZ VW11 VM11 VN11 VA11 D11 HB11 VM10 VN10 VA10 VB10 D10 HB10 VN9 VA9 VB9 D9 HB9 VA3 VB3 D8 HB8 VP VQQ DD
  go_region_held3 (fun w' => (w'.cell? ⟨Ba, 0, none⟩ = some (.int .i64 k3) ∧ w'.cell? ⟨Ba, 1, none⟩ = some (.string f3) ∧ w'.cell? ⟨Ba, 2, none⟩ = some (.string x3) ∧ w'.cell? ⟨Ba, 3, none⟩ = some (.slice A3 n3 c3) ∧ w'.cell? ⟨Ba, 4, none⟩ = some (.slice K3 m3 d3)) ∧
      (w'.cell? ⟨g8 + 1, 0, none⟩ = some (.int .i64 4) ∧ w'.cell? ⟨g8 + 1, 1, none⟩ = some (.string ⟨#[]⟩) ∧ w'.cell? ⟨g8 + 1, 2, none⟩ = some (.string ⟨#[]⟩) ∧ w'.cell? ⟨g8 + 1, 3, none⟩ = some (.slice none 0 0) ∧ w'.cell? ⟨g8 + 1, 4, none⟩ = some (.slice (some ⟨g8, 0, none⟩) 1 1)) ∧
      (w'.cell? ⟨g10 + 1, 0, none⟩ = some (.int .i64 2) ∧ w'.cell? ⟨g10 + 1, 1, none⟩ = some (.string ⟨#[]⟩) ∧ w'.cell? ⟨g10 + 1, 2, none⟩ = some (.string ⟨#[]⟩) ∧ w'.cell? ⟨g10 + 1, 3, none⟩ = some (.slice none 0 0) ∧ w'.cell? ⟨g10 + 1, 4, none⟩ = some (.slice (some ⟨g10, 0, none⟩) 2 2)) ∧
      (w'.cell? ⟨g11 + 1, 0, none⟩ = some (.int .i64 3) ∧ w'.cell? ⟨g11 + 1, 1, none⟩ = some (.string ⟨#[]⟩) ∧ w'.cell? ⟨g11 + 1, 2, none⟩ = some (.string ⟨#[]⟩) ∧ w'.cell? ⟨g11 + 1, 3, none⟩ = some (.slice none 0 0) ∧ w'.cell? ⟨g11 + 1, 4, none⟩ = some (.slice (some ⟨g11, 0, none⟩) 2 2)) ∧
      w'.cell? ⟨Bd, 0, none⟩ = some (.int .i64 id) ∧ w'.cell? ⟨Bd, 1, none⟩ = some (.slice A7 dl c7))
    (exact ⟨HX.out.va.cells, HX.out.vn.cells, HX.out.vw.cells, HX.out.vo.cells, HX.out.dd.cells⟩)
    (first
      | (go_at_call 27; (with_reducible refine (HFn.out _ _ _ _ _ _ HX.out.vn.in_ HX.out.dd.len HX.out.dd.row).mono ?_); rintro e wn ⟨rfl, hbn⟩; have HX := Lib.hid (HX.out.later hbn); clear hbn)
      | (go_at_call 27; (with_reducible refine (HFa.out _ _ _ _ _ _ HX.out.va.in_ HX.out.dd.len HX.out.dd.row).mono ?_); rintro e wn ⟨rfl, hbn⟩; have HX := Lib.hid (HX.out.later hbn); clear hbn)
      | (go_at_call 27; (with_reducible refine (HFw.out _ _ _ _ _ _ HX.out.vw.in_ HX.out.dd.len HX.out.dd.row).mono ?_); rintro e wn ⟨rfl, hbn⟩; have HX := Lib.hid (HX.out.later hbn); clear hbn)
      | (go_at_call 27; (with_reducible refine (HFo.out _ _ _ _ _ _ HX.out.vo.in_ HX.out.dd.len HX.out.dd.row).mono ?_); rintro e wn ⟨rfl, hbn⟩; have HX := Lib.hid (HX.out.later hbn); clear hbn)
      | (go_at_call 29; (with_reducible refine (HS.out _ _ _ _ _ _ HX.out.vn.in_ HX.out.dd.len HX.out.dd.row).mono ?_); rintro e wn ⟨rfl, hbn⟩; have HX := Lib.hid (HX.out.later hbn); clear hbn)
      | (go_at_call 18; (with_reducible refine (HL.out _ HX.out.bel).mono ?_); rintro e wn ⟨rfl, hbn⟩; have HX := Lib.hid (HX.out.later hbn); clear hbn))
  all_goals
    go_wp2
    go_ret
    exact ⟨rfl, HX.out.bel⟩
end Go.Proofs.YtolfkhflbjnakaaGreatDoor
