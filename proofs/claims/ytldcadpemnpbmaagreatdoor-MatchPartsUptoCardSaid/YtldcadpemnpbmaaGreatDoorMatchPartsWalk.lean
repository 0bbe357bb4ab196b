import Derived.Test.YtldcadpemnpbmaaGreatDoorMPQ31
import Derived.Deep.RegionHeld3
set_option linter.unusedVariables false
namespace Go.Proofs.YtldcadpemnpbmaaGreatDoor
open Go Go.RowKit
structure PartQ (w0:World) (Ba Bb S:Nat) (k:Int) (f x:ByteArray) (A:Option Addr) (n c:Nat) (K:Option Addr) (m d:Nat) (k2:Int) (f2 x2:ByteArray) (A2:Option Addr) (n2 c2:Nat) (K2:Option Addr) (m2 d2:Nat) (a b:Qy) (x0:PartsP) (wr:World):Prop where
 bel:Below w0.heap.size w0 wr
 va:VQ wr Ba a k f x A n c K m d
 vb:VQ wr Bb b k2 f2 x2 A2 n2 c2 K2 m2 d2
 seg:SegAt wr S x0
theorem PartQ.later {w0:World} {Ba Bb S:Nat} {k:Int} {f x:ByteArray} {A:Option Addr} {n c:Nat} {K:Option Addr} {m d:Nat} {k2:Int} {f2 x2:ByteArray} {A2:Option Addr} {n2 c2:Nat} {K2:Option Addr} {m2 d2:Nat} {a b:Qy} {x0:PartsP} {wr w':World}
  (h:PartQ w0 Ba Bb S k f x A n c K m d k2 f2 x2 A2 n2 c2 K2 m2 d2 a b x0 wr) (hb:Below wr.heap.size wr w'):PartQ w0 Ba Bb S k f x A n c K m d k2 f2 x2 A2 n2 c2 K2 m2 d2 a b x0 w':=⟨h.bel.trans (hb.mono h.bel.size),h.va.later hb,h.vb.later hb,h.seg.below hb⟩
structure FiveF (w0:World) (A1 A2 A3 A4 A5:Option Addr) (c1 c2 c3 c4 c5:Nat) (l1 l2 l3 l4 l5:List Fo) (wr:World):Prop where
 bel:Below w0.heap.size w0 wr
 i1:InFo wr (.slice A1 l1.length c1) l1
 i2:InFo wr (.slice A2 l2.length c2) l2
 i3:InFo wr (.slice A3 l3.length c3) l3
 i4:InFo wr (.slice A4 l4.length c4) l4
 i5:InFo wr (.slice A5 l5.length c5) l5
theorem FiveF.later {w0:World} {A1 A2 A3 A4 A5:Option Addr} {c1 c2 c3 c4 c5:Nat} {l1 l2 l3 l4 l5:List Fo} {wr w':World} (h:FiveF w0 A1 A2 A3 A4 A5 c1 c2 c3 c4 c5 l1 l2 l3 l4 l5 wr) (hb:Below wr.heap.size wr w'):FiveF w0 A1 A2 A3 A4 A5 c1 c2 c3 c4 c5 l1 l2 l3 l4 l5 w':=
 ⟨h.bel.trans (hb.mono h.bel.size),h.i1.later hb,h.i2.later hb,h.i3.later hb,h.i4.later hb,h.i5.later hb⟩
set_option maxHeartbeats 8000000 in
set_option maxRecDepth 100000 in
theorem walk_MatchParts (w:World) (a0:Option Addr) (len0 cap0:Nat) (z0:List Dc) (h0:InDocs w a0 len0 cap0 z0) (p:Qy) (u:Value) (hp:QIn w p u) (hrawp:RawQ 100000000 p) (q:Qy) (v:Value) (hq:QIn w q v) (hraw:RawQ 100000000 q):
  Calls Tryz.prog 7 #[.slice a0 len0 cap0,u,v] w fun e w'=>e= .returned (.bool true)∧Below w.heap.size w w':=by
 obtain ⟨G,hG⟩:∃ G,G=goodsE z0 8 0 1:=⟨_,rfl⟩
 have HGOOD:Hid (∀ w1,Below w.heap.size w w1→Calls Tryz.prog 12 #[.slice a0 len0 cap0,.int .i64 8,.int .i64 0,.int .i64 1] w1 (GaveEn G w1)):=Lib.hid fun w1 hb=>by
  obtain ⟨g1,g2,g3,g4,g5⟩:=h0
  rw [hG]
  exact ref09_Good a0 len0 cap0 z0 8 0 1 w1 g3 (Nest.later g4 hb) (by unfold maxLen at g2;omega) (by omega) (by omega) (by omega) fun q hq f hf=>by
   have :=g5 q hq f hf
   unfold maxLen at this
   omega
 have hadd:AddOk G:=by rw [hG];exact goodsE_add _ _ _ _ (by omega) (by omega) (by omega)
 have HADD:=Lib.hid hadd
 have HGP:Hid (∀ w1,Below w.heap.size w w1→Calls Tryz.prog 8 #[u,.int .i64 2] w1 (GaveQ (goodQ 2 p) w1)):=Lib.hid fun w1 hb=>ref12_Good 2 p 2 u w1 (by omega) (by omega) hrawp (hp.later hb)
 have HGQ:Hid (∀ w1,Below w.heap.size w w1→Calls Tryz.prog 8 #[v,.int .i64 2] w1 (GaveQ (goodQ 2 q) w1)):=Lib.hid fun w1 hb=>ref12_Good 2 q 2 v w1 (by omega) (by omega) hraw (hq.later hb)
 have hmayp:=good_may 2 (d:=2) (q:=p) (by omega) (by omega)
 have hmay:=good_may 2 (d:=2) (q:=q) (by omega) (by omega)
 obtain ⟨a,ha⟩:∃ a,a=goodQ 2 p:=⟨_,rfl⟩
 obtain ⟨b,hb⟩:∃ b,b=goodQ 2 q:=⟨_,rfl⟩
 rw [← ha] at hmayp HGP
 rw [← hb] at hmay HGQ
 obtain ⟨ma,da⟩:=hmayp
 obtain ⟨mb,db⟩:=hmay
 have ma1:mayQ 1 a=0:=may_shift ma (by omega)
 have mb1:mayQ 1 b=0:=may_shift mb (by omega)
 have mna:mayQ 1 (notQ a)=0:=not_may (by omega) ma
 have mtwo:∀ y∈[a,b],mayQ 2 y=0:=fun y hy=>by rcases List.mem_cons.1 hy with rfl|hy;exact ma;rw [List.mem_singleton.1 hy];exact mb
 have mand:mayQ 1 (andQ [a,b])=0:=and_may (by omega) (by simp) (by simp) mtwo
 have mor:mayQ 1 (orQ [a,b])=0:=or_may (by omega) (by simp) (by simp) mtwo
 obtain ⟨X,hX⟩:∃ X,X=foundP (docsE G) a:=⟨_,rfl⟩
 obtain ⟨Y,hY⟩:∃ Y,Y=foundP (docsE G) b:=⟨_,rfl⟩
 have fand:foundP (docsE G) (andQ [a,b])=andF X Y:=by unfold andQ;rw [found_and,hX,hY];rfl
 have for_:foundP (docsE G) (orQ [a,b])=orF X Y:=by unfold orQ;rw [found_or,hX,hY];rfl
 have fnot:foundP (docsE G) (notQ a)=notF X G.length:=by unfold notQ;rw [found_not,hX,docsE_length]
 have HMA:Hid (∀ (v:Value) (w2:World) (S:Nat),QIn w2 a v→SegAt w2 S (buildP G)→Calls Tryz.prog 18 #[.pointer (some ⟨S,0,none⟩),v] w2 (GaveFo X w2)):=Lib.hid fun v w2 S h1 h2=>by rw [hX];exact match_good hadd a v w2 ma1 h1 h2
 have HMB:Hid (∀ (v:Value) (w2:World) (S:Nat),QIn w2 b v→SegAt w2 S (buildP G)→Calls Tryz.prog 18 #[.pointer (some ⟨S,0,none⟩),v] w2 (GaveFo Y w2)):=Lib.hid fun v w2 S h1 h2=>by rw [hY];exact match_good hadd b v w2 mb1 h1 h2
 have HMand:Hid (∀ (v:Value) (w2:World) (S:Nat),QIn w2 (andQ [a,b]) v→SegAt w2 S (buildP G)→Calls Tryz.prog 18 #[.pointer (some ⟨S,0,none⟩),v] w2 (GaveFo (andF X Y) w2)):=Lib.hid fun v w2 S h1 h2=>by rw [← fand];exact match_good hadd _ v w2 mand h1 h2
 have HMor:Hid (∀ (v:Value) (w2:World) (S:Nat),QIn w2 (orQ [a,b]) v→SegAt w2 S (buildP G)→Calls Tryz.prog 18 #[.pointer (some ⟨S,0,none⟩),v] w2 (GaveFo (orF X Y) w2)):=Lib.hid fun v w2 S h1 h2=>by rw [← for_];exact match_good hadd _ v w2 mor h1 h2
 have HMnot:Hid (∀ (v:Value) (w2:World) (S:Nat),QIn w2 (notQ a) v→SegAt w2 S (buildP G)→Calls Tryz.prog 18 #[.pointer (some ⟨S,0,none⟩),v] w2 (GaveFo (notF X G.length) w2)):=Lib.hid fun v w2 S h1 h2=>by rw [← fnot];exact match_good hadd _ v w2 mna h1 h2
 have rX:RiseF X:=by rw [hX];exact found_rise _ _
 have rY:RiseF Y:=by rw [hY];exact found_rise _ _
 have tX:topD X≤1048576:=by rw [hX];exact found_top hadd _
 have tY:topD Y≤1048576:=by rw [hY];exact found_top hadd _
 have eX:FewF X:=by rw [hX];exact few_of hadd (may_size (Nat.le_refl 1) ma1)
 have eY:FewF Y:=by rw [hY];exact few_of hadd (may_size (Nat.le_refl 1) mb1)
 have lX:X.length≤100:=by rw [hX];exact found_few hadd _
 have lY:Y.length≤100:=by rw [hY];exact found_few hadd _
 have HJA:Hid (∀ (va vb:Value) (w2:World),InFo w2 va X→InFo w2 vb Y→Calls Tryz.prog 22 #[va,vb,.bool false] w2 (GaveFo (andF X Y) w2)):=Lib.hid fun va vb w2 h1 h2=>ref13_Join va vb X Y false w2 h1 h2 rX rY eX eY tX tY
 have HJO:Hid (∀ (va vb:Value) (w2:World),InFo w2 va X→InFo w2 vb Y→Calls Tryz.prog 22 #[va,vb,.bool true] w2 (GaveFo (orF X Y) w2)):=Lib.hid fun va vb w2 h1 h2=>ref13_Join va vb X Y true w2 h1 h2 rX rY eX eY tX tY
 have HJN:Hid (∀ (va:Value) (w2:World),InFo w2 va X→Calls Tryz.prog 23 #[va,.int .i64 (G.length:Int)] w2 (GaveFo (notF X G.length) w2)):=Lib.hid fun va w2 h1=>ref13_Not va X G.length w2 h1 rX eX (by have :=hadd.few;omega)
 have HSA:Hid (∀ (va vb:Value) (w2:World),InFo w2 va (andF X Y)→InFo w2 vb (andF X Y)→Calls Tryz.prog 17 #[va,vb] w2 fun e w'=>e= .returned (.bool true)∧Below w2.heap.size w2 w'):=Lib.hid fun va vb w2 h1 h2=>same_found va vb _ w2 h1 h2 (by have :=kept_len andB X Y;unfold andF;omega)
 have HSO:Hid (∀ (va vb:Value) (w2:World),InFo w2 va (orF X Y)→InFo w2 vb (orF X Y)→Calls Tryz.prog 17 #[va,vb] w2 fun e w'=>e= .returned (.bool true)∧Below w2.heap.size w2 w'):=Lib.hid fun va vb w2 h1 h2=>same_found va vb _ w2 h1 h2 (by have :=kept_len orB X Y;unfold orF;omega)
 have HSN:Hid (∀ (va vb:Value) (w2:World),InFo w2 va (notF X G.length)→InFo w2 vb (notF X G.length)→Calls Tryz.prog 17 #[va,vb] w2 fun e w'=>e= .returned (.bool true)∧Below w2.heap.size w2 w'):=Lib.hid fun va vb w2 h1 h2=>same_found va vb _ w2 h1 h2 (by have :=not_len rX G.length;have :=hadd.few;omega)
 obtain ⟨N,hN⟩:∃ N,N=G.length:=⟨_,rfl⟩
 have HN:=Lib.hid hN
 rw [← hN] at HMnot HJN HSN
 obtain ⟨k1,t1,ws1,ks1,f1,x1,A1,c1,K1,m1,ds1,he1,rfl, -⟩:=hp.open_
 obtain ⟨k2,t2,ws2,ks2,f2,x2,A2,c2,K2,m2,ds2,he2,rfl, -⟩:=hq.open_
 obtain ⟨wa,hwa⟩:∃ wa,wa=boxQ w k1 f1 x1 A1 ws1.length c1 K1 ks1.length m1:=⟨_,rfl⟩
 obtain ⟨w1,hw1⟩:∃ w1,w1=boxQ wa k2 f2 x2 A2 ws2.length c2 K2 ks2.length m2:=⟨_,rfl⟩
 have hba:Below w.heap.size w wa:=by rw [hwa];exact boxQ_below
 have hsa:wa.heap.size=w.heap.size+1:=by rw [hwa];exact boxQ_size
 have hbb:Below wa.heap.size wa w1:=by rw [hw1];exact boxQ_below
 have HB0:Hid (Below w.heap.size w w1):=Lib.hid (hba.trans (hbb.mono hba.size))
 have VP:Hid (VQ w1 w.heap.size p k1 f1 x1 A1 ws1.length c1 K1 ks1.length m1):=Lib.hid (by
  have :=VQ.made hp
  rw [← hwa] at this
  exact this.later hbb)
 have VR:Hid (VQ w1 (w.heap.size+1) q k2 f2 x2 A2 ws2.length c2 K2 ks2.length m2):=Lib.hid (by
  have :=VQ.made (hq.later hba)
  rw [← hw1,hsa] at this
  exact this)
 have HW1:Hid (w1=(w.alloc (.cells #[.int .i64 k1,.string f1,.string x1,.slice A1 ws1.length c1,.slice K1 ks1.length m1] 27)).alloc (.cells #[.int .i64 k2,.string f2,.string x2,.slice A2 ws2.length c2,.slice K2 ks2.length m2] 27)):=Lib.hid (by rw [hw1,hwa];rfl)
 clear hwa hw1 hba hsa hbb ha hb ma mb da db ma1 mb1 mna mtwo mand mor he1 he2 hp hq hraw hrawp h0 hG hadd hX hY fand for_ fnot rX rY tX tY eX eY lX lY hN
 go_enter Tryz.func7,Tryz.ntmps7
 go_upto_region 1 with fail
 rw [show (w.alloc _).alloc _=w1 from HW1.out.symm]
 go_upto_region 2 with (go_at_call 12;(with_reducible refine (HGOOD.out w1 HB0.out).mono ?_);rintro e w2 ⟨V,rfl,ho,hb⟩
  <;>(obtain ⟨AG,cG,rfl,hcG,hu⟩:=ho.nest)<;>(rw [← HN.out] at hcG ⊢)<;>(have HOG:Hid (OwnES (fun k=>w1.heap.size≤k) w2 (.slice AG N cG) G):=Lib.hid (by rw [HN.out];exact ho))<;>(have HB2:=Lib.hid hb)<;>clear ho hb hu)
 go_upto_region 5 with (go_at_call 13;(with_reducible refine (seg_Build (.slice AG N cG) G w2 HOG.out.small HADD.out).mono ?_);rintro e w3 ⟨S,rfl,hs, -,hb⟩;have HS3:=Lib.hid hs;have HB3:Hid (Below w1.heap.size w1 w3):=Lib.hid (HB2.out.trans (hb.mono HB2.out.size));clear hs hb)
 obtain ⟨a0,a1,a2,a3,a4⟩:=(VP.out.later HB3.out).cells
 go_upto_region 6 with (go_at_call 8;(with_reducible refine (HGP.out _ (HB0.out.trans (HB3.out.mono HB0.out.size))).mono ?_);rintro e w4 ⟨v4,rfl,hq4,hb4⟩;obtain ⟨k4,f4,x4,A4,n4,c4,K4,m4,d4,e4,hq5⟩:=hq4;subst e4;have HQ4:Hid (QIn w4 a (qV k4 f4 x4 A4 n4 c4 K4 m4 d4)):=Lib.hid ⟨_,_,_,_,_,_,_,_,_,rfl,hq5.imp fun b hb=>hb.2⟩;have HB4:=Lib.hid hb4;clear hq5 hb4 a0 a1 a2 a3 a4)
 obtain ⟨w5,hw5⟩:∃ w5,w5=boxQ w4 k4 f4 x4 A4 n4 c4 K4 m4 d4:=⟨_,rfl⟩
 rw [show w4.alloc _=w5 from hw5.symm]
 have hb5:Below w4.heap.size w4 w5:=by rw [hw5];exact boxQ_below
 have hb35:Below w3.heap.size w3 w5:=HB4.out.trans (hb5.mono HB4.out.size)
 have HB5:Hid (Below w1.heap.size w1 w5):=Lib.hid (HB3.out.trans (hb35.mono HB3.out.size))
 have HS5:Hid (SegAt w5 S (buildP G)):=Lib.hid (HS3.out.below hb35)
 have VA:Hid (VQ w5 w4.heap.size a k4 f4 x4 A4 n4 c4 K4 m4 d4):=Lib.hid (by rw [hw5];exact VQ.made HQ4.out)
 obtain ⟨a0,a1,a2,a3,a4⟩:=(VR.out.later HB5.out).cells
 obtain ⟨Ba,hBa⟩:∃ Ba,Ba=w4.heap.size:=⟨_,rfl⟩
 rw [← hBa] at VA ⊢
 clear hw5 hb5 hb35 hBa HQ4 HB4 HB3 HS3 HB2
 go_upto_region 7 with (go_at_call 8;(with_reducible refine (HGQ.out _ (HB0.out.trans (HB5.out.mono HB0.out.size))).mono ?_);rintro e w6 ⟨v6,rfl,hq6,hb6⟩;obtain ⟨k6,f6,x6,A6,n6,c6,K6,m6,d6,e6,hq7⟩:=hq6;subst e6;have HQ6:Hid (QIn w6 b (qV k6 f6 x6 A6 n6 c6 K6 m6 d6)):=Lib.hid ⟨_,_,_,_,_,_,_,_,_,rfl,hq7.imp fun b hb=>hb.2⟩;have HB6:=Lib.hid hb6;clear hq7 hb6 a0 a1 a2 a3 a4)
 obtain ⟨w7,hw7⟩:∃ w7,w7=boxQ w6 k6 f6 x6 A6 n6 c6 K6 m6 d6:=⟨_,rfl⟩
 rw [show w6.alloc _=w7 from hw7.symm]
 have hb7:Below w6.heap.size w6 w7:=by rw [hw7];exact boxQ_below
 have hb57:Below w5.heap.size w5 w7:=HB6.out.trans (hb7.mono HB6.out.size)
 obtain ⟨Bb,hBb⟩:∃ Bb,Bb=w6.heap.size:=⟨_,rfl⟩
 have VB:VQ w7 Bb b k6 f6 x6 A6 n6 c6 K6 m6 d6:=by rw [hw7,hBb];exact VQ.made HQ6.out
 have HX:Hid (PartQ w Ba Bb S k4 f4 x4 A4 n4 c4 K4 m4 d4 k6 f6 x6 A6 n6 c6 K6 m6 d6 a b (buildP G) w7):=Lib.hid ⟨HB0.out.trans ((HB5.out.trans (hb57.mono HB5.out.size)).mono HB0.out.size),VA.out.later hb57,VB,HS5.out.below hb57⟩
 rw [← hBb]
 clear hw7 hb7 hb57 hBb HQ6 HB6 HB5 HS5 VA VB VP VR
 obtain ⟨a0,a1,a2,a3,a4⟩:=HX.out.va.cells
 go_upto_region 8 with (go_at_call 18;(with_reducible refine (HMA.out _ _ _ HX.out.va.in_ HX.out.seg).mono ?_);rintro e w8 ⟨v8,rfl,ho,hb⟩;have HX8:=Lib.hid (HX.out.later hb);have HIX:=Lib.hid ho.in_;obtain ⟨AX,cX,rfl, -, -⟩:=owned_row ho;clear ho hb a0 a1 a2 a3 a4)
 obtain ⟨a0,a1,a2,a3,a4⟩:=HX8.out.vb.cells
 go_upto_region 9 with (go_at_call 18;(with_reducible refine (HMB.out _ _ _ HX8.out.vb.in_ HX8.out.seg).mono ?_);rintro e w9 ⟨v9,rfl,ho,hb⟩;have HX9:=Lib.hid (HX8.out.later hb);have HIX9:=Lib.hid (HIX.out.later hb);have HIY:=Lib.hid ho.in_;obtain ⟨AY,cY,rfl, -, -⟩:=owned_row ho;clear ho hb a0 a1 a2 a3 a4)
 obtain ⟨a0,a1,a2,a3,a4⟩:=HX9.out.va.cells
 obtain ⟨b0,b1,b2,b3,b4⟩:=HX9.out.vb.cells
 clear HX HX8 HIX
 obtain ⟨wx,hwx⟩:∃ wx,wx=w9.alloc (two10 k4 f4 x4 A4 n4 c4 K4 m4 d4 k6 f6 x6 A6 n6 c6 K6 m6 d6):=⟨_,rfl⟩
 have hbwx:Below w9.heap.size w9 wx:=by rw [hwx];exact (Below.refl _ _).alloc (Nat.le_refl _) _
 have Cwx:=Lib.hid (HMand.out _ wx S (by rw [hwx];exact two_in 2 HX9.out.va.in_ HX9.out.vb.in_) (HX9.out.seg.below hbwx))
 have Ewx:=Lib.hid hwx
 have Bwx:=Lib.hid hbwx
 clear hwx hbwx
 go_upto_region 10 with (go_at_call 18;rw [show w9.alloc _=wx from Ewx.out.symm];(with_reducible refine Cwx.out.mono ?_);rintro e w10 ⟨u10,rfl,ho,hb⟩;have hb0:=Bwx.out.trans (hb.mono Bwx.out.size);have HX10:=Lib.hid (HX9.out.later hb0);have HIX10:=Lib.hid (HIX9.out.later hb0);have HIY10:=Lib.hid (HIY.out.later hb0);have HIA:=Lib.hid ho.in_;obtain ⟨AA,cA,rfl, -, -⟩:=owned_row ho;clear ho hb hb0 a0 a1 a2 a3 a4 b0 b1 b2 b3 b4)
 obtain ⟨a0,a1,a2,a3,a4⟩:=HX10.out.va.cells
 obtain ⟨b0,b1,b2,b3,b4⟩:=HX10.out.vb.cells
 obtain ⟨wy,hwy⟩:∃ wy,wy=w10.alloc (two10 k4 f4 x4 A4 n4 c4 K4 m4 d4 k6 f6 x6 A6 n6 c6 K6 m6 d6):=⟨_,rfl⟩
 have hbwy:Below w10.heap.size w10 wy:=by rw [hwy];exact (Below.refl _ _).alloc (Nat.le_refl _) _
 have Cwy:=Lib.hid (HMor.out _ wy S (by rw [hwy];exact two_in 3 HX10.out.va.in_ HX10.out.vb.in_) (HX10.out.seg.below hbwy))
 have Ewy:=Lib.hid hwy
 have Bwy:=Lib.hid hbwy
 clear hwy hbwy
 go_upto_region 11 with (go_at_call 18;rw [show w10.alloc _=wy from Ewy.out.symm];(with_reducible refine Cwy.out.mono ?_);rintro e w11 ⟨u11,rfl,ho,hb⟩;have hb0:=Bwy.out.trans (hb.mono Bwy.out.size);have HX11:=Lib.hid (HX10.out.later hb0);have HIX11:=Lib.hid (HIX10.out.later hb0);have HIY11:=Lib.hid (HIY10.out.later hb0);have HIA11:=Lib.hid (HIA.out.later hb0);have HIO:=Lib.hid ho.in_;obtain ⟨AO,cO,rfl, -, -⟩:=owned_row ho;clear ho hb hb0 a0 a1 a2 a3 a4 b0 b1 b2 b3 b4)
 obtain ⟨a0,a1,a2,a3,a4⟩:=HX11.out.va.cells
 obtain ⟨b0,b1,b2,b3,b4⟩:=HX11.out.vb.cells
 obtain ⟨wz,hwz⟩:∃ wz,wz=boxQ w11 k4 f4 x4 A4 n4 c4 K4 m4 d4:=⟨_,rfl⟩
 have hbwz:Below w11.heap.size w11 wz:=by rw [hwz];exact boxQ_below
 have Cwz:=Lib.hid (HMnot.out _ wz S (by rw [hwz];exact one_in HX11.out.va.in_) (HX11.out.seg.below hbwz))
 have Ewz:=Lib.hid hwz
 have Bwz:=Lib.hid hbwz
 clear hwz hbwz
 go_upto_region 12 with (go_at_call 18;rw [show w11.alloc _=wz from Ewz.out.symm];(with_reducible refine Cwz.out.mono ?_);rintro e w12 ⟨u12,rfl,ho,hb⟩;have hb0:=Bwz.out.trans (hb.mono Bwz.out.size);have HW12:=Lib.hid (HX11.out.bel.trans (hb0.mono HX11.out.bel.size));have HIX12:=Lib.hid (HIX11.out.later hb0);have HIY12:=Lib.hid (HIY11.out.later hb0);have HIA12:=Lib.hid (HIA11.out.later hb0);have HIO12:=Lib.hid (HIO.out.later hb0);have HIN12:=Lib.hid ho.in_;obtain ⟨AN,cN,rfl, -, -⟩:=owned_row ho;clear ho hb hb0 a0 a1 a2 a3 a4 b0 b1 b2 b3 b4)
 clear HX9 HX10 HX11 HIX9 HIX10 HIX11 HIY HIY10 HIY11 HIA HIA11 HIO
 have HI:Hid (FiveF w AX AY AA AO AN cX cY cA cO cN X Y (andF X Y) (orF X Y) (notF X N) w12):=Lib.hid ⟨HW12.out,HIX12.out,HIY12.out,HIA12.out,HIO12.out,HIN12.out⟩
 have HLV:=Lib.hid law13_lives
 clear HIX12 HIY12 HIA12 HIO12 HIN12 HW12
 go_wp2_with (first
  |(go_at_call 22;(with_reducible refine (HJA.out _ _ _ HI.out.i1 HI.out.i2).mono ?_);rintro e wn ⟨vj,rfl,ho,hb⟩;have HI:=Lib.hid (HI.out.later hb);have HJ:=Lib.hid ho.in_;obtain ⟨AJ,cJ,rfl, -, -⟩:=owned_row ho;clear ho hb)
  |(go_at_call 22;(with_reducible refine (HJO.out _ _ _ HI.out.i1 HI.out.i2).mono ?_);rintro e wn ⟨vj,rfl,ho,hb⟩;have HI:=Lib.hid (HI.out.later hb);have HJ:=Lib.hid ho.in_;obtain ⟨AJ,cJ,rfl, -, -⟩:=owned_row ho;clear ho hb)
  |(go_at_call 23;(with_reducible refine (HJN.out _ _ HI.out.i1).mono ?_);rintro e wn ⟨vj,rfl,ho,hb⟩;have HI:=Lib.hid (HI.out.later hb);have HJ:=Lib.hid ho.in_;obtain ⟨AJ,cJ,rfl, -, -⟩:=owned_row ho;clear ho hb)
  |(go_at_call 17;(with_reducible refine (HSA.out _ _ _ HI.out.i3 HJ.out).mono ?_);rintro e wn ⟨rfl,hb⟩;have HI:=Lib.hid (HI.out.later hb);clear hb)
  |(go_at_call 17;(with_reducible refine (HSO.out _ _ _ HI.out.i4 HJ.out).mono ?_);rintro e wn ⟨rfl,hb⟩;have HI:=Lib.hid (HI.out.later hb);clear hb)
  |(go_at_call 17;(with_reducible refine (HSN.out _ _ _ HI.out.i5 HJ.out).mono ?_);rintro e wn ⟨rfl,hb⟩;have HI:=Lib.hid (HI.out.later hb);clear hb)
  |(go_at_call 21;(with_reducible refine (HLV.out _).mono ?_);rintro e wn ⟨rfl,hb⟩;have HI:=Lib.hid (HI.out.later hb);clear hb))
 go_ret
 exact ⟨rfl,HI.out.bel⟩
end Go.Proofs.YtldcadpemnpbmaaGreatDoor
