import Derived.Test.YtldcadpemnpbmaaGreatDoorMLQ30
import Derived.Deep.RegionHeld3
import Derived.Test.YtldcadpemnpbmaaGreatDoorMLQ31
set_option linter.unusedVariables false
namespace Go.Proofs.YtldcadpemnpbmaaGreatDoor
open Go Go.RowKit
theorem alike_add {G:List En} (hG:AddOk G) {i:Nat} (hi:i<G.length):AddOk [G[i]] where
 may q hq:=by rw [List.mem_singleton.1 hq];exact hG.may _ (List.getElem_mem hi)
 rise:=by
  have :=(hG.next hi).1
  simp only [List.map_cons,List.map_nil,risesZ,Bool.and_true,decide_eq_true_eq]
  omega
 few:=by simp
theorem alike_one (e:En) (p:Qy):foundP (docsE [e]) p=match gradeF e.2.1 p with|none=>[]|some s=>[(0,s)]:=by
 unfold foundP
 rw [docsE_length,List.length_singleton,tab_succ,tab_zero,List.nil_append]
 rfl
theorem tab_split (g:Nat→Option Int) {n m:Nat} (h:n≤m):∃ r,tabF m g=tabF n g++r:=by
 induction m with
 |zero=>exact ⟨[],by rw [Nat.le_zero.1 h,List.append_nil]⟩
 |succ m ih=>
  rcases Nat.lt_or_ge m n with h1|h1
  ·exact ⟨[],by rw [show n=m+1 by omega,List.append_nil]⟩
  ·obtain ⟨r,hr⟩:=ih h1
   rw [tab_succ,hr,List.append_assoc]
   exact ⟨_,rfl⟩
theorem tab_here {g:Nat→Option Int} {n m:Nat} {s:Int} (hn:n<m) (hg:g n=some s):∃ h:(tabF n g).length<(tabF m g).length,(tabF m g)[(tabF n g).length]=(n,s):=by
 obtain ⟨r,hr⟩:=tab_split g (show n+1≤m by omega)
 rw [tab_succ,hg] at hr
 have hl:(tabF n g).length<(tabF m g).length:=by rw [hr];simp
 refine ⟨hl,?_⟩
 have :(tabF m g)[(tabF n g).length]?=some (n,s):=by rw [hr];simp
 rw [List.getElem?_eq_getElem hl] at this
 exact Option.some.inj this
theorem drewn_below (w:World) (n:Nat):Below w.heap.size w (w.drewN n):=by
 have h:=Below.refl w.heap.size w
 exact ⟨h.os,h.tape,h.output,h.size,h.block⟩
structure AlikeAt (w0:World) (Bp:Nat) (k:Int) (f x:ByteArray) (A:Option Addr) (n c:Nat) (K:Option Addr) (m d:Nat) (AG:Option Addr) (cG:Nat) (AX:Option Addr) (cX:Nat) (p:Qy) (G:List En) (X:List Fo) (wr:World):Prop where
 bel:Below w0.heap.size w0 wr
 vp:VQ wr Bp p k f x A n c K m d
 ents:SeenES (fun k=>k<wr.heap.size) wr (.slice AG G.length cG) G
 all:InFo wr (.slice AX X.length cX) X
theorem AlikeAt.later {w0:World} {Bp:Nat} {k:Int} {f x:ByteArray} {A:Option Addr} {n c:Nat} {K:Option Addr} {m d:Nat} {AG:Option Addr} {cG:Nat} {AX:Option Addr} {cX:Nat} {p:Qy} {G:List En} {X:List Fo} {wr w':World}
  (h:AlikeAt w0 Bp k f x A n c K m d AG cG AX cX p G X wr) (hb:Below wr.heap.size wr w'):AlikeAt w0 Bp k f x A n c K m d AG cG AX cX p G X w':=
 ⟨h.bel.trans (hb.mono h.bel.size),h.vp.later hb,(h.ents.later hb).imp fun k hk _=>Nat.lt_of_lt_of_le hk hb.size,h.all.later hb⟩
def AlikeRel (w0:World) (Bp:Nat) (k:Int) (f x:ByteArray) (A:Option Addr) (n c:Nat) (K:Option Addr) (m d:Nat) (AG:Option Addr) (cG:Nat) (AX:Option Addr) (cX:Nat) (p:Qy) (G:List En) (X:List Fo) (g:Nat→Option Int) (vk vi:Value) (wr:World):Prop:=
 ∃ i:Nat,i≤G.length∧vi= .int .i64 (i:Int)∧vk= .int .i64 ((tabF i g).length:Int)∧AlikeAt w0 Bp k f x A n c K m d AG cG AX cX p G X wr
set_option maxHeartbeats 8000000 in
set_option maxRecDepth 100000 in
theorem walk_MatchAlike (w:World) (a0:Option Addr) (len0 cap0:Nat) (z0:List Dc) (h0:InDocs w a0 len0 cap0 z0) (q:Qy) (v:Value) (hq:QIn w q v) (hraw:RawQ 100000000 q):
  Calls Tryz.prog 6 #[.slice a0 len0 cap0,v] w fun e w'=>e= .returned (.bool true)∧Below w.heap.size w w':=by
 obtain ⟨G,hG⟩:∃ G,G=goodsE z0 8 0 1:=⟨_,rfl⟩
 have HGOOD:Hid (∀ w1,Below w.heap.size w w1→Calls Tryz.prog 12 #[.slice a0 len0 cap0,.int .i64 8,.int .i64 0,.int .i64 1] w1 (GaveEn G w1)):=Lib.hid fun w1 hb=>by
  obtain ⟨g1,g2,g3,g4,g5⟩:=h0
  rw [hG]
  exact ref09_Good a0 len0 cap0 z0 8 0 1 w1 g3 (Nest.later g4 hb) (by unfold maxLen at g2;omega) (by omega) (by omega) (by omega) fun q hq f hf=>by
   have :=g5 q hq f hf
   unfold maxLen at this
   omega
 have hadd:AddOk G:=by rw [hG];exact goodsE_add _ _ _ _ (by omega) (by omega) (by omega)
 have HADD:=Lib.hid hadd
 have HGQ:Hid (∀ w1,Below w.heap.size w w1→Calls Tryz.prog 8 #[v,.int .i64 1] w1 (GaveQ (goodQ 1 q) w1)):=Lib.hid fun w1 hb=>ref12_Good 3 q 1 v w1 (by omega) (by omega) hraw (hq.later hb)
 have hmay:=good_may 3 (d:=1) (q:=q) (by omega) (by omega)
 obtain ⟨p,hp⟩:∃ p,p=goodQ 1 q:=⟨_,rfl⟩
 rw [← hp] at hmay HGQ
 obtain ⟨mp,dp⟩:=hmay
 obtain ⟨g,hg⟩:∃ g,g=fun i=>gradeF ((docsE G).getD i []) p:=⟨_,rfl⟩
 obtain ⟨X,hX⟩:∃ X,X=tabF G.length g:=⟨_,rfl⟩
 have hXF:foundP (docsE G) p=X:=by rw [hX,hg];unfold foundP;rw [docsE_length]
 have HM:Hid (∀ (v:Value) (w2:World) (S:Nat),QIn w2 p v→SegAt w2 S (buildP G)→Calls Tryz.prog 18 #[.pointer (some ⟨S,0,none⟩),v] w2 (GaveFo X w2)):=Lib.hid fun v w2 S h1 h2=>by rw [← hXF];exact match_good hadd p v w2 mp h1 h2
 have HM1:Hid (∀ (i:Nat) (hi:i<G.length) (v:Value) (w2:World) (S:Nat),QIn w2 p v→SegAt w2 S (buildP [G[i]])→Calls Tryz.prog 18 #[.pointer (some ⟨S,0,none⟩),v] w2 (GaveFo (match g i with|none=>[]|some s=>[(0,s)]) w2)):=Lib.hid fun i hi v w2 S h1 h2=>by
  have :=match_good (alike_add hadd hi) p v w2 mp h1 h2
  rw [alike_one] at this
  rw [hg]
  simp only
  rw [docsE_at hi]
  exact this
 have HX:=Lib.hid hX
 have lX:X.length≤100:=by rw [← hXF];exact found_few hadd _
 have lG:G.length≤100:=hadd.few
 obtain ⟨N,hN⟩:∃ N,N=G.length:=⟨_,rfl⟩
 have HN:=Lib.hid hN
 have hN100:N≤100:=by omega
 have HLX:=Lib.hid lX
 obtain ⟨k1,t1,ws1,ks1,f1,x1,A1,c1,K1,m1,ds1,he1,rfl, -⟩:=hq.open_
 obtain ⟨w1,hw1⟩:∃ w1,w1=boxQ w k1 f1 x1 A1 ws1.length c1 K1 ks1.length m1:=⟨_,rfl⟩
 have hb1:Below w.heap.size w w1:=by rw [hw1];exact boxQ_below
 have HB0:=Lib.hid hb1
 have VP:Hid (VQ w1 w.heap.size q k1 f1 x1 A1 ws1.length c1 K1 ks1.length m1):=Lib.hid (by rw [hw1];exact VQ.made hq)
 have HW1:Hid (w1=w.alloc (.cells #[.int .i64 k1,.string f1,.string x1,.slice A1 ws1.length c1,.slice K1 ks1.length m1] 27)):=Lib.hid (by rw [hw1];rfl)
 clear hw1 hb1 hp mp dp he1 hq hraw h0 hG hadd hg hX hXF lX lG
 clear hN
 go_enter Tryz.func6,Tryz.ntmps6
 go_upto_region 1 with fail
 rw [show w.alloc _=w1 from HW1.out.symm]
 obtain ⟨a0,a1,a2,a3,a4⟩:=VP.out.cells
 go_upto_region 2 with (go_at_call 12;(with_reducible refine (HGOOD.out w1 HB0.out).mono ?_);rintro e w2 ⟨V,rfl,ho,hb⟩
  <;>(obtain ⟨AG,cG,rfl,hcG,hu⟩:=ho.nest)<;>(rw [← HN.out] at hcG ⊢)<;>(have HOG:Hid (OwnES (fun k=>w1.heap.size≤k) w2 (.slice AG N cG) G):=Lib.hid (by rw [HN.out];exact ho))<;>(have HB2:=Lib.hid hb)<;>clear ho hb hu a0 a1 a2 a3 a4)
 obtain ⟨a0,a1,a2,a3,a4⟩:=(VP.out.later HB2.out).cells
 go_upto_region 3 with (go_at_call 8;(with_reducible refine (HGQ.out _ (HB0.out.trans (HB2.out.mono HB0.out.size))).mono ?_);rintro e w4 ⟨v4,rfl,hq4,hb4⟩;obtain ⟨k4,f4,x4,A4,n4,c4,K4,m4,d4,e4,hq5⟩:=hq4;subst e4;have HQ4:Hid (QIn w4 p (qV k4 f4 x4 A4 n4 c4 K4 m4 d4)):=Lib.hid ⟨_,_,_,_,_,_,_,_,_,rfl,hq5.imp fun b hb=>hb.2⟩;have HB4:=Lib.hid hb4;clear hq5 hb4 a0 a1 a2 a3 a4)
 obtain ⟨w5,hw5⟩:∃ w5,w5=boxQ w4 k4 f4 x4 A4 n4 c4 K4 m4 d4:=⟨_,rfl⟩
 rw [show w4.alloc _=w5 from hw5.symm]
 have hb5:Below w4.heap.size w4 w5:=by rw [hw5];exact boxQ_below
 have hb25:Below w2.heap.size w2 w5:=HB4.out.trans (hb5.mono HB4.out.size)
 have HB5:Hid (Below w.heap.size w w5):=Lib.hid (HB0.out.trans ((HB2.out.trans (hb25.mono HB2.out.size)).mono HB0.out.size))
 have HG5:=Lib.hid (HOG.out.later hb25)
 have VA:Hid (VQ w5 w4.heap.size p k4 f4 x4 A4 n4 c4 K4 m4 d4):=Lib.hid (by rw [hw5];exact VQ.made HQ4.out)
 obtain ⟨Bp,hBp⟩:∃ Bp,Bp=w4.heap.size:=⟨_,rfl⟩
 rw [← hBp] at VA ⊢
 clear hw5 hb5 hb25 hBp HQ4 HB4 HB2 HOG VP
 obtain ⟨a0,a1,a2,a3,a4⟩:=VA.out.cells
 go_upto_region 6 with (go_at_call 13;(with_reducible refine (seg_Build (.slice AG N cG) G w5 HG5.out.small HADD.out).mono ?_);rintro e w6 ⟨S,rfl,hs, -,hb⟩;have HS6:=Lib.hid hs;have HG6:=Lib.hid (HG5.out.later hb);have VA6:=Lib.hid (VA.out.later hb);have HB6:=Lib.hid (HB5.out.trans (hb.mono HB5.out.size));clear hs hb a0 a1 a2 a3 a4)
 obtain ⟨a0,a1,a2,a3,a4⟩:=VA6.out.cells
 go_upto_region 7 with (go_at_call 18;(with_reducible refine (HM.out _ _ _ VA6.out.in_ HS6.out).mono ?_);rintro e w7 ⟨v7,rfl,ho,hb⟩;have HI7:=Lib.hid ho.in_;have HG7:=Lib.hid (HG6.out.later hb);have VA7:=Lib.hid (VA6.out.later hb);have HB7:=Lib.hid (HB6.out.trans (hb.mono HB6.out.size));obtain ⟨AX,cX,rfl, -, -⟩:=owned_row ho;clear ho hb a0 a1 a2 a3 a4)
 have HREL:Hid (AlikeRel w Bp k4 f4 x4 A4 n4 c4 K4 m4 d4 AG cG AX cX p G X g (.int .i64 0) (.int .i64 0) w7):=Lib.hid ⟨0,Nat.zero_le _,rfl,rfl,⟨HB7.out,VA7.out,by rw [← HN.out];exact HG7.out.small.seen,HI7.out⟩⟩
 clear HB7 VA7 HG7 HI7 HG6 VA6 HB6 HS6 HG5 VA HB5
 go_wp2
 go_loopw [10,11] (AlikeRel w Bp k4 f4 x4 A4 n4 c4 K4 m4 d4 AG cG AX cX p G X g) (fun _ i _=>N-(intOf i).toNat)
 case atStart=>exact HREL.out
 case round=>
  obtain ⟨i,hi,rfl,rfl,hat⟩:=hrel
  rw [← HN.out] at hi
  by_cases hlt:i<N
  ·have hil:i<G.length:=by rw [← HN.out];exact hlt
   obtain ⟨b,off,c0',A',cc,hAe, -, -, -⟩:=hat.ents.at_ hil
   have hAG:AG=some ⟨b,off,none⟩:=by injection hAe
   subst hAG
   clear hAe
   obtain ⟨A7,c7,cs7,e7,hc7, -, -⟩:=id hat.ents
   injection e7 with e71 e72 e73
   subst e73
   clear e71 e72
   rw [← HN.out] at hc7
   have hsub:=(hat.ents.one hil (c':=cG-i) (by omega) (by omega)).imp (T:=fun k=>k<wr.heap.size) fun k hk _=>hk
   obtain ⟨en,hen⟩:∃ en,en=G[i]:=⟨_,rfl⟩
   have hade:=alike_add HADD.out hil
   have hmi:=HM1.out i hil
   rw [← hen] at hsub hade hmi
   have CB:=Lib.hid (seg_BuildS _ [en] wr hsub hade)
   have HA:=Lib.hid hat
   have hin:(i:Int)<(N:Int):=by omega
   have hkk:=tab_length g i
   have hsc:=tab_succ i g
   obtain ⟨kk,hkk0⟩:∃ kk,kk=(tabF i g).length:=⟨_,rfl⟩
   have HIL:=Lib.hid hil
   have hc8:¬ cG≤i:=by omega
   have hc9:¬ cG-i=0:=by omega
   cases hgi:g i with
   |none=>
    have HMi:Hid (∀ (v:Value) (w2:World) (S:Nat),QIn w2 p v→SegAt w2 S (buildP [en])→Calls Tryz.prog 18 #[.pointer (some ⟨S,0,none⟩),v] w2 (GaveFo [] w2)):=Lib.hid fun v w2 S h1 h2=>by
     have :=hmi v w2 S h1 h2
     rwa [hgi] at this
    rw [hgi,List.append_nil] at hsc
    have HSC:Hid ((tabF (i+1) g).length=kk):=Lib.hid (by rw [hsc];exact hkk0.symm)
    rw [← hkk0] at hkk ⊢
    clear hsub hat hgi hsc hkk0 hen hade hmi hil
    go_wp2_with (first
     |(go_at_call 13;(with_reducible refine CB.out.mono ?_);rintro e w8 ⟨T,rfl,hs, -,hb⟩;have HT:=Lib.hid hs;have HA8:=Lib.hid (HA.out.later hb);obtain ⟨a0,a1,a2,a3,a4⟩:=HA8.out.vp.cells;clear hs hb)
     |(go_at_call 18;(with_reducible refine (HMi.out _ _ _ HA8.out.vp.in_ HT.out).mono ?_);rintro e w9 ⟨v9,rfl,ho,hb⟩;have HA9:=Lib.hid (HA8.out.later hb);obtain ⟨AF,cF,rfl, -, -⟩:=owned_row ho;clear ho hb a0 a1 a2 a3 a4))
    go_roundw
    case rel=>exact ⟨i+1,HIL.out,rfl,by rw [HSC.out],HA9.out⟩
    case measure=>simp [intOf];omega
   |some s=>
    have hmi2:∀ (v:Value) (w2:World) (S:Nat),QIn w2 p v→SegAt w2 S (buildP [en])→Calls Tryz.prog 18 #[.pointer (some ⟨S,0,none⟩),v] w2 (GaveFo [(0,s)] w2):=fun v w2 S h1 h2=>by
     have :=hmi v w2 S h1 h2
     rwa [hgi] at this
    have HMi:=Lib.hid hmi2
    obtain ⟨hx1,hx2⟩:=tab_here hil hgi
    have hx3:kk<X.length:=by rw [hkk0,HX.out];exact hx1
    have hx4:X[kk]=(i,s):=by
     have h5:X[kk]?=some (i,s):=by rw [hkk0,HX.out,← hx2,List.getElem?_eq_getElem hx1]
     rw [List.getElem?_eq_getElem hx3] at h5
     exact Option.some.inj h5
    obtain ⟨AX',cX',eX, -, -,hrX⟩:=id hat.all
    obtain ⟨bx,ox,hAX,hbx,x0,x1⟩:=FoRow.at_ hrX hx3
    have hAX2:AX=some ⟨bx,ox,none⟩:=by injection eX with e1;rw [e1,hAX]
    subst hAX2
    rw [hx4] at x0 x1
    simp only at x0 x1
    have HCX:Hid (∀ w9,Below wr.heap.size wr w9→w9.cell? ⟨bx,ox+kk*2,none⟩=some (.int .i64 (i:Int))∧w9.cell? ⟨bx,ox+kk*2+1,none⟩=some (.int .i64 s)):=Lib.hid fun w9 hb=>⟨(hb.cell (p:=⟨bx,_,none⟩) hbx).trans x0,(hb.cell (p:=⟨bx,_,none⟩) hbx).trans x1⟩
    rw [hgi] at hsc
    have HSC:Hid ((tabF (i+1) g).length=kk+1):=Lib.hid (by rw [hsc,List.length_append,← hkk0];rfl)
    rw [← hkk0] at hkk ⊢
    have lX:X.length≤100:=HLX.out
    obtain ⟨lx,hlx⟩:∃ lx,lx=X.length:=⟨_,rfl⟩
    have HLX2:=Lib.hid hlx
    rw [← hlx] at hx3 lX ⊢
    have hki:(kk:Int)<(lx:Int):=by omega
    have hkn:¬ (lx:Int)≤(kk:Int):=by omega
    have hkd:decide ((lx:Int)≤(kk:Int))=false:=decide_eq_false hkn
    clear hsub hat hgi hsc hkk0 hen hade hmi hmi2 hx1 hx2 hx4 eX hrX hAX x0 x1 hil hbx hlx
    go_wp2_with (first
     |(go_at_call 13;(with_reducible refine CB.out.mono ?_);rintro e w8 ⟨T,rfl,hs, -,hb⟩;have HT:=Lib.hid hs;have HB8:=Lib.hid hb;have HA8:=Lib.hid (HA.out.later hb);obtain ⟨a0,a1,a2,a3,a4⟩:=HA8.out.vp.cells;clear hs hb)
     |(go_at_call 18;(with_reducible refine (HMi.out _ _ _ HA8.out.vp.in_ HT.out).mono ?_);rintro e w9 ⟨v9,rfl,ho,hb⟩;have HA9:=Lib.hid (HA8.out.later hb);have HB9:Hid (Below wr.heap.size wr w9):=Lib.hid (HB8.out.trans (hb.mono HB8.out.size));obtain ⟨AF,cF,rfl, -, -,hrF⟩:=ho.in_;obtain ⟨bf,of,rfl, -,f0,f1, -⟩:=FoRow.cons hrF;obtain ⟨y0,y1⟩:=HCX.out w9 HB9.out;clear ho hb hrF a0 a1 a2 a3 a4))
    go_quiet (fail)
    go_wp2
    go_roundw
    case rel=>exact ⟨i+1,HIL.out,rfl,by rw [HSC.out];rfl,HA9.out.later (drewn_below _ _)⟩
    case measure=>simp [intOf];omega
  ·have hiN:i=N:=by omega
   subst hiN
   have hll:(tabF i g).length=X.length:=by rw [HX.out,HN.out]
   rw [hll]
   have HA:=Lib.hid hat
   have HLV:=Lib.hid law13_lives
   clear hat hll
   go_wp2_with (go_at_call 21;(with_reducible refine (HLV.out _).mono ?_);rintro e wn ⟨rfl,hb⟩;have HA:=Lib.hid (HA.out.later hb);clear hb)
   go_ret
   exact ⟨rfl,HA.out.bel⟩
end Go.Proofs.YtldcadpemnpbmaaGreatDoor
