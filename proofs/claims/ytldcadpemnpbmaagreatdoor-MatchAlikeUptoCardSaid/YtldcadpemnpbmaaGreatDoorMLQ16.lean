import Derived.Test.YtldcadpemnpbmaaGreatDoorMLQ15
import Derived.Test.YtldcadpemnpbmaaGreatDoorMLQ14
import Derived.Shelf.AbstractIn
import Derived.Shelf.SlSorted.Search
import Derived.Test.YtldcadpemnpbmaaGreatDoorMLQ04
import Derived.BigCall
import Derived.BigQuiet
import Derived.Deep.QuietTactic
set_option linter.unusedVariables false
namespace Go.Proofs.YtldcadpemnpbmaaGreatDoor
open Go Go.RowKit
attribute [local go_sem] Oper.semAt_some
def encPr (p:Pr):Array Value:=#[prV p]
def PairsRel (b:Nat) (l r:List Fo) (W0:World) (J:List Pr→World→Prop) (sa sb:Value) (wr:World):Prop:=
 ∃ (a' b':List Fo) (pre:List Pr),InFoB wr b sa a'∧InFoB wr b sb b'∧pairsF l r=pre++pairsF a' b'∧(FewF a'∧FewF b')∧J pre wr∧Below b W0 wr
theorem PairsRel.step {b:Nat} {l r:List Fo} {W0 W':World} {J:List Pr→World→Prop} {a' b':List Fo} {pre:List Pr} {va vb:Value} (hne:¬ (a'=[]∧b'=[])) (hp:pairsF l r=pre++pairsF a' b') (hf:FewF a'∧FewF b')
  (ha:InFoB W' b va (restF a' b')) (hb:InFoB W' b vb (restF b' a')) (hJ:J (pre++[headF a' b']) W') (hW:Below b W0 W'):PairsRel b l r W0 J va vb W':=
 ⟨_,_,_,ha,hb,by rw [hp,pairs_step hne,List.append_assoc];rfl,⟨hf.1.rest,hf.2.rest⟩,hJ,hW⟩
theorem cellsF4 {w:World} {b:Nat} {x y z u:Value} {t:TypeId} (h:w.heap[b]?=some (.cells #[x,y,z,u] t (0,0))):
  (w.cell? ⟨b,0,none⟩=some x∧w.cell? ⟨b,1,none⟩=some y∧w.cell? ⟨b,2,none⟩=some z∧w.cell? ⟨b,3,none⟩=some u)∧(w.frozen? ⟨b,0,none⟩=false∧w.frozen? ⟨b,1,none⟩=false):=by
 simp [World.cell?,World.frozen?,h]
theorem ahead_true {a b:List Fo} (h:aheadF a b=true):∃ x l,a=x::l:=by
 rcases a with _|⟨x,l⟩
 ·cases h
 ·exact ⟨x,l,rfl⟩
theorem ahead_one {a b:List Fo} (h:¬ (a=[]∧b=[])):(aheadF a b || aheadF b a)=true:=by
 rcases a with _|⟨x,a⟩
 ·rcases b with _|⟨y,b⟩
  ·exact absurd ⟨rfl,rfl⟩ h
  ·rfl
 ·rcases b with _|⟨y,b⟩
  ·rfl
  ·simp only [aheadF,Bool.or_eq_true,decide_eq_true_eq]
   omega
theorem set_atF {w:World} {b k:Nat} {cs:Array Value} {t:TypeId} {v:Value} (h:w.heap[b]?=some (.cells cs t (0,0))):(w.setCell ⟨b,k,none⟩ v).heap[b]?=some (.cells (cs.setIfInBounds k v) t (0,0)):=by
 have hlt:=lt_of_block h
 have h':w.heap[b]= .cells cs t (0,0):=by simpa [Array.getElem?_eq_getElem hlt] using h
 show (w.heap.modify b _)[b]?=_
 rw [Array.getElem?_eq_getElem (by simpa using hlt),Array.getElem_modify_self,h']
 rfl
theorem pair_set {w:World} {P:Nat} {x y z u p q:Value} {t:TypeId} (h:w.heap[P]?=some (.cells #[x,y,z,u] t (0,0))):(((w.setCell ⟨P,0,none⟩ p).setCell ⟨P,1,none⟩ q).drew).heap[P]?=some (.cells #[p,q,z,u] t (0,0)):=by
 show ((w.setCell ⟨P,0,none⟩ p).setCell ⟨P,1,none⟩ q).heap[P]?=_
 rw [set_atF (set_atF h)]
 rfl
theorem pair_below {w wr:World} {P B:Nat} {p q:Value} (h:Below B w wr) (hb:B≤P):Below B w ((wr.setCell ⟨P,0,none⟩ p).setCell ⟨P,1,none⟩ q).drew:=((h.setCell hb _).setCell hb _).trans (Below.refl _ _).drew
theorem head_tf {x:Fo} {a b:List Fo} (h1:aheadF (x::a) b=true) (h2:aheadF b (x::a)=false):headF (x::a) b=(x,true,false):=by
 unfold headF
 rw [h1,h2]
 rcases b with _|⟨y,b⟩
 ·rfl
 ·have h3:¬ y.1≤x.1:=by simpa [aheadF] using h2
  simp [topF,show x.1<y.1 by omega]
theorem head_tt {x y:Fo} {a b:List Fo} (h1:aheadF (x::a) (y::b)=true) (h2:aheadF (y::b) (x::a)=true):headF (x::a) (y::b)=((y.1,x.2+y.2),true,true):=by
 unfold headF
 rw [h1,h2]
 have h3:x.1≤y.1:=by simpa [aheadF] using h1
 have h4:y.1≤x.1:=by simpa [aheadF] using h2
 simp [topF,show ¬ x.1<y.1 by omega,h3]
theorem head_ft {y:Fo} {a b:List Fo} (h1:aheadF a (y::b)=false) (h2:aheadF (y::b) a=true):headF a (y::b)=((y.1,y.2),false,true):=by
 unfold headF
 rw [h1,h2]
 rcases a with _|⟨x,a⟩
 ·simp [topF]
 ·have h3:¬ x.1≤y.1:=by simpa [aheadF] using h1
  have h4:y.1≤x.1:=by simpa [aheadF] using h2
  simp [topF,show ¬ x.1<y.1 by omega,h3]
theorem rest_t {x:Fo} {a b:List Fo} (h:aheadF (x::a) b=true):restF (x::a) b=a:=by unfold restF;rw [if_pos h];rfl
theorem rest_f {a b:List Fo} (h:aheadF a b=false):restF a b=a:=by unfold restF;rw [if_neg (by rw [h];decide)]
theorem heads_lt {a b:List Fo} (h:¬ (a=[]∧b=[])) {l r:List Fo} {pre:List Pr} (hp:pairsF l r=pre++pairsF a b):pre.length<(pairsF l r).length:=by
 rw [hp,pairs_step h,List.length_append,List.length_cons]
 omega
set_option maxHeartbeats 16000000 in
set_option maxRecDepth 100000 in
theorem pairs_told (m b D1 D2:Nat) (l r:List Fo) (vl vr:Value) (w:World) (hm:1≤m) (hb:b≤w.heap.size) (hl:InFoB w b vl l) (hr:InFoB w b vr r) (h1:w.heap[D1]?=some (.cells #[vl] 46 (0,0))) (h2:w.heap[D2]?=some (.cells #[vr] 46 (0,0))) (hfl:FewF l) (hfr:FewF r):
  Told m Tryz.prog 239 #[.pointer (some ⟨D1,0,none⟩),.pointer (some ⟨D2,0,none⟩)] encPr (Below b) (fun pre x W=>pre.length<(pairsF l r).length) (fun xs=>xs=pairsF l r) w:=by
 intro lp J W hW hJ hY h0
 have e1:=(hW.block D1 (lt_of_block h1)).trans h1
 have e2:=(hW.block D2 (lt_of_block h2)).trans h2
 have c1:=cell_of_one e1
 have c2:=cell_of_one e2
 have hbW:b≤W.heap.size:=Nat.le_trans hb hW.size
 have HREL:Hid (PairsRel b l r W.drew J vl vr W.drew):=Lib.hid ⟨l,r,[],(hl.below (hW.mono hb)).below (Below.refl _ _).drew,(hr.below (hW.mono hb)).below (Below.refl _ _).drew,rfl,⟨hfl,hfr⟩,hJ _ _ _ h0 (Below.refl _ _).drew,Below.refl _ _⟩
 have HJ:=Lib.hid hJ
 have HY:=Lib.hid hY
 have HBW:=Lib.hid hbW
 clear hJ hY h0 h1 h2 hW e1 e2 hl hr hfl hfr hb hbW
 refine callsIn_of_wp Tryz.func239 rfl trivial ?_ rfl
 simp only [Tryz.ntmps239,List.size_toArray,List.length_cons,List.length_nil,Nat.reduceAdd,Nat.reduceSub,Array.replicate_succ,Array.replicate_zero,List.push_toArray,List.append_toArray,List.nil_append,List.cons_append]
 gi_wp2
 gi_region
 gi_wp2
 gi_loopw [4,5] (PairsRel b l r W.drew J) (fun s4 s5 _=>lenF s4+lenF s5)
 case atStart=>exact HREL.out
 case round=>
  obtain ⟨a',b',pre,hia,hib,hp,hf,hj,hbw⟩:=hrel
  by_cases hend:a'=[]∧b'=[]
  ·obtain ⟨rfl,rfl⟩:=hend
   obtain ⟨A,c,rfl, -, -, -⟩:=hia
   obtain ⟨A2,c2,rfl, -, -, -⟩:=hib
   rw [pairs_nil,List.append_nil] at hp
   rw [← hp] at hj
   simp only [List.length_nil]
   have HJ0:=Lib.hid hj
   clear hj hp hf hbw
   gi_wp2
   go_end0
   exact ⟨⟨_,rfl⟩,_,rfl,HJ0.out⟩
  ·have hsz:=hbw.size
   have hia2:=hia
   have hib2:=hib
   obtain ⟨A,c,rfl,hac,hcm,hra⟩:=hia
   obtain ⟨A2,c2,rfl,hbc,hcm2,hrb⟩:=hib
   have hbr:b≤wr.heap.size:=by have :=HBW.out;have :W.drew.heap.size=W.heap.size:=rfl;omega
   have HA1:Hid (∀ w2,Below wr.heap.size wr w2→Calls Tryz.prog 240 #[.slice A a'.length c,.slice A2 b'.length c2] w2 fun e w'=>e= .returned (.bool (aheadF a' b'))∧Below w2.heap.size w2 w'):=Lib.hid fun w2 h2=>match_ahead _ _ a' b' w2 ((hia2.below (h2.mono hbr)).in_ (Nat.le_trans hbr h2.size)) ((hib2.below (h2.mono hbr)).in_ (Nat.le_trans hbr h2.size))
   have HA2:Hid (∀ w2,Below wr.heap.size wr w2→Calls Tryz.prog 240 #[.slice A2 b'.length c2,.slice A a'.length c] w2 fun e w'=>e= .returned (.bool (aheadF b' a'))∧Below w2.heap.size w2 w'):=Lib.hid fun w2 h2=>match_ahead _ _ b' a' w2 ((hib2.below (h2.mono hbr)).in_ (Nat.le_trans hbr h2.size)) ((hia2.below (h2.mono hbr)).in_ (Nat.le_trans hbr h2.size))
   clear hia2 hib2
   obtain ⟨n,hn⟩:∃ n,n=a'.length:=⟨_,rfl⟩
   obtain ⟨k,hk⟩:∃ k,k=b'.length:=⟨_,rfl⟩
   rw [← hn] at HA1 HA2 hac
   rw [← hk] at HA1 HA2 hbc
   rw [← hn,← hk]
   have hpos:0<n∨0<k:=by
    rcases Nat.eq_zero_or_pos n with h1|h1
    ·rcases Nat.eq_zero_or_pos k with h2|h2
     ·exact absurd ⟨List.eq_nil_of_length_eq_zero (by omega),List.eq_nil_of_length_eq_zero (by omega)⟩ hend
     ·exact .inr h2
    ·exact .inl h1
   obtain ⟨L,hL⟩:∃ L,L=aheadF a' b':=⟨_,rfl⟩
   obtain ⟨R,hR⟩:∃ R,R=aheadF b' a':=⟨_,rfl⟩
   rw [← hL] at HA1
   rw [← hR] at HA2
   have HN:=Lib.hid hn
   have HK:=Lib.hid hk
   have HL:=Lib.hid hL
   have HR:=Lib.hid hR
   have HRA:=Lib.hid hra
   have HRB:=Lib.hid hrb
   have HP:=Lib.hid hp
   have HF:=Lib.hid hf
   have HJ0:=Lib.hid hj
   have HE:=Lib.hid hend
   have HW0:=Lib.hid hbw
   have HCM:=Lib.hid hcm
   have HCM2:=Lib.hid hcm2
   clear hn hk hL hR hra hrb hp hf hj hend hbw hcm hcm2
   clear hpos
   have hlr:(L || R)=true:=by rw [HL.out,HR.out];exact ahead_one HE.out
   cases L with
   |true=>
    cases R with
    |false=>
     obtain ⟨x,a1,hxa⟩:=ahead_true HL.out.symm
     subst hxa
     have hn0:0<n:=by rw [HN.out];simp
     have d0:decide ((n:Int)>0)=true:=decide_eq_true (by omega)
     have d0':decide ((0:Int)<(n:Int))=true:=decide_eq_true (by omega)
     have hn1:(1:Int)≤n:=by omega
     obtain ⟨b1,o1,rfl,hb1,g0,g1⟩:=fo_head HRA.out
     obtain ⟨xd,hxd⟩:∃ xd:Int,xd=(x.1:Int):=⟨_,rfl⟩
     obtain ⟨xs,hxs⟩:∃ xs:Int,xs=x.2:=⟨_,rfl⟩
     rw [← hxd] at g0
     rw [← hxs] at g1
     have hxb: -1152921504606846976≤xs∧xs≤1152921504606846976:=by rw [hxs];exact HF.out.1.2 x (List.mem_cons_self ..)
     obtain ⟨hxb1,hxb2⟩:=hxb
     have HXD:=Lib.hid hxd
     have HXS:=Lib.hid hxs
     clear hxd hxs
     obtain ⟨AN,hAN⟩:∃ AN:Addr,(if c=1 then some (⟨b1,o1,none⟩:Addr) else some ⟨b1,o1+2,none⟩)=some AN:=by split<;>exact ⟨_,rfl⟩
     gi_wp2_with (first
      |(gi_at_call 240;(with_reducible refine (callsIn_wide.2 (HA1.out wr (Below.refl _ _))).mono ?_);rintro e w2 ⟨rfl,hb2⟩)
      |(refine ⟨trivial,?_⟩;gi_at_call 240;(with_reducible refine (callsIn_wide.2 (HA1.out wr (Below.refl _ _))).mono ?_);rintro e w2 ⟨rfl,hb2⟩)
      |(gi_at_call 240;(with_reducible refine (callsIn_wide.2 (HA2.out w2 hb2)).mono ?_);rintro e w3 ⟨rfl,hb3⟩)
      |(refine ⟨trivial,?_⟩;gi_at_call 240;(with_reducible refine (callsIn_wide.2 (HA2.out w2 hb2)).mono ?_);rintro e w3 ⟨rfl,hb3⟩))
     obtain ⟨P,hP⟩:∃ P,P=w3.heap.size:=⟨_,rfl⟩
     obtain ⟨w4,hw4⟩:∃ w4,w4=w3.alloc (.cells #[.int .i64 0,.int .i64 0,.bool true,.bool false] 181):=⟨_,rfl⟩
     rw [← hw4,← hP]
     have hblk:w4.heap[P]?=some (.cells #[.int .i64 0,.int .i64 0,.bool true,.bool false] 181 (0,0)):=by rw [hw4,hP];exact heap_alloc_new w3 _
     have hb23:Below wr.heap.size wr w3:=hb2.trans (hb3.mono hb2.size)
     have hb4:Below wr.heap.size wr w4:=by rw [hw4];exact hb23.alloc hb23.size _
     have hPw:wr.heap.size≤P:=by rw [hP];exact hb23.size
     obtain ⟨⟨p0,p1,p2,p3⟩,f0,f1⟩:=cellsF4 hblk
     have HB4:=Lib.hid hb4
     have HBLK:=Lib.hid hblk
     clear hb2 hb3 hb23 hw4 hP hblk hb4
     have q0:=(HB4.out.cell (p:=⟨b1,o1,none⟩) (by show b1<_;omega)).trans g0
     have q1:=(HB4.out.cell (p:=⟨b1,o1+1,none⟩) (by show b1<_;omega)).trans g1
     obtain ⟨W5,hW5⟩:∃ W5,W5=((w4.setCell ⟨P,0,none⟩ (.int .i64 xd)).setCell ⟨P,1,none⟩ (.int .i64 xs)).drew:=⟨_,rfl⟩
     have HHD:Hid (headF (x::a1) b'=((x.1,x.2),true,false)):=Lib.hid (head_tf HL.out.symm HR.out.symm)
     have HB5:Hid (Below wr.heap.size wr W5):=Lib.hid (by rw [hW5];exact pair_below HB4.out hPw)
     have HW5:=Lib.hid hW5
     clear hW5
     have hyy:=HY.out pre (headF (x::a1) b') W5 (HJ.out _ _ _ HJ0.out HB5.out) (heads_lt HE.out HP.out)
     rw [HHD.out,show encPr ((x.1,x.2),true,false)=#[.agg #[.int .i64 xd,.int .i64 xs,.bool true,.bool false]] by unfold encPr prV;simp only;rw [← HXD.out,← HXS.out]] at hyy
     obtain ⟨fn,tmps,assign,body,hy,hR⟩:=hyy
     rw [HW5.out] at hy
     gi_wp2
     gi_region
     gi_wp2
     rw [← HW5.out]
     refine hR.mono ?_
     rintro e W6 ⟨rfl,hJ6,hk6⟩
     have hbt:Below b wr W6:=(HB5.out.mono hbr).trans hk6
     have hrel6:PairsRel b l r W.drew J (.slice (some AN) (n-1) (c-1)) (.slice A2 k c2) W6:=by
      refine PairsRel.step HE.out HP.out HF.out ?_ ?_ (by rw [HHD.out];exact hJ6) (HW0.out.trans hbt)
      ·rw [rest_t HL.out.symm]
       exact ⟨_,_,by rw [HN.out,List.length_cons,Nat.add_sub_cancel],by have :=HN.out;rw [List.length_cons] at this;omega,by have :=HCM.out;omega,(fo_next HRA.out (by have :=HN.out;rw [List.length_cons] at this;omega) hAN).below hbt⟩
      ·rw [rest_f HR.out.symm]
       exact ⟨_,_,by rw [← HK.out],by rw [← HK.out];exact hbc,by have :=HCM2.out;omega,(HRB.out).below hbt⟩
     have HREL6:=Lib.hid hrel6
     clear hrel6 hJ6 hk6 hbt hy hR
     gi_wp2
     go_roundw
     case rel=>exact HREL6.out
     case measure=>simp [lenF];omega
    |true=>
     obtain ⟨x,a1,hxa⟩:=ahead_true HL.out.symm
     subst hxa
     have hn0:0<n:=by rw [HN.out];simp
     have d0:decide ((n:Int)>0)=true:=decide_eq_true (by omega)
     have d0':decide ((0:Int)<(n:Int))=true:=decide_eq_true (by omega)
     have hn1:(1:Int)≤n:=by omega
     obtain ⟨b1,o1,rfl,hb1,g0,g1⟩:=fo_head HRA.out
     obtain ⟨xd,hxd⟩:∃ xd:Int,xd=(x.1:Int):=⟨_,rfl⟩
     obtain ⟨xs,hxs⟩:∃ xs:Int,xs=x.2:=⟨_,rfl⟩
     rw [← hxd] at g0
     rw [← hxs] at g1
     have hxb: -1152921504606846976≤xs∧xs≤1152921504606846976:=by rw [hxs];exact HF.out.1.2 x (List.mem_cons_self ..)
     obtain ⟨hxb1,hxb2⟩:=hxb
     have HXD:=Lib.hid hxd
     have HXS:=Lib.hid hxs
     clear hxd hxs
     obtain ⟨AN,hAN⟩:∃ AN:Addr,(if c=1 then some (⟨b1,o1,none⟩:Addr) else some ⟨b1,o1+2,none⟩)=some AN:=by split<;>exact ⟨_,rfl⟩
     obtain ⟨y,b1',hyb⟩:=ahead_true HR.out.symm
     subst hyb
     have hk0:0<k:=by rw [HK.out];simp
     have hk1:(1:Int)≤k:=by omega
     obtain ⟨b2,o2,rfl,hb2',k0,k1⟩:=fo_head HRB.out
     obtain ⟨yd,hyd⟩:∃ yd:Int,yd=(y.1:Int):=⟨_,rfl⟩
     obtain ⟨ys,hys⟩:∃ ys:Int,ys=y.2:=⟨_,rfl⟩
     rw [← hyd] at k0
     rw [← hys] at k1
     have hyb: -1152921504606846976≤ys∧ys≤1152921504606846976:=by rw [hys];exact HF.out.2.2 y (List.mem_cons_self ..)
     obtain ⟨hyb1,hyb2⟩:=hyb
     have HYD:=Lib.hid hyd
     have HYS:=Lib.hid hys
     clear hyd hys
     obtain ⟨BN,hBN⟩:∃ BN:Addr,(if c2=1 then some (⟨b2,o2,none⟩:Addr) else some ⟨b2,o2+2,none⟩)=some BN:=by split<;>exact ⟨_,rfl⟩
     gi_wp2_with (first
      |(gi_at_call 240;(with_reducible refine (callsIn_wide.2 (HA1.out wr (Below.refl _ _))).mono ?_);rintro e w2 ⟨rfl,hb2⟩)
      |(refine ⟨trivial,?_⟩;gi_at_call 240;(with_reducible refine (callsIn_wide.2 (HA1.out wr (Below.refl _ _))).mono ?_);rintro e w2 ⟨rfl,hb2⟩)
      |(gi_at_call 240;(with_reducible refine (callsIn_wide.2 (HA2.out w2 hb2)).mono ?_);rintro e w3 ⟨rfl,hb3⟩)
      |(refine ⟨trivial,?_⟩;gi_at_call 240;(with_reducible refine (callsIn_wide.2 (HA2.out w2 hb2)).mono ?_);rintro e w3 ⟨rfl,hb3⟩))
     obtain ⟨P,hP⟩:∃ P,P=w3.heap.size:=⟨_,rfl⟩
     obtain ⟨w4,hw4⟩:∃ w4,w4=w3.alloc (.cells #[.int .i64 0,.int .i64 0,.bool true,.bool true] 181):=⟨_,rfl⟩
     rw [← hw4,← hP]
     have hblk:w4.heap[P]?=some (.cells #[.int .i64 0,.int .i64 0,.bool true,.bool true] 181 (0,0)):=by rw [hw4,hP];exact heap_alloc_new w3 _
     have hb23:Below wr.heap.size wr w3:=hb2.trans (hb3.mono hb2.size)
     have hb4:Below wr.heap.size wr w4:=by rw [hw4];exact hb23.alloc hb23.size _
     have hPw:wr.heap.size≤P:=by rw [hP];exact hb23.size
     obtain ⟨⟨p0,p1,p2,p3⟩,f0,f1⟩:=cellsF4 hblk
     have HB4:=Lib.hid hb4
     have HBLK:=Lib.hid hblk
     clear hb2 hb3 hb23 hw4 hP hblk hb4
     have q0:=(HB4.out.cell (p:=⟨b1,o1,none⟩) (by show b1<_;omega)).trans g0
     have q1:=(HB4.out.cell (p:=⟨b1,o1+1,none⟩) (by show b1<_;omega)).trans g1
     have s0:=(HB4.out.cell (p:=⟨b2,o2,none⟩) (by show b2<_;omega)).trans k0
     have s1:=(HB4.out.cell (p:=⟨b2,o2+1,none⟩) (by show b2<_;omega)).trans k1
     gi_wp2
     gi_region
     gi_wp2
     obtain ⟨w5,hw5⟩:∃ w5,w5=((w4.setCell ⟨P,0,none⟩ (.int .i64 xd)).setCell ⟨P,1,none⟩ (.int .i64 xs)).drew:=⟨_,rfl⟩
     rw [← hw5]
     have hblk5:w5.heap[P]?=some (.cells #[.int .i64 xd,.int .i64 xs,.bool true,.bool true] 181 (0,0)):=by rw [hw5];exact pair_set HBLK.out
     have HB45:Hid (Below wr.heap.size wr w5):=Lib.hid (by rw [hw5];exact pair_below HB4.out hPw)
     clear p0 p1 p2 p3 f0 f1 s0 s1 q0 q1 hw5
     obtain ⟨⟨p0,p1,p2,p3⟩,f0,f1⟩:=cellsF4 hblk5
     have s0:=(HB45.out.cell (p:=⟨b2,o2,none⟩) (by show b2<_;omega)).trans k0
     have s1:=(HB45.out.cell (p:=⟨b2,o2+1,none⟩) (by show b2<_;omega)).trans k1
     clear hblk5
     obtain ⟨W5,hW5⟩:∃ W5,W5=((w5.setCell ⟨P,0,none⟩ (.int .i64 yd)).setCell ⟨P,1,none⟩ (.int .i64 (xs+ys))).drew:=⟨_,rfl⟩
     have HHD:Hid (headF (x::a1) (y::b1')=((y.1,x.2+y.2),true,true)):=Lib.hid (head_tt HL.out.symm HR.out.symm)
     have HB5:Hid (Below wr.heap.size wr W5):=Lib.hid (by rw [hW5];exact pair_below HB45.out hPw)
     have HW5:=Lib.hid hW5
     clear hW5
     have hyy:=HY.out pre (headF (x::a1) (y::b1')) W5 (HJ.out _ _ _ HJ0.out HB5.out) (heads_lt HE.out HP.out)
     rw [HHD.out,show encPr ((y.1,x.2+y.2),true,true)=#[.agg #[.int .i64 yd,.int .i64 (xs+ys),.bool true,.bool true]] by unfold encPr prV;simp only;rw [← HYD.out,← HXS.out,← HYS.out]] at hyy
     obtain ⟨fn,tmps,assign,body,hy,hR⟩:=hyy
     rw [HW5.out] at hy
     gi_region
     gi_wp2
     rw [← HW5.out]
     refine hR.mono ?_
     rintro e W6 ⟨rfl,hJ6,hk6⟩
     have hbt:Below b wr W6:=(HB5.out.mono hbr).trans hk6
     have hrel6:PairsRel b l r W.drew J (.slice (some AN) (n-1) (c-1)) (.slice (some BN) (k-1) (c2-1)) W6:=by
      refine PairsRel.step HE.out HP.out HF.out ?_ ?_ (by rw [HHD.out];exact hJ6) (HW0.out.trans hbt)
      ·rw [rest_t HL.out.symm]
       exact ⟨_,_,by rw [HN.out,List.length_cons,Nat.add_sub_cancel],by have :=HN.out;rw [List.length_cons] at this;omega,by have :=HCM.out;omega,(fo_next HRA.out (by have :=HN.out;rw [List.length_cons] at this;omega) hAN).below hbt⟩
      ·rw [rest_t HR.out.symm]
       exact ⟨_,_,by rw [HK.out,List.length_cons,Nat.add_sub_cancel],by have :=HK.out;rw [List.length_cons] at this;omega,by have :=HCM2.out;omega,(fo_next HRB.out (by have :=HK.out;rw [List.length_cons] at this;omega) hBN).below hbt⟩
     have HREL6:=Lib.hid hrel6
     clear hrel6 hJ6 hk6 hbt hy hR
     gi_wp2
     go_roundw
     case rel=>exact HREL6.out
     case measure=>simp [lenF];omega
   |false=>
    cases R with
    |false=>cases hlr
    |true=>
     rcases Nat.eq_zero_or_pos n with hn0|hn0
     ·
      obtain ⟨y,b1',hyb⟩:=ahead_true HR.out.symm
      subst hyb
      have hk0:0<k:=by rw [HK.out];simp
      have hk1:(1:Int)≤k:=by omega
      obtain ⟨b2,o2,rfl,hb2',k0,k1⟩:=fo_head HRB.out
      obtain ⟨yd,hyd⟩:∃ yd:Int,yd=(y.1:Int):=⟨_,rfl⟩
      obtain ⟨ys,hys⟩:∃ ys:Int,ys=y.2:=⟨_,rfl⟩
      rw [← hyd] at k0
      rw [← hys] at k1
      have hyb: -1152921504606846976≤ys∧ys≤1152921504606846976:=by rw [hys];exact HF.out.2.2 y (List.mem_cons_self ..)
      obtain ⟨hyb1,hyb2⟩:=hyb
      have HYD:=Lib.hid hyd
      have HYS:=Lib.hid hys
      clear hyd hys
      obtain ⟨BN,hBN⟩:∃ BN:Addr,(if c2=1 then some (⟨b2,o2,none⟩:Addr) else some ⟨b2,o2+2,none⟩)=some BN:=by split<;>exact ⟨_,rfl⟩
      subst hn0
      have dk:decide ((k:Int)>0)=true:=decide_eq_true (by omega)
      have dk':decide ((0:Int)<(k:Int))=true:=decide_eq_true (by omega)
      gi_wp2_with (first
       |(gi_at_call 240;(with_reducible refine (callsIn_wide.2 (HA1.out wr (Below.refl _ _))).mono ?_);rintro e w2 ⟨rfl,hb2⟩)
       |(refine ⟨trivial,?_⟩;gi_at_call 240;(with_reducible refine (callsIn_wide.2 (HA1.out wr (Below.refl _ _))).mono ?_);rintro e w2 ⟨rfl,hb2⟩)
       |(gi_at_call 240;(with_reducible refine (callsIn_wide.2 (HA2.out w2 hb2)).mono ?_);rintro e w3 ⟨rfl,hb3⟩)
       |(refine ⟨trivial,?_⟩;gi_at_call 240;(with_reducible refine (callsIn_wide.2 (HA2.out w2 hb2)).mono ?_);rintro e w3 ⟨rfl,hb3⟩))
      obtain ⟨P,hP⟩:∃ P,P=w3.heap.size:=⟨_,rfl⟩
      obtain ⟨w4,hw4⟩:∃ w4,w4=w3.alloc (.cells #[.int .i64 0,.int .i64 0,.bool false,.bool true] 181):=⟨_,rfl⟩
      rw [← hw4,← hP]
      have hblk:w4.heap[P]?=some (.cells #[.int .i64 0,.int .i64 0,.bool false,.bool true] 181 (0,0)):=by rw [hw4,hP];exact heap_alloc_new w3 _
      have hb23:Below wr.heap.size wr w3:=hb2.trans (hb3.mono hb2.size)
      have hb4:Below wr.heap.size wr w4:=by rw [hw4];exact hb23.alloc hb23.size _
      have hPw:wr.heap.size≤P:=by rw [hP];exact hb23.size
      obtain ⟨⟨p0,p1,p2,p3⟩,f0,f1⟩:=cellsF4 hblk
      have HB4:=Lib.hid hb4
      have HBLK:=Lib.hid hblk
      clear hb2 hb3 hb23 hw4 hP hblk hb4
      have s0:=(HB4.out.cell (p:=⟨b2,o2,none⟩) (by show b2<_;omega)).trans k0
      have s1:=(HB4.out.cell (p:=⟨b2,o2+1,none⟩) (by show b2<_;omega)).trans k1
      obtain ⟨W5,hW5⟩:∃ W5,W5=((w4.setCell ⟨P,0,none⟩ (.int .i64 yd)).setCell ⟨P,1,none⟩ (.int .i64 ys)).drew:=⟨_,rfl⟩
      have HHD:Hid (headF a' (y::b1')=((y.1,y.2),false,true)):=Lib.hid (head_ft HL.out.symm HR.out.symm)
      have HB5:Hid (Below wr.heap.size wr W5):=Lib.hid (by rw [hW5];exact pair_below HB4.out hPw)
      have HW5:=Lib.hid hW5
      clear hW5
      have hyy:=HY.out pre (headF a' (y::b1')) W5 (HJ.out _ _ _ HJ0.out HB5.out) (heads_lt HE.out HP.out)
      rw [HHD.out,show encPr ((y.1,y.2),false,true)=#[.agg #[.int .i64 yd,.int .i64 ys,.bool false,.bool true]] by unfold encPr prV;simp only;rw [← HYD.out,← HYS.out]] at hyy
      obtain ⟨fn,tmps,assign,body,hy,hR⟩:=hyy
      rw [HW5.out] at hy
      gi_wp2
      gi_region
      gi_wp2
      rw [← HW5.out]
      refine hR.mono ?_
      rintro e W6 ⟨rfl,hJ6,hk6⟩
      have hbt:Below b wr W6:=(HB5.out.mono hbr).trans hk6
      have hrel6:PairsRel b l r W.drew J (.slice A 0 c) (.slice (some BN) (k-1) (c2-1)) W6:=by
       refine PairsRel.step HE.out HP.out HF.out ?_ ?_ (by rw [HHD.out];exact hJ6) (HW0.out.trans hbt)
       ·rw [rest_f HL.out.symm]
        exact ⟨_,_,by rw [← HN.out],by rw [← HN.out];exact hac,by have :=HCM.out;omega,(HRA.out).below hbt⟩
       ·rw [rest_t HR.out.symm]
        exact ⟨_,_,by rw [HK.out,List.length_cons,Nat.add_sub_cancel],by have :=HK.out;rw [List.length_cons] at this;omega,by have :=HCM2.out;omega,(fo_next HRB.out (by have :=HK.out;rw [List.length_cons] at this;omega) hBN).below hbt⟩
      have HREL6:=Lib.hid hrel6
      clear hrel6 hJ6 hk6 hbt hy hR
      gi_wp2
      go_roundw
      case rel=>exact HREL6.out
      case measure=>simp [lenF];omega
     ·
      obtain ⟨y,b1',hyb⟩:=ahead_true HR.out.symm
      subst hyb
      have hk0:0<k:=by rw [HK.out];simp
      have hk1:(1:Int)≤k:=by omega
      obtain ⟨b2,o2,rfl,hb2',k0,k1⟩:=fo_head HRB.out
      obtain ⟨yd,hyd⟩:∃ yd:Int,yd=(y.1:Int):=⟨_,rfl⟩
      obtain ⟨ys,hys⟩:∃ ys:Int,ys=y.2:=⟨_,rfl⟩
      rw [← hyd] at k0
      rw [← hys] at k1
      have hyb: -1152921504606846976≤ys∧ys≤1152921504606846976:=by rw [hys];exact HF.out.2.2 y (List.mem_cons_self ..)
      obtain ⟨hyb1,hyb2⟩:=hyb
      have HYD:=Lib.hid hyd
      have HYS:=Lib.hid hys
      clear hyd hys
      obtain ⟨BN,hBN⟩:∃ BN:Addr,(if c2=1 then some (⟨b2,o2,none⟩:Addr) else some ⟨b2,o2+2,none⟩)=some BN:=by split<;>exact ⟨_,rfl⟩
      have d0:decide ((n:Int)>0)=true:=decide_eq_true (by omega)
      have d0':decide ((0:Int)<(n:Int))=true:=decide_eq_true (by omega)
      gi_wp2_with (first
       |(gi_at_call 240;(with_reducible refine (callsIn_wide.2 (HA1.out wr (Below.refl _ _))).mono ?_);rintro e w2 ⟨rfl,hb2⟩)
       |(refine ⟨trivial,?_⟩;gi_at_call 240;(with_reducible refine (callsIn_wide.2 (HA1.out wr (Below.refl _ _))).mono ?_);rintro e w2 ⟨rfl,hb2⟩)
       |(gi_at_call 240;(with_reducible refine (callsIn_wide.2 (HA2.out w2 hb2)).mono ?_);rintro e w3 ⟨rfl,hb3⟩)
       |(refine ⟨trivial,?_⟩;gi_at_call 240;(with_reducible refine (callsIn_wide.2 (HA2.out w2 hb2)).mono ?_);rintro e w3 ⟨rfl,hb3⟩))
      obtain ⟨P,hP⟩:∃ P,P=w3.heap.size:=⟨_,rfl⟩
      obtain ⟨w4,hw4⟩:∃ w4,w4=w3.alloc (.cells #[.int .i64 0,.int .i64 0,.bool false,.bool true] 181):=⟨_,rfl⟩
      rw [← hw4,← hP]
      have hblk:w4.heap[P]?=some (.cells #[.int .i64 0,.int .i64 0,.bool false,.bool true] 181 (0,0)):=by rw [hw4,hP];exact heap_alloc_new w3 _
      have hb23:Below wr.heap.size wr w3:=hb2.trans (hb3.mono hb2.size)
      have hb4:Below wr.heap.size wr w4:=by rw [hw4];exact hb23.alloc hb23.size _
      have hPw:wr.heap.size≤P:=by rw [hP];exact hb23.size
      obtain ⟨⟨p0,p1,p2,p3⟩,f0,f1⟩:=cellsF4 hblk
      have HB4:=Lib.hid hb4
      have HBLK:=Lib.hid hblk
      clear hb2 hb3 hb23 hw4 hP hblk hb4
      have s0:=(HB4.out.cell (p:=⟨b2,o2,none⟩) (by show b2<_;omega)).trans k0
      have s1:=(HB4.out.cell (p:=⟨b2,o2+1,none⟩) (by show b2<_;omega)).trans k1
      obtain ⟨W5,hW5⟩:∃ W5,W5=((w4.setCell ⟨P,0,none⟩ (.int .i64 yd)).setCell ⟨P,1,none⟩ (.int .i64 ys)).drew:=⟨_,rfl⟩
      have HHD:Hid (headF a' (y::b1')=((y.1,y.2),false,true)):=Lib.hid (head_ft HL.out.symm HR.out.symm)
      have HB5:Hid (Below wr.heap.size wr W5):=Lib.hid (by rw [hW5];exact pair_below HB4.out hPw)
      have HW5:=Lib.hid hW5
      clear hW5
      have hyy:=HY.out pre (headF a' (y::b1')) W5 (HJ.out _ _ _ HJ0.out HB5.out) (heads_lt HE.out HP.out)
      rw [HHD.out,show encPr ((y.1,y.2),false,true)=#[.agg #[.int .i64 yd,.int .i64 ys,.bool false,.bool true]] by unfold encPr prV;simp only;rw [← HYD.out,← HYS.out]] at hyy
      obtain ⟨fn,tmps,assign,body,hy,hR⟩:=hyy
      rw [HW5.out] at hy
      gi_wp2
      gi_region
      gi_wp2
      rw [← HW5.out]
      refine hR.mono ?_
      rintro e W6 ⟨rfl,hJ6,hk6⟩
      have hbt:Below b wr W6:=(HB5.out.mono hbr).trans hk6
      have hrel6:PairsRel b l r W.drew J (.slice A n c) (.slice (some BN) (k-1) (c2-1)) W6:=by
       refine PairsRel.step HE.out HP.out HF.out ?_ ?_ (by rw [HHD.out];exact hJ6) (HW0.out.trans hbt)
       ·rw [rest_f HL.out.symm]
        exact ⟨_,_,by rw [← HN.out],by rw [← HN.out];exact hac,by have :=HCM.out;omega,(HRA.out).below hbt⟩
       ·rw [rest_t HR.out.symm]
        exact ⟨_,_,by rw [HK.out,List.length_cons,Nat.add_sub_cancel],by have :=HK.out;rw [List.length_cons] at this;omega,by have :=HCM2.out;omega,(fo_next HRB.out (by have :=HK.out;rw [List.length_cons] at this;omega) hBN).below hbt⟩
      have HREL6:=Lib.hid hrel6
      clear hrel6 hJ6 hk6 hbt hy hR
      gi_wp2
      go_roundw
      case rel=>exact HREL6.out
      case measure=>simp [lenF];omega
end Go.Proofs.YtldcadpemnpbmaaGreatDoor
set_option linter.unusedVariables false
namespace Go.Proofs.YtldcadpemnpbmaaGreatDoor
open Go Go.RowKit
variable {n:Nat} {P:Program}
theorem wpIn_range_told2 {α:Type} {g:Operand} {ps:Array Tmp} {assign body:Code} {Q:Exit→Act→World→Prop} {a:Act} {w:World} (h1:1≤n) {gf:Nat} {lb:Array Value} (hg:a.eval g= .func (.func gf) #[] lb)
  (eg:∀ args w,(callFunc gf args).run P w= .ok (.enter gf args) w) {encs:α→Array Value} {Kp:World→World→Prop} {Ok:List α→α→World→Prop} {S:List α→Prop} (hseq:Told (n-1) P gf lb encs Kp Ok S w)
  (hKt:∀ {A B C:World},Kp A B→Kp B C→Kp A C) (hKp:∀ (W:World) (l:Nat) (o o':Obj),w.heap.size≤l→W.heap[l]?=some o→o.isCells=false→Kp W (W.putObj l o')) (hps:∀ x,(encs x).size=ps.size)
  (I:List α→World→Prop) (hIb:∀ s A B,I s A→Below A.heap.size A B→I s B) (hIp:∀ s,Firm w.heap.size (I s)) (hOk:∀ s x,Firm w.heap.size (Ok s x)) (h0:I [] w) (a₁:α→Nat→Act) (ob:α→Obj) (hOkb:∀ s x A B,Ok s x A→Below A.heap.size A B→Ok s x B) (hKb:∀ {A B:World},w.heap.size≤A.heap.size→Below A.heap.size A B→Kp A B)
  (hassign:∀ (l:Nat) (x:α) (W:World) (K:Act→World→Prop),K (a₁ x W.heap.size) (W.alloc (ob x))→assign.wpIn (Fence.wide.inRound l) (n-1-1) P (Exit.then K (fun _ _ _=>False)) {tmps:=(ps.zip (encs x)).foldl (fun t (p,v)=>t.setIfInBounds p v) a.tmps,defers:=[]} W)
  (hbody:∀ (l:Nat) (pre:List α) (x:α) (V:Nat) (W:World),I pre W→Ok pre x W→W.heap[V]?=some (ob x)→w.heap.size≤V→body.wpIn (Fence.wide.inRound l) (n-1-1) P (ownPostK Kp I (fun _ _ _=>False) (pre++[x]) W) (a₁ x V) W)
  (hdone:∀ (D:Nat) (xs:List α) (W:World),w.heap.size≤D→S xs→I xs W→W.heap[D]?=some (.deferred (some []))→Q .normal {a with defers:={target:= .collected D,args:=#[]}::a.defers} W):
  (Code.rangeFunc g ps assign body).wpIn Fence.wide n P Q a w:=by
 refine wpIn_rangeFunc fun fn hfn=> ?_
 have enter:=run_enterLoop_outer (P:=P) (w:=w) fn a.tmps ps assign body
 obtain ⟨D,hD⟩:∃ D,D=w.heap.size:=⟨_,rfl⟩
 obtain ⟨st,hst⟩:∃ st:LoopState→Loop,st=fun s=>{state:=s,pending:=none,fn:=fn,tmps:=a.tmps,params:=ps,assign:=assign,body:=body,defers:=w.heap.size}:=⟨_,rfl⟩
 obtain ⟨V,hV⟩:∃ V,V=(w.alloc (.deferred (some []))).alloc (.loop (st .ready)):=⟨_,rfl⟩
 have enter':(Instr.enterLoop fn a.tmps ps assign body Fence.wide.round).run P w= .ok (D+1,[{target:= .collected D,args:=#[]}]) V:=by rw [hV,hst,hD];exact enter
 have bel:Below w.heap.size w V:=by rw [hV];exact ((Below.refl _ w).alloc (Nat.le_refl _) _).alloc (by simp) _
 have hdV:V.heap[D]?=some (.deferred (some [])):=by rw [hV,hD];exact (Below.heap_alloc _ _ _ (by simp)).trans (World.alloc_heap_new w _)
 have hlV:V.heap[D+1]?=some (.loop (st .ready)):=by
  have :=World.alloc_heap_new (w.alloc (.deferred (some []))) (.loop (st .ready))
  rwa [World.size_alloc,← hV,← hD] at this
 have stay:∀ (s:List α) (A B:World),(I s A∧A.heap[D+1]?=some (.loop (st .ready))∧A.heap[D]?=some (.deferred (some [])))→Below A.heap.size A B→(I s B∧B.heap[D+1]?=some (.loop (st .ready))∧B.heap[D]?=some (.deferred (some []))):=by
  rintro s A B ⟨i1,i2,i3⟩ hb
  exact ⟨hIb s A B i1 hb,(hb.block _ (Array.getElem?_eq_some_iff.1 i2).1).trans i2,(hb.block _ (Array.getElem?_eq_some_iff.1 i3).1).trans i3⟩
 have round:∀ (pre:List α) (x:α) (A:World),(I pre A∧A.heap[D+1]?=some (.loop (st .ready))∧A.heap[D]?=some (.deferred (some [])))→Ok pre x A→
   YieldAt Fence.wide (n-1-1) P (D+1) (encs x) A fun e B=>e= .returned (.bool true)∧(I (pre++[x]) B∧B.heap[D+1]?=some (.loop (st .ready))∧B.heap[D]?=some (.deferred (some [])))∧Kp A B:=by
  rintro pre x A ⟨i1,i2,i3⟩ hx
  have hl:D+1<A.heap.size:=(Array.getElem?_eq_some_iff.1 i2).1
  have y:=run_yield (P:=P) (args:=encs x) i2 (by rw [hst];exact hps x)
  obtain ⟨A',hA'⟩:∃ A',A'=A.alloc (ob x):=⟨_,rfl⟩
  have bA:Below A.heap.size A A':=by rw [hA'];exact (Below.refl _ _).alloc (Nat.le_refl _) _
  have i2':=(bA.block (D+1) hl).trans i2
  have i3':=(bA.block D (by omega)).trans i3
  have beg:=run_beginRound (P:=P) i2' (by rw [hst])
  rw [hst] at y
  refine ⟨fn,_,assign,body,y,roundIn_of_wpIn hfn (hassign _ x A _ ?_)⟩
  rw [← hA']
  refine ⟨_,beg,?_⟩
  obtain ⟨A1,hA1⟩:∃ A1,A1=A'.putObj (D+1) (.loop {st .ready with state:= .busy}):=⟨_,rfl⟩
  rw [← hA1]
  have hl':D+1<A'.heap.size:=Nat.lt_of_lt_of_le hl bA.size
  have l1:A1.heap[D+1]?=some (.loop {st .ready with state:= .busy}):=by rw [hA1];exact World.putObj_heap_same hl'
  have d1:A1.heap[D]?=some (.deferred (some [])):=by rw [hA1];exact (World.putObj_heap_other (by omega)).trans i3'
  have v1:A1.heap[A.heap.size]?=some (ob x):=by
   rw [hA1,World.putObj_heap_other (by omega),hA']
   exact World.alloc_heap_new A (ob x)
  have k1:Kp A A1:=by rw [hA1];exact hKt (hKb (by omega) bA) (hKp A' _ _ _ (by omega) i2' rfl)
  have b1:=hbody (D+1) pre x A.heap.size A1 (by rw [hA1];exact hIp pre A' _ _ _ (by omega) i2' rfl (hIb pre A A' i1 bA)) (by rw [hA1];exact hOk pre x A' _ _ _ (by omega) i2' rfl (hOkb pre x A A' hx bA)) v1 (by omega)
  refine wpIn_mono b1 ?_
  rintro ex a2 A2 hp
  cases ex with
  |normal=>
   obtain ⟨ko,k2,i4⟩:=hp
   have l2:=ko.same _ _ l1 rfl
   have d2:=ko.same _ _ d1 rfl
   have fin:=run_endRound (P:=P) none l2
   have hl2:D+1<A2.heap.size:=(Array.getElem?_eq_some_iff.1 l2).1
   refine ⟨_,_,fin,rfl,⟨hIp _ A2 _ _ _ (by omega) l2 rfl i4,?_,(World.putObj_heap_other (by omega)).trans d2⟩,hKt (hKt k1 k2) (hKp A2 _ _ _ (by omega) l2 rfl)⟩
   rw [World.putObj_heap_same hl2,hst]
   rfl
  |ret=>exact hp.2.elim
  |exit id=>exact hp.2.elim
  |goto t=>exact hp.2.elim
  |panic c=>exact hp.elim
  |outgrown=>exact hp.elim
 refine ⟨D+1,_,V,{target:= .fn (.func gf) lb,args:=#[.func (.yield (D+1)) #[] #[]]},V,gf,#[.func (.yield (D+1)) #[] #[]]++lb,V,enter',?_,?_,?_,fun _=>h1,?_⟩
 ·simp only [resolve,hg]
  simp [go_sem]
 ·intro f' _
  trivial
 ·simp [invoke,go_sem,eg]
 ·refine (hseq (D+1) _ V bel stay round ⟨hIb [] w V h0 bel,hlV,hdV⟩).mono ?_
  rintro e A ⟨⟨v,rfl⟩,xs,hS,i1,i2,i3⟩
  have fin:=run_endLoop (P:=P) i2 (by rw [hst];simp)
  rw [hst] at fin
  refine ⟨none,_,fin,hdone D xs _ (by omega) hS (hIp xs A _ _ _ (by omega) i2 rfl i1) ((World.putObj_heap_other (by omega)).trans i3)⟩
end Go.Proofs.YtldcadpemnpbmaaGreatDoor
set_option linter.unusedVariables false
namespace Go.Proofs.YtldcadpemnpbmaaGreatDoor
open Go Go.RowKit
attribute [local go_sem] Oper.semAt_some
theorem match_pairs (A A2:Option Addr) (n c n2 c2:Nat) (w:World):
  Calls Tryz.prog 191 #[.slice A n c,.slice A2 n2 c2] w fun e w'=>e= .returned (.func (.func 239) #[] #[.pointer (some ⟨w.heap.size,0,none⟩),.pointer (some ⟨w.heap.size+1,0,none⟩)])∧
   w'.heap[w.heap.size]?=some (.cells #[.slice A n c] 46 (0,0))∧w'.heap[w.heap.size+1]?=some (.cells #[.slice A2 n2 c2] 46 (0,0))∧Below w.heap.size w w'∧w'.heap.size=w.heap.size+2:=by
 go_enter Tryz.func191,Tryz.ntmps191
 go_wp2
 go_ret
 have h1:=heap_alloc_new (w.alloc (.cells #[.slice A n c] 46)) (.cells #[.slice A2 n2 c2] 46)
 rw [World.size_alloc] at h1
 refine ⟨rfl,?_,h1,((Below.refl _ w).alloc (Nat.le_refl _) _).alloc (by simp) _,by simp⟩
 exact (Below.heap_alloc _ _ _ (by simp)).trans (heap_alloc_new w _)
abbrev FoVar (base B:Nat) (l:List Fo):World→Prop:=VarOf 46 53 2 base B l.length (foC l)
def KeptI (f:Bool→Bool→Bool) (K:Nat) (w:World) (pre:List Pr) (W:World):Prop:=
 FoVar w.heap.size (w.heap.size+1) (keptL f pre) W∧W.heap[w.heap.size]?=some (.cells #[.func (.func K) #[] #[]] 182 (0,0))∧Below w.heap.size w W
theorem KeptI.firm {f:Bool→Bool→Bool} {K:Nat} {w:World} {N:Nat} (hN:w.heap.size<N) (s:List Pr):Firm N (KeptI f K w s):=(Firm.varOf N).and ((Firm.block hN _).and (Firm.belowW (by omega)))
theorem KeptI.later {f:Bool→Bool→Bool} {K:Nat} {w A B:World} {s:List Pr} (h:KeptI f K w s A) (hb:Below A.heap.size A B):KeptI f K w s B:=⟨h.1.below hb,(hb.block _ (lt_of_block h.2.1)).trans h.2.1,h.2.2.trans (hb.mono h.2.2.size)⟩
theorem keptL_snoc (f:Bool→Bool→Bool) (pre:List Pr) (x:Pr):keptL f (pre++[x])=keptL f pre++(if f x.2.1 x.2.2=true then [x.1] else []):=by rw [keptL_append,keptL_one]
set_option maxHeartbeats 8000000 in
set_option maxRecDepth 100000 in
theorem match_kept (K:Nat) (f:Bool→Bool→Bool) (hK:Keeps K f) (va vb:Value) (a b:List Fo) (w:World) (ha:InFo w va a) (hb:InFo w vb b) (hfa:FewF a) (hfb:FewF b):
  Calls Tryz.prog 118 #[va,vb,.func (.func K) #[] #[]] w (GaveFo (keptF f a b) w):=by
 obtain ⟨i0,hi0,hz0,hz1,hz2⟩:=info_parts info_found
 refine (callsIn_wide (n:=6)).1 ?_
 obtain ⟨eK,hK⟩:=hK
 have hlen:(pairsF a b).length≤2147483648:=Nat.le_trans (pairs_length _ a b (Nat.le_refl _)) (by have :=hfa.1;have :=hfb.1;omega)
 obtain ⟨w1,hw1⟩:∃ w1,w1=(w.alloc (.cells #[.func (.func K) #[] #[]] 182)).alloc (.cells #[.slice none 0 0] 46):=⟨_,rfl⟩
 have hb1:Below w.heap.size w w1:=by rw [hw1];exact ((Below.refl _ w).alloc (Nat.le_refl _) _).alloc (by simp) _
 have hz1':w1.heap.size=w.heap.size+2:=by rw [hw1];simp
 have hk1:w1.heap[w.heap.size]?=some (.cells #[.func (.func K) #[] #[]] 182 (0,0)):=by rw [hw1];exact (Below.heap_alloc _ _ _ (by simp)).trans (heap_alloc_new w _)
 have hl1:w1.heap[w.heap.size+1]?=some (.cells #[.slice none 0 0] 46 (0,0)):=by rw [hw1];exact heap_alloc2_new _ _ _
 have HTOLD:Hid (∀ w2,Below w1.heap.size w1 w2→w2.heap[w.heap.size+2]?=some (.cells #[va] 46 (0,0))→w2.heap[w.heap.size+3]?=some (.cells #[vb] 46 (0,0))→
   Told 5 Tryz.prog 239 #[.pointer (some ⟨w.heap.size+2,0,none⟩),.pointer (some ⟨w.heap.size+3,0,none⟩)] encPr (Below w.heap.size) (fun pre x W=>pre.length<(pairsF a b).length) (fun xs=>xs=pairsF a b) w2):=Lib.hid fun w2 h2 e1 e2=>
  pairs_told 5 w.heap.size _ _ a b va vb w2 (by omega) (Nat.le_trans hb1.size h2.size) (ha.b.below (hb1.trans (h2.mono hb1.size))) (hb.b.below (hb1.trans (h2.mono hb1.size))) e1 e2 hfa hfb
 have hva:=ha
 have hvb:=hb
 obtain ⟨A,c,rfl, -, -, -⟩:=hva
 obtain ⟨A2,c2,rfl, -, -, -⟩:=hvb
 obtain ⟨n,hn⟩:∃ n,n=a.length:=⟨_,rfl⟩
 obtain ⟨n2,hn2⟩:∃ n2,n2=b.length:=⟨_,rfl⟩
 rw [← hn,← hn2] at HTOLD
 rw [← hn,← hn2]
 have HPR:=Lib.hid (match_pairs A A2 n c n2 c2 w1)
 have HI1:Hid (KeptI f K w [] w1):=Lib.hid ⟨⟨_,hl1,World.ownsRow_nil _ _ _ _⟩,hk1,hb1⟩
 have HW1:=Lib.hid hw1
 have HZ1:=Lib.hid hz1'
 clear ha hb hfa hfb hn hn2 hw1 hb1 hz1' hk1 hl1
 refine callsIn_of_wp_marks Tryz.func118 rfl trivial ?_ rfl
 simp only [Tryz.ntmps118,List.size_toArray,List.length_cons,List.length_nil,Nat.reduceAdd,Nat.reduceSub,Array.replicate_succ,Array.replicate_zero,List.push_toArray,List.append_toArray,List.nil_append,List.cons_append]
 gi_wp2_with (first
  |(refine ⟨trivial,?_⟩;rw [← HW1.out];gi_at_call 191;refine (callsIn_wide.2 HPR.out).mono ?_)
  |(rw [← HW1.out];gi_at_call 191;refine (callsIn_wide.2 HPR.out).mono ?_))
 rintro e w2 ⟨rfl,e1,e2,hb2,hz2'⟩
 rw [HZ1.out] at e1 e2 hz2' ⊢
 have HT:=Lib.hid (HTOLD.out w2 (by rw [HZ1.out];rw [HZ1.out] at hb2;exact hb2) e1 e2)
 have HI2:Hid (KeptI f K w [] w2):=Lib.hid (HI1.out.later hb2)
 have HZ2:=Lib.hid hz2'
 clear e1 e2 hb2 hz2'
 gi_wp2
 refine wpIn_range_told2 (by omega) (gf:=239) (lb:=#[.pointer (some ⟨w.heap.size+2,0,none⟩),.pointer (some ⟨w.heap.size+3,0,none⟩)]) rfl (enters_of Tryz.func239 (by kernel_rfl) rfl)
  HT.out Below.trans (fun W lp o o' hlp ho hc=>Firm.belowW (N:=w2.heap.size) (by have :=HZ2.out;omega) W lp o o' hlp ho hc (Below.refl _ _)) (fun _=>rfl)
  (KeptI f K w) (fun s A' B' h hb=>h.later hb) (fun s=>KeptI.firm (by have :=HZ2.out;omega) s) (fun s x=>Firm.pure) HI2.out
  (fun x V=>{tmps:=#[.slice A n c,.slice A2 n2 c2,.func (.func K) #[] #[],undef,undef,.pointer (some ⟨w.heap.size,0,none⟩),.slice none 0 0,.pointer (some ⟨w.heap.size+1,0,none⟩),.pointer (some ⟨V,0,none⟩),.slice A n c,.slice A2 n2 c2,
   .func (.func 239) #[] #[.pointer (some ⟨w.heap.size+2,0,none⟩),.pointer (some ⟨w.heap.size+3,0,none⟩)],prV x,undef,undef,undef,undef,undef,undef,undef,undef,undef],defers:=[]})
  (fun x=> .cells #[.int .i64 (x.1.1:Int),.int .i64 x.1.2,.bool x.2.1,.bool x.2.2] 181) (fun s x A' B' h _=>h) (fun {A' B'} h1 h=>h.mono (by have :=HZ2.out;omega)) ?assign ?body ?done
 case assign=>
  intro lp x W K' hK'
  unfold encPr prV
  gi_wp2
  exact hK'
 case body=>
  rintro lp pre ⟨⟨d,s⟩,l,r⟩ V W hI hx hV hVw
  unfold prV
  simp only at hV hx ⊢
  have hlenp:(keptL f pre).length≤2147483648:=by have :=keptL_length f pre;omega
  obtain ⟨⟨v,hv,hown⟩,hk,hbw⟩:=hI
  obtain ⟨D,hD⟩:∃ D:Int,D=(d:Int):=⟨_,rfl⟩
  rw [← hD] at hV ⊢
  have hsz:=hbw.size
  have HCALL:=Lib.hid (hK ((d,s),l,r) W)
  rw [show prV ((d,s),l,r)= .agg #[.int .i64 D,.int .i64 s,.bool l,.bool r] by rw [hD]] at HCALL
  obtain ⟨b,hb⟩:∃ b,b=f l r:=⟨_,rfl⟩
  simp only at HCALL
  rw [← hb] at HCALL
  have HSN:=Lib.hid (keptL_snoc f pre ((d,s),l,r))
  simp only at HSN
  rw [← hb] at HSN
  have HAI:Hid (∀ W',FoVar w.heap.size (w.heap.size+1) (keptL f (pre++[((d,s),l,r)])) W'→W'.heap[w.heap.size]?=some (.cells #[.func (.func K) #[] #[]] 182 (0,0))→Below w.heap.size w W'→KeptI f K w (pre++[((d,s),l,r)]) W'):=Lib.hid fun W' h1 h2 h3=>⟨h1,h2,h3⟩
  obtain ⟨L,hL⟩:∃ L,L=keptL f pre:=⟨_,rfl⟩
  rw [← hL] at HSN hown hlenp
  rw [HSN.out] at HAI
  obtain ⟨m,hm⟩:∃ m,m=L.length:=⟨_,rfl⟩
  rw [← hm] at hown hlenp
  have hown':=hown
  obtain ⟨Av,cv,rfl, -, -⟩:=owned_row hown'
  have ck:=cell_of_one hk
  have cl:=cell_of_one hv
  obtain ⟨⟨p0,p1,p2,p3⟩, -, -⟩:=cellsF4 hV
  have HV:=Lib.hid hv
  have HK:=Lib.hid hk
  have HVP:=Lib.hid hV
  have HO:=Lib.hid hown
  have HBW:=Lib.hid hbw
  have HM:=Lib.hid hm
  have HD:=Lib.hid hD
  clear hv hown hown' hbw hk hV hD hL hb hx hm
  cases b with
  |false=>
   gi_wp2_with (first
    |(gi_at_fn K;refine (CallsIn.inRound lp (callsIn_wide.2 HCALL.out)).mono ?_;rintro e W2 ⟨rfl,hb2⟩)
    |(refine ⟨trivial,?_⟩;gi_at_fn K;refine (CallsIn.inRound lp (callsIn_wide.2 HCALL.out)).mono ?_;rintro e W2 ⟨rfl,hb2⟩))
   refine ⟨⟨hb2.size,fun q o hq _=>(hb2.block q (Array.getElem?_eq_some_iff.1 hq).1).trans hq⟩,hb2.mono hsz,HAI.out _ ?_ ((hb2.block _ (lt_of_block HK.out)).trans HK.out) (HBW.out.trans (hb2.mono hsz))⟩
   have hvo:FoVar w.heap.size (w.heap.size+1) L W2:=VarOf.below ⟨_,HV.out,by rw [← HM.out];exact HO.out⟩ hb2
   simpa using hvo
  |true=>
   gi_wp2_with (first
    |(gi_at_fn K;refine (CallsIn.inRound lp (callsIn_wide.2 HCALL.out)).mono ?_;rintro e W2 ⟨rfl,hb2⟩;have HB2:=Lib.hid hb2;have cl2:=(hb2.cell (p:=⟨w.heap.size+1,0,none⟩) (lt_of_block HV.out)).trans cl;have r0:=(hb2.cell (p:=⟨V,0,none⟩) (lt_of_block HVP.out)).trans p0;have r1:=(hb2.cell (p:=⟨V,1,none⟩) (lt_of_block HVP.out)).trans p1;clear hb2)
    |(refine ⟨trivial,?_⟩;gi_at_fn K;refine (CallsIn.inRound lp (callsIn_wide.2 HCALL.out)).mono ?_;rintro e W2 ⟨rfl,hb2⟩;have HB2:=Lib.hid hb2;have cl2:=(hb2.cell (p:=⟨w.heap.size+1,0,none⟩) (lt_of_block HV.out)).trans cl;have r0:=(hb2.cell (p:=⟨V,0,none⟩) (lt_of_block HVP.out)).trans p0;have r1:=(hb2.cell (p:=⟨V,1,none⟩) (lt_of_block HVP.out)).trans p1;clear hb2)
    |(gi_at_builtin;refine wpListIn_append_own _ rfl (.tmp 16) (.tmp 19) 46 rfl w.heap.size 53 i0 _ 2 16 Tryz.underlying46 hi0 hz0 hz1 hz2 rfl (by omega) _ m (foC L) rfl ((owned_below HO.out HB2.out).alloc _) ⟨W2.heap.size,0,none⟩ 1 1 [.int .i64 D,.int .i64 s] rfl rfl (news_at W2 [.int .i64 D,.int .i64 s] 53) (by intro u hu;simp at hu;rcases hu with rfl|rfl<;>rfl) (by unfold maxLen;omega) (by omega) (by have :=HB2.out.size;simp;omega) ?_))
   intro v' w4 hown4 hgrow4 hz4
   clear hz4
   obtain ⟨g',cap',hv',_,_⟩:=hown4.form (by omega)
   have hb2:=HB2.out
   have hsz2:=hb2.size
   have hfoc:foC L++[.int .i64 D,.int .i64 s]=foC (L++[(d,s)]):=by rw [foC_append,HD.out];rfl
   rw [hfoc] at hown4
   obtain ⟨⟨cB1,fB1⟩,hvo,hbb,hko,hkc⟩:=var_push (by decide) ((hb2.block _ (lt_of_block HV.out)).trans HV.out) (owned_below HO.out hb2) (Nat.le_succ _) (by omega) ((Below.refl _ W2).alloc (Nat.le_refl _) _) hgrow4 hown4
   have hk5:=hkc _ _ _ _ ((hb2.block _ (lt_of_block HK.out)).trans HK.out) (by decide) (by decide)
   have hfin:KeptI f K w (pre++[((d,s),l,r)]) (w4.setCell ⟨w.heap.size+1,0,none⟩ v'):=by
    refine HAI.out _ ?_ hk5 (HBW.out.trans ((hb2.mono hsz).trans hbb))
    rw [if_pos trivial]
    unfold FoVar
    rw [List.length_append,List.length_singleton,← HM.out]
    exact hvo
   have HF:=Lib.hid (And.intro ((⟨hb2.size,fun q o hq _=>(hb2.block q (Array.getElem?_eq_some_iff.1 hq).1).trans hq⟩:KeepsOthers W W2).trans hko) (And.intro ((hb2.mono hsz).trans hbb) hfin))
   subst hv'
   clear hvo hbb hko hkc hk5 hfin hown4 hgrow4 hb2
   gi_wp2
   exact HF.out
 case done=>
  rintro D' ys W hD2 hys ⟨⟨v,hv,hown⟩,hk,hbw⟩ hK'
  rw [hys] at hown
  have hown':=hown
  obtain ⟨Av,cv,rfl, -, -⟩:=owned_row hown'
  have cB:=cell_of_one hv
  have HBW:=Lib.hid hbw
  have HRV:Hid (FoVar w.heap.size (w.heap.size+1) (keptF f a b) W):=Lib.hid ⟨_,hv,hown⟩
  have HVV:=Lib.hid hv
  obtain ⟨m,hm⟩:∃ m,m=(keptL f (pairsF a b)).length:=⟨_,rfl⟩
  rw [← hm] at cB HVV
  clear hys hown hown' hbw hk hv hm
  gi_wp2
  refine ⟨by simp,.inl ⟨_,_,rfl,run_takeDeferred hK',?_⟩⟩
  refine ⟨_,results_tmp rfl _ _ _,?_⟩
  obtain ⟨v2,hv2,ho2⟩:=Firm.varOf 0 W D' _ (.deferred none) (Nat.zero_le _) hK' rfl HRV.out
  have hne:w.heap.size+1≠D':=by have :=HZ2.out;omega
  rw [World.putObj_heap_other hne,HVV.out] at hv2
  simp at hv2
  subst hv2
  exact ⟨_,rfl,ho2,Firm.belowW (N:=w2.heap.size) (by have :=HZ2.out;omega) W D' _ _ hD2 hK' rfl HBW.out⟩
end Go.Proofs.YtldcadpemnpbmaaGreatDoor
namespace Go.Proofs.YtldcadpemnpbmaaGreatDoor
open Go Go.RowKit
set_option linter.unusedVariables false
def RiseRel10 (l:List Nm) (w:World) (r i:Value) (wr:World):Prop:=r= .bool false∧∃ k:Nat,1≤k∧i= .int .i64 (k:Int)∧Below w.heap.size w wr∧∀ j (hj:j<l.length),0<j→j<k→l[j-1]<l[j]
end Go.Proofs.YtldcadpemnpbmaaGreatDoor
namespace Go.Proofs.YtldcadpemnpbmaaGreatDoor
open Go Go.RowKit
set_option linter.unusedVariables false
set_option maxHeartbeats 1000000 in
set_option maxRecDepth 100000 in
theorem dict_rise (A:Option Addr) (m c:Nat) (l:List Nm) (w:World) (hr:Row w w.heap.size A (strs l)) (hm:l.length=m) (hl:m≤1073741824):
  Calls Tryz.prog 179 #[.slice A m c] w fun e w'=>e= .returned (.bool (risesN l))∧Below w.heap.size w w':=by
 have HR:=Lib.hid hr
 clear hr
 subst hm
 obtain ⟨ans,hans⟩:∃ ans,ans=risesN l:=⟨_,rfl⟩
 rw [← hans]
 have HA:=Lib.hid hans
 clear hans
 go_enter Tryz.func179,Tryz.ntmps179
 go_wp2
 go_loopw [2,3] (fun r i wr=>RiseRel10 l w r i wr) (fun _ i _=>l.length-(intOf i).toNat)
 case atStart=>exact ⟨rfl,1,by omega,rfl,Below.refl _ _,fun j _ _ _=>by omega⟩
 case round=>
  obtain ⟨rfl,k,hk,rfl,hbw,hall⟩:=hrel
  by_cases hlt:k<l.length
  ·obtain ⟨b1,o1,e1,_,hc1⟩:=row_nm (HR.out.below hbw) hlt
   subst e1
   have hc0:wr.cell? ⟨b1,o1+(k-1),none⟩=some (.string ⟨l[k-1].toArray⟩):=by
    obtain ⟨b2,o2,e2,_,hc2⟩:=row_nm (HR.out.below hbw) (k:=k-1) (by omega)
    injection e2 with e2
    injection e2 with e3 e4
    subst e3 e4
    exact hc2
   obtain ⟨x,hx,hx2⟩:=as_text l[k]
   obtain ⟨y,hy,hy2⟩:=as_text l[k-1]
   rw [← hx] at hc1
   rw [← hy] at hc0
   obtain ⟨j,hj⟩:∃ j,j=k-1:=⟨_,rfl⟩
   have hw:IntKind.i64.wrap ((k:Int)-1)=(j:Int):=by rw [IntWalk.i64_in _ (by omega)];omega
   have hjl:j<l.length:=by omega
   rw [← hj] at hc0
   by_cases hxy:l[k-1]<l[k]
   ·have t1:=less_true (s:=y) (t:=x) (by rw [hx2,hy2];exact hxy)
    have HN:Hid (∀ j (hj:j<l.length),0<j→j<k+1→l[j-1]<l[j]):=Lib.hid fun j hj h0 hjk=>by
     by_cases e:j=k
     ·subst e;exact hxy
     ·exact hall j hj h0 (by omega)
    clear hx hx2 hy hy2 hj hall hxy
    go_wp2
    go_quiet (fail)
    go_wp2
    go_roundw
    case rel=>exact ⟨rfl,k+1,by omega,by go_num,hbw.trans ⟨rfl,rfl,rfl,Nat.le_refl _,fun _ _=>rfl⟩,HN.out⟩
    case measure=>simp [intOf];omega
   ·have hbad:ans=false:=by rw [HA.out];exact rise_bad hlt (by omega) hxy
    subst hbad
    have t1:=less_false (s:=y) (t:=x) (by rw [hx2,hy2];exact hxy)
    clear hx hx2 hy hy2 hj hall hxy
    go_wp2
    go_quiet (fail)
    go_wp2
    go_ret
    exact ⟨rfl,hbw.trans ⟨rfl,rfl,rfl,Nat.le_refl _,fun _ _=>rfl⟩⟩
  ·have hgood:ans=true:=by rw [HA.out];exact rise_good fun i hi h0=>hall i hi h0 (by omega)
   subst hgood
   clear hall
   go_wp2
   go_ret
   exact ⟨rfl,hbw⟩
end Go.Proofs.YtldcadpemnpbmaaGreatDoor
