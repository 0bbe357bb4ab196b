import Derived.Test.YtpehcaidjlemiaaGreatDoorMRZz
import Derived.Test.YtpehcaidjlemiaaGreatDoorMRQ30
import Derived.Test.YtpehcaidjlemiaaGreatDoorMRQ32
import Derived.Test.YtpehcaidjlemiaaGreatDoorMRQ29
import Derived.Test.YtpehcaidjlemiaaGreatDoorMRQ05
import Derived.Test.YtpehcaidjlemiaaGreatDoorMRQ10
import Derived.Deep.CutRange
set_option maxHeartbeats 8000000
set_option maxRecDepth 100000
set_option linter.unusedVariables false
namespace Go.Proofs.YtpehcaidjlemiaaGreatDoor
open Go Go.RowKit
theorem qkC {w:World} {b:Nat} {v:Value} {t:TypeId} {fr:Nat × Nat} (h:w.heap[b]?=some (.cells #[v] t fr)):w.cell? ⟨b,0,none⟩=some v:=by simp [World.cell?,h]
theorem qfW (w:World) (v:Value) (t:TypeId):Below w.heap.size w (w.alloc (.cells #[v] t))/\(w.alloc (.cells #[v] t)).heap[w.heap.size]?=some (.cells #[v] t (0,0)):=⟨(Below.refl _ w).alloc (Nat.le_refl _) _,heap_alloc_new w _⟩
theorem qh2 (w:World) (u v:Value) (t:TypeId):Below w.heap.size w (w.alloc (.cells #[u,v] t))/\(w.alloc (.cells #[u,v] t)).heap[w.heap.size]?=some (.cells #[u,v] t (0,0)):=⟨(Below.refl _ w).alloc (Nat.le_refl _) _,heap_alloc_new w _⟩
theorem walk_MergeRefuses (a0:Option Addr) (len0 cap0:Nat) (z0:List Dc) (a1:Int) (W:World) (h0:qiJ W a0 len0 cap0 z0) (h1:(Lit.int .i64 a1).wf=true) (hT:Tab W):
    Calls Tryz.prog 5 #[.slice a0 len0 cap0,.int .i64 a1] W fun e W'=>e= .returned (.bool true)/\Below W.heap.size W W':=by
  obtain ⟨g1,g2,g3,g4,g5⟩:=h0;have hb63:=quj h1;have HG1:Calls Tryz.prog 10 #[.slice a0 len0 cap0,.int .i64 5,.int .i64 0,.int .i64 1] W (qpA (qch z0 5 0 1) W):=qyb a0 len0 cap0 z0 5 0 1 W g3 g4 (by unfold maxLen at g2;omega) (by omega) (by omega) (by omega) fun q hq f hf=>by
    have :=g5 q hq f hf;unfold maxLen at this;omega
  obtain ⟨G,hG⟩:∃ G,G=qch z0 5 0 1:=⟨_,rfl⟩;have hadd:qbe G:=by rw [hG];exact qyA _ _ _ _ (by omega) (by omega) (by omega)
  have hlen:G.length<=5:=by rw [hG,qiH];omega
  rw [<- hG] at HG1;have HGOOD:=qH HG1;have HADD:=qH hadd;obtain ⟨N,hN⟩:∃ N,N=G.length:=⟨_,rfl⟩;rw [<- hN] at hlen;have HN:=qH hN;have HT:=qH hT;clear g1 g2 g3 g4 g5 hG hadd hN hT HG1 h1
  go_enter Tryz.func5,Tryz.ntmps5
  go_upto_if 32 with (first
    | (go_at_call 10; (with_reducible refine HGOOD.out.mono ?_); rintro e w1 ⟨V, rfl, ho1, hb1⟩
       obtain ⟨AG,cG,rfl,hcG,hu⟩:=ho1.nest;rw [<- HN.out] at hcG ⊢;have HO1:Hid (qa2 (fun k=>W.heap.size<=k) w1 (.slice AG N cG) G):=qH (by rw [HN.out];exact ho1);have HB1:=qH hb1;clear ho1 hb1 hu)
    | (go_at_call 11; (with_reducible refine (qza (.slice AG N cG) G w1 HO1.out.small HADD.out).mono ?_); rintro e w2 ⟨S, rfl, hs2, -, hb2⟩
       have HS2:=qH hs2;have HB2:=qH (HB1.out.trans (hb2.mono HB1.out.size));clear hs2 hb2))
  obtain ⟨d1,hd1⟩:∃ d1,d1=decide (a1<0):=⟨_,rfl⟩;rw [<- hd1];have HD1:=qH hd1;clear hd1
  go_cut [1] from 33 to 128 (fun s wx=>∃ T:Int,0<=T/\T<=9223372036854775807/\s= .int .i64 T/\wx=w2)
  case first=>
    cases d1 with
    |true=>
      have hn:a1<0:=of_decide_eq_true HD1.out.symm;have hz:=IntWalk.i64_in (a1+1) (by omega);have hz2:=IntWalk.i64_in (-(a1+1)) (by omega)
      go_wp2_with fail
      go_meet;exact ⟨-(a1+1),by omega,by omega,by simp,rfl⟩
    |false=>
      have hn:0<=a1:=Int.not_lt.1 (of_decide_eq_false HD1.out.symm)
      go_wp2_with fail
      go_meet;exact ⟨_,hn,hb63.2,rfl,rfl⟩
  case rest=>
    obtain ⟨F,hF0,hF1,rfl,rfl⟩:=hcut;have HSW:Hid (∀ w',Below wc.heap.size wc w'->qbv w' S (qac G)):=qH fun w' h=>HS2.out.below h
    have HTW:Hid (∀ w',Below wc.heap.size wc w'->Tab w'):=qH fun w' h=>HT.out.below (HB2.out.trans (h.mono HB2.out.size)) HT.out.lt
    obtain ⟨n,hn⟩:∃ n:Nat,F%9=(n:Int):=⟨(F%9).toNat,by omega⟩;have hn9:n<9:=by omega
    have HNN:=qH hn;obtain ⟨eB,heB⟩:∃ eB:Int,eB=if n=N then 0 else 1:=⟨_,rfl⟩
    obtain ⟨eE,heE⟩:∃ eE:Int,eE=if N=0 then 0 else 5:=⟨_,rfl⟩
    have HEB:=qH heB;have HEE:=qH heE;have HCA:Hid (∀ (w':World) (b1:Nat),Below wc.heap.size wc w'->w'.heap[b1]?=some (.cells #[.pointer (some ⟨S,0,none⟩)] 33 (0,0))->Calls Tryz.prog 14 #[.slice (some ⟨b1,0,none⟩) 1 1,.slice none 0 0] w' (qgy w')):=qH fun w' b1 h hc=>
      qyS 1 hc (HSW.out _ h) (HTW.out _ h) HADD.out (by rw [<- HN.out];omega)
    have HCB:Hid (∀ (w':World) (b1 b2 B:Nat),qpV wc S B b1 b2 (List.replicate n true) w'->Calls Tryz.prog 14 #[.slice (some ⟨b1,0,none⟩) 1 1,.slice (some ⟨b2,0,none⟩) 1 1] w' fun e w''=>∃ v,e= .returned (.tuple #[v,.int .i64 eB])/\Below w'.heap.size w' w''):=qH fun w' b1 b2 B h=>by
      obtain ⟨base,hset⟩:=h.set;by_cases hnn:n=N
      · have :=qyP 1 1 h.c1 h.c2 (HSW.out _ h.below) hset (HTW.out _ h.below) HADD.out (by rw [<- HN.out];omega) (by rw [List.length_replicate,hnn,HN.out])
        rw [HEB.out,if_pos hnn];exact this.mono fun e w'' hh=>hh.ends
      · have :=qyQ 1 1 h.c1 h.c2 (HSW.out _ h.below) hset (HTW.out _ h.below) HADD.out (by rw [<- HN.out];omega) (by rw [List.length_replicate,<- HN.out];exact hnn)
        rw [HEB.out,if_neg hnn];exact this.mono fun e w'' ⟨h1,h2⟩=>⟨_,h1,h2⟩
    have HCE:Hid (∀ (w':World) (b1 b2 B C base base2:Nat),Below wc.heap.size wc w'->w'.heap[b1]?=some (.cells #[.pointer (some ⟨S,0,none⟩),.pointer (some ⟨S,0,none⟩)] 33 (0,0))->w'.heap[b2]?=some (.cells #[.pointer (some ⟨B,0,none⟩),.pointer (some ⟨C,0,none⟩)] 37 (0,0))->qba w' base B (List.replicate N true)->qba w' base2 C (List.replicate N true)->
        Calls Tryz.prog 14 #[.slice (some ⟨b1,0,none⟩) 2 2,.slice (some ⟨b2,0,none⟩) 2 2] w' fun e w''=>∃ v,e= .returned (.tuple #[v,.int .i64 eE])/\Below w'.heap.size w' w''):=qH fun w' b1 b2 B C base base2 h c1 c2 s1 s2=>by
      rw [HN.out] at s1 s2;have :=qyT 2 2 c1 c2 (HSW.out _ h) s1 s2 (HTW.out _ h) HADD.out (by rw [<- HN.out];omega);unfold qh0 at this;rw [<- HN.out,<- HEE.out] at this;exact this
    have HCF:Hid (∀ (w':World) (b1 b2 B C base base2:Nat),Below wc.heap.size wc w'->w'.heap[b1]?=some (.cells #[.pointer (some ⟨S,0,none⟩),.pointer (some ⟨S,0,none⟩)] 33 (0,0))->w'.heap[b2]?=some (.cells #[.pointer (some ⟨B,0,none⟩),.pointer (some ⟨C,0,none⟩)] 37 (0,0))->qba w' base B (List.replicate N true)->qba w' base2 C (List.replicate N false)->
        Calls Tryz.prog 14 #[.slice (some ⟨b1,0,none⟩) 2 2,.slice (some ⟨b2,0,none⟩) 2 2] w' fun e w''=>∃ v,e= .returned (.tuple #[v,.int .i64 0])/\Below w'.heap.size w' w''):=qH fun w' b1 b2 B C base base2 h c1 c2 s1 s2=>by
      rw [HN.out] at s1 s2;exact (qyU 2 2 c1 c2 (HSW.out _ h) s1 s2 (HTW.out _ h) HADD.out (by rw [<- HN.out];omega)).mono fun e w'' hh=>hh.ends
    clear HD1 hn heB heE
    go_upto_region 8 with fail
    rw [HNN.out];obtain ⟨k1,k2⟩:=qfW wc (.pointer (some ⟨S,0,none⟩)) 33;have HK1:=qH k1;have HK2:=qH k2;clear k1 k2
    go_upto_region 9 with (go_at_call 14; (with_reducible refine (HCA.out _ _ HK1.out HK2.out).mono ?_); rintro e w8 ⟨rfl, hb8⟩
                           have HB8:=qH (HK1.out.trans (hb8.mono HK1.out.size));clear hb8)
    obtain ⟨wa,hwa⟩:∃ wa,wa=w8.alloc (.cells #[.pointer (some ⟨S,0,none⟩)] 33):=⟨_,rfl⟩;obtain ⟨k1,k2⟩:=qfW w8 (.pointer (some ⟨S,0,none⟩)) 33;rw [<- hwa] at k1 k2;have HJ1:=qH (HB8.out.trans (k1.mono HB8.out.size));have HJ2:=qH k2;have HWA:=qH hwa;clear k1 k2 hwa HK1 HK2
    go_upto_region 10 with (first
      | (go_at_call 19; rw [<- HWA.out]; (with_reducible refine (qgB _ _ (by omega)).mono ?_); rintro e w9 ⟨rfl, hs9, hb9⟩
         rw [Int.toNat_natCast] at hs9;have HL9:=qH (qyR (HJ1.out.trans (hb9.mono HJ1.out.size)) ((hb9.block _ (Array.getElem?_eq_some_iff.1 HJ2.out).1).trans HJ2.out) (qhY hs9));clear hs9 hb9)
      | (go_at_call 14; (with_reducible refine (HCB.out _ _ _ _ HL9.out).mono ?_); rintro e w10 ⟨v10, rfl, hb10⟩
         have HB10:=qH (HL9.out.below.trans (hb10.mono HL9.out.below.size));clear hb10))
    clear HWA HJ1 HJ2;obtain ⟨wa2,hwa⟩:∃ wa,wa=w10.alloc (.cells #[.pointer none] 33):=⟨_,rfl⟩;obtain ⟨k1,k2⟩:=qfW w10 (.pointer none) 33;rw [<- hwa] at k1 k2;have HJ1:=qH (HB10.out.trans (k1.mono HB10.out.size));have HJ2:=qH k2;have HWA:=qH hwa;clear k1 k2 hwa
    go_upto_region 11 with (first
      | (go_at_call 19; rw [<- HWA.out]; (with_reducible refine (qgB _ _ (by omega)).mono ?_); rintro e w11 ⟨rfl, hs11, hb11⟩
         obtain ⟨k1,k2⟩:=qfW w11 (.pointer (some ⟨wa2.heap.size,0,none⟩)) 37;have HB11:=qH ((HJ1.out.trans (hb11.mono HJ1.out.size)).trans (k1.mono (Nat.le_trans HJ1.out.size hb11.size)));have HC11:=qH (qkC ((k1.block _ (Nat.lt_of_lt_of_le (Array.getElem?_eq_some_iff.1 HJ2.out).1 hb11.size)).trans ((hb11.block _ (Array.getElem?_eq_some_iff.1 HJ2.out).1).trans HJ2.out)));clear hs11 hb11 k1 k2)
      | (go_at_call 14; (with_reducible refine (qpW _ _ 1 1 1 1 _ (qyV _ 0 1 1 _ _ HC11.out)).mono ?_); rintro e w12 ⟨rfl, hb12⟩
         have HB12:=qH (HB11.out.trans (hb12.mono HB11.out.size));clear hb12))
    clear HWA HJ1 HJ2;obtain ⟨wa3,hwa⟩:∃ wa,wa=w12.alloc (.cells #[.pointer (some ⟨S,0,none⟩)] 33):=⟨_,rfl⟩;obtain ⟨k1,k2⟩:=qfW w12 (.pointer (some ⟨S,0,none⟩)) 33;rw [<- hwa] at k1 k2;obtain ⟨k3,k4⟩:=qfW wa3 (.pointer none) 37;have hj:=(HB12.out.trans (k1.mono HB12.out.size)).trans (k3.mono (Nat.le_trans HB12.out.size k1.size));have hc13:=qkC ((k3.block _ (Array.getElem?_eq_some_iff.1 k2).1).trans k2);have hd13:=qkC k4;have hsz:wa3.heap.size=w12.heap.size+1:=by rw [hwa];simp
    rw [hsz] at hd13;rw [hwa] at hj hc13 hd13;have HJ:=qH hj;have HC13:=qH hc13;have HD13:=qH hd13;clear k1 k2 k3 k4 hj hc13 hd13 hwa hsz wa3
    go_upto_region 12 with (go_at_call 14; (with_reducible refine (qpW _ _ 1 1 1 1 _ (qyW _ 0 1 _ 0 1 S _ HC13.out HD13.out)).mono ?_); rintro e w14 ⟨rfl, hb14⟩
                            have HB14:=qH (HJ.out.trans (hb14.mono HJ.out.size));clear hb14)
    obtain ⟨wa4,hwa⟩:∃ wa,wa=w14.alloc (.cells #[.pointer (some ⟨S,0,none⟩),.pointer (some ⟨S,0,none⟩)] 33):=⟨_,rfl⟩;obtain ⟨k1,k2⟩:=qh2 w14 (.pointer (some ⟨S,0,none⟩)) (.pointer (some ⟨S,0,none⟩)) 33;rw [<- hwa] at k1 k2;have HJ1:=qH (HB14.out.trans (k1.mono HB14.out.size));have HJ2:=qH k2;have HWA:=qH hwa;clear k1 k2 hwa HJ HC13 HD13
    go_upto_region 13 with (first
      | (go_at_call 19; rw [<- HWA.out]; (with_reducible refine (qgB _ wa4 (by omega)).mono ?_); rintro e w15 ⟨rfl, hs15, hb15⟩
         rw [Int.toNat_natCast] at hs15;have HB15:=qH (HJ1.out.trans (hb15.mono HJ1.out.size));have HC15:=qH ((hb15.block _ (Array.getElem?_eq_some_iff.1 HJ2.out).1).trans HJ2.out);have HS15:=qH (qhY hs15);clear hs15 hb15)
      | (go_at_call 19; (with_reducible refine (qgB _ w15 (by omega)).mono ?_); rintro e w16 ⟨rfl, hs16, hb16⟩
         rw [Int.toNat_natCast] at hs16;obtain ⟨k1,k2⟩:=qh2 w16 (.pointer (some ⟨wa4.heap.size,0,none⟩)) (.pointer (some ⟨w15.heap.size,0,none⟩)) 37;have hb0:=HB15.out.trans (hb16.mono HB15.out.size);have HB16:=qH (hb0.trans (k1.mono hb0.size));have hc:=(hb16.block _ (Array.getElem?_eq_some_iff.1 HC15.out).1).trans HC15.out;have HC16:=qH ((k1.block _ (Array.getElem?_eq_some_iff.1 hc).1).trans hc);have HD16:=qH k2;have HS16:=qH ((HS15.out.below hb16).below k1);have HR16:=qH ((qhY hs16).below k1);clear hs16 hb16 k1 k2 hb0 hc)
      | (go_at_call 14; (with_reducible refine (HCE.out _ _ _ _ _ _ _ HB16.out HC16.out HD16.out HS16.out HR16.out).mono ?_); rintro e w17 ⟨v17, rfl, hb17⟩
         have HB17:=qH (HB16.out.trans (hb17.mono HB16.out.size));clear hb17))
    clear HWA HJ1 HJ2 HB15 HC15 HS15 HC16 HD16 HS16 HR16;obtain ⟨wa5,hwa⟩:∃ wa,wa=w17.alloc (.cells #[.pointer (some ⟨S,0,none⟩),.pointer (some ⟨S,0,none⟩)] 33):=⟨_,rfl⟩;obtain ⟨k1,k2⟩:=qh2 w17 (.pointer (some ⟨S,0,none⟩)) (.pointer (some ⟨S,0,none⟩)) 33;rw [<- hwa] at k1 k2;have HJ1:=qH (HB17.out.trans (k1.mono HB17.out.size));have HJ2:=qH k2;have HWA:=qH hwa;clear k1 k2 hwa
    go_upto_region 14 with (first
      | (go_at_call 19; rw [<- HWA.out]; (with_reducible refine (qgB _ wa5 (by omega)).mono ?_); rintro e w18 ⟨rfl, hs18, hb18⟩
         rw [Int.toNat_natCast] at hs18;have HB18:=qH (HJ1.out.trans (hb18.mono HJ1.out.size));have HC18:=qH ((hb18.block _ (Array.getElem?_eq_some_iff.1 HJ2.out).1).trans HJ2.out);have HS18:=qH (qhY hs18);clear hs18 hb18)
      | (go_at_call 22; (with_reducible refine (qpF _ w18 (by omega)).mono ?_); rintro e w19 ⟨rfl, hs19, hb19⟩
         rw [Int.toNat_natCast] at hs19;obtain ⟨k1,k2⟩:=qh2 w19 (.pointer (some ⟨wa5.heap.size,0,none⟩)) (.pointer (some ⟨w18.heap.size,0,none⟩)) 37;have hb0:=HB18.out.trans (hb19.mono HB18.out.size);have HB19:=qH (hb0.trans (k1.mono hb0.size));have hc:=(hb19.block _ (Array.getElem?_eq_some_iff.1 HC18.out).1).trans HC18.out;have HC19:=qH ((k1.block _ (Array.getElem?_eq_some_iff.1 hc).1).trans hc);have HD19:=qH k2;have HS19:=qH ((HS18.out.below hb19).below k1);have HR19:=qH (hs19.below k1);clear hs19 hb19 k1 k2 hb0 hc)
      | (go_at_call 14; (with_reducible refine (HCF.out _ _ _ _ _ _ _ HB19.out HC19.out HD19.out HS19.out HR19.out).mono ?_); rintro e w20 ⟨v20, rfl, hb20⟩
         have HB20:=qH (HB19.out.trans (hb20.mono HB19.out.size));clear hb20))
    have HFIN:Hid (Below W.heap.size W w20):=qH (HB2.out.trans (HB20.out.mono HB2.out.size));by_cases hnn:n=N
    · have e1:eB=0:=by rw [HEB.out,if_pos hnn]
      have dn:((n:Int)==(N:Int))=true:=by rw [beq_iff_eq];omega
      by_cases hz:N=0
      · have e2:eE=0:=by rw [HEE.out,if_pos hz]
        have dz:((N:Int)==0)=true:=by rw [beq_iff_eq];omega
        clear HEB HEE;subst e1 e2;clear hnn hz
        go_wp2_with (go_at_call 18;(with_reducible refine (qho qh1 w20).mono ?_);rintro e w21 ⟨rfl,hb21⟩)
        go_ret;exact ⟨rfl,HFIN.out.trans (hb21.mono HFIN.out.size)⟩
      · have e2:eE=5:=by rw [HEE.out,if_neg hz]
        have dz:((N:Int)==0)=false:=by rw [beq_eq_false_iff_ne];omega
        clear HEB HEE;subst e1 e2;clear hnn hz
        go_wp2_with (go_at_call 18;(with_reducible refine (qho qh1 w20).mono ?_);rintro e w21 ⟨rfl,hb21⟩)
        go_ret;exact ⟨rfl,HFIN.out.trans (hb21.mono HFIN.out.size)⟩
    · have e1:eB=1:=by rw [HEB.out,if_neg hnn]
      have dn:((n:Int)==(N:Int))=false:=by rw [beq_eq_false_iff_ne];omega
      by_cases hz:N=0
      · have e2:eE=0:=by rw [HEE.out,if_pos hz]
        have dz:((N:Int)==0)=true:=by rw [beq_iff_eq];omega
        clear HEB HEE;subst e1 e2;clear hnn hz
        go_wp2_with (go_at_call 18;(with_reducible refine (qho qh1 w20).mono ?_);rintro e w21 ⟨rfl,hb21⟩)
        go_ret;exact ⟨rfl,HFIN.out.trans (hb21.mono HFIN.out.size)⟩
      · have e2:eE=5:=by rw [HEE.out,if_neg hz]
        have dz:((N:Int)==0)=false:=by rw [beq_eq_false_iff_ne];omega
        clear HEB HEE;subst e1 e2;clear hnn hz
        go_wp2_with (go_at_call 18;(with_reducible refine (qho qh1 w20).mono ?_);rintro e w21 ⟨rfl,hb21⟩)
        go_ret;exact ⟨rfl,HFIN.out.trans (hb21.mono HFIN.out.size)⟩
end Go.Proofs.YtpehcaidjlemiaaGreatDoor
