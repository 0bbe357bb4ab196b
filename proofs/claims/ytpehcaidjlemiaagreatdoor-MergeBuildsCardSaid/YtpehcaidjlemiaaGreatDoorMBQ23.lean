import Derived.Test.YtpehcaidjlemiaaGreatDoorMBZz
import Derived.Test.YtpehcaidjlemiaaGreatDoorMBQ08
import Derived.Test.YtpehcaidjlemiaaGreatDoorMBQ13
import Derived.Test.YtpehcaidjlemiaaGreatDoorMBQ21
import Derived.Test.YtpehcaidjlemiaaGreatDoorMBQ22
import Derived.Maps.AppendAt
import Derived.Test.YtpehcaidjlemiaaGreatDoorMBQ19
import Derived.Test.YtpehcaidjlemiaaGreatDoorMBQ06
import Derived.Deep.RegionHeld3
import Derived.Deep.RegionLaw
import Derived.StillTailTactics
import Derived.Test.YtpehcaidjlemiaaGreatDoorMBQ20
import Derived.Test.YtpehcaidjlemiaaGreatDoorMBQ09
import Derived.Test.YtpehcaidjlemiaaGreatDoorMBQ17
import Derived.Deep.AppendLies
set_option maxHeartbeats 4000000
set_option maxRecDepth 100000
set_option linter.unusedVariables false
namespace Go.Proofs.YtpehcaidjlemiaaGreatDoor
open Go Go.RowKit
def qpx (Ls:List (List En)) (w:World) (e:Ending) (w':World):Prop:=∃ B Gs vs,e= .returned (.pointer (some ⟨B,0,none⟩))/\qbQ w' B 0 (qbw (Ls.map qaf)) Gs/\qd4 w.heap.size (qbw (Ls.map qaf)) Gs (qbd Ls) vs w'/\Below w.heap.size w w'
def qpy (Ls:List (List En)) (w:World) (D m lo:Nat) (idx:Value) (wr:World):Prop:=∃ k:Nat,idx= .int .i64 (k:Int)/\lo<=wr.heap.size/\qd2 (Ls.map qaf) w D m lo k wr
structure qh9 (w3:World) (T N i:Nat) (Gs:List Nat) (wr:World):Prop where
 own:wr.ownsRow w3.heap.size 157 1 (.slice (some ⟨T,0,none⟩) N N) N (qaY Gs++List.replicate (N-i) (.pointer none))
 glen:Gs.length=i
 le:i<=N
 cells:∀ q (h:q<Gs.length),wr.heap[Gs[q]]?=some (.cells #[qa3] 159 (0,0))
 once:Gs.Nodup
 low:∀ g∈Gs,w3.heap.size<=g
 below:Below w3.heap.size w3 wr
theorem qh9.step {w3 wr:World} {T N i:Nat} {Gs:List Nat} (h:qh9 w3 T N i Gs wr) (hi:i<N):
  wr.cell? ⟨T,i,none⟩=some (.pointer none)/\wr.frozen? ⟨T,i,none⟩=false/\qh9 w3 T N (i+1) (Gs++[wr.heap.size]) ((wr.setCell ⟨T,i,none⟩ (.pointer (some ⟨wr.heap.size,0,none⟩))).alloc (.cells #[qa3] 159)):=by
 have hpl:(qaY Gs).length=i:=by simp [qaY,h.glen]
 have hT:=h.own.lt T rfl;have hTk:∃ cs,wr.heap[T]?=some (.cells cs 157 (0,0)):=qfe h.own rfl;obtain ⟨tcs,hTk⟩:=hTk;refine ⟨?_,h.own.frozenAt i,?_⟩
 ·rw [h.own.cellAt i (by omega),List.getElem?_append_right (by omega),hpl,Nat.sub_self,show N-i=(N-i-1)+1 by omega,List.replicate_succ]
  rfl
 ·have hst:=(h.own.stored i (.pointer (some ⟨wr.heap.size,0,none⟩))).1
  have e1:(qaY Gs++List.replicate (N-i) (Value.pointer none)).set i (Value.pointer (some ⟨wr.heap.size,0,none⟩))=qaY (Gs++[wr.heap.size])++List.replicate (N-(i+1)) (Value.pointer none):=by
   have :=qgC (a:=qaY Gs) (n:=N-i) (d:=Value.pointer none) (x:=Value.pointer (some ⟨wr.heap.size,0,none⟩)) (by omega);rw [hpl] at this;rw [this,show N-i-1=N-(i+1) by omega];simp [qaY]
  rw [e1] at hst;have hsz:(wr.setCell ⟨T,i,none⟩ (.pointer (some ⟨wr.heap.size,0,none⟩))).heap.size=wr.heap.size:=by simp [World.setCell]
  refine ⟨hst.alloc _,by simp [h.glen],hi,fun q hq=> ?_,?_,?_,?_⟩
  ·by_cases hqi:q<Gs.length
   ·have hc:=h.cells q hqi
    have hlt:=(Array.getElem?_eq_some_iff.1 hc).1;rw [List.getElem_append_left hqi,Below.heap_alloc _ _ _ (by rw [hsz];exact hlt),Below.heap_setCell _ _ _ _ (fun e=> ?_),hc];simp only at e;rw [e,hTk] at hc;injection hc with hc
    injection hc with _ hc
    exact absurd hc (by decide)
   ·have e:q=Gs.length:=by rw [List.length_append,List.length_singleton] at hq;omega
    subst e;have :=heap_alloc_new (wr.setCell ⟨T,i,none⟩ (.pointer (some ⟨wr.heap.size,0,none⟩))) (.cells #[qa3] 159);rw [hsz] at this;simpa using this
  ·rw [List.nodup_append]
   refine ⟨h.once,by simp,fun x hx y hy e=> ?_⟩;rw [List.mem_singleton] at hy;subst hy;obtain ⟨q,hq,rfl⟩:=List.getElem_of_mem hx;have :=(Array.getElem?_eq_some_iff.1 (h.cells q hq)).1;omega
  ·intro g hg
   rcases List.mem_append.1 hg with hg|hg
   ·exact h.low g hg
   ·rw [List.mem_singleton.1 hg]
    exact h.below.size
  ·exact (h.below.setCell (p:=⟨T,i,none⟩) hT.1 _).alloc (by rw [hsz];exact h.below.size) _
def qkz (w3:World) (T N:Nat) (idx:Value) (wr:World):Prop:=∃ i Gs,idx= .int .i64 ((i:Nat):Int)/\qh9 w3 T N i Gs wr
structure qpz (ks:List (List Nm)) (names:List Nm) (w3:World) (B base i j:Nat) (Gs:List Nat) (wr:World):Prop where
 owners:∃ vs,qd4 w3.heap.size names Gs (asJ ks i j) vs wr
 dict:qeD wr base B names Gs
 below:Below w3.heap.size w3 wr
def qkA (ks:List (List Nm)) (names:List Nm) (w3:World) (B base:Nat) (Gs:List Nat) (idx:Value) (wr:World):Prop:=∃ i:Nat,i<=ks.length/\idx= .int .i64 (i:Int)/\qpz ks names w3 B base i 0 Gs wr
def qkB (ks:List (List Nm)) (names:List Nm) (w3:World) (B base i:Nat) (Gs:List Nat) (idx:Value) (wr:World):Prop:=∃ j:Nat,j<=(ks.getD i []).length/\idx= .int .i64 (j:Int)/\qpz ks names w3 B base i j Gs wr
theorem qxL {w w':World} {b:Nat} {e:TypeId} {size n:Nat} {v:Value} {xs:List Value} (ho:w.ownsRow b e size v n xs) (hg:w.grownBy w' v.ownBlock) {k:Nat} {cs:Array Value} {t:TypeId} {fr:Nat × Nat} (hk:w.heap[k]?=some (.cells cs t fr)) (ht:t≠e):w'.heap[k]?=some (.cells cs t fr):=by
 rw [hg.block k (Array.getElem?_eq_some_iff.1 hk).1 ?_,hk];intro e2;obtain ⟨cs',h⟩:=qfe ho e2.symm;rw [hk] at h;injection h with h
 injection h with _ h
 exact ht h
theorem qxM (ks:List (List Nm)) (i j:Nat) (nm:Nm):(asJ ks i j nm).length<=i+1:=by
 unfold asJ;have h1:=List.length_filter_le (fun x=>decide (nm∈ks.getD x [])) (List.range i);rw [List.length_range] at h1;rw [List.length_append];by_cases h:nm∈(ks.getD i []).take j
 ·rw [if_pos h,List.length_singleton];omega
 ·rw [if_neg h,List.length_nil];omega
theorem qxN (A:Option Addr) (m c:Nat) (Ls:List (List En)) (w:World) (hS:qcO w A Ls) (hm:Ls.length=m) (hmx:m<=1000) (hkl:(Ls.map qaf).flatten.length<=100000):
    Calls Tryz.prog 84 #[.slice A m c] w (qpx Ls w):=by
  obtain ⟨i0,ii0,iz0,iz1,iz2⟩:=info_parts qtT;obtain ⟨t0,ti0,tz0,tz1,tz2⟩:=info_parts que;obtain ⟨j0,ji0,jz0,jz1,jz2⟩:=info_parts qdr;have hdl:(Ls.map qaf).length=m:=by simp [hm]
  obtain ⟨w1,hrun,hown1,hgrow1⟩:=run_make_full (P:=Tryz.prog) w w.heap.size 93 40 i0 _ 1 Tryz.underlying93 ii0 iz0 iz1 .i64 .i64 m (by rw [iz2];omega) (by unfold maxLen;omega) (Nat.le_refl _);have hrep:(madeCells (Value.slice none 0 0).cells (m*1)).toList=List.replicate m qa3:=by
    rw [show (Value.slice none 0 0).cells=#[.slice none 0 0] from rfl,toList_madeCells_one,Nat.mul_one]
  rw [hrep] at hown1;have hst:qpy Ls w w.heap.size m (w.heap.size+1) (.int .i64 0) w1:=⟨0,rfl,(hown1.lt _ rfl).2,qd2.begin2 hown1 (Nat.lt_succ_self _) hdl ((Below.refl _ w).grown hgrow1 (Nat.le_refl _) (fun k hk=>by cases hk))⟩;obtain ⟨D,hD⟩:∃ D,D=w.heap.size:=⟨_,rfl⟩;rw [<- hD] at hrun hst;have HST:=qH hst;have HS:=qH hS;have HM:=qH hm;have HDL:=qH hdl;have HKL:=qH hkl;have HD:=qH hD;clear hst hown1 hgrow1 hrep hS hm hdl hkl hD
  go_enter Tryz.func84,Tryz.ntmps84
  go_wp2;clear hrun
  go_loopw [4,5,21] (fun u4 u5 idx wr=>qpy Ls w D m (D+1) idx wr) (fun _ _ idx _=>m-(intOf idx).toNat)
  case atStart=>exact HST.out
  case round=>
    clear HST;obtain ⟨k,rfl,hlo,hup⟩:=hrel;obtain ⟨_,_,hbw,hkm0⟩:=hup.low;by_cases hkm:k<m
    · have hk1:k<Ls.length:=by rw [HM.out];exact hkm
      obtain ⟨b,off,S,rfl,hb,q1,hseg⟩:=(HS.out).at_ hk1;have r1:=(hbw.cell (p:=⟨b,off+k,none⟩) hb).trans q1;have c1:=qxt (hseg.below hbw);have hs1:∀ h:k<(Ls.map qaf).length,(Ls.map qaf)[k]=(qac Ls[k]).keys:=fun h=>by rw [List.getElem_map];rfl
      obtain ⟨x,hx⟩:∃ x,x=(qac Ls[k]).keys:=⟨_,rfl⟩;rw [<- hx] at c1 hs1;have C1:=qH c1;have HS1:=qH hs1;have HUP:=qH hup;have HLO:=qH hlo;have hi1:(k:Int)<(m:Int):=by omega
      clear hup hlo hbw hseg hs1 q1 hkm0 c1 hx
      go_wp2_with (go_at_call 25; refine (C1.out).mono ?_; rintro e w5 ⟨v, rfl, hown5, hb5⟩
                   obtain ⟨c5,f5,Av,cv,rfl,g1,g2,hrn,hup5⟩:=(HUP.out).put hkm HLO.out hb5 (HS1.out) hown5;have HUP5:=qH hup5;have HL5:Hid (D+1<=w5.heap.size):=qH (Nat.le_trans HLO.out hb5.size);clear hown5 hup5 hrn hb5)
      go_roundw
      case rel=>exact ⟨k+1,by go_num,by simpa [World.setCell] using HL5.out,HUP5.out⟩
      case measure=>simp [intOf];omega
    · have hkm2:k=m:=by omega
      subst hkm2;obtain ⟨ks,hks⟩:∃ ks,ks=Ls.map qaf:=⟨_,rfl⟩;rw [<- hks] at hup;have HKS:=qH hks;have hkl2:ks.flatten.length<=100000:=by rw [hks];exact HKL.out
      have hkd:ks.length=k:=by rw [hks];exact HDL.out
      have hlol:=hup.all;have C1:=qH (qxK (some ⟨D,0,none⟩) k k ks wr hkd hmx (Nat.le_refl _) (by unfold maxLen;omega) (qtU hlol) hkl2);obtain ⟨names,hnm⟩:∃ names,names=qbw ks:=⟨_,rfl⟩;rw [<- hnm] at C1;have hnl:names.length<=100000:=by
        have :=qgm ks.flatten [];rw [hnm];unfold qbw;simp only [List.length_nil,Nat.add_zero] at this;omega
      have HNM:=qH hnm;have HLOL:=qH hlol;have HKD:=qH hkd;have HNL:=qH hnl;have HBW:=qH hbw;obtain ⟨N,hN⟩:∃ N,N=names.length:=⟨_,rfl⟩;have hN2:N<=100000:=by omega
      have HN:=qH hN;clear hup hlol hkl2 hkd hnm hks hnl hbw hN hlo hkm0
      go_wp2_with (go_at_call 132; refine (C1.out).mono ?_; rintro e w5 ⟨v, rfl, hown5, hb5⟩
                   obtain ⟨An,cn,rfl,gn1,gn2,hrn⟩:=qbm hown5;rw [<- HN.out] at gn1;have HRN:=qH hrn;have HB5:=qH hb5;have HLO5:=qH ((HLOL.out).later hb5);obtain ⟨w6,hrun6,hown6,hgrow6⟩:=run_make_full (P:=Tryz.prog) w5 w5.heap.size 222 157 t0 _ 1 Tryz.underlying222 ti0 tz0 tz1 .i64 .i64 N (by rw [tz2];omega) (by unfold maxLen;omega) (Nat.le_refl _);have hrep:(madeCells (Value.pointer none).cells (N*1)).toList=List.replicate N (Value.pointer none):=(by
                     rw [show (Value.pointer none).cells=#[Value.pointer none] from rfl,toList_madeCells_one,Nat.mul_one])
                   rw [hrep] at hown6
                   try rw [<- HN.out]
                   clear hown5 hrn hb5)
      have hst2:qkz w5 w5.heap.size N (.int .i64 0) w6:=⟨0,[],rfl,by simpa [qaY] using hown6,rfl,Nat.zero_le _,fun q h=>by simp at h,List.Pairwise.nil,fun g h=>by simp at h,(Below.refl _ w5).grown hgrow6 (Nat.le_refl _) (fun k hk=>by cases hk)⟩;obtain ⟨T,hT⟩:∃ T,T=w5.heap.size:=⟨_,rfl⟩;rw [<- hT] at hst2
      try rw [<- hT]
      have HST2:=qH hst2;clear hst2 hown6 hgrow6 hrep hrun6 hT
      go_loopw [8,39] (fun u8 idx wr=>qkz w5 T N idx wr) (fun _ idx _=>N-(intOf idx).toNat)
      case atStart=>exact HST2.out
      case round=>
        clear HST2;obtain ⟨i,Gs,rfl,hth⟩:=hrel;by_cases hiN:i<N
        · obtain ⟨c1,f1,hst⟩:=hth.step hiN
          have HFIN:=qH (show qkz w5 T N (.int .i64 ((i:Int)+1)) _ from ⟨i+1,_,by go_num,hst⟩)
          have hi2:(i:Int)<(N:Int):=by omega
          have hTl:=(hth.own.lt T rfl).2;have c1A:∀ z,(wr.alloc z).cell? ⟨T,i,none⟩=some (.pointer none):=fun z=>(((Below.refl wr.heap.size wr).alloc (Nat.le_refl _) z).cell (p:=⟨T,i,none⟩) hTl).trans c1
          have f1A:∀ z,(wr.alloc z).frozen? ⟨T,i,none⟩=false:=fun z=>(((Below.refl wr.heap.size wr).alloc (Nat.le_refl _) z).frozen (p:=⟨T,i,none⟩) hTl).trans f1
          clear hst hth;go_wp2;go_roundw
          case rel=>exact HFIN.out
          case measure=>simp [intOf];omega
        · have hie:i=N:=by have :=hth.le;omega
          subst hie;have hown:=hth.own;rw [Nat.sub_self,List.replicate_zero,List.append_nil] at hown;have hrg:qc9 names=true:=by rw [HNM.out];exact qfN.2 (qfO _)
          obtain ⟨AT,cT,e,gt1,gt2,hrt⟩:=qbm hown;injection e with e1 _ e2
          subst e1 e2;have C2:=qH (qtK An (some ⟨T,0,none⟩) i cn i names Gs wr (((HRN.out).below hth.below).more hth.below.size) (HN.out).symm (by omega) hrt hth.glen hrg);have HTH:=qH hth;have HGL:=qH hth.low;clear hth hown hrt hrg
          go_wp2_with (go_at_call 133; refine (C2.out).mono ?_; rintro e w7 ⟨B, rfl, hdict, hb7⟩
                       have HDI:=qH hdict;have HB7:=qH hb7;clear hdict hb7)
          obtain ⟨base,hbase⟩:∃ base,base=wr.heap.size:=⟨_,rfl⟩;rw [<- hbase] at HDI;have hst3:qkA ks names w5 B base Gs (.int .i64 0) w7:=by
            have hth:=HTH.out;have hb7:=HB7.out;have e1:(names.map fun n=>(asJ ks 0 0 n).length)=List.replicate i 0:=by
              rw [HN.out];simp only [qnz,List.length_nil];exact List.map_const' ..
            have e2:(names.map fun n=>qd3 (asJ ks 0 0 n))=List.replicate i []:=by
              rw [HN.out];simp only [qnz];exact List.map_const' ..
            refine ⟨0,Nat.zero_le _,rfl,⟨List.replicate i qa3,by rw [hth.glen,HN.out],by rw [List.length_replicate,HN.out],fun q h1 h2=> ?_,?_,hth.once⟩,HDI.out,hth.below.trans (hb7.mono hth.below.size)⟩
            · have hc:=hth.cells q h1
              rw [hb7.block _ (Array.getElem?_eq_some_iff.1 hc).1,hc];simp
            · rw [e1,e2]
              exact qjB _ _ _ _ _
          have HST3:=qH hst3;have HB5W:Hid (Below w.heap.size w w5):=qH ((HBW.out).trans ((HB5.out).mono (HBW.out).size));clear hst3 HTH hbase
          go_loopw [11,13,14,15,56,62,63,64,68] (fun u11 u13 u14 u15 idx u62 u63 u64 u68 wr=>qkA ks names w5 B base Gs idx wr) (fun _ _ _ _ idx _ _ _ _ _=>k-(intOf idx).toNat)
          case atStart=>exact HST3.out
          case round=>
            clear HST3;obtain ⟨x,hx,rfl,hat⟩:=hrel;rw [HKD.out] at hx;by_cases hxk:x<k
            · have hxl:x<ks.length:=by rw [HKD.out];exact hxk
              obtain ⟨b0,o0,A',c',e1,hb0,q1,⟨hc1,hc2⟩,hrow⟩:=(HLO5.out).at_ hxl;injection e1 with e1
              injection e1 with e1 e2
              subst e1 e2;have r1:=(hat.below.cell (p:=⟨D,0+x,none⟩) hb0).trans q1;rw [Nat.zero_add] at r1;have hgd:ks.getD x []=ks[x]:=qav hxl;have hrise:qaH (ks.getD x []):=by
                rw [hgd];simp only [HKS.out,List.getElem_map];exact qgt _
              obtain ⟨l,hl⟩:∃ l,l=ks.getD x []:=⟨_,rfl⟩;rw [<- hgd,<- hl] at r1 hc1 hrow;have hmem:∀ nm∈l,nm∈names:=fun nm hnm=>by
                rw [HNM.out,qgl];exact ⟨ks[x],List.getElem_mem hxl,by rw [<- hgd,<- hl];exact hnm⟩
              obtain ⟨n,hn⟩:∃ n,n=l.length:=⟨_,rfl⟩;rw [<- hn] at r1 hc1;have hst4:qkB ks names w5 B base x Gs (.int .i64 0) wr:=⟨0,Nat.zero_le _,rfl,hat⟩;have HST4:=qH hst4;have HL:=qH hl;have HNN:=qH hn;have HRI:=qH hrise;have HMEM:=qH hmem;have HROW:=qH hrow;have hx1:(x:Int)<(k:Int):=by omega
              unfold maxLen at hc2;clear hst4 hat hl hn hrise hmem hrow hgd q1;go_wp2
              go_loopw [13,14,15,64,68] (fun u13 u14 u15 idx u68 wr=>qkB ks names w5 B base x Gs idx wr) (fun _ _ _ idx _ _=>n-(intOf idx).toNat)
              case atStart=>exact HST4.out
              case round=>
                clear HST4;obtain ⟨j,hj,rfl,hat⟩:=hrel;rw [<- HL.out,<- HNN.out] at hj;by_cases hjn:j<n
                · have hjl:j<l.length:=by rw [<- HNN.out];exact hjn
                  obtain ⟨b3,o3,rfl,hb3,hcl⟩:=Row.at_ (HROW.out) (by simp;omega);have q3:=(hat.below.cell (p:=⟨b3,o3+j,none⟩) hb3).trans (hcl j (nmV l[j]) (by simp [hjl]));obtain ⟨key,qaS⟩:∃ key,key=l[j]:=⟨_,rfl⟩;rw [<- qaS] at q3;have hkn:key∈names:=(HMEM.out) key (by rw [qaS];exact List.getElem_mem hjl);obtain ⟨q,hq,hqk⟩:=List.getElem_of_mem hkn;have hrn:qaH names:=by rw [HNM.out];exact qfO _
                  obtain ⟨f1,f2⟩:=qlX hrn hq;rw [hqk] at f1 f2;have CF:=qtS B 0 names Gs ⟨key.toArray⟩ wr hat.dict.dictR hrn (by have :=HNL.out;omega);simp only [f1,f2,if_true] at CF;obtain ⟨vs,hown⟩:=hat.owners;have hqg:q<Gs.length:=by rw [hown.glen];exact hq
                  have hqv:q<vs.length:=by rw [hown.vlen];exact hq
                  rw [qav hqg] at CF;have hoq:=hown.many.own q hqv;obtain ⟨Av,cv,hvq,hv1,hv2,hvr⟩:=qbm hoq;clear hvr;have hns:(names.map fun n=>(asJ ks x j n).length)[q]'(by simpa using hq)=(asJ ks x j key).length:=by rw [List.getElem_map,hqk]
                  have hxs:(names.map fun n=>qd3 (asJ ks x j n))[q]'(by simpa using hq)=qd3 (asJ ks x j key):=by rw [List.getElem_map,hqk]
                  rw [hns] at hvq hv1 hoq;rw [hxs] at hoq;have hal:=qxM ks x j key;have hasn:=fun nm=>qub (ks:=ks) (i:=x) (j:=j) HRI.out (by rw [<- HL.out];exact hjl) nm
                  have hkj:(ks.getD x [])[j]'(by rw [<- HL.out];exact hjl)=names[q]:=by
                    rw [hqk,qaS];simp only [HL.out]
                  simp only [hkj] at hasn;obtain ⟨G,hG⟩:∃ G,G=Gs[q]:=⟨_,rfl⟩;obtain ⟨nq,hnq⟩:∃ nq,nq=(asJ ks x j key).length:=⟨_,rfl⟩;rw [<- hG] at CF;rw [<- hnq] at hvq hv1 hoq hal;rw [hvq] at hoq;have HCF:=qH CF;have HOWN:=qH hown;have HOQ:=qH hoq;have HVQ:=qH hvq;have HG:=qH hG;have HASN:=qH hasn;have HDI:=qH hat.dict;have HBE:=qH hat.below;have HRN2:=qH hrn;have HQK:=qH hqk;have HNQ:=qH hnq;have hj2:(j:Int)<(n:Int):=by omega
                  unfold maxLen at hv2;clear CF hown hoq hvq hG hasn hat hrn hkj hns hxs f1 f2 hkn qaS hcl hqk hnq
                  go_wp2_with (first
                    | (go_at_call 134; refine (HCF.out).mono ?_; rintro e w8 ⟨rfl, hb8⟩
                       have hown8:=(HOWN.out).below hb8;have hc8:=hown8.cells q hqg hqv;rw [<- HG.out,HVQ.out] at hc8;have c8:=cell_of_one hc8;have HO8:=qH hown8;have HB8:=qH hb8;have HOQ8:=qH (qak HOQ.out hb8);have HS8:Hid (w5.heap.size<=w8.heap.size):=qH (Nat.le_trans (HBE.out).size hb8.size);clear hown8 hc8 hb8)
                    | (at_builtin; refine wpList_append_own_at _ rfl (.tmp 78) (.tmp 80) 23 rfl w5.heap.size 3 j0 _ 1 8 Tryz.underlying23 ji0 jz0 jz1 jz2 rfl (by omega) (.slice Av nq cv) nq (qd3 (asJ ks x j key)) rfl (HOQ8.out.alloc _) ⟨w8.heap.size, 0, none⟩ 1 1 [.int .i64 (x : Int)] rfl rfl (qaN w8 [.int .i64 (x : Int)] 3) (by intro u hu; simp at hu; subst hu; rfl) (by unfold maxLen; omega) (by omega) (by have := HS8.out; simp; omega) ?_
                       intro v9 w9 hown9 hg9 _ hwh;obtain ⟨A9,k9,rfl,_,_,hr9⟩:=qbm hown9;clear hr9;obtain ⟨hG9,hown9b⟩:=((HO8.out).below ((Below.refl w8.heap.size w8).alloc (Nat.le_refl _) (.cells #[.int .i64 (x:Int)] 3))).step HRN2.out hq HASN.out (by rw [HQK.out,<- HNQ.out];exact hown9) (by rw [HVQ.out];exact hg9) (by rw [HVQ.out];exact hwh);rw [<- HG.out,HVQ.out] at hG9;rw [<- HG.out] at hown9b;have c9:=cell_of_one hG9;have f9:=free_of_one hG9;have HO9:=qH hown9b;have HG9:=qH hG9;have HGR:=qH hg9;have HW9:=qH hown9;clear hown9b hG9 hown9 hg9 hwh))
                  have hal8:Below w8.heap.size w8 (w8.alloc (.cells #[.int .i64 (x:Int)] 3)):=(Below.refl w8.heap.size w8).alloc (Nat.le_refl _) _;have hoqA:=qak HOQ8.out hal8;have hbase5:w5.heap.size<=G:=(HGL.out) G (by rw [HG.out];exact List.getElem_mem hqg);have hfin:qkB ks names w5 B base x Gs (.int .i64 ((j:Int)+1)) (w9.setCell ⟨G,0,none⟩ (.slice A9 (nq+1) k9)):=by
                    refine ⟨j+1,by rw [<- HL.out,<- HNN.out];omega,rfl,⟨_,HO9.out⟩,?_,?_⟩
                    · refine ((((HDI.out).keep (w':=w8) fun kk cs t hk _=> ?_).keep (w':=w8.alloc (.cells #[.int .i64 (x:Int)] 3)) fun kk cs t hk _=> ?_).keep (w':=w9) fun kk cs t hk ht=> ?_).keep fun kk cs t hk ht=> ?_
                      · rw [(HB8.out).block kk (Array.getElem?_eq_some_iff.1 hk).1,hk]
                      · rw [hal8.block kk (Array.getElem?_eq_some_iff.1 hk).1,hk]
                      · exact qxL hoqA HGR.out hk (by rcases ht with rfl|rfl<;>decide)
                      · rw [Below.heap_setCell _ _ _ _ (fun e=> ?_),hk]
                        simp only at e;rw [e,HG9.out] at hk;injection hk with hk
                        injection hk with _ hk
                        rw [<- hk] at ht;exact absurd ht (by decide)
                    · exact (((HBE.out).trans ((HB8.out).mono (HBE.out).size)).alloc HS8.out _).grown HGR.out (by have :=HS8.out;simp;omega) (fun z hz=>(hoqA.lt z hz).1) |>.setCell (p:=⟨G,0,none⟩) hbase5 _
                  have HFIN:=qH hfin;clear hfin hal8 hoqA hbase5;go_roundw
                  case rel=>exact HFIN.out
                  case measure=>simp [intOf];omega
                · have hje:j=(ks.getD x []).length:=by have :=HNN.out;rw [<- HL.out];omega
                  have hfe:asJ ks x j=asJ ks (x+1) 0:=funext fun nm=>quc hje nm
                  have hfin:qkA ks names w5 B base Gs (.int .i64 ((x:Int)+1)) wr:=by
                    obtain ⟨vs,ho⟩:=hat.owners;rw [hfe] at ho;exact ⟨x+1,by rw [HKD.out];omega,rfl,⟨vs,ho⟩,hat.dict,hat.below⟩
                  have HFIN:=qH hfin;clear hfin hfe hje hat;go_wp2;go_roundw
                  case rel=>exact HFIN.out
                  case measure=>simp [intOf];omega
            · have hxe:x=Ls.length:=by have :=HM.out;omega
              have hfe:asJ ks x 0=qbd Ls:=funext fun nm=>by rw [HKS.out,hxe];exact qud Ls nm
              have hfin:qpx Ls w (.returned (.pointer (some ⟨B,0,none⟩))) wr:=by
                obtain ⟨vs,ho⟩:=hat.owners;rw [hfe] at ho;have hnn:names=qbw (Ls.map qaf):=by rw [HNM.out,HKS.out]
                refine ⟨B,Gs,vs,rfl,?_,?_,(HB5W.out).trans (hat.below.mono (HB5W.out).size)⟩
                · rw [<- hnn]
                  exact hat.dict.dictR
                · rw [<- hnn]
                  exact ⟨ho.glen,ho.vlen,ho.cells,ho.many.low (HB5W.out).size,ho.once⟩
              have HFIN:=qH hfin;clear hfin hfe hxe hat;go_wp2;go_ret;exact HFIN.out
structure qxO (b D:Nat) (l:List Nm) (vs:List Nat) (W:World):Prop where
 vlen:vs.length=l.length
 var:∃ A c,W.heap[D]?=some (.cells #[.slice A l.length c] 227 (0,0))/\l.length<=c/\c<=maxLen/\Row W b A (qaJ l vs)
def qpA (b:Nat) (l:List Nm) (vs:List Nat) (w:World) (e:Ending) (w':World):Prop:=
 ∃ D,e= .returned (.func (.func 136) #[] #[.pointer (some ⟨D,0,none⟩)])/\w.heap.size<=D/\qxO b D l vs w'/\Below w.heap.size w w'/\w'.heap.size=D+1
theorem qxP (B o:Nat) (i:Int) (l:List Nm) (vs:List Nat) (w0 w:World) (h0:qbQ w0 B o l vs) (hw0:Below w0.heap.size w0 w) (hl:l.length<=1048576) (hi:i<=9223372036854775807):
  Calls Tryz.prog 85 #[.pointer (some ⟨B,o,none⟩),.int .i64 i] w (qpA w0.heap.size (l.drop i.toNat) (vs.drop i.toNat) w):=by
 have h:=h0.below hw0;have hvl:=h.2.1;have hbw:=hw0.size;have C0:=qH (fun W (hb:Below w.heap.size w W)=>qnk B o l vs W (h.below hb));obtain ⟨m,hm⟩:∃ m:Nat,m=i.toNat:=⟨_,rfl⟩;obtain ⟨n,hn⟩:∃ n,n=l.length:=⟨_,rfl⟩;obtain ⟨k,hk⟩:∃ k:Nat,k=min m n:=⟨_,rfl⟩;have hmx:∀ (w:World) (ts:Array TypeId) (t:TypeId),(Builtin.max_ ts t #[.int .i64 i,.int .i64 0]).run Tryz.prog w= .ok (.int .i64 (m:Int)) w:=fun w ts t=>by rw [run_max_int2,hm];congr 2;split<;>omega
 have hmn:∀ (w:World) (ts:Array TypeId) (t:TypeId),(Builtin.min_ ts t #[.int .i64 m,.int .i64 n]).run Tryz.prog w= .ok (.int .i64 (k:Int)) w:=fun w ts t=>by rw [run_min_int2,hk];congr 2;split<;>omega
 have hd1:l.drop i.toNat=l.drop k:=by
  rw [<- hm];by_cases h1:m<=n
  ·rw [hk,Nat.min_eq_left h1]
  ·rw [List.drop_of_length_le (by omega),List.drop_of_length_le (by omega)]
 have hd2:vs.drop i.toNat=vs.drop k:=by
  rw [<- hm];by_cases h1:m<=n
  ·rw [hk,Nat.min_eq_left h1]
  ·rw [List.drop_of_length_le (by omega),List.drop_of_length_le (by omega)]
 rw [hd1,hd2];have hkn:k<=n:=by omega
 obtain ⟨A,c,hc0,hnc,hcm,hrow0,hA⟩:=h0.read;have hc:=(hw0.cell (p:=⟨B,o,none⟩) h0.lt).trans hc0;have hrow:=hrow0.below hw0;clear hc0 hrow0;obtain ⟨b0,hb0⟩:∃ b,b=w0.heap.size:=⟨_,rfl⟩;rw [<- hb0] at hrow hbw ⊢;rw [<- hn] at hc hnc C0 hl;have HN:=qH hn;have HV:=qH hvl;have HROW:=qH hrow;have k1:(0:Int)<=(k:Int):=by omega
 have k2:(k:Int)<=(n:Int):=by omega
 have k3:(n:Int)<=(c:Int):=by omega
 have k4:(n:Int)<=1048576:=by omega
 have HBL:=qH h.lt;unfold maxLen at hcm;have HFIN:Hid (∀ A' c' W,(W.heap.size=w.heap.size+1/\Below w.heap.size w W/\W.heap[w.heap.size]?=some (.cells #[.slice A' (n-k) c'] 227 (0,0)))->n-k<=c'->c'<=maxLen->Row w b0 A' (qaJ (l.drop k) (vs.drop k))->
   qpA b0 (l.drop k) (vs.drop k) w (.returned (.func (.func 136) #[] #[.pointer (some ⟨w.heap.size,0,none⟩)])) W):=qH fun A' c' W ⟨h1,h2,h3⟩ h4 h5 h6=>
  ⟨w.heap.size,rfl,Nat.le_refl _,⟨by rw [List.length_drop,List.length_drop,hvl],A',c',by rw [List.length_drop,<- HN.out];exact h3,by rw [List.length_drop,<- HN.out];exact h4,h5,h6.below (h2.mono hbw)⟩,h2,by omega⟩
 clear h h0 hw0 hb0 hm hk hd1 hd2 hrow hvl hn;rcases hA with ⟨rfl,hl0,rfl⟩|⟨g,rfl⟩
 ·have hn0:n=0:=by rw [HN.out,hl0];rfl
  have hk0:k=0:=by omega
  have hrow0:Row w b0 none (qaJ (l.drop k) (vs.drop k)):= .inl (by rw [hl0];simp [qe3]);subst hn0 hk0;have hmin:min (m:Int) 0=0:=by omega
  have HX0:=qH hrow0;have hblk:((w.alloc (.cells #[.slice none 0 0] 227)).drew).heap[w.heap.size]?=some (.cells #[.slice none 0 0] 227 (0,0)):=heap_alloc_new w _;have hba:Below w.heap.size w (w.alloc (.cells #[.slice none 0 0] 227)).drew:=((Below.refl _ w).alloc (Nat.le_refl _) _).drew;have hn1:=cell_of_one hblk;have hn2:=free_of_one hblk;have hn3:=(hba.cell (p:=⟨B,o,none⟩) HBL.out).trans hc;have HBA:=qH hba;clear hrow0 hblk hba hl0
  go_enter Tryz.func85,Tryz.ntmps85
  go_wp2
  go_region_law (first
    |(go_simp;go_at_call 135;refine (C0.out _ (by first|exact (Below.refl _ w).drew|exact HBA.out)).mono ?_;rintro e w' ⟨rfl,rfl⟩))
  all_goals
   have hfin:=HFIN.out none 0 ((w.alloc (.cells #[.slice none 0 0] 227)).drew) ⟨by simp,((Below.refl _ w).alloc (Nat.le_refl _) _).drew,heap_alloc_new w _⟩ (by omega) (by unfold maxLen;omega) HX0.out;have HF:=qH hfin;clear hfin;go_wp2;go_ret;exact HF.out
 ·obtain ⟨AN,hAN⟩:∃ AN,(if c=k then (some ⟨g,0,none⟩:Option Addr) else some ⟨g,k*2,none⟩)=AN:=⟨_,rfl⟩
  have hrow0:Row w b0 AN (qaJ (l.drop k) (vs.drop k)):=by
   rw [<- hAN];by_cases hck:c=k
   ·exact .inl (by rw [List.drop_of_length_le (by rw [<- HN.out];omega)];simp [qe3])
   ·rw [if_neg hck,<- qjr k HV.out]
    rcases HROW.out with h0|⟨b',o',e,hb,hcl⟩
    ·exact .inl (by rw [h0];simp)
    ·injection e with e
     injection e with e1 e2
     subst e1 e2;refine .inr ⟨g,k*2,rfl,hb,fun j u hu=> ?_⟩;have :=hcl (k*2+j) u (by rw [<- hu];simp);rwa [Nat.zero_add] at this
  have HX0:=qH hrow0;have hblk:((w.alloc (.cells #[.slice none 0 0] 227)).drew).heap[w.heap.size]?=some (.cells #[.slice none 0 0] 227 (0,0)):=heap_alloc_new w _;have hba:Below w.heap.size w (w.alloc (.cells #[.slice none 0 0] 227)).drew:=((Below.refl _ w).alloc (Nat.le_refl _) _).drew;have hn1:=cell_of_one hblk;have hn2:=free_of_one hblk;have hn3:=(hba.cell (p:=⟨B,o,none⟩) HBL.out).trans hc;have HBLK:=qH hblk;have HBA:=qH hba;clear hrow0 hblk hba
  go_enter Tryz.func85,Tryz.ntmps85
  go_wp2
  go_region_law (first
    |(go_simp;go_at_call 135;refine (C0.out _ (by first|exact (Below.refl _ w).drew|exact HBA.out)).mono ?_;rintro e w' ⟨rfl,rfl⟩))
  all_goals
   have hfin:=HFIN.out AN (c-k) ((w.alloc (.cells #[.slice AN (n-k) (c-k)] 227)).drew) ⟨by simp,((Below.refl _ w).alloc (Nat.le_refl _) _).drew,heap_alloc_new w _⟩ (by omega) (by unfold maxLen;omega) HX0.out;have HF:=qH hfin;clear hfin;go_wp2;go_ret;exact HF.out
attribute [local go_sem] Oper.semAt_some
def qcF (A:Option Addr) (xs:List Value) (W W':World):Prop:=W.heap.size<=W'.heap.size/\(xs=[]∨∃ g off,A=some ⟨g,off,none⟩/\W'.heap[g]?=W.heap[g]?)
theorem qcF.trans {A:Option Addr} {xs:List Value} {W W' W2:World} (h:qcF A xs W W') (k:qcF A xs W' W2):qcF A xs W W2:=by
 refine ⟨Nat.le_trans h.1 k.1,?_⟩;rcases h.2 with h2|⟨g,off,e,h2⟩
 ·exact .inl h2
 ·rcases k.2 with k2|⟨g',off',e',k2⟩
  ·exact .inl k2
  ·rw [e] at e'
   injection e' with e'
   injection e' with e1 e2
   subst e1;exact .inr ⟨g,off,e,k2.trans h2⟩
theorem qcF.of_row {A:Option Addr} {xs:List Value} {W W':World} {b:Nat} (h:Row W b A xs) (hs:W.heap.size<=W'.heap.size) (hk:∀ g off,A=some ⟨g,off,none⟩->g<b->W'.heap[g]?=W.heap[g]?):qcF A xs W W':=by
 refine ⟨hs,?_⟩;rcases h with h|⟨g,off,e,hb,_⟩
 ·exact .inl h
 ·exact .inr ⟨g,off,e,hk g off e hb⟩
theorem qcF.of_row' {A:Option Addr} {xs:List Value} {W W' w0:World} {b:Nat} (h:Row w0 b A xs) (hs:W.heap.size<=W'.heap.size) (hk:∀ g off,A=some ⟨g,off,none⟩->g<b->W'.heap[g]?=W.heap[g]?):qcF A xs W W':=by
 refine ⟨hs,?_⟩;rcases h with h|⟨g,off,e,hb,_⟩
 ·exact .inl h
 ·exact .inr ⟨g,off,e,hk g off e hb⟩
theorem qcF.row {A:Option Addr} {xs:List Value} {W W':World} {b:Nat} (h:qcF A xs W W') (hr:Row W b A xs):Row W' b A xs:=by
 rcases hr with hr|⟨g,off,e,hb,hx⟩
 ·exact .inl hr
 ·rcases h.2 with h2|⟨g',off',e',h2⟩
  ·exact .inl h2
  ·rw [e] at e'
   injection e' with e'
   injection e' with e1 e2
   subst e1 e2;exact .inr ⟨g,off,e,hb,fun j u hu=>by rw [World.cell?_of_block (a:=⟨g,off+j,none⟩) h2];exact hx j u hu⟩
def qkC (A:Option Addr) (l:List Nm) (vs:List Nat) (w0:World) (J:List (Nm × Nat)->World->Prop) (i:Value) (wr:World):Prop:=∃ pre:List (Nm × Nat),pre.length<=l.length/\i= .int .i64 (pre.length:Int)/\J pre wr/\qcF A (qaJ l vs) w0 wr
theorem qxQ (m b D c:Nat) (A:Option Addr) (l:List Nm) (vs:List Nat) (w:World) (hm:1<=m) (hb:b<=w.heap.size) (hvl:vs.length=l.length) (hblk:w.heap[D]?=some (.cells #[.slice A l.length c] 227 (0,0))) (hnc:l.length<=c) (hcm:c<=maxLen) (hrow:Row w b A (qaJ l vs)) (hl:l.length<=1048576):
  qkp m Tryz.prog 136 #[.pointer (some ⟨D,0,none⟩)] qeK (fun A B=>Below A.heap.size A B) (qcF A (qaJ l vs)) (OkP l vs) (fun xs=>xs.length=l.length) (fun _=>True) w:=by
 intro lp J X W hW hJ hY h0;have hblkW:=(hW.block D (lt_of_block hblk)).trans hblk;have c1:=cell_of_one hblkW;have HROW:=qH (hrow.below (hW.mono hb));have HJ:=qH hJ;have HY:=qH hY;have HREL:Hid (qkC A l vs W J (.int .i64 ((0:Nat):Int)) W):=qH ⟨[],Nat.zero_le _,rfl,h0,qcF.of_row (hrow.below (hW.mono hb)) (Nat.le_refl _) (fun _ _ _ _=>rfl)⟩;have hbW:b<=W.heap.size:=Nat.le_trans hb hW.size;obtain ⟨n,hn⟩:∃ n,n=l.length:=⟨_,rfl⟩;rw [<- hn] at hnc hl c1;have HN:=qH hn;have HV:=qH hvl;clear hJ hY h0 hblk hblkW hrow hW hn hvl;refine callsIn_of_wp Tryz.func136 rfl trivial ?_ rfl;simp only [Tryz.ntmps136,List.size_toArray,List.length_cons,List.length_nil,Nat.reduceAdd,Nat.reduceSub,Array.replicate_succ,Array.replicate_zero,List.push_toArray,List.append_toArray,List.nil_append,List.cons_append];gi_wp2
 gi_loopw [7] (qkC A l vs W J) (fun i _=>n-(intOf i).toNat)
 case atStart=>exact HREL.out
 case round=>
  obtain ⟨pre,hpl,rfl,hj,hbw⟩:=hrel;obtain ⟨k,hk⟩:∃ k,k=pre.length:=⟨_,rfl⟩;rw [<- hk,<- HN.out] at hpl;rw [<- hk];have hsz:=hbw.1;by_cases hlt:k<n
  ·have hkl:k<l.length:=by rw [<- HN.out];exact hlt
   obtain ⟨b1,o1,rfl,hb1,hcs⟩:=(hbw.row HROW.out).at_ (by rw [qgz HV.out];omega);obtain ⟨g1,g2⟩:=qgA HV.out hkl;have d1:=hcs _ _ g1;have d2:=hcs _ _ g2;rw [<- Nat.add_assoc] at d2;obtain ⟨x,hx⟩:∃ x,x=l[k]:=⟨_,rfl⟩;obtain ⟨y,hy⟩:∃ y,y=vs.getD k 0:=⟨_,rfl⟩;rw [<- hx] at d1;rw [<- hy] at d2;have hok:∀ W1,OkP l vs pre (x,y) W1:=fun W1=>⟨by rw [<- hk];exact hkl,by simp only [<- hk];exact hx,by simp only [<- hk];exact hy⟩
   obtain ⟨X1,hX1⟩:∃ t:ByteArray,t=⟨x.toArray⟩:=⟨_,rfl⟩;rw [<- hX1] at d1;have HOK:=qH hok;have HX1:=qH hX1;have HK:=qH hk;have HJ0:=qH hj;have hkn:(k:Int)<(n:Int):=by omega
   have hk0:(0:Int)<=(k:Int):=by omega
   clear g1 g2 hcs hx hy hok hX1 hk hj hkl;obtain ⟨w3,hw3⟩:∃ w3,w3=wr.alloc (.cells #[.string X1,.pointer (some ⟨y,0,none⟩)] 232):=⟨_,rfl⟩;have hb3:Below wr.heap.size wr w3:=by rw [hw3];exact (Below.refl _ _).alloc (Nat.le_refl _) _
   have hyy:=HY.out pre (x,y) w3 (HJ.out _ _ _ HJ0.out hb3) (HOK.out w3);rw [show qeK (x,y)=#[.string X1,.pointer (some ⟨y,0,none⟩)] by unfold qeK;rw [HX1.out]] at hyy;obtain ⟨fn,tmps,assign,body,hy,hR⟩:=hyy;rw [hw3] at hy;have HB3:=qH (hbw.trans (qcF.of_row (hbw.row HROW.out) hb3.size (fun g _ _ hg=>hb3.block g (by omega))));have HW3:=qH hw3;clear hw3 hb3;gi_wp2;rw [HW3.out] at hR;refine hR.mono ?_;rintro e W4 (⟨rfl,hJ4,hk4⟩|⟨rfl,hX4⟩)
   ·have hrel:qkC (some ⟨b1,o1,none⟩) l vs W J (.int .i64 ((k:Int)+1)) W4:=by
     refine ⟨pre++[(x,y)],?_,?_,hJ4,HB3.out.trans ?_⟩
     ·rw [List.length_append,List.length_singleton,<- HK.out,<- HN.out];omega
     ·rw [List.length_append,List.length_singleton,<- HK.out];rfl
     ·rw [HW3.out];exact hk4
    have HR:=qH hrel;clear hrel hJ4 hk4 hy hR;gi_wp2;go_roundw
    case rel=>exact HR.out
    case measure=>simp [intOf];omega
   ·gi_wp2
    refine bodyPost_ret (results_none rfl _ _ _) rfl ?_;exact ⟨⟨_,rfl⟩,.inr ⟨_,trivial,hX4⟩⟩
  ·have hkn:pre.length=l.length:=by rw [<- hk,<- HN.out];omega
   gi_wp2
   go_end0
   exact ⟨⟨_,rfl⟩,.inl ⟨_,hkn,hj⟩⟩
structure qc5 (KB LB:Nat) (w6 W:World):Prop where
 below:Below KB w6 W
 low:∀ k,k<w6.heap.size->k≠KB->k≠LB->W.heap[k]?=w6.heap[k]?
section
variable {KB LB:Nat} {w6 W W':World}
theorem qc5.refl (w6:World):qc5 KB LB w6 w6:=⟨Below.refl _ _,fun _ _ _ _=>rfl⟩
theorem qc5.later (h:qc5 KB LB w6 W) (hb:Below w6.heap.size W W') (hK:KB<=w6.heap.size):qc5 KB LB w6 W':=⟨h.below.trans (hb.mono hK),fun k hk a b=>(hb.block k hk).trans (h.low k hk a b)⟩
theorem qc5.set (h:qc5 KB LB w6 W) {B o:Nat} (hB:B=KB∨B=LB) (hl:KB<=LB) (v:Value):qc5 KB LB w6 (W.setCell ⟨B,o,none⟩ v):=
 ⟨h.below.setCell (p:=⟨B,o,none⟩) (by rcases hB with rfl|rfl<;>first|exact Nat.le_refl _|exact hl) v,fun k hk a b=>(Below.heap_setCell _ _ _ _ (by show k≠B;rcases hB with rfl|rfl<;>assumption)).trans (h.low k hk a b)⟩
theorem qc5.put (h:qc5 KB LB w6 W) (hK:KB<=w6.heap.size) {l:Nat} {o:Obj} (hl:w6.heap.size<=l):qc5 KB LB w6 (W.putObj l o):=
 ⟨⟨h.below.os,h.below.tape,h.below.output,by have :=h.below.size;simpa using this,fun k hk=>(World.putObj_heap_other (by omega)).trans (h.below.block k hk)⟩,fun k hk a b=>(World.putObj_heap_other (by omega)).trans (h.low k hk a b)⟩
theorem qc5.kind (h:qc5 KB LB w6 W) {x y:Value} (hk:w6.heap[KB]?=some (.cells #[x] 40 (0,0))) (hl:w6.heap[LB]?=some (.cells #[y] 41 (0,0))) {k:Nat} {cs:Array Value} {t:TypeId} {fr:Nat × Nat} (hb:w6.heap[k]?=some (.cells cs t fr)) (h1:t≠40) (h2:t≠41):W.heap[k]?=some (.cells cs t fr):=by
 rw [h.low k (Array.getElem?_eq_some_iff.1 hb).1 ?_ ?_,hb]
 ·rintro rfl
  rw [hk] at hb;injection hb with hb
  injection hb with _ hb
  exact h1 hb.symm
 ·rintro rfl
  rw [hl] at hb;injection hb with hb
  injection hb with _ hb
  exact h2 hb.symm
end
def qcP (Ls:List (List En)) (E:List Pl) (b0 KB LB:Nat) (w6:World) (pre:List (Nm × Nat)) (W:World):Prop:=
 qc5 KB LB w6 W/\∃ v3 v4 cs,W.heap[KB]?=some (.cells #[v3] 40 (0,0))/\W.heap[LB]?=some (.cells #[v4] 41 (0,0))/\qct b0 w6.heap.size v3 v4 (qbz Ls E pre.length) cs (qc2 Ls E pre.length) W
section
variable {Ls:List (List En)} {E:List Pl} {b0 KB LB:Nat} {w6 W W':World} {pre:List (Nm × Nat)}
theorem qcP.later (h:qcP Ls E b0 KB LB w6 pre W) (hb:Below W.heap.size W W') (hK:KB<=w6.heap.size):qcP Ls E b0 KB LB w6 pre W':=by
 obtain ⟨h1,v3,v4,cs,h2,h3,h4⟩:=h;exact ⟨h1.later (hb.mono h4.size) hK,v3,v4,cs,(hb.block _ (Array.getElem?_eq_some_iff.1 h2).1).trans h2,(hb.block _ (Array.getElem?_eq_some_iff.1 h3).1).trans h3,h4.below hb⟩
theorem qcP.firm (hb0:b0<=w6.heap.size) (hK:KB<w6.heap.size) (hL:LB<w6.heap.size):qat w6.heap.size (qcP Ls E b0 KB LB w6 pre):=fun W l o o' hl ho hc h=>by
 obtain ⟨h1,v3,v4,cs,h2,h3,h4⟩:=h;exact ⟨h1.put (Nat.le_of_lt hK) hl,v3,v4,cs,(World.putObj_heap_other (by omega)).trans h2,(World.putObj_heap_other (by omega)).trans h3,qct.firm hb0 W l o o' hl ho hc h4⟩
theorem qcP.skip (h:qcP Ls E b0 KB LB w6 pre W) {x:Nm × Nat} (hlt:pre.length<(qb5 Ls).length) (hx:x.1=(qb5 Ls)[pre.length]) (he:qaj 0 (qan Ls E) x.1=[]):qcP Ls E b0 KB LB w6 (pre++[x]) W:=by
 have e:qbz Ls E (pre.length+1)=qbz Ls E pre.length:=by rw [qnJ hlt,<- hx,if_neg (by simp [he])]
 unfold qcP qc2 at h ⊢;rw [List.length_append,List.length_singleton,e];exact h
theorem qcP.more (hX:qc5 KB LB w6 W) {v3 v4 v3' v4':Value} {cs:List Value} (hk:W.heap[KB]?=some (.cells #[v3] 40 (0,0))) (hl:W.heap[LB]?=some (.cells #[v4] 41 (0,0))) {x:Nm × Nat} (hlt:pre.length<(qb5 Ls).length) (hx:x.1=(qb5 Ls)[pre.length]) (he:qaj 0 (qan Ls E) x.1≠[])
  (hg:qct b0 w6.heap.size v3' v4' (qbz Ls E pre.length++[x.1]) cs (qc2 Ls E pre.length++[qaj 0 (qan Ls E) x.1]) W) (hKL:KB<LB) (hb0:b0<=KB):
  qcP Ls E b0 KB LB w6 (pre++[x]) ((W.setCell ⟨KB,0,none⟩ v3').setCell ⟨LB,0,none⟩ v4'):=by
 have e:qbz Ls E (pre.length+1)=qbz Ls E pre.length++[x.1]:=by rw [qnJ hlt,<- hx,if_pos he]
 have e2:qc2 Ls E (pre.length+1)=qc2 Ls E pre.length++[qaj 0 (qan Ls E) x.1]:=by unfold qc2;rw [e,List.map_append];rfl
 have hl2:(W.setCell ⟨KB,0,none⟩ v3').heap[LB]?=some (.cells #[v4] 41 (0,0)):=(Below.heap_setCell _ _ _ _ (by show LB≠KB;omega)).trans hl;refine ⟨(hX.set (.inl rfl) (Nat.le_of_lt hKL) _).set (.inr rfl) (Nat.le_of_lt hKL) _,v3',v4',cs,?_,?_,?_⟩
 ·rw [Below.heap_setCell _ _ _ _ (by show KB≠LB;omega)]
  simpa using heap_setCell_same W KB 0 _ _ v3' hk
 ·simpa using heap_setCell_same _ LB 0 _ _ v4' hl2
 ·rw [List.length_append,List.length_singleton,e,e2]
  exact (hg.set hk hb0 (by unfold PoK;decide) (by decide) (by decide) v3').set hl2 (by omega) (by unfold PoK;decide) (by decide) (by decide) v4'
end
theorem qxR {P:Program} {ops:Array Oper} {Q:Exit->Act->World->Prop} {n l id:Nat} {a:Act} {w:World} (hm:P.follows .mixedOrders=true) (hd:ops.toList.all qh3=true) (h:wpAny P .any ops (qcb Q) ops.size (Array.replicate ops.size false) a w.drew):
  (Code.region id ops true).wpIn (Fence.wide.inRound l) n P Q a w:=wpIn_mono (wpIn_region_any hm (qkn (qpd hd) _ _ _ _ h)) qcb.imp
def qkD (Ls:List (List En)) (E:List Pl) (key:Nm) (b0:Nat) (w1:World) (v13 idx:Value) (wx:World):Prop:=∃ (j:Nat) (cs:List Value),j<=(qbd Ls key).length/\idx= .int .i64 (j:Int)/\wx.ownsRow w1.heap.size 71 1 v13 j cs/\LG b0 wx ((qcW Ls E key (qbd Ls key)).take j) cs/\Below w1.heap.size w1 wx
theorem qxS {L:List En} (hg:qcS L) (hl:L.length<=1000) {key:Nm}:∀ q∈qaj 0 L key,0<=q.1/\q.1<(L.length:Int):=fun q hq=>by
 have h1:=(qnu hg hl key).2 q hq;obtain ⟨k,hk,h2⟩:=qgF.1 hq;have h3:=(qfU.1 h2).1;omega
theorem qxT {E:List Pl} {i:Nat} {l:List Pn}:(qdh E i l).length<=l.length:=List.length_filterMap_le _ _
theorem qd4.read {lo:Nat} {names:List Nm} {Gs:List Nat} {ao:Nm->List Nat} {vs:List Value} {w:World} (h:qd4 lo names Gs ao vs w) {q:Nat} (hq:q<names.length):
  ∃ A c,w.heap[Gs.getD q 0]?=some (.cells #[.slice A (ao names[q]).length c] 159 (0,0))/\w.ownsRow lo 3 1 (.slice A (ao names[q]).length c) (ao names[q]).length (qd3 (ao names[q]))/\(ao names[q]).length<=c:=by
 have hg:q<Gs.length:=by rw [h.glen];exact hq
 have hv:q<vs.length:=by rw [h.vlen];exact hq
 have hc:=h.cells q hg hv;have ho:=h.many.own q hv;simp only [List.getElem_map] at ho;obtain ⟨A,c,e,g1,g2,g3⟩:=qbm ho;rw [e] at hc ho;refine ⟨A,c,?_,ho,g1⟩;rw [qav hg];exact hc
theorem qxU (Ls:List (List En)) (E:List Pl) (n:Nat):(qbz Ls E n).length<=(qb5 Ls).length:=by
 unfold qbz;refine Nat.le_trans (List.length_filter_le _ _) ?_;rw [List.length_take];omega
theorem qpB {w:World} {g off KB n c:Nat} {s:ByteArray} {A:Option Addr} {t:TypeId} {fr:Nat × Nat} (hc:w.cell? ⟨g,off,none⟩=some (.string s)) (hk:w.heap[KB]?=some (.cells #[.slice A n c] t fr)):g≠KB:=by
 rintro rfl;rw [World.cell?] at hc;simp only [hk] at hc;cases off with
 |zero=>simp at hc
 |succ m=>simp at hc
theorem qxV {w6 W W':World} {KB LB b:Nat} {A6:Option Addr} {l:List Nm} {vs:List Nat} (hvl:vs.length=l.length) (hrow:Row w6 b A6 (qaJ l vs)) (hb:b<=w6.heap.size) {a1 a2:Option Addr} {n1 c1 n2 c2:Nat} {t1 t2:TypeId} {f1 f2:Nat × Nat} (hk:w6.heap[KB]?=some (.cells #[.slice a1 n1 c1] t1 f1)) (hl:w6.heap[LB]?=some (.cells #[.slice a2 n2 c2] t2 f2))
  (hs:W.heap.size<=W'.heap.size) (h:∀ k,k<w6.heap.size->k≠KB->k≠LB->W'.heap[k]?=W.heap[k]?):qcF A6 (qaJ l vs) W W':=by
 by_cases h0:0<l.length
 ·rcases hrow with hr|⟨g,off,e,hg,hx⟩
  ·exact ⟨hs,.inl hr⟩
  ·have hc:=hx _ _ (qgA hvl h0).1
   rw [Nat.zero_mul,Nat.add_zero] at hc;exact ⟨hs,.inr ⟨g,off,e,h g (by omega) (qpB hc hk) (qpB hc hl)⟩⟩
 ·refine ⟨hs,.inl (List.eq_nil_of_length_eq_zero ?_)⟩
  rw [qgz hvl];omega
structure qeM (b0 base KB LB:Nat) (v3 v3' v4:Value) (ks:List Nm) (cs:List Value) (ls:List (List Pn)) (A9:Option Addr) (L9:List Pn) (w9 w:World):Prop where
 gat:qct b0 base v3' v4 ks cs ls w
 post:qb9 b0 w A9 L9
 kc:w.heap[KB]?=some (.cells #[v3] 40 (0,0))
 lc:w.heap[LB]?=some (.cells #[v4] 41 (0,0))
 oth:KeepsOthers w9 w
 bel:Below base w9 w
structure qpC (b0 base KB LB:Nat) (v3 v3' v4 v4':Value) (ks:List Nm) (cs:List Value) (ls:List (List Pn)) (w9 w:World):Prop where
 gat:qct b0 base v3' v4' ks cs ls w
 kc:w.heap[KB]?=some (.cells #[v3] 40 (0,0))
 lc:w.heap[LB]?=some (.cells #[v4] 41 (0,0))
 oth:KeepsOthers w9 w
 bel:Below base w9 w
section
variable {b0 base KB LB:Nat} {v3 v3' v4:Value} {ks:List Nm} {cs:List Value} {ls:List (List Pn)} {A9:Option Addr} {L9:List Pn} {w9 w w':World}
theorem qeM.below (h:qeM b0 base KB LB v3 v3' v4 ks cs ls A9 L9 w9 w) (hb:Below w.heap.size w w'):qeM b0 base KB LB v3 v3' v4 ks cs ls A9 L9 w9 w':=
  ⟨h.gat.below hb, h.post.keep (.of_below hb (Nat.le_trans h.gat.hbase h.gat.size)), (hb.block _ (Array.getElem?_eq_some_iff.1 h.kc).1).trans h.kc, (hb.block _ (Array.getElem?_eq_some_iff.1 h.lc).1).trans h.lc,
   h.oth.trans ⟨hb.size,fun k o hk _=>(hb.block k (Array.getElem?_eq_some_iff.1 hk).1).trans hk⟩,h.bel.trans (hb.mono h.gat.size)⟩
theorem qeM.key (h:qeM b0 base KB LB v3 v3' v4 ks cs ls A9 L9 w9 w) {v':Value} {k:Nm} {X:ByteArray} (hX:X=⟨k.toArray⟩) {n:Nat} (hn:n=ks.length) (hown:w'.ownsRow base 9 1 v' (n+1) (qad ks++[.string X])) (hg:w.grownBy w' v3'.ownBlock):
  qeM b0 base KB LB v3 v' v4 (ks++[k]) cs ls A9 L9 w9 w'/\∀ (i:Nat) (xs:Array Value),w.heap[i]?=some (.cells xs 71 (0,0))->w'.heap[i]?=some (.cells xs 71 (0,0)):=by
 subst hX hn;obtain ⟨h1,h2⟩:=h.gat.key hown hg;refine ⟨⟨h1,h.post.keep h2.kept,h2.kinds _ _ _ _ h.kc (by decide) (by decide),h2.kinds _ _ _ _ h.lc (by decide) (by decide),h.oth.trans h2.others,h.bel.trans ((Below.refl base w).grown hg h.gat.size fun k hk=>(h.gat.keys.lt k hk).1)⟩,fun i xs hi=> ?_⟩;rw [hg.block i (Array.getElem?_eq_some_iff.1 hi).1 (fun e=>qah h.gat.keys hi (by decide) e.symm),hi]
theorem qeM.list (h:qeM b0 base KB LB v3 v3' v4 ks cs ls A9 L9 w9 w) {v':Value} {c n m:Nat} (hc:L9.length<=c/\c<=maxLen) (hn:n=ls.length) (hm:m=L9.length) (hown:w'.ownsRow base 71 1 v' (n+1) (cs++[.slice A9 m c])) (hg:w.grownBy w' v4.ownBlock):
  qpC b0 base KB LB v3 v3' v4 v' ks (cs++[.slice A9 L9.length c]) (ls++[L9]) w9 w':=by
 subst hn hm;obtain ⟨h1,h2⟩:=h.gat.list hc h.post hown hg;exact ⟨h1,h2.kinds _ _ _ _ h.kc (by decide) (by decide),h2.kinds _ _ _ _ h.lc (by decide) (by decide),h.oth.trans h2.others,h.bel.trans ((Below.refl base w).grown hg h.gat.size fun k hk=>(h.gat.lists.lt k hk).1)⟩
end
theorem qpD {w w':World} (h:Below w.heap.size w w'):KeepsOthers w w':=⟨h.size,fun k o hk _=>(h.block k (Array.getElem?_eq_some_iff.1 hk).1).trans hk⟩
end Go.Proofs.YtpehcaidjlemiaaGreatDoor
