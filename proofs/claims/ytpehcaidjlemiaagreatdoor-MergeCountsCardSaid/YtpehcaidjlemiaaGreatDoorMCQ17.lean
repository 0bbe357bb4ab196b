import Derived.Test.YtpehcaidjlemiaaGreatDoorMCZz
import Derived.Test.YtpehcaidjlemiaaGreatDoorMCQ09
import Derived.Test.YtpehcaidjlemiaaGreatDoorMCQ15
import Derived.Test.YtpehcaidjlemiaaGreatDoorMCQ07
import Derived.Test.YtpehcaidjlemiaaGreatDoorMCQ08
import Derived.Deep.AppendLies
import Derived.Deep.RegionLaw
import Derived.Test.YtpehcaidjlemiaaGreatDoorMCQ16
import Derived.Test.YtpehcaidjlemiaaGreatDoorMCQ06
import Derived.Test.YtpehcaidjlemiaaGreatDoorMCQ02
import Derived.Deep.RegionHeld3
import Derived.BigCall
import Derived.Test.YtpehcaidjlemiaaGreatDoorMCQ10
set_option maxHeartbeats 4000000
set_option maxRecDepth 100000
set_option linter.unusedVariables false
namespace Go.Proofs.YtpehcaidjlemiaaGreatDoor
open Go Go.RowKit
def qhY (R:Option Addr->List Value->Prop) (w:World) (A:Option Addr) (ls:List (List Po)):Prop:=∃ cs:List Value,(cs.length=ls.length/\∀ i (h:i<ls.length),∃ A' c',cs[i]?=some (.slice A' ls[i].length c')/\(ls[i].length<=c'/\c'<=maxLen)/\∃ pcs,qak R ls[i] pcs/\Row w w.heap.size A' pcs)/\Row w w.heap.size A cs
theorem qhY.at_ {R:Option Addr->List Value->Prop} {w:World} {A:Option Addr} {ls:List (List Po)} (h:qhY R w A ls) {i:Nat} (hi:i<ls.length):∃ b off A' c',A=some ⟨b,off,none⟩/\b<w.heap.size/\w.cell? ⟨b,off+i,none⟩=some (.slice A' ls[i].length c')/\(ls[i].length<=c'/\c'<=maxLen)/\∃ pcs,qak R ls[i] pcs/\Row w w.heap.size A' pcs:=by
 obtain ⟨cs,⟨h1,h2⟩,h3⟩:=h;obtain ⟨A',c',g1,g2,g3⟩:=h2 i hi;obtain ⟨b,off,rfl,hb,hc⟩:=h3.at_ (by rw [h1];omega);exact ⟨b,off,A',c',rfl,hb,hc _ _ g1,g2,g3⟩
def qoS (R:Option Addr->List Value->Prop) (ls:List (List Po)) (w:World) (e:Ending) (w':World):Prop:=∃ o,qb7 (qbo ls) o/\qfY R (o.map fun p=>(ls.getD p.1 []).getD p.2 (0,[])) w e w'
def qoT (ls:List (List Po)) (w:World) (D m:Nat) (idx:Value) (wr:World):Prop:=∃ k:Nat,idx= .int .i64 (k:Int)/\qa0 (qbo ls) w D m (D+1) k wr
def qoU (ls:List (List Po)) (s:List Int) (w:World) (D m k Bk:Nat) (cs0:List Value) (idx:Value) (wx:World):Prop:=∃ (j:Nat) (v:Value),idx= .int .i64 (j:Int)/\qdh (qbo ls) w D m (D+1) k Bk j s v cs0 wx
def qka (R:Option Addr->List Value->Prop) (lp:List Po) (w w2:World) (v10 idx:Value) (wr:World):Prop:=∃ (k:Nat) (cs:List Value),k<=lp.length/\idx= .int .i64 (k:Int)/\wr.ownsRow w2.heap.size 74 2 v10 k cs/\qak R (lp.take k) cs/\Below w2.heap.size w2 wr
theorem qhZ {w:World} {b:Nat} {x y:Value} {t:TypeId} (h:w.heap[b]?=some (.cells #[x,y] t (0,0))):w.cell? ⟨b,0,none⟩=some x/\w.cell? ⟨b,1,none⟩=some y:=by
 simp [World.cell?,h]
theorem qwd (R:Option Addr->List Value->Prop) (A:Option Addr) (m c:Nat) (ls:List (List Po)) (w:World) (hp:qhY R w A ls) (hm:ls.length=m) (hmx:m<=1000) (hlen:∀ l∈ls,l.length<=1000) (hr:∀ s∈qbo ls,qaj (-1) s=true) (ht:¬ qdP (qbo ls)):
    Calls Tryz.prog 87 #[.slice A m c] w (qoS R ls w):=by
  obtain ⟨t0,hi0,hz0,hz1,hz2⟩:=info_parts qfX;obtain ⟨i0,ii0,iz0,iz1,iz2⟩:=info_parts qjq;obtain ⟨j0,ji0,jz0,jz1,jz2⟩:=info_parts qds;have hdl:(qbo ls).length=m:=by simp [qbo,hm]
  obtain ⟨w1,hrun,hown1,hgrow1⟩:=run_make_full (P:=Tryz.prog) w w.heap.size 92 23 i0 _ 1 Tryz.underlying92 ii0 iz0 iz1 .i64 .i64 m (by rw [iz2];omega) (by unfold maxLen;omega) (Nat.le_refl _);have hrep:(madeCells (Value.slice none 0 0).cells (m*1)).toList=List.replicate m qaZ:=by
    rw [show (Value.slice none 0 0).cells=#[.slice none 0 0] from rfl,toList_madeCells_one,Nat.mul_one]
  rw [hrep] at hown1;have hst:qoT ls w w.heap.size m (.int .i64 0) w1:=⟨0,rfl,qa0.begin ⟨Nat.lt_succ_self _,(hown1.lt _ rfl).2⟩ hdl (Below.refl _ _) hown1 hgrow1⟩;obtain ⟨D,hD⟩:∃ D,D=w.heap.size:=⟨_,rfl⟩;rw [<- hD] at hrun hst;have HST:=qH hst;have HP:=qH hp;have HM:=qH hm;have HLE:=qH hlen;have HR:=qH hr;have HT:=qH ht;have HDL:=qH hdl;clear hst hown1 hgrow1 hrep hp hm hlen hr ht hdl;have HD:=qH hD;clear hD
  go_enter Tryz.func87,Tryz.ntmps87
  go_wp2;clear hrun
  go_loopw [4,5,7,18,23,24,25] (fun u4 u5 u7 idx u23 u24 u25 wr=>qoT ls w D m idx wr) (fun _ _ _ idx _ _ _ _=>m-(intOf idx).toNat)
  case atStart=>exact HST.out
  case round=>
    clear HST;obtain ⟨k,rfl,hup⟩:=hrel;obtain ⟨wo,hwo⟩:∃ wo,wo=wr:=⟨_,rfl⟩;subst hwo;by_cases hkm:k<m
    · have hkl:k<ls.length:=by rw [HM.out];exact hkm
      have hbw:Below w.heap.size w wo:=by obtain ⟨_,_,_,_,_,h⟩:=hup;exact h
      obtain ⟨b,off,A',c',rfl,hb,q0,⟨hc1,hc2⟩,hps⟩:=(HP.out).at_ hkl;have q1:=(hbw.cell (p:=⟨b,off+k,none⟩) hb).trans q0;obtain ⟨pcs,hpc,hpr⟩:=hps;obtain ⟨s,hs⟩:∃ s,s=ls[k].map (·.1):=⟨_,rfl⟩;have hsk:∀ hk:k<(qbo ls).length,(qbo ls)[k]=s:=fun hk=>by rw [hs];simp [qbo]
      have hsl:s.length=ls[k].length:=by rw [hs];simp
      have hln:=(HLE.out) _ (List.getElem_mem hkl);have hsd:∀ j (hj:j<ls[k].length) (hj2:j<s.length),s[j]=(ls[k][j]).1:=fun j hj hj2=>by simp [hs]
      obtain ⟨l,hl⟩:∃ l,l=ls[k]:=⟨_,rfl⟩;rw [<- hl] at q0 q1 hc1 hpc hsl hln hsd;obtain ⟨n,hn⟩:∃ n,n=l.length:=⟨_,rfl⟩;rw [<- hn] at q0 q1 hc1 hsl hln;obtain ⟨cs0,hcs0,hmid⟩:=hup.mid (s:=s) hkm (by obtain ⟨_,_,_,_,h,_⟩:=hup;exact (h.own.lt _ rfl).2);have HMID:=qH (show qoU ls s w D m k wo.heap.size cs0 (.int .i64 0) wo from ⟨0,_,rfl,hmid⟩)
      have HSK:=qH hsk;have HSL:=qH hsl;have HSD:=qH hsd;have HPC:=qH hpc;have HPR:=qH hpr;have HN:=qH hn;have HC0:=qH hcs0;have hi1:(k:Int)<(m:Int):=by omega
      unfold maxLen at hc2;clear hup hmid hsk hsl hsd hpc hpr hs hl hn hcs0 q0 hbw hkl;go_wp2
      go_loopw [7,25] (fun u7 idx wx=>qoU ls s w D m k wo.heap.size cs0 idx wx) (fun _ idx _=>n-(intOf idx).toNat)
      case atStart=>exact HMID.out
      case round=>
        clear HMID;obtain ⟨j,v,rfl,hmid⟩:=hrel;have hjl:=hmid.le;rw [HSL.out] at hjl;by_cases hjn:j<n
        · have hjl2:j<l.length:=by rw [<- HN.out];exact hjn
          have hjs:j<s.length:=by rw [HSL.out];exact hjn
          obtain ⟨g1,A2,c2,g2,hd1,hd3,_⟩:=(HPC.out).at_ hjl2;have hgd:l.getD j (0,[])=l[j]:=by rw [List.getD_eq_getElem?_getD,List.getElem?_eq_getElem hjl2];rfl
          rw [hgd] at g1 g2;have hsj:=(HSD.out) j hjl2 hjs;obtain ⟨b2,o2,rfl,hb2,hcl⟩:=Row.at_ ((HPR.out).below hmid.below) (by rw [(HPC.out).len];omega);have p1:=hcl _ _ g1;have p2:=hcl _ _ g2;rw [<- Nat.add_assoc] at p2;rw [<- hsj] at p1;obtain ⟨d,hd⟩:∃ d,d=s[j]:=⟨_,rfl⟩;rw [<- hd] at p1;obtain ⟨N2,hN2⟩:∃ N2,N2=l[j].2.length:=⟨_,rfl⟩;rw [<- hN2] at p2;obtain ⟨Av,cv,rfl,_,_,_⟩:=qbh hmid.mine;have hj1:(j:Int)<(n:Int):=by omega
          clear g1 g2 hgd hcl hsj hN2 hd1 hjl2;have HMD:=qH hmid;have HD2:=qH hd;clear hmid hd;go_wp2;obtain ⟨wy,hwy⟩:∃ wy,wy=wr.alloc (.cells #[.int .i64 d,.slice A2 N2 c2] 74):=⟨_,rfl⟩;have hby:Below wr.heap.size wr wy:=by rw [hwy];exact (Below.refl _ wr).alloc (Nat.le_refl _) _
          have hbx:wy.cell? ⟨wr.heap.size,0,none⟩=some (.int .i64 d):=by
            rw [hwy];exact (qhZ (heap_alloc_new wr (.cells #[.int .i64 d,.slice A2 N2 c2] 74))).1
          have hmy:=(HMD.out).later hby;obtain ⟨cy,fy⟩:=hmy.cell HC0.out hkm;have hDy:=(hmy.own.lt _ rfl).2;have hXy:wr.heap.size<wy.heap.size:=by rw [hwy];simp
          have cya:∀ o,(wy.alloc o).cell? ⟨D,k,none⟩=some (.slice Av j cv):=fun o=>(((Below.refl wy.heap.size wy).alloc (Nat.le_refl _) o).cell (p:=⟨D,k,none⟩) hDy).trans cy
          have bxa:∀ o,(wy.alloc o).cell? ⟨wr.heap.size,0,none⟩=some (.int .i64 d):=fun o=>(((Below.refl wy.heap.size wy).alloc (Nat.le_refl _) o).cell (p:=⟨wr.heap.size,0,none⟩) hXy).trans hbx
          have HMY:=qH hmy;have HTOP:=qH hmy.top;obtain ⟨X,hX⟩:∃ X,X=wr.heap.size:=⟨_,rfl⟩;rw [<- hX] at hbx bxa hXy;rw [<- hwy,<- hX];have hkm2:(k:Int)<(m:Int):=by omega
          clear hwy hby hmy HMD hX p1 p2 fy
          go_region_law (first
            | (refine step_append_lies _ (by rfl) _ _ _ (by rfl) wo.heap.size 3 j0 _ 1 8 Tryz.underlying23 ji0 jz0 jz1 jz2 rfl (by omega) (.slice Av j cv) j (qaa (s.take j)) (by rfl) ((HMY.out.mine.alloc _).drew)
                ⟨wy.heap.size,0,none⟩ 1 1 [.int .i64 d] (by rfl) (by rfl) (World.news_of_block (cs:=#[.int .i64 d]) (t:=3) (fr:=(0,0)) (heap_alloc_new wy _)) (by intro u hu;simp at hu;subst hu;rfl)
                (by omega) (by unfold maxLen;omega) (by omega) (by have :=HTOP.out;simp;omega) (wy.heap.size+1) (by simp) ?_
               intro gg cap w6 hown6 hgrow hat hlt1;rw [HD2.out] at hown6 hgrow;obtain ⟨c6,f6,hm6⟩:=((HMY.out).later (((Below.refl wy.heap.size wy).alloc (Nat.le_refl _) (.cells #[.int .i64 s[j]] 3)).drew)).grow HC0.out hkm hjs hown6 hgrow))
          all_goals
            have HM6:=qH hm6;clear hm6 hown6 hgrow hat hlt1;go_wp2;go_roundw
            case rel=>exact ⟨j+1,_,by go_num,HM6.out⟩
            case measure=>simp [intOf];omega
        · have hjn2:j=s.length:=by have :=HSL.out;omega
          have hup:=hmid.done HC0.out hkm HDL.out hjn2 (HSK.out);have HUP:=qH hup;clear hmid hup hjl;go_wp2;go_roundw
          case rel=>exact ⟨k+1,by go_num,HUP.out⟩
          case measure=>simp [intOf];omega
    · have hkm2:k=m:=by obtain ⟨_,_,h,_⟩:=hup;omega
      subst hkm2;have hbw:Below w.heap.size w wo:=by obtain ⟨_,_,_,_,_,h⟩:=hup;exact h
      have hdl:∀ s∈qbo ls,s.length<=1000:=fun s hs=>by
        obtain ⟨l,hl,rfl⟩:=List.mem_map.1 hs;simpa using (HLE.out) l hl
      have C1:=qH (qoE (some ⟨D,0,none⟩) k k (qbo ls) wo hup.all HDL.out hmx hdl);have HBW:=qH hbw;have HDLL:=qH hdl;clear hup hbw hdl
      go_wp2_with (go_at_call 47; refine (C1.out).mono ?_; rintro e w2 ⟨err, o, Ao, co, hord, rfl, hcc, hro, hb2, hol⟩
                   have h0:err=0/\qb7 (qbo ls) o:=(by
                     cases hord with
                     |bad h=>exact absurd HR.out h
                     |twice _ h=>exact absurd h HT.out
                     |ok _ h=>exact ⟨rfl,h⟩)
                   obtain ⟨rfl,hio⟩:=h0;have HIO:=qH hio;have HRO:=qH hro;have HB2:=qH ((HBW.out).trans (hb2.mono (HBW.out).size));clear hord hio hro hb2 hcc)
      obtain ⟨lp,hlp⟩:∃ lp,lp=o.map (fun p=>(ls.getD p.1 []).getD p.2 (0,[])):=⟨_,rfl⟩;obtain ⟨M,hM⟩:∃ M,M=o.length:=⟨_,rfl⟩;have hll:lp.length=M:=by rw [hlp,hM];simp
      have hst3:qka R lp w w2 (.slice none 0 0) (.int .i64 0) w2:=⟨0,[],Nat.zero_le _,rfl,World.ownsRow_nil _ _ _ _,by simp [qak],Below.refl _ _⟩;rw [<- hM] at hol;have hat0:∀ i (hi:i<o.length) (hi2:i<lp.length),∃ x y,o[i]=(x,y)/\∃ (h1:x<ls.length) (h2:y<ls[x].length),lp[i]=ls[x][y]:=fun i hi hi2=>by
        obtain ⟨g1,g2⟩:=(HIO.out.mem _).1 (List.getElem_mem hi);have h1:o[i].1<ls.length:=by simpa [qbo] using g1
        have h2:o[i].2<ls[o[i].1].length:=by
          rw [qat g1] at g2;simpa [qbo] using g2
        refine ⟨o[i].1,o[i].2,rfl,h1,h2,?_⟩;subst hlp;rw [List.getElem_map,qat h1,qat h2]
      have HAT0:=qH hat0;have HST3:=qH hst3;have HLL:=qH hll;have HMM:=qH hM;have HLP:=qH hlp
      try rw [<- hM]
      clear hst3 hat0 hll hM hlp C1
      go_loopw [10,12,49] (fun v10 u12 idx wr=>qka R lp w w2 v10 idx wr) (fun _ _ idx _=>M-(intOf idx).toNat)
      case atStart=>exact HST3.out
      case round=>
        clear HST3;obtain ⟨q,cs,hq,rfl,hown,hcs,hbw⟩:=hrel;rw [HLL.out] at hq;by_cases hqm:q<M
        · have hqo:q<o.length:=by rw [<- HMM.out];exact hqm
          have hql:q<lp.length:=by rw [HLL.out];exact hqm
          obtain ⟨x,y,hxy,h1,h2,hlq⟩:=(HAT0.out) q hqo hql;obtain ⟨b0,off0,rfl,hb0,r1,r2⟩:=qfU ((HRO.out).below hbw) hqo;rw [hxy] at r1 r2;obtain ⟨b,off,A1,c1,rfl,hb,q0,⟨hc1,hc2⟩,pcs,hpc,hpr⟩:=(HP.out).at_ h1;obtain ⟨g1,A2,c2,g2,hd1,hd3,hd4⟩:=hpc.at_ h2;have hgd:ls[x].getD y (0,[])=lp[q]:=by rw [hlq,List.getD_eq_getElem?_getD,List.getElem?_eq_getElem h2];rfl
          rw [hgd] at g1 g2 hd1 hd4;obtain ⟨b2,o2,rfl,hb2',hcl⟩:=Row.at_ hpr (by rw [hpc.len];omega);have htk:lp.take (q+1)=lp.take q++[(lp[q].1,lp[q].2)]:=List.take_succ_eq_append_getElem hql;have hxm:x<k:=by rw [<- HM.out];exact h1
          obtain ⟨n1,hn1⟩:∃ n1,n1=ls[x].length:=⟨_,rfl⟩;rw [<- hn1] at q0 h2 hc1;obtain ⟨d,hd⟩:∃ d,d=lp[q].1:=⟨_,rfl⟩;obtain ⟨N2,hN2⟩:∃ N2,N2=lp[q].2.length:=⟨_,rfl⟩;rw [<- hd] at g1;rw [<- hN2] at g2 hd1;have hbW:∀ W,Below w2.heap.size w2 W->Below w.heap.size w W:=fun W hW=>(HB2.out).trans (hW.mono (HB2.out).size)
          have hlW:∀ W,Below w2.heap.size w2 W->W.cell? ⟨b,off+x,none⟩=some (.slice (some ⟨b2,o2,none⟩) n1 c1)/\W.cell? ⟨b2,o2+y*2,none⟩=some (.int .i64 d)/\W.cell? ⟨b2,o2+y*2+1,none⟩=some (.slice A2 N2 c2):=fun W hW=>
            ⟨((hbW W hW).cell (p:=⟨b,off+x,none⟩) hb).trans q0,((hbW W hW).cell (p:=⟨b2,o2+y*2,none⟩) hb2').trans (hcl _ _ g1),((hbW W hW).cell (p:=⟨b2,o2+y*2+1,none⟩) hb2').trans (by have :=hcl _ _ g2;rwa [<- Nat.add_assoc] at this)⟩
          obtain ⟨wy,hwy⟩:∃ wy,wy=wr.alloc (.cells #[.int .i64 (x:Int),.int .i64 (y:Int)] 88):=⟨_,rfl⟩;have hbwy:Below w2.heap.size w2 wy:=by rw [hwy];exact hbw.alloc hbw.size _
          have hownY:wy.ownsRow w2.heap.size 74 2 u10 q cs:=by rw [hwy];exact hown.alloc _
          obtain ⟨t1,t2⟩:wy.cell? ⟨wr.heap.size,0,none⟩=some (.int .i64 (x:Int))/\wy.cell? ⟨wr.heap.size,1,none⟩=some (.int .i64 (y:Int)):=by rw [hwy];exact qhZ (heap_alloc_new wr _)
          obtain ⟨s1,s2,s3⟩:=hlW wy hbwy;have hq1:(q:Int)<(M:Int):=by omega
          have hx1:(x:Int)<(k:Int):=by omega
          have hy1:(y:Int)<(n1:Int):=by omega
          have hM6:q<=1000000:=by omega
          have HTK:=qH htk;have HD:=qH hd;have HN2:=qH hN2;have HCS:=qH hcs;have HOY:=qH hownY;have HBY:=qH hbwy;have HD4:=qH hd4;have HWY:=qH hwy;have HSZ:Hid (w2.heap.size<=wy.heap.size):=qH hbwy.size;have HSB:Hid (w.heap.size<=w2.heap.size):=qH (HB2.out).size;unfold maxLen at hc2;clear hxy hlq hpc hpr hgd g1 g2 hcl htk hn1 hd hN2 hlW hbW hwy hbwy hownY hcs hown hbw hd4 q0 hqo;go_wp2;rw [<- HWY.out]
          go_region_law (first
            | (refine step_append_lies _ (by rfl) _ _ _ (by rfl) w2.heap.size 74 t0 _ 2 32 Tryz.underlying71 hi0 hz0 hz1 hz2 rfl (by omega) u10 q cs (by rfl) ((HOY.out.alloc _).drew)
                ⟨wy.heap.size,0,none⟩ 1 1 [.int .i64 d,.slice A2 N2 c2] (by rfl) (by rfl) (World.news_of_block (cs:=#[.int .i64 d,.slice A2 N2 c2]) (t:=74) (fr:=(0,0)) (heap_alloc_new wy _)) (by intro u hu;simp at hu;rcases hu with hu|hu<;>(subst hu;rfl))
                (by omega) (by unfold maxLen;omega) (by omega) (by have :=HSZ.out;simp;omega) (wy.heap.size+1) (by simp) ?_
               intro gg cap w6 hown6 hgrow hat hlt1))
          all_goals
            have hfin:qka R lp w w2 (.slice (some ⟨gg,0,none⟩) (q+1) cap) (.int .i64 ((q:Int)+1)) w6:=by
              refine ⟨q+1,cs++[.int .i64 d,.slice A2 N2 c2],by rw [HLL.out];omega,rfl,hown6,?_,?_⟩
              · rw [HTK.out,HD.out,HN2.out]
                exact (HCS.out).snoc (by rw [<- HN2.out];exact hd1) hd3 HD4.out
              · exact ((HBY.out).alloc HSZ.out _).drew.grown hgrow (by have :=HSZ.out;simp;omega) fun z hz=>((HOY.out).lt z hz).1
            have HFIN:=qH hfin;clear hfin hown6 hgrow hat hlt1;go_wp2;go_roundw
            case rel=>exact HFIN.out
            case measure=>simp [intOf];omega
        · have hqe:q=lp.length:=by have :=HLL.out;omega
          have hfin:qoS R ls w (.returned u10) wr:=by
            refine ⟨o,HIO.out,u10,cs,rfl,?_,?_,(HB2.out).trans (hbw.mono (HB2.out).size)⟩
            · rw [List.length_map,<- HMM.out,<- HLL.out,<- hqe]
              exact qbc hown (HB2.out).size
            · rw [<- HLP.out]
              rwa [hqe,List.take_length] at hcs
          have HFIN:=qH hfin;clear hfin hown hcs hbw;go_wp2;go_ret;exact HFIN.out
structure qcp (b0 base:Nat) (v3 v4:Value) (ks:List Nm) (cs:List Value) (ls:List (List Pn)) (w:World):Prop where
 hbase:b0<=base
 size:base<=w.heap.size
 keys:w.ownsRow base 9 1 v3 ks.length (qad ks)
 lists:w.ownsRow base 71 1 v4 ls.length cs
 lg:LG b0 w ls cs
section
variable {b0 base:Nat} {v3 v4:Value} {ks:List Nm} {ls:List (List Pn)} {cs:List Value} {w w':World}
theorem qcp.below (h:qcp b0 base v3 v4 ks cs ls w) (hb:Below w.heap.size w w'):qcp b0 base v3 v4 ks cs ls w':=by
 obtain ⟨c,d,e,f,g⟩:=h;exact ⟨c,Nat.le_trans d hb.size,qan e hb,qan f hb,g.keep (.of_below hb (by omega))⟩
structure qfc (b0:Nat) (w w':World):Prop where
 size:w.heap.size<=w'.heap.size
 low:∀ k,k<b0->w'.heap[k]?=w.heap[k]?
 kinds:∀ (k:Nat) (cs:Array Value) (t:TypeId) (fr:Nat × Nat),w.heap[k]?=some (.cells cs t fr)->t≠9->t≠71->w'.heap[k]?=some (.cells cs t fr)
 others:KeepsOthers w w'
 below:Below b0 w w'
theorem qfc.grown {E:TypeId} {size n:Nat} {v:Value} {xs:List Value} (hv:w.ownsRow base E size v n xs) (h0:b0<=base) (hE:E=9∨E=71) (hg:w.grownBy w' v.ownBlock) (hs:base<=w.heap.size):qfc b0 w w':=
  ⟨hg.size, fun k hk => hg.block k (by omega) (fun e => by have := (hv.lt k e.symm).1; omega), fun k c t fr hk h1 h2 => (hg.block k (Array.getElem?_eq_some_iff.1 hk).1 (fun e => qap hv hk (by rcases hE with rfl | rfl <;> assumption) e.symm)).trans hk,
   KeepsOthers.of_grownBy hg fun j o ej hj=>by
      obtain ⟨cs',fr',hh⟩:=qfb hv ej;rw [hh] at hj;injection hj with hj;rw [<- hj];rfl,(Below.refl b0 w).grown hg (Nat.le_trans h0 hs) fun k hk=>by have :=(hv.lt k hk).1;omega⟩
theorem qfc.kept (h:qfc b0 w w'):qa8 b0 w w':=⟨h.size,h.low,fun k c t fr hk ht=>h.kinds k c t fr hk (by rintro rfl;exact absurd ht (by unfold PoK;decide)) (by rintro rfl;exact absurd ht (by unfold PoK;decide))⟩
theorem qcp.key (h:qcp b0 base v3 v4 ks cs ls w) {v':Value} {k:Nm} (hown:w'.ownsRow base 9 1 v' (ks.length+1) (qad ks++[.string ⟨k.toArray⟩])) (hg:w.grownBy w' v3.ownBlock):qcp b0 base v' v4 (ks++[k]) cs ls w'/\qfc b0 w w':=by
 obtain ⟨c,d,e,f,g⟩:=h;have hk:=qfc.grown e c (.inl rfl) hg d;refine ⟨⟨c,Nat.le_trans d hk.size,?_,qhX f e (by decide) hg,g.keep hk.kept⟩,hk⟩;rw [List.length_append,List.length_singleton];simpa [qad] using hown
theorem qcp.list (h:qcp b0 base v3 v4 ks cs ls w) {v':Value} {l:List Pn} {A:Option Addr} {c:Nat} (hc:l.length<=c/\c<=maxLen) (hp:qcA b0 w A l) (hown:w'.ownsRow base 71 1 v' (ls.length+1) (cs++[.slice A l.length c])) (hg:w.grownBy w' v4.ownBlock):
  qcp b0 base v3 v' ks (cs++[.slice A l.length c]) (ls++[l]) w'/\qfc b0 w w':=by
 obtain ⟨c1,d,e,f,g⟩:=h;have hk:=qfc.grown f c1 (.inr rfl) hg d;refine ⟨⟨c1,Nat.le_trans d hk.size,qhX e f (by decide) hg,?_,(g.snoc hc hp).keep hk.kept⟩,hk⟩;rw [List.length_append,List.length_singleton];exact hown
theorem qcp.set (h:qcp b0 base v3 v4 ks cs ls w) {R o:Nat} {xs:Array Value} {t:TypeId} {fr:Nat × Nat} (hR:w.heap[R]?=some (.cells xs t fr)) (h0:b0<=R) (ht:¬ PoK t) (ht1:t≠9) (ht2:t≠71) (v:Value):qcp b0 base v3 v4 ks cs ls (w.setCell ⟨R,o,none⟩ v):=by
 obtain ⟨c,d,e,f,g⟩:=h;exact ⟨c,by simpa using d,qav e fun g hg=>Below.heap_setCell _ _ _ _ (fun e2=>qap e hR ht1 (by rw [hg,e2])),qav f fun g hg=>Below.heap_setCell _ _ _ _ (fun e2=>qap f hR ht2 (by rw [hg,e2])),g.keep (qa8.setCell hR h0 ht v)⟩
theorem qcp.firm {N:Nat} (hN:b0<=N):qax N (fun W=>qcp b0 base v3 v4 ks cs ls W):=fun W l o o' hl ho hc h=>by
 obtain ⟨c,d,e,f,g⟩:=h;have hk:∀ (k:Nat) (cs:Array Value) (t:TypeId) (fr:Nat × Nat),W.heap[k]?=some (.cells cs t fr)->(W.putObj l o').heap[k]?=some (.cells cs t fr):=fun k cs t fr hk=>(World.putObj_heap_other (by rintro rfl;rw [ho] at hk;injection hk with hk;rw [hk] at hc;cases hc)).trans hk
 have hkg:qa8 b0 W (W.putObj l o'):=⟨by simp,fun k hk=>World.putObj_heap_other (by omega),fun k cs t fr h _=>hk k cs t fr h⟩;have hown:∀ {E:TypeId} {s n:Nat} {v:Value} {xs:List Value},W.ownsRow base E s v n xs->(W.putObj l o').ownsRow base E s v n xs:=fun h=>qav h fun g hg=>by
  obtain ⟨cs',fr',hh⟩:=qfb h hg;rw [hh,hk _ _ _ _ hh]
 exact ⟨c,by simpa using d,hown e,hown f,g.keep hkg⟩
end
theorem qfY.stay {b0:Nat} {l:List Po} {w w':World} {e:Ending} (h:qfY (qb4 b0 3 w) l w e w') (h0:b0<=w.heap.size):∃ A c,e= .returned (.slice A l.length c)/\(l.length<=c/\c<=maxLen)/\qcA b0 w' A l/\Below w.heap.size w w':=by
 obtain ⟨v,cs,rfl,h1,h2,h3⟩:=h;obtain ⟨A,c,rfl,hc,hr⟩:=qeC h1;exact ⟨A,c,rfl,hc,⟨cs,h2.imp fun _ _ h=>h.keep (.inr rfl) (.of_below h3 h0),.of_own h1⟩,h3⟩
theorem LG.lpostsR {b0:Nat} {w:World} {ls:List (List Pn)} {cs:List Value} {A:Option Addr} (h:LG b0 w ls cs) (hr:Row w w.heap.size A cs):qhY (qb4 b0 3 w) w A ls:=
 ⟨cs,⟨h.1,fun i hi=>by
  obtain ⟨A',c',h1,h2,pcs,h3,h4⟩:=h.2 i hi;exact ⟨A',c',h1,h2,pcs,h3,h4.row⟩⟩,hr⟩
abbrev Sl:=Option Addr × Nat × Nat
def qeq:List Nm->List Sl->List Value
 |x::l,v::vs=> .string ⟨x.toArray⟩:: .slice v.1 v.2.1 v.2.2::qeq l vs
 |_,_=>[]
theorem qwe (vs:List Sl):qeq [] vs=[]:=by cases vs<;>rfl
theorem qoV:∀ {l:List Nm} {vs:List Sl} {x:Nm} {v:Sl},vs.length=l.length->qeq (l++[x]) (vs++[v])=qeq l vs++[.string ⟨x.toArray⟩,.slice v.1 v.2.1 v.2.2]
 |[],[],x,v,_=>rfl
 |[],_::_,_,_,h=>by simp at h
 |_::_,[],_,_,h=>by simp at h
 |y::l,u::vs,x,v,h=>by
  have :=qoV (l:=l) (vs:=vs) (x:=x) (v:=v) (by simpa using h);simp only [List.cons_append,qeq,this]
theorem qwf:(Tryz.prog.info? 265).map (fun i=>(i.zero,i.size,i.bytes))=some (some (.agg #[.string ByteArray.empty,.slice none 0 0]),2,40):=by kernel_rfl
def sls (vs:List Sl):List Value:=vs.map fun v=> .slice v.1 v.2.1 v.2.2
theorem qwg {w:World} {B:Nat} {A:Option Addr} {l:List Sl} {k:Nat} (h:Row w B A (sls l)) (hk:k<l.length):∃ b off,A=some ⟨b,off,none⟩/\b<B/\w.cell? ⟨b,off+k,none⟩=some (.slice l[k].1 l[k].2.1 l[k].2.2):=by
 obtain ⟨b,off,rfl,hb,hc⟩:=Row.at_ h (by simp [sls];omega);exact ⟨b,off,rfl,hb,hc _ _ (by simp [sls,hk])⟩
def qwh (w:World) (base B:Nat) (l:List Nm) (vs:List Sl):Prop:=
 base<=B/\vs.length=l.length/\∃ v,w.heap[B]?=some (.cells #[v] 263 (0,0))/\w.ownsRow base 265 2 v l.length (qeq l vs)
def qoW (l:List Nm) (vs:List Sl) (w:World) (e:Ending) (w':World):Prop:=∃ B,e= .returned (.tuple #[.pointer (some ⟨B,0,none⟩),.int .i64 0])/\qwh w' w.heap.size B l vs/\Below w.heap.size w w'
def qwi (w:World) (e:Ending) (w':World):Prop:=e= .returned (.tuple #[.pointer none,.int .i64 1])/\Below w.heap.size w w'
theorem qwj (A A2:Option Addr) (n c m c2:Nat) (l:List Nm) (w:World) (hr:Row w w.heap.size A (qad l)) (hn:l.length=n) (hl:n<=1073741824) (hno:n≠m∨qda l=false):
  Calls Tryz.prog 112 #[.slice A n c,.slice A2 m c2] w (qwi w):=by
 by_cases hnm:n=m
 ·have hf:qda l=false:=hno.resolve_left (fun h=>h hnm)
  have c1:=qho A n c l w hr hn hl;rw [hf] at c1;have C1:=qH c1;subst hnm;clear c1 hno hf hr hn
  go_enter Tryz.func112,Tryz.ntmps112
  go_wp2_with (go_at_call 120;refine (C1.out).mono ?_;rintro e w1 ⟨rfl,hb⟩)
  go_ret2;exact ⟨rfl,hb⟩
 ·have e1:((n:Int) != (m:Int))=true:=by simp;omega
  have e2:((n:Int)==(m:Int))=false:=by rw [beq_eq_false_iff_ne];omega
  clear hr hn hno hnm
  go_enter Tryz.func112,Tryz.ntmps112
  go_wp2;go_ret2;exact ⟨rfl,Below.refl _ _⟩
def qkb (B:Nat) (l:List Nm) (vs:List Sl) (w:World) (i:Value) (wr:World):Prop:=
 ∃ (k:Nat) (v:Value),k<=l.length/\i= .int .i64 (k:Int)/\wr.heap[B]?=some (.cells #[v] 263 (0,0))/\wr.ownsRow w.heap.size 265 2 v k (qeq (l.take k) (vs.take k))/\Below w.heap.size w wr
theorem qwk {w:World} {base B:Nat} {e:TypeId} {size:Nat} {v:Value} {n:Nat} {xs:List Value} {cs:Array Value} {t:TypeId} {fr:Nat × Nat} (h:w.ownsRow base e size v n xs) (hB:w.heap[B]?=some (.cells cs t fr)) (ht:t≠e) (o:Nat) (u:Value):(w.setCell ⟨B,o,none⟩ u).ownsRow base e size v n xs:=
 qav h fun g hg=>Below.heap_setCell _ _ _ _ (fun e1=>qap h hB ht (by rw [hg,e1]))
theorem qwl {w0 w1:World} {base B n:Nat} {v v':Value} {xs ys:List Value} (hv:w0.heap[B]?=some (.cells #[v] 263 (0,0))) (hown:w0.ownsRow base 265 2 v n xs) (hg:w0.grownBy w1 v.ownBlock) (hown1:w1.ownsRow base 265 2 v' (n+1) ys) (hbase:base<=w0.heap.size) (hB:base<=B):
  w1.heap[B]?=some (.cells #[v] 263 (0,0))/\(w1.setCell ⟨B,0,none⟩ v').heap[B]?=some (.cells #[v'] 263 (0,0))/\(w1.setCell ⟨B,0,none⟩ v').ownsRow base 265 2 v' (n+1) ys/\Below base w0 (w1.setCell ⟨B,0,none⟩ v'):=by
 have h1:w1.heap[B]?=some (.cells #[v] 263 (0,0)):=(hg.block B (lt_of_block hv) (fun e=>qap hown hv (by decide) e.symm)).trans hv;refine ⟨h1,by simpa using one_setCell h1,qwk hown1 h1 (by decide) _ _,?_⟩;exact (((Below.refl base w0).grown hg hbase fun k hk=>(hown.lt k hk).1)).setCell hB _
theorem qwm (A A2:Option Addr) (n c c2:Nat) (l:List Nm) (vs:List Sl) (w:World) (hr:Row w w.heap.size A (qad l)) (hn:l.length=n) (hl:n<=1048576) (hv:Row w w.heap.size A2 (sls vs)) (hvn:vs.length=n) (hg:qda l=true):
    Calls Tryz.prog 112 #[.slice A n c,.slice A2 n c2] w (qoW l vs w):=by
  obtain ⟨i0,hi0,hz0,hz1,hz2⟩:=info_parts qwf;have c1:=qho A n c l w hr hn (by omega);rw [hg] at c1;have C1:=qH c1;have HR:=qH hr;have HV:=qH hv;have HN:=qH hn;have HVN:=qH hvn;clear c1 hr hv hn hvn hg
  go_enter Tryz.func112,Tryz.ntmps112
  go_wp2_with (go_at_call 120;refine (C1.out).mono ?_)
  rintro e w1 ⟨rfl,hb1⟩;obtain ⟨w2,hrun,hown2,hgrow2⟩:=run_make_own (P:=Tryz.prog) w1 w.heap.size 261 265 i0 _ 2 Tryz.underlying261 hi0 hz0 hz1 .i64 .i64 n (by rw [hz2];omega) (by unfold maxLen;omega) hb1.size;have hb2:Below w.heap.size w w2:=hb1.grown hgrow2 hb1.size (fun k hk=>by cases hk);obtain ⟨B,hB⟩:∃ B,B=w2.heap.size:=⟨_,rfl⟩;obtain ⟨w3,hw3⟩:∃ w3,w3=w2.alloc (.cells #[.slice (some ⟨w1.heap.size,0,none⟩) 0 n] 263):=⟨_,rfl⟩;have hrel:qkb B l vs w (.int .i64 ((0:Nat):Int)) w3:=by
    refine ⟨0,.slice (some ⟨w1.heap.size,0,none⟩) 0 n,Nat.zero_le _,rfl,?_,?_,?_⟩
    · rw [hw3,hB];exact heap_alloc_new w2 _
    · rw [hw3];simpa [qwe] using hown2.alloc _
    · rw [hw3];exact hb2.alloc hb2.size _
  have HREL:=qH hrel;have HW3:=qH hw3;have HB:=qH hB;have HBW:Hid (w.heap.size<=B):=qH (by rw [hB];exact hb2.size);clear hrel hown2 hgrow2 hb2 hb1 hw3 hB;go_wp2;rw [<- HW3.out,<- HB.out];clear hrun
  go_loopw [26] (qkb B l vs w) (fun i _=>n-(intOf i).toNat)
  case atStart=>exact HREL.out
  case round=>
    obtain ⟨k,v,hk,rfl,hblk,hown,hbw⟩:=hrel;rw [HN.out] at hk;have hsz:=hbw.size;by_cases hlt:k<n
    · have hkl:k<l.length:=by rw [HN.out];exact hlt
      have hkv:k<vs.length:=by rw [HVN.out];exact hlt
      obtain ⟨b1,o1,e1,hb1,hc1⟩:=qfn (HR.out.below hbw) hkl;obtain ⟨b2,o2,e2,hb2,hc2⟩:=qwg (HV.out.below hbw) hkv;subst e1 e2;obtain ⟨x,hx⟩:∃ x:ByteArray,x=⟨l[k].toArray⟩:=⟨_,rfl⟩;obtain ⟨y,hy⟩:∃ y,y=vs[k]:=⟨_,rfl⟩;rw [<- hx] at hc1;rw [<- hy] at hc2;have hsn:qeq (l.take (k+1)) (vs.take (k+1))=qeq (l.take k) (vs.take k)++[.string x,.slice y.1 y.2.1 y.2.2]:=by
        rw [List.take_succ_eq_append_getElem hkl,List.take_succ_eq_append_getElem hkv,qoV (by simp only [List.length_take];rw [HN.out,HVN.out]),<- hx,<- hy]
      obtain ⟨cs,hcs⟩:∃ cs,cs=qeq (l.take k) (vs.take k):=⟨_,rfl⟩;rw [<- hcs] at hown hsn;have cB:=cell_of_one hblk;have fB:=free_of_one hblk;have k2:(0:Int)<=(k:Int):=by omega
      have k3:(k:Int)<(n:Int):=by omega
      have hBlt:=lt_of_block hblk;have hal:∀ o,((wr.alloc o).drew).cell? ⟨B,0,none⟩=some v:=fun o=>(((Below.refl _ wr).alloc (Nat.le_refl _) o).cell (p:=⟨B,0,none⟩) hBlt).trans cB
      have HOWN:=qH hown;have HBLK:=qH hblk;have HSN:=qH hsn;clear hx hy hcs hown hblk hsn hkl hkv;go_wp2
      go_region_law (first
        | (refine step_append_lies _ (by rfl) _ _ _ (by rfl) w.heap.size 265 i0 _ 2 40 Tryz.underlying261 hi0 hz0 hz1 hz2 rfl (by omega) v k cs (by rfl) ((HOWN.out.alloc _).drew)
            ⟨wr.heap.size,0,none⟩ 1 1 [.string x,.slice y.1 y.2.1 y.2.2] (by rfl) (by rfl) (World.news_of_block (cs:=#[.string x,.slice y.1 y.2.1 y.2.2]) (t:=265) (fr:=(0,0)) (heap_alloc_new wr.drew _)) (by intro u hu;simp at hu;rcases hu with hu|hu<;>(subst hu;rfl))
            (by omega) (by unfold maxLen;omega) (by omega) (by simp;omega) (wr.heap.size+1) (by simp) ?_
           intro gg cap w5 hown5 hg5 hat hlt5;obtain ⟨hB5,hB6,hown6,hb6⟩:=qwl (((Below.refl _ wr).alloc (Nat.le_refl _) _).drew.block B hBlt |>.trans HBLK.out) ((HOWN.out.alloc _).drew) hg5 hown5 (by simp;omega) HBW.out
           have cB5:=cell_of_one hB5;have fB5:=free_of_one hB5))
      all_goals
        have hrel:qkb B l vs w (.int .i64 ((k:Int)+1)) (w5.setCell ⟨B,0,none⟩ (.slice (some ⟨gg,0,none⟩) (k+1) cap)):=by
          refine ⟨k+1,_,by rw [HN.out];omega,by go_num,hB6,?_,?_⟩
          · rw [HSN.out];exact hown6
          · exact hbw.trans ((((Below.refl _ wr).alloc hsz _).drew).trans hb6)
        have HREL:=qH hrel;clear hrel hB6 hown6 hb6 hB5;go_wp2;go_roundw
        case rel=>exact HREL.out
        case measure=>simp [intOf];omega
    · have hkn:k=n:=by omega
      have HFIN:Hid (qoW l vs w (.returned (.tuple #[.pointer (some ⟨B,0,none⟩),.int .i64 0])) wr):=qH ⟨B,rfl,⟨HBW.out,by rw [HN.out,HVN.out],v,hblk,by
        rw [hkn,List.take_of_length_le (by rw [HN.out];omega),List.take_of_length_le (by rw [HVN.out];omega)] at hown;rw [HN.out];exact hown⟩,hbw⟩
      clear hown hblk hbw;go_wp2;go_ret2;exact HFIN.out
def qwn (l:List Int) (r last i:Value):Prop:=r= .bool false/\∃ (k:Nat) (x:Int),k<=l.length/\i= .int .i64 (k:Int)/\last= .int .i64 x/\qdS x (l.drop k)=qdS (-1) l
theorem qoX (A:Option Addr) (m c:Nat) (l:List Int) (w:World) (hr:Row w w.heap.size A (qaa l)) (hm:l.length=m) (hl:m<=9223372036854775807):
  Calls Tryz.prog 161 #[.slice A m c] w fun e w'=>e= .returned (.bool (qcS l))/\w=w':=by
 have HR:=qH hr;clear hr;subst hm;rw [quy];obtain ⟨ans,hans⟩:∃ ans,ans=qdS (-1) l:=⟨_,rfl⟩;rw [<- hans];have HA:=qH hans;clear hans
 go_enter Tryz.func161,Tryz.ntmps161
 go_wp2
 go_loop [2,3,8] (fun r last i=>qwn l r last i) (fun _ _ i=>l.length-(intOf i).toNat)
 case atStart=>exact ⟨rfl,0, -1,by omega,rfl,rfl,rfl⟩
 case round=>
  obtain ⟨rfl,k,x,hk,rfl,rfl,hx⟩:=hrel;by_cases hlt:k<l.length
  ·obtain ⟨b1,o1,e1,_,hc1⟩:=qjv HR.out hlt
   subst e1;rw [quz hlt] at hx;obtain ⟨y,hy⟩:∃ y,y=l.getD k 0:=⟨_,rfl⟩;rw [<- hy] at hc1 hx;clear hy;by_cases hxy:y<=x
   ·rw [decide_eq_false (by omega),Bool.false_and,Bool.false_and,<- HA.out] at hx
    subst hx;have hd:decide (y<=x)=true:=decide_eq_true hxy;go_wp2;go_ret;exact ⟨rfl,rfl⟩
   ·have hd:decide (y<=x)=false:=decide_eq_false hxy
    by_cases hyb:2147483648<=y
    ·rw [decide_eq_false (p:=y<2147483648) (by omega),Bool.and_false,Bool.false_and,<- HA.out] at hx
     subst hx;have hd2:decide (2147483648<=y)=true:=decide_eq_true hyb;go_wp2;go_ret;exact ⟨rfl,rfl⟩
    ·rw [decide_eq_true (p:=x<y) (by omega),decide_eq_true (p:=y<2147483648) (by omega),Bool.true_and,Bool.true_and] at hx
     have hd2:decide (2147483648<=y)=false:=decide_eq_false hyb;have HX:=qH hx;clear hx;go_wp2
     go_round
     case rel=>exact ⟨rfl,k+1,y,by omega,by go_num,rfl,HX.out⟩
     case measure=>simp [intOf];omega
  ·have hx2:qdS x (l.drop k)=true:=by rw [List.drop_eq_nil_of_le (by omega)];rfl
   rw [hx2,<- HA.out] at hx;subst hx;clear hx2;go_wp2;go_ret;exact ⟨rfl,rfl⟩
def qwo (l:List Int) (r last i:Value):Prop:=r= .bool false/\∃ (k:Nat) (x:Int),k<=l.length/\i= .int .i64 (k:Int)/\last= .int .i64 x/\qaj x (l.drop k)=qaj (-1) l
theorem qwp (A:Option Addr) (m c:Nat) (l:List Int) (w:World) (hr:Row w w.heap.size A (qaa l)) (hm:l.length=m) (hl:m<=9223372036854775807):
  Calls Tryz.prog 203 #[.slice A m c] w fun e w'=>e= .returned (.bool (qaj (-1) l))/\w=w':=by
 have HR:=qH hr;clear hr;subst hm;obtain ⟨ans,hans⟩:∃ ans,ans=qaj (-1) l:=⟨_,rfl⟩;rw [<- hans];have HA:=qH hans;clear hans
 go_enter Tryz.func203,Tryz.ntmps203
 go_wp2
 go_loop [2,3,8] (fun r last i=>qwo l r last i) (fun _ _ i=>l.length-(intOf i).toNat)
 case atStart=>exact ⟨rfl,0, -1,by omega,rfl,rfl,rfl⟩
 case round=>
  obtain ⟨rfl,k,x,hk,rfl,rfl,hx⟩:=hrel;by_cases hlt:k<l.length
  ·obtain ⟨b1,o1,e1,_,hc1⟩:=qjv HR.out hlt
   subst e1;rw [qnl hlt] at hx;obtain ⟨y,hy⟩:∃ y,y=l.getD k 0:=⟨_,rfl⟩;rw [<- hy] at hc1 hx;clear hy;by_cases hxy:y<=x
   ·rw [decide_eq_false (by omega),Bool.false_and,<- HA.out] at hx
    subst hx;go_wp2;go_ret;exact ⟨rfl,rfl⟩
   ·rw [decide_eq_true (by omega),Bool.true_and] at hx
    have HX:=qH hx;clear hx;go_wp2
    go_round
    case rel=>exact ⟨rfl,k+1,y,by omega,by go_num,rfl,HX.out⟩
    case measure=>simp [intOf];omega
  ·rw [qtW (by omega),<- HA.out] at hx
   subst hx;go_wp2;go_ret;exact ⟨rfl,rfl⟩
def qfA (base:Nat) (bs:List UInt8) (w:World) (e:Ending) (w':World):Prop:=∃ v,e= .returned v/\Own base w' v bs/\Below base w w'
def qwq (base:Nat) (all:List UInt8) (n:Nat) (w:World) (v i:Value) (wr:World):Prop:=
 ∃ (cur:List UInt8) (x:Nat),i= .int .i64 (x:Int)/\x<=n/\cur.length<=all.length/\cur++qah x=all/\Buf base wr v cur/\Below base w wr
theorem qwr (v:Value) (bs:List UInt8) (n:Nat) (base:Nat) (w:World) (hb:Buf base w v bs) (hbase:base<=w.heap.size) (hn:n<9223372036854775808) (hl:bs.length<=1073741824):
  Calls Tryz.prog 204 #[v,.int .i64 (n:Int)] w (qfA base (bs++qah n) w):=by
 obtain ⟨i0,hi0,hz0,hz1,hz2⟩:=info_parts qhu;have h9:=qeX hn;obtain ⟨all,hall⟩:∃ all,all=bs++qah n:=⟨_,rfl⟩;have hal:all.length<=1073741833:=by rw [hall,List.length_append];omega
 rw [<- hall];have HALL:=qH hall;have HB:=qH hb;clear hall hb
 go_enter Tryz.func204,Tryz.ntmps204
 go_wp2
 go_loopw [0,1] (fun v i wr=>qwq base all n w v i wr) (fun _ i _=>(intOf i).toNat)
 case atStart=>exact ⟨bs,n,rfl,Nat.le_refl _,by rw [HALL.out];simp,HALL.out.symm,HB.out,Below.refl _ _⟩
 case round=>
  obtain ⟨cur,x,rfl,hx,hcl,hcat,hbuf,hbw⟩:=hrel;have hsz:=hbw.size;have HBUF:=qH hbuf;have HCAT:=qH hcat;clear hbuf hcat;by_cases h:128<=x
  ·obtain ⟨c,hc⟩:∃ c,c=UInt8.ofNat (128+x%128):=⟨_,rfl⟩
   have hcn:Hid (c.toNat=128+x%128):=qH (by rw [hc,qeg (by omega)]);have hcat2:(cur++[c])++qah (x/128)=all:=by
    rw [<- HCAT.out,qef h,List.append_assoc,hc];rfl
   have hcl2:(cur++[c]).length<=all.length:=by rw [<- hcat2,List.length_append (bs:=qah (x/128))];omega
   clear hc;have HC2:=qH hcat2;have HL2:=qH hcl2;clear hcat2 hcl2
   go_wp2_with (at_builtin;refine qhv _ rfl (.tmp 9) (.tmp 14) 178 rfl base i0 _ Tryz.underlying178 hi0 hz0 hz1 hz2 rfl _ cur rfl (HBUF.out.alloc (by omega) _) (by simp;omega) ⟨wr.heap.size,0,none⟩ 1 _ rfl (qaQ wr [.int .u8 _] 5) c (by rw [hcn.out];omega) (by omega) ?_)
   intro v' w3 hown3 hb3;go_wp2;go_roundw
   case rel=>exact ⟨_,x/128,by go_num,by omega,HL2.out,HC2.out,hown3.buf,(hbw.alloc (by omega) _).trans hb3⟩
   case measure=>simp [intOf];omega
  ·obtain ⟨c,hc⟩:∃ c,c=UInt8.ofNat x:=⟨_,rfl⟩
   have hcn:Hid (c.toNat=x):=qH (by rw [hc,qeg (by omega)]);have hcat2:cur++[c]=all:=by rw [<- HCAT.out,qdZ (by omega),hc]
   clear hc;have HC2:=qH hcat2;clear hcat2
   go_wp2_with (at_builtin;refine qhv _ rfl (.tmp 16) (.tmp 19) 178 rfl base i0 _ Tryz.underlying178 hi0 hz0 hz1 hz2 rfl _ cur rfl (HBUF.out.alloc (by omega) _) (by simp;omega) ⟨wr.heap.size,0,none⟩ 1 _ rfl (qaQ wr [.int .u8 _] 5) c (by rw [hcn.out]) (by omega) ?_)
   intro v' w3 hown3 hb3;go_wp2;go_ret;exact ⟨_,rfl,by rw [<- HC2.out];exact hown3,(hbw.alloc (by omega) _).trans hb3⟩
theorem qws (A:Option Addr) (m c:Nat) (bs:List UInt8) (n:Nat) (w:World) (hm:bs.length=m) (hc:m<=c) (hr:Row w w.heap.size A (Lib.byteCells bs)) (hn:n<9223372036854775808) (hl:bs.length<=1073741824):
  Calls Tryz.prog 164 #[.slice A m c,.int .i64 (n:Int)] w (qfA w.heap.size (bs++qah n) w):=by
 have HR:=qH hr;clear hr;subst hm
 go_enter Tryz.func164,Tryz.ntmps164
 go_wp2_with (go_at_call 204;refine (qwr _ bs n w.heap.size _ (.inl ⟨A,?_,HR.out⟩) (Nat.le_refl _) hn hl).mono ?_)
 ·rfl
 rintro e w2 ⟨v,rfl,hown,hb⟩;go_wp2;go_ret;exact ⟨_,rfl,hown,hb⟩
def qwt (base:Nat) (all:List UInt8) (n:Nat) (w:World) (v i:Value) (wr:World):Prop:=
 ∃ (cur:List UInt8) (x:Nat),i= .int .i64 (x:Int)/\x<=n/\cur.length<=all.length/\cur++qah x=all/\Buf base wr v cur/\Below base w wr
theorem qoY (v:Value) (bs:List UInt8) (n:Nat) (base:Nat) (w:World) (hb:Buf base w v bs) (hbase:base<=w.heap.size) (hn:n<9223372036854775808) (hl:bs.length<=1000000000000):
  Calls Tryz.prog 204 #[v,.int .i64 (n:Int)] w (qfA base (bs++qah n) w):=by
 obtain ⟨i0,hi0,hz0,hz1,hz2⟩:=info_parts qhu;have h9:=qeX hn;obtain ⟨all,hall⟩:∃ all,all=bs++qah n:=⟨_,rfl⟩;have hal:all.length<=1000000000009:=by rw [hall,List.length_append];omega
 rw [<- hall];have HALL:=qH hall;have HB:=qH hb;clear hall hb
 go_enter Tryz.func204,Tryz.ntmps204
 go_wp2
 go_loopw [0,1] (fun v i wr=>qwt base all n w v i wr) (fun _ i _=>(intOf i).toNat)
 case atStart=>exact ⟨bs,n,rfl,Nat.le_refl _,by rw [HALL.out];simp,HALL.out.symm,HB.out,Below.refl _ _⟩
 case round=>
  obtain ⟨cur,x,rfl,hx,hcl,hcat,hbuf,hbw⟩:=hrel;have hsz:=hbw.size;have HBUF:=qH hbuf;have HCAT:=qH hcat;clear hbuf hcat;by_cases h:128<=x
  ·obtain ⟨c,hc⟩:∃ c,c=UInt8.ofNat (128+x%128):=⟨_,rfl⟩
   have hcn:Hid (c.toNat=128+x%128):=qH (by rw [hc,qeg (by omega)]);have hcat2:(cur++[c])++qah (x/128)=all:=by
    rw [<- HCAT.out,qef h,List.append_assoc,hc];rfl
   have hcl2:(cur++[c]).length<=all.length:=by rw [<- hcat2,List.length_append (bs:=qah (x/128))];omega
   clear hc;have HC2:=qH hcat2;have HL2:=qH hcl2;clear hcat2 hcl2
   go_wp2_with (at_builtin;refine qhv _ rfl (.tmp 9) (.tmp 14) 178 rfl base i0 _ Tryz.underlying178 hi0 hz0 hz1 hz2 rfl _ cur rfl (HBUF.out.alloc (by omega) _) (by simp;omega) ⟨wr.heap.size,0,none⟩ 1 _ rfl (qaQ wr [.int .u8 _] 5) c (by rw [hcn.out];omega) (by omega) ?_)
   intro v' w3 hown3 hb3;go_wp2;go_roundw
   case rel=>exact ⟨_,x/128,by go_num,by omega,HL2.out,HC2.out,hown3.buf,(hbw.alloc (by omega) _).trans hb3⟩
   case measure=>simp [intOf];omega
  ·obtain ⟨c,hc⟩:∃ c,c=UInt8.ofNat x:=⟨_,rfl⟩
   have hcn:Hid (c.toNat=x):=qH (by rw [hc,qeg (by omega)]);have hcat2:cur++[c]=all:=by rw [<- HCAT.out,qdZ (by omega),hc]
   clear hc;have HC2:=qH hcat2;clear hcat2
   go_wp2_with (at_builtin;refine qhv _ rfl (.tmp 16) (.tmp 19) 178 rfl base i0 _ Tryz.underlying178 hi0 hz0 hz1 hz2 rfl _ cur rfl (HBUF.out.alloc (by omega) _) (by simp;omega) ⟨wr.heap.size,0,none⟩ 1 _ rfl (qaQ wr [.int .u8 _] 5) c (by rw [hcn.out]) (by omega) ?_)
   intro v' w3 hown3 hb3;go_wp2;go_ret;exact ⟨_,rfl,by rw [<- HC2.out];exact hown3,(hbw.alloc (by omega) _).trans hb3⟩
def qwu (base:Nat) (all:List UInt8) (l:List Int) (w:World) (v last i:Value) (wr:World):Prop:=
 ∃ (cur:List UInt8) (k:Nat) (x:Int),k<=l.length/\i= .int .i64 (k:Int)/\last= .int .i64 x/\ -1<=x/\qaj x (l.drop k)=true/\cur.length<=all.length/\cur++dB x (l.drop k)=all/\Own base wr v cur/\Below base w wr
theorem qwv (A:Option Addr) (m c:Nat) (bs:List UInt8) (C:Option Addr) (n d:Nat) (l:List Int) (w:World) (hm:bs.length=m) (hc:m<=c) (hr:Row w w.heap.size A (Lib.byteCells bs)) (hl:m<=400000000000)
  (hn:l.length=n) (hn20:n<=2147483648) (hrl:Row w w.heap.size C (qaa l)) (hb:∀ x∈l,x<=9223372036854775807) (hri:qaj (-1) l=true):
  Calls Tryz.prog 163 #[.slice A m c,.slice C n d] w fun e w'=>∃ v,e= .returned (.tuple #[v,.int .i64 0])/\Own w.heap.size w' v (bs++qbv l)/\Below w.heap.size w w':=by
 subst hm hn;have hdl:=qiW l (-1) (by omega) hri hb;have h9:=qeX (n:=l.length) (by omega);obtain ⟨all,hall⟩:∃ all,all=bs++qbv l:=⟨_,rfl⟩;have hal:all.length<=800000000000:=by rw [hall,qbv,List.length_append,List.length_append];omega
 rw [<- hall];have HALL:=qH hall;have HR:=qH hr;have HRL:=qH hrl;have HB:=qH hb;have r1:=qwp C l.length d l w hrl rfl (by omega);rw [hri] at r1;have HRI:=qH hri;have R1:=qH r1;clear hall hr hrl hb r1 hri hdl
 go_enter Tryz.func163,Tryz.ntmps163
 go_wp2_with (first
  |(go_at_call 203;refine R1.out.mono ?_;rintro e w' ⟨rfl,rfl⟩)
  |(go_at_call 204;refine (qoY _ bs l.length w.heap.size _ (.inl ⟨A,rfl,HR.out⟩) (Nat.le_refl _) (by omega) (by omega)).mono ?_))
 rintro e w2 ⟨v,rfl,hown,hb2⟩;have HOWN:=qH hown;have HB2:=qH hb2;clear hown hb2;go_wp2
 go_loopw [0,6,23] (fun v last i wr=>qwu w.heap.size all l w v last i wr) (fun _ _ i _=>l.length-(intOf i).toNat)
 case atStart=>exact ⟨bs++qah l.length,0, -1,by omega,rfl,rfl,by omega,HRI.out,by rw [HALL.out,qbv,List.length_append,List.length_append,List.length_append];omega,by rw [HALL.out,qbv,List.append_assoc];rfl,HOWN.out,HB2.out⟩
 case round=>
  obtain ⟨cur,k,x,hk,rfl,rfl,hx1,hris,hcl,hcat,hown,hbw⟩:=hrel;have hsz:=hbw.size;have HOW:=qH hown;clear hown;by_cases hlt:k<l.length
  ·obtain ⟨b1,o1,e1,_,hc1⟩:=qjv (HRL.out.below hbw) hlt
   subst e1;rw [qnl hlt,Bool.and_eq_true,decide_eq_true_iff] at hris;rw [qtX hlt,<- List.append_assoc] at hcat;have hyb:l.getD k 0<=9223372036854775807:=HB.out _ (by rw [List.getD_eq_getElem?_getD,List.getElem?_eq_getElem hlt];simp);obtain ⟨y,hy⟩:∃ y,y=l.getD k 0:=⟨_,rfl⟩;rw [<- hy] at hc1 hris hcat hyb;obtain ⟨hxy,hris⟩:=hris;obtain ⟨g,hg⟩:∃ g:Nat,y-(x+1)=(g:Int):=⟨(y-(x+1)).toNat,by omega⟩;rw [hg,Int.toNat_natCast] at hcat;have hcl2:(cur++qah g).length<=all.length:=by rw [<- hcat,List.length_append (bs:=dB y _)];omega
   have HCAT:=qH hcat;have HRIS:=qH hris;have HCL:=qH hcl2;have VA:Hid (Calls Tryz.prog 204 #[u0,.int .i64 (g:Int)] wr (qfA w.heap.size (cur++qah g) wr)):=
    qH (by exact qoY u0 cur g w.heap.size _ HOW.out.buf (by omega) (by omega) (by omega))
   clear hcat hris hcl2 hy
   go_wp2_with (go_at_call 204;refine VA.out.mono ?_)
   rintro e w3 ⟨v3,rfl,hown3,hb3⟩;go_wp2;go_roundw
   case rel=>exact ⟨_,k+1,y,by omega,by go_num,rfl,by omega,HRIS.out,HCL.out,HCAT.out,hown3,hbw.trans hb3⟩
   case measure=>simp [intOf];omega
  ·rw [qtY (by omega),List.append_nil] at hcat
   subst hcat;go_wp2;go_ret2;exact ⟨_,rfl,HOW.out,hbw⟩
end Go.Proofs.YtpehcaidjlemiaaGreatDoor
