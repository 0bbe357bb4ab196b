import Derived.Test.YtpehcaidjlemiaaGreatDoorMNZz
import Derived.Test.YtpehcaidjlemiaaGreatDoorMNQ13
import Derived.Test.YtpehcaidjlemiaaGreatDoorMNQ15
import Derived.Test.YtpehcaidjlemiaaGreatDoorMNQ08
import Derived.BigRegion
import Derived.Deep.AppendLies
import Derived.Deep.RegionLaw
import Derived.Test.YtpehcaidjlemiaaGreatDoorMNQ06
import Derived.Test.YtpehcaidjlemiaaGreatDoorMNQ09
import Derived.Test.YtpehcaidjlemiaaGreatDoorMNQ12
import Derived.Test.YtpehcaidjlemiaaGreatDoorMNQ10
import Derived.RangeFuncNested
import Derived.RangeFuncBound
import Derived.RangeFuncCalls
import Derived.RangeFuncLeaves
import Derived.RangeFuncBox
import Derived.OwnWalkIn
import Derived.TacticsInMore
import Derived.LoopNIn
import Derived.LoopIn
import Derived.Maps.AppendAt
import Derived.Shelf.Abstract
import Derived.Shelf.RegionOpen
import Derived.Test.YtpehcaidjlemiaaGreatDoorMNQ01
set_option maxHeartbeats 4000000
set_option maxRecDepth 100000
set_option linter.unusedVariables false
namespace Go.Proofs.YtpehcaidjlemiaaGreatDoor
open Go Go.RowKit
def qd0 (rs:List (List Bool)):List (List Int):=rs.map fun r=>qcx (qbf r)
theorem qhJ:∀ {Ls:List (List En)} {rs:List (List Bool)},qbi Ls rs->(qaz Ls rs).length=Ls.length
 |_,_,.nil=>rfl
 |_,_,.cons h hs=>by rw [qaz,List.length_cons,List.length_cons,qhJ hs]
theorem qjQ:∀ {Ls:List (List En)} {rs:List (List Bool)},qbi Ls rs->∀ k (h1:k<Ls.length) (h2:k<rs.length) (h3:k<(qaz Ls rs).length),(qaz Ls rs)[k]=qbG Ls[k] rs[k]
 |_,_,.nil,k,h,_,_=>by simp at h
 |_,_,.cons h hs,0,_,_,_=>rfl
 |_,_,.cons h hs,k+1,h1,h2,h3=>by
  simp only [qaz,zC];exact qjQ hs k _ _ _
theorem qvE {L:List En} {r:List Bool} (h:r.length=L.length) {j:Nat} (hj:j<(qbf r).length) (hj2:j<(qar (qbG L r)).length):qdu (qad L).seqs ((qbf r)[j]:Int)=(qar (qbG L r))[j]:=by
 have hlt:(qbf r)[j]<L.length:=by have :=qi1 (List.getElem_mem hj);omega
 have hs:(qad L).seqs=L.map (·.2.2):=rfl;unfold qdu;rw [hs,if_pos ⟨by omega,by simpa using (by omega:((qbf r)[j]:Int)<(L.length:Int))⟩];simp [qar,qbG,List.getD_eq_getElem?_getD,List.getElem?_eq_getElem hlt]
def qou (Ls:List (List En)) (rs:List (List Bool)) (w:World) (e:Ending) (w':World):Prop:=∃ (err:Int) (o:List Pl) (v:Value),qea ((qaz Ls rs).map qar) err o/\e= .returned (.tuple #[v,.int .i64 err])/\w'.ownsRow w.heap.size 88 2 v (qb1 rs o).length (plc (qb1 rs o))/\Below w.heap.size w w'/\o.length<=1000000
structure qov (Ls:List (List En)) (rs:List (List Bool)) (w:World) (m lo k D1 D2:Nat) (wr:World):Prop where
 docs:qa2 (qd0 rs) w D1 m lo k wr
 seqs:qa2 ((qaz Ls rs).map qar) w D2 m lo k wr
 ne:D1≠D2
 size:lo<=wr.heap.size
 from1:w.heap.size<=D1
 from2:w.heap.size<=D2
def qjR (Ls:List (List En)) (rs:List (List Bool)) (w:World) (m:Nat) (s6 s7:Value) (wr:World):Prop:=∃ D1 D2 lo,s6= .slice (some ⟨D1,0,none⟩) m m/\s7= .slice (some ⟨D2,0,none⟩) m m/\qov Ls rs w m lo 0 D1 D2 wr
def qjS (Ls:List (List En)) (rs:List (List Bool)) (w:World) (m lo D1 D2 k Bk:Nat) (s1 s2:List Int) (Av:Option Addr) (cs0:List Value) (idx:Value) (wx:World):Prop:=∃ (j:Nat) (v:Value),idx= .int .i64 (j:Int)/\qc9 ((qaz Ls rs).map qar) w D2 m lo k Bk j s2 v cs0 wx/\qfr (qd0 rs) w D1 m lo (k+1) Bk wx/\qcD wx lo Bk Av (qaa s1)
theorem qvF (r:List Bool):qdh (Plain.ones r)=qaa (qcx (qbf r)):=by
 unfold qdh qaa qcx;rw [List.map_map];rfl
theorem qow:∀ (o:List Pl) (q:Nat) (hq:q<o.length) (y:Nat),(plc o).set (q*2+1) (.int .i64 (y:Int))=plc (o.set q (o[q].1,y))
 |[],q,h,_=>by simp at h
 |p::o,0,_,y=>by simp [plc]
 |p::o,q+1,h,y=>by
  rw [show (q+1)*2+1=(q*2+1)+1+1 by omega];simp only [plc,zF,zC];rw [qow o q (by simpa using h) y]
theorem qvG {α:Type} {a b:List α} (h:a.length=b.length) {q:Nat} (hq:q<a.length):(a.take q++b.drop q).set q a[q]=a.take (q+1)++b.drop (q+1):=by
 have h1:(a.take q).length=q:=by rw [List.length_take];omega
 rw [List.set_append_right _ _ (by omega),h1,Nat.sub_self,List.drop_eq_getElem_cons (l:=b) (by omega),zE,List.take_succ_eq_append_getElem hq,List.append_assoc];rfl
theorem qvH {α:Type} {a b:List α} (h:a.length=b.length) {q:Nat} (hq:q<b.length) (h2:q<(a.take q++b.drop q).length):(a.take q++b.drop q)[q]=b[q]:=by
 have h1:(a.take q).length=q:=by rw [List.length_take];omega
 rw [List.getElem_append_right (by omega)];simp [h1]
theorem qvI {w:World} {b:Nat} {x y:Value} {t:TypeId} (h:w.heap[b]?=some (.cells #[x,y] t (0,0))):w.cell? ⟨b,0,none⟩=some x/\w.cell? ⟨b,1,none⟩=some y:=by
 simp [World.cell?,h]
def qjT (rs:List (List Bool)) (o:List Pl) (wo:World) (vo idx:Value) (M:Nat) (wr:World):Prop:=∃ q:Nat,q<=M/\idx= .int .i64 (q:Int)/\wr.ownsRow wo.heap.size 88 2 vo M (plc ((qb1 rs o).take q++o.drop q))/\Below wo.heap.size wo wr
def qjU (Ls:List (List En)) (rs:List (List Bool)) (w:World) (m lo D1 D2:Nat) (idx:Value) (wr:World):Prop:=∃ k:Nat,idx= .int .i64 (k:Int)/\qov Ls rs w m lo k D1 D2 wr
theorem qvJ (A A2:Option Addr) (m c c2:Nat) (Ls:List (List En)) (rs:List (List Bool)) (w:World) (hS:qdB w A Ls) (hR:qed w A2 rs) (hf:qbi Ls rs) (hm:Ls.length=m) (hmx:m<=1000) (hl:∀ L∈Ls,L.length<=1000) (hT:Tab w):
    Calls Tryz.prog 38 #[.slice A m c,.slice A2 m c2] w (qou Ls rs w):=by
  obtain ⟨i0,ii0,iz0,iz1,iz2⟩:=info_parts qjf;obtain ⟨j0,ji0,jz0,jz1,jz2⟩:=info_parts qdi;obtain ⟨hfl,hfa⟩:=qfp.1 hf;have hdl:(qd0 rs).length=m:=by simp [qd0];omega
  have hsl:((qaz Ls rs).map qar).length=m:=by rw [List.length_map,qhJ hf,hm]
  have hrep:(madeCells (Value.slice none 0 0).cells (m*1)).toList=List.replicate m qa1:=by
    rw [show (Value.slice none 0 0).cells=#[.slice none 0 0] from rfl,toList_madeCells_one,Nat.mul_one]
  obtain ⟨w1,hrun1,hown1,hgrow1⟩:=run_make_full (P:=Tryz.prog) w.drew w.heap.size 92 23 i0 _ 1 Tryz.underlying92 ii0 iz0 iz1 .i64 .i64 m (by rw [iz2];omega) (by unfold maxLen;omega) (Nat.le_refl _);have hb1:Below w.heap.size w w1:=(Below.refl _ w).drew.grown hgrow1 (Nat.le_refl _) (fun k hk=>by cases hk);have hsz1:w.heap.size<w1.heap.size:=(hown1.lt _ rfl).2;obtain ⟨w2,hrun2,hown2,hgrow2⟩:=run_make_full (P:=Tryz.prog) w1 w.heap.size 92 23 i0 _ 1 Tryz.underlying92 ii0 iz0 iz1 .i64 .i64 m (by rw [iz2];omega) (by unfold maxLen;omega) hb1.size;have hb2:Below w1.heap.size w1 w2:=(Below.refl _ w1).grown hgrow2 (Nat.le_refl _) (fun k hk=>by cases hk);rw [hrep] at hown1 hown2;have hsz2:w1.heap.size<w2.heap.size:=(hown2.lt _ rfl).2;have hbw2:Below w.heap.size w w2:=hb1.trans (hb2.mono hb1.size);have ho1:=qao hown1 hb2;have ti1:qjR Ls rs w m (.slice (some ⟨w.heap.size,0,none⟩) m m) (.slice (some ⟨w1.heap.size,0,none⟩) m m) w2:=
    ⟨_,_,w2.heap.size,rfl,rfl,qa2.begin2 ho1 (by omega) hdl hbw2,qa2.begin2 hown2 (by omega) hsl hbw2,by omega,Nat.le_refl _,Nat.le_refl _,hb1.size⟩
  have ti2:qjR Ls rs w m (.slice (some ⟨w1.heap.size,0,none⟩) m m) (.slice (some ⟨w.heap.size,0,none⟩) m m) w2:=
    ⟨_,_,w2.heap.size,rfl,rfl,qa2.begin2 hown2 (by omega) hdl hbw2,qa2.begin2 ho1 (by omega) hsl hbw2,by omega,Nat.le_refl _,hb1.size,Nat.le_refl _⟩
  have TI1:=qH ti1;have TI2:=qH ti2;have HS:=qH hS;have HR:=qH hR;have HF:=qH hf;have HM:=qH hm;have HLN:=qH hl;have HT:=qH hT;have HFA:=qH hfa;have HFL:=qH hfl;have HDL:=qH hdl;have HSL:=qH hsl;clear ti1 ti2 ho1 hbw2 hsz2 hown1 hown2 hgrow1 hgrow2 hb1 hb2 hsz1 hrep hS hR hf hm hl hT hfa hfl hdl hsl;have hrun1':(Instr.makeSlice 92 (.int .i64 (m:Int)) (.int .i64 (m:Int))).run Tryz.prog w.drew= .ok (.slice (some ⟨w.heap.size,0,none⟩) m m) w1:=hrun1
  go_enter Tryz.func38,Tryz.ntmps38
  go_upto_region 1 with fail
  go_cut [6,7] from 16 to 21 (fun s6 s7 wx=>qjR Ls rs w m s6 s7 wx)
  case first=>
    go_region
    all_goals
      go_wp2_with fail
      go_meet
      first
        |exact TI1.out
        |exact TI2.out
  case rest=>
    obtain ⟨D1,D2,lo,rfl,rfl,htwo⟩:=hcut;have HTWO:=qH (show qjU Ls rs w m lo D1 D2 (.int .i64 0) _ from ⟨0,rfl,htwo⟩)
    clear htwo TI1 TI2 hrun1 hrun1' hrun2;go_wp2
    go_loopw [8,9,11,24,40,41,42] (fun u8 u9 u11 idx u40 u41 u42 wr=>qjU Ls rs w m lo D1 D2 idx wr) (fun _ _ _ idx _ _ _ _=>m-(intOf idx).toNat)
    case atStart=>exact HTWO.out
    case round=>
      clear HTWO;obtain ⟨k,rfl,htwo⟩:=hrel;obtain ⟨wo,hwo⟩:∃ wo,wo=wr:=⟨_,rfl⟩;subst hwo;by_cases hkm:k<m
      · have hk1:k<Ls.length:=by rw [HM.out];exact hkm
        have hk2:k<rs.length:=by rw [<- HFL.out];exact hk1
        have hk3:k<(qaz Ls rs).length:=by rw [qhJ HF.out];exact hk1
        obtain ⟨_,_,hbw,_⟩:=htwo.docs.low;obtain ⟨b,off,S,rfl,hb,q1,hseg⟩:=(HS.out).at_ hk1;obtain ⟨b2,off2,B,base,rfl,hb2,q2,hset⟩:=(HR.out).at_ hk2;have hlen:=(HFA.out) k hk1 hk2;have hln:=(HLN.out) _ (List.getElem_mem hk1);have C1:=qvD base B rs[k] wo (hset.below hbw) (by unfold big;omega) ((HT.out).below hbw (HT.out).lt);have r1:=(hbw.cell (p:=⟨b,off+k,none⟩) hb).trans q1;have r2:=(hbw.cell (p:=⟨b2,off2+k,none⟩) hb2).trans q2;have hs1:∀ h:k<(qd0 rs).length,(qd0 rs)[k]=qcx (qbf rs[k]):=fun h=>by simp [qd0]
        have hs2:∀ h:k<((qaz Ls rs).map qar).length,((qaz Ls rs).map qar)[k]=qar (qbG Ls[k] rs[k]):=fun h=>by rw [List.getElem_map,qjQ HF.out k hk1 hk2]
        have hsq:∀ j (hj:j<(qbf rs[k]).length) (hj2:j<(qar (qbG Ls[k] rs[k])).length),qdu (qad Ls[k]).seqs ((qbf rs[k])[j]:Int)=(qar (qbG Ls[k] rs[k]))[j]:=fun j hj hj2=>qvE hlen hj hj2
        have hl2:(qar (qbG Ls[k] rs[k])).length=(qbf rs[k]).length:=by simp [qar,qbG]
        have hll:(qbf rs[k]).length<=rs[k].length:=by
          have :=List.length_filter_le (fun i=>rs[k].getD i false) (List.range rs[k].length);rwa [List.length_range] at this
        obtain ⟨s1,hes1⟩:∃ s1,s1=qcx (qbf rs[k]):=⟨_,rfl⟩;obtain ⟨s2,hes2⟩:∃ s2,s2=qar (qbG Ls[k] rs[k]):=⟨_,rfl⟩;have hsl1:s1.length=(qbf rs[k]).length:=by rw [hes1];simp [qcx]
        have hsl2:s2.length=s1.length:=by rw [hes2,hl2,hsl1]
        have hsq2:∀ j (h1:j<s1.length) (h2:j<s2.length),qdu (qad Ls[k]).seqs s1[j]=s2[j]:=fun j h1 h2=>by
          have :=hsq j (by omega) (by rw [hl2];omega);simp only [hes1,hes2];rw [<- this];simp [qcx]
        rw [<- hes1] at hs1;rw [<- hes2] at hs2;have C1':Calls Tryz.prog 81 #[.pointer (some ⟨B,0,none⟩)] wo fun e w'=>∃ v,e= .returned v/\w'.ownsRow wo.heap.size 3 1 v s1.length (qaa s1)/\Below wo.heap.size wo w':=by
          refine C1.mono ?_;rintro e w' ⟨v,h1,h2,h3⟩;refine ⟨v,h1,?_,h3⟩;rw [qvF,<- hes1] at h2;rwa [hsl1]
        have hsegW:∀ W,Below w.heap.size w W->∀ i:Int,Calls Tryz.prog 40 #[.pointer (some ⟨S,0,none⟩),.int .i64 i] W fun e w'=>e= .returned (.int .i64 (qdu (qad Ls[k]).seqs i))/\Below W.heap.size W w':=fun W hW i=>qnA (hseg.below hW) i
        obtain ⟨xs,hxs⟩:∃ xs,xs=(qad Ls[k]).seqs:=⟨_,rfl⟩;rw [<- hxs] at hsegW hsq2;have hn3:s1.length<=1000:=by omega
        have HC1:=qH C1';have HSEG:=qH hsegW;have HSQ:=qH hsq2;have HS1:=qH hs1;have HS2:=qH hs2;have HSL2:=qH hsl2;have HTW:=qH htwo;have hi1:(k:Int)<(m:Int):=by omega
        obtain ⟨n,hn⟩:∃ n,n=s1.length:=⟨_,rfl⟩;rw [<- hn] at hn3;have HN:=qH hn;clear C1 C1' hsegW hsq hsq2 hs1 hs2 hsl1 hsl2 hes1 hes2 hl2 hll hlen hln hseg hset hbw htwo hxs q1 q2 hn
        go_wp2_with (go_at_call 81; refine (HC1.out).mono ?_; rintro e w5 ⟨v, rfl, hown5, hb5⟩
                     obtain ⟨c5,f5,Av,cv,rfl,g1,g2,hrn,hup⟩:=(HTW.out).docs.put hkm (HTW.out).size hb5 (HS1.out) hown5;have HUP:=qH hup;have HRN:=qH hrn;have HB5:=qH hb5;rw [<- HN.out] at HRN;clear hown5 hup hrn hb5)
        try rw [<- HN.out]
        rw [<- HN.out] at HUP g1;obtain ⟨w6,hw6⟩:∃ w6,w6=w5.setCell ⟨D1,k,none⟩ (.slice Av n cv):=⟨_,rfl⟩;rw [<- hw6] at HUP HRN
        try rw [<- hw6]
        have hsz6:w6.heap.size=w5.heap.size:=by rw [hw6];simp [World.setCell]
        have hlo6:lo<=w6.heap.size:=by rw [hsz6];exact Nat.le_trans (HTW.out).size (HB5.out).size
        have hsq6:qa2 ((qaz Ls rs).map qar) w D2 m lo k w6:=by
          rw [hw6];exact ((HTW.out).seqs.later HB5.out).other (HTW.out).ne ((HTW.out).docs.low).1 (HTW.out).from1 _
        obtain ⟨cs0,hcs0,hmid⟩:=hsq6.mid (s:=s2) hkm hlo6;have hinit:qjS Ls rs w m lo D1 D2 k w6.heap.size s1 s2 Av cs0 (.int .i64 0) w6:=⟨0,_,rfl,hmid,(HUP.out).stay,by rw [hsz6];exact HRN.out⟩;have HINIT:=qH hinit;have HC0:=qH hcs0;have HLO:=qH hlo6;have HSS:Hid (s2.length=n):=qH (by rw [HSL2.out,<- HN.out]);have HNE:=qH (HTW.out).ne;have HF1:=qH (HTW.out).from1;have HD1:=qH ((HTW.out).docs.low).1;have HD2:=qH ((HTW.out).seqs.low).1;have HF2:=qH (HTW.out).from2;clear hinit hmid hsq6 hlo6 hsz6 hcs0 hw6 HUP HRN HB5 HTW c5 f5
        go_loopw [11,42] (fun u11 idx wx=>qjS Ls rs w m lo D1 D2 k w6.heap.size s1 s2 Av cs0 idx wx) (fun _ idx _=>n-(intOf idx).toNat)
        case atStart=>exact HINIT.out
        case round=>
          clear HINIT;obtain ⟨j,v,rfl,hmid,hstay,hrow⟩:=hrel;have hjl:=hmid.le;rw [HSS.out] at hjl;by_cases hjn:j<n
          · have hj1:j<s1.length:=by rw [<- HN.out];exact hjn
            have hj2:j<s2.length:=by rw [HSS.out];exact hjn
            obtain ⟨b3,o3,rfl,hb3,hcd⟩:=qcA hrow.row hj1;obtain ⟨Aw,cw,rfl,_,_,_⟩:=qbu hmid.mine;have hval:=(HSQ.out) j hj1 hj2;obtain ⟨d,hd⟩:∃ d,d=s1[j]:=⟨_,rfl⟩;rw [<- hd] at hcd hval;obtain ⟨t,ht⟩:∃ t,t=s2[j]:=⟨_,rfl⟩;rw [<- ht] at hval;have C2:=fun W (hW:Below wr.heap.size wr W)=>(HSEG.out) W (hmid.below.trans (hW.mono hmid.below.size)) d
            rw [hval] at C2;have HC2:=qH C2;obtain ⟨c8,f8⟩:=hmid.cell HC0.out hkm;have HMD:=qH hmid;have HST:=qH hstay;have HRW:=qH hrow;have HT2:=qH ht;have hjn1:(j:Int)<(n:Int):=by omega
            have hkm1:(k:Int)<(m:Int):=by omega
            have hDlt:=(hmid.own.lt D2 rfl).2;clear hmid hstay hrow ht hval C2 hd f8;go_wp2
            go_region_law (first
              | (refine step_append_lies _ (by rfl) _ _ _ (by rfl) w6.heap.size 3 j0 _ 1 8 Tryz.underlying23 ji0 jz0 jz1 jz2 rfl (by omega) (.slice Aw j cw) j (qaa (s2.take j)) (by rfl) (HMD7.out.mine.alloc _)
                  ⟨w7.heap.size,0,none⟩ 1 1 [.int .i64 t] (by rfl) (by rfl) (World.news_of_block (cs:=#[.int .i64 t]) (t:=3) (fr:=(0,0)) (heap_alloc_new w7 _)) (by intro u hu;simp at hu;subst hu;rfl)
                  (by omega) (by unfold maxLen;omega) (by omega) (by have :=(HMD7.out).top;simp;omega) (w7.heap.size+1) (by simp) ?_
                 intro gg cap w8 hown8 hgrow hat hlt1;rw [HT2.out] at hown8 hgrow;have hm7a:=(HMD7.out).later ((Below.refl w7.heap.size w7).alloc (Nat.le_refl _) (.cells #[.int .i64 s2[j]] 3));obtain ⟨cc8,ff8,hm8⟩:=hm7a.grow HC0.out hkm hj2 hown8 hgrow)
              | (go_simp; go_at_call 40; (with_reducible refine (HC2.out _ (Below.refl _ _).drew).mono ?_); rintro e w7 ⟨rfl, hb7⟩
                 have HB7:Hid (Below wr.heap.size wr w7):=qH ((Below.refl wr.heap.size wr).drew.trans hb7);have HMD7:=qH ((HMD.out).later HB7.out);obtain ⟨c9,f9⟩:=(HMD7.out).cell HC0.out hkm;have hDlt7:=((HMD7.out).own.lt D2 rfl).2;have c9a:∀ o,(w7.alloc o).cell? ⟨D2,k,none⟩=some (.slice Aw j cw):=fun o=>(((Below.refl w7.heap.size w7).alloc (Nat.le_refl _) o).cell (p:=⟨D2,k,none⟩) hDlt7).trans c9
                 clear hb7 f9))
            all_goals
              have hkeep:∀ x,x<w6.heap.size->x≠D2->(w8.setCell ⟨D2,k,none⟩ (.slice (some ⟨gg,0,none⟩) (j+1) cap)).heap[x]?=wr.heap[x]?:=fun x hx hne=>by
                have htop:=(HMD.out).top;have h7:=(HB7.out).size;rw [hm7a.kept hgrow hx hne,Below.heap_alloc _ _ _ (by omega),(HB7.out).block x (by omega)]
              have hsz8:wr.heap.size<=(w8.setCell ⟨D2,k,none⟩ (.slice (some ⟨gg,0,none⟩) (j+1) cap)).heap.size:=by
                have h7:=(HB7.out).size;have h8:=hgrow.size;simp [World.setCell] at h8 ⊢;omega
              have hfin:qjS Ls rs w m lo D1 D2 k w6.heap.size s1 s2 (some ⟨b3,o3,none⟩) cs0 (.int .i64 ((j:Int)+1)) (w8.setCell ⟨D2,k,none⟩ (.slice (some ⟨gg,0,none⟩) (j+1) cap)):=
                ⟨j+1,_,rfl,hm8,(HST.out).keep HLO.out (fun x hx hor=>hkeep x hx (hor.elim (fun h e=>HNE.out (h.symm.trans e)) (fun h e=>by have :=HD2.out;omega))) hsz8 hm8.below,(HRW.out).keep fun x hx1 hx2=>hkeep x hx2 (by have :=HD2.out;omega)⟩
              have HFIN:=qH hfin;clear hfin hkeep hsz8 hm8 hm7a hown8 hgrow hat hlt1;go_wp2;go_roundw
              case rel=>exact HFIN.out
              case measure=>simp [intOf];omega
          · have hjn2:j=s2.length:=by have :=HSS.out;omega
            have hupS:=hmid.done HC0.out hkm HSL.out hjn2 (HS2.out);have hfin:qjU Ls rs w m lo D1 D2 (.int .i64 ((k:Int)+1)) wr:=⟨k+1,rfl,hstay.up_,hupS,HNE.out,Nat.le_trans HLO.out hmid.top,HF1.out,HF2.out⟩;have HFIN:=qH hfin;clear hfin hupS hmid hstay hrow hjl;go_wp2;go_roundw
            case rel=>exact HFIN.out
            case measure=>simp [intOf];omega
      · obtain ⟨_,_,hbw,hkm3⟩:=htwo.docs.low
        have hkm2:k=m:=by omega
        subst hkm2;have hdl:∀ s∈(qaz Ls rs).map qar,s.length<=1000:=fun s hs=>by
          obtain ⟨L,hL,rfl⟩:=List.mem_map.1 hs;obtain ⟨K,hK,hsub⟩:=qi4 (x:=(0,[],0)) HF.out L hL;have h1:=hsub.length_le;have h2:=(HLN.out) K hK;simp only [qar,List.length_map];omega
        have C1:=qH (qom (some ⟨D2,0,none⟩) k k ((qaz Ls rs).map qar) wo htwo.seqs.all HSL.out hmx hdl);have HDC:=qH htwo.docs.all;have HBW:=qH hbw;clear htwo hbw hdl hkm3
        go_wp2_with (go_at_call 47; refine (C1.out).mono ?_; rintro e w2 ⟨err, o, v, hord, rfl, hro, hb2, hol⟩
                     obtain ⟨Ao,co,rfl,hco,hcm,_⟩:=qbu hro;have HORD:=qH hord;have HRO:=qH hro;have HB2:=qH hb2;clear hord hro hb2 hco)
        obtain ⟨M,hM⟩:∃ M,M=o.length:=⟨_,rfl⟩;have hlo:(qb1 rs o).length=o.length:=by simp [qb1]
        have hin:∀ q (hq:q<o.length),∃ x y,o[q]=(x,y)/\x<rs.length/\y<(qbf (rs.getD x [])).length:=fun q hq=>by
          have hp:=List.getElem_mem hq;have hio:qcb ((qaz Ls rs).map qar) o:=by
            cases HORD.out with
            |bad _=>exact absurd hq (Nat.not_lt_zero _)
            |twice _ _=>exact absurd hq (Nat.not_lt_zero _)
            |ok _ h=>exact h
          obtain ⟨g1,g2⟩:=(hio.mem o[q]).1 hp;have hl:=qhJ HF.out;rw [qav g1] at g2;rw [List.length_map] at g1;have h1:o[q].1<rs.length:=by have :=HFL.out;omega
          refine ⟨o[q].1,o[q].2,rfl,h1,?_⟩;rw [List.getElem_map,qjQ HF.out o[q].1 (by omega) h1] at g2;rw [qav h1];simpa [qar,qbG] using g2
        have hst3:qjT rs o wo (.slice Ao M co) (.int .i64 0) M w2:=⟨0,Nat.zero_le _,rfl,by rw [List.take_zero,List.nil_append,List.drop_zero,hM];exact HRO.out,HB2.out⟩;have HST3:=qH hst3;have HIN:=qH hin;have HLO:=qH hlo;have HMM:=qH hM
        try rw [<- hM]
        rw [<- hM] at hol;clear hst3 hin hlo hM HRO
        go_loopw [14,15,67] (fun u14 u15 idx wr=>qjT rs o wo (.slice Ao M co) idx M wr) (fun _ _ idx _=>M-(intOf idx).toNat)
        case atStart=>exact HST3.out
        case round=>
          clear HST3;obtain ⟨q,hq,rfl,hown,hbw⟩:=hrel;by_cases hqm:q<M
          · have hqo:q<o.length:=by rw [<- HMM.out];exact hqm
            rcases hown.2 with ⟨hv,h0⟩|⟨g,cap,cur,hv,hgb,hh,hnc,hcap,hcs,htake⟩
            · injection hv with _ hv _
              omega
            · injection hv with hv1 _ hv3
              subst hv1 hv3;obtain ⟨x,y,hxy,h1,h2⟩:=(HIN.out) q hqo;have hq2:q<((qb1 rs o).take q++o.drop q).length:=by rw [List.length_append,List.length_take,List.length_drop,HLO.out];omega
              have hmx1:=qvH HLO.out hqo hq2;have hmx2:=qvG HLO.out (q:=q) (by rw [HLO.out];exact hqo);obtain ⟨p1,p2⟩:=qjh hq2;rw [hmx1,hxy] at p1 p2;have c1:=(hown.cellAt (q*2) (by omega)).trans p1;have c2:=(hown.cellAt (q*2+1) (by omega)).trans p2;have f2:=hown.frozenAt (q*2+1);have hlq:(qb1 rs o)[q]'(by rw [HLO.out];exact hqo)=(x,(qbf (rs.getD x [])).getD y 0):=by
                simp only [qb1,List.getElem_map,hxy]
              obtain ⟨b1,o1,A',c',e1,hDb,d1,⟨dc1,dc2⟩,drow⟩:=((HDC.out).below hbw).at_ (i:=x) (by simpa [qd0] using h1);have hdx:(qd0 rs)[x]'(by simpa [qd0] using h1)=qcx (qbf (rs.getD x [])):=by rw [qav h1];simp [qd0]
              rw [hdx] at d1 dc1 drow;obtain ⟨r,hr⟩:∃ r,r=qbf (rs.getD x []):=⟨_,rfl⟩;rw [<- hr] at h2 hlq d1 dc1 drow;have hnr:(qcx r).length=r.length:=by simp [qcx]
              rw [hnr] at d1 dc1;obtain ⟨b2,o2,rfl,hb2',d2⟩:=qcA drow (k:=y) (by rw [hnr];exact h2);obtain ⟨z,hz⟩:∃ z,z=r.getD y 0:=⟨_,rfl⟩;have hz2:(qcx r)[y]'(by rw [hnr];exact h2)=(z:Int):=by rw [hz,qav h2];simp [qcx]
              rw [hz2] at d2;rw [<- hz] at hlq;injection e1 with e1
              injection e1 with e1 e2
              subst e1 e2;obtain ⟨nr,hnr2⟩:∃ nr,nr=r.length:=⟨_,rfl⟩;rw [<- hnr2] at d1 h2;obtain ⟨wy,hwy⟩:∃ wy,wy=wr.alloc (.cells #[.int .i64 (x:Int),.int .i64 (y:Int)] 88):=⟨_,rfl⟩;have hgl:=(Array.getElem?_eq_some_iff.1 hh).1;have hby:Below wr.heap.size wr wy:=by rw [hwy];exact (Below.refl _ wr).alloc (Nat.le_refl _) _
              obtain ⟨t1,t2⟩:wy.cell? ⟨wr.heap.size,0,none⟩=some (.int .i64 (x:Int))/\wy.cell? ⟨wr.heap.size,1,none⟩=some (.int .i64 (y:Int)):=by rw [hwy];exact qvI (heap_alloc_new wr _)
              have hownY:=qao hown hby;have hst:=(hownY.stored (q*2+1) (.int .i64 (z:Int))).1;rw [qow _ q hq2] at hst;simp only [hmx1,hxy] at hst;rw [<- hlq,hmx2] at hst;have cY:=(hby.cell (p:=⟨g,q*2+1,none⟩) hgl).trans c2;have fY:=(hby.frozen (p:=⟨g,q*2+1,none⟩) hgl).trans f2;have hsw:=hbw.size;have dY1:=(hby.cell (p:=⟨D1,0+x,none⟩) (by show D1<_;omega)).trans d1;have dY2:=(hby.cell (p:=⟨b2,o2+y,none⟩) (by show b2<_;omega)).trans d2;rw [Nat.zero_add] at dY1;have hfin:qjT rs o wo (.slice (some ⟨g,0,none⟩) M co) (.int .i64 ((q:Int)+1)) M (wy.setCell ⟨g,q*2+1,none⟩ (.int .i64 (z:Int))).drew:=
                ⟨q+1,hqm,rfl,hst,((hbw.trans (hby.mono hsw)).setCell (p:=⟨g,q*2+1,none⟩) hgb _).drew⟩
              have HFIN:=qH hfin;have HWY:=qH hwy;have hq1:(q:Int)<(M:Int):=by omega
              have hx1:(x:Int)<(k:Int):=by have h3:=HFL.out;have h4:=HM.out;omega
              have hy1:(y:Int)<(nr:Int):=by omega
              clear hfin hst hownY hown hbw hwy hby hlq hmx1 hmx2 p1 p2 hxy hdx hr hz hz2 hnr2 hnr drow hqo hh htake hcs f2 d1 d2;go_wp2;rw [<- HWY.out]
              go_region
              all_goals
                go_wp2;go_roundw
                case rel=>exact HFIN.out
                case measure=>simp [intOf];omega
          · have hqe:q=o.length:=by have :=HMM.out;omega
            have hfin:qou Ls rs w (.returned (.tuple #[.slice Ao M co,.int .i64 err])) wr:=by
              refine ⟨err,o,_,HORD.out,rfl,?_,(HBW.out).trans (hbw.mono (HBW.out).size),by have :=HMM.out;omega⟩;rw [List.take_of_length_le (by rw [HLO.out];omega),List.drop_of_length_le (by omega),List.append_nil] at hown;rw [HLO.out,<- HMM.out];exact qbg hown (HBW.out).size
            have HFIN:=qH hfin;clear hfin hown hbw;go_wp2;go_ret2;exact HFIN.out
structure qhK (Ls:List (List En)):Prop where
 good:∀ L∈Ls,qcL L/\qdA L/\L.length<=1000
 may:∀ L∈Ls,∀ q∈L,(qbd q.2.1=0/\∀ f∈q.2.1,f.1.length<=1024/\f.2.length<=1024)/\0<=q.2.2
 few:Ls.flatten.length<=100
theorem qox {Ls:List (List En)} {rs:List (List Bool)} (hf:qbi Ls rs) {o:List Pl} (ho:qcb ((qaz Ls rs).map qar) o):qal Ls (qb1 rs o)=o.map (qa0 (qaz Ls rs)):=by
 have hin:∀ p∈o,InE (qaz Ls rs) p:=fun p hp=>qgn.1 ((ho.mem p).1 hp)
 unfold qal qb1;rw [List.map_map];exact List.map_congr_left fun p hp=>(qmO hf (hin p hp)).2
theorem qhL {Ls:List (List En)} {rs:List (List Bool)} (hf:qbi Ls rs) {o:List Pl} (ho:qcb ((qaz Ls rs).map qar) o) (hg:∀ L∈Ls,qcL L/\qdA L/\L.length<=1000):qdb Ls (qb1 rs o):=by
 have hin:∀ p∈o,InE (qaz Ls rs) p:=fun p hp=>qgn.1 ((ho.mem p).1 hp)
 refine ⟨fun q hq=> ?_,?_,hg⟩
 ·obtain ⟨p,hp,rfl⟩:=List.mem_map.1 hq
  exact (qmO hf (hin p hp)).1
 ·have :=qox hf ho
  unfold qal at this;rw [this];exact (qi0 ho).1
theorem qoy {α:Type} [BEq α] [LawfulBEq α]:∀ {a b:List α},a.Nodup->(∀ x∈a,x∈b)->a.length<=b.length
 |[],b,_,_=>Nat.zero_le _
 |x::a,b,h,hs=>by
  have hx:=hs x (List.mem_cons_self ..);have hn:=List.nodup_cons.1 h;have h1:=qoy (a:=a) (b:=b.erase x) hn.2 fun y hy=>(List.mem_erase_of_ne (fun e=>hn.1 (by subst e;exact hy))).2 (hs y (List.mem_cons_of_mem _ hy))
  have h2:=List.length_erase_of_mem hx;have h3:=List.length_pos_of_mem hx;rw [List.length_cons];omega
theorem qvK {Ls:List (List En)} {rs:List (List Bool)} (hf:qbi Ls rs) {o:List Pl} (ho:qcb ((qaz Ls rs).map qar) o) (h:qhK Ls):o.length<=100:=by
 have hn:=(qhL hf ho h.good).nodup;have hsub:∀ p∈qb1 rs o,p∈((List.range Ls.length).flatMap fun i=>(List.range (Ls.getD i []).length).map fun k=>(i,k)):=fun p hp=>by
  obtain ⟨h1,h2⟩:=(qhL hf ho h.good).ins p hp;exact List.mem_flatMap.2 ⟨p.1,List.mem_range.2 h1,List.mem_map.2 ⟨p.2,List.mem_range.2 h2,rfl⟩⟩
 have h1:(qb1 rs o).length<=((List.range Ls.length).flatMap fun i=>(List.range (Ls.getD i []).length).map fun k=>(i,k)).length:=qoy hn hsub;have h2:((List.range Ls.length).flatMap fun i=>(List.range (Ls.getD i []).length).map fun k=>(i,k)).length=Ls.flatten.length:=by
  rw [List.length_flatMap,List.length_flatten];congr 1;refine List.ext_getElem (by simp) fun i hi1 hi2=> ?_
  have hi:i<Ls.length:=by simpa using hi2
  simp only [List.getElem_map,List.getElem_range,List.length_map,List.length_range,qav hi]
 have h3:=h.few;have h4:(qb1 rs o).length=o.length:=by simp [qb1]
 omega
theorem qvL {Ls:List (List En)} {rs:List (List Bool)} (hf:qbi Ls rs) {o:List Pl} (ho:qcb ((qaz Ls rs).map qar) o) (h:qhK Ls):qcf (qal Ls (qb1 rs o)):=by
 have hl:=qhL hf ho h.good;have hin:∀ q∈qal Ls (qb1 rs o),∃ L∈Ls,q∈L:=fun q hq=>by
  obtain ⟨i,hi,hq⟩:=qni hl hq;exact ⟨_,List.getElem_mem hi,hq⟩
 refine ⟨fun q hq=> ?_,?_,?_⟩
 ·obtain ⟨L,hL,hq⟩:=hin q hq
  exact (h.may L hL q hq).1
 ·have hr:qdA (qal Ls (qb1 rs o)):=hl.rise
  refine qfH (List.pairwise_map.2 hr) fun a ha=> ?_
  obtain ⟨q,hq,rfl⟩:=List.mem_map.1 ha;obtain ⟨L,hL,hq⟩:=hin q hq;have :=(h.may L hL q hq).2;omega
 ·have :=qvK hf ho h
  simp only [qal,qb1,List.length_map];exact this
theorem qvM {w:World} {B:Nat} {a b x y:Value} {t:TypeId} (h:w.heap[B]?=some (.cells #[a,b] t (0,0))):((w.setCell ⟨B,0,none⟩ x).setCell ⟨B,1,none⟩ y).heap[B]?=some (.cells #[x,y] t (0,0)):=
 heap_setCell_same _ B 1 #[x,b] t y (heap_setCell_same w B 0 #[a,b] t x h)
theorem qjV {w:World} {B:Nat} {x y:Value} {t:TypeId} (h:w.heap[B]?=some (.cells #[x,y] t (0,0))):w.cell? ⟨B,0,none⟩=some x/\w.cell? ⟨B,1,none⟩=some y/\w.frozen? ⟨B,0,none⟩=false/\w.frozen? ⟨B,1,none⟩=false:=by
 simp [World.cell?,World.frozen?,h]
theorem qjW (l:List Po):l.take (8*qay l.length)=l:=List.take_of_length_le (by unfold qay;omega)
theorem qvN (base B:Nat) (bs:List UInt8) (l:List Po) (w:World) (h:LAt w base B bs l) (hl:l.length<=1073741824):
  Calls Tryz.prog 118 #[.pointer (some ⟨B,0,none⟩)] w fun e w'=>e= .returned (.agg #[.int .i64 (qaD (-1) l),.int .i64 ((qab (-1) l).length:Int)])/\Below w.heap.size w w':=by
 have hal:=(Below.refl w.heap.size w).alloc (Nat.le_refl _) (.cells #[.int .i64 0,.int .i64 0] 206);have h1:=h.below hal;have hb:=qny base B bs l _ h1;have ha:=que base B bs l _ h1 (qay l.length) (Nat.le_refl _) hl;rw [qjW] at ha;have HAL:=qH hal;have HB:=qH hb;have HA:=qH ha;obtain ⟨n,hn⟩:∃ n,n=qay l.length:=⟨_,rfl⟩;rw [<- hn] at HA HB;obtain ⟨x,hx⟩:∃ x,x=qaD (-1) l:=⟨_,rfl⟩;obtain ⟨y,hy⟩:∃ y,y=(qab (-1) l).length:=⟨_,rfl⟩;rw [<- hx,<- hy] at HA ⊢;clear h h1 hal hb ha hn hx hy
 go_enter Tryz.func118,Tryz.ntmps118
 go_wp2_with (first
  |(go_at_call 141;refine HB.out.mono ?_;rintro e w' ⟨rfl,rfl⟩)
  |(go_at_call 165;refine HA.out.mono ?_))
 rintro e w3 ⟨rfl,hb3⟩;have hres:w3.heap[w.heap.size]?=some (.cells #[.int .i64 0,.int .i64 0] 206 (0,0)):=(hb3.block w.heap.size (by simp)).trans (heap_alloc_new w _);obtain ⟨c0,c1,f0,f1⟩:=qjV hres;have hb4:=HAL.out.trans (hb3.mono (by simp));have HR:=qH hres;have HB4:=qH hb4;clear hres hb4 hb3;go_wp2;refine bodyPost_ret (results_cell_row (P:=Tryz.prog) rfl _ _ w.heap.size 206 _ (0,0) _ rfl (qvM HR.out) Tryz.underlying206 rfl (by kernel_rfl)) rfl ?_;exact ⟨rfl,(HB4.out.setCell (Nat.le_refl _) _).setCell (Nat.le_refl _) _⟩
def qeh (t:TypeId):Prop:=t=181∨t=206∨t=5
structure qaU (base:Nat) (w w':World):Prop where
 below:Below base w w'
 keep:∀ (k:Nat) (o:Obj),w.heap[k]?=some o->(∀ cs t fr,o= .cells cs t fr->¬ qeh t)->w'.heap[k]?=some o
section
variable {base:Nat} {w w' w'':World}
theorem qaU.trans (h:qaU base w w') (k:qaU base w' w''):qaU base w w'':=⟨h.below.trans k.below,fun i o hi ho=>k.keep i o (h.keep i o hi ho) ho⟩
theorem qaU.of_below (h:Below w.heap.size w w') (hb:base<=w.heap.size):qaU base w w':=
 ⟨h.mono hb,fun k o hk _=>by rw [h.block k (Array.getElem?_eq_some_iff.1 hk).1,hk]⟩
theorem qaU.setCell {B i:Nat} {cs:Array Value} {t:TypeId} {fr:Nat × Nat} (h:w.heap[B]?=some (.cells cs t fr)) (ht:qeh t) (hb:base<=B) (v:Value):qaU base w (w.setCell ⟨B,i,none⟩ v):=
  ⟨(Below.refl base w).setCell (p := ⟨B, i, none⟩) hb v, fun k o hk ho => by
    by_cases e:k=B
    · subst e
      rw [h] at hk;injection hk with hk
      exact absurd ht (ho _ _ _ hk.symm)
    · rw [Below.heap_setCell _ _ _ _ e,hk]⟩
theorem qaU.grown {row:Option Nat} (hg:w.grownBy w' row) (hr:∀ k,row=some k->base<=k/\∃ cs t fr,w.heap[k]?=some (.cells cs t fr)/\qeh t) (hb:base<=w.heap.size):qaU base w w':=
  ⟨(Below.refl base w).grown hg hb (fun k e => (hr k e).1), fun k o hk ho => by
    rw [hg.block k (Array.getElem?_eq_some_iff.1 hk).1 ?_,hk];intro e;obtain ⟨_,cs,t,fr,h1,h2⟩:=hr k e.symm;rw [h1] at hk;injection hk with hk
    exact ho _ _ _ hk.symm h2⟩
theorem qaU.keepsOthers (h:qaU base w w'):KeepsOthers w w':=
 ⟨h.below.size,fun k o hk hc=>h.keep k o hk fun cs t fr e=>by subst e;cases hc⟩
theorem qeB {b:Nat} {e:TypeId} {size n:Nat} {v:Value} {xs:List Value} (h:w.ownsRow b e size v n xs) {g:Nat} (hg:v.ownBlock=some g):∃ cs fr,w.heap[g]?=some (.cells cs e fr):=by
 rcases h.2 with ⟨rfl,_⟩|⟨g',cap,cur,rfl,_,hh,r⟩
 ·cases hg
 ·simp only [Value.ownBlock,Option.some.injEq] at hg
  subst hg;exact ⟨_,_,hh⟩
theorem qaU.grownOwn {e:TypeId} {size n:Nat} {v:Value} {xs:List Value} (ho:w.ownsRow base e size v n xs) (he:qeh e) (hg:w.grownBy w' v.ownBlock) (hb:base<=w.heap.size):qaU base w w':=
 qaU.grown hg (fun k hk=>⟨(ho.lt k hk).1,by obtain ⟨cs,fr,h⟩:=qeB ho hk;exact ⟨cs,e,fr,h,he⟩⟩) hb
def qei (base:Nat) (w:World) (A:Option Addr) (xs:List Value):Prop:=
 xs=[]∨∃ b off,A=some ⟨b,off,none⟩/\b<w.heap.size/\(b<base∨∃ cs t fr,w.heap[b]?=some (.cells cs t fr)/\¬ qeh t)/\∀ j u,xs[j]?=some u->w.cell? ⟨b,off+j,none⟩=some u
theorem qei.mild {A:Option Addr} {xs:List Value} (h:qei base w A xs) (hm:qaU base w w'):qei base w' A xs:=by
 rcases h with h|⟨b,off,e,hlt,hs,hc⟩
 ·exact .inl h
 ·have hblk:w'.heap[b]?=w.heap[b]?:=by
   rcases hs with hs|⟨cs,t,fr,h1,h2⟩
   ·exact hm.below.block b hs
   ·rw [hm.keep b _ h1 (fun cs' t' fr' e=>by cases e;exact h2),h1]
  refine .inr ⟨b,off,e,Nat.lt_of_lt_of_le hlt hm.below.size,hs.imp id (fun ⟨cs,t,fr,h1,h2⟩=>⟨cs,t,fr,hblk.trans h1,h2⟩),fun j u hu=> ?_⟩;rw [World.cell?_of_block (a:=⟨b,off+j,none⟩) hblk];exact hc j u hu
theorem qei.at_ {A:Option Addr} {xs:List Value} (h:qei base w A xs) (hn:0<xs.length):∃ b off,A=some ⟨b,off,none⟩/\b<w.heap.size/\∀ j u,xs[j]?=some u->w.cell? ⟨b,off+j,none⟩=some u:=by
 rcases h with rfl|⟨b,off,e,h1,_,h2⟩
 ·simp at hn
 ·exact ⟨b,off,e,h1,h2⟩
theorem qei.of_row {A:Option Addr} {xs:List Value} (h:Row w base A xs) (hb:base<=w.heap.size):qei base w A xs:=by
 rcases h with h|⟨b,off,e,h1,h2⟩
 ·exact .inl h
 ·exact .inr ⟨b,off,e,by omega,.inl h1,h2⟩
end
def qcn (w:World) (base B:Nat) (bs:List UInt8) (es:List (Int × Nat)) (many qaS:Int):Prop:=
 base<=B/\∃ vb ve,w.heap[B]?=some (.cells #[vb,ve,.int .i64 many,.int .i64 qaS] 181 (0,0))/\
  w.ownsRow base 5 1 vb bs.length (Lib.byteCells bs)/\w.ownsRow base 206 2 ve es.length (qdd es)
theorem qoz {w:World} {base B:Nat} {bs:List UInt8} {l:List Po}:LAt w base B bs l↔qcn w base B bs (qds l (qay l.length)) (l.length:Int) (qau l:Int):=by
 unfold LAt qcn qey;rw [qfl]
section
variable {w w':World} {base B:Nat} {bs:List UInt8} {es:List (Int × Nat)} {many qaS:Int}
theorem qcn.lt (h:qcn w base B bs es many qaS):B<w.heap.size:=by
 obtain ⟨_,vb,ve,hv,_⟩:=h;exact (Array.getElem?_eq_some_iff.1 hv).1
theorem qcn.below (h:qcn w base B bs es many qaS) (hb:Below w.heap.size w w'):qcn w' base B bs es many qaS:=by
 have hl:=h.lt;obtain ⟨h1,vb,ve,hv,ho,he⟩:=h;exact ⟨h1,vb,ve,(hb.block B hl).trans hv,qao ho hb,qao he hb⟩
theorem qeC {b:Nat} {e:TypeId} {size n:Nat} {v:Value} {xs:List Value} (h:w.ownsRow b e size v n xs) {B i:Nat} (hB:v.ownBlock≠some B) (u:Value):(w.setCell ⟨B,i,none⟩ u).ownsRow b e size v n xs:=
 qas h fun g hg=>Below.heap_setCell _ _ _ _ fun e=>hB (by rw [hg,e])
theorem qcn.setMany (h:qcn w base B bs es many qaS) (m:Int):qcn (w.setCell ⟨B,2,none⟩ (.int .i64 m)) base B bs es m qaS/\qaU base w (w.setCell ⟨B,2,none⟩ (.int .i64 m)):=by
 obtain ⟨h1,vb,ve,hv,ho,he⟩:=h;exact ⟨⟨h1,vb,ve,heap_setCell_same w B 2 _ _ _ hv,qeC ho (qah ho hv (by decide)) _,qeC he (qah he hv (by decide)) _⟩,qaU.setCell hv (.inl rfl) h1 _⟩
theorem qcn.setTotal (h:qcn w base B bs es many qaS) (m:Int):qcn (w.setCell ⟨B,3,none⟩ (.int .i64 m)) base B bs es many m/\qaU base w (w.setCell ⟨B,3,none⟩ (.int .i64 m)):=by
 obtain ⟨h1,vb,ve,hv,ho,he⟩:=h;exact ⟨⟨h1,vb,ve,heap_setCell_same w B 3 _ _ _ hv,qeC ho (qah ho hv (by decide)) _,qeC he (qah he hv (by decide)) _⟩,qaU.setCell hv (.inl rfl) h1 _⟩
theorem qcn.pushed {vb ve v':Value} {w0 w1:World} {x:Int} {z:Nat} (hB:base<=B) (hv:w.heap[B]?=some (.cells #[vb,ve,.int .i64 many,.int .i64 qaS] 181 (0,0))) (ho:w.ownsRow base 5 1 vb bs.length (Lib.byteCells bs)) (he:w.ownsRow base 206 2 ve es.length (qdd es))
  (hb:Below w.heap.size w w0) (hg:w0.grownBy w1 ve.ownBlock) (hown:w1.ownsRow base 206 2 v' (es.length+1) (qdd es++[.int .i64 x,.int .i64 (z:Int)])):
  w1.heap[B]?=some (.cells #[vb,ve,.int .i64 many,.int .i64 qaS] 181 (0,0))/\qcn (w1.setCell ⟨B,1,none⟩ v') base B bs (es++[(x,z)]) many qaS/\qaU base w (w1.setCell ⟨B,1,none⟩ v'):=by
 have hlt:B<w.heap.size:=(Array.getElem?_eq_some_iff.1 hv).1;have hv0:=(hb.block B hlt).trans hv;have he0:=qao he hb;have ho0:=qao ho hb;have hv1:w1.heap[B]?=some (.cells #[vb,ve,.int .i64 many,.int .i64 qaS] 181 (0,0)):=(hg.block B (by have :=hb.size;omega) (fun e=>qah he0 hv0 (by decide) e.symm)).trans hv0;have ho1:w1.ownsRow base 5 1 vb bs.length (Lib.byteCells bs):=qas ho0 fun g hg'=>hg.block g (ho0.lt g hg').2 fun e=>qfd he0 ho0 (by decide) hg' e.symm
 refine ⟨hv1,⟨hB,vb,v',heap_setCell_same w1 B 1 _ _ _ hv1,qeC ho1 (qah ho1 hv1 (by decide)) _,?_⟩,?_⟩
 ·refine qeC ?_ (qah hown hv1 (by decide)) _
  rw [qnu,List.length_append,List.length_singleton];exact hown
 ·have hbw:base<=w.heap.size:=by omega
  exact (qaU.of_below hb hbw).trans ((qaU.grownOwn he0 (.inr (.inl rfl)) hg (by have :=hb.size;omega)).trans (qaU.setCell hv1 (.inl rfl) hB _))
end
def qhM {α:Type} (n:Nat) (P:Program) (g:Nat) (lb:Array Value) (encs:α->Array Value) (Kp:World->World->Prop) (Ok:List α->α->World->Prop) (S:List α->Prop) (w:World):Prop:=
 ∀ (l:Nat) (J:List α->World->Prop) (W:World),Below w.heap.size w W->(∀ s A B,J s A->Below A.heap.size A B->J s B)->
  (∀ pre x W1,J pre W1->Ok pre x W1->YieldAt Fence.wide (n-1) P l (encs x) W1 fun e W'=>e= .returned (.bool true)/\J (pre++[x]) W'/\Kp W1 W')->
  J [] W->CallsIn Fence.wide n P g (#[.func (.yield l) #[] #[]]++lb) W fun e W'=>(∃ v,e= .returned v)/\∃ xs,S xs/\J xs W'
def qat (B:Nat) (p:World->Prop):Prop:=∀ W l (o o':Obj),B<=l->W.heap[l]?=some o->o.isCells=false->p W->p (W.putObj l o')
variable {n:Nat} {P:Program}
theorem qoA {α:Type} {g:Operand} {ps:Array Tmp} {assign body:Code} {Q:Exit->Act->World->Prop} {a:Act} {w:World} (h1:1<=n) {gf:Nat} {lb:Array Value} (hg:a.eval g= .func (.func gf) #[] lb)
  (eg:∀ args w,(callFunc gf args).run P w= .ok (.enter gf args) w) {encs:α->Array Value} {Kp:World->World->Prop} {Ok:List α->α->World->Prop} {S:List α->Prop} (hseq:qhM (n-1) P gf lb encs Kp Ok S w)
  (hKt:∀ {A B C:World},Kp A B->Kp B C->Kp A C) (hKp:∀ (W:World) (l:Nat) (o o':Obj),w.heap.size<=l->W.heap[l]?=some o->o.isCells=false->Kp W (W.putObj l o')) (hps:∀ x,(encs x).size=ps.size)
  (I:List α->World->Prop) (hIb:∀ s A B,I s A->Below A.heap.size A B->I s B) (hIp:∀ s,qat w.heap.size (I s)) (hOk:∀ s x,qat w.heap.size (Ok s x)) (h0:I [] w) (a₁:α->Act)
  (hassign:∀ (l:Nat) (x:α) (W:World) (K:Act->World->Prop),K (a₁ x) W->assign.wpIn (Fence.wide.inRound l) (n-1-1) P (Exit.then K (fun _ _ _=>False)) {tmps:=(ps.zip (encs x)).foldl (fun t (p,v)=>t.setIfInBounds p v) a.tmps,defers:=[]} W)
  (hbody:∀ (l:Nat) (pre:List α) (x:α) (W:World),I pre W->Ok pre x W->body.wpIn (Fence.wide.inRound l) (n-1-1) P (ownPostK Kp I (fun _ _ _=>False) (pre++[x]) W) (a₁ x) W)
  (hdone:∀ (D:Nat) (xs:List α) (W:World),w.heap.size<=D->S xs->I xs W->W.heap[D]?=some (.deferred (some []))->Q .normal {a with defers:={target:= .collected D,args:=#[]}::a.defers} W):
  (Code.rangeFunc g ps assign body).wpIn Fence.wide n P Q a w:=by
 refine wpIn_rangeFunc fun fn hfn=> ?_
 have enter:=run_enterLoop_outer (P:=P) (w:=w) fn a.tmps ps assign body;obtain ⟨D,hD⟩:∃ D,D=w.heap.size:=⟨_,rfl⟩;obtain ⟨st,hst⟩:∃ st:LoopState->Loop,st=fun s=>{state:=s,pending:=none,fn:=fn,tmps:=a.tmps,params:=ps,assign:=assign,body:=body,defers:=w.heap.size}:=⟨_,rfl⟩
 obtain ⟨V,hV⟩:∃ V,V=(w.alloc (.deferred (some []))).alloc (.loop (st .ready)):=⟨_,rfl⟩;have enter':(Instr.enterLoop fn a.tmps ps assign body Fence.wide.round).run P w= .ok (D+1,[{target:= .collected D,args:=#[]}]) V:=by rw [hV,hst,hD];exact enter
 have bel:Below w.heap.size w V:=by rw [hV];exact ((Below.refl _ w).alloc (Nat.le_refl _) _).alloc (by simp) _
 have hdV:V.heap[D]?=some (.deferred (some [])):=by rw [hV,hD];exact (Below.heap_alloc _ _ _ (by simp)).trans (World.alloc_heap_new w _)
 have hlV:V.heap[D+1]?=some (.loop (st .ready)):=by
  have :=World.alloc_heap_new (w.alloc (.deferred (some []))) (.loop (st .ready));rwa [World.size_alloc,<- hV,<- hD] at this
 have stay:∀ (s:List α) (A B:World),(I s A/\A.heap[D+1]?=some (.loop (st .ready))/\A.heap[D]?=some (.deferred (some [])))->Below A.heap.size A B->(I s B/\B.heap[D+1]?=some (.loop (st .ready))/\B.heap[D]?=some (.deferred (some []))):=by
  rintro s A B ⟨i1,i2,i3⟩ hb;exact ⟨hIb s A B i1 hb,(hb.block _ (Array.getElem?_eq_some_iff.1 i2).1).trans i2,(hb.block _ (Array.getElem?_eq_some_iff.1 i3).1).trans i3⟩
 have round:∀ (pre:List α) (x:α) (A:World),(I pre A/\A.heap[D+1]?=some (.loop (st .ready))/\A.heap[D]?=some (.deferred (some [])))->Ok pre x A->
   YieldAt Fence.wide (n-1-1) P (D+1) (encs x) A fun e B=>e= .returned (.bool true)/\(I (pre++[x]) B/\B.heap[D+1]?=some (.loop (st .ready))/\B.heap[D]?=some (.deferred (some [])))/\Kp A B:=by
  rintro pre x A ⟨i1,i2,i3⟩ hx;have hl:D+1<A.heap.size:=(Array.getElem?_eq_some_iff.1 i2).1;have y:=run_yield (P:=P) (args:=encs x) i2 (by rw [hst];exact hps x);have beg:=run_beginRound (P:=P) i2 (by rw [hst]);rw [hst] at y;refine ⟨fn,_,assign,body,y,roundIn_of_wpIn hfn (hassign _ x A _ ⟨_,beg,?_⟩)⟩;obtain ⟨A1,hA1⟩:∃ A1,A1=A.putObj (D+1) (.loop {st .ready with state:= .busy}):=⟨_,rfl⟩
  rw [<- hA1];have l1:A1.heap[D+1]?=some (.loop {st .ready with state:= .busy}):=by rw [hA1];exact World.putObj_heap_same hl
  have d1:A1.heap[D]?=some (.deferred (some [])):=by rw [hA1];exact (World.putObj_heap_other (by omega)).trans i3
  have k1:Kp A A1:=by rw [hA1];exact hKp A _ _ _ (by omega) i2 rfl
  have b1:=hbody (D+1) pre x A1 (by rw [hA1];exact hIp pre A _ _ _ (by omega) i2 rfl i1) (by rw [hA1];exact hOk pre x A _ _ _ (by omega) i2 rfl hx);refine wpIn_mono b1 ?_;rintro ex a2 A2 hp;cases ex with
  |normal=>
   obtain ⟨ko,k2,i4⟩:=hp;have l2:=ko.same _ _ l1 rfl;have d2:=ko.same _ _ d1 rfl;have fin:=run_endRound (P:=P) none l2;have hl2:D+1<A2.heap.size:=(Array.getElem?_eq_some_iff.1 l2).1;refine ⟨_,_,fin,rfl,⟨hIp _ A2 _ _ _ (by omega) l2 rfl i4,?_,(World.putObj_heap_other (by omega)).trans d2⟩,hKt (hKt k1 k2) (hKp A2 _ _ _ (by omega) l2 rfl)⟩;rw [World.putObj_heap_same hl2,hst];rfl
  |ret=>exact hp.2.elim
  |exit id=>exact hp.2.elim
  |goto t=>exact hp.2.elim
  |panic c=>exact hp.elim
  |outgrown=>exact hp.elim
 refine ⟨D+1,_,V,{target:= .fn (.func gf) lb,args:=#[.func (.yield (D+1)) #[] #[]]},V,gf,#[.func (.yield (D+1)) #[] #[]]++lb,V,enter',?_,?_,?_,fun _=>h1,?_⟩
 ·simp only [resolve,hg]
  simp [go_sem]
 ·intro f' _
  trivial
 ·simp [invoke,go_sem,eg]
 ·refine (hseq (D+1) _ V bel stay round ⟨hIb [] w V h0 bel,hlV,hdV⟩).mono ?_
  rintro e A ⟨⟨v,rfl⟩,xs,hS,i1,i2,i3⟩;have fin:=run_endLoop (P:=P) i2 (by rw [hst];simp);rw [hst] at fin;refine ⟨none,_,fin,hdone D xs _ (by omega) hS (hIp xs A _ _ _ (by omega) i2 rfl i1) ((World.putObj_heap_other (by omega)).trans i3)⟩
end Go.Proofs.YtpehcaidjlemiaaGreatDoor
