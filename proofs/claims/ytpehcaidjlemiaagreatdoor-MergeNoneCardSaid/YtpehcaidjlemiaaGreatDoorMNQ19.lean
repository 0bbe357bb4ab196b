import Derived.Test.YtpehcaidjlemiaaGreatDoorMNZz
import Derived.Test.YtpehcaidjlemiaaGreatDoorMNQ16
import Derived.Test.YtpehcaidjlemiaaGreatDoorMNQ09
import Derived.Test.YtpehcaidjlemiaaGreatDoorMNQ10
import Derived.RangeFuncNested
import Derived.RangeFuncCalls
import Derived.Deep.RegionHeld3
import Derived.OrdersIn
import Derived.TacticsIn
import Derived.Lib.AppendZeros
import Derived.Test.YtpehcaidjlemiaaGreatDoorMNQ18
import Derived.Deep.AppendLies
import Derived.Test.YtpehcaidjlemiaaGreatDoorMNQ06
import Derived.Deep.RegionLaw
import Derived.StillTailTactics
set_option maxHeartbeats 8000000
set_option maxRecDepth 100000
set_option linter.unusedVariables false
namespace Go.Proofs.YtpehcaidjlemiaaGreatDoor
open Go Go.RowKit
def qwk (base B:Nat) (bs:List UInt8) (es:List (Int × Nat)) (blk:List Po) (many qaS:Int) (w:World) (i:Value) (wr:World):Prop:=
 ∃ k:Nat,k<=blk.length/\i= .int .i64 (k:Int)/\qcn wr base B bs es many (qaS+(qau (blk.take k):Int))/\qaU base w wr
theorem qwl (base B:Nat) (bs:List UInt8) (es:List (Int × Nat)) (many qaS:Int) (A:Option Addr) (m c:Nat) (blk:List Po) (cs:List Value) (z:Nat) (w:World) (h:qcn w base B bs es many qaS) (hm:blk.length=m) (hc:m<=c) (hcx:c<=maxLen)
    (hpc:qak (fun _ _=>True) blk cs) (hr:qei base w A cs) (h0:0<m) (hm8:m<=1000) (hes:es.length<=1000000) (hmany:0<=many/\many<=1000000000000) (htot:0<=qaS/\qaS+(qau blk:Int)<=1000000000000) (hz:z<=1000000000000):
    Calls Tryz.prog 119 #[.pointer (some ⟨B,0,none⟩),.slice A m c,.int .i64 (z:Int)] w fun e w'=>(∃ v,e= .returned v)/\
      qcn w' base B bs (es++[((blk.getD (m-1) (0,[])).1,z)]) (many+(m:Int)) (qaS+(qau blk:Int))/\qaU base w w':=by
  obtain ⟨i0,hi0,hz0,hz1,hz2⟩:=info_parts qub;subst hm;have hbase:base<=w.heap.size:=by have :=h.lt;have :=h.1;omega
  obtain ⟨j,hj⟩:∃ j,j=blk.length-1:=⟨_,rfl⟩;have hjm:j<blk.length:=by omega
  obtain ⟨p0,p1⟩:=hpc.at_ hjm;obtain ⟨b1,o1,e1,hb1,hcc⟩:=hr.at_ (by rw [hpc.len];omega);have hcd:=hcc _ _ p0;obtain ⟨x,hx⟩:∃ x,x=(blk.getD j (0,[])).1:=⟨_,rfl⟩;rw [<- hx] at hcd;rw [<- hj,<- hx];have hkj:IntKind.i64.wrap ((blk.length:Int)-1)=(j:Int):=by rw [IntWalk.i64_in _ (by omega)];omega
  have hwj:IntKind.i64.wrap (j:Int)=(j:Int):=IntWalk.i64_in _ (by omega);have hkj2:(blk.length:Int)-1=(j:Int):=by omega
  obtain ⟨hB,vb,ve,hv,ho,he⟩:=h;obtain ⟨⟨c0,c1,c2,c3⟩,f0,f1,f2,f3⟩:=qe1 hv;obtain ⟨M,hM⟩:∃ M,M=blk.length:=⟨_,rfl⟩;have HPC:=qH hpc;have HR:=qH hr;have HML:=qH hM;have hblt:B<w.heap.size:=(Array.getElem?_eq_some_iff.1 hv).1;have HV:=qH hv;have HO:=qH ho;have HE:=qH he;have HX:=qH hx;have hc1a:∀ o,(w.alloc o).cell? ⟨B,1,none⟩=some ve:=fun o=>(((Below.refl w.heap.size w).alloc (Nat.le_refl _) o).cell (p:=⟨B,1,none⟩) hblt).trans c1
  have hcda:∀ o,(w.alloc o).cell? ⟨b1,o1+j*2,none⟩=some (.int .i64 x):=fun o=>(((Below.refl w.heap.size w).alloc (Nat.le_refl _) o).cell (p:=⟨b1,o1+j*2,none⟩) hb1).trans hcd
  subst e1;rw [<- hM] at hjm hc h0 hm8 hkj hkj2;rw [<- hM];clear hpc hr hM hv ho he hx p0 p1 hcc hj
  go_enter Tryz.func119,Tryz.ntmps119
  go_upto_region 0 with fail
  go_cut [] from 8 to 26 (fun wx=>qcn wx base B bs (es++[(x,z)]) many qaS/\qaU base w wx)
  case first=>
    go_region_law (first
      | (refine step_append_lies _ (by rfl) _ _ _ (by rfl) base 206 i0 _ 2 16 Tryz.underlying179 hi0 hz0 hz1 hz2 rfl (by omega) ve es.length (qdd es) (by rfl) ((HE.out.alloc _).drew)
          ⟨w.heap.size,0,none⟩ 1 1 [.int .i64 x,.int .i64 (z:Int)] (by rfl) (by rfl) (World.news_of_block (cs:=#[.int .i64 x,.int .i64 (z:Int)]) (t:=206) (fr:=(0,0)) (heap_alloc_new w _)) (by intro u hu;simp at hu;rcases hu with hu|hu<;>(subst hu;rfl))
          (by omega) (by unfold maxLen;omega) (by omega) (by simp;omega) (w.heap.size+1) (by simp) ?_
         intro gg cap w1 hown1 hgrow hat hlt;obtain ⟨hv1,hmid,hmild⟩:=qcn.pushed hB HV.out HO.out HE.out (((Below.refl _ w).alloc (Nat.le_refl _) _).drew) hgrow hown1;obtain ⟨⟨cB0,cB1,cB2,cB3⟩,fB0,fB1,fB2,fB3⟩:=qe1 hv1))
    all_goals
      go_wp2_with fail
      go_meet;exact ⟨hmid,hmild⟩
  case rest=>
    clear hc1a hcda hcd c0 c1 c2 c3 f0 f1 f2 f3 hwj hkj hkj2 hjm HV HO HE hb1;obtain ⟨hmid,hmild⟩:=hcut;have hRM:=HR.out.mild hmild;obtain ⟨hn1,hn2⟩:=hmid.setMany (many+(M:Int));have HN1:=qH hn1;have HN2:=qH (hmild.trans hn2);obtain ⟨_,vb',ve',hv',_,_⟩:=hmid;obtain ⟨⟨c0,c1,c2,c3⟩,f0,f1,f2,f3⟩:=qe1 hv';clear hv' hn1 hn2 hmild hRM;go_wp2
    go_loopw [37] (fun i wr=>qwk base B bs (es++[(x,z)]) blk (many+(M:Int)) qaS w i wr) (fun i _=>M-(intOf i).toNat)
    case atStart=>exact ⟨0,by omega,rfl,by simpa [qau] using HN1.out,HN2.out⟩
    case round=>
      obtain ⟨k,hk,rfl,hmid,hmild⟩:=hrel;by_cases hlt:k<M
      · have hrm:=HR.out.mild hmild
        obtain ⟨q0,A2,c2,q1,hlc,hcx2,_⟩:=HPC.out.at_ (k:=k) (by rw [<- HML.out];exact hlt);obtain ⟨b2,o2,e2,hb2,hcc⟩:=hrm.at_ (by rw [HPC.out.len,<- HML.out];omega);have hq0:=hcc _ _ q0;have hq1:=hcc _ _ q1;rw [<- Nat.add_assoc] at hq1;injection e2 with e2
        injection e2 with e3 e4
        subst e3 e4;have htk:=qtV (l:=blk) (k:=k) (by rw [<- HML.out];exact hlt);have htl:=qng (l:=blk) (k+1);obtain ⟨q,hq⟩:∃ q,q=blk.getD k (0,[]):=⟨_,rfl⟩;rw [<- hq] at hq0 hq1 htk hlc;obtain ⟨y,ps⟩:=q;simp only at hq0 hq1 htk hlc;obtain ⟨P,hP⟩:∃ P,P=ps.length:=⟨_,rfl⟩;rw [<- hP] at hq1 htk hlc;obtain ⟨T,hT⟩:∃ T:Int,T=qaS+(qau (blk.take k):Int):=⟨_,rfl⟩;rw [<- hT] at hmid;have hT2:T+(P:Int)=qaS+(qau (blk.take (k+1)):Int):=by omega
        have hbr:base<=wr.heap.size:=by have :=hmild.below.size;omega
        have hal:=(Below.refl wr.heap.size wr).alloc (Nat.le_refl _) (.cells #[.int .i64 y,.slice A2 P c2] 74);have hma:=hmid.below hal;have hmd:=hma.below (Below.refl _ (wr.alloc (.cells #[.int .i64 y,.slice A2 P c2] 74))).drew;obtain ⟨hn1,hn2⟩:=hmd.setTotal (T+(P:Int));have HN1:=qH hn1;have HN2:=qH ((hmild.trans (qaU.of_below hal hbr)).trans ((qaU.of_below (Below.refl _ _).drew (by have :=hal.size;omega)).trans hn2));have hT0:0<=T:=by omega
        have hTP:T+(P:Int)<=1000000000000:=by omega
        obtain ⟨_,vb',ve',hv',_,_⟩:=hma;obtain ⟨⟨d0,d1,d2,d3⟩,g0,g1,g2,g3⟩:=qe1 hv';have HT2:=qH hT2;clear hv' hn1 hn2 hmild hmid hmd hal hrm q0 q1 hcc hT hT2 htk htl hq hP;have h8:=HN1.out;rw [HT2.out] at h8;have H8:=qH h8;clear h8;go_wp2
        go_region_law (fail)
        all_goals
          go_wp2;go_roundw
          case rel=>exact ⟨k+1,by have :=HML.out;omega,by simp,by first|exact H8.out|(have h8:=H8.out;rw [<- HT2.out] at h8 ⊢;exact h8),HN2.out⟩
          case measure=>simp [intOf];omega
      · obtain rfl:k=M:=by have :=HML.out;omega
        rw [List.take_of_length_le (by have :=HML.out;omega)] at hmid;have H8:=qH hmid;have H9:=qH hmild;clear hmid hmild;go_wp2
        go_end0
        exact ⟨⟨_,rfl⟩,H8.out,H9.out⟩
theorem qwm (base B:Nat) (bs:List UInt8) (l blk:List Po) (n:Nat) (A:Option Addr) (m c:Nat) (cs:List Value) (z:Nat) (w:World) (h:LAt w base B bs l) (hl:l.length=8*n) (hm:blk.length=m) (hc:m<=c) (hcx:c<=maxLen)
  (hpc:qak (fun _ _=>True) blk cs) (hr:qei base w A cs) (h0:0<m) (hm8:m<=8) (hll:l.length<=1000000) (htot:qau (l++blk)<=1000000000000) (hz:z=(qab (-1) (l++blk)).length) (hzb:z<=1000000000000):
  Calls Tryz.prog 119 #[.pointer (some ⟨B,0,none⟩),.slice A m c,.int .i64 (z:Int)] w fun e w'=>(∃ v,e= .returned v)/\LAt w' base B bs (l++blk)/\qaU base w w':=by
 have hb:=qt8 hl (b:=blk) (by omega) (by omega);have hmid:=qoz.1 h;rw [qju] at htot;refine (qwl base B bs _ _ _ A m c blk cs z w hmid hm hc hcx hpc hr h0 (by omega) (by rw [qfl];unfold qay;omega) (by omega) (by omega) hzb).mono ?_;rintro e w' ⟨h1,h2,h3⟩;refine ⟨h1,qoz.2 ?_,h3⟩;rw [hb.2,qt9 hl (by omega) (by omega),qju,List.length_append,hm,qiP,qne (by omega),hm,<- hz];rw [hb.1] at h2;have e1:((l.length+m:Nat):Int)=(l.length:Int)+(m:Int):=by omega
 have e2:((qau l+qau blk:Nat):Int)=(qau l:Int)+(qau blk:Int):=by omega
 rw [e1,e2];exact h2
theorem qwn (x a:Int) (w:World):Sem.run Tryz.prog (Instr.field 206 (.agg #[.int .i64 x,.int .i64 a]) 0) w= .ok (.int .i64 x) w:=by
 simp [Instr.field,go_sem,part,asAgg]
theorem qat.block {N k:Nat} (hk:k<N) (o:Obj):qat N (fun W=>W.heap[k]?=some o):=fun W l u u' hl _ _ h=>(World.putObj_heap_other (by omega)).trans h
theorem qat.belowW {N n0:Nat} {w0:World} (hN:n0<=N):qat N (fun W=>Below n0 w0 W):=fun W l o o' hl ho _ h=>
 h.trans ((Below.refl n0 W).grown (grownBy_putObj' W l o') (by have :=(Array.getElem?_eq_some_iff.1 ho).1;omega) (fun k e=>by cases e;omega))
theorem qat.and {N:Nat} {p q:World->Prop} (h:qat N p) (k:qat N q):qat N (fun W=>p W/\q W):=fun W l o o' hl ho hc hp=>⟨h W l o o' hl ho hc hp.1,k W l o o' hl ho hc hp.2⟩
theorem qat.pure {N:Nat} {p:Prop}:qat N (fun _=>p):=fun _ _ _ _ _ _ _ h=>h
theorem qat.lat (N base B:Nat) (bs:List UInt8) (l:List Po):qat N (fun W=>LAt W base B bs l):=fun W k o o' hk ho hc h=>h.cellsKept fun j u hj hu=>by
 by_cases e:j=k
 ·subst e
  rw [ho] at hj;injection hj with hj
  subst hj;rw [hc] at hu;cases hu
 ·exact (World.putObj_heap_other e).trans hj
section
variable {P:Program} {ops:Array Oper} {Q:Exit->Act->World->Prop} {md:Region.Mode} {n l:Nat}
def qb9 (Q:Exit->Act->World->Prop):Exit->Act->World->Prop
 |.normal,a,w=>Q .normal a w
 |_,_,_=>False
theorem qb9.imp:∀ e a w,qb9 Q e a w->Q e a w:=fun e a w h=>by
 cases e<;>first|exact h|exact (h:False).elim
theorem qb9.fin {a:Act} {w:World} (h:Q .normal a w):qb9 Q .normal a w:=h
theorem qb9.no_out:¬ LetsOut (qb9 Q):=fun ⟨_,_,h⟩=>h
theorem qwo {o:Oper} {a:Act} {w:World} {K:Act->World->Prop} (hd:∀ c,o.op≠ .defer c) (h:o.wp P a w K Q):o.wpIn (Fence.wide.inRound l) n P a w K Q:=by
 refine ⟨fun _ _=>trivial,?_⟩;have e:o.semAt (Fence.wide.inRound l).round a.eval=execOp a.eval o:=Oper.semAt_some l _ _ hd;rw [e];unfold Oper.wp at h;generalize (execOp a.eval o).run P w=r at*;cases r with
 |ok x w'=>
  cases x<;>first
   |exact h
   |exact (h:False).elim
   |exact ⟨fun e=>(by cases e),CallsIn.inRound l (callsIn_wide.2 h)⟩
   |exact ⟨fun e=>(by cases e),fun c cs _=>let ⟨v,w2,h1,h2⟩:=h c cs;⟨v,w2,h1,stepsIn_wide.2 h2⟩⟩
 |halt x w'=>cases x<;>exact h
theorem qwp {i:Nat} {a:Act} {w:World} {K K':Act->World->Prop} (hd:∀ (i:Nat) (o:Oper),ops[i]?=some o->∀ c,o.op≠ .defer c) (hk:∀ a w,K a w->K' a w) (h:wpOp P ops (qb9 Q) i K a w):wpOpIn (Fence.wide.inRound l) n P ops (qb9 Q) i K' a w:=by
 unfold wpOp at h;unfold wpOpIn;cases ho:ops[i]? with
 |none=>rw [ho] at h;exact hk _ _ h
 |some o=>
  rw [ho] at h;simp only at h ⊢;split
  ·rename_i hw
   rw [if_pos hw] at h;rcases h with h|⟨_,h⟩
   ·exact Oper.wpIn_mono hk (qwo (hd i o ho) h)
   ·exact (qb9.no_out h).elim
  ·rename_i hw
   rw [if_neg hw] at h;exact ⟨fun _ _=>trivial,hk _ _ h⟩
theorem qj0 (hd:∀ (i:Nat) (o:Oper),ops[i]?=some o->∀ c,o.op≠ .defer c):∀ (fuel:Nat) (listed:Array Bool) (a:Act) (w:World),wpAny P md ops (qb9 Q) fuel listed a w->wpAnyIn (Fence.wide.inRound l) n P md ops (qb9 Q) fuel listed a w
 |0,_,_,_,h=>h
 |fuel+1,listed,a,w,h=>⟨h.1,fun i hi=>qwp hd (fun a' w' h'=>qj0 hd fuel _ a' w' h') (h.2 i hi)⟩
def qhP (o:Oper):Bool:=match o.op with| .defer _=>false|_=>true
theorem qoN (h:ops.toList.all qhP=true):∀ (i:Nat) (o:Oper),ops[i]?=some o->∀ c,o.op≠ .defer c:=fun i o hi c e=>by
 have h1:=List.all_eq_true.1 h o (by rw [Array.mem_toList_iff];exact Array.mem_of_getElem? hi);unfold qhP at h1;rw [e] at h1;cases h1
theorem qfu {o:Oper} {a:Act} {w:World} {K:Act->World->Prop} {E:Prop} (hg:o.guard=none) (s x:Operand) (t:TypeId)
  (hop:o.op=Op.call {callee:=Callee.builtin Builtin.append,args:=#[s,x],argTypes:=#[t,t]}) (vs vx:Value) (hs:a.eval s=vs) (hx:a.eval x=vx) (v':Value) (w':World)
  (hr:(Builtin.append_ #[t,t] o.type #[vs,vx]).run P w= .ok v' w') (hK:K (a.put o.dst v') w'):if Region.wanted o (yielded ops a.tmps)=true then Oper.wp P o a w K Q else E:=by
 have hw:Region.wanted o (yielded ops a.tmps)=true:=by simp [Region.wanted,hg]
 rw [if_pos hw];exact Lib.wp_append_run w s x t t hop vs vx hs hx v' w' hr hK
theorem qhQ {S:World->Prop} {id:Nat} {a:Act} {w:World} (hm:P.follows .mixedOrders=true) (hd:ops.toList.all qhP=true) (hS:S w.drew)
  (h:S w.drew->wpAnyH P .any ops (qb9 Q) S ops.size (Array.replicate ops.size false) a w.drew):(Code.region id ops true).wpIn (Fence.wide.inRound l) n P Q a w:=
 wpIn_mono (wpIn_region_any hm (qj0 (qoN hd) _ _ _ _ (wpAny_of_held _ _ _ _ (h hS)))) qb9.imp
end
attribute [local go_sem] Oper.semAt_some
def qoO (l:List Po) (w:World) (e:Ending) (w':World):Prop:=∃ B,e= .returned (.tuple #[.pointer (some ⟨B,0,none⟩),.int .i64 0])/\LAt w' w.heap.size B (qab (-1) l) l/\Below w.heap.size w w'
theorem qwq {l:List Po} {x:Int} (h:l≠[]):0<(qab x l).length:=by
 cases l with
 |nil=>exact absurd rfl h
 |cons p r=>
  have :=qfi (p.1-(x+1)).toNat;rw [qab,List.length_append];omega
def qhR (w:World) (B:Nat) (A:Option Addr) (n c:Nat) (l:List Po) (pre:List Nat) (W:World):Prop:=
 (W.heap[B+1+1]?=some (.cells #[.slice A n c] 71 (0,0))/\W.heap[B+1+1+1]?=some (.cells #[.int .i64 8] 3 (0,0)))/\LAt W w.heap.size B (qab (-1) (l.take (8*pre.length))) (l.take (8*pre.length))/\W.heap[B+1]?=some (.cells #[.pointer (some ⟨B,0,none⟩)] 116 (0,0))/\Below w.heap.size w W
theorem LAt.moreBytes {w w0 w1:World} {base B:Nat} {bs cs:List UInt8} {l:List Po} {vb ve v':Value} {m:Nat} (hB:base<=B) (hv:w.heap[B]?=some (.cells #[vb,ve,.int .i64 (l.length:Int),.int .i64 (qau l:Int)] 181 (0,0)))
  (ho:w.ownsRow base 5 1 vb bs.length (Lib.byteCells bs)) (he:w.ownsRow base 206 2 ve (qay l.length) (qey l)) (hb:Below w.heap.size w w0) (hg:w0.grownBy w1 vb.ownBlock) (hm:cs.length=m)
  (hown:w1.ownsRow base 5 1 v' (bs.length+m) (Lib.byteCells bs++Lib.byteCells cs)):
  w1.heap[B]?=some (.cells #[vb,ve,.int .i64 (l.length:Int),.int .i64 (qau l:Int)] 181 (0,0))/\LAt (w1.setCell ⟨B,0,none⟩ v') base B (bs++cs) l/\qaU base w (w1.setCell ⟨B,0,none⟩ v'):=by
 have hlt:B<w.heap.size:=(Array.getElem?_eq_some_iff.1 hv).1;have hv0:=(hb.block B hlt).trans hv;have he0:=qao he hb;have ho0:=qao ho hb;have hv1:w1.heap[B]?=some (.cells #[vb,ve,.int .i64 (l.length:Int),.int .i64 (qau l:Int)] 181 (0,0)):=(hg.block B (by have :=hb.size;omega) (fun e=>qah ho0 hv0 (by decide) e.symm)).trans hv0;have he1:w1.ownsRow base 206 2 ve (qay l.length) (qey l):=qas he0 fun g hg'=>hg.block g (he0.lt g hg').2 fun e=>qfd ho0 he0 (by decide) hg' e.symm
 have hbw:base<=w.heap.size:=by omega
 refine ⟨hv1,⟨hB,v',ve,heap_setCell_same w1 B 0 _ _ _ hv1,qeC (qjr hm hown) (qah hown hv1 (by decide)) _,qeC he1 (qah he1 hv1 (by decide)) _⟩,?_⟩;exact (qaU.of_below hb hbw).trans ((qaU.grownOwn ho0 (.inr (.inr rfl)) hg (by have :=hb.size;omega)).trans (qaU.setCell hv1 (.inl rfl) hB _))
theorem qoP:∀ {ps:List Int} {x b:Int},qai x ps=true->(∀ y∈ps,y<b)->x<b->(ps.length:Int)<b-x
 |[],x,b,_,_,h=>by simp;omega
 |n::r,x,b,h,hb,hx=>by
  rw [qai,Bool.and_eq_true,decide_eq_true_iff] at h;have :=qoP (b:=b) h.2 (fun y hy=>hb y (List.mem_cons_of_mem _ hy)) (hb n (List.mem_cons_self ..));rw [List.length_cons];omega
theorem qwr {ps:List Int} (h:qcO ps=true):ps.length<=2147483648:=by
 have :=qoP (b:=2147483648) (qfG.1 h).1 (fun y hy=>(qhc h y hy).2) (by omega);omega
theorem qj1:∀ {l:List Po} {last:Int},qaP last l=true->∀ p∈l,p.2.length<=2147483648
 |[],_,_,p,hp=>by cases hp
 |q::r,last,h,p,hp=>by
  have h':=qev.1 h;rcases List.mem_cons.1 hp with rfl|hp
  ·exact qwr h'.2.2.1
  ·exact qj1 h'.2.2.2 p hp
theorem qoQ (A:Option Addr) (n c:Nat) (l:List Po) (w:World) (hn:l.length=n) (hc:n<=c) (hcx:c<=maxLen) (hn100:n<=1000000) (hpo:qaX w w.heap.size A l) (htp:qau l<=40000000000) (hm:qaP (-1) l=true):
  Calls Tryz.prog 70 #[.slice A n c] w (qoO l w):=by
 obtain ⟨i0,hi0,hz0,hz1,hz2⟩:=info_parts qhk;refine (callsIn_wide (n:=6)).1 ?_;have hpl:∀ p∈l,p.2.length<=2147483648:=qj1 hm;have my:=qoI A n c l w hn (by omega) hpo (fun p hp=>by have :=hpl p hp;omega);rw [hm] at my;have MY:=qH my;have HPO:=qH hpo;have HPL:=qH hpl;have HM:=qH hm;have HN:=qH hn;have HTP:=qH htp;clear my hpo hpl hm hn htp;refine callsIn_of_wp_marks Tryz.func70 rfl trivial ?_ rfl;simp only [Tryz.ntmps70,List.size_toArray,List.length_cons,List.length_nil,Nat.reduceAdd,Nat.reduceSub,Array.replicate_succ,Array.replicate_zero,List.push_toArray,List.append_toArray,List.nil_append,List.cons_append]
 gi_wp2_with (first
  |(refine ⟨trivial,?_⟩;gi_at_call 115;refine (callsIn_wide.2 MY.out).mono ?_;rintro e w1 ⟨rfl,hb1⟩)
  |(gi_at_call 115;refine (callsIn_wide.2 MY.out).mono ?_;rintro e w1 ⟨rfl,hb1⟩)
  |(refine ⟨trivial,?_⟩;gi_at_call 116;refine (callsIn_wide.2 (qoM A n c _)).mono ?_)
  |(gi_at_call 116;refine (callsIn_wide.2 (qoM A n c _)).mono ?_))
 rintro e w3 ⟨rfl,e1,e2,hb3,hz3⟩;obtain ⟨B,hB⟩:∃ B,B=w1.heap.size:=⟨_,rfl⟩;have hsz1:=hb1.size;have hal:=((Below.refl w1.heap.size w1).alloc (Nat.le_refl _) (.cells #[.slice none 0 0,.slice none 0 0,.int .i64 0,.int .i64 0] 181)).alloc (by simp) (.cells #[.pointer (some ⟨w1.heap.size,0,none⟩)] 116);have hb13:Below w1.heap.size w1 w3:=hal.trans (hb3.mono (by simp;omega));have hb03:Below w.heap.size w w3:=hb1.trans (hb13.mono hsz1);have hlist:w3.heap[w1.heap.size]?=some (.cells #[.slice none 0 0,.slice none 0 0,.int .i64 0,.int .i64 0] 181 (0,0)):=
  (hb3.block _ (by simp;omega)).trans ((Below.heap_alloc _ _ _ (by simp)).trans (heap_alloc_new w1 _))
 have hbox:w3.heap[w1.heap.size+1]?=some (.cells #[.pointer (some ⟨w1.heap.size,0,none⟩)] 116 (0,0)):=by
  refine (hb3.block _ (by simp)).trans ?_;have h1:=heap_alloc_new (w1.alloc (.cells #[.slice none 0 0,.slice none 0 0,.int .i64 0,.int .i64 0] 181)) (.cells #[.pointer (some ⟨w1.heap.size,0,none⟩)] 116);rwa [World.size_alloc] at h1
 simp only [World.size_alloc] at e1 e2 hz3;rw [<- hB] at e1 e2 hz3 hlist hbox;rw [<- hB] at hsz1;have hlat:LAt w3 w.heap.size B [] []:=⟨hsz1,_,_,hlist,World.ownsRow_nil _ _ _ _,World.ownsRow_nil _ _ _ _⟩;have hi0':qhR w B A n c l [] w3:=⟨⟨e1,e2⟩,by simpa [qab] using hlat,hbox,hb03⟩;obtain ⟨b,off,hA⟩:∃ b off,0<n->A=some ⟨b,off,none⟩:=by
  by_cases h0:0<n
  ·obtain ⟨b,off,e,_⟩:=HPO.out.at_ (k:=0) (by rw [HN.out];exact h0)
   exact ⟨b,off,fun _=>e⟩
  ·exact ⟨0,0,fun h=>absurd h h0⟩
 have HI0:=qH hi0';have HA:=qH hA;have HZ3:=qH hz3;have HE1:=qH e1;have HE2:=qH e2;have HBW:Hid (w.heap.size<=B):=qH hsz1;clear hi0' hlat hA hz3 e1 e2 hlist hbox hb03 hb13 hal hb3;gi_wp2;rw [<- hB];clear hB hb1 hsz1;refine qoA (by omega) (gf:=162) (lb:=#[.pointer (some ⟨B+1+1,0,none⟩),.pointer (some ⟨B+1+1+1,0,none⟩)]) rfl (enters_of Tryz.func162 (by kernel_rfl) rfl)
  (qwj 5 (B+1+1) (B+1+1+1) n c A b off (by omega) HA.out hc hcx (by omega) w3 HE1.out HE2.out) qek.trans (fun W l o o' hl ho hc=>qek.putObj W l o' (by have :=HZ3.out;omega) (by have :=HZ3.out;omega)) (fun _=>rfl)
  (qhR w B A n c l) (fun s A' B' h hb=>⟨⟨(hb.block _ (lt_of_block h.1.1)).trans h.1.1,(hb.block _ (lt_of_block h.1.2)).trans h.1.2⟩,h.2.1.below hb,(hb.block _ (lt_of_block h.2.2.1)).trans h.2.2.1,h.2.2.2.trans (hb.mono h.2.2.2.size)⟩)
  (fun s=>((qat.block (by have :=HZ3.out;omega) _).and (qat.block (by have :=HZ3.out;omega) _)).and<|(qat.lat _ _ _ _ _).and ((qat.block (by have :=HZ3.out;omega) _).and (qat.belowW (by have :=HZ3.out;have :=HBW.out;omega)))) (fun s x=>qat.pure) HI0.out
  (fun k=>{tmps:=#[.slice A n c,undef,.pointer none,.int .i64 0,.pointer (some ⟨B+1,0,none⟩),qft b off n k,undef,.slice A n c,.bool true,.bool false,.agg #[.slice none 0 0,.slice none 0 0,.int .i64 0,.int .i64 0],.pointer (some ⟨B,0,none⟩),.slice A n c,
   .func (.func 162) #[] #[.pointer (some ⟨B+1+1,0,none⟩),.pointer (some ⟨B+1+1+1,0,none⟩)],qft b off n k,undef,undef,undef,undef,undef,undef,undef,undef,undef,undef,undef,undef,undef,undef,undef,undef,undef,undef,undef,undef,undef,undef,undef],defers:=[]}) ?assign ?body ?done
 case assign=>
  intro lp x W K' hK';gi_wp2;exact hK'
 case body=>
  rintro lp pre x W ⟨⟨hd1,hd2⟩,hla,hbx,hbw⟩ ⟨rfl,hx⟩;obtain ⟨k,hk⟩:∃ k,k=pre.length:=⟨_,rfl⟩;rw [<- hk] at hla hx;rw [<- hk];have hMI:∀ W',LAt W' w.heap.size B (qab (-1) (l.take (8*(k+1)))) (l.take (8*(k+1)))->W'.heap[B+1]?=some (.cells #[.pointer (some ⟨B,0,none⟩)] 116 (0,0))->Below w.heap.size w W'->qaU w.heap.size W W'->qhR w B A n c l (pre++[k]) W'/\qek (B+1+1) (B+1+1+1) W W':=fun W' h1 h2 h3 h4=>by
   have k1:=h4.keep _ _ hd1 (fun cs t fr e=>by cases e;unfold qeh;decide);have k2:=h4.keep _ _ hd2 (fun cs t fr e=>by cases e;unfold qeh;decide);refine ⟨?_,h4.below.size,fun _=>k1.trans hd1.symm,fun _=>k2.trans hd2.symm⟩;unfold qhR;rw [List.length_append,List.length_singleton,<- hk];exact ⟨⟨k1,k2⟩,h1,h2,h3⟩
  have hnk:8*k<n:=by unfold qay at hx;omega
  have hxl:k<qay l.length:=by rw [HN.out];exact hx
  have hqlen:=qiR (l:=l) k;rw [HN.out] at hqlen;have hcat:=qiS l k;have hacl:(l.take (8*k)).length=8*k:=by rw [List.length_take,HN.out];omega
  have hmt:=HM.out;rw [<- List.take_append_drop (8*(k+1)) l,qeb,Bool.and_eq_true,hcat,qeb,Bool.and_eq_true] at hmt;have hx0:=qhd _ _ hmt.1.1;have hmb:=hmt.1.2;have hbpl:∀ p∈qbN l (k:Int),p.2.length<=2147483648:=fun p hp=>HPL.out p (by rw [qgl] at hp;exact List.mem_of_mem_drop (List.mem_of_mem_take hp))
  have hapl:∀ p∈l.take (8*(k+1)),p.2.length<=2147483648:=fun p hp=>HPL.out p (List.mem_of_mem_take hp)
  have htot:qau (l.take (8*(k+1)))<=40000000000:=Nat.le_trans (qng _) HTP.out;have hbys:(qab (-1) (l.take (8*(k+1)))).length<=400000000000:=by
   have h1:=qiQ (l.take (8*(k+1))) (-1) (by omega) (by rw [hcat,qeb,hmt.1.1,hmb];rfl) (fun p hp=>by have :=hapl p hp;omega);have h3:(l.take (8*(k+1))).length<=1000000:=by rw [List.length_take,HN.out];omega
   omega
  have hbya:(qab (-1) (l.take (8*(k+1)))).length=(qab (-1) (l.take (8*k))).length+(qab (qaD (-1) (l.take (8*k))) (qbN l (k:Int))).length:=by rw [hcat,qeV,List.length_append]
  have hA':=HA.out (by omega);obtain ⟨q,hq⟩:∃ q,q=min 8 (n-8*k):=⟨_,rfl⟩;have hch:qft b off n k= .slice (some ⟨b,off+8*k*2,none⟩) q q:=by unfold qft;rw [<- hq]
  rw [<- hq] at hqlen;have hq1:0<q/\q<=8:=by omega
  rw [hch];have hpos:qaX w w.heap.size (some ⟨b,off+8*k*2,none⟩) (qbN l (k:Int)):=by
   have h1:=HPO.out;rw [hA'] at h1;rw [qgl];exact (h1.drop (8*k)).cut 8
  obtain ⟨acc,hacc⟩:∃ acc,acc=l.take (8*k):=⟨_,rfl⟩;obtain ⟨blk,hblk⟩:∃ blk,blk=qbN l (k:Int):=⟨_,rfl⟩;rw [<- hacc,<- hblk] at hcat;rw [hcat] at hMI hbys htot hbya;rw [<- hacc] at hla hacl hx0 hmb hbya;rw [<- hblk] at hqlen hmb hbpl hbya hpos;have hlast:=qvN w.heap.size B (qab (-1) acc) acc W hla (by omega);obtain ⟨x0,hx0e⟩:∃ x0,x0=qaD (-1) acc:=⟨_,rfl⟩;rw [<- hx0e] at hx0 hmb hbya hlast;obtain ⟨a,hae⟩:∃ a,a=(qab (-1) acc).length:=⟨_,rfl⟩;rw [<- hae] at hbya hlast;have hfld:=fun w1=>qwn x0 (a:Int) w1
  have hput:∀ W',Below W.heap.size W W'->Calls Tryz.prog 117 #[.slice (some ⟨b,off+8*k*2,none⟩) q q,.int .i64 x0] W' (qfs W'.heap.size (qab x0 blk) W'):=fun W' hb=>
   qv8 _ q q blk x0 W' hqlen (by omega) ((hpos.below (hbw.trans (hb.mono hbw.size))).more (by have :=hbw.size;have :=hb.size;omega)) hx0 hmb hbpl (by omega)
  obtain ⟨bb,hbb⟩:∃ bb,bb=qab x0 blk:=⟨_,rfl⟩;rw [<- hbb] at hput hbya;have hc1:=cell_of_one hbx;have HLAST:=qH hlast;have HPUT:=qH hput;have HLA:=qH hla;have HBX:=qH hbx;have HW:=qH hbw;have HPOS:=qH hpos;have HMI:=qH hMI;have HACL:=qH hacl;have HQL:=qH hqlen;have HBB:=qH hbb;have HX0E:=qH hx0e;have HAE:=qH hae;have hBW0:∀ W',Below W.heap.size W W'->W'.cell? ⟨B+1,0,none⟩=some (.pointer (some ⟨B,0,none⟩)):=fun W' hb=>(hb.cell (p:=⟨B+1,0,none⟩) (lt_of_block HBX.out)).trans (cell_of_one HBX.out)
  have HC1:=qH hBW0;clear hlast hput hla hbx hbw hpos hMI hacl hqlen hbb hx0e hae hacc hblk hcat hk hq hch hbpl hapl hmt hA' hxl hmb hBW0
  gi_wp2_with (first
   |(refine ⟨trivial,?_⟩;gi_at_call 118;refine (CallsIn.inRound lp (callsIn_wide.2 HLAST.out)).mono ?_;rintro e w5 ⟨rfl,hb5⟩;have HB5:=qH hb5;clear hb5)
   |(gi_at_call 118;refine (CallsIn.inRound lp (callsIn_wide.2 HLAST.out)).mono ?_;rintro e w5 ⟨rfl,hb5⟩;have HB5:=qH hb5;clear hb5)
   |(refine ⟨trivial,?_⟩;gi_at_call 117;refine (CallsIn.inRound lp (callsIn_wide.2 (HPUT.out _ HB5.out))).mono ?_)
   |(gi_at_call 117;refine (CallsIn.inRound lp (callsIn_wide.2 (HPUT.out _ HB5.out))).mono ?_))
  rintro e w6 ⟨v6,rfl,hown6,hb6⟩;obtain ⟨A6,c6,rfl,hc6,hr6⟩:=hown6.row;have hbbp:0<bb.length:=by rw [HBB.out];exact qwq (fun e=>by have :=HQL.out;rw [e] at this;simp at this;omega)
  obtain ⟨ba,oa,rfl,_,hca⟩:=hr6.at_ (by rw [Lib.byteCells_length];exact hbbp);have hb56:=HB5.out.trans (hb6.mono HB5.out.size);have hla6:=HLA.out.below hb56;have hbase6:w.heap.size<=w6.heap.size:=by have :=hb56.size;have :=HW.out.size;omega
  have hpc6:=HC1.out w6 hb56;have hbx6:=(hb56.block _ (lt_of_block HBX.out)).trans HBX.out;obtain ⟨hB6,vb,ve,hv,ho,he⟩:=hla6;rw [<- HAE.out] at ho;obtain ⟨M,hM⟩:∃ M,M=bb.length:=⟨_,rfl⟩;rw [<- hM] at hbya hbbp hc6;rw [<- hM];obtain ⟨g,cap,w7,hrun,hown7,hg7,_,_⟩:=run_append_lies (P:=Tryz.prog) w6.drew 178 178 w.heap.size 5 i0 _ 1 1 Tryz.underlying178 hi0 hz0 hz1 hz2 rfl (by omega) vb a (Lib.byteCells (qab (-1) acc)) ho ⟨ba,oa,none⟩ M c6 (Lib.byteCells bb) (by rw [Lib.byteCells_length,hM];omega) (fun j u hu=>by rw [Addr.add_lit];exact hca j u hu) (qji _) hbbp (by unfold maxLen;omega) (by omega) hbase6 w6.heap.size rfl;have ho':=ho;rw [HAE.out] at ho' hown7;obtain ⟨hv7,hla7,hmild7⟩:=LAt.moreBytes hB6 hv ho' he (Below.refl _ w6).drew hg7 hM.symm hown7;obtain ⟨⟨cB0,cB1,cB2,cB3⟩,fB0,fB1,fB2,fB3⟩:=qe1 hv7;have c6a:=(qe1 hv).1.1;rw [<- HAE.out] at hla7 hmild7;have HLA7:=qH hla7;have HM7:=qH (((qaU.of_below hb56 HW.out.size)).trans hmild7);have HMM:=qH hM;have hbx8:=HM7.out.keep _ _ HBX.out (fun cs t fr e=>by cases e;unfold qeh;decide);have hS6:(w6.drew).cell? ⟨B+1,0,none⟩=some (.pointer (some ⟨B,0,none⟩)):=hpc6;have hS7:w7.cell? ⟨B+1,0,none⟩=some (.pointer (some ⟨B,0,none⟩)):=by
   have h1:w7.heap[B+1]?=w6.drew.heap[B+1]?:=hg7.block (B+1) (lt_of_block (w:=w6) hbx6) (fun e=>qah ho hbx6 (by decide) e.symm);exact cell_of_one (h1.trans hbx6)
  have hcl:Calls Tryz.prog 119 #[.pointer (some ⟨B,0,none⟩),.slice (some ⟨b,off+8*k*2,none⟩) q q,.int .i64 ((a+M:Nat):Int)] ((w7.setCell ⟨B,0,none⟩ (.slice (some ⟨g,0,none⟩) (a+M) cap)).drew) fun e w'=>(∃ v,e= .returned v)/\LAt w' w.heap.size B (qab (-1) acc++bb) (acc++blk)/\qaU w.heap.size ((w7.setCell ⟨B,0,none⟩ (.slice (some ⟨g,0,none⟩) (a+M) cap)).drew) w':=by
   obtain ⟨cs,h1,h2⟩:=HPOS.out;have hbl8:=HW.out.trans HM7.out.below;have hzz:a+M=(qab (-1) (acc++blk)).length:=by rw [hbya,HMM.out]
   exact qwm w.heap.size B _ acc blk k _ q q cs (a+M) _ (HLA7.out.below (Below.refl _ _).drew) HACL.out HQL.out (Nat.le_refl _) (by unfold maxLen;omega) (h1.imp fun _ _ _=>trivial) (qei.of_row (h2.below (hbl8.trans (Below.refl _ _).drew)) (by have :=hbl8.size;simpa using this)) (by omega) (by omega) (by have :=HACL.out;omega) (by omega) hzz (by omega)
  have c7b:(w7.setCell ⟨B,0,none⟩ (.slice (some ⟨g,0,none⟩) (a+M) cap)).cell? ⟨B,0,none⟩=some (.slice (some ⟨g,0,none⟩) (a+M) cap):=(qe1 (heap_setCell_same w7 B 0 _ _ _ hv7)).1.1;have HS6:=qH hS6;have HS7:=qH hS7;have HS8:Hid ((w7.setCell ⟨B,0,none⟩ (.slice (some ⟨g,0,none⟩) (a+M) cap)).cell? ⟨B+1,0,none⟩=some (.pointer (some ⟨B,0,none⟩))):=qH (cell_of_one hbx8);have HS9:Hid ((w7.setCell ⟨B,0,none⟩ (.slice (some ⟨g,0,none⟩) (a+M) cap)).drew.cell? ⟨B+1,0,none⟩=some (.pointer (some ⟨B,0,none⟩))):=qH (cell_of_one (w:=(w7.setCell ⟨B,0,none⟩ (.slice (some ⟨g,0,none⟩) (a+M) cap)).drew) hbx8);have HBX8:Hid ((w7.setCell ⟨B,0,none⟩ (.slice (some ⟨g,0,none⟩) (a+M) cap)).drew.heap[B+1]?=some (.cells #[.pointer (some ⟨B,0,none⟩)] 116 (0,0))):=qH hbx8;have HCL:=qH hcl;have HRUN:=qH hrun;have C7B:=qH c7b;clear hla7 hmild7 hown7 hg7 ho ho' he hv7 hca hr6 hown6 hb6 hM hB6 hrun hbx8 hS6 hS7 hcl c7b hbx6 hbya;clear hc1 hpc6;gi_wp2;refine qhQ (S:=fun w'=>w'.cell? ⟨B+1,0,none⟩=some (.pointer (some ⟨B,0,none⟩))) (by kernel_rfl) (by kernel_rfl) HS6.out (fun hHeld0=> ?_)
  refine wpAnyH_take (i:=0) (v:= .pointer (some ⟨B,0,none⟩)) rfl (by kernel_rfl) (by kernel_rfl) (by kernel_rfl) (fun _ _ _ h=>h) (Or.inl ⟨by rfl,fun wx hSw=>by go_simp⟩) (by assumption) ?_
  try simp only [Act.put,zA,zB,zD,zE,zF]
  refine wpAnyH_take (i:=1) (v:= .pointer (some ⟨B,0,none⟩)) rfl (by kernel_rfl) (by kernel_rfl) (by kernel_rfl) (fun _ _ _ h=>h) (Or.inl ⟨by rfl,fun wx hSw=>by go_simp⟩) (by assumption) ?_
  try simp only [Act.put,zA,zB,zC,zD,zE,zF]
  refine wpAnyH_take (i:=2) (v:= .pointer (some ⟨B,0,none⟩)) rfl (by kernel_rfl) (by kernel_rfl) (by kernel_rfl) (fun _ _ _ h=>h) (Or.inl ⟨by rfl,fun wx hSw=>by go_simp⟩) (by assumption) ?_
  try simp only [Act.put,zA,zB,zC,zD,zE,zF]
  refine wpAnyH_take (i:=3) (v:= .pointer (some ⟨B,0,none⟩)) rfl (by kernel_rfl) (by kernel_rfl) (by kernel_rfl) (fun _ _ _ h=>h) (Or.inl ⟨by rfl,fun wx hSw=>by go_simp⟩) (by assumption) ?_
  try simp only [Act.put,zA,zB,zC,zD,zE,zF]
  refine wpAnyH_take (i:=5) (v:= .slice (some ⟨ba,oa,none⟩) M c6) rfl (by kernel_rfl) (by kernel_rfl) (by kernel_rfl) (fun _ _ _ h=>h) (Or.inl ⟨by rfl,fun wx hSw=>by go_simp⟩) (by assumption) ?_
  try simp only [Act.put,zA,zB,zC,zD,zE,zF]
  refine wpAnyH_ready (rs:=[4]) (by kernel_rfl) (by simp) ?_;refine AllReadyH.cons rfl (fun K hK=> ?_) AllReadyH.nil
  try simp only [zA,zB,zC]
  go_simp;refine hK.out _ _ ?_ (fun hHeld1=> ?_)
  ·exact HS6.out
  clear hK K
  try simp only [Act.put,zA,zB,zC,zD,zE,zF]
  refine wpAnyH_ready (rs:=[6]) (by kernel_rfl) (by simp) ?_;refine AllReadyH.cons rfl (fun K hK=> ?_) AllReadyH.nil
  try simp only [zA,zB,zC]
  refine qfu (a:=⟨_,_⟩) ?_ (.tmp 24) (.tmp 25) 178 ?_ vb (.slice (some ⟨ba,oa,none⟩) M c6) ?_ ?_ (.slice (some ⟨g,0,none⟩) (a+M) cap) w7 ?_ ?_
  ·rfl
  ·rfl
  ·rfl
  ·rfl
  ·exact HRUN.out
  refine hK.out _ _ HS7.out (fun hHeld2=> ?_)
  clear hK K
  try simp only [Act.put,zD,zE,zF]
  refine wpAnyH_take (i:=7) (v:= .pointer (some ⟨B,0,none⟩)) rfl (by kernel_rfl) (by kernel_rfl) (by kernel_rfl) (fun _ _ _ h=>h) (Or.inl ⟨by rfl,fun wx hSw=>by go_simp⟩) (by assumption) ?_
  try simp only [Act.put,zA,zB,zC,zD,zE,zF]
  refine wpAnyH_take (i:=8) (v:= .pointer (some ⟨B,0,none⟩)) rfl (by kernel_rfl) (by kernel_rfl) (by kernel_rfl) (fun _ _ _ h=>h) (Or.inl ⟨by rfl,fun wx hSw=>by go_simp⟩) (by assumption) ?_
  try simp only [Act.put,zA,zB,zC,zD,zE,zF]
  refine wpAnyH_ready (rs:=[9]) (by kernel_rfl) (by simp) ?_;refine AllReadyH.cons rfl (fun K hK=> ?_) AllReadyH.nil
  try simp only [zA,zB,zC]
  go_simp;refine hK.out _ _ ?_ (fun hHeld3=> ?_)
  ·exact HS8.out
  clear hK K
  try simp only [Act.put,zA,zB,zC,zD,zE,zF]
  refine wpAnyH_done (by kernel_rfl) ?_ _;refine qb9.fin ?_;gi_wp2;have c7b:=C7B.out;clear cB0 cB1 cB2 cB3 fB0 fB1 fB2 fB3 c6a;refine qhQ (S:=fun w'=>w'.cell? ⟨B+1,0,none⟩=some (.pointer (some ⟨B,0,none⟩))) (by kernel_rfl) (by kernel_rfl) HS9.out (fun hHeld0=> ?_)
  refine wpAnyH_take (i:=0) (v:= .pointer (some ⟨B,0,none⟩)) rfl (by kernel_rfl) (by kernel_rfl) (by kernel_rfl) (fun _ _ _ h=>h) (Or.inl ⟨by rfl,fun wx hSw=>by go_simp⟩) (by assumption) ?_
  try simp only [Act.put,zA,zB,zD,zE,zF]
  refine wpAnyH_take (i:=1) (v:= .slice (some ⟨b,off+8*k*2,none⟩) q q) rfl (by kernel_rfl) (by kernel_rfl) (by kernel_rfl) (fun _ _ _ h=>h) (Or.inl ⟨by rfl,fun wx hSw=>by go_simp⟩) (by assumption) ?_
  try simp only [Act.put,zA,zB,zC,zD,zE,zF]
  refine wpAnyH_take (i:=2) (v:= .pointer (some ⟨B,0,none⟩)) rfl (by kernel_rfl) (by kernel_rfl) (by kernel_rfl) (fun _ _ _ h=>h) (Or.inl ⟨by rfl,fun wx hSw=>by go_simp⟩) (by assumption) ?_
  try simp only [Act.put,zA,zB,zC,zD,zE,zF]
  refine wpAnyH_take (i:=3) (v:= .pointer (some ⟨B,0,none⟩)) rfl (by kernel_rfl) (by kernel_rfl) (by kernel_rfl) (fun _ _ _ h=>h) (Or.inl ⟨by rfl,fun wx hSw=>by go_simp⟩) (by assumption) ?_
  try simp only [Act.put,zA,zB,zC,zD,zE,zF]
  refine wpAnyH_take (i:=4) (v:= .pointer (some ⟨B,0,none⟩)) rfl (by kernel_rfl) (by kernel_rfl) (by kernel_rfl) (fun _ _ _ h=>h) (Or.inl ⟨by rfl,fun wx hSw=>by go_simp⟩) (by assumption) ?_
  try simp only [Act.put,zA,zB,zC,zD,zE,zF]
  refine wpAnyH_ready (rs:=[5]) (by kernel_rfl) (by simp) ?_;refine AllReadyH.cons rfl (fun K hK=> ?_) AllReadyH.nil
  try simp only [zA,zB,zC]
  go_simp;refine hK.out _ _ ?_ (fun hHeld1=> ?_)
  ·exact HS9.out
  clear hK K
  try simp only [Act.put,zA,zB,zC,zD,zE,zF]
  refine wpAnyH_take (i:=6) (v:= .int .i64 ((a+M:Nat):Int)) rfl (by kernel_rfl) (by kernel_rfl) (by kernel_rfl) (fun _ _ _ h=>h) (Or.inl ⟨by rfl,fun wx hSw=>by go_simp⟩) (by assumption) ?_
  try simp only [Act.put,zA,zB,zC,zD,zE,zF]
  refine wpAnyH_ready (rs:=[7]) (by kernel_rfl) (by simp) ?_;refine AllReadyH.cons rfl (fun K hK=> ?_) AllReadyH.nil
  try simp only [zA,zB,zC]
  go_simp
  go_at_call 119
  refine HCL.out.mono ?_;rintro e w9 ⟨⟨v9,rfl⟩,hla9,hmild9⟩;have HS10:Hid (w9.cell? ⟨B+1,0,none⟩=some (.pointer (some ⟨B,0,none⟩))):=qH (cell_of_one (hmild9.keep _ _ HBX8.out (fun cs t fr e=>by cases e;unfold qeh;decide)));have HLA9:=qH hla9;have HM9:=qH hmild9;clear hla9 hmild9
  go_wp2_with fail
  refine hK.out _ _ ?_ (fun hHeld2=> ?_)
  ·exact HS10.out
  clear hK K
  try simp only [Act.put,zA,zB,zC,zD,zE,zF]
  refine wpAnyH_done (by kernel_rfl) ?_ _;refine qb9.fin ?_;gi_wp2;have hm9:=HM7.out.trans ((qaU.of_below (Below.refl _ _).drew (by have :=(HW.out.trans HM7.out.below).size;omega)).trans HM9.out);have hla9:=HLA9.out;rw [HBB.out,HX0E.out,<- qeV] at hla9;obtain ⟨h1,h2⟩:=HMI.out _ hla9 (hm9.keep _ _ HBX.out (fun cs t fr e=>by cases e;unfold qeh;decide)) (HW.out.trans hm9.below) hm9;exact ⟨hm9.keepsOthers,h2,h1⟩
 case done=>
  rintro D' ys W hD rfl ⟨_,hla,hbx,hbw⟩ hK';rw [List.length_range,<- HN.out,qjW] at hla;have hc1:=cell_of_one hbx;have HLA:=qH hla;have HBW2:=qH hbw;clear hla hbx hbw;gi_wp2;refine ⟨by simp,.inl ⟨_,_,rfl,run_takeDeferred hK',?_⟩⟩;refine ⟨_,results_tmp2 rfl _ _ _,?_⟩;have hD2:w.heap.size<=D':=by have :=HZ3.out;have :=HBW.out;omega
  exact ⟨B,rfl,qat.lat 0 _ _ _ _ W D' _ _ (Nat.zero_le _) hK' rfl HLA.out,qat.belowW (N:=w.heap.size) (Nat.le_refl _) W D' _ _ hD2 hK' rfl HBW2.out⟩
theorem LAt.low {w:World} {base b B:Nat} {bs:List UInt8} {l:List Po} (h:LAt w base B bs l) (hb:b<=base):LAt w b B bs l:=by
 obtain ⟨h1,vb,ve,h2,h3,h4⟩:=h;exact ⟨by omega,vb,ve,h2,qbg h3 hb,qbg h4 hb⟩
theorem LAt.kinds {w w':World} {base B:Nat} {bs:List UInt8} {l:List Po} (h:LAt w base B bs l) (hk:∀ (k:Nat) (cs:Array Value) (t:TypeId) (fr:Nat × Nat),w.heap[k]?=some (.cells cs t fr)->t=181∨t=5∨t=206->w'.heap[k]?=some (.cells cs t fr)):LAt w' base B bs l:=by
 obtain ⟨h1,vb,ve,h2,h3,h4⟩:=h;have key:∀ {E:TypeId} {size:Nat} {v:Value} {n:Nat} {xs:List Value},(E=181∨E=5∨E=206)->w.ownsRow base E size v n xs->w'.ownsRow base E size v n xs:=fun hE ho=>by
  refine qas ho fun g hg=> ?_
  rcases ho.2 with ⟨rfl,_⟩|⟨g',cap,cur,rfl,_,hh,_⟩
  ·cases hg
  ·simp only [Value.ownBlock,Option.some.injEq] at hg
   subst hg;rw [hk _ _ _ _ hh hE,hh]
 exact ⟨h1,vb,ve,hk _ _ _ _ h2 (.inl rfl),key (.inr (.inl rfl)) h3,key (.inr (.inr rfl)) h4⟩
theorem LAt.grown {w w':World} {base b B:Nat} {bs:List UInt8} {l:List Po} {E:TypeId} {size n:Nat} {v:Value} {xs:List Value} (h:LAt w base B bs l) (hv:w.ownsRow b E size v n xs) (h1:181≠E) (h2:5≠E) (h3:206≠E) (hg:w.grownBy w' v.ownBlock):LAt w' base B bs l:=
 h.kinds fun k cs t fr hk ht=>(hg.block k (Array.getElem?_eq_some_iff.1 hk).1 (fun e=>qah hv hk (by rcases ht with rfl|rfl|rfl<;>assumption) e.symm)).trans hk
theorem qb8.grown {w wr w':World} {B:Nat} {V:Array Value} {E:TypeId} {size n:Nat} {v:Value} {xs:List Value} (h:qb8 w B V wr) (hv:wr.ownsRow w.heap.size E size v n xs) (hE:62≠E) (hg:wr.grownBy w' v.ownBlock):qb8 w B V w':=by
 obtain ⟨h0,h1,h2⟩:=h;exact ⟨h0.grown hg h0.size fun k hk=>(hv.lt k hk).1,h1,(hg.block B (Array.getElem?_eq_some_iff.1 h2).1 (fun e=>qah hv h2 hE e.symm)).trans h2⟩
structure qfv (w:World) (V:Array Value) (ls:List (List Pn)) (k:Nat) (vl:Value) (bl:List Nat) (wr:World):Prop where
 len:bl.length=k
 own:wr.ownsRow w.heap.size 116 1 vl k (qb2 bl)
 at_:∀ j (h:j<ls.length),j<k->LAt wr 0 (bl.getD j 0) (qab (-1) ls[j]) ls[j]
 box:qb8 w w.heap.size V wr
theorem qfv.below {w wr w':World} {V:Array Value} {ls:List (List Pn)} {k:Nat} {vl:Value} {bl:List Nat} (h:qfv w V ls k vl bl wr) (hb:Below wr.heap.size wr w'):qfv w V ls k vl bl w':=
 ⟨h.len,qao h.own hb,fun j hj hjk=>(h.at_ j hj hjk).below hb,h.box.below hb⟩
theorem qfv.push {w wr w5:World} {V:Array Value} {ls:List (List Pn)} {k:Nat} {vl v':Value} {bl:List Nat} (h:qfv w V ls k vl bl wr) (hk:k<ls.length) {B:Nat} (hl:LAt wr 0 B (qab (-1) ls[k]) ls[k])
  (hown:w5.ownsRow w.heap.size 116 1 v' (k+1) (qb2 bl++[.pointer (some ⟨B,0,none⟩)])) (hg:wr.grownBy w5 vl.ownBlock):qfv w V ls (k+1) v' (bl++[B]) w5:=by
 refine ⟨by rw [List.length_append,h.len];rfl,by simpa [qb2] using hown,fun j hj hjk=> ?_,h.box.grown h.own (by decide) hg⟩;have hgr:∀ {B:Nat} {bs:List UInt8} {l:List Po},LAt wr 0 B bs l->LAt w5 0 B bs l:=fun hh=>hh.grown h.own (by decide) (by decide) (by decide) hg
 by_cases e:j=k
 ·subst e
  have :(bl++[B]).getD j 0=B:=by rw [List.getD_eq_getElem?_getD,List.getElem?_append_right (by rw [h.len];exact Nat.le_refl _),h.len];simp
  rw [this];exact hgr hl
 ·have hjk':j<k:=by omega
  have :(bl++[B]).getD j 0=bl.getD j 0:=by rw [List.getD_eq_getElem?_getD,List.getElem?_append_left (by rw [h.len];exact hjk'),<- List.getD_eq_getElem?_getD]
  rw [this];exact hgr (h.at_ j hj hjk')
def qws (w:World) (V:Array Value) (ls:List (List Pn)) (vl i:Value) (wr:World):Prop:=∃ (k:Nat) (bl:List Nat),k<=ls.length/\i= .int .i64 (k:Int)/\qfv w V ls k vl bl wr
def qd1 (x:qbc) (w:World) (e:Ending) (w':World):Prop:=∃ S,e= .returned (.tuple #[.pointer (some ⟨S,0,none⟩),.int .i64 0])/\qbC w' S x/\w.heap.size<=S/\Below w.heap.size w w'
def qwt (w:World) (e:Ending) (w':World):Prop:=e= .returned (.tuple #[.pointer none,.int .i64 1])/\Below w.heap.size w w'
theorem qwu:(Tryz.prog.info? 116).map (fun i=>(i.zero,i.size,i.bytes))=some (some (.pointer none),1,8):=by kernel_rfl
structure qoR (b D:Nat) (l:List Nm) (vs:List Nat) (W:World):Prop where
 vlen:vs.length=l.length
 var:∃ A c,W.heap[D]?=some (.cells #[.slice A l.length c] 106 (0,0))/\l.length<=c/\c<=maxLen/\Row W b A (qaJ l vs)
def qoS (b:Nat) (l:List Nm) (vs:List Nat) (w:World) (e:Ending) (w':World):Prop:=
 ∃ D,e= .returned (.func (.func 99) #[] #[.pointer (some ⟨D,0,none⟩)])/\w.heap.size<=D/\qoR b D l vs w'/\Below w.heap.size w w'/\w'.heap.size=D+1
theorem qoT (B o:Nat) (i:Int) (l:List Nm) (vs:List Nat) (w0 w:World) (h0:qbO w0 B o l vs) (hw0:Below w0.heap.size w0 w) (hl:l.length<=1048576) (hi:i<=9223372036854775807):
  Calls Tryz.prog 54 #[.pointer (some ⟨B,o,none⟩),.int .i64 i] w (qoS w0.heap.size (l.drop i.toNat) (vs.drop i.toNat) w):=by
 have h:=h0.below hw0;have hvl:=h.2.1;have hbw:=hw0.size;have C0:=qH (fun W (hb:Below w.heap.size w W)=>qi7 B o l vs W (h.below hb));obtain ⟨m,hm⟩:∃ m:Nat,m=i.toNat:=⟨_,rfl⟩;obtain ⟨n,hn⟩:∃ n,n=l.length:=⟨_,rfl⟩;obtain ⟨k,hk⟩:∃ k:Nat,k=min m n:=⟨_,rfl⟩;have hmx:∀ (w:World) (ts:Array TypeId) (t:TypeId),(Builtin.max_ ts t #[.int .i64 i,.int .i64 0]).run Tryz.prog w= .ok (.int .i64 (m:Int)) w:=fun w ts t=>by rw [run_max_int2,hm];congr 2;split<;>omega
 have hmn:∀ (w:World) (ts:Array TypeId) (t:TypeId),(Builtin.min_ ts t #[.int .i64 m,.int .i64 n]).run Tryz.prog w= .ok (.int .i64 (k:Int)) w:=fun w ts t=>by rw [run_min_int2,hk];congr 2;split<;>omega
 have hd1:l.drop i.toNat=l.drop k:=by
  rw [<- hm];by_cases h1:m<=n
  ·rw [hk,Nat.min_eq_left h1]
  ·rw [List.drop_of_length_le (by omega),List.drop_of_length_le (by omega)]
 have hd2:vs.drop i.toNat=vs.drop k:=by
  rw [<- hm];by_cases h1:m<=n
  ·rw [hk,Nat.min_eq_left h1]
  ·rw [List.drop_of_length_le (by omega),List.drop_of_length_le (by omega)]
 rw [hd1,hd2];have hkn:k<=n:=by omega
 obtain ⟨A,c,hc0,hnc,hcm,hrow0,hA⟩:=h0.read;have hc:=(hw0.cell (p:=⟨B,o,none⟩) h0.lt).trans hc0;have hrow:=hrow0.below hw0;clear hc0 hrow0;obtain ⟨b0,hb0⟩:∃ b,b=w0.heap.size:=⟨_,rfl⟩;rw [<- hb0] at hrow hbw ⊢;rw [<- hn] at hc hnc C0 hl;have HN:=qH hn;have HV:=qH hvl;have HROW:=qH hrow;have k1:(0:Int)<=(k:Int):=by omega
 have k2:(k:Int)<=(n:Int):=by omega
 have k3:(n:Int)<=(c:Int):=by omega
 have k4:(n:Int)<=1048576:=by omega
 have HBL:=qH h.lt;unfold maxLen at hcm;have HFIN:Hid (∀ A' c' W,(W.heap.size=w.heap.size+1/\Below w.heap.size w W/\W.heap[w.heap.size]?=some (.cells #[.slice A' (n-k) c'] 106 (0,0)))->n-k<=c'->c'<=maxLen->Row w b0 A' (qaJ (l.drop k) (vs.drop k))->
   qoS b0 (l.drop k) (vs.drop k) w (.returned (.func (.func 99) #[] #[.pointer (some ⟨w.heap.size,0,none⟩)])) W):=qH fun A' c' W ⟨h1,h2,h3⟩ h4 h5 h6=>
  ⟨w.heap.size,rfl,Nat.le_refl _,⟨by rw [List.length_drop,List.length_drop,hvl],A',c',by rw [List.length_drop,<- HN.out];exact h3,by rw [List.length_drop,<- HN.out];exact h4,h5,h6.below (h2.mono hbw)⟩,h2,by omega⟩
 clear h h0 hw0 hb0 hm hk hd1 hd2 hrow hvl hn;rcases hA with ⟨rfl,hl0,rfl⟩|⟨g,rfl⟩
 ·have hn0:n=0:=by rw [HN.out,hl0];rfl
  have hk0:k=0:=by omega
  have hrow0:Row w b0 none (qaJ (l.drop k) (vs.drop k)):= .inl (by rw [hl0];simp [qeW]);subst hn0 hk0;have hmin:min (m:Int) 0=0:=by omega
  have HX0:=qH hrow0;have hblk:((w.alloc (.cells #[.slice none 0 0] 106)).drew).heap[w.heap.size]?=some (.cells #[.slice none 0 0] 106 (0,0)):=heap_alloc_new w _;have hba:Below w.heap.size w (w.alloc (.cells #[.slice none 0 0] 106)).drew:=((Below.refl _ w).alloc (Nat.le_refl _) _).drew;have hn1:=cell_of_one hblk;have hn2:=free_of_one hblk;have hn3:=(hba.cell (p:=⟨B,o,none⟩) HBL.out).trans hc;have HBA:=qH hba;clear hrow0 hblk hba hl0
  go_enter Tryz.func54,Tryz.ntmps54
  go_wp2
  go_region_law (first
    |(go_simp;go_at_call 98;refine (C0.out _ (by first|exact (Below.refl _ w).drew|exact HBA.out)).mono ?_;rintro e w' ⟨rfl,rfl⟩))
  all_goals
   have hfin:=HFIN.out none 0 ((w.alloc (.cells #[.slice none 0 0] 106)).drew) ⟨by simp,((Below.refl _ w).alloc (Nat.le_refl _) _).drew,heap_alloc_new w _⟩ (by omega) (by unfold maxLen;omega) HX0.out;have HF:=qH hfin;clear hfin;go_wp2;go_ret;exact HF.out
 ·obtain ⟨AN,hAN⟩:∃ AN,(if c=k then (some ⟨g,0,none⟩:Option Addr) else some ⟨g,k*2,none⟩)=AN:=⟨_,rfl⟩
  have hrow0:Row w b0 AN (qaJ (l.drop k) (vs.drop k)):=by
   rw [<- hAN];by_cases hck:c=k
   ·exact .inl (by rw [List.drop_of_length_le (by rw [<- HN.out];omega)];simp [qeW])
   ·rw [if_neg hck,<- qi6 k HV.out]
    rcases HROW.out with h0|⟨b',o',e,hb,hcl⟩
    ·exact .inl (by rw [h0];simp)
    ·injection e with e
     injection e with e1 e2
     subst e1 e2;refine .inr ⟨g,k*2,rfl,hb,fun j u hu=> ?_⟩;have :=hcl (k*2+j) u (by rw [<- hu];simp);rwa [Nat.zero_add] at this
  have HX0:=qH hrow0;have hblk:((w.alloc (.cells #[.slice none 0 0] 106)).drew).heap[w.heap.size]?=some (.cells #[.slice none 0 0] 106 (0,0)):=heap_alloc_new w _;have hba:Below w.heap.size w (w.alloc (.cells #[.slice none 0 0] 106)).drew:=((Below.refl _ w).alloc (Nat.le_refl _) _).drew;have hn1:=cell_of_one hblk;have hn2:=free_of_one hblk;have hn3:=(hba.cell (p:=⟨B,o,none⟩) HBL.out).trans hc;have HBLK:=qH hblk;have HBA:=qH hba;clear hrow0 hblk hba
  go_enter Tryz.func54,Tryz.ntmps54
  go_wp2
  go_region_law (first
    |(go_simp;go_at_call 98;refine (C0.out _ (by first|exact (Below.refl _ w).drew|exact HBA.out)).mono ?_;rintro e w' ⟨rfl,rfl⟩))
  all_goals
   have hfin:=HFIN.out AN (c-k) ((w.alloc (.cells #[.slice AN (n-k) (c-k)] 106)).drew) ⟨by simp,((Below.refl _ w).alloc (Nat.le_refl _) _).drew,heap_alloc_new w _⟩ (by omega) (by unfold maxLen;omega) HX0.out;have HF:=qH hfin;clear hfin;go_wp2;go_ret;exact HF.out
end Go.Proofs.YtpehcaidjlemiaaGreatDoor
