import Derived.Test.YtpehcaidjlemiaaGreatDoorMRZz
import Derived.RangeFuncNested
import Derived.RangeFuncCalls
import Derived.Deep.RegionHeld3
import Derived.OrdersIn
import Derived.TacticsIn
import Derived.Lib.AppendZeros
import Derived.Test.YtpehcaidjlemiaaGreatDoorMRQ18
import Derived.Deep.AppendLies
import Derived.Test.YtpehcaidjlemiaaGreatDoorMRQ06
import Derived.Deep.RegionLaw
import Derived.StillTailTactics
import Derived.Test.YtpehcaidjlemiaaGreatDoorMRQ16
set_option maxHeartbeats 8000000
set_option maxRecDepth 100000
set_option linter.unusedVariables false
namespace Go.Proofs.YtpehcaidjlemiaaGreatDoor
open Go
section
variable {P:Program} {ops:Array Oper} {Q:Exit->Act->World->Prop} {md:Region.Mode} {n l:Nat}
def qcv (Q:Exit->Act->World->Prop):Exit->Act->World->Prop
 |.normal,a,w=>Q .normal a w
 |_,_,_=>False
theorem qcv.imp:∀ e a w,qcv Q e a w->Q e a w:=fun e a w h=>by
 cases e<;>first|exact h|exact (h:False).elim
theorem qcv.fin {a:Act} {w:World} (h:Q .normal a w):qcv Q .normal a w:=h
theorem qcv.no_out:¬ LetsOut (qcv Q):=fun ⟨_,_,h⟩=>h
theorem qwt {o:Oper} {a:Act} {w:World} {K:Act->World->Prop} (hd:∀ c,o.op≠ .defer c) (h:o.wp P a w K Q):o.wpIn (Fence.wide.inRound l) n P a w K Q:=by
 refine ⟨fun _ _=>trivial,?_⟩;have e:o.semAt (Fence.wide.inRound l).round a.eval=execOp a.eval o:=Oper.semAt_some l _ _ hd;rw [e];unfold Oper.wp at h;generalize (execOp a.eval o).run P w=r at*;cases r with
 |ok x w'=>
  cases x<;>first
   |exact h
   |exact (h:False).elim
   |exact ⟨fun e=>(by cases e),CallsIn.inRound l (callsIn_wide.2 h)⟩
   |exact ⟨fun e=>(by cases e),fun c cs _=>let ⟨v,w2,h1,h2⟩:=h c cs;⟨v,w2,h1,stepsIn_wide.2 h2⟩⟩
 |halt x w'=>cases x<;>exact h
theorem qwu {i:Nat} {a:Act} {w:World} {K K':Act->World->Prop} (hd:∀ (i:Nat) (o:Oper),ops[i]?=some o->∀ c,o.op≠ .defer c) (hk:∀ a w,K a w->K' a w) (h:wpOp P ops (qcv Q) i K a w):wpOpIn (Fence.wide.inRound l) n P ops (qcv Q) i K' a w:=by
 unfold wpOp at h;unfold wpOpIn;cases ho:ops[i]? with
 |none=>rw [ho] at h;exact hk _ _ h
 |some o=>
  rw [ho] at h;simp only at h ⊢;split
  ·rename_i hw
   rw [if_pos hw] at h;rcases h with h|⟨_,h⟩
   ·exact Oper.wpIn_mono hk (qwt (hd i o ho) h)
   ·exact (qcv.no_out h).elim
  ·rename_i hw
   rw [if_neg hw] at h;exact ⟨fun _ _=>trivial,hk _ _ h⟩
theorem qj0 (hd:∀ (i:Nat) (o:Oper),ops[i]?=some o->∀ c,o.op≠ .defer c):∀ (fuel:Nat) (listed:Array Bool) (a:Act) (w:World),wpAny P md ops (qcv Q) fuel listed a w->wpAnyIn (Fence.wide.inRound l) n P md ops (qcv Q) fuel listed a w
 |0,_,_,_,h=>h
 |fuel+1,listed,a,w,h=>⟨h.1,fun i hi=>qwu hd (fun a' w' h'=>qj0 hd fuel _ a' w' h') (h.2 i hi)⟩
def qhN (o:Oper):Bool:=match o.op with| .defer _=>false|_=>true
theorem qoX (h:ops.toList.all qhN=true):∀ (i:Nat) (o:Oper),ops[i]?=some o->∀ c,o.op≠ .defer c:=fun i o hi c e=>by
 have h1:=List.all_eq_true.1 h o (by rw [Array.mem_toList_iff];exact Array.mem_of_getElem? hi);unfold qhN at h1;rw [e] at h1;cases h1
theorem qhO {o:Oper} {a:Act} {w:World} {K:Act->World->Prop} {E:Prop} (hg:o.guard=none) (s x:Operand) (t:TypeId)
  (hop:o.op=Op.call {callee:=Callee.builtin Builtin.append,args:=#[s,x],argTypes:=#[t,t]}) (vs vx:Value) (hs:a.eval s=vs) (hx:a.eval x=vx) (v':Value) (w':World)
  (hr:(Builtin.append_ #[t,t] o.type #[vs,vx]).run P w= .ok v' w') (hK:K (a.put o.dst v') w'):if Region.wanted o (yielded ops a.tmps)=true then Oper.wp P o a w K Q else E:=by
 have hw:Region.wanted o (yielded ops a.tmps)=true:=by simp [Region.wanted,hg]
 rw [if_pos hw];exact Lib.wp_append_run w s x t t hop vs vx hs hx v' w' hr hK
theorem qj1 {S:World->Prop} {id:Nat} {a:Act} {w:World} (hm:P.follows .mixedOrders=true) (hd:ops.toList.all qhN=true) (hS:S w.drew)
  (h:S w.drew->wpAnyH P .any ops (qcv Q) S ops.size (Array.replicate ops.size false) a w.drew):(Code.region id ops true).wpIn (Fence.wide.inRound l) n P Q a w:=
 wpIn_mono (wpIn_region_any hm (qj0 (qoX hd) _ _ _ _ (wpAny_of_held _ _ _ _ (h hS)))) qcv.imp
end
open Go.RowKit
attribute [local go_sem] Oper.semAt_some
def qoY (l:List Po) (w:World) (e:Ending) (w':World):Prop:=∃ B,e= .returned (.tuple #[.pointer (some ⟨B,0,none⟩),.int .i64 0])/\LAt w' w.heap.size B (qab (-1) l) l/\Below w.heap.size w w'
theorem qwv {l:List Po} {x:Int} (h:l≠[]):0<(qab x l).length:=by
 cases l with
 |nil=>exact absurd rfl h
 |cons p r=>
  have :=qfd (p.1-(x+1)).toNat;rw [qab,List.length_append];omega
def qhP (w:World) (B:Nat) (A:Option Addr) (n c:Nat) (l:List Po) (pre:List Nat) (W:World):Prop:=
 (W.heap[B+1+1]?=some (.cells #[.slice A n c] 71 (0,0))/\W.heap[B+1+1+1]?=some (.cells #[.int .i64 8] 3 (0,0)))/\LAt W w.heap.size B (qab (-1) (l.take (8*pre.length))) (l.take (8*pre.length))/\W.heap[B+1]?=some (.cells #[.pointer (some ⟨B,0,none⟩)] 116 (0,0))/\Below w.heap.size w W
theorem LAt.moreBytes {w w0 w1:World} {base B:Nat} {bs cs:List UInt8} {l:List Po} {vb ve v':Value} {m:Nat} (hB:base<=B) (hv:w.heap[B]?=some (.cells #[vb,ve,.int .i64 (l.length:Int),.int .i64 (qar l:Int)] 181 (0,0)))
  (ho:w.ownsRow base 5 1 vb bs.length (Lib.byteCells bs)) (he:w.ownsRow base 206 2 ve (qay l.length) (qew l)) (hb:Below w.heap.size w w0) (hg:w0.grownBy w1 vb.ownBlock) (hm:cs.length=m)
  (hown:w1.ownsRow base 5 1 v' (bs.length+m) (Lib.byteCells bs++Lib.byteCells cs)):
  w1.heap[B]?=some (.cells #[vb,ve,.int .i64 (l.length:Int),.int .i64 (qar l:Int)] 181 (0,0))/\LAt (w1.setCell ⟨B,0,none⟩ v') base B (bs++cs) l/\qaR base w (w1.setCell ⟨B,0,none⟩ v'):=by
 have hlt:B<w.heap.size:=(Array.getElem?_eq_some_iff.1 hv).1;have hv0:=(hb.block B hlt).trans hv;have he0:=qap he hb;have ho0:=qap ho hb;have hv1:w1.heap[B]?=some (.cells #[vb,ve,.int .i64 (l.length:Int),.int .i64 (qar l:Int)] 181 (0,0)):=(hg.block B (by have :=hb.size;omega) (fun e=>qao ho0 hv0 (by decide) e.symm)).trans hv0;have he1:w1.ownsRow base 206 2 ve (qay l.length) (qew l):=qax he0 fun g hg'=>hg.block g (he0.lt g hg').2 fun e=>qe6 ho0 he0 (by decide) hg' e.symm
 have hbw:base<=w.heap.size:=by omega
 refine ⟨hv1,⟨hB,v',ve,heap_setCell_same w1 B 0 _ _ _ hv1,qez (qjt hm hown) (qao hown hv1 (by decide)) _,qez he1 (qao he1 hv1 (by decide)) _⟩,?_⟩;exact (qaR.of_below hb hbw).trans ((qaR.grownOwn ho0 (.inr (.inr rfl)) hg (by have :=hb.size;omega)).trans (qaR.setCell hv1 (.inl rfl) hB _))
theorem qoZ:∀ {ps:List Int} {x b:Int},qah x ps=true->(∀ y∈ps,y<b)->x<b->(ps.length:Int)<b-x
 |[],x,b,_,_,h=>by simp;omega
 |n::r,x,b,h,hb,hx=>by
  rw [qah,Bool.and_eq_true,decide_eq_true_iff] at h;have :=qoZ (b:=b) h.2 (fun y hy=>hb y (List.mem_cons_of_mem _ hy)) (hb n (List.mem_cons_self ..));rw [List.length_cons];omega
theorem qww {ps:List Int} (h:qcL ps=true):ps.length<=2147483648:=by
 have :=qoZ (b:=2147483648) (qfA.1 h).1 (fun y hy=>(qg9 h y hy).2) (by omega);omega
theorem qj2:∀ {l:List Po} {last:Int},qaQ last l=true->∀ p∈l,p.2.length<=2147483648
 |[],_,_,p,hp=>by cases hp
 |q::r,last,h,p,hp=>by
  have h':=qet.1 h;rcases List.mem_cons.1 hp with rfl|hp
  ·exact qww h'.2.2.1
  ·exact qj2 h'.2.2.2 p hp
theorem qo0 (A:Option Addr) (n c:Nat) (l:List Po) (w:World) (hn:l.length=n) (hc:n<=c) (hcx:c<=maxLen) (hn100:n<=1000000) (hpo:qbB w w.heap.size A l) (htp:qar l<=40000000000) (hm:qaQ (-1) l=true):
  Calls Tryz.prog 70 #[.slice A n c] w (qoY l w):=by
 obtain ⟨i0,hi0,hz0,hz1,hz2⟩:=info_parts qhj;refine (callsIn_wide (n:=6)).1 ?_;have hpl:∀ p∈l,p.2.length<=2147483648:=qj2 hm;have my:=qoS A n c l w hn (by omega) hpo (fun p hp=>by have :=hpl p hp;omega);rw [hm] at my;have MY:=qH my;have HPO:=qH hpo;have HPL:=qH hpl;have HM:=qH hm;have HN:=qH hn;have HTP:=qH htp;clear my hpo hpl hm hn htp;refine callsIn_of_wp_marks Tryz.func70 rfl trivial ?_ rfl;simp only [Tryz.ntmps70,List.size_toArray,List.length_cons,List.length_nil,Nat.reduceAdd,Nat.reduceSub,Array.replicate_succ,Array.replicate_zero,List.push_toArray,List.append_toArray,List.nil_append,List.cons_append]
 gi_wp2_with (first
  |(refine ⟨trivial,?_⟩;gi_at_call 115;refine (callsIn_wide.2 MY.out).mono ?_;rintro e w1 ⟨rfl,hb1⟩)
  |(gi_at_call 115;refine (callsIn_wide.2 MY.out).mono ?_;rintro e w1 ⟨rfl,hb1⟩)
  |(refine ⟨trivial,?_⟩;gi_at_call 116;refine (callsIn_wide.2 (qoW A n c _)).mono ?_)
  |(gi_at_call 116;refine (callsIn_wide.2 (qoW A n c _)).mono ?_))
 rintro e w3 ⟨rfl,e1,e2,hb3,hz3⟩;obtain ⟨B,hB⟩:∃ B,B=w1.heap.size:=⟨_,rfl⟩;have hsz1:=hb1.size;have hal:=((Below.refl w1.heap.size w1).alloc (Nat.le_refl _) (.cells #[.slice none 0 0,.slice none 0 0,.int .i64 0,.int .i64 0] 181)).alloc (by simp) (.cells #[.pointer (some ⟨w1.heap.size,0,none⟩)] 116);have hb13:Below w1.heap.size w1 w3:=hal.trans (hb3.mono (by simp;omega));have hb03:Below w.heap.size w w3:=hb1.trans (hb13.mono hsz1);have hlist:w3.heap[w1.heap.size]?=some (.cells #[.slice none 0 0,.slice none 0 0,.int .i64 0,.int .i64 0] 181 (0,0)):=
  (hb3.block _ (by simp;omega)).trans ((Below.heap_alloc _ _ _ (by simp)).trans (heap_alloc_new w1 _))
 have hbox:w3.heap[w1.heap.size+1]?=some (.cells #[.pointer (some ⟨w1.heap.size,0,none⟩)] 116 (0,0)):=by
  refine (hb3.block _ (by simp)).trans ?_;have h1:=heap_alloc_new (w1.alloc (.cells #[.slice none 0 0,.slice none 0 0,.int .i64 0,.int .i64 0] 181)) (.cells #[.pointer (some ⟨w1.heap.size,0,none⟩)] 116);rwa [World.size_alloc] at h1
 simp only [World.size_alloc] at e1 e2 hz3;rw [<- hB] at e1 e2 hz3 hlist hbox;rw [<- hB] at hsz1;have hlat:LAt w3 w.heap.size B [] []:=⟨hsz1,_,_,hlist,World.ownsRow_nil _ _ _ _,World.ownsRow_nil _ _ _ _⟩;have hi0':qhP w B A n c l [] w3:=⟨⟨e1,e2⟩,by simpa [qab] using hlat,hbox,hb03⟩;obtain ⟨b,off,hA⟩:∃ b off,0<n->A=some ⟨b,off,none⟩:=by
  by_cases h0:0<n
  ·obtain ⟨b,off,e,_⟩:=HPO.out.at_ (k:=0) (by rw [HN.out];exact h0)
   exact ⟨b,off,fun _=>e⟩
  ·exact ⟨0,0,fun h=>absurd h h0⟩
 have HI0:=qH hi0';have HA:=qH hA;have HZ3:=qH hz3;have HE1:=qH e1;have HE2:=qH e2;have HBW:Hid (w.heap.size<=B):=qH hsz1;clear hi0' hlat hA hz3 e1 e2 hlist hbox hb03 hb13 hal hb3;gi_wp2;rw [<- hB];clear hB hb1 hsz1;refine qoJ (by omega) (gf:=162) (lb:=#[.pointer (some ⟨B+1+1,0,none⟩),.pointer (some ⟨B+1+1+1,0,none⟩)]) rfl (enters_of Tryz.func162 (by kernel_rfl) rfl)
  (qwo 5 (B+1+1) (B+1+1+1) n c A b off (by omega) HA.out hc hcx (by omega) w3 HE1.out HE2.out) qej.trans (fun W l o o' hl ho hc=>qej.putObj W l o' (by have :=HZ3.out;omega) (by have :=HZ3.out;omega)) (fun _=>rfl)
  (qhP w B A n c l) (fun s A' B' h hb=>⟨⟨(hb.block _ (lt_of_block h.1.1)).trans h.1.1,(hb.block _ (lt_of_block h.1.2)).trans h.1.2⟩,h.2.1.below hb,(hb.block _ (lt_of_block h.2.2.1)).trans h.2.2.1,h.2.2.2.trans (hb.mono h.2.2.2.size)⟩)
  (fun s=>((qaw.block (by have :=HZ3.out;omega) _).and (qaw.block (by have :=HZ3.out;omega) _)).and<|(qaw.lat _ _ _ _ _).and ((qaw.block (by have :=HZ3.out;omega) _).and (qaw.belowW (by have :=HZ3.out;have :=HBW.out;omega)))) (fun s x=>qaw.pure) HI0.out
  (fun k=>{tmps:=#[.slice A n c,undef,.pointer none,.int .i64 0,.pointer (some ⟨B+1,0,none⟩),qfo b off n k,undef,.slice A n c,.bool true,.bool false,.agg #[.slice none 0 0,.slice none 0 0,.int .i64 0,.int .i64 0],.pointer (some ⟨B,0,none⟩),.slice A n c,
   .func (.func 162) #[] #[.pointer (some ⟨B+1+1,0,none⟩),.pointer (some ⟨B+1+1+1,0,none⟩)],qfo b off n k,undef,undef,undef,undef,undef,undef,undef,undef,undef,undef,undef,undef,undef,undef,undef,undef,undef,undef,undef,undef,undef,undef,undef],defers:=[]}) ?assign ?body ?done
 case assign=>
  intro lp x W K' hK';gi_wp2;exact hK'
 case body=>
  rintro lp pre x W ⟨⟨hd1,hd2⟩,hla,hbx,hbw⟩ ⟨rfl,hx⟩;obtain ⟨k,hk⟩:∃ k,k=pre.length:=⟨_,rfl⟩;rw [<- hk] at hla hx;rw [<- hk];have hMI:∀ W',LAt W' w.heap.size B (qab (-1) (l.take (8*(k+1)))) (l.take (8*(k+1)))->W'.heap[B+1]?=some (.cells #[.pointer (some ⟨B,0,none⟩)] 116 (0,0))->Below w.heap.size w W'->qaR w.heap.size W W'->qhP w B A n c l (pre++[k]) W'/\qej (B+1+1) (B+1+1+1) W W':=fun W' h1 h2 h3 h4=>by
   have k1:=h4.keep _ _ hd1 (fun cs t fr e=>by cases e;unfold qeg;decide);have k2:=h4.keep _ _ hd2 (fun cs t fr e=>by cases e;unfold qeg;decide);refine ⟨?_,h4.below.size,fun _=>k1.trans hd1.symm,fun _=>k2.trans hd2.symm⟩;unfold qhP;rw [List.length_append,List.length_singleton,<- hk];exact ⟨⟨k1,k2⟩,h1,h2,h3⟩
  have hnk:8*k<n:=by unfold qay at hx;omega
  have hxl:k<qay l.length:=by rw [HN.out];exact hx
  have hqlen:=qiT (l:=l) k;rw [HN.out] at hqlen;have hcat:=qiU l k;have hacl:(l.take (8*k)).length=8*k:=by rw [List.length_take,HN.out];omega
  have hmt:=HM.out;rw [<- List.take_append_drop (8*(k+1)) l,qeb,Bool.and_eq_true,hcat,qeb,Bool.and_eq_true] at hmt;have hx0:=qha _ _ hmt.1.1;have hmb:=hmt.1.2;have hbpl:∀ p∈qbK l (k:Int),p.2.length<=2147483648:=fun p hp=>HPL.out p (by rw [qgi] at hp;exact List.mem_of_mem_drop (List.mem_of_mem_take hp))
  have hapl:∀ p∈l.take (8*(k+1)),p.2.length<=2147483648:=fun p hp=>HPL.out p (List.mem_of_mem_take hp)
  have htot:qar (l.take (8*(k+1)))<=40000000000:=Nat.le_trans (qnl _) HTP.out;have hbys:(qab (-1) (l.take (8*(k+1)))).length<=400000000000:=by
   have h1:=qiS (l.take (8*(k+1))) (-1) (by omega) (by rw [hcat,qeb,hmt.1.1,hmb];rfl) (fun p hp=>by have :=hapl p hp;omega);have h3:(l.take (8*(k+1))).length<=1000000:=by rw [List.length_take,HN.out];omega
   omega
  have hbya:(qab (-1) (l.take (8*(k+1)))).length=(qab (-1) (l.take (8*k))).length+(qab (qaC (-1) (l.take (8*k))) (qbK l (k:Int))).length:=by rw [hcat,qeQ,List.length_append]
  have hA':=HA.out (by omega);obtain ⟨q,hq⟩:∃ q,q=min 8 (n-8*k):=⟨_,rfl⟩;have hch:qfo b off n k= .slice (some ⟨b,off+8*k*2,none⟩) q q:=by unfold qfo;rw [<- hq]
  rw [<- hq] at hqlen;have hq1:0<q/\q<=8:=by omega
  rw [hch];have hpos:qbB w w.heap.size (some ⟨b,off+8*k*2,none⟩) (qbK l (k:Int)):=by
   have h1:=HPO.out;rw [hA'] at h1;rw [qgi];exact (h1.drop (8*k)).cut 8
  obtain ⟨acc,hacc⟩:∃ acc,acc=l.take (8*k):=⟨_,rfl⟩;obtain ⟨blk,hblk⟩:∃ blk,blk=qbK l (k:Int):=⟨_,rfl⟩;rw [<- hacc,<- hblk] at hcat;rw [hcat] at hMI hbys htot hbya;rw [<- hacc] at hla hacl hx0 hmb hbya;rw [<- hblk] at hqlen hmb hbpl hbya hpos;have hlast:=qvS w.heap.size B (qab (-1) acc) acc W hla (by omega);obtain ⟨x0,hx0e⟩:∃ x0,x0=qaC (-1) acc:=⟨_,rfl⟩;rw [<- hx0e] at hx0 hmb hbya hlast;obtain ⟨a,hae⟩:∃ a,a=(qab (-1) acc).length:=⟨_,rfl⟩;rw [<- hae] at hbya hlast;have hfld:=fun w1=>qws x0 (a:Int) w1
  have hput:∀ W',Below W.heap.size W W'->Calls Tryz.prog 117 #[.slice (some ⟨b,off+8*k*2,none⟩) q q,.int .i64 x0] W' (qfn W'.heap.size (qab x0 blk) W'):=fun W' hb=>
   qwd _ q q blk x0 W' hqlen (by omega) ((hpos.below (hbw.trans (hb.mono hbw.size))).more (by have :=hbw.size;have :=hb.size;omega)) hx0 hmb hbpl (by omega)
  obtain ⟨bb,hbb⟩:∃ bb,bb=qab x0 blk:=⟨_,rfl⟩;rw [<- hbb] at hput hbya;have hc1:=cell_of_one hbx;have HLAST:=qH hlast;have HPUT:=qH hput;have HLA:=qH hla;have HBX:=qH hbx;have HW:=qH hbw;have HPOS:=qH hpos;have HMI:=qH hMI;have HACL:=qH hacl;have HQL:=qH hqlen;have HBB:=qH hbb;have HX0E:=qH hx0e;have HAE:=qH hae;have hBW0:∀ W',Below W.heap.size W W'->W'.cell? ⟨B+1,0,none⟩=some (.pointer (some ⟨B,0,none⟩)):=fun W' hb=>(hb.cell (p:=⟨B+1,0,none⟩) (lt_of_block HBX.out)).trans (cell_of_one HBX.out)
  have HC1:=qH hBW0;clear hlast hput hla hbx hbw hpos hMI hacl hqlen hbb hx0e hae hacc hblk hcat hk hq hch hbpl hapl hmt hA' hxl hmb hBW0
  gi_wp2_with (first
   |(refine ⟨trivial,?_⟩;gi_at_call 118;refine (CallsIn.inRound lp (callsIn_wide.2 HLAST.out)).mono ?_;rintro e w5 ⟨rfl,hb5⟩;have HB5:=qH hb5;clear hb5)
   |(gi_at_call 118;refine (CallsIn.inRound lp (callsIn_wide.2 HLAST.out)).mono ?_;rintro e w5 ⟨rfl,hb5⟩;have HB5:=qH hb5;clear hb5)
   |(refine ⟨trivial,?_⟩;gi_at_call 117;refine (CallsIn.inRound lp (callsIn_wide.2 (HPUT.out _ HB5.out))).mono ?_)
   |(gi_at_call 117;refine (CallsIn.inRound lp (callsIn_wide.2 (HPUT.out _ HB5.out))).mono ?_))
  rintro e w6 ⟨v6,rfl,hown6,hb6⟩;obtain ⟨A6,c6,rfl,hc6,hr6⟩:=hown6.row;have hbbp:0<bb.length:=by rw [HBB.out];exact qwv (fun e=>by have :=HQL.out;rw [e] at this;simp at this;omega)
  obtain ⟨ba,oa,rfl,_,hca⟩:=hr6.at_ (by rw [Lib.byteCells_length];exact hbbp);have hb56:=HB5.out.trans (hb6.mono HB5.out.size);have hla6:=HLA.out.below hb56;have hbase6:w.heap.size<=w6.heap.size:=by have :=hb56.size;have :=HW.out.size;omega
  have hpc6:=HC1.out w6 hb56;have hbx6:=(hb56.block _ (lt_of_block HBX.out)).trans HBX.out;obtain ⟨hB6,vb,ve,hv,ho,he⟩:=hla6;rw [<- HAE.out] at ho;obtain ⟨M,hM⟩:∃ M,M=bb.length:=⟨_,rfl⟩;rw [<- hM] at hbya hbbp hc6;rw [<- hM];obtain ⟨g,cap,w7,hrun,hown7,hg7,_,_⟩:=run_append_lies (P:=Tryz.prog) w6.drew 178 178 w.heap.size 5 i0 _ 1 1 Tryz.underlying178 hi0 hz0 hz1 hz2 rfl (by omega) vb a (Lib.byteCells (qab (-1) acc)) ho ⟨ba,oa,none⟩ M c6 (Lib.byteCells bb) (by rw [Lib.byteCells_length,hM];omega) (fun j u hu=>by rw [Addr.add_lit];exact hca j u hu) (qjk _) hbbp (by unfold maxLen;omega) (by omega) hbase6 w6.heap.size rfl;have ho':=ho;rw [HAE.out] at ho' hown7;obtain ⟨hv7,hla7,hmild7⟩:=LAt.moreBytes hB6 hv ho' he (Below.refl _ w6).drew hg7 hM.symm hown7;obtain ⟨⟨cB0,cB1,cB2,cB3⟩,fB0,fB1,fB2,fB3⟩:=qeV hv7;have c6a:=(qeV hv).1.1;rw [<- HAE.out] at hla7 hmild7;have HLA7:=qH hla7;have HM7:=qH (((qaR.of_below hb56 HW.out.size)).trans hmild7);have HMM:=qH hM;have hbx8:=HM7.out.keep _ _ HBX.out (fun cs t fr e=>by cases e;unfold qeg;decide);have hS6:(w6.drew).cell? ⟨B+1,0,none⟩=some (.pointer (some ⟨B,0,none⟩)):=hpc6;have hS7:w7.cell? ⟨B+1,0,none⟩=some (.pointer (some ⟨B,0,none⟩)):=by
   have h1:w7.heap[B+1]?=w6.drew.heap[B+1]?:=hg7.block (B+1) (lt_of_block (w:=w6) hbx6) (fun e=>qao ho hbx6 (by decide) e.symm);exact cell_of_one (h1.trans hbx6)
  have hcl:Calls Tryz.prog 119 #[.pointer (some ⟨B,0,none⟩),.slice (some ⟨b,off+8*k*2,none⟩) q q,.int .i64 ((a+M:Nat):Int)] ((w7.setCell ⟨B,0,none⟩ (.slice (some ⟨g,0,none⟩) (a+M) cap)).drew) fun e w'=>(∃ v,e= .returned v)/\LAt w' w.heap.size B (qab (-1) acc++bb) (acc++blk)/\qaR w.heap.size ((w7.setCell ⟨B,0,none⟩ (.slice (some ⟨g,0,none⟩) (a+M) cap)).drew) w':=by
   obtain ⟨cs,h1,h2⟩:=HPOS.out;have hbl8:=HW.out.trans HM7.out.below;have hzz:a+M=(qab (-1) (acc++blk)).length:=by rw [hbya,HMM.out]
   exact qwr w.heap.size B _ acc blk k _ q q cs (a+M) _ (HLA7.out.below (Below.refl _ _).drew) HACL.out HQL.out (Nat.le_refl _) (by unfold maxLen;omega) (h1.imp fun _ _ _=>trivial) (qeh.of_row (h2.below (hbl8.trans (Below.refl _ _).drew)) (by have :=hbl8.size;simpa using this)) (by omega) (by omega) (by have :=HACL.out;omega) (by omega) hzz (by omega)
  have c7b:(w7.setCell ⟨B,0,none⟩ (.slice (some ⟨g,0,none⟩) (a+M) cap)).cell? ⟨B,0,none⟩=some (.slice (some ⟨g,0,none⟩) (a+M) cap):=(qeV (heap_setCell_same w7 B 0 _ _ _ hv7)).1.1;have HS6:=qH hS6;have HS7:=qH hS7;have HS8:Hid ((w7.setCell ⟨B,0,none⟩ (.slice (some ⟨g,0,none⟩) (a+M) cap)).cell? ⟨B+1,0,none⟩=some (.pointer (some ⟨B,0,none⟩))):=qH (cell_of_one hbx8);have HS9:Hid ((w7.setCell ⟨B,0,none⟩ (.slice (some ⟨g,0,none⟩) (a+M) cap)).drew.cell? ⟨B+1,0,none⟩=some (.pointer (some ⟨B,0,none⟩))):=qH (cell_of_one (w:=(w7.setCell ⟨B,0,none⟩ (.slice (some ⟨g,0,none⟩) (a+M) cap)).drew) hbx8);have HBX8:Hid ((w7.setCell ⟨B,0,none⟩ (.slice (some ⟨g,0,none⟩) (a+M) cap)).drew.heap[B+1]?=some (.cells #[.pointer (some ⟨B,0,none⟩)] 116 (0,0))):=qH hbx8;have HCL:=qH hcl;have HRUN:=qH hrun;have C7B:=qH c7b;clear hla7 hmild7 hown7 hg7 ho ho' he hv7 hca hr6 hown6 hb6 hM hB6 hrun hbx8 hS6 hS7 hcl c7b hbx6 hbya;clear hc1 hpc6;gi_wp2;refine qj1 (S:=fun w'=>w'.cell? ⟨B+1,0,none⟩=some (.pointer (some ⟨B,0,none⟩))) (by kernel_rfl) (by kernel_rfl) HS6.out (fun hHeld0=> ?_)
  refine wpAnyH_take (i:=0) (v:= .pointer (some ⟨B,0,none⟩)) rfl (by kernel_rfl) (by kernel_rfl) (by kernel_rfl) (fun _ _ _ h=>h) (Or.inl ⟨by rfl,fun wx hSw=>by go_simp⟩) (by assumption) ?_
  try simp only [Act.put,zA,zB,zD,zE,zF]
  refine wpAnyH_take (i:=1) (v:= .pointer (some ⟨B,0,none⟩)) rfl (by kernel_rfl) (by kernel_rfl) (by kernel_rfl) (fun _ _ _ h=>h) (Or.inl ⟨by rfl,fun wx hSw=>by go_simp⟩) (by assumption) ?_
  try simp only [Act.put,zA,zB,zC,zD,zE,zF]
  refine wpAnyH_take (i:=2) (v:= .pointer (some ⟨B,0,none⟩)) rfl (by kernel_rfl) (by kernel_rfl) (by kernel_rfl) (fun _ _ _ h=>h) (Or.inl ⟨by rfl,fun wx hSw=>by go_simp⟩) (by assumption) ?_
  try simp only [Act.put,zA,zB,zC,zD,zE,zF]
  refine wpAnyH_take (i:=3) (v:= .pointer (some ⟨B,0,none⟩)) rfl (by kernel_rfl) (by kernel_rfl) (by kernel_rfl) (fun _ _ _ h=>h) (Or.inl ⟨by rfl,fun wx hSw=>by go_simp⟩) (by assumption) ?_
  try simp only [Act.put,zA,zB,zC,zD,zE,zF]
  refine wpAnyH_take (i:=5) (v:= .slice (some ⟨ba,oa,none⟩) M c6) rfl (by kernel_rfl) (by kernel_rfl) (by kernel_rfl) (fun _ _ _ h=>h) (Or.inl ⟨by rfl,fun wx hSw=>by go_simp⟩) (by assumption) ?_
  try simp only [Act.put,zA,zB,zC,zD,zE,zF]
  refine wpAnyH_ready (rs:=[4]) (by kernel_rfl) (by simp) ?_;refine AllReadyH.cons rfl (fun K hK=> ?_) AllReadyH.nil
  try simp only [zA,zB,zC]
  go_simp;refine hK.out _ _ ?_ (fun hHeld1=> ?_)
  ·exact HS6.out
  clear hK K
  try simp only [Act.put,zA,zB,zC,zD,zE,zF]
  refine wpAnyH_ready (rs:=[6]) (by kernel_rfl) (by simp) ?_;refine AllReadyH.cons rfl (fun K hK=> ?_) AllReadyH.nil
  try simp only [zA,zB,zC]
  refine qhO (a:=⟨_,_⟩) ?_ (.tmp 24) (.tmp 25) 178 ?_ vb (.slice (some ⟨ba,oa,none⟩) M c6) ?_ ?_ (.slice (some ⟨g,0,none⟩) (a+M) cap) w7 ?_ ?_
  ·rfl
  ·rfl
  ·rfl
  ·rfl
  ·exact HRUN.out
  refine hK.out _ _ HS7.out (fun hHeld2=> ?_)
  clear hK K
  try simp only [Act.put,zD,zE,zF]
  refine wpAnyH_take (i:=7) (v:= .pointer (some ⟨B,0,none⟩)) rfl (by kernel_rfl) (by kernel_rfl) (by kernel_rfl) (fun _ _ _ h=>h) (Or.inl ⟨by rfl,fun wx hSw=>by go_simp⟩) (by assumption) ?_
  try simp only [Act.put,zA,zB,zC,zD,zE,zF]
  refine wpAnyH_take (i:=8) (v:= .pointer (some ⟨B,0,none⟩)) rfl (by kernel_rfl) (by kernel_rfl) (by kernel_rfl) (fun _ _ _ h=>h) (Or.inl ⟨by rfl,fun wx hSw=>by go_simp⟩) (by assumption) ?_
  try simp only [Act.put,zA,zB,zC,zD,zE,zF]
  refine wpAnyH_ready (rs:=[9]) (by kernel_rfl) (by simp) ?_;refine AllReadyH.cons rfl (fun K hK=> ?_) AllReadyH.nil
  try simp only [zA,zB,zC]
  go_simp;refine hK.out _ _ ?_ (fun hHeld3=> ?_)
  ·exact HS8.out
  clear hK K
  try simp only [Act.put,zA,zB,zC,zD,zE,zF]
  refine wpAnyH_done (by kernel_rfl) ?_ _;refine qcv.fin ?_;gi_wp2;have c7b:=C7B.out;clear cB0 cB1 cB2 cB3 fB0 fB1 fB2 fB3 c6a;refine qj1 (S:=fun w'=>w'.cell? ⟨B+1,0,none⟩=some (.pointer (some ⟨B,0,none⟩))) (by kernel_rfl) (by kernel_rfl) HS9.out (fun hHeld0=> ?_)
  refine wpAnyH_take (i:=0) (v:= .pointer (some ⟨B,0,none⟩)) rfl (by kernel_rfl) (by kernel_rfl) (by kernel_rfl) (fun _ _ _ h=>h) (Or.inl ⟨by rfl,fun wx hSw=>by go_simp⟩) (by assumption) ?_
  try simp only [Act.put,zA,zB,zD,zE,zF]
  refine wpAnyH_take (i:=1) (v:= .slice (some ⟨b,off+8*k*2,none⟩) q q) rfl (by kernel_rfl) (by kernel_rfl) (by kernel_rfl) (fun _ _ _ h=>h) (Or.inl ⟨by rfl,fun wx hSw=>by go_simp⟩) (by assumption) ?_
  try simp only [Act.put,zA,zB,zC,zD,zE,zF]
  refine wpAnyH_take (i:=2) (v:= .pointer (some ⟨B,0,none⟩)) rfl (by kernel_rfl) (by kernel_rfl) (by kernel_rfl) (fun _ _ _ h=>h) (Or.inl ⟨by rfl,fun wx hSw=>by go_simp⟩) (by assumption) ?_
  try simp only [Act.put,zA,zB,zC,zD,zE,zF]
  refine wpAnyH_take (i:=3) (v:= .pointer (some ⟨B,0,none⟩)) rfl (by kernel_rfl) (by kernel_rfl) (by kernel_rfl) (fun _ _ _ h=>h) (Or.inl ⟨by rfl,fun wx hSw=>by go_simp⟩) (by assumption) ?_
  try simp only [Act.put,zA,zB,zC,zD,zE,zF]
  refine wpAnyH_take (i:=4) (v:= .pointer (some ⟨B,0,none⟩)) rfl (by kernel_rfl) (by kernel_rfl) (by kernel_rfl) (fun _ _ _ h=>h) (Or.inl ⟨by rfl,fun wx hSw=>by go_simp⟩) (by assumption) ?_
  try simp only [Act.put,zA,zB,zC,zD,zE,zF]
  refine wpAnyH_ready (rs:=[5]) (by kernel_rfl) (by simp) ?_;refine AllReadyH.cons rfl (fun K hK=> ?_) AllReadyH.nil
  try simp only [zA,zB,zC]
  go_simp;refine hK.out _ _ ?_ (fun hHeld1=> ?_)
  ·exact HS9.out
  clear hK K
  try simp only [Act.put,zA,zB,zC,zD,zE,zF]
  refine wpAnyH_take (i:=6) (v:= .int .i64 ((a+M:Nat):Int)) rfl (by kernel_rfl) (by kernel_rfl) (by kernel_rfl) (fun _ _ _ h=>h) (Or.inl ⟨by rfl,fun wx hSw=>by go_simp⟩) (by assumption) ?_
  try simp only [Act.put,zA,zB,zC,zD,zE,zF]
  refine wpAnyH_ready (rs:=[7]) (by kernel_rfl) (by simp) ?_;refine AllReadyH.cons rfl (fun K hK=> ?_) AllReadyH.nil
  try simp only [zA,zB,zC]
  go_simp
  go_at_call 119
  refine HCL.out.mono ?_;rintro e w9 ⟨⟨v9,rfl⟩,hla9,hmild9⟩;have HS10:Hid (w9.cell? ⟨B+1,0,none⟩=some (.pointer (some ⟨B,0,none⟩))):=qH (cell_of_one (hmild9.keep _ _ HBX8.out (fun cs t fr e=>by cases e;unfold qeg;decide)));have HLA9:=qH hla9;have HM9:=qH hmild9;clear hla9 hmild9
  go_wp2_with fail
  refine hK.out _ _ ?_ (fun hHeld2=> ?_)
  ·exact HS10.out
  clear hK K
  try simp only [Act.put,zA,zB,zC,zD,zE,zF]
  refine wpAnyH_done (by kernel_rfl) ?_ _;refine qcv.fin ?_;gi_wp2;have hm9:=HM7.out.trans ((qaR.of_below (Below.refl _ _).drew (by have :=(HW.out.trans HM7.out.below).size;omega)).trans HM9.out);have hla9:=HLA9.out;rw [HBB.out,HX0E.out,<- qeQ] at hla9;obtain ⟨h1,h2⟩:=HMI.out _ hla9 (hm9.keep _ _ HBX.out (fun cs t fr e=>by cases e;unfold qeg;decide)) (HW.out.trans hm9.below) hm9;exact ⟨hm9.keepsOthers,h2,h1⟩
 case done=>
  rintro D' ys W hD rfl ⟨_,hla,hbx,hbw⟩ hK';rw [List.length_range,<- HN.out,qjW] at hla;have hc1:=cell_of_one hbx;have HLA:=qH hla;have HBW2:=qH hbw;clear hla hbx hbw;gi_wp2;refine ⟨by simp,.inl ⟨_,_,rfl,run_takeDeferred hK',?_⟩⟩;refine ⟨_,results_tmp2 rfl _ _ _,?_⟩;have hD2:w.heap.size<=D':=by have :=HZ3.out;have :=HBW.out;omega
  exact ⟨B,rfl,qaw.lat 0 _ _ _ _ W D' _ _ (Nat.zero_le _) hK' rfl HLA.out,qaw.belowW (N:=w.heap.size) (Nat.le_refl _) W D' _ _ hD2 hK' rfl HBW2.out⟩
theorem LAt.low {w:World} {base b B:Nat} {bs:List UInt8} {l:List Po} (h:LAt w base B bs l) (hb:b<=base):LAt w b B bs l:=by
 obtain ⟨h1,vb,ve,h2,h3,h4⟩:=h;exact ⟨by omega,vb,ve,h2,qbf h3 hb,qbf h4 hb⟩
theorem LAt.kinds {w w':World} {base B:Nat} {bs:List UInt8} {l:List Po} (h:LAt w base B bs l) (hk:∀ (k:Nat) (cs:Array Value) (t:TypeId) (fr:Nat × Nat),w.heap[k]?=some (.cells cs t fr)->t=181∨t=5∨t=206->w'.heap[k]?=some (.cells cs t fr)):LAt w' base B bs l:=by
 obtain ⟨h1,vb,ve,h2,h3,h4⟩:=h;have key:∀ {E:TypeId} {size:Nat} {v:Value} {n:Nat} {xs:List Value},(E=181∨E=5∨E=206)->w.ownsRow base E size v n xs->w'.ownsRow base E size v n xs:=fun hE ho=>by
  refine qax ho fun g hg=> ?_
  rcases ho.2 with ⟨rfl,_⟩|⟨g',cap,cur,rfl,_,hh,_⟩
  ·cases hg
  ·simp only [Value.ownBlock,Option.some.injEq] at hg
   subst hg;rw [hk _ _ _ _ hh hE,hh]
 exact ⟨h1,vb,ve,hk _ _ _ _ h2 (.inl rfl),key (.inr (.inl rfl)) h3,key (.inr (.inr rfl)) h4⟩
theorem LAt.grown {w w':World} {base b B:Nat} {bs:List UInt8} {l:List Po} {E:TypeId} {size n:Nat} {v:Value} {xs:List Value} (h:LAt w base B bs l) (hv:w.ownsRow b E size v n xs) (h1:181≠E) (h2:5≠E) (h3:206≠E) (hg:w.grownBy w' v.ownBlock):LAt w' base B bs l:=
 h.kinds fun k cs t fr hk ht=>(hg.block k (Array.getElem?_eq_some_iff.1 hk).1 (fun e=>qao hv hk (by rcases ht with rfl|rfl|rfl<;>assumption) e.symm)).trans hk
theorem qb5.grown {w wr w':World} {B:Nat} {V:Array Value} {E:TypeId} {size n:Nat} {v:Value} {xs:List Value} (h:qb5 w B V wr) (hv:wr.ownsRow w.heap.size E size v n xs) (hE:62≠E) (hg:wr.grownBy w' v.ownBlock):qb5 w B V w':=by
 obtain ⟨h0,h1,h2⟩:=h;exact ⟨h0.grown hg h0.size fun k hk=>(hv.lt k hk).1,h1,(hg.block B (Array.getElem?_eq_some_iff.1 h2).1 (fun e=>qao hv h2 hE e.symm)).trans h2⟩
structure qfp (w:World) (V:Array Value) (ls:List (List Pn)) (k:Nat) (vl:Value) (bl:List Nat) (wr:World):Prop where
 len:bl.length=k
 own:wr.ownsRow w.heap.size 116 1 vl k (qbE bl)
 at_:∀ j (h:j<ls.length),j<k->LAt wr 0 (bl.getD j 0) (qab (-1) ls[j]) ls[j]
 box:qb5 w w.heap.size V wr
theorem qfp.below {w wr w':World} {V:Array Value} {ls:List (List Pn)} {k:Nat} {vl:Value} {bl:List Nat} (h:qfp w V ls k vl bl wr) (hb:Below wr.heap.size wr w'):qfp w V ls k vl bl w':=
 ⟨h.len,qap h.own hb,fun j hj hjk=>(h.at_ j hj hjk).below hb,h.box.below hb⟩
theorem qfp.push {w wr w5:World} {V:Array Value} {ls:List (List Pn)} {k:Nat} {vl v':Value} {bl:List Nat} (h:qfp w V ls k vl bl wr) (hk:k<ls.length) {B:Nat} (hl:LAt wr 0 B (qab (-1) ls[k]) ls[k])
  (hown:w5.ownsRow w.heap.size 116 1 v' (k+1) (qbE bl++[.pointer (some ⟨B,0,none⟩)])) (hg:wr.grownBy w5 vl.ownBlock):qfp w V ls (k+1) v' (bl++[B]) w5:=by
 refine ⟨by rw [List.length_append,h.len];rfl,by simpa [qbE] using hown,fun j hj hjk=> ?_,h.box.grown h.own (by decide) hg⟩;have hgr:∀ {B:Nat} {bs:List UInt8} {l:List Po},LAt wr 0 B bs l->LAt w5 0 B bs l:=fun hh=>hh.grown h.own (by decide) (by decide) (by decide) hg
 by_cases e:j=k
 ·subst e
  have :(bl++[B]).getD j 0=B:=by rw [List.getD_eq_getElem?_getD,List.getElem?_append_right (by rw [h.len];exact Nat.le_refl _),h.len];simp
  rw [this];exact hgr hl
 ·have hjk':j<k:=by omega
  have :(bl++[B]).getD j 0=bl.getD j 0:=by rw [List.getD_eq_getElem?_getD,List.getElem?_append_left (by rw [h.len];exact hjk'),<- List.getD_eq_getElem?_getD]
  rw [this];exact hgr (h.at_ j hj hjk')
def qwx (w:World) (V:Array Value) (ls:List (List Pn)) (vl i:Value) (wr:World):Prop:=∃ (k:Nat) (bl:List Nat),k<=ls.length/\i= .int .i64 (k:Int)/\qfp w V ls k vl bl wr
def qdC (x:qbL) (w:World) (e:Ending) (w':World):Prop:=∃ S,e= .returned (.tuple #[.pointer (some ⟨S,0,none⟩),.int .i64 0])/\qbv w' S x/\w.heap.size<=S/\Below w.heap.size w w'
def qgy (w:World) (e:Ending) (w':World):Prop:=e= .returned (.tuple #[.pointer none,.int .i64 1])/\Below w.heap.size w w'
theorem qwy:(Tryz.prog.info? 116).map (fun i=>(i.zero,i.size,i.bytes))=some (some (.pointer none),1,8):=by kernel_rfl
structure qo1 (b D:Nat) (l:List Nm) (vs:List Nat) (W:World):Prop where
 vlen:vs.length=l.length
 var:∃ A c,W.heap[D]?=some (.cells #[.slice A l.length c] 106 (0,0))/\l.length<=c/\c<=maxLen/\Row W b A (qaI l vs)
def qo2 (b:Nat) (l:List Nm) (vs:List Nat) (w:World) (e:Ending) (w':World):Prop:=
 ∃ D,e= .returned (.func (.func 99) #[] #[.pointer (some ⟨D,0,none⟩)])/\w.heap.size<=D/\qo1 b D l vs w'/\Below w.heap.size w w'/\w'.heap.size=D+1
theorem qwz (B o:Nat) (i:Int) (l:List Nm) (vs:List Nat) (w0 w:World) (h0:qbM w0 B o l vs) (hw0:Below w0.heap.size w0 w) (hl:l.length<=1048576) (hi:i<=9223372036854775807):
  Calls Tryz.prog 54 #[.pointer (some ⟨B,o,none⟩),.int .i64 i] w (qo2 w0.heap.size (l.drop i.toNat) (vs.drop i.toNat) w):=by
 have h:=h0.below hw0;have hvl:=h.2.1;have hbw:=hw0.size;have C0:=qH (fun W (hb:Below w.heap.size w W)=>qi9 B o l vs W (h.below hb));obtain ⟨m,hm⟩:∃ m:Nat,m=i.toNat:=⟨_,rfl⟩;obtain ⟨n,hn⟩:∃ n,n=l.length:=⟨_,rfl⟩;obtain ⟨k,hk⟩:∃ k:Nat,k=min m n:=⟨_,rfl⟩;have hmx:∀ (w:World) (ts:Array TypeId) (t:TypeId),(Builtin.max_ ts t #[.int .i64 i,.int .i64 0]).run Tryz.prog w= .ok (.int .i64 (m:Int)) w:=fun w ts t=>by rw [run_max_int2,hm];congr 2;split<;>omega
 have hmn:∀ (w:World) (ts:Array TypeId) (t:TypeId),(Builtin.min_ ts t #[.int .i64 m,.int .i64 n]).run Tryz.prog w= .ok (.int .i64 (k:Int)) w:=fun w ts t=>by rw [run_min_int2,hk];congr 2;split<;>omega
 have hd1:l.drop i.toNat=l.drop k:=by
  rw [<- hm];by_cases h1:m<=n
  ·rw [hk,Nat.min_eq_left h1]
  ·rw [List.drop_of_length_le (by omega),List.drop_of_length_le (by omega)]
 have hd2:vs.drop i.toNat=vs.drop k:=by
  rw [<- hm];by_cases h1:m<=n
  ·rw [hk,Nat.min_eq_left h1]
  ·rw [List.drop_of_length_le (by omega),List.drop_of_length_le (by omega)]
 rw [hd1,hd2];have hkn:k<=n:=by omega
 obtain ⟨A,c,hc0,hnc,hcm,hrow0,hA⟩:=h0.read;have hc:=(hw0.cell (p:=⟨B,o,none⟩) h0.lt).trans hc0;have hrow:=hrow0.below hw0;clear hc0 hrow0;obtain ⟨b0,hb0⟩:∃ b,b=w0.heap.size:=⟨_,rfl⟩;rw [<- hb0] at hrow hbw ⊢;rw [<- hn] at hc hnc C0 hl;have HN:=qH hn;have HV:=qH hvl;have HROW:=qH hrow;have k1:(0:Int)<=(k:Int):=by omega
 have k2:(k:Int)<=(n:Int):=by omega
 have k3:(n:Int)<=(c:Int):=by omega
 have k4:(n:Int)<=1048576:=by omega
 have HBL:=qH h.lt;unfold maxLen at hcm;have HFIN:Hid (∀ A' c' W,(W.heap.size=w.heap.size+1/\Below w.heap.size w W/\W.heap[w.heap.size]?=some (.cells #[.slice A' (n-k) c'] 106 (0,0)))->n-k<=c'->c'<=maxLen->Row w b0 A' (qaI (l.drop k) (vs.drop k))->
   qo2 b0 (l.drop k) (vs.drop k) w (.returned (.func (.func 99) #[] #[.pointer (some ⟨w.heap.size,0,none⟩)])) W):=qH fun A' c' W ⟨h1,h2,h3⟩ h4 h5 h6=>
  ⟨w.heap.size,rfl,Nat.le_refl _,⟨by rw [List.length_drop,List.length_drop,hvl],A',c',by rw [List.length_drop,<- HN.out];exact h3,by rw [List.length_drop,<- HN.out];exact h4,h5,h6.below (h2.mono hbw)⟩,h2,by omega⟩
 clear h h0 hw0 hb0 hm hk hd1 hd2 hrow hvl hn;rcases hA with ⟨rfl,hl0,rfl⟩|⟨g,rfl⟩
 ·have hn0:n=0:=by rw [HN.out,hl0];rfl
  have hk0:k=0:=by omega
  have hrow0:Row w b0 none (qaI (l.drop k) (vs.drop k)):= .inl (by rw [hl0];simp [qeR]);subst hn0 hk0;have hmin:min (m:Int) 0=0:=by omega
  have HX0:=qH hrow0;have hblk:((w.alloc (.cells #[.slice none 0 0] 106)).drew).heap[w.heap.size]?=some (.cells #[.slice none 0 0] 106 (0,0)):=heap_alloc_new w _;have hba:Below w.heap.size w (w.alloc (.cells #[.slice none 0 0] 106)).drew:=((Below.refl _ w).alloc (Nat.le_refl _) _).drew;have hn1:=cell_of_one hblk;have hn2:=free_of_one hblk;have hn3:=(hba.cell (p:=⟨B,o,none⟩) HBL.out).trans hc;have HBA:=qH hba;clear hrow0 hblk hba hl0
  go_enter Tryz.func54,Tryz.ntmps54
  go_wp2
  go_region_law (first
    |(go_simp;go_at_call 98;refine (C0.out _ (by first|exact (Below.refl _ w).drew|exact HBA.out)).mono ?_;rintro e w' ⟨rfl,rfl⟩))
  all_goals
   have hfin:=HFIN.out none 0 ((w.alloc (.cells #[.slice none 0 0] 106)).drew) ⟨by simp,((Below.refl _ w).alloc (Nat.le_refl _) _).drew,heap_alloc_new w _⟩ (by omega) (by unfold maxLen;omega) HX0.out;have HF:=qH hfin;clear hfin;go_wp2;go_ret;exact HF.out
 ·obtain ⟨AN,hAN⟩:∃ AN,(if c=k then (some ⟨g,0,none⟩:Option Addr) else some ⟨g,k*2,none⟩)=AN:=⟨_,rfl⟩
  have hrow0:Row w b0 AN (qaI (l.drop k) (vs.drop k)):=by
   rw [<- hAN];by_cases hck:c=k
   ·exact .inl (by rw [List.drop_of_length_le (by rw [<- HN.out];omega)];simp [qeR])
   ·rw [if_neg hck,<- qi8 k HV.out]
    rcases HROW.out with h0|⟨b',o',e,hb,hcl⟩
    ·exact .inl (by rw [h0];simp)
    ·injection e with e
     injection e with e1 e2
     subst e1 e2;refine .inr ⟨g,k*2,rfl,hb,fun j u hu=> ?_⟩;have :=hcl (k*2+j) u (by rw [<- hu];simp);rwa [Nat.zero_add] at this
  have HX0:=qH hrow0;have hblk:((w.alloc (.cells #[.slice none 0 0] 106)).drew).heap[w.heap.size]?=some (.cells #[.slice none 0 0] 106 (0,0)):=heap_alloc_new w _;have hba:Below w.heap.size w (w.alloc (.cells #[.slice none 0 0] 106)).drew:=((Below.refl _ w).alloc (Nat.le_refl _) _).drew;have hn1:=cell_of_one hblk;have hn2:=free_of_one hblk;have hn3:=(hba.cell (p:=⟨B,o,none⟩) HBL.out).trans hc;have HBLK:=qH hblk;have HBA:=qH hba;clear hrow0 hblk hba
  go_enter Tryz.func54,Tryz.ntmps54
  go_wp2
  go_region_law (first
    |(go_simp;go_at_call 98;refine (C0.out _ (by first|exact (Below.refl _ w).drew|exact HBA.out)).mono ?_;rintro e w' ⟨rfl,rfl⟩))
  all_goals
   have hfin:=HFIN.out AN (c-k) ((w.alloc (.cells #[.slice AN (n-k) (c-k)] 106)).drew) ⟨by simp,((Below.refl _ w).alloc (Nat.le_refl _) _).drew,heap_alloc_new w _⟩ (by omega) (by unfold maxLen;omega) HX0.out;have HF:=qH hfin;clear hfin;go_wp2;go_ret;exact HF.out
def qj3 {α:Type} (n:Nat) (P:Program) (g:Nat) (lb:Array Value) (encs:α->Array Value) (Mv Kp:World->World->Prop) (Ok:List α->α->World->Prop) (S Sp:List α->Prop) (w:World):Prop:=
 ∀ (l:Nat) (J X:List α->World->Prop) (W:World),Below w.heap.size w W->(∀ s A B,J s A->Mv A B->J s B)->
  (∀ pre x W1,J pre W1->Ok pre x W1->YieldAt Fence.wide (n-1) P l (encs x) W1 fun e W'=>(e= .returned (.bool true)/\J (pre++[x]) W'/\Kp W1 W')∨(e= .returned (.bool false)/\X (pre++[x]) W'))->
  J [] W->CallsIn Fence.wide n P g (#[.func (.yield l) #[] #[]]++lb) W fun e W'=>(∃ v,e= .returned v)/\((∃ xs,S xs/\J xs W')∨∃ xs,Sp xs/\X xs W')
variable {n:Nat} {P:Program}
theorem qo3 {α:Type} {g:Operand} {ps:Array Tmp} {assign body:Code} {Q:Exit->Act->World->Prop} {a:Act} {w:World} (h1:1<=n) {gf:Nat} {lb:Array Value} (hg:a.eval g= .func (.func gf) #[] lb)
  (eg:∀ args w,(callFunc gf args).run P w= .ok (.enter gf args) w) {encs:α->Array Value} {Mv Kp:World->World->Prop} {Ok:List α->α->World->Prop} {S Sp:List α->Prop} (hseq:qj3 (n-1) P gf lb encs Mv Kp Ok S Sp w)
  (hMb:∀ {A B:World},Below A.heap.size A B->Mv A B) (hMk:∀ {A B:World} {k:Nat} {o:Obj},w.heap.size<=k->Mv A B->A.heap[k]?=some o->o.isCells=false->B.heap[k]?=some o)
  (hKt:∀ {A B C:World},Kp A B->Kp B C->Kp A C) (hKp:∀ (W:World) (l:Nat) (o o':Obj),w.heap.size<=l->W.heap[l]?=some o->o.isCells=false->Kp W (W.putObj l o')) (hps:∀ x,(encs x).size=ps.size)
  (I:List α->World->Prop) (Ix:Code->List α->World->Prop) (hIb:∀ s A B,I s A->Mv A B->I s B) (hIp:∀ s,qaw w.heap.size (I s)) (hIxp:∀ c s,qaw w.heap.size (Ix c s)) (hOk:∀ s x,qaw w.heap.size (Ok s x)) (h0:I [] w) (a₁:α->Act)
  (hassign:∀ (l:Nat) (x:α) (W:World) (K:Act->World->Prop),K (a₁ x) W->assign.wpIn (Fence.wide.inRound l) (n-1-1) P (Exit.then K (fun _ _ _=>False)) {tmps:=(ps.zip (encs x)).foldl (fun t (p,v)=>t.setIfInBounds p v) a.tmps,defers:=[]} W)
  (hbody:∀ (l:Nat) (pre:List α) (x:α) (W:World),I pre W->Ok pre x W->body.wpIn (Fence.wide.inRound l) (n-1-1) P (ownPostK Kp I Ix (pre++[x]) W) (a₁ x) W)
  (hdone:∀ (D:Nat) (xs:List α) (W:World),w.heap.size<=D->S xs->I xs W->W.heap[D]?=some (.deferred (some []))->Q .normal {a with defers:={target:= .collected D,args:=#[]}::a.defers} W)
  (hstop:∀ (D:Nat) (c:Code) (xs:List α) (W:World),w.heap.size<=D->Sp xs->Ix c xs W->W.heap[D]?=some (.deferred (some []))->c.wpIn Fence.wide n P Q {a with defers:={target:= .collected D,args:=#[]}::a.defers} W):
  (Code.rangeFunc g ps assign body).wpIn Fence.wide n P Q a w:=by
 refine wpIn_rangeFunc fun fn hfn=> ?_
 have enter:=run_enterLoop_outer (P:=P) (w:=w) fn a.tmps ps assign body;obtain ⟨D,hD⟩:∃ D,D=w.heap.size:=⟨_,rfl⟩;obtain ⟨st,hst⟩:∃ st:LoopState->Option Code->Loop,st=fun s p=>{state:=s,pending:=p,fn:=fn,tmps:=a.tmps,params:=ps,assign:=assign,body:=body,defers:=w.heap.size}:=⟨_,rfl⟩
 obtain ⟨V,hV⟩:∃ V,V=(w.alloc (.deferred (some []))).alloc (.loop (st .ready none)):=⟨_,rfl⟩;have enter':(Instr.enterLoop fn a.tmps ps assign body Fence.wide.round).run P w= .ok (D+1,[{target:= .collected D,args:=#[]}]) V:=by rw [hV,hst,hD];exact enter
 have bel:Below w.heap.size w V:=by rw [hV];exact ((Below.refl _ w).alloc (Nat.le_refl _) _).alloc (by simp) _
 have hdV:V.heap[D]?=some (.deferred (some [])):=by rw [hV,hD];exact (Below.heap_alloc _ _ _ (by simp)).trans (World.alloc_heap_new w _)
 have hlV:V.heap[D+1]?=some (.loop (st .ready none)):=by
  have :=World.alloc_heap_new (w.alloc (.deferred (some []))) (.loop (st .ready none));rwa [World.size_alloc,<- hV,<- hD] at this
 have stay:∀ (s:List α) (A B:World),(I s A/\A.heap[D+1]?=some (.loop (st .ready none))/\A.heap[D]?=some (.deferred (some [])))->Mv A B->(I s B/\B.heap[D+1]?=some (.loop (st .ready none))/\B.heap[D]?=some (.deferred (some []))):=by
  rintro s A B ⟨i1,i2,i3⟩ hb;exact ⟨hIb s A B i1 hb,hMk (by omega) hb i2 rfl,hMk (by omega) hb i3 rfl⟩
 have round:∀ (pre:List α) (x:α) (A:World),(I pre A/\A.heap[D+1]?=some (.loop (st .ready none))/\A.heap[D]?=some (.deferred (some [])))->Ok pre x A->
   YieldAt Fence.wide (n-1-1) P (D+1) (encs x) A fun e B=>(e= .returned (.bool true)/\(I (pre++[x]) B/\B.heap[D+1]?=some (.loop (st .ready none))/\B.heap[D]?=some (.deferred (some [])))/\Kp A B)∨
    (e= .returned (.bool false)/\∃ c,Ix c (pre++[x]) B/\B.heap[D+1]?=some (.loop (st .done (some c)))/\B.heap[D]?=some (.deferred (some []))):=by
  rintro pre x A ⟨i1,i2,i3⟩ hx;have hl:D+1<A.heap.size:=(Array.getElem?_eq_some_iff.1 i2).1;have y:=run_yield (P:=P) (args:=encs x) i2 (by rw [hst];exact hps x);have beg:=run_beginRound (P:=P) i2 (by rw [hst]);rw [hst] at y;refine ⟨fn,_,assign,body,y,roundIn_of_wpIn hfn (hassign _ x A _ ⟨_,beg,?_⟩)⟩;obtain ⟨A1,hA1⟩:∃ A1,A1=A.putObj (D+1) (.loop {st .ready none with state:= .busy}):=⟨_,rfl⟩
  rw [<- hA1];have l1:A1.heap[D+1]?=some (.loop {st .ready none with state:= .busy}):=by rw [hA1];exact World.putObj_heap_same hl
  have d1:A1.heap[D]?=some (.deferred (some [])):=by rw [hA1];exact (World.putObj_heap_other (by omega)).trans i3
  have k1:Kp A A1:=by rw [hA1];exact hKp A _ _ _ (by omega) i2 rfl
  have b1:=hbody (D+1) pre x A1 (by rw [hA1];exact hIp pre A _ _ _ (by omega) i2 rfl i1) (by rw [hA1];exact hOk pre x A _ _ _ (by omega) i2 rfl hx);have fin:∀ (jump:Option Code) (A2:World),KeepsOthers A1 A2->
    (Instr.endRound (D+1) jump).run P A2= .ok (.bool jump.isNone) (A2.putObj (D+1) (.loop (st (if jump.isNone then .ready else .done) jump)))/\A2.heap[D+1]?=some (.loop {st .ready none with state:= .busy})/\
    (A2.putObj (D+1) (.loop (st (if jump.isNone then .ready else .done) jump))).heap[D+1]?=some (.loop (st (if jump.isNone then .ready else .done) jump))/\
    (A2.putObj (D+1) (.loop (st (if jump.isNone then .ready else .done) jump))).heap[D]?=some (.deferred (some [])):=fun jump A2 ko=>by
   have l2:=ko.same _ _ l1 rfl;have hr:=run_endRound (P:=P) jump l2;rw [hst] at hr ⊢;exact ⟨hr,by rw [hst] at l2;exact l2,World.putObj_heap_same (Array.getElem?_eq_some_iff.1 l2).1,(World.putObj_heap_other (by omega)).trans (ko.same _ _ d1 rfl)⟩
  refine wpIn_mono b1 ?_;rintro ex a2 A2 hp;cases ex with
  |normal=>
   obtain ⟨ko,k2,i4⟩:=hp;obtain ⟨hr,l2,l3,d3⟩:=fin none A2 ko;exact ⟨_,_,hr,.inl ⟨rfl,⟨hIp _ A2 _ _ _ (by omega) l2 rfl i4,l3,d3⟩,hKt (hKt k1 k2) (hKp A2 _ _ _ (by omega) l2 rfl)⟩⟩
  |ret=>
   obtain ⟨ko,i4⟩:=hp;obtain ⟨hr,l2,l3,d3⟩:=fin (some .ret) A2 ko;exact ⟨_,_,hr,.inr ⟨rfl,.ret,hIxp _ _ A2 _ _ _ (by omega) l2 rfl i4,l3,d3⟩⟩
  |exit id=>
   obtain ⟨ko,i4⟩:=hp;obtain ⟨hr,l2,l3,d3⟩:=fin (some (.exit id)) A2 ko;exact ⟨_,_,hr,.inr ⟨rfl,.exit id,hIxp _ _ A2 _ _ _ (by omega) l2 rfl i4,l3,d3⟩⟩
  |goto t=>
   obtain ⟨ko,i4⟩:=hp;obtain ⟨hr,l2,l3,d3⟩:=fin (some (.goto t)) A2 ko;exact ⟨_,_,hr,.inr ⟨rfl,.goto t,hIxp _ _ A2 _ _ _ (by omega) l2 rfl i4,l3,d3⟩⟩
  |panic c=>exact hp.elim
  |outgrown=>exact hp.elim
 refine ⟨D+1,_,V,{target:= .fn (.func gf) lb,args:=#[.func (.yield (D+1)) #[] #[]]},V,gf,#[.func (.yield (D+1)) #[] #[]]++lb,V,enter',?_,?_,?_,fun _=>h1,?_⟩
 ·simp only [resolve,hg]
  simp [go_sem]
 ·intro f' _
  trivial
 ·simp [invoke,go_sem,eg]
 ·refine (hseq (D+1) _ (fun xs B=>∃ c,Ix c xs B/\B.heap[D+1]?=some (.loop (st .done (some c)))/\B.heap[D]?=some (.deferred (some []))) V bel stay round ⟨hIb [] w V h0 (hMb bel),hlV,hdV⟩).mono ?_
  rintro e A ⟨⟨v,rfl⟩,(⟨xs,hS,i1,i2,i3⟩|⟨xs,hS,c,i1,i2,i3⟩)⟩
  ·have fin:=run_endLoop (P:=P) i2 (by rw [hst];simp)
   rw [hst] at fin;exact ⟨none,_,fin,hdone D xs _ (by omega) hS (hIp xs A _ _ _ (by omega) i2 rfl i1) ((World.putObj_heap_other (by omega)).trans i3)⟩
  ·have fin:=run_endLoop (P:=P) i2 (by rw [hst];simp)
   rw [hst] at fin;exact ⟨some c,_,fin,hstop D c xs _ (by omega) hS (hIxp c xs A _ _ _ (by omega) i2 rfl i1) ((World.putObj_heap_other (by omega)).trans i3)⟩
end Go.Proofs.YtpehcaidjlemiaaGreatDoor
