import Derived.Test.YtpehcaidjlemiaaGreatDoorMKZz
import Derived.RangeFuncNested
import Derived.RangeFuncBound
import Derived.RangeFuncCalls
import Derived.RangeFuncLeaves
import Derived.RangeFuncBox
import Derived.OwnWalkIn
import Derived.TacticsInMore
import Derived.LoopNIn
import Derived.LoopIn
import Derived.Maps.AppendAt
import Derived.Shelf.Abstract
import Derived.Shelf.RegionOpen
import Derived.Test.YtpehcaidjlemiaaGreatDoorMKQ01
import Derived.Test.YtpehcaidjlemiaaGreatDoorMKQ11
import Derived.Sort.MapsRangeIn
import Derived.Test.YtpehcaidjlemiaaGreatDoorMKQ05
import Derived.Shelf.Sort.Plain
import Derived.Shelf.Slices.In.SortNone
import Derived.Sort.OwnSorted
import Derived.Sort.Grow
import Derived.Lib.OwnBridge
import Derived.Test.YtpehcaidjlemiaaGreatDoorMKQ03
set_option maxHeartbeats 8000000
set_option maxRecDepth 100000
set_option linter.unusedVariables false
namespace Go.Proofs.YtpehcaidjlemiaaGreatDoor
open Go Go.RowKit
def qf9 (B:Nat) (p:World->Prop):Prop:=∀ W l (o o':Obj),B<=l->W.heap[l]?=some o->o.isCells=false->p W->p (W.putObj l o')
def qjI {α:Type} (n:Nat) (P:Program) (g:Nat) (lb:Array Value) (encs:α->Array Value) (Mv Kp:World->World->Prop) (Ok:List α->α->World->Prop) (S:List α->Prop) (w:World):Prop:=
 ∀ (l:Nat) (J:List α->World->Prop) (W:World),Below w.heap.size w W->(∀ s A B,J s A->Mv A B->J s B)->
  (∀ pre x W1,J pre W1->Ok pre x W1->YieldAt Fence.wide (n-1) P l (encs x) W1 fun e W'=>e= .returned (.bool true)/\J (pre++[x]) W'/\Kp W1 W')->
  J [] W->CallsIn Fence.wide n P g (#[.func (.yield l) #[] #[]]++lb) W fun e W'=>(∃ v,e= .returned v)/\∃ xs,S xs/\J xs W'
variable {n:Nat} {P:Program}
theorem qn3 {α:Type} {g:Operand} {ps:Array Tmp} {assign body:Code} {Q:Exit->Act->World->Prop} {a:Act} {w:World} (h1:1<=n) {gf:Nat} {lb:Array Value} (hg:a.eval g= .func (.func gf) #[] lb)
  (eg:∀ args w,(callFunc gf args).run P w= .ok (.enter gf args) w) {encs:α->Array Value} {Mv Kp:World->World->Prop} {Ok:List α->α->World->Prop} {S:List α->Prop} (hseq:qjI (n-1) P gf lb encs Mv Kp Ok S w)
  (hMb:∀ {B:World},Below w.heap.size w B->Mv w B) (hMk:∀ {A B:World} {k:Nat} {o:Obj},w.heap.size<=k->Mv A B->A.heap[k]?=some o->(∃ x,o= .loop x)∨(∃ x,o= .deferred x)->B.heap[k]?=some o)
  (hKt:∀ {A B C:World},Kp A B->Kp B C->Kp A C) (hKp:∀ (W:World) (l:Nat) (x:Loop) (o':Obj),w.heap.size<=l->W.heap[l]?=some (.loop x)->Kp W (W.putObj l o')) (hps:∀ x,(encs x).size=ps.size)
  (I:List α->World->Prop) (hIb:∀ s A B,I s A->Mv A B->I s B) (hIp:∀ s,qf9 w.heap.size (I s)) (hOk:∀ s x,qf9 w.heap.size (Ok s x)) (h0:I [] w) (Ax:α->Act->World->Prop) (hAx:∀ x a',qf9 w.heap.size (Ax x a'))
  (hassign:∀ (l:Nat) (pre:List α) (x:α) (W:World) (K:Act->World->Prop),I pre W->Ok pre x W->(∀ a' W',Ax x a' W'->I pre W'->Ok pre x W'->Below W.heap.size W W'->Kp W W'->K a' W')->assign.wpIn (Fence.wide.inRound l) (n-1-1) P (Exit.then K (fun _ _ _=>False)) {tmps:=(ps.zip (encs x)).foldl (fun t (p,v)=>t.setIfInBounds p v) a.tmps,defers:=[]} W)
  (hbody:∀ (l:Nat) (pre:List α) (x:α) (a':Act) (W:World),Ax x a' W->I pre W->Ok pre x W->body.wpIn (Fence.wide.inRound l) (n-1-1) P (ownPostK Kp I (fun _ _ _=>False) (pre++[x]) W) a' W)
  (hdone:∀ (D:Nat) (xs:List α) (W:World),w.heap.size<=D->S xs->I xs W->W.heap[D]?=some (.deferred (some []))->Q .normal {a with defers:={target:= .collected D,args:=#[]}::a.defers} W):
  (Code.rangeFunc g ps assign body).wpIn Fence.wide n P Q a w:=by
 refine wpIn_rangeFunc fun fn hfn=> ?_
 have enter:=run_enterLoop_outer (P:=P) (w:=w) fn a.tmps ps assign body;obtain ⟨D,hD⟩:∃ D,D=w.heap.size:=⟨_,rfl⟩;obtain ⟨st,hst⟩:∃ st:LoopState->Loop,st=fun s=>{state:=s,pending:=none,fn:=fn,tmps:=a.tmps,params:=ps,assign:=assign,body:=body,defers:=w.heap.size}:=⟨_,rfl⟩
 obtain ⟨V,hV⟩:∃ V,V=(w.alloc (.deferred (some []))).alloc (.loop (st .ready)):=⟨_,rfl⟩;have enter':(Instr.enterLoop fn a.tmps ps assign body Fence.wide.round).run P w= .ok (D+1,[{target:= .collected D,args:=#[]}]) V:=by rw [hV,hst,hD];exact enter
 have bel:Below w.heap.size w V:=by rw [hV];exact ((Below.refl _ w).alloc (Nat.le_refl _) _).alloc (by simp) _
 have hdV:V.heap[D]?=some (.deferred (some [])):=by rw [hV,hD];exact (Below.heap_alloc _ _ _ (by simp)).trans (World.alloc_heap_new w _)
 have hlV:V.heap[D+1]?=some (.loop (st .ready)):=by
  have :=World.alloc_heap_new (w.alloc (.deferred (some []))) (.loop (st .ready));rwa [World.size_alloc,<- hV,<- hD] at this
 have stay:∀ (s:List α) (A B:World),(I s A/\A.heap[D+1]?=some (.loop (st .ready))/\A.heap[D]?=some (.deferred (some [])))->Mv A B->(I s B/\B.heap[D+1]?=some (.loop (st .ready))/\B.heap[D]?=some (.deferred (some []))):=by
  rintro s A B ⟨i1,i2,i3⟩ hb;exact ⟨hIb s A B i1 hb,hMk (by omega) hb i2 (.inl ⟨_,rfl⟩),hMk (by omega) hb i3 (.inr ⟨_,rfl⟩)⟩
 have round:∀ (pre:List α) (x:α) (A:World),(I pre A/\A.heap[D+1]?=some (.loop (st .ready))/\A.heap[D]?=some (.deferred (some [])))->Ok pre x A->
   YieldAt Fence.wide (n-1-1) P (D+1) (encs x) A fun e B=>e= .returned (.bool true)/\(I (pre++[x]) B/\B.heap[D+1]?=some (.loop (st .ready))/\B.heap[D]?=some (.deferred (some [])))/\Kp A B:=by
  rintro pre x A ⟨i1,i2,i3⟩ hx;have hl:D+1<A.heap.size:=(Array.getElem?_eq_some_iff.1 i2).1;have y:=run_yield (P:=P) (args:=encs x) i2 (by rw [hst];exact hps x);rw [hst] at y;refine ⟨fn,_,assign,body,y,roundIn_of_wpIn hfn (hassign _ pre x A _ i1 hx fun a' A0 hax j1 jx hbl hk0=> ?_)⟩;have hl0:D+1<A0.heap.size:=Nat.lt_of_lt_of_le hl hbl.size;have i2':A0.heap[D+1]?=some (.loop (st .ready)):=(hbl.block _ hl).trans i2;have i3':A0.heap[D]?=some (.deferred (some [])):=(hbl.block _ (by omega)).trans i3;have beg:=run_beginRound (P:=P) i2' (by rw [hst]);refine ⟨_,beg,?_⟩;obtain ⟨A1,hA1⟩:∃ A1,A1=A0.putObj (D+1) (.loop {st .ready with state:= .busy}):=⟨_,rfl⟩
  rw [<- hA1];have l1:A1.heap[D+1]?=some (.loop {st .ready with state:= .busy}):=by rw [hA1];exact World.putObj_heap_same hl0
  have d1:A1.heap[D]?=some (.deferred (some [])):=by rw [hA1];exact (World.putObj_heap_other (by omega)).trans i3'
  have k1:Kp A A1:=hKt hk0 (by rw [hA1];exact hKp A0 _ _ _ (by omega) i2');have b1:=hbody (D+1) pre x a' A1 (by rw [hA1];exact hAx x a' A0 _ _ _ (by omega) i2' rfl hax) (by rw [hA1];exact hIp pre A0 _ _ _ (by omega) i2' rfl j1) (by rw [hA1];exact hOk pre x A0 _ _ _ (by omega) i2' rfl jx);refine wpIn_mono b1 ?_;rintro ex a2 A2 hp;cases ex with
  |normal=>
   obtain ⟨ko,k2,i4⟩:=hp;have l2:=ko.same _ _ l1 rfl;have d2:=ko.same _ _ d1 rfl;have fin:=run_endRound (P:=P) none l2;have hl2:D+1<A2.heap.size:=(Array.getElem?_eq_some_iff.1 l2).1;refine ⟨_,_,fin,rfl,⟨hIp _ A2 _ _ _ (by omega) l2 rfl i4,?_,(World.putObj_heap_other (by omega)).trans d2⟩,hKt (hKt k1 k2) (hKp A2 _ _ _ (by omega) l2)⟩;rw [World.putObj_heap_same hl2,hst];rfl
  |ret=>exact hp.2.elim
  |exit id=>exact hp.2.elim
  |goto t=>exact hp.2.elim
  |panic c=>exact hp.elim
  |outgrown=>exact hp.elim
 refine ⟨D+1,_,V,{target:= .fn (.func gf) lb,args:=#[.func (.yield (D+1)) #[] #[]]},V,gf,#[.func (.yield (D+1)) #[] #[]]++lb,V,enter',?_,?_,?_,fun _=>h1,?_⟩
 ·simp only [resolve,hg]
  simp [go_sem]
 ·intro f' _
  trivial
 ·simp [invoke,go_sem,eg]
 ·refine (hseq (D+1) _ V bel stay round ⟨hIb [] w V h0 (hMb bel),hlV,hdV⟩).mono ?_
  rintro e A ⟨⟨v,rfl⟩,xs,hS,i1,i2,i3⟩;have fin:=run_endLoop (P:=P) i2 (by rw [hst];simp);rw [hst] at fin;refine ⟨none,_,fin,hdone D xs _ (by omega) hS (hIp xs A _ _ _ (by omega) i2 rfl i1) ((World.putObj_heap_other (by omega)).trans i3)⟩
end Go.Proofs.YtpehcaidjlemiaaGreatDoor
namespace Go.Proofs.YtpehcaidjlemiaaGreatDoor
open Go Go.RowKit
open Go.ChangeMaps (setBlock)
attribute [local go_sem] Oper.semAt_some
def qhF (x:Tm):Array Value:=#[tV x]
def qfd (W:World) (r B:Nat) (m:List Ent) (pre:List Tm):Prop:=∃ seen:List Nat,W.heap[r]?=some (.mapIter (some B) m.length seen.toArray m.length)/\seen.Nodup/\(∀ b∈seen,b<m.length)/\pre=seen.map fun b=>(m.map (·.1)).getD b ([],[])
theorem qn4 {m:List Ent} {i:Nat} {e:MapEntry} (h:e∈qaQ i m):∃ (k:Nat) (hk:k<m.length),e={key:=tV m[k].1,val:=m[k].2,born:=i+k}:=by
 obtain ⟨k,hk,rfl⟩:=List.getElem_of_mem h;rw [qhA] at hk;refine ⟨k,hk,?_⟩;have :=qgM (i:=i) hk;rw [List.getElem?_eq_getElem (by rw [qhA];exact hk)] at this;exact Option.some.inj this
theorem qn5:∀ (m:List Ent) (i:Nat),(qaQ i m).map (·.born)=List.range' i m.length
 |[],i=>rfl
 |e::m,i=>by rw [qaQ,List.map_cons,qn5 m (i+1),List.length_cons,List.range'_succ]
theorem qjJ:∀ (n:Nat) (l:List Nat),l.Nodup->(∀ b∈l,b<n)->l.length<=n
 |0,l,_,h=>by
  cases l with
  |nil=>exact Nat.le_refl _
  |cons x l=>exact absurd (h x (List.mem_cons_self ..)) (by omega)
 |n+1,l,hn,h=>by
  have h1:=qjJ n (l.erase n) (hn.erase n) fun b hb=>by
   obtain ⟨h2,h3⟩:=(hn.mem_erase_iff).1 hb;have :=h b h3;omega
  by_cases hm:n∈l
  ·rw [List.length_erase_of_mem hm] at h1
   omega
  ·rw [List.erase_of_not_mem hm] at h1
   omega
theorem qfd.done {W:World} {r B:Nat} {m:List Ent} {seen:List Nat} (hn:seen.Nodup) (hs:∀ b∈seen,b<m.length) (h0:(leftOf (qaQ 0 m).toArray seen.toArray).size=0):(seen.map fun b=>(m.map (·.1)).getD b ([],[])).Perm (m.map (·.1)):=by
 have hall:=all_seen _ _ h0;have hp:seen.Perm (List.range m.length):=by
  refine (List.perm_ext_iff_of_nodup hn List.nodup_range).2 fun b=>⟨fun hb=>List.mem_range.2 (hs b hb),fun hb=> ?_⟩
  have hb:=List.mem_range.1 hb;have he:=qgM (i:=0) hb;have :=hall _ (List.mem_of_getElem? (by simpa using he));simpa using this
 have h1:=hp.map fun b=>(m.map (·.1)).getD b (([],[]):Tm)
 refine h1.trans (List.Perm.of_eq ?_)
 apply List.ext_getElem
 ·simp
 ·intro i h2 h3
  have hi:i<m.length:=by simpa using h3
  simp [List.getD_eq_getElem?_getD,hi]
structure qdk (base:Nat) (w w':World):Prop where
 below:Below base w w'
 keep:∀ (k:Nat) (o:Obj),w.heap[k]?=some o->(∀ m s e c,o≠ .mapIter m s e c)->w'.heap[k]?=some o
theorem qdk.of {base:Nat} {w w':World} (h:Below w.heap.size w w') (hb:base<=w.heap.size):qdk base w w':=⟨h.mono hb,fun k o hk _=>(h.block k (Array.getElem?_eq_some_iff.1 hk).1).trans hk⟩
structure qcM (base:Nat) (w w':World):Prop where
 below:Below base w w'
 keep:∀ (k:Nat) (o:Obj),w.heap[k]?=some o->((∃ m s e c,o= .mapIter m s e c)∨∃ es c,o= .map es c)->w'.heap[k]?=some o
theorem qn6 {base:Nat} {w w1:World} {r:Nat} {m:Option Nat} {s:Nat} {e:Array Nat} {c:Nat} (h1:w1=w∨w1=w.drew) (hr:w.heap[r]?=some (.mapIter m s e c)) (hb:base<=r) (o:Obj):qdk base w (setBlock w1 r o)/\(setBlock w1 r o).heap[r]?=some o:=by
 have hlt:=(Array.getElem?_eq_some_iff.1 hr).1;have hh:w1.heap=w.heap:=by rcases h1 with rfl|rfl<;>rfl
 refine ⟨⟨⟨by rcases h1 with rfl|rfl<;>rfl,by rcases h1 with rfl|rfl<;>rfl,by rcases h1 with rfl|rfl<;>rfl,by simp [setBlock,hh],fun k hk=> ?_⟩,fun k o' hk hno=> ?_⟩,?_⟩
 ·show (w1.heap.setIfInBounds r o)[k]?=_
  rw [Array.getElem?_setIfInBounds_ne (by omega),hh]
 ·show (w1.heap.setIfInBounds r o)[k]?=_
  have hne:r≠k:=by rintro rfl;rw [hr] at hk;cases hk;exact hno _ _ _ _ rfl
  rw [Array.getElem?_setIfInBounds_ne hne,hh,hk]
 ·show (w1.heap.setIfInBounds r o)[r]?=_
  rw [Array.getElem?_setIfInBounds_self_of_lt (by rw [hh];exact hlt)]
section
variable {F:Fence} {n:Nat} (w:World) {ops:Array Oper} {rest:List Oper} {o:Oper} {a:Act} {Q:Exit->Act->World->Prop}
theorem quP (hg:o.guard=none) (x:Operand) (hop:o.op=Op.range 248 x) (B:Nat) (m:List Ent) (hx:a.eval x= .map (some B)) (hm:qa7 w B m)
  (hK:wpListIn F n Tryz.prog ops Q rest (a.put o.dst (.pointer (some ⟨w.heap.size,0,none⟩))) (w.alloc (.mapIter (some B) m.length #[] m.length))):
  wpListIn F n Tryz.prog ops Q (o::rest) a w:=by
 refine wpListIn_plain hg fun K' hK'=> ?_
 have hrun:=run_range_map (P:=Tryz.prog) w 248 _ _ B _ _ Tryz.underlying248 hm;unfold Oper.wpIn;refine ⟨by simp [Oper.about,hop],?_⟩;rw [Oper.semAt_plain F _ _ (by rw [hop];intro c hc';cases hc')];simp [execOp,hop,hx,hrun,Result.andThen];exact hK' _ _ hK
theorem quQ (hg:o.guard=none) (it:Operand) (hop:o.op=Op.next it false) (base r B:Nat) (m:List Ent) (pre:List Tm) (hit:a.eval it= .pointer (some ⟨r,0,none⟩)) (hm:qa7 w B m) (hi:qfd w r B m pre) (hb:base<=r)
  (hDone:pre.Perm (m.map (·.1))->wpListIn F n Tryz.prog ops Q rest (a.put o.dst (.tuple #[.bool false])) w)
  (hMore:∀ (t:Tm) (v:Value) (w':World),pre.length<m.length->qdk base w w'->qfd w' r B m (pre++[t])->(Instr.entry (.pointer (some ⟨r,0,none⟩))).run Tryz.prog w'= .ok (.tuple #[tV t,v]) w'->wpListIn F n Tryz.prog ops Q rest (a.put o.dst (.tuple #[.bool true,tV t,v])) w'):
  wpListIn F n Tryz.prog ops Q (o::rest) a w:=by
 refine wpListIn_plain hg fun K' hK'=> ?_
 unfold Oper.wpIn;refine ⟨by simp [Oper.about,hop],?_⟩;rw [Oper.semAt_plain F _ _ (by rw [hop];intro c hc';cases hc')];obtain ⟨seen,hr,hn,hs,rfl⟩:=hi;have hold:∀ x∈(qaQ 0 m).toArray.toList,x.born<m.length:=fun x hx=>by
  obtain ⟨k,hk,rfl⟩:=qn4 (by simpa using hx);simpa using hk
 rcases run_next_at (P:=Tryz.prog) w o.type r B m.length m.length seen.toArray (qaQ 0 m).toArray m.length hr hm hold (Nat.le_refl _) with ⟨h0,hrun⟩|⟨e,he,w1,hw1,hrun⟩
 ·simp [execOp,hop,hit,hrun,Result.andThen]
  exact hK' _ _ (hDone (qfd.done (W:=w) (r:=r) (B:=B) hn hs h0))
 ·obtain ⟨he1,he2⟩:=mem_left he
  obtain ⟨k,hk,hek⟩:=qn4 (m:=m) (i:=0) (e:=e) (by simpa using he1);have hbk:e.born=k:=by rw [hek];simp
  have hkk:e.key=tV m[k].1:=by rw [hek]
  rw [hbk] at he2 hrun;have hks:k∉seen:=by simpa using he2
  have hpush:seen.toArray.push k=(seen++[k]).toArray:=by simp
  rw [hpush] at hrun;obtain ⟨hmv,hr2⟩:=qn6 (base:=base) hw1 hr hb (.mapIter (some B) m.length (seen++[k]).toArray m.length);have hm2:qa7 (setBlock w1 r (.mapIter (some B) m.length (seen++[k]).toArray m.length)) B m:=hmv.keep _ _ hm (by simp);have hen:=run_entry_at (P:=Tryz.prog) _ r B m.length seen.toArray (qaQ 0 m).toArray m.length e (by rw [hbk,hpush];exact hr2) hm2 he1 (by simp [qn5,List.nodup_range']);rw [hkk] at hen hrun;simp [execOp,hop,hit,hrun,Result.andThen];have hlen:seen.length<m.length:=by
   have h1:(seen++[k]).Nodup:=by rw [List.nodup_append];exact ⟨hn,by simp,fun x hx y hy e=>by rw [List.mem_singleton] at hy;subst hy;subst e;exact hks hx⟩
   have h2:(seen++[k]).length<=m.length:=by
    refine qjJ _ _ h1 fun b hb=> ?_
    rcases List.mem_append.1 hb with hb|hb
    ·exact hs b hb
    ·rw [List.mem_singleton.1 hb];exact hk
   rw [List.length_append,List.length_singleton] at h2;omega
  refine hK' _ _ (hMore m[k].1 e.val _ (by simpa using hlen) hmv ⟨seen++[k],hr2,?_,?_,?_⟩ hen)
  ·rw [List.nodup_append]
   exact ⟨hn,by simp,fun x hx y hy e=>by rw [List.mem_singleton] at hy;subst hy;subst e;exact hks hx⟩
  ·intro b hb
   rcases List.mem_append.1 hb with hb|hb
   ·exact hs b hb
   ·rw [List.mem_singleton.1 hb];exact hk
  ·rw [List.map_append]
   congr 1;simp [List.getD_eq_getElem?_getD,hk]
end
open Go.ChangeMaps (setBlock)
attribute [local go_sem] Oper.semAt_some
def qhG (x:Nm):Array Value:=#[kV x]
def ItK (W:World) (r B c:Nat) (m:List qaF) (pre:List Nm):Prop:=∃ seen:List Nat,W.heap[r]?=some (.mapIter (some B) (c+m.length) (seen.map (c+·)).toArray (c+m.length))/\seen.Nodup/\(∀ b∈seen,b<m.length)/\pre=seen.map fun b=>(m.map (·.1)).getD b []
theorem qn7 {m:List qaF} {i:Nat} {e:MapEntry} (h:e∈qbe i m):∃ (k:Nat) (hk:k<m.length),e={key:=kV m[k].1,val:=m[k].2,born:=i+k}:=by
 obtain ⟨k,hk,rfl⟩:=List.getElem_of_mem h;rw [qhC] at hk;refine ⟨k,hk,?_⟩;have :=qhD (i:=i) hk;rw [List.getElem?_eq_getElem (by rw [qhC];exact hk)] at this;exact Option.some.inj this
theorem qn8:∀ (m:List qaF) (i:Nat),(qbe i m).map (·.born)=List.range' i m.length
 |[],i=>rfl
 |e::m,i=>by rw [qbe,List.map_cons,qn8 m (i+1),List.length_cons,List.range'_succ]
theorem ItK.done {c:Nat} {m:List qaF} {seen:List Nat} (hn:seen.Nodup) (hs:∀ b∈seen,b<m.length) (h0:(leftOf (qbe c m).toArray (seen.map (c+·)).toArray).size=0):(seen.map fun b=>(m.map (·.1)).getD b []).Perm (m.map (·.1)):=by
 have hall:=all_seen _ _ h0;have hp:seen.Perm (List.range m.length):=by
  refine (List.perm_ext_iff_of_nodup hn List.nodup_range).2 fun b=>⟨fun hb=>List.mem_range.2 (hs b hb),fun hb=> ?_⟩
  have hb:=List.mem_range.1 hb;have he:=qhD (i:=c) hb;have :=hall _ (List.mem_of_getElem? (by simpa using he));simpa using this
 have h1:=hp.map fun b=>(m.map (·.1)).getD b ([]:Nm)
 refine h1.trans (List.Perm.of_eq ?_)
 apply List.ext_getElem
 ·simp
 ·intro i h2 h3
  have hi:i<m.length:=by simpa using h3
  simp [List.getD_eq_getElem?_getD,hi]
section
variable {F:Fence} {n:Nat} (w:World) {ops:Array Oper} {rest:List Oper} {o:Oper} {a:Act} {Q:Exit->Act->World->Prop}
theorem quR (hg:o.guard=none) (x:Operand) (hop:o.op=Op.range 124 x) (B c:Nat) (m:List qaF) (hx:a.eval x= .map (some B)) (hm:qa8 w B c m)
  (hK:wpListIn F n Tryz.prog ops Q rest (a.put o.dst (.pointer (some ⟨w.heap.size,0,none⟩))) (w.alloc (.mapIter (some B) (c+m.length) #[] (c+m.length)))):
  wpListIn F n Tryz.prog ops Q (o::rest) a w:=by
 refine wpListIn_plain hg fun K' hK'=> ?_
 have hrun:=run_range_map (P:=Tryz.prog) w 124 _ _ B _ _ Tryz.underlying124 hm;unfold Oper.wpIn;refine ⟨by simp [Oper.about,hop],?_⟩;rw [Oper.semAt_plain F _ _ (by rw [hop];intro c hc';cases hc')];simp [execOp,hop,hx,hrun,Result.andThen];exact hK' _ _ hK
theorem quS (hg:o.guard=none) (it:Operand) (hop:o.op=Op.next it false) (base r B c:Nat) (m:List qaF) (pre:List Nm) (hit:a.eval it= .pointer (some ⟨r,0,none⟩)) (hm:qa8 w B c m) (hi:ItK w r B c m pre) (hb:base<=r)
  (hDone:pre.Perm (m.map (·.1))->wpListIn F n Tryz.prog ops Q rest (a.put o.dst (.tuple #[.bool false])) w)
  (hMore:∀ (t:Nm) (v:Value) (w':World),pre.length<m.length->qdk base w w'->ItK w' r B c m (pre++[t])->(Instr.entry (.pointer (some ⟨r,0,none⟩))).run Tryz.prog w'= .ok (.tuple #[kV t,v]) w'->wpListIn F n Tryz.prog ops Q rest (a.put o.dst (.tuple #[.bool true,kV t,v])) w'):
  wpListIn F n Tryz.prog ops Q (o::rest) a w:=by
 refine wpListIn_plain hg fun K' hK'=> ?_
 unfold Oper.wpIn;refine ⟨by simp [Oper.about,hop],?_⟩;rw [Oper.semAt_plain F _ _ (by rw [hop];intro c hc';cases hc')];obtain ⟨seen,hr,hn,hs,rfl⟩:=hi;have hold:∀ x∈(qbe c m).toArray.toList,x.born<c+m.length:=fun x hx=>by
  obtain ⟨k,hk,rfl⟩:=qn7 (by simpa using hx);simpa using hk
 rcases run_next_at (P:=Tryz.prog) w o.type r B (c+m.length) (c+m.length) (seen.map (c+·)).toArray (qbe c m).toArray (c+m.length) hr hm hold (Nat.le_refl _) with ⟨h0,hrun⟩|⟨e,he,w1,hw1,hrun⟩
 ·simp [execOp,hop,hit,hrun,Result.andThen]
  exact hK' _ _ (hDone (ItK.done hn hs h0))
 ·obtain ⟨he1,he2⟩:=mem_left he
  obtain ⟨k,hk,hek⟩:=qn7 (m:=m) (i:=c) (e:=e) (by simpa using he1);have hbk:e.born=c+k:=by rw [hek]
  have hkk:e.key=kV m[k].1:=by rw [hek]
  rw [hbk] at he2 hrun;have hks:k∉seen:=by simpa using he2
  have hpush:(seen.map (c+·)).toArray.push (c+k)=((seen++[k]).map (c+·)).toArray:=by simp
  rw [hpush] at hrun;obtain ⟨hmv,hr2⟩:=qn6 (base:=base) hw1 hr hb (.mapIter (some B) (c+m.length) ((seen++[k]).map (c+·)).toArray (c+m.length));have hm2:qa8 (setBlock w1 r (.mapIter (some B) (c+m.length) ((seen++[k]).map (c+·)).toArray (c+m.length))) B c m:=hmv.keep _ _ hm (by simp);have hen:=run_entry_at (P:=Tryz.prog) _ r B (c+m.length) (seen.map (c+·)).toArray (qbe c m).toArray (c+m.length) e (by rw [hbk,hpush];exact hr2) hm2 he1 (by simp [qn8,List.nodup_range']);rw [hkk] at hen hrun;simp only [execOp,hop,hit,hrun,Sem.run_bind,Sem.run_pure,Result.andThen];have hlen:seen.length<m.length:=by
   have h1:(seen++[k]).Nodup:=by rw [List.nodup_append];exact ⟨hn,by simp,fun x hx y hy e=>by rw [List.mem_singleton] at hy;subst hy;subst e;exact hks hx⟩
   have h2:(seen++[k]).length<=m.length:=by
    refine qjJ _ _ h1 fun b hb=> ?_
    rcases List.mem_append.1 hb with hb|hb
    ·exact hs b hb
    ·rw [List.mem_singleton.1 hb];exact hk
   rw [List.length_append,List.length_singleton] at h2;omega
  refine hK' _ _ (hMore m[k].1 e.val _ (by simpa using hlen) hmv ⟨seen++[k],hr2,?_,?_,?_⟩ hen)
  ·rw [List.nodup_append]
   exact ⟨hn,by simp,fun x hx y hy e=>by rw [List.mem_singleton] at hy;subst hy;subst e;exact hks hx⟩
  ·intro b hb
   rcases List.mem_append.1 hb with hb|hb
   ·exact hs b hb
   ·rw [List.mem_singleton.1 hb];exact hk
  ·rw [List.map_append]
   congr 1;simp [List.getD_eq_getElem?_getD,hk]
end
attribute [local go_sem] Oper.semAt_some
theorem quT (B:Nat) (w:World):
  Calls Tryz.prog 151 #[.map (some B)] w fun e w'=>e= .returned (.func (.func 187) #[] #[.pointer (some ⟨w.heap.size,0,none⟩)])/\w'=w.alloc (.cells #[.map (some B)] 248):=by
 go_enter Tryz.func151,Tryz.ntmps151
 go_wp2;go_ret;exact ⟨rfl,rfl⟩
def qjK (base r B:Nat) (m:List Ent) (w0:World) (J:List Tm->World->Prop) (wr:World):Prop:=∃ pre:List Tm,qfd wr r B m pre/\qa7 wr B m/\J pre wr/\w0.heap.size<=wr.heap.size
def qel (r n:Nat) (W:World):Nat:=match W.heap[r]? with|some (.mapIter _ _ seen _)=>n-seen.size|_=>0
theorem qn9 {W:World} {r B:Nat} {m:List Ent} {pre:List Tm} (h:qfd W r B m pre):qel r m.length W=m.length-pre.length:=by
 obtain ⟨seen,h1,_,_,rfl⟩:=h;simp [qel,h1]
theorem quU (q b Bx B:Nat) (m:List Ent) (w:World) (hq:1<=q) (hb:b<=w.heap.size) (hm:qa7 w B m) (hc:w.cell? ⟨Bx,0,none⟩=some (.map (some B))):
  qjI q Tryz.prog 187 #[.pointer (some ⟨Bx,0,none⟩)] qhF (qdk w.heap.size) (qcM b) (fun pre _ _=>pre.length<m.length) (fun xs=>xs.Perm (m.map (·.1))) w:=by
 intro lp J W hW hJ hY h0;have hmW:qa7 W B m:=(hW.block B (Array.getElem?_eq_some_iff.1 hm).1).trans hm;have hcW:=(hW.cell (p:=⟨Bx,0,none⟩) (World.block_lt_of_cell? w _ hc)).trans hc;have HJ:=qH hJ;have HY:=qH hY;have hszW:=hW.size;obtain ⟨r,hr⟩:∃ r,r=W.heap.size:=⟨_,rfl⟩;obtain ⟨w2,hw2⟩:∃ w2,w2=W.alloc (.mapIter (some B) m.length #[] m.length):=⟨_,rfl⟩;have hb2:Below W.heap.size W w2:=by rw [hw2];exact (Below.refl _ _).alloc (Nat.le_refl _) _
 have hrel0:qjK b r B m W J w2:=by
  refine ⟨[],⟨[],by rw [hw2,hr];exact heap_alloc_new _ _,by simp,by simp,rfl⟩,(hb2.block B (Array.getElem?_eq_some_iff.1 hmW).1).trans hmW,hJ _ _ _ h0 (qdk.of hb2 hszW),hb2.size⟩
 have HREL:=qH hrel0;have HW2:=qH hw2;have hrb:w.heap.size<=r:=by omega
 have HR:=qH hr;clear hJ hY h0 hm hc hW hrel0 hw2 hb2 hr;refine callsIn_of_wp Tryz.func187 rfl trivial ?_ rfl;simp only [Tryz.ntmps187,List.size_toArray,List.length_cons,List.length_nil,Nat.reduceAdd,Nat.reduceSub,Array.replicate_succ,Array.replicate_zero,List.push_toArray,List.append_toArray,List.nil_append,List.cons_append]
 gi_wp2_with (first
  |(gi_at_range;refine quP _ rfl _ rfl B m rfl hmW ?_;rw [<- HW2.out,<- HR.out])
  |gi_in)
 gi_loopw [3] (fun _ wr=>qjK b r B m W J wr) (fun _ wr=>qel r m.length wr)
 case atStart=>exact HREL.out
 case round=>
  obtain ⟨pre,hit,hmr,hj,hsz⟩:=hrel
  gi_wp2_with (first
   |(gi_at_next;refine quQ _ rfl _ rfl w.heap.size r B m pre rfl hmr hit hrb ?_ ?_)
   |gi_in)
  ·intro hp
   gi_wp2
   go_end0
   exact ⟨⟨_,rfl⟩,pre,hp,hj⟩
  ·intro t1 t2 v w3 hlen hmv hit3 hen
   obtain ⟨t,ht⟩:∃ t:Tm,t=(t1,t2):=⟨_,rfl⟩;rw [<- ht] at hit3 hen ⊢;have hj3:=HJ.out _ _ _ hj hmv;have hm3:qa7 w3 B m:=hmv.keep _ _ hmr (by simp);have hl:=qn9 hit;have hsz3:=hmv.below.size;obtain ⟨X,hX⟩:∃ X:ByteArray,X=⟨t.1.toArray⟩:=⟨_,rfl⟩;obtain ⟨Y,hY⟩:∃ Y:ByteArray,Y=⟨t.2.toArray⟩:=⟨_,rfl⟩;have htV:tV t= .agg #[.string X,.string Y]:=by rw [hX,hY];rfl
   rw [htV] at hen ⊢;obtain ⟨w4,hw4⟩:∃ w4,w4=w3.alloc (.cells #[.string X,.string Y] 69):=⟨_,rfl⟩;have hb4:Below w3.heap.size w3 w4:=by rw [hw4];exact (Below.refl _ _).alloc (Nat.le_refl _) _
   have hyy:=HY.out pre t w4 (HJ.out _ _ _ hj3 (qdk.of hb4 (by omega))) hlen;rw [show qhF t=#[.agg #[.string X,.string Y]] by unfold qhF;rw [htV]] at hyy;obtain ⟨fn,tmps,assign,body,hy,hRR⟩:=hyy;have hm4:qa7 w4 B m:=(hb4.block B (Array.getElem?_eq_some_iff.1 hm3).1).trans hm3;have hit4:qfd w4 r B m (pre++[t]):=by
    obtain ⟨seen,g1,g2,g3,g4⟩:=hit3;exact ⟨seen,(hb4.block r (Array.getElem?_eq_some_iff.1 g1).1).trans g1,g2,g3,g4⟩
   have hs4:=hb4.size;rw [hw4] at hy;have HW4:=qH hw4;have HIT4:=qH hit4;have HM4:=qH hm4;have HL:=qH hl;clear hX hY htV hw4 hb4 hit4 hm4 hit hit3 hmr hm3 hmv hj hj3 hl;gi_wp2;rw [HW4.out] at hRR;refine hRR.mono ?_;rintro e W4 ⟨rfl,hJ4,hk4⟩;have hrel:qjK b r B m W J W4:=by
    have hk5:qcM b w4 W4:=by rw [HW4.out];exact hk4
    obtain ⟨seen,g1,g2,g3,g4⟩:=HIT4.out;exact ⟨pre++[t],⟨seen,hk5.keep _ _ g1 (.inl ⟨_,_,_,_,rfl⟩),g2,g3,g4⟩,hk5.keep _ _ HM4.out (.inr ⟨_,_,rfl⟩),hJ4,by have :=hk5.below.size;omega⟩
   have hlt:qel r m.length W4<qel r m.length wr:=by
    have hk5:qcM b w4 W4:=by rw [HW4.out];exact hk4
    obtain ⟨seen,g1,g2,g3,g4⟩:=HIT4.out;have :qfd W4 r B m (pre++[t]):=⟨seen,hk5.keep _ _ g1 (.inl ⟨_,_,_,_,rfl⟩),g2,g3,g4⟩;rw [HL.out,qn9 this,List.length_append,List.length_singleton];omega
   have HRL:=qH hrel;have HLT:=qH hlt;clear hrel hlt hJ4 hk4 hy hRR;gi_wp2;go_roundw
   case rel=>exact HRL.out
   case measure=>exact HLT.out
attribute [local go_sem] Oper.semAt_some
theorem quV (B:Nat) (w:World):
  Calls Tryz.prog 67 #[.map (some B)] w fun e w'=>e= .returned (.func (.func 110) #[] #[.pointer (some ⟨w.heap.size,0,none⟩)])/\w'=w.alloc (.cells #[.map (some B)] 124):=by
 go_enter Tryz.func67,Tryz.ntmps67
 go_wp2;go_ret;exact ⟨rfl,rfl⟩
def qjL (base r B c:Nat) (m:List qaF) (w0:World) (J:List Nm->World->Prop) (wr:World):Prop:=∃ pre:List Nm,ItK wr r B c m pre/\qa8 wr B c m/\J pre wr/\w0.heap.size<=wr.heap.size
theorem qoa {W:World} {r B c:Nat} {m:List qaF} {pre:List Nm} (h:ItK W r B c m pre):qel r m.length W=m.length-pre.length:=by
 obtain ⟨seen,h1,_,_,rfl⟩:=h;simp [qel,h1]
theorem quW (q b Bx B c:Nat) (m:List qaF) (w:World) (hq:1<=q) (hb:b<=w.heap.size) (hm:qa8 w B c m) (hc:w.cell? ⟨Bx,0,none⟩=some (.map (some B))):
  qjI q Tryz.prog 110 #[.pointer (some ⟨Bx,0,none⟩)] qhG (qdk w.heap.size) (qcM b) (fun pre _ _=>pre.length<m.length) (fun xs=>xs.Perm (m.map (·.1))) w:=by
 intro lp J W hW hJ hY h0;have hmW:qa8 W B c m:=(hW.block B (Array.getElem?_eq_some_iff.1 hm).1).trans hm;have hcW:=(hW.cell (p:=⟨Bx,0,none⟩) (World.block_lt_of_cell? w _ hc)).trans hc;have HJ:=qH hJ;have HY:=qH hY;have hszW:=hW.size;obtain ⟨r,hr⟩:∃ r,r=W.heap.size:=⟨_,rfl⟩;obtain ⟨w2,hw2⟩:∃ w2,w2=W.alloc (.mapIter (some B) (c+m.length) #[] (c+m.length)):=⟨_,rfl⟩;have hb2:Below W.heap.size W w2:=by rw [hw2];exact (Below.refl _ _).alloc (Nat.le_refl _) _
 have hrel0:qjL b r B c m W J w2:=by
  refine ⟨[],⟨[],by rw [hw2,hr];exact heap_alloc_new _ _,by simp,by simp,rfl⟩,(hb2.block B (Array.getElem?_eq_some_iff.1 hmW).1).trans hmW,hJ _ _ _ h0 (qdk.of hb2 hszW),hb2.size⟩
 have HREL:=qH hrel0;have HW2:=qH hw2;have hrb:w.heap.size<=r:=by omega
 have HR:=qH hr;clear hJ hY h0 hm hc hW hrel0 hw2 hb2 hr;refine callsIn_of_wp Tryz.func110 rfl trivial ?_ rfl;simp only [Tryz.ntmps110,List.size_toArray,List.length_cons,List.length_nil,Nat.reduceAdd,Nat.reduceSub,Array.replicate_succ,Array.replicate_zero,List.push_toArray,List.append_toArray,List.nil_append,List.cons_append]
 gi_wp2_with (first
  |(gi_at_range;refine quR _ rfl _ rfl B c m rfl hmW ?_;rw [<- HW2.out,<- HR.out])
  |gi_in)
 gi_loopw [] (fun wr=>qjL b r B c m W J wr) (fun wr=>qel r m.length wr)
 case atStart=>exact HREL.out
 case round=>
  obtain ⟨pre,hit,hmr,hj,hsz⟩:=hrel
  gi_wp2_with (first
   |(gi_at_next;refine quS _ rfl _ rfl w.heap.size r B c m pre rfl hmr hit hrb ?_ ?_)
   |gi_in)
  ·intro hp
   gi_wp2
   go_end0
   exact ⟨⟨_,rfl⟩,pre,hp,hj⟩
  ·intro t v w3 hlen hmv hit3 hen
   have hj3:=HJ.out _ _ _ hj hmv;have hm3:qa8 w3 B c m:=hmv.keep _ _ hmr (by simp);have hl:=qoa hit;have hsz3:=hmv.below.size;obtain ⟨X,hX⟩:∃ X:ByteArray,X=⟨t.toArray⟩:=⟨_,rfl⟩;have htV:kV t= .string X:=by rw [hX];rfl
   rw [htV] at hen ⊢;have hyy:=HY.out pre t w3 hj3 hlen;rw [show qhG t=#[.string X] by unfold qhG;rw [htV]] at hyy;obtain ⟨fn,tmps,assign,body,hy,hRR⟩:=hyy;have HIT3:=qH hit3;have HM3:=qH hm3;have HL:=qH hl;clear hX htV hit hit3 hmr hm3 hmv hj hj3 hl;gi_wp2;refine hRR.mono ?_;rintro e W4 ⟨rfl,hJ4,hk4⟩;obtain ⟨seen,g1,g2,g3,g4⟩:=HIT3.out;have hit4:ItK W4 r B c m (pre++[t]):=⟨seen,hk4.keep _ _ g1 (.inl ⟨_,_,_,_,rfl⟩),g2,g3,g4⟩;have hrel:qjL b r B c m W J W4:=⟨pre++[t],hit4,hk4.keep _ _ HM3.out (.inr ⟨_,_,rfl⟩),hJ4,by have :=hk4.below.size;omega⟩;have hlt:qel r m.length W4<qel r m.length wr:=by
    rw [HL.out,qoa hit4,List.length_append,List.length_singleton];omega
   have HRL:=qH hrel;have HLT:=qH hlt;clear hrel hlt hit4 hJ4 hk4 hy hRR g1 g2 g3 g4;gi_wp2;go_roundw
   case rel=>exact HRL.out
   case measure=>exact HLT.out
attribute [local go_sem] Oper.semAt_some
theorem qcM.trans {b:Nat} {w w1 w2:World} (h:qcM b w w1) (k:qcM b w1 w2):qcM b w w2:=⟨h.below.trans k.below,fun i o hi ho=>k.keep i o (h.keep i o hi ho) ho⟩
theorem qcM.of {b:Nat} {w w1:World} (h:Below w.heap.size w w1) (hb:b<=w.heap.size):qcM b w w1:=⟨h.mono hb,fun k o hk _=>(h.block k (Array.getElem?_eq_some_iff.1 hk).1).trans hk⟩
theorem qcM.loop {b:Nat} (W:World) (l:Nat) (x:Loop) (o':Obj) (hl:b<=l) (h:W.heap[l]?=some (.loop x)):qcM b W (W.putObj l o'):=by
 refine ⟨⟨rfl,rfl,rfl,by simp,fun k hk=>World.putObj_heap_other (by omega)⟩,fun k o hk ho=> ?_⟩;rw [World.putObj_heap_other,hk];rintro rfl;rw [h] at hk;cases hk;rcases ho with ⟨_,_,_,_,ho⟩|⟨_,_,ho⟩<;>cases ho
def qfe (base B:Nat) (l:List Tm) (W:World):Prop:=∃ v,W.heap[B]?=some (.cells #[v] 145 (0,0))/\qbM base W v l
theorem qjM {base:Nat} {w:World} {v:Value} {l:List Tm} (h:qbM base w v l) {k:Nat} {o:Obj} (hk:w.heap[k]?=some o) (ho:o.isCells=false):v.ownBlock≠some k:=by
 intro he;rcases h.2 with ⟨rfl,_⟩|⟨g,cap,cur,rfl,_,hh,_⟩
 ·cases he
 ·simp only [Value.ownBlock,Option.some.injEq] at he
  subst he;rw [hh] at hk;cases hk;cases ho
theorem qfe.firm (N base B:Nat) (l:List Tm):qf9 N (qfe base B l):=fun W k o o' _ ho hc ⟨v,h1,h2⟩=>by
 have hB:B≠k:=fun e=>by subst e;rw [h1] at ho;injection ho with ho;rw [<- ho] at hc;cases hc
 exact ⟨v,(World.putObj_heap_other hB).trans h1,qat h2 fun g hg=>World.putObj_heap_other fun e=>by subst e;exact qjM h2 ho hc hg⟩
theorem qfe.moved {base base' B:Nat} {l:List Tm} {w w':World} (h:qfe base B l w) (hm:qdk base' w w'):qfe base B l w':=by
 obtain ⟨v,h1,h2⟩:=h;refine ⟨v,hm.keep _ _ h1 (by simp),qat h2 fun g hg=> ?_⟩;rcases h2.2 with ⟨rfl,_⟩|⟨g',cap,cur,rfl,_,hh,_⟩
 ·cases hg
 ·simp only [Value.ownBlock,Option.some.injEq] at hg
  subst hg;rw [hm.keep _ _ hh (by simp),hh]
theorem Below.firm {b N:Nat} {w:World} (hb:b<=N):qf9 N (fun W=>Below b w W):=fun W l o o' hl _ _ h=>h.trans ⟨rfl,rfl,rfl,by simp,fun k hk=>World.putObj_heap_other (by omega)⟩
def qjN (w:World) (pre:List Tm) (W:World):Prop:=qfe w.heap.size w.heap.size pre W/\Below w.heap.size w W/\pre.length<=134217728
def quX (f:Value) (w:World) (x:Tm) (a:Act) (W:World):Prop:=∃ Bx,W.heap[Bx]?=some (.cells #[.string ⟨x.1.toArray⟩,.string ⟨x.2.toArray⟩] 69 (0,0))/\a={tmps:=#[.slice none 0 0,f,.pointer (some ⟨w.heap.size,0,none⟩),undef,.slice none 0 0,.pointer (some ⟨Bx,0,none⟩),f,.agg #[.string ⟨x.1.toArray⟩,.string ⟨x.2.toArray⟩],undef,undef,undef,undef,undef],defers:=[]}
def qob (ks:List Tm) (w:World) (e:Ending) (w':World):Prop:=∃ v ts,e= .returned v/\ts.Perm ks/\qbM w.heap.size w' v ts/\Below w.heap.size w w'
theorem quY (Bx B:Nat) (m:List Ent) (w:World) (hm:qa7 w B m) (hc:w.cell? ⟨Bx,0,none⟩=some (.map (some B))) (hl:m.length<=134217727):
  Calls Tryz.prog 220 #[.slice none 0 0,.func (.func 187) #[] #[.pointer (some ⟨Bx,0,none⟩)]] w (qob (m.map (·.1)) w):=by
 obtain ⟨i0,hi0,hz0,hz1,hz2⟩:=info_parts qst;refine (callsIn_wide (n:=6)).1 ?_;obtain ⟨w2,hw2⟩:∃ w2,w2=w.alloc (.cells #[.slice none 0 0] 145):=⟨_,rfl⟩;have hb2:Below w.heap.size w w2:=by rw [hw2];exact (Below.refl _ _).alloc (Nat.le_refl _) _
 have hm2:qa7 w2 B m:=(hb2.block B (Array.getElem?_eq_some_iff.1 hm).1).trans hm;have hc2:=(hb2.cell (p:=⟨Bx,0,none⟩) (World.block_lt_of_cell? w _ hc)).trans hc;have hv2:qfe w.heap.size w.heap.size [] w2:=⟨_,by rw [hw2];exact heap_alloc_new w _,qbM.nil⟩;have hs2:w2.heap.size=w.heap.size+1:=by rw [hw2];simp
 have HT:=qH (quU 5 w.heap.size Bx B m w2 (by omega) hb2.size hm2 hc2);have HW2:=qH hw2;have HB2:=qH hb2;have HV2:=qH hv2;clear hw2 hb2 hm2 hc2 hv2 hm hc;refine callsIn_of_wp_marks Tryz.func220 rfl trivial ?_ rfl;simp only [Tryz.ntmps220,List.size_toArray,List.length_cons,List.length_nil,Nat.reduceAdd,Nat.reduceSub,Array.replicate_succ,Array.replicate_zero,List.push_toArray,List.append_toArray,List.nil_append,List.cons_append];gi_wp2;rw [<- HW2.out];refine qn3 (by omega) (gf:=187) (lb:=#[.pointer (some ⟨Bx,0,none⟩)]) rfl (enters_of Tryz.func187 (by kernel_rfl) rfl)
  HT.out (fun hb=>qdk.of hb (Nat.le_refl _)) (fun {A B k o} hk hmv ho hnc=>hmv.keep _ _ ho (by rcases hnc with ⟨x,rfl⟩|⟨x,rfl⟩<;>simp))
  (fun h k=>h.trans k) (fun W lp x o' hlp ho=>qcM.loop W lp x o' (by omega) ho) (fun _=>rfl)
  (qjN w) (fun s A' B' h hmv=>⟨h.1.moved hmv,h.2.1.trans (hmv.below.mono (by omega)),h.2.2⟩)
  (fun s=>fun W l o o' h1 h2 h3 h=>⟨qfe.firm _ _ _ _ W l o o' h1 h2 h3 h.1,Below.firm (by omega) W l o o' h1 h2 h3 h.2.1,h.2.2⟩)
  (fun s x W l o o' _ _ _ h=>h) ⟨HV2.out,HB2.out,by simp⟩
  (quX (.func (.func 187) #[] #[.pointer (some ⟨Bx,0,none⟩)]) w) (fun x a' W l o o' _ ho hc h=> ?hAx) ?assign ?body ?done
 case hAx=>
  obtain ⟨Bx',h1,h2⟩:=h;exact ⟨Bx',(World.putObj_heap_other fun e=>by subst e;rw [h1] at ho;injection ho with ho;rw [<- ho] at hc;cases hc).trans h1,h2⟩
 case assign=>
  intro lp pre x W K' hi hx hK';unfold qhF tV;have hb:Below W.heap.size W (W.alloc (.cells #[.string ⟨x.1.toArray⟩,.string ⟨x.2.toArray⟩] 69)):=(Below.refl _ _).alloc (Nat.le_refl _) _;have hsz:=hi.2.1.size;have hi2:qjN w pre (W.alloc (.cells #[.string ⟨x.1.toArray⟩,.string ⟨x.2.toArray⟩] 69)):=⟨hi.1.moved (qdk.of hb (Nat.le_refl _)),hi.2.1.trans (hb.mono hsz),hi.2.2⟩;have HI:=qH hi2;have HB:=qH hb;clear hi hi2 hb;gi_wp2;exact hK' _ _ ⟨W.heap.size,heap_alloc_new _ _,rfl⟩ HI.out hx HB.out (qcM.of HB.out hsz)
 case body=>
  rintro lp pre x a' W ⟨Bt,hx,rfl⟩ ⟨⟨v,hv,hown⟩,hbw,hpl⟩ hlt;obtain ⟨X,hX⟩:∃ X:ByteArray,X=⟨x.1.toArray⟩:=⟨_,rfl⟩;obtain ⟨Y,hY⟩:∃ Y:ByteArray,Y=⟨x.2.toArray⟩:=⟨_,rfl⟩;rw [<- hX,<- hY] at hx ⊢;have hfl:flds [x]=[.string X,.string Y]:=by rw [hX,hY];rfl
  obtain ⟨cx0,cx1⟩:W.cell? ⟨Bt,0,none⟩=some (.string X)/\W.cell? ⟨Bt,1,none⟩=some (.string Y):=⟨by simp [World.cell?,hx],by simp [World.cell?,hx]⟩;have cB:=cell_of_one hv;have fB:=free_of_one hv;have hsz:=hbw.size;have hlB:=lt_of_block hv;obtain ⟨k,hk⟩:∃ k,k=pre.length:=⟨_,rfl⟩;have ho1:W.ownsRow w.heap.size 69 2 v k (flds pre):=by rw [hk];exact hown
  have hkl:k<=134217727:=by omega
  have HO:=qH ho1;have HOW:=qH hown;have HV:=qH hv;have HBW:=qH hbw;have HK:=qH hk;have HFL:=qH hfl;have HLT:=qH hlt;clear hv hown hbw ho1 hk hfl hX hY hlt hpl hx
  gi_wp2_with (gi_at_builtin;refine wpListIn_append_own _ rfl (.tmp 8) (.tmp 10) 145 rfl w.heap.size 69 i0 _ 2 32 Tryz.underlying145 hi0 hz0 hz1 hz2 rfl (by omega) _ k (flds pre) rfl (HO.out.alloc _) ⟨W.heap.size,0,none⟩ 1 1 [.string X,.string Y] rfl rfl (qaN W [.string X,.string Y] 69) (by intro u hu;simp at hu;rcases hu with rfl|rfl<;>rfl) (by unfold maxLen;omega) (by omega) (by simp;omega) ?_)
  intro v' w4 hown4 hgrow4 hz4;clear hz4;obtain ⟨g',cap',hv',_,_⟩:=hown4.form (by omega);have hne:=qai HOW.out HV.out (by decide);have hal:Below W.heap.size W (W.alloc (.cells #[.string X,.string Y] 69)):=(Below.refl _ _).alloc (Nat.le_refl _) _;have hv4:w4.heap[w.heap.size]?=some (.cells #[v] 145 (0,0)):=(hgrow4.block _ (by simp;omega) (fun e=>hne e.symm)).trans ((hal.block _ hlB).trans HV.out);have cB4:=cell_of_one hv4;have fB4:=free_of_one hv4;have hne':=qai hown4 hv4 (by decide);have hs4:W.heap.size<=w4.heap.size:=Nat.le_trans hal.size hgrow4.size;have hkeep:∀ (j:Nat),j<W.heap.size->j≠w.heap.size->v.ownBlock≠some j->(w4.setCell ⟨w.heap.size,0,none⟩ v').heap[j]?=W.heap[j]?:=fun j h1 h2 h3=>by
   rw [Below.heap_setCell _ _ _ _ h2,hgrow4.block j (Nat.lt_of_lt_of_le h1 hal.size) (fun e=>h3 e.symm),hal.block j h1]
  have hnc:∀ (j:Nat) (o:Obj),W.heap[j]?=some o->o.isCells=false->(w4.setCell ⟨w.heap.size,0,none⟩ v').heap[j]?=some o:=fun j o h1 h2=>by
   rw [hkeep j (Array.getElem?_eq_some_iff.1 h1).1 (fun e=> ?_) (qjM HOW.out h1 h2),h1];subst e;have :=HV.out;rw [this] at h1;injection h1 with h1
   rw [<- h1] at h2;cases h2
  have hbl:Below w.heap.size W (w4.setCell ⟨w.heap.size,0,none⟩ v'):=⟨hgrow4.os,hgrow4.tape,hgrow4.output,by simpa using hs4,fun j hj=>hkeep j (by omega) (by omega) (fun e=>by have :=(HO.out.lt j e).1;omega)⟩;have hin:qjN w (pre++[x]) (w4.setCell ⟨w.heap.size,0,none⟩ v'):=by
   refine ⟨⟨v',one_setCell hv4,?_⟩,HBW.out.trans hbl,by rw [List.length_append,List.length_singleton,<- HK.out];omega⟩;have :=ownsRow_setCell_other hown4 (show v'.ownBlock≠some (⟨w.heap.size,0,none⟩:Addr).block from hne') v'
   unfold qbM;rw [List.length_append,List.length_singleton,<- HK.out,qhb,HFL.out];exact this
  have HKO:Hid (KeepsOthers W (w4.setCell ⟨w.heap.size,0,none⟩ v')):=qH ⟨by simpa using hs4,hnc⟩;have HKP:Hid (qcM w.heap.size W (w4.setCell ⟨w.heap.size,0,none⟩ v')):=qH ⟨hbl,fun j o h1 h2=>hnc j o h1 (by rcases h2 with ⟨_,_,_,_,rfl⟩|⟨_,_,rfl⟩<;>rfl)⟩
  have HIN:=qH hin;subst hv';clear hkeep hnc hbl hin hne hne' hal hv4 hgrow4 hown4;gi_wp2;exact ⟨HKO.out,HKP.out,HIN.out⟩
 case done=>
  rintro D' ys W hD2 hys ⟨⟨v,hv,hown⟩,hbw,_⟩ hK';have cB:=cell_of_one hv;have HO:=qH hown;have HBW:=qH hbw;have HV:=qH hv;have HYS:=qH hys;clear hys hown hbw hv;gi_wp2;refine ⟨by simp,.inl ⟨_,_,rfl,run_takeDeferred hK',?_⟩⟩;refine ⟨_,results_tmp rfl _ _ _,?_⟩;refine ⟨v,ys,rfl,HYS.out,qat HO.out fun g hg=>World.putObj_heap_other fun e=> ?_,Below.firm (by omega) W D' _ (.deferred none) hD2 hK' rfl HBW.out⟩;subst e;exact qjM HO.out hK' rfl hg
open Go.Shelf Go.Sort
def quZ:Go.Shelf.Ren:=⟨fun |125=>158|128=>201|129=>202|190=>109|258=>157|302=>192|303=>193|304=>194|305=>195|306=>196|307=>197|308=>198|309=>199|310=>200|329=>228|330=>229|333=>227|334=>230|335=>231|336=>188|344=>246|n=>n,fun |0=>0|3=>3|4=>4|5=>5|9=>9|31=>40|46=>260|51=>297|53=>102|131=>142|182=>289|183=>290|218=>317|222=>321|228=>340|229=>312|n=>n,fun |n=>n⟩
theorem qoc:Lays.n190 Tryz.prog quZ:={
 mixed:=by kernel_rfl
 f125:=Tryz.func158.trans (congrArg some (by kernel_rfl))
 f128:=Tryz.func201.trans (congrArg some (by kernel_rfl))
 f129:=Tryz.func202.trans (congrArg some (by kernel_rfl))
 f190:=Tryz.func109.trans (congrArg some (by kernel_rfl))
 f258:=Tryz.func157.trans (congrArg some (by kernel_rfl))
 f302:=Tryz.func192.trans (congrArg some (by kernel_rfl))
 f303:=Tryz.func193.trans (congrArg some (by kernel_rfl))
 f304:=Tryz.func194.trans (congrArg some (by kernel_rfl))
 f305:=Tryz.func195.trans (congrArg some (by kernel_rfl))
 f306:=Tryz.func196.trans (congrArg some (by kernel_rfl))
 f307:=Tryz.func197.trans (congrArg some (by kernel_rfl))
 f308:=Tryz.func198.trans (congrArg some (by kernel_rfl))
 f309:=Tryz.func199.trans (congrArg some (by kernel_rfl))
 f310:=Tryz.func200.trans (congrArg some (by kernel_rfl))
 f329:=Tryz.func228.trans (congrArg some (by kernel_rfl))
 f330:=Tryz.func229.trans (congrArg some (by kernel_rfl))
 f333:=Tryz.func227.trans (congrArg some (by kernel_rfl))
 f334:=Tryz.func230.trans (congrArg some (by kernel_rfl))
 f335:=Tryz.func231.trans (congrArg some (by kernel_rfl))
 f336:=Tryz.func188.trans (congrArg some (by kernel_rfl))
 f344:=Tryz.func246.trans (congrArg some (by kernel_rfl))
 t0:=Tryz.underlying0
 a0:=Tryz.isAgg0
 z0:=Tryz.sizeOf0
 v0:=Tryz.zeroValue0
 t3:=Tryz.underlying3
 a3:=Tryz.isAgg3
 z3:=Tryz.sizeOf3
 v3:=Tryz.zeroValue3
 t4:=Tryz.underlying4
 a4:=Tryz.isAgg4
 z4:=Tryz.sizeOf4
 v4:=Tryz.zeroValue4
 t5:=Tryz.underlying5
 a5:=Tryz.isAgg5
 z5:=Tryz.sizeOf5
 v5:=Tryz.zeroValue5
 t9:=Tryz.underlying9
 a9:=Tryz.isAgg9
 z9:=Tryz.sizeOf9
 v9:=Tryz.zeroValue9
 t31:=Tryz.underlying40
 a31:=Tryz.isAgg40
 z31:=Tryz.sizeOf40
 v31:=Tryz.zeroValue40
 t46:=Tryz.underlying260
 a46:=Tryz.isAgg260
 z46:=Tryz.sizeOf260
 v46:=Tryz.zeroValue260
 t51:=Tryz.underlying297
 a51:=Tryz.isAgg297
 z51:=Tryz.sizeOf297
 v51:=Tryz.zeroValue297
 t53:=Tryz.underlying102
 a53:=Tryz.isAgg102
 z53:=Tryz.sizeOf102
 v53:=Tryz.zeroValue102
 t131:=Tryz.underlying142
 a131:=Tryz.isAgg142
 z131:=Tryz.sizeOf142
 v131:=Tryz.zeroValue142
 t182:=Tryz.underlying289
 a182:=Tryz.isAgg289
 z182:=Tryz.sizeOf289
 v182:=Tryz.zeroValue289
 t183:=Tryz.underlying290
 a183:=Tryz.isAgg290
 z183:=Tryz.sizeOf290
 v183:=Tryz.zeroValue290
 t218:=Tryz.underlying317
 a218:=Tryz.isAgg317
 z218:=Tryz.sizeOf317
 v218:=Tryz.zeroValue317
 t222:=Tryz.underlying321
 a222:=Tryz.isAgg321
 z222:=Tryz.sizeOf321
 v222:=Tryz.zeroValue321
 t228:=Tryz.underlying340
 a228:=Tryz.isAgg340
 z228:=Tryz.sizeOf340
 v228:=Tryz.zeroValue340
 t229:=Tryz.underlying312
 a229:=Tryz.isAgg312
 z229:=Tryz.sizeOf312
 v229:=Tryz.zeroValue312}
theorem qu0 (base:Nat) (v:Value) (xs:List Nm) (w:World) (ho:qaJ base w v xs) (hb:base<=w.heap.size) (hbig:xs.length<=1073741824):
  Calls Tryz.prog 109 #[v] w fun e w'=>e= .returned (.tuple #[])/\qaJ base w' v (xs.mergeSort fun x y=>decide (x<=y))/\Below base w w':=by
 have hl2:(xs.mergeSort fun x y=>decide (x<=y)).length=xs.length:=List.length_mergeSort xs;rcases ho.2 with ⟨rfl,h0⟩|⟨g,cap,cur,rfl,hbase,hh,h1,h2,h3,h4⟩
 ·obtain rfl:xs=[]:=List.eq_nil_of_length_eq_zero h0
  exact (Any.slices_Sort_string_none qoc none 0 w).mono fun e w' ⟨he,hw⟩=>⟨he,by rw [hw];simpa using qaJ.nil,by rw [hw];exact Below.refl _ _⟩
 ·have hH:Holds encStr w g 0 xs.toArray:=holds_of_block hh (by simpa [qae] using h4)
  refine (Any.slices_Sort_string qoc g 0 cap xs w hH (lt_of_block hh) (by omega)).mono fun e w' ⟨he,n,os,hw⟩=>⟨he,?_,?_⟩
  ·rw [hw]
   unfold qaJ;rw [hl2];exact ownsRow_sorted hl2 hbase hh h1 h2 h3
  ·rw [hw]
   exact (Below.refl base w).grown (grownBy_sorted _) hb (fun j hj=>by cases hj;exact hbase)
end Go.Proofs.YtpehcaidjlemiaaGreatDoor
