import Derived.RangeFuncBound
import Derived.Sort.OwnSorted
import Derived.Test.YtpehcaidjlemiaaGreatDoorMMQ03
import Derived.Lib.IndexBytes
import Derived.Shelf.SlSorted.Search
import Derived.Shelf.Sort.Plain
import Derived.Shelf.Slices.In.SortNone
import Derived.Lib.OwnBridge
import Derived.Shelf.Slices.Clone
import Derived.Shelf.Slices.CompactS
import Derived.Shelf.Strings.Prefix
set_option maxHeartbeats 4000000
set_option maxRecDepth 100000
set_option linter.all false
namespace Go.Proofs.YtpehcaidjlemiaaGreatDoor
variable {w w' w0:World} {k n b c j m zz B N:Nat} {A:Option Addr} {v v':Value} {xs:List Value} {t E:TypeId} {l:List (List UInt8)} {g:List (Int × List Int)} {ws:List (Nat × Nat)}
abbrev Po:=Int × List Int
def qdk (ps:List Int):Bool:=qal (-1) ps&&(!ps.isEmpty)&&decide (ps.getLastD 0<2147483648)
def qa5:Int->List Po->Bool
 |_,[]=>true
 |last,p::r=>decide (last<p.1)&&decide (p.1<2147483648)&&qdk p.2&&qa5 p.1 r
def qgD {ps:List Int}:qdk ps=true↔qal (-1) ps=true/\ps≠[]/\ps.getLastD 0<2147483648:=by
 simp [qdk,and_assoc]
def qfj {last:Int} {p:Po} {r:List Po}:qa5 last (p::r)=true↔last<p.1/\p.1<2147483648/\qdk p.2=true/\qa5 p.1 r=true:=by
 simp [qa5,and_assoc]
def qjQ:∀ {ps:List Int} {x:Int},qal x ps=true->∀ y∈ps,x<y/\y<=ps.getLastD 0
 |[],_,_=>by simp
 |n::r,x,b=>by
  rw [qal,xA,gC] at b;have c:=qjQ b.2;intro y hy;rcases wA.1 hy with rfl|hy
  ·refine ⟨b.1,?_⟩
   cases r with
   |nil=>simp
   |cons m a=>
    have :=c m (by simp);have e:(y::m::a).getLastD 0=(m::a).getLastD 0:=by simp [List.getLastD]
    rw [e];omega
  ·have :=c y hy
   refine ⟨by omega,?_⟩;cases r with
   |nil=>cases hy
   |cons m a=>
    have e:(n::m::a).getLastD 0=(m::a).getLastD 0:=by simp [List.getLastD]
    rw [e];exact this.2
def qm6:∀ {l:List Int},l≠[]->l.getLastD 0∈l
 |[],h=>absurd rfl h
 |[a],_=>by simp
 |a::b::r,_=>by
  have e:(a::b::r).getLastD 0=(b::r).getLastD 0:=by simp [List.getLastD]
  rw [e];exact oB _ (qm6 (l:=b::r) (by simp))
def qih {ps:List Int} (b:qdk ps=true):∀ y∈ps,0<=y/\y<2147483648:=by
 have ⟨h1,_,h3⟩:=qgD.1 b;intro y a;have :=qjQ h1 y a;omega
def qae:Int->List Po->List UInt8
 |_,[]=>[]
 |last,p::r=>qam (p.1-(last+1)).toNat++(qbQ p.2++qae p.1 r)
def qaP:Int->List Po->Int
 |last,[]=>last
 |_,p::r=>qaP p.1 r
def qfK:∀ (a b:List Po) (last:Int),qae last (a++b)=qae last a++qae (qaP last a) b
 |[],b,last=>rfl
 |p::r,b,last=>by simp [qae,qaP,qfK r b p.1,iB]
def qjR:∀ (a b:List Po) (last:Int),qaP last (a++b)=qaP (qaP last a) b
 |[],_,_=>rfl
 |p::r,b,_=>by simp [qaP,qjR r b p.1]
def qeX:∀ (a b:List Po) (last:Int),qa5 last (a++b)=(qa5 last a&&qa5 (qaP last a) b)
 |[],b,last=>by simp [qa5,qaP]
 |p::r,b,last=>by simp [qa5,qaP,qeX r b p.1,Bool.and_assoc]
def qii:∀ (l:List Po) (last:Int),qa5 last l=true->last<=qaP last l
 |[],_,_=>Int.le_refl _
 |p::r,last,a=>by
  have :=qfj.1 a;have b:=qii r p.1 this.2.2.2;rw [qaP];omega
def qm7:∀ (l:List Po) (last:Int),qa5 last l=true->last<2147483648->qaP last l<2147483648
 |[],_,_,a=>a
 |p::r,last,a,_=>by
  have :=qfj.1 a;exact qm7 r p.1 this.2.2.2 this.2.1
def qaG:List Po->Nat
 |[]=>0
 |p::r=>p.2.length+qaG r
def qm8 {ps:List Int} (a:qdk ps=true) (c:ps.length<9223372036854775808):(qbQ ps).length<=9+9*ps.length:=by
 have d:=qih a;have h1:=qjI ps (-1) (by omega) (qgD.1 a).1 fun x b=>by have :=d x b;omega
 have h2:=qfG c;rw [qbQ,iA];omega
def qjS:∀ (l:List Po) (last:Int), -1<=last->qa5 last l=true->(∀ p∈l,p.2.length<9223372036854775808)->(qae last l).length<=18*l.length+9*qaG l
 |[],_,_,_,_=>by simp [qae]
 |p::r,last,e,c,a=>by
  have ⟨h1,h2,h3,b⟩:=qfj.1 c;have h:=qjS r p.1 (by omega) b fun q d=>a q (by simp [d])
  have i:=qfG (n:=(p.1-(last+1)).toNat) (by omega);have g:=qm8 h3 (a p (by simp));rw [qae,iA,iA,nA,qaG];omega
def qtH {pre post:List UInt8} {last d:Int} {ps:List Int} {r:List Po} (k: -1<=last) (j:last<d) (l:d<2147483648) (a:qdk ps=true) (i:ps.length<9223372036854775808):
  qbY (pre++(qae last ((d,ps)::r)++post)) (pre.length:Int)=(d-(last+1),((pre.length+(qam (d-(last+1)).toNat).length:Nat):Int),0)/\
  qdj (pre++(qae last ((d,ps)::r)++post)) ((pre.length+(qam (d-(last+1)).toNat).length:Nat):Int)=(ps,((pre.length+((qam (d-(last+1)).toNat).length+(qbQ ps).length):Nat):Int),0):=by
 have c:=qih a;have e:pre++(qae last ((d,ps)::r)++post)=pre++(qam (d-(last+1)).toNat++(qbQ ps++(qae d r++post))):=by simp [qae,iB]
 have b:pre++(qae last ((d,ps)::r)++post)=(pre++qam (d-(last+1)).toNat)++(qbQ ps++(qae d r++post)):=by simp [qae,iB]
 refine ⟨?_,?_⟩
 ·rw [e,qmH (by omega)]
  simp only [lD,and_true];omega
 ·have :=qsZ (g:=ps) (qgD.1 a).1 (fun x h=>by have :=c x h;omega) i (pre++qam (d-(last+1)).toNat) (qae d r++post)
  rw [iA] at this;rw [b,this];simp [uB]
def qaN (n:Nat):Nat:=(n+7)/8
def qcd (l:List Po) (k:Int):List Po:=if k<0 then [] else (l.drop (8*k.toNat)).take 8
def qtI {l:List Po} {k:Int} (a:k<0):qcd l k=[]:=by unfold qcd;rw [eA a]
def qhm {l:List Po} (k:Nat):qcd l (k:Int)=(l.drop (8*k)).take 8:=by unfold qcd;rw [dA (by omega),rD]
def qtJ {l:List Po} (a:qaN l.length<=k):qcd l (k:Int)=[]:=by
 rw [qhm,eE (by unfold qaN at a;omega)];rfl
def qjT {l:List Po} (k:Nat):(qcd l (k:Int)).length=min 8 (l.length-8*k):=by rw [qhm,sA,rB]
def qjU (l:List Po) (k:Nat):l.take (8*(k+1))=l.take (8*k)++qcd l (k:Int):=by
 rw [qhm,Nat.mul_add,Nat.mul_one,List.take_add]
open Go Go.RowKit
def qij {α:Type} (n:Nat) (P:Program) (g:Nat) (lb:Array Value) (h:α->Array Value) (d:World->World->Prop) (i:List α->α->World->Prop) (S:List α->Prop) (w:World):Prop:=
 ∀ (l:Nat) (a:List α->World->Prop) (W:World),wG w W->(∀ s A B,a s A->wG A B->a s B)->
  (∀ pre x b,a pre b->i pre x b->YieldAt Fence.wide (n-1) P l (h x) b fun e c=>e= .returned (.bool true)/\a (pre++[x]) c/\d b c)->
  a [] W->CallsIn Fence.wide n P g (#[.func (.yield l) #[] #[]]++lb) W fun e c=>(∃ v,e= .returned v)/\∃ xs,S xs/\a xs c
def qaE (B:Nat) (p:World->Prop):Prop:=∀ W l (o a:Obj),B<=l->W.heap[l]?=some o->o.isCells=false->p W->p (W.putObj l a)
variable {n:Nat} {P:Program}
def qm9 {α:Type} {g:Operand} {ps:Array Tmp} {assign body:Code} {Q:Exit->Act->World->Prop} {a:Act} (h1:1<=n) {gf:Nat} {lb:Array Value} (az:a.eval g= .func (.func gf) #[] lb)
  (ay:∀ args w,(callFunc gf args).run P w= .ok (.enter gf args) w) {D:α->Array Value} {j:World->World->Prop} {E:List α->α->World->Prop} {S:List α->Prop} (al:qij (n-1) P gf lb D j E S w)
  (X:∀ {A B C:World},j A B->j B C->j A C) (O:∀ (W:World) (l:Nat) (o ag:Obj),w.heap.size<=l->W.heap[l]?=some o->o.isCells=false->j W (W.putObj l ag)) (am:∀ x,(D x).size=ps.size)
  (h:List α->World->Prop) (U:∀ s A B,h s A->wG A B->h s B) (J:∀ s,qaE w.heap.size (h s)) (a0:∀ s x,qaE w.heap.size (E s x)) (an:h [] w) (L:α->Act)
  (ap:∀ (l:Nat) (x:α) (W:World) (R:Act->World->Prop),R (L x) W->assign.wpIn (Fence.wide.inRound l) (n-1-1) P (Exit.then R (fun _ _ _=>False)) {tmps:=(ps.zip (D x)).foldl (fun t (p,v)=>t.setIfInBounds p v) a.tmps,defers:=[]} W)
  (ar:∀ (l:Nat) (pre:List α) (x:α) (W:World),h pre W->E pre x W->body.wpIn (Fence.wide.inRound l) (n-1-1) P (ownPostK j h (fun _ _ _=>False) (pre++[x]) W) (L x) W)
  (ai:∀ (b:Nat) (xs:List α) (W:World),w.heap.size<=b->S xs->h xs W->W.heap[b]?=some (.deferred (some []))->Q .normal {a with defers:={target:= .collected b,args:=#[]}::a.defers} W):
  (Code.rangeFunc g ps assign body).wpIn Fence.wide n P Q a w:=by
 refine wpIn_rangeFunc fun fn ao=> ?_
 have ac:=run_enterLoop_outer (P:=P) (w:=w) fn a.tmps ps assign body;have ⟨b,H⟩:=qE w.heap.size;obtain ⟨i,k⟩:∃ i:LoopState->Loop,i=fun s=>{state:=s,pending:=none,fn:=fn,tmps:=a.tmps,params:=ps,assign:=assign,body:=body,defers:=w.heap.size}:=⟨_,rfl⟩
 have ⟨V,F⟩:=qE ((w.alloc (.deferred (some []))).alloc (.loop (i .ready)));have ah:(Instr.enterLoop fn a.tmps ps assign body Fence.wide.round).run P w= .ok (b+1,[{target:= .collected b,args:=#[]}]) V:=by rw [F,k,H];exact ac
 have T:wG w V:=by rw [F];exact ((bA _ w).alloc (aA _) _).alloc (by simp) _
 have aa:V.heap[b]?=some (.deferred (some [])):=by rw [F,H];exact (pB _ _ _ (by simp)).trans (World.alloc_heap_new w _)
 have ax:V.heap[b+1]?=some (.loop (i .ready)):=by
  have :=World.alloc_heap_new (w.alloc (.deferred (some []))) (.loop (i .ready));rwa [tE,<- F,<- H] at this
 have stay:∀ (s:List α) (A B:World),(h s A/\A.heap[b+1]?=some (.loop (i .ready))/\A.heap[b]?=some (.deferred (some [])))->wG A B->(h s B/\B.heap[b+1]?=some (.loop (i .ready))/\B.heap[b]?=some (.deferred (some []))):=by
  rintro s A B ⟨z,d,q⟩ I;exact ⟨U s A B z I,(I.block _ (gA.1 d).1).trans d,(I.block _ (gA.1 q).1).trans q⟩
 have M:∀ (pre:List α) (x:α) (A:World),(h pre A/\A.heap[b+1]?=some (.loop (i .ready))/\A.heap[b]?=some (.deferred (some [])))->E pre x A->
   YieldAt Fence.wide (n-1-1) P (b+1) (D x) A fun e B=>e= .returned (.bool true)/\(h (pre++[x]) B/\B.heap[b+1]?=some (.loop (i .ready))/\B.heap[b]?=some (.deferred (some [])))/\j A B:=by
  rintro pre x A ⟨z,d,q⟩ au;have aj:b+1<A.heap.size:=(gA.1 d).1;have y:=run_yield (P:=P) (args:=D x) d (by rw [k];exact am x);have ae:=run_beginRound (P:=P) d (by rw [k]);rw [k] at y;refine ⟨fn,_,assign,body,y,roundIn_of_wpIn ao (ap _ x A _ ⟨_,ae,?_⟩)⟩;have ⟨G,m⟩:=qE (A.putObj (b+1) (.loop {i .ready with state:= .busy}))
  rw [<- m];have ad:G.heap[b+1]?=some (.loop {i .ready with state:= .busy}):=by rw [m];exact World.putObj_heap_same aj
  have a1:G.heap[b]?=some (.deferred (some [])):=by rw [m];exact (World.putObj_heap_other (by omega)).trans q
  have af:j A G:=by rw [m];exact O A _ _ _ (by omega) d rfl
  have ab:=ar (b+1) pre x G (by rw [m];exact J pre A _ _ _ (by omega) d rfl z) (by rw [m];exact a0 pre x A _ _ _ (by omega) d rfl au);refine wpIn_mono ab ?_;rintro aq a2 K r;cases aq with
  |normal=>
   obtain ⟨N,av,aw⟩:=r;have l2:=N.same _ _ ad rfl;have Z:=N.same _ _ a1 rfl;have fin:=run_endRound (P:=P) none l2;have ak:b+1<K.heap.size:=(gA.1 l2).1;refine ⟨_,_,fin,rfl,⟨J _ K _ _ _ (by omega) l2 rfl aw,?_,(World.putObj_heap_other (by omega)).trans Z⟩,X (X af av) (O K _ _ _ (by omega) l2 rfl)⟩;rw [World.putObj_heap_same ak,k];rfl
  |ret=>exact r.2.elim
  |exit id=>exact r.2.elim
  |goto t=>exact r.2.elim
  |panic c=>exact r.elim
  |outgrown=>exact r.elim
 refine ⟨b+1,_,V,{target:= .fn (.func gf) lb,args:=#[.func (.yield (b+1)) #[] #[]]},V,gf,#[.func (.yield (b+1)) #[] #[]]++lb,V,ah,?_,?_,?_,fun _=>h1,?_⟩
 ·simp only [resolve,az]
  simp [go_sem]
 ·intro f' _
  trivial
 ·simp [invoke,go_sem,ay]
 ·refine (al (b+1) _ V T stay M ⟨U [] w V an T,ax,aa⟩).mono ?_
  rintro e A ⟨⟨v,rfl⟩,xs,Y,z,d,q⟩;have fin:=run_endLoop (P:=P) d (by rw [k];simp);rw [k] at fin;refine ⟨none,_,fin,ai b xs _ (by omega) Y (J xs A _ _ _ (by omega) d rfl z) ((World.putObj_heap_other (by omega)).trans q)⟩
end Go.Proofs.YtpehcaidjlemiaaGreatDoor
namespace Go.Proofs.YtpehcaidjlemiaaGreatDoor
open Go Go.RowKit
variable {w w' w0:World} {k n b c j m zz B N:Nat} {A:Option Addr} {v v':Value} {xs:List Value} {t E:TypeId} {l:List (List UInt8)} {g:List (Int × List Int)} {ws:List (Nat × Nat)}
def qgE (B:Nat) (p:World->Prop):Prop:=∀ W l (o a:Obj),B<=l->W.heap[l]?=some o->o.isCells=false->p W->p (W.putObj l a)
def qjV {α:Type} (n:Nat) (P:Program) (g:Nat) (lb:Array Value) (i:α->Array Value) (h d:World->World->Prop) (j:List α->α->World->Prop) (S:List α->Prop) (w:World):Prop:=
 ∀ (l:Nat) (a:List α->World->Prop) (W:World),wG w W->(∀ s A B,a s A->h A B->a s B)->
  (∀ pre x b,a pre b->j pre x b->YieldAt Fence.wide (n-1) P l (i x) b fun e c=>e= .returned (.bool true)/\a (pre++[x]) c/\d b c)->
  a [] W->CallsIn Fence.wide n P g (#[.func (.yield l) #[] #[]]++lb) W fun e c=>(∃ v,e= .returned v)/\∃ xs,S xs/\a xs c
variable {n:Nat} {P:Program}
def qna {α:Type} {g:Operand} {ps:Array Tmp} {assign body:Code} {Q:Exit->Act->World->Prop} {a:Act} (h1:1<=n) {gf:Nat} {lb:Array Value} (bd:a.eval g= .func (.func gf) #[] lb)
  (be:∀ args w,(callFunc gf args).run P w= .ok (.enter gf args) w) {K:α->Array Value} {H j:World->World->Prop} {D:List α->α->World->Prop} {S:List α->Prop} (a0:qjV (n-1) P gf lb K H j D S w)
  (a7:∀ {B:World},wG w B->H w B) (ac:∀ {A B:World} {k:Nat} {o:Obj},w.heap.size<=k->H A B->A.heap[k]?=some o->(∃ x,o= .loop x)\/(∃ x,o= .deferred x)->B.heap[k]?=some o)
  (Y:∀ {A B C:World},j A B->j B C->j A C) (ad:∀ (W:World) (l:Nat) (x:Loop) (av:Obj),w.heap.size<=l->W.heap[l]?=some (.loop x)->j W (W.putObj l av)) (a1:∀ x,(K x).size=ps.size)
  (d:List α->World->Prop) (ag:∀ s A B,d s A->H A B->d s B) (U:∀ s,qgE w.heap.size (d s)) (bg:∀ s x,qgE w.heap.size (D s x)) (a2:d [] w) (R:α->Act->World->Prop) (bf:∀ x i,qgE w.heap.size (R x i))
  (a3:∀ (l:Nat) (pre:List α) (x:α) (W:World) (ae:Act->World->Prop),d pre W->D pre x W->(∀ i E,R x i E->d pre E->D pre x E->wG W E->j W E->ae i E)->assign.wpIn (Fence.wide.inRound l) (n-1-1) P (Exit.then ae (fun _ _ _=>False)) {tmps:=(ps.zip (K x)).foldl (fun t (p,v)=>t.setIfInBounds p v) a.tmps,defers:=[]} W)
  (a8:∀ (l:Nat) (pre:List α) (x:α) (i:Act) (W:World),R x i W->d pre W->D pre x W->body.wpIn (Fence.wide.inRound l) (n-1-1) P (ownPostK j d (fun _ _ _=>False) (pre++[x]) W) i W)
  (ay:∀ (b:Nat) (xs:List α) (W:World),w.heap.size<=b->S xs->d xs W->W.heap[b]?=some (.deferred (some []))->Q .normal {a with defers:={target:= .collected b,args:=#[]}::a.defers} W):
  (Code.rangeFunc g ps assign body).wpIn Fence.wide n P Q a w:=by
 refine wpIn_rangeFunc fun fn a4=> ?_
 have al:=run_enterLoop_outer (P:=P) (w:=w) fn a.tmps ps assign body;have ⟨b,N⟩:=qE w.heap.size;obtain ⟨h,z⟩:∃ h:LoopState->Loop,h=fun s=>{state:=s,pending:=none,fn:=fn,tmps:=a.tmps,params:=ps,assign:=assign,body:=body,defers:=w.heap.size}:=⟨_,rfl⟩
 have ⟨V,L⟩:=qE ((w.alloc (.deferred (some []))).alloc (.loop (h .ready)));have ax:(Instr.enterLoop fn a.tmps ps assign body Fence.wide.round).run P w= .ok (b+1,[{target:= .collected b,args:=#[]}]) V:=by rw [L,z,N];exact al
 have af:wG w V:=by rw [L];exact ((bA _ w).alloc (aA _) _).alloc (by simp) _
 have aj:V.heap[b]?=some (.deferred (some [])):=by rw [L,N];exact (pB _ _ _ (by simp)).trans (World.alloc_heap_new w _)
 have bc:V.heap[b+1]?=some (.loop (h .ready)):=by
  have :=World.alloc_heap_new (w.alloc (.deferred (some []))) (.loop (h .ready));rwa [tE,<- L,<- N] at this
 have stay:∀ (s:List α) (A B:World),(d s A/\A.heap[b+1]?=some (.loop (h .ready))/\A.heap[b]?=some (.deferred (some [])))->H A B->(d s B/\B.heap[b+1]?=some (.loop (h .ready))/\B.heap[b]?=some (.deferred (some []))):=by
  rintro s A B ⟨G,m,I⟩ O;exact ⟨ag s A B G O,ac (by omega) O m (.inl ⟨_,rfl⟩),ac (by omega) O I (.inr ⟨_,rfl⟩)⟩
 have Z:∀ (pre:List α) (x:α) (A:World),(d pre A/\A.heap[b+1]?=some (.loop (h .ready))/\A.heap[b]?=some (.deferred (some [])))->D pre x A->
   YieldAt Fence.wide (n-1-1) P (b+1) (K x) A fun e B=>e= .returned (.bool true)/\(d (pre++[x]) B/\B.heap[b+1]?=some (.loop (h .ready))/\B.heap[b]?=some (.deferred (some [])))/\j A B:=by
  rintro pre x A ⟨G,m,I⟩ a9;have ab:b+1<A.heap.size:=(gA.1 m).1;have y:=run_yield (P:=P) (args:=K x) m (by rw [z];exact a1 x);rw [z] at y;refine ⟨fn,_,assign,body,y,roundIn_of_wpIn a4 (a3 _ pre x A _ G a9 fun i q aw ap an T au=> ?_)⟩;have a5:b+1<q.heap.size:=tB ab T.size;have J:q.heap[b+1]?=some (.loop (h .ready)):=(T.block _ ab).trans m;have ar:q.heap[b]?=some (.deferred (some [])):=(T.block _ (by omega)).trans I;have ao:=run_beginRound (P:=P) J (by rw [z]);refine ⟨_,ao,?_⟩;have ⟨M,r⟩:=qE (q.putObj (b+1) (.loop {h .ready with state:= .busy}))
  rw [<- r];have am:M.heap[b+1]?=some (.loop {h .ready with state:= .busy}):=by rw [r];exact World.putObj_heap_same a5
  have bh:M.heap[b]?=some (.deferred (some [])):=by rw [r];exact (World.putObj_heap_other (by omega)).trans ar
  have aq:j A M:=Y au (by rw [r];exact ad q _ _ _ (by omega) J);have ak:=a8 (b+1) pre x i M (by rw [r];exact bf x i q _ _ _ (by omega) J rfl aw) (by rw [r];exact U pre q _ _ _ (by omega) J rfl ap) (by rw [r];exact bg pre x q _ _ _ (by omega) J rfl an);refine wpIn_mono ak ?_;rintro a6 bi X F;cases a6 with
  |normal=>
   obtain ⟨aa,ba,bb⟩:=F;have l2:=aa.same _ _ am rfl;have ai:=aa.same _ _ bh rfl;have fin:=run_endRound (P:=P) none l2;have az:b+1<X.heap.size:=(gA.1 l2).1;refine ⟨_,_,fin,rfl,⟨U _ X _ _ _ (by omega) l2 rfl bb,?_,(World.putObj_heap_other (by omega)).trans ai⟩,Y (Y aq ba) (ad X _ _ _ (by omega) l2)⟩;rw [World.putObj_heap_same az,z];rfl
  |ret=>exact F.2.elim
  |exit id=>exact F.2.elim
  |goto t=>exact F.2.elim
  |panic c=>exact F.elim
  |outgrown=>exact F.elim
 refine ⟨b+1,_,V,{target:= .fn (.func gf) lb,args:=#[.func (.yield (b+1)) #[] #[]]},V,gf,#[.func (.yield (b+1)) #[] #[]]++lb,V,ax,?_,?_,?_,fun _=>h1,?_⟩
 ·simp only [resolve,bd]
  simp [go_sem]
 ·intro f' _
  trivial
 ·simp [invoke,go_sem,be]
 ·refine (a0 (b+1) _ V af stay Z ⟨ag [] w V a2 (a7 af),bc,aj⟩).mono ?_
  rintro e A ⟨⟨v,rfl⟩,xs,ah,G,m,I⟩;have fin:=run_endLoop (P:=P) m (by rw [z];simp);rw [z] at fin;refine ⟨none,_,fin,ay b xs _ (by omega) ah (U xs A _ _ _ (by omega) m rfl G) ((World.putObj_heap_other (by omega)).trans I)⟩
end Go.Proofs.YtpehcaidjlemiaaGreatDoor
namespace Go.Proofs.YtpehcaidjlemiaaGreatDoor
open Go Go.RowKit Go.Proofs.Tryz
variable {w w' w0:World} {k n b c j m zz B N:Nat} {A:Option Addr} {v v':Value} {xs:List Value} {t E:TypeId} {l:List (List UInt8)} {g:List (Int × List Int)} {ws:List (Nat × Nat)}
def qnb (i:Nat) (w:World) (h:i<9223372036854775808):
  yG 75 #[.int .i64 i] w fun e w'=>e= .returned (.int .u64 ((2^(i%64):Nat):Int))/\w=w':=by
 have d:i%64<64:=Nat.mod_lt _ (by decide);have c:=Plain.bit_fits d;have ⟨p,a⟩:=qE (2^(i%64));rw [<- a] at c ⊢;have b:=qH a;clear a
 go_enter func75,ntmps75
 go_wp2;go_ret;refine ⟨qf8 ?_,rfl⟩;rw [b.o,jG];rw [b.o] at c;generalize g:2^(i%64)=q at*;have :((2:Int)^(i%64))=(q:Int):=by rw [<- g];simp
 rw [this];omega
def qCO (i:Nat) (w:World) (c:i<9223372036854775808):
  yG 48 #[.int .i64 i] w fun e w'=>e= .returned (.int .u64 ((2^(i%64)-1:Nat):Int))/\w=w':=by
 have b:i%64<64:=Nat.mod_lt _ (by decide);have j:=Plain.bit_fits b;have a:=qnb i w c;have h:0<2^(i%64):=Nat.two_pow_pos _;generalize 2^(i%64)=p at*;have d:=qH a;clear a;have g:((p-1:Nat):Int)=(p:Int)-1:=by omega
 rw [g]
 go_enter func48,ntmps48
 go_wp2_with (go_at_call 75;refine d.o.mono ?_;rintro e w' ⟨rfl,rfl⟩)
 go_ret;refine ⟨qf8 ?_,rfl⟩
 first|rfl|(rw [jG];omega)|omega
def qtK (x:Int) (w:World):
  yG 166 #[.int .i64 x] w fun e w'=>e= .returned (.bool false)/\w=w':=by
 go_enter func166,ntmps166
 go_wp2;go_ret;exact ⟨qel (by simp),rfl⟩
def qfk (x y:Int):Int:=if x<y then-1 else if y<x then 1 else 0
def qtL (x y:Int) (w:World):
  yG 123 #[.int .i64 x,.int .i64 y] w fun e w'=>e= .returned (.int .i64 (qfk x y))/\w=w':=by
 go_enter func123,ntmps123
 go_wp2_with (go_at_call 166;refine (qtK _ _).mono ?_;rintro e w' ⟨rfl,rfl⟩)
 all_goals
  go_ret;refine ⟨qf8 ?_,rfl⟩;unfold qfk
  first
   |(rw [eA (by omega)])
   |(rw [dA (by omega),eA (by omega)])
   |(rw [dA (by omega),dA (by omega)])
def qnc (a:Int) (x:Int) (at_:Int) (w:World):
  yG 122 #[.agg #[.int .i64 a,.int .u64 x],.int .i64 at_] w fun e w'=>e= .returned (.int .i64 (qfk a at_))/\wG w w':=by
 go_enter func122,ntmps122
 go_wp2_with (go_at_call 123;refine (qtL _ _ _).mono ?_;rintro e w' ⟨rfl,rfl⟩)
 go_ret;exact ⟨rfl,(bA _ _).alloc (aA _) _⟩
def qtM (x:Nat) (a:x<9223372036854775808):bits .and .i64 (x:Int) 127=((x%128:Nat):Int):=by
 have h1:(BitVec.ofInt 64 (x:Int)).toNat=x:=by
  rw [BitVec.ofInt_natCast,BitVec.toNat_ofNat];exact Nat.mod_eq_of_lt (by omega)
 have h2:(BitVec.ofInt 64 127).toNat=127:=by decide
 show IntKind.i64.wrap ((BitVec.ofInt 64 (x:Int) &&& BitVec.ofInt 64 127).toNat:Int)=_;rw [BitVec.toNat_and,h1,h2,show (127:Nat)=2^7-1 from rfl,Nat.and_two_pow_sub_one_eq_mod,IntKind.wrap_i64]
 omega
def qtN (x:Nat) (w:World) (q:x<18446744073709551616):
  yG 207 #[.int .u64 x] w fun e w'=>e= .returned (.int .i64 (Plain.pop x:Nat))/\w=w':=by
 have ⟨a,b,c,g,d,j,h1,v,h2,E,p,h3,M,z,I,A,D,B,t,i⟩:=Plain.pop_hack x q;have ⟨h,m⟩:=qE (b/16+b);rw [<- m] at p h3;have l:=sG (x/2) 6148914691236517205 (by omega) (by decide);have r:=sG x 6148914691236517205 q (by decide);have k:=sG (a/4) 3689348814741910323 (by omega) (by decide);have s:=sG a 3689348814741910323 v (by decide);have n:=sG h 1085102592571150095 p (by decide);have J:IntKind.u64.wrap (bits .and .u64 ((x:Int)/2) 6148914691236517205+bits .and .u64 (x:Int) 6148914691236517205)=(a:Int):=by
  rw [jG,show ((x:Int)/2)=((x/2:Nat):Int) by omega];rw [show (6148914691236517205:Int)=((6148914691236517205:Nat):Int) from rfl,l,r]
  omega
 have H:IntKind.u64.wrap (bits .and .u64 ((a:Int)/4) 3689348814741910323+bits .and .u64 (a:Int) 3689348814741910323)=(b:Int):=by
  rw [jG,show ((a:Int)/4)=((a/4:Nat):Int) by omega];rw [show (3689348814741910323:Int)=((3689348814741910323:Nat):Int) from rfl,k,s]
  omega
 have L:IntKind.u64.wrap ((b:Int)/16+(b:Int))=(h:Int):=by
  rw [jG];omega
 have C:bits .and .u64 (h:Int) 1085102592571150095=(c:Int):=by
  rw [show (1085102592571150095:Int)=((1085102592571150095:Nat):Int) from rfl,n,h3]
 have F:IntKind.u64.wrap ((c:Int)+(c:Int)/256)=(g:Int):=by
  rw [jG];omega
 have K:IntKind.u64.wrap ((g:Int)+(g:Int)/65536)=(d:Int):=by
  rw [jG];omega
 have G:IntKind.u64.wrap ((d:Int)+(d:Int)/4294967296)=(j:Int):=by
  rw [jG];omega
 have y:=qH i;clear l r k s n h1 h2 h3 z A B i m
 go_enter func207,ntmps207
 go_wp2;go_ret;refine ⟨qf8 ?_,rfl⟩;have h2:=qtM j t;rw [<- y.o,<- h2]
def qtO (g:Nat) (a:List Nat) (w:World):Prop:=∀ j,j<a.length->w.cell? ⟨g,j,none⟩=some (.int .u8 (a.getD j 0))
def Tab (w:World):Prop:=qtO 0 Lib.deBruijn64tab w
def Tab.below (b:Tab w) (d:Below B w w') (c:0<B):Tab w':=fun j a=>(d.cell (p:=⟨0,j,none⟩) c).trans (b j a)
def Tab.lt (a:Tab w):0<w.heap.size:=vC w _ (a 0 (by decide))
def qtP (x k a:Nat) (w:World) (c:((x:Int)==0)=false)
  (key:IntKind.u64.wrap (bits BinOp.and IntKind.u64 (x:Int) (IntKind.u64.wrap (-(x:Int)))*285870213051353865)/288230376151711744=(a:Int))
  (b:a<64) (g:k<64) (d:w.cell? ⟨0,a,none⟩=some (.int .u8 k)):
  yG 209 #[.int .u64 x] w fun e w'=>e= .returned (.int .i64 k)/\w=w':=by
 go_enter func209,ntmps209
 go_wp2_with (simp only [key])
 go_ret;exact ⟨rfl,rfl⟩
def qtQ (x a:Nat) (b:x<18446744073709551616) (e:x≠0) (c:x &&& (18446744073709551616-x)=a):
  IntKind.u64.wrap (bits BinOp.and IntKind.u64 (x:Int) (IntKind.u64.wrap (-(x:Int)))*285870213051353865)/288230376151711744=((a*285870213051353865%18446744073709551616/288230376151711744:Nat):Int):=by
 have d:IntKind.u64.wrap (-(x:Int))=((18446744073709551616-x:Nat):Int):=by rw [jG];omega
 rw [d,sG x _ b (by omega),c,jG];omega
def qtR (x:Nat) (d:x<18446744073709551616) (b:x≠0) (w:World) (h:Tab w):
  yG 209 #[.int .u64 x] w fun e w'=>e= .returned (.int .i64 (Lib.ctz 64 x:Nat))/\w=w':=by
 have ⟨i,g⟩:=Lib.lowest_bit 64 x b d;have ⟨a,j⟩:=Lib.deBruijn64_at _ g;have c:=h _ a;rw [j] at c;exact qtP x _ _ w (by simp;omega) (qtQ x _ d b i) a g c
end Go.Proofs.YtpehcaidjlemiaaGreatDoor
namespace Go.Proofs.YtpehcaidjlemiaaGreatDoor.Plain
variable {w w' w0:World} {k n b c j m zz B N:Nat} {A:Option Addr} {v v':Value} {xs:List Value} {t E:TypeId} {l:List (List UInt8)} {g:List (Int × List Int)} {ws:List (Nat × Nat)}
def qdX (ws:List Wd):Nat:=(ws.map fun p=>pop p.2).sum
def qtS (p:Wd):(qcu p).length=pop p.2:=by simp [qcu,pop]
def qnd:∀ ws:List Wd,qdX ws=(qbc ws).length
 |[]=>rfl
 |p::ws=>by
  have a:=qnd ws;unfold qdX qbc at a ⊢;rw [xB,List.sum_cons,a,List.flatMap_cons,iA,qtS]
def countW_take (a:k<ws.length):qdX (ws.take (k+1))=qdX (ws.take k)+pop (ws[k]'a).2:=by
 unfold qdX;rw [aB a,jC,List.sum_append];simp
def countW_le:∀ ws:List Wd,qdX ws<=64*ws.length
 |[]=>by simp [qdX]
 |p::ws=>by
  have a:=countW_le ws;have h1:=pop_le p.2;unfold qdX at a ⊢;rw [xB,List.sum_cons,nA];omega
def elems_append (a b:List Wd):qbc (a++b)=qbc a++qbc b:=by simp [qbc]
def ctz_bit {y:Nat} (a:y<18446744073709551616) (c:y≠0):∃ m,y=2^Lib.ctz 64 y*(2*m+1)/\Lib.ctz 64 y<64:=by
 have ⟨m,b,d⟩:=Lib.ctzFrom_spec 64 y (by omega) a;have e:Lib.ctz 64 y=Lib.ctzFrom 64 y:=by simp [Lib.ctz,c]
 rw [e];exact ⟨m,b,d⟩
def qne (k m j:Nat):(2^k*(2*m+1)).testBit j=(decide (k<=j)&&(j==k || m.testBit (j-k-1))):=by
 rw [Nat.testBit_two_pow_mul];by_cases a:k<=j
 ·simp only [a,decide_true,sD]
  obtain ⟨d,rfl⟩:∃ d,j=k+d:=⟨j-k,by omega⟩;cases d with
  |zero=>simp
  |succ d=>
   rw [show k+(d+1)-k=d+1 by omega,Nat.testBit_succ,show (2*m+1)/2=m by omega];simp
 ·simp [a]
def qtT (k m j:Nat):(2^k*(2*m)+(2^k-1)).testBit j=(decide (j<k) || (decide (k<j)&&m.testBit (j-k-1))):=by
 have b:2^k-1<2^k:=by have :=Nat.two_pow_pos k;omega
 rw [Nat.testBit_two_pow_mul_add _ b];by_cases a:j<k
 ·simp [a,Nat.testBit_two_pow_sub_one]
 ·simp only [a,if_false,decide_false,Bool.false_or]
  obtain ⟨d,rfl⟩:∃ d,j=k+d:=⟨j-k,by omega⟩;cases d with
  |zero=>simp
  |succ d=>
   rw [show k+(d+1)-k=d+1 by omega,Nat.testBit_succ,show (2*m)/2=m by omega];simp
def qtU {y:Nat} (d:y<18446744073709551616) (c:y≠0) (j:Nat):
  (y &&& (y-1)).testBit j=(y.testBit j&& !(j==Lib.ctz 64 y))/\(y.testBit j=true->Lib.ctz 64 y<=j)/\y.testBit (Lib.ctz 64 y)=true:=by
 have ⟨m,a,g⟩:=ctz_bit d c;generalize Lib.ctz 64 y=k at*;have h:=Nat.two_pow_pos k;have e:y-1=2^k*(2*m)+(2^k-1):=by
  rw [a,Nat.mul_add,Nat.mul_one];omega
 rw [Nat.testBit_and,e,qtT];rw [a,qne,qne];refine ⟨?_,fun b=> ?_,by simp⟩
 ·by_cases h1:j<k
  ·simp [show ¬ k<=j by omega]
  ·by_cases h2:j=k
   ·subst h2;simp
   ·have h3:(j==k)=false:=by simpa using h2
    simp [show k<=j by omega,show k<j by omega,h3,show ¬ j<k by omega]
 ·simp only [xA,iC] at b
  exact b.1
def qtV {y:Nat} (d:y<18446744073709551616) (c:y≠0):qfe y=Lib.ctz 64 y::qfe (y &&& (y-1)):=by
 have a:=qtU d c;have e:=(ctz_bit d c).choose_spec.2;refine qjs _ _ (qjt y) ?_ fun j=> ?_
 ·rw [kC]
  refine ⟨fun j b=> ?_,qjt _⟩;rw [qg8,(a j).1] at b;simp only [xA,Bool.not_eq_true',nD,ne_eq] at b;have :=(a j).2.1 b.2.1;omega
 ·rw [wA,qg8,qg8,(a j).1]
  simp only [xA,Bool.not_eq_true',nD,ne_eq];constructor
  ·rintro ⟨h1,h2⟩
   by_cases h3:j=Lib.ctz 64 y
   ·exact .inl h3
   ·exact .inr ⟨h1,h2,h3⟩
  ·rintro (rfl|⟨h1,h2,_⟩)
   ·exact ⟨e,(a 0).2.2⟩
   ·exact ⟨h1,h2⟩
def elemW_step {a y:Nat} (c:y<18446744073709551616) (b:y≠0):qcu (a,y)=(a*64+Lib.ctz 64 y)::qcu (a,y &&& (y-1)):=by
 unfold qcu;rw [qtV c b];rfl
def elemW_zero (a:Nat):qcu (a,0)=[]:=by
 unfold qcu qfe;simp
def low_lt {y:Nat} (a:y≠0):y &&& (y-1)<y:=by
 have :y &&& (y-1)<=y-1:=Nat.and_le_right;omega
def qtW (p:Wd) (i:Nat):Nat:=if p.1=i/64 then qsi p.2 (2^(i%64)-1) else p.2
def qCP (ws:List Wd) (i:Nat):Int:=match (qbc ws).find? (fun k=>decide (i<=k)) with|some k=>(k:Int)|none=> -1
def Rep.count {r:List Bool} (a:Rep r ws):qdX ws=(ones r).length:=by rw [qnd,elems_eq a]
def ones_length (r:List Bool):(ones r).length<=r.length:=by
 unfold ones;exact lA (wD _ _) (by simp)
end Go.Proofs.YtpehcaidjlemiaaGreatDoor.Plain
namespace Go.Proofs.YtpehcaidjlemiaaGreatDoor
open Go Go.RowKit Go.Sort
variable {w w' w0:World} {k n b c j m zz B N:Nat} {A:Option Addr} {v v':Value} {xs:List Value} {t E:TypeId} {l:List (List UInt8)} {g:List (Int × List Int)} {ws:List (Nat × Nat)}
def qaB (zz:Nat) (w:World) (v:Value) (l:List Nm):Prop:=w.ownsRow zz 9 1 v l.length (qad l)
def qaB.below (a:qaB zz w v l) (b:wG w w'):qaB zz w' v l:=qaf a b
def qaB.low (a:qaB zz w v l) (c:b<=zz):qaB b w v l:=qbk a c
def qaB.row (a:qaB zz w v l):∃ A c,v= .slice A l.length c/\l.length<=c/\Row w w.heap.size A (qad l):=qaK a
def qaB.nil:qaB zz w (.slice none 0 0) []:=vA _ _ _ _
def qeE (l:List Nm) (w:World) (e:Ending) (w':World):Prop:=∃ v,e= .returned v/\qaB w.heap.size w' v l/\wG w w'
def qhn {x y:Nm}:Op.bytesLess x y=decide (x<y):=bytesLess_eq x y
def qdr {xs:List Nm} (c:Row w B A (qad xs)) {k:Nat} (d:k<xs.length):
  ∃ b a,A=some ⟨b,a,none⟩/\b<B/\w.cell? ⟨b,a+k,none⟩=some (.string ⟨xs[k].toArray⟩):=qjL c d
def qa8 (x:Nm):∃ t:ByteArray,t=⟨x.toArray⟩/\t.data.toList=x:=⟨_,rfl,rfl⟩
def qdl (x:Nm):(⟨x.toArray⟩:ByteArray).size=x.length:=iD
def qjW {s t:ByteArray} (a:s.data.toList<t.data.toList):Op.bytesLess s.toList t.toList=true:=by rw [Lib.toList_data,Lib.toList_data,qhn];exact yA a
def qjX {s t:ByteArray} (a:¬ s.data.toList<t.data.toList):Op.bytesLess s.toList t.toList=false:=by rw [Lib.toList_data,Lib.toList_data,qhn];exact uA a
def qeY {s t:ByteArray} (a:s.data.toList=t.data.toList):(s.toList==t.toList)=true:=by rw [Lib.toList_data,Lib.toList_data,a];exact beq_self_eq_true _
def qfl {s t:ByteArray} (a:s.data.toList≠t.data.toList):(s.toList==t.toList)=false:=by rw [Lib.toList_data,Lib.toList_data];simpa using a
def qjY (a b:List Nm):qad (a++b)=qad a++qad b:=by simp [qad]
def Row.dropped (a:Row w B (some ⟨b,n,none⟩) (qad l)) (k:Nat):Row w B (some ⟨b,n+k,none⟩) (qad (l.drop k)):=by
 rcases a with a|⟨i,h,e,d,c⟩
 ·refine .inl ?_
  have :l=[]:=by simpa [qad] using a
  simp [this,qad]
 ·injection e with e
  injection e with e1 e2
  subst e1 e2;refine .inr ⟨b,n+k,rfl,d,fun j u g=> ?_⟩;have :=c (k+j) u (by rw [<- g];simp [qad]);rwa [<- uB] at this
def qtX (l:List Nm):∀ u∈qad l,u.oneCell'=true:=by
 intro u a;obtain ⟨x,_,rfl⟩:=tA.1 a;rfl
def Row.later (b:Row w w.heap.size A xs) (a:wG w w'):Row w' w'.heap.size A xs:=(b.below a).more a.size
open Go.Proofs.Tryz
def qjZ (l:List UInt8) (n:Nat) (a:Int) (v i:Value):Prop:=∃ (k:Nat) (V:Int),k+1<=n/\i= .int .i64 ((k:Int)+1)/\v= .int .i64 V/\Small k V/\qI (V=qdU l a k)/\qI (qgf l k)
theorem qj0 {s:ByteArray} {j x:Nat} (h:j<s.size) (hx:(s[j]'h).toNat=x) (hn:¬ (128<=x/\x<192)):¬ qca s.data.toList j:=by
 rintro ⟨_,h2⟩;rw [qcS h,hx] at h2;omega
theorem qj1 {s:ByteArray} {j x:Nat} (h:j<s.size) (hx:(s[j]'h).toNat=x) (hn:128<=x/\x<192):qca s.data.toList j:=by
 refine ⟨by rw [qhh];exact h,?_⟩;rw [qcS h,hx];omega
def qj2 {s:ByteArray} (a:s.size<=j):¬ qca s.data.toList j:=by
 rintro ⟨h1,_⟩;rw [qhh] at h1;omega
def qtY (s:ByteArray) (w:World) (a:0<s.size) (h:s.size<=1073741824) (b0:Nat) (b:(s[0]'a).toNat=b0) (g:b0<128):
  yG 218 #[.string s] w fun e w'=>qfi s.data.toList e/\w=w':=by
 have c:dec s.data.toList=(b0,1):=by rw [qti _ (by rw [qcS a,b];exact g),qcS a,b]
 have d:=qH c;clear c
 go_enter func218,ntmps218
 go_wp2;go_ret2;exact ⟨qcR d.o rfl rfl,rfl⟩
def qnf (s:ByteArray) (w:World) (a:0<s.size) (j:s.size<=1073741824) (b0:Nat) (b:(s[0]'a).toNat=b0) (g:(128<=b0/\b0<194)\/(245<=b0/\b0<256)):
  yG 218 #[.string s] w fun e w'=>qfi s.data.toList e/\w=w':=by
 have c:dec s.data.toList=(65533,1):=qtj _ (by rw [qcS a,b];omega) (by rw [qcS a,b];omega);have d:=qH c;clear c;rcases g with ⟨i,h⟩|⟨i,h⟩
 all_goals
  go_enter func218,ntmps218
  go_wp2;go_ret2;exact ⟨qcR d.o rfl rfl,rfl⟩
def qng {s:ByteArray} (a:0<s.size) {b0:Nat} (b:(s[0]'a).toNat=b0) (g:194<=b0) (h:b0<224) {j:Nat} (e:1<=j) (i:j<2) (c:¬ qca s.data.toList j):dec s.data.toList=(65533,1):=by
 apply qtk _ (by rw [qcS a,b];omega);intro d;obtain rfl:j=1:=by omega
 exact c d
def qtZ (s:ByteArray) (w:World) (d:0<s.size) (O:s.size<=1073741824) (b0:Nat) (g:(s[0]'d).toNat=b0) (p:194<=b0) (r:b0<224):
  yG 218 #[.string s] w fun e w'=>qfi s.data.toList e/\w=w':=by
 have Q:decide ((b0:Int)<128)=false:=by simp;omega
 have H:decide ((b0:Int)<224)=true:=by simp;omega
 by_cases R:2<=s.size
 ·have I:decide ((s.size:Int)<2)=false:=by simp;omega
  go_enter func218,ntmps218
  go_wp2
  go_loop [2,3,7,8] (fun a b v i=>a= .int .i64 0/\b= .int .i64 0/\qjZ s.data.toList 2 ((b0:Int)-192) v i) (fun _ _ _ i=>2-(intOf i).toNat)
  case atStart=>exact ⟨rfl,rfl,0,_,by omega,rfl,rfl,⟨by omega,.inl ⟨rfl,by omega⟩⟩,qH rfl,qH (qjM _)⟩
  case round=>
   obtain ⟨rfl,rfl,k,V,M,rfl,rfl,⟨K,t⟩,q,z⟩:=hrel;by_cases G:k+1<2
   ·have c:k+1<s.size:=by omega
    obtain ⟨x,m⟩:∃ x:Nat,(s[k+1]'c).toNat=x:=⟨_,rfl⟩;have J:x<256:=by rw [<- m];exact (s[k+1]'c).toNat_lt
    have N:V<=131071:=by omega
    by_cases h:128<=x/\x<192
    ·have B:=qH (qjN z.o (qj1 c m h))
     have y:64*V+(x:Int)-128=qdU s.data.toList ((b0:Int)-192) (k+1):=by
      rw [qdU,<- q.o,qcS c,m]
     have E:=qH y;have D:qI (Small (k+1) (64*V+(x:Int)-128)):=⟨by omega,by omega⟩;clear y;obtain ⟨C,A⟩:=h;clear t;go_wp2
     go_round
     case rel=>exact ⟨rfl,rfl,k+1,_,by omega,by go_num,rfl,D.o,E,B⟩
     case measure=>simp [intOf];omega
    ·have n:=qH (qng d g p r (j:=k+1) (by omega) G (qj0 c m h))
     clear t;by_cases C:128<=x
     ·have A:192<=x:=by omega
      clear h;go_wp2;go_ret2;exact ⟨qcR n.o rfl rfl,rfl⟩
     ·clear h
      go_wp2;go_ret2;exact ⟨qcR n.o rfl rfl,rfl⟩
   ·skip
    have c:k=1:=by omega
    subst c;have l:=qtq (V:=V) (by rw [qcS d,g];omega) (by rw [qcS d,g];omega) z.o (by rw [qcS d,g];exact q.o);have L:=l.2.1;have P:=l.2.2;have F:=qH l.1;clear l;go_wp2;go_ret2;exact ⟨qcR F.o (by omega) rfl,rfl⟩
 ·have n:=qH (qng d g p r (j:=1) (by omega) (by omega) (qj2 (by omega)))
  go_enter func218,ntmps218
  go_wp2;go_ret2;exact ⟨qcR n.o rfl rfl,rfl⟩
def qnh {s:ByteArray} (a:0<s.size) {b0:Nat} (d:(s[0]'a).toNat=b0) (g:224<=b0) (h:b0<240) {j:Nat} (e:1<=j) (i:j<3) (b:¬ qca s.data.toList j):dec s.data.toList=(65533,1):=by
 apply qtm _ (by rw [qcS a,d];omega);intro c;obtain rfl|rfl:j=1\/j=2:=by omega
 ·exact b c.1
 ·exact b c.2
def qt0 (s:ByteArray) (w:World) (l:0<s.size) (S:s.size<=1073741824) (b0:Nat) (m:(s[0]'l).toNat=b0) (q:224<=b0) (t:b0<240):
  yG 218 #[.string s] w fun e w'=>qfi s.data.toList e/\w=w':=by
 have U:decide ((b0:Int)<128)=false:=by simp;omega
 have H:decide ((b0:Int)<224)=false:=by simp;omega
 have I:decide ((b0:Int)<240)=true:=by simp;omega
 by_cases W:3<=s.size
 ·have J:decide ((s.size:Int)<3)=false:=by simp;omega
  go_enter func218,ntmps218
  go_wp2
  go_loop [2,3,7,8] (fun a b v i=>a= .int .i64 0/\b= .int .i64 0/\qjZ s.data.toList 3 ((b0:Int)-224) v i) (fun _ _ _ i=>3-(intOf i).toNat)
  case atStart=>exact ⟨rfl,rfl,0,_,by omega,rfl,rfl,⟨by omega,.inl ⟨rfl,by omega⟩⟩,qH rfl,qH (qjM _)⟩
  case round=>
   obtain ⟨rfl,rfl,k,V,O,rfl,rfl,⟨M,y⟩,r,A⟩:=hrel;by_cases G:k+1<3
   ·have d:k+1<s.size:=by omega
    obtain ⟨x,n⟩:∃ x:Nat,(s[k+1]'d).toNat=x:=⟨_,rfl⟩;have K:x<256:=by rw [<- n];exact (s[k+1]'d).toNat_lt
    have R:V<=131071:=by omega
    by_cases h:128<=x/\x<192
    ·have C:=qH (qjN A.o (qj1 d n h))
     have z:64*V+(x:Int)-128=qdU s.data.toList ((b0:Int)-224) (k+1):=by
      rw [qdU,<- r.o,qcS d,n]
     have F:=qH z;have E:qI (Small (k+1) (64*V+(x:Int)-128)):=⟨by omega,by omega⟩;clear z;obtain ⟨D,B⟩:=h;clear y;go_wp2
     go_round
     case rel=>exact ⟨rfl,rfl,k+1,_,by omega,by go_num,rfl,E.o,F,C⟩
     case measure=>simp [intOf];omega
    ·have p:=qH (qnh l m q t (j:=k+1) (by omega) G (qj0 d n h))
     clear y;by_cases D:128<=x
     ·have B:192<=x:=by omega
      clear h;go_wp2;go_ret2;exact ⟨qcR p.o rfl rfl,rfl⟩
     ·clear h
      go_wp2;go_ret2;exact ⟨qcR p.o rfl rfl,rfl⟩
   ·skip
    have d:k=2:=by omega
    subst d;have ⟨N,T,c⟩:=qtr (V:=V) (by rw [qcS l,m];omega) A.o (by rw [qcS l,m];exact r.o);by_cases L:2048<=V
    ·by_cases P:55296<=V
     ·by_cases Q:V<=57343
      ·rw [dA (by omega)] at c
       have g:=qH c;clear c;go_wp2;go_ret2;exact ⟨qcR g.o rfl rfl,rfl⟩
      ·rw [eA (by omega)] at c
       have g:=qH c;clear c;go_wp2;go_ret2;exact ⟨qcR g.o (by omega) rfl,rfl⟩
     ·rw [eA (by omega)] at c
      have g:=qH c;clear c;go_wp2;go_ret2;exact ⟨qcR g.o (by omega) rfl,rfl⟩
    ·rw [dA (by omega)] at c
     have g:=qH c;clear c;go_wp2;go_ret2;exact ⟨qcR g.o rfl rfl,rfl⟩
 ·have p:=qH (qnh l m q t (j:=2) (by omega) (by omega) (qj2 (by omega)))
  go_enter func218,ntmps218
  go_wp2;go_ret2;exact ⟨qcR p.o rfl rfl,rfl⟩
def qni {s:ByteArray} (c:0<s.size) {b0:Nat} (d:(s[0]'c).toNat=b0) (g:240<=b0) (h:b0<245) {j:Nat} (e:1<=j) (i:j<4) (a:¬ qca s.data.toList j):dec s.data.toList=(65533,1):=by
 apply qto _ (by rw [qcS c,d];omega);intro b;obtain rfl|rfl|rfl:j=1\/j=2\/j=3:=by omega
 ·exact a b.1
 ·exact a b.2.1
 ·exact a b.2.2
def qt1 (s:ByteArray) (w:World) (h:0<s.size) (S:s.size<=1073741824) (b0:Nat) (m:(s[0]'h).toNat=b0) (q:240<=b0) (t:b0<245):
  yG 218 #[.string s] w fun e w'=>qfi s.data.toList e/\w=w':=by
 have U:decide ((b0:Int)<128)=false:=by simp;omega
 have H:decide ((b0:Int)<224)=false:=by simp;omega
 have I:decide ((b0:Int)<240)=false:=by simp;omega
 have K:decide ((b0:Int)<245)=true:=by simp;omega
 by_cases W:4<=s.size
 ·have J:decide ((s.size:Int)<4)=false:=by simp;omega
  go_enter func218,ntmps218
  go_wp2
  go_loop [2,3,7,8] (fun a b v i=>a= .int .i64 0/\b= .int .i64 0/\qjZ s.data.toList 4 ((b0:Int)-240) v i) (fun _ _ _ i=>4-(intOf i).toNat)
  case atStart=>exact ⟨rfl,rfl,0,_,by omega,rfl,rfl,⟨by omega,.inl ⟨rfl,by omega⟩⟩,qH rfl,qH (qjM _)⟩
  case round=>
   obtain ⟨rfl,rfl,k,V,P,rfl,rfl,⟨N,y⟩,r,A⟩:=hrel;by_cases G:k+1<4
   ·have d:k+1<s.size:=by omega
    obtain ⟨x,n⟩:∃ x:Nat,(s[k+1]'d).toNat=x:=⟨_,rfl⟩;have L:x<256:=by rw [<- n];exact (s[k+1]'d).toNat_lt
    have R:V<=131071:=by omega
    by_cases g:128<=x/\x<192
    ·have C:=qH (qjN A.o (qj1 d n g))
     have z:64*V+(x:Int)-128=qdU s.data.toList ((b0:Int)-240) (k+1):=by
      rw [qdU,<- r.o,qcS d,n]
     have F:=qH z;have E:qI (Small (k+1) (64*V+(x:Int)-128)):=⟨by omega,by omega⟩;clear z;obtain ⟨D,B⟩:=g;clear y;go_wp2
     go_round
     case rel=>exact ⟨rfl,rfl,k+1,_,by omega,by go_num,rfl,E.o,F,C⟩
     case measure=>simp [intOf];omega
    ·have p:=qH (qni h m q t (j:=k+1) (by omega) G (qj0 d n g))
     clear y;by_cases D:128<=x
     ·have B:192<=x:=by omega
      clear g;go_wp2;go_ret2;exact ⟨qcR p.o rfl rfl,rfl⟩
     ·clear g
      go_wp2;go_ret2;exact ⟨qcR p.o rfl rfl,rfl⟩
   ·skip
    have d:k=3:=by omega
    subst d;have ⟨O,T,c⟩:=qts (V:=V) (by rw [qcS h,m];omega) A.o (by rw [qcS h,m];exact r.o);by_cases M:65536<=V
    ·by_cases Q:V<=1114111
     ·rw [eA (by omega)] at c
      have l:=qH c;clear c;go_wp2;go_ret2;exact ⟨qcR l.o (by omega) rfl,rfl⟩
     ·rw [dA (by omega)] at c
      have l:=qH c;clear c;go_wp2;go_ret2;exact ⟨qcR l.o rfl rfl,rfl⟩
    ·rw [dA (by omega)] at c
     have l:=qH c;clear c;go_wp2;go_ret2;exact ⟨qcR l.o rfl rfl,rfl⟩
 ·have p:=qH (qni h m q t (j:=3) (by omega) (by omega) (qj2 (by omega)))
  go_enter func218,ntmps218
  go_wp2;go_ret2;exact ⟨qcR p.o rfl rfl,rfl⟩
def qt2 (s:ByteArray) (w:World) (a:0<s.size) (c:s.size<=1073741824):
  yG 218 #[.string s] w fun e w'=>qfi s.data.toList e/\w=w':=by
 obtain ⟨b0,b⟩:∃ b0:Nat,(s[0]'a).toNat=b0:=⟨_,rfl⟩;have g:b0<256:=by rw [<- b];exact (s[0]'a).toNat_lt
 by_cases i:b0<128
 ·exact qtY s w a c b0 b i
 by_cases j:b0<194
 ·exact qnf s w a c b0 b (.inl ⟨by omega,j⟩)
 by_cases d:b0<224
 ·exact qtZ s w a c b0 b (by omega) d
 by_cases h:b0<240
 ·exact qt0 s w a c b0 b (by omega) h
 by_cases k:b0<245
 ·exact qt1 s w a c b0 b (by omega) k
 ·exact qnf s w a c b0 b (.inr ⟨by omega,g⟩)
def qnj (l:List UInt8):(qaC l).2=0\/qam (qaC l).1=l.take (qaC l).2:=by
 have key:∀ (f:Nat) (l:List UInt8) (k:Nat),qd9 f l=some k->k<l.length/\qdS l k/\(l.getD k 0).toNat<128:=by
  intro f
  induction f with
  |zero=>intro l k a;cases a
  |succ f g=>
   intro l k a;cases l with
   |nil=>cases a
   |cons c r=>
    rw [qd9] at a;split at a
    ·rename_i e
     simp at a;subst a;exact ⟨by simp,qdS.zero _,by simpa using e⟩
    ·rename_i e
     rw [Option.map_eq_some_iff] at a;obtain ⟨j,b,rfl⟩:=a;have ⟨h1,h2,h3⟩:=g r j b;refine ⟨by simp;omega,fun i h=> ?_,by simpa using h3⟩;cases i with
     |zero=>simp;omega
     |succ i=>simpa using h2 i (by omega)
 unfold qaC;rcases hs:qd9 9 l with _|k
 ·exact .inl rfl
 ·have ⟨h1,h2,h3⟩:=key 9 l k hs
  have d:∀ j,j<k+1->(l.take (k+1)).getD j 0=l.getD j 0:=fun j b=>by
   rw [mA,List.getElem?_take_of_lt b,<- mA]
  simp only;split
  ·exact .inl rfl
  ·rename_i m
   refine .inr ?_;simp only;refine (qmE (k:=k) (l:=l.take (k+1)) (by rw [sA];omega) (fun j b=> ?_) ?_ ?_).1
   ·rw [d j (by omega)]
    exact h2 j b
   ·rw [d k (by omega)]
    exact h3
   ·rw [d k (by omega)]
    omega
def qnk {b:List UInt8} {a:Nat} {d q:Int} (c:qbY b (a:Int)=(d,q,0)):
  ∃ n k:Nat,d=(n:Int)/\q=(k:Int)/\a<=k/\k<=b.length/\b.take k=b.take a++qam n:=by
 unfold qbY at c;split at c
 ·simp at c
 ·rename_i i
  rw [rD] at c;split at c
  ·simp at c
  ·rename_i h1
   simp only [lD,and_true] at c;obtain ⟨e,h⟩:=c;have g:=(qfH (b.drop a)).2.1;rw [rB] at g;refine ⟨_,a+(qaC (b.drop a)).2,e.symm,by rw [<- h];simp,by omega,by omega,?_⟩;rcases qnj (b.drop a) with h2|h2
   ·exact absurd h2 h1
   ·rw [h2,List.take_add]
def qnl {b:List UInt8}:∀ (m:Nat) (last:Int) (a:Nat) (d xs:List Int) (q:Nat),qcI b m last a d=some (xs,q)->a<=b.length->
  ∃ ys,xs=d++ys/\ys.length=m/\qal last ys=true/\a<=q/\q<=b.length/\b.take q=b.take a++dB last ys
 |0,last,a,d,xs,q,c,e=>by
  simp only [qcI,jB,lD] at c;obtain ⟨rfl,rfl⟩:=c;exact ⟨[],by simp,rfl,rfl,aA _,e,by simp [dB]⟩
 |m+1,last,a,d,xs,q,c,e=>by
  rw [qcI] at c;split at c
  ·cases c
  ·rename_i g
   have h:=(qfH (b.drop a)).2.1;rw [rB] at h;have ⟨ys,h1,h2,h3,l,i,k⟩:=qnl m _ _ _ _ _ c (by omega);have j:qam (qaC (b.drop a)).1=(b.drop a).take (qaC (b.drop a)).2:=by
    rcases qnj (b.drop a) with h2|h2
    ·exact absurd (.inl h2) g
    ·exact h2
   refine ⟨(last+(((qaC (b.drop a)).1:Int)+1))::ys,by rw [h1];simp,by simp [h2],?_,by omega,i,?_⟩
   ·rw [qal,h3,Bool.and_true,gC]
    omega
   ·rw [k,List.take_add,dB,show (last+(((qaC (b.drop a)).1:Int)+1)-(last+1)).toNat=(qaC (b.drop a)).1 by omega,j,iB]
def qt3 {b:List UInt8} {a:Nat} {ps:List Int} {q:Int} (c:qdj b (a:Int)=(ps,q,0)):
  ∃ k:Nat,q=(k:Int)/\a<=k/\k<=b.length/\qal (-1) ps=true/\b.take k=b.take a++qbQ ps:=by
 unfold qdj at c;split at c
 ·rename_i g
  obtain ⟨d,q2,e,h⟩:∃ d q2 e,qbY b (a:Int)=(d,q2,e):=⟨_,_,_,rfl⟩;rw [h] at c g;simp only at c g;subst g;obtain ⟨n,k,rfl,rfl,r,j,m⟩:=qnk h;rw [rD,rD] at c;rcases ht:qcI b n (-1) k [] with _|⟨xs,i⟩
  ·rw [ht] at c;simp at c
  ·rw [ht] at c
   simp only [lD,and_true] at c;obtain ⟨rfl,rfl⟩:=c;have ⟨ys,h1,h2,h3,s,l,p⟩:=qnl _ _ _ _ _ _ ht j;rw [lC] at h1;subst h1;exact ⟨i,rfl,by omega,l,h3,by rw [p,m,qbQ,h2,iB]⟩
 ·rename_i g
  simp only [lD] at c;exact absurd c.2.2 g
def qcn (b:List UInt8) (last:Int) (a:Nat) (g:List Po):Prop:=
 qa5 last g=true/\a+(qae last g).length<=b.length/\b.take (a+(qae last g).length)=b.take a++qae last g
def qcn.nil {b:List UInt8} {last:Int} {a:Nat} (c:a<=b.length):qcn b last a []:=⟨rfl,by simpa [qae] using c,by simp [qae]⟩
def qcn.split {b:List UInt8} {last:Int} {a:Nat} (c:qcn b last a g):b=b.take a++(qae last g++b.drop (a+(qae last g).length)):=by
 have :=(gD (a+(qae last g).length) b).symm;rw [c.2.2,iB] at this;exact this
def qnm:∀ (l:List Po) (last:Int) (p:Po),p∈l->p.2.length<=(qae last l).length
 |[],_,p,h=>by cases h
 |q::r,last,p,h=>by
  have b:∀ (ps:List Int) (x:Int),ps.length<=(dB x ps).length:=by
   intro ps
   induction ps with
   |nil=>simp
   |cons a t c=>
    intro x;have :=c a;have :=qgc (a-(x+1)).toNat;rw [dB,iA,nA];omega
  rw [qae,iA,iA];rcases wA.1 h with rfl|h
  ·have :=b p.2 (-1)
   rw [qbQ,iA];omega
  ·have :=qnm r q.1 p h
   omega
def qt4 {l:List Po} (a:k<l.length):l.drop k=l.getD k (0,[])::l.drop (k+1):=by
 rw [yD a,mA,oA a];rfl
def qt5 {b:List UInt8} {last:Int} {a:Nat} (v:qcn b last a g) (I: -1<=last) {k:Nat} (c:k<g.length) (F:b.length<=400000000000):
  ∃ m:Nat,qbY b (((a+(qae last (g.take k)).length:Nat)):Int)=((g.getD k (0,[])).1-(qaP last (g.take k)+1),(m:Int),0)/\
   qdj b (m:Int)=((g.getD k (0,[])).2,(((a+(qae last (g.take (k+1))).length:Nat)):Int),0)/\ -1<=qaP last (g.take k)/\qaP last (g.take k)<(g.getD k (0,[])).1/\(g.getD k (0,[])).1<2147483648/\qdk (g.getD k (0,[])).2=true/\g.take (k+1)=g.take k++[((g.getD k (0,[])).1,(g.getD k (0,[])).2)]:=by
 have E:=v.split;obtain ⟨h1,h2,h3⟩:=v;have i:g=g.take k++(g.getD k (0,[])::g.drop (k+1)):=by rw [<- qt4 c,gD]
 have p:=h1;rw [i,qeX,xA] at p;obtain ⟨B,z⟩:=p;have ⟨h,e,l,x⟩:=qfj.1 z;have G:=qii _ _ B;have n:=qnm g last (g.getD k (0,[])) (by rw [mA,oA c];simp);have j:g.take (k+1)=g.take k++[g.getD k (0,[])]:=by
  rw [aB c,mA,oA c];rfl
 have ⟨q,w⟩:=qE (g.getD k (0,[]));rw [<- w] at h e l x i j n;rw [<- w];obtain ⟨d,ps⟩:=q;have C:(b.take a).length=a:=by rw [sA];omega
 have ⟨t,s⟩:=qtH (pre:=b.take a++qae last (g.take k)) (post:=b.drop (a+(qae last g).length)) (r:=g.drop (k+1)) (by omega) h e l (by have H:ps.length<=(qae last g).length:=n;omega);have D:(b.take a++qae last (g.take k))++(qae (qaP last (g.take k)) ((d,ps)::g.drop (k+1))++b.drop (a+(qae last g).length))=b:=by
  have A:qae last (g.take k)++qae (qaP last (g.take k)) ((d,ps)::g.drop (k+1))=qae last g:=by rw [<- qfK,<- i]
  have y:(b.take a++qae last (g.take k))++(qae (qaP last (g.take k)) ((d,ps)::g.drop (k+1))++b.drop (a+(qae last g).length))=b.take a++((qae last (g.take k)++qae (qaP last (g.take k)) ((d,ps)::g.drop (k+1)))++b.drop (a+(qae last g).length)):=by simp only [iB]
  rw [y,A];exact E.symm
 rw [D,iA,C] at t s;refine ⟨_,t,?_,by omega,h,e,l,j⟩;rw [s,j,qfK];simp [qae,uB]
def qt6 {b:List UInt8} {last:Int} {a:Nat} (t:qcn b last a g) (s: -1<=qaP last g) {d q2 q3:Int} {ps:List Int}
  (r:qbY b (((a+(qae last g).length:Nat)):Int)=(d,q2,0)) (l:qdj b q2=(ps,q3,0)) (m:d+(qaP last g+1)<2147483648) (w:qdk ps=true):
  qcn b last a (g++[(d+(qaP last g+1),ps)])/\q3=((a+(qae last (g++[(d+(qaP last g+1),ps)])).length:Nat):Int):=by
 obtain ⟨n,k,rfl,rfl,C,B,i⟩:=qnk r;obtain ⟨v,rfl,z,y,A,j⟩:=qt3 l;obtain ⟨h1,h2,h3⟩:=t;have ⟨x,c⟩:=qE (qaP last g);rw [<- c] at s m;rw [<- c];have h:qae last (g++[((n:Int)+(x+1),ps)])=qae last g++(qam n++qbQ ps):=by
  rw [qfK,<- c];simp only [qae,mC];rw [show ((n:Int)+(x+1)-(x+1)).toNat=n by omega]
 have e:v=a+(qae last (g++[((n:Int)+(x+1),ps)])).length:=by
  have q:=congrArg List.length i;have p:=congrArg List.length j;rw [iA,sA,sA] at q p;rw [h,iA,iA];omega
 refine ⟨⟨?_,by omega,?_⟩,by rw [<- e]⟩
 ·rw [qeX,h1,sD,<- c]
  exact qfj.2 ⟨by simp only;omega,by simp only;omega,w,rfl⟩
 ·rw [<- e,j,i,h3,h]
  simp only [iB]
def qt7 {last:Int} {y:Int} {ps:List Int}:qaP last (g++[(y,ps)])=y:=by rw [qjR];rfl
def qen:Int->List Int->Bool
 |_,[]=>true
 |last,n::r=>decide (last<n)&&decide (n<2147483648)&&qen n r
def qnn:∀ (ps:List Int) (last:Int),ps≠[]->qen last ps=(qal last ps&&decide (ps.getLastD 0<2147483648))
 |[],_,h=>absurd rfl h
 |[n],last,_=>by simp [qen,qal]
 |n::m::r,last,_=>by
  have a:=qnn (m::r) n (by simp);have e:(n::m::r).getLastD 0=(m::r).getLastD 0:=by simp [List.getLastD]
  rw [qen,qal,a,e];rcases h1:qal n (m::r) with _|_
  ·simp
  ·by_cases h2:(m::r).getLastD 0<2147483648
   ·have :=(qjQ h1 ((m::r).getLastD 0) (qm6 (by simp))).1
    have h3:n<2147483648:=by omega
    simp [h3]
   ·rw [uA h2]
    simp
def qt8 (ps:List Int):qdk ps=(qen (-1) ps&&decide (0<ps.length)):=by
 by_cases a:ps=[]
 ·subst a;rfl
 ·unfold qdk
  rw [qnn ps (-1) a];have b:0<ps.length:=List.length_pos_iff.2 a;have c:ps.isEmpty=false:=by simpa using a
  rw [c];simp [b]
def qt9 {last:Int} {ps:List Int} (a:k<ps.length):qen last (ps.drop k)=(decide (last<ps.getD k 0)&&decide (ps.getD k 0<2147483648)&&qen (ps.getD k 0) (ps.drop (k+1))):=by
 rw [yD a,qen,mA,oA a];rfl
def qdY (l:List Po):Nat->List (Int × Nat)
 |0=>[]
 |k+1=>qdY l k++[(qaP (-1) (l.take (8*(k+1))),(qae (-1) (l.take (8*(k+1)))).length)]
def qgg (l:List Po):∀ n,(qdY l n).length=n
 |0=>rfl
 |k+1=>by rw [qdY,iA,qgg l k];rfl
def qno (l:List Po):∀ (n k:Nat),k<n->(qdY l n)[k]?=some (qaP (-1) (l.take (8*(k+1))),(qae (-1) (l.take (8*(k+1)))).length)
 |0,_,a=>by omega
 |n+1,k,a=>by
  rw [qdY];by_cases e:k=n
  ·subst e
   rw [oC (by rw [qgg];exact aA _),qgg,bE];rfl
  ·rw [fD (by rw [qgg];omega)]
   exact qno l n k (by omega)
def qnp {l b:List Po}:∀ {n:Nat},8*n<=l.length->qdY (l++b) n=qdY l n
 |0,_=>rfl
 |k+1,a=>by
  rw [qdY,qdY,qnp (by omega),wF a]
def qua {l b:List Po} (d:l.length=8*n) (a:0<b.length) (c:b.length<=8):qaN l.length=n/\qaN (l++b).length=n+1:=by
 unfold qaN;rw [iA];omega
def qub {l b:List Po} (d:l.length=8*n) (a:0<b.length) (c:b.length<=8):qdY (l++b) (n+1)=qdY l n++[(qaP (-1) (l++b),(qae (-1) (l++b)).length)]:=by
 rw [qdY,qnp (by omega),nB (by rw [iA];omega)]
def qj3:∀ (a b:List Po),qaG (a++b)=qaG a+qaG b
 |[],b=>by simp [qaG]
 |p::r,b=>by simp [qaG,qj3 r b,uB]
def quc {l:List Po} (j:k<qaN l.length) (i:qa5 (-1) l=true):qcn (qae (-1) l) (qaP (-1) (l.take (8*k))) (qae (-1) (l.take (8*k))).length (qcd l (k:Int)):=by
 have h:l=l.take (8*k)++(qcd l (k:Int)++l.drop (8*(k+1))):=by
  rw [<- iB,<- qjU,gD]
 have d:qae (-1) l=qae (-1) (l.take (8*k))++(qae (qaP (-1) (l.take (8*k))) (qcd l (k:Int))++qae (qaP (qaP (-1) (l.take (8*k))) (qcd l (k:Int))) (l.drop (8*(k+1)))):=by
  conv=>lhs;rw [h]
  rw [qfK,qfK]
 have g:=i;rw [h,qeX,qeX,xA,xA] at g;have ⟨a,e⟩:=qE (qae (-1) (l.take (8*k)));have ⟨c,b⟩:=qE (qae (qaP (-1) (l.take (8*k))) (qcd l (k:Int)));rw [<- e,<- b] at d;refine ⟨g.2.1,?_,?_⟩
 ·rw [<- e,<- b,d];simp
 ·rw [<- e,<- b,d,List.take_left,<- iB,<- iA,List.take_left]
def qaE.block (d:k<N) (o:Obj):qaE N (fun W=>W.heap[k]?=some o):=fun W l u b c _ _ a=>(World.putObj_heap_other (by omega)).trans a
def qaE.belowW (d:n<=N):qaE N (fun W=>Below n w0 W):=fun W l o a g b _ c=>
 c.trans ((bA n W).grown (grownBy_putObj' W l a) (by have :=(gA.1 b).1;omega) (fun k e=>by cases e;omega))
def qaE.and {p q:World->Prop} (g:qaE N p) (k:qaE N q):qaE N (fun W=>p W/\q W):=fun W l o a d c b e=>⟨g W l o a d c b e.1,k W l o a d c b e.2⟩
def qaE.pure {p:Prop}:qaE N (fun _=>p):=fun _ _ _ _ _ _ _ a=>a
def qj4 {α:Type} (n:Nat) (P:Program) (g:Nat) (lb:Array Value) (i:α->Array Value) (h d:World->World->Prop) (j:List α->α->World->Prop) (S k:List α->Prop) (w:World):Prop:=
 ∀ (l:Nat) (a X:List α->World->Prop) (W:World),wG w W->(∀ s A B,a s A->h A B->a s B)->
  (∀ pre x c,a pre c->j pre x c->YieldAt Fence.wide (n-1) P l (i x) c fun e b=>(e= .returned (.bool true)/\a (pre++[x]) b/\d c b)\/(e= .returned (.bool false)/\X (pre++[x]) b))->
  a [] W->CallsIn Fence.wide n P g (#[.func (.yield l) #[] #[]]++lb) W fun e b=>(∃ v,e= .returned v)/\((∃ xs,S xs/\a xs b)\/∃ xs,k xs/\X xs b)
variable {n:Nat} {P:Program}
def qj5 {α:Type} {g:Operand} {ps:Array Tmp} {assign body:Code} {Q:Exit->Act->World->Prop} {a:Act} (h1:1<=n) {gf:Nat} {lb:Array Value} (a8:a.eval g= .func (.func gf) #[] lb)
  (a5:∀ args w,(callFunc gf args).run P w= .ok (.enter gf args) w) {N:α->Array Value} {L D:World->World->Prop} {R:List α->α->World->Prop} {S ab:List α->Prop} (aw:qj4 (n-1) P gf lb N L D R S ab w)
  (a2:∀ {A B:World},wG A B->L A B) (ad:∀ {A B:World} {k:Nat} {o:Obj},w.heap.size<=k->L A B->A.heap[k]?=some o->o.isCells=false->B.heap[k]?=some o)
  (ai:∀ {A B C:World},D A B->D B C->D A C) (ae:∀ (W:World) (l:Nat) (o aq:Obj),w.heap.size<=l->W.heap[l]?=some o->o.isCells=false->D W (W.putObj l aq)) (ax:∀ x,(N x).size=ps.size)
  (m:List α->World->Prop) (O:Code->List α->World->Prop) (ah:∀ s A B,m s A->L A B->m s B) (aa:∀ s,qaE w.heap.size (m s)) (U:∀ c s,qaE w.heap.size (O c s)) (a9:∀ s x,qaE w.heap.size (R s x)) (ay:m [] w) (ac:α->Act)
  (az:∀ (l:Nat) (x:α) (W:World) (af:Act->World->Prop),af (ac x) W->assign.wpIn (Fence.wide.inRound l) (n-1-1) P (Exit.then af (fun _ _ _=>False)) {tmps:=(ps.zip (N x)).foldl (fun t (p,v)=>t.setIfInBounds p v) a.tmps,defers:=[]} W)
  (a3:∀ (l:Nat) (pre:List α) (x:α) (W:World),m pre W->R pre x W->body.wpIn (Fence.wide.inRound l) (n-1-1) P (ownPostK D m O (pre++[x]) W) (ac x) W)
  (au:∀ (b:Nat) (xs:List α) (W:World),w.heap.size<=b->S xs->m xs W->W.heap[b]?=some (.deferred (some []))->Q .normal {a with defers:={target:= .collected b,args:=#[]}::a.defers} W)
  (bb:∀ (b:Nat) (c:Code) (xs:List α) (W:World),w.heap.size<=b->ab xs->O c xs W->W.heap[b]?=some (.deferred (some []))->c.wpIn Fence.wide n P Q {a with defers:={target:= .collected b,args:=#[]}::a.defers} W):
  (Code.rangeFunc g ps assign body).wpIn Fence.wide n P Q a w:=by
 refine wpIn_rangeFunc fun fn a0=> ?_
 have al:=run_enterLoop_outer (P:=P) (w:=w) fn a.tmps ps assign body;have ⟨b,Y⟩:=qE w.heap.size;obtain ⟨d,z⟩:∃ d:LoopState->Option Code->Loop,d=fun s p=>{state:=s,pending:=p,fn:=fn,tmps:=a.tmps,params:=ps,assign:=assign,body:=body,defers:=w.heap.size}:=⟨_,rfl⟩
 have ⟨V,T⟩:=qE ((w.alloc (.deferred (some []))).alloc (.loop (d .ready none)));have ar:(Instr.enterLoop fn a.tmps ps assign body Fence.wide.round).run P w= .ok (b+1,[{target:= .collected b,args:=#[]}]) V:=by rw [T,z,Y];exact al
 have ag:wG w V:=by rw [T];exact ((bA _ w).alloc (aA _) _).alloc (by simp) _
 have aj:V.heap[b]?=some (.deferred (some [])):=by rw [T,Y];exact (pB _ _ _ (by simp)).trans (World.alloc_heap_new w _)
 have a7:V.heap[b+1]?=some (.loop (d .ready none)):=by
  have :=World.alloc_heap_new (w.alloc (.deferred (some []))) (.loop (d .ready none));rwa [tE,<- T,<- Y] at this
 have stay:∀ (s:List α) (A B:World),(m s A/\A.heap[b+1]?=some (.loop (d .ready none))/\A.heap[b]?=some (.deferred (some [])))->L A B->(m s B/\B.heap[b+1]?=some (.loop (d .ready none))/\B.heap[b]?=some (.deferred (some []))):=by
  rintro s A B ⟨F,i,I⟩ Z;exact ⟨ah s A B F Z,ad (by omega) Z i rfl,ad (by omega) Z I rfl⟩
 have an:∀ (pre:List α) (x:α) (A:World),(m pre A/\A.heap[b+1]?=some (.loop (d .ready none))/\A.heap[b]?=some (.deferred (some [])))->R pre x A->
   YieldAt Fence.wide (n-1-1) P (b+1) (N x) A fun e B=>(e= .returned (.bool true)/\(m (pre++[x]) B/\B.heap[b+1]?=some (.loop (d .ready none))/\B.heap[b]?=some (.deferred (some [])))/\D A B)\/
    (e= .returned (.bool false)/\∃ c,O c (pre++[x]) B/\B.heap[b+1]?=some (.loop (d .done (some c)))/\B.heap[b]?=some (.deferred (some []))):=by
  rintro pre x A ⟨F,i,I⟩ a4;have av:b+1<A.heap.size:=(gA.1 i).1;have y:=run_yield (P:=P) (args:=N x) i (by rw [z];exact ax x);have ao:=run_beginRound (P:=P) i (by rw [z]);rw [z] at y;refine ⟨fn,_,assign,body,y,roundIn_of_wpIn a0 (az _ x A _ ⟨_,ao,?_⟩)⟩;have ⟨M,J⟩:=qE (A.putObj (b+1) (.loop {d .ready none with state:= .busy}))
  rw [<- J];have am:M.heap[b+1]?=some (.loop {d .ready none with state:= .busy}):=by rw [J];exact World.putObj_heap_same av
  have ba:M.heap[b]?=some (.deferred (some [])):=by rw [J];exact (World.putObj_heap_other (by omega)).trans I
  have ap:D A M:=by rw [J];exact ae A _ _ _ (by omega) i rfl
  have ak:=a3 (b+1) pre x M (by rw [J];exact aa pre A _ _ _ (by omega) i rfl F) (by rw [J];exact a9 pre x A _ _ _ (by omega) i rfl a4);have fin:∀ (j:Option Code) (h:World),KeepsOthers M h->
    (Instr.endRound (b+1) j).run P h= .ok (.bool j.isNone) (h.putObj (b+1) (.loop (d (if j.isNone then .ready else .done) j)))/\h.heap[b+1]?=some (.loop {d .ready none with state:= .busy})/\
    (h.putObj (b+1) (.loop (d (if j.isNone then .ready else .done) j))).heap[b+1]?=some (.loop (d (if j.isNone then .ready else .done) j))/\
    (h.putObj (b+1) (.loop (d (if j.isNone then .ready else .done) j))).heap[b]?=some (.deferred (some [])):=fun j h r=>by
   have l2:=r.same _ _ am rfl;have q:=run_endRound (P:=P) j l2;rw [z] at q ⊢;exact ⟨q,by rw [z] at l2;exact l2,World.putObj_heap_same (gA.1 l2).1,(World.putObj_heap_other (by omega)).trans (r.same _ _ ba rfl)⟩
  refine wpIn_mono ak ?_;rintro a1 bc h K;cases a1 with
  |normal=>
   obtain ⟨r,a6,H⟩:=K;have ⟨q,l2,G,E⟩:=fin none h r;exact ⟨_,_,q,.inl ⟨rfl,⟨aa _ h _ _ _ (by omega) l2 rfl H,G,E⟩,ai (ai ap a6) (ae h _ _ _ (by omega) l2 rfl)⟩⟩
  |ret=>
   obtain ⟨r,H⟩:=K;have ⟨q,l2,G,E⟩:=fin (some .ret) h r;exact ⟨_,_,q,.inr ⟨rfl,.ret,U _ _ h _ _ _ (by omega) l2 rfl H,G,E⟩⟩
  |exit id=>
   obtain ⟨r,H⟩:=K;have ⟨q,l2,G,E⟩:=fin (some (.exit id)) h r;exact ⟨_,_,q,.inr ⟨rfl,.exit id,U _ _ h _ _ _ (by omega) l2 rfl H,G,E⟩⟩
  |goto t=>
   obtain ⟨r,H⟩:=K;have ⟨q,l2,G,E⟩:=fin (some (.goto t)) h r;exact ⟨_,_,q,.inr ⟨rfl,.goto t,U _ _ h _ _ _ (by omega) l2 rfl H,G,E⟩⟩
  |panic c=>exact K.elim
  |outgrown=>exact K.elim
 refine ⟨b+1,_,V,{target:= .fn (.func gf) lb,args:=#[.func (.yield (b+1)) #[] #[]]},V,gf,#[.func (.yield (b+1)) #[] #[]]++lb,V,ar,?_,?_,?_,fun _=>h1,?_⟩
 ·simp only [resolve,a8]
  simp [go_sem]
 ·intro f' _
  trivial
 ·simp [invoke,go_sem,a5]
 ·refine (aw (b+1) _ (fun xs B=>∃ c,O c xs B/\B.heap[b+1]?=some (.loop (d .done (some c)))/\B.heap[b]?=some (.deferred (some []))) V ag stay an ⟨ah [] w V ay (a2 ag),a7,aj⟩).mono ?_
  rintro e A ⟨⟨v,rfl⟩,(⟨xs,X,F,i,I⟩|⟨xs,X,c,F,i,I⟩)⟩
  ·have fin:=run_endLoop (P:=P) i (by rw [z];simp)
   rw [z] at fin;exact ⟨none,_,fin,au b xs _ (by omega) X (aa xs A _ _ _ (by omega) i rfl F) ((World.putObj_heap_other (by omega)).trans I)⟩
  ·have fin:=run_endLoop (P:=P) i (by rw [z];simp)
   rw [z] at fin;exact ⟨some c,_,fin,bb b c xs _ (by omega) X (U c xs A _ _ _ (by omega) i rfl F) ((World.putObj_heap_other (by omega)).trans I)⟩
end Go.Proofs.YtpehcaidjlemiaaGreatDoor
namespace Go.Proofs.YtpehcaidjlemiaaGreatDoor
open Go Go.RowKit Go.Proofs.Tryz
open Plain (Wd WS Rep qaJ qdp getW)
variable {w w' w0:World} {k n b c j m zz B N:Nat} {A:Option Addr} {v v':Value} {xs:List Value} {t E:TypeId} {l:List (List UInt8)} {g:List (Int × List Int)} {ws:List (Nat × Nat)}
def qab:List Wd->List Value
 |[]=>[]
 |p::ws=> .int .i64 p.1:: .int .u64 p.2::qab ws
def qeZ:∀ ws:List Wd,(qab ws).length=ws.length*2
 |[]=>rfl
 |p::ws=>by simp only [qab,nA,qeZ ws];omega
def qho:∀ a b:List Wd,qab (a++b)=qab a++qab b
 |[],b=>rfl
 |p::a,b=>by simp only [bC,qab,qho a b]
def qnq:∀ (ws:List Wd) (k:Nat),qab (ws.take k)=(qab ws).take (k*2)
 |[],k=>by simp [qab]
 |p::ws,0=>by simp [qab]
 |p::ws,k+1=>by
  rw [List.take_succ_cons,qab,qab,qnq ws k,show (k+1)*2=k*2+1+1 by omega];rfl
def qj6:∀ (ws:List Wd) (k:Nat),qab (ws.drop k)=(qab ws).drop (k*2)
 |[],k=>by simp [qab]
 |p::ws,0=>by simp [qab]
 |p::ws,k+1=>by
  rw [sE,qab,qj6 ws k,show (k+1)*2=k*2+1+1 by omega];rfl
def qnr:∀ (ws:List Wd) (k:Nat) (p:Wd),ws[k]?=some p->(qab ws)[k*2]?=some (.int .i64 p.1)/\(qab ws)[k*2+1]?=some (.int .u64 p.2)
 |[],k,p,a=>by simp at a
 |q::ws,0,p,a=>by
  simp only [List.getElem?_cons_zero,jB] at a;subst a;exact ⟨rfl,rfl⟩
 |q::ws,k+1,p,a=>by
  rw [dF] at a;have b:=qnr ws k p a;rw [qab,show (k+1)*2=k*2+1+1 by omega];exact b
def qns:∀ (ws:List Wd) (k:Nat) (a x y:Nat),ws[k]?=some (a,x)->qab (ws.set k (a,y))=(qab ws).set (k*2+1) (.int .u64 y)
 |[],k,a,x,y,b=>by simp at b
 |q::ws,0,a,x,y,b=>by
  simp only [List.getElem?_cons_zero,jB] at b;subst b;rfl
 |q::ws,k+1,a,x,y,b=>by
  rw [dF] at b;rw [zF,qab,qab,qns ws k a x y b,show (k+1)*2+1=(k*2+1)+1+1 by omega];rfl
def qgh:∀ (ws:List Wd),∀ u∈qab ws,u.oneCell'=true
 |[],u,h=>by cases h
 |p::ws,u,h=>by
  simp only [qab,wA] at h;rcases h with rfl|rfl|h
  ·rfl
  ·rfl
  ·exact qgh ws u h
def qgF (g:Row w B A (qab ws)) {k:Nat} (c:k<ws.length):
  ∃ b a,A=some ⟨b,a,none⟩/\b<B/\w.cell? ⟨b,a+k*2,none⟩=some (.int .i64 (ws[k]'c).1)/\w.cell? ⟨b,a+k*2+1,none⟩=some (.int .u64 (ws[k]'c).2):=by
 obtain ⟨b,a,rfl,e,d⟩:=g.at_ (by rw [qeZ];omega);have h2:=qnr ws k _ (oA c);exact ⟨b,a,rfl,e,d _ _ h2.1,by rw [uB];exact d _ _ h2.2⟩
theorem qud:(prog.info? 104).map (fun i=>(i.zero,i.size,i.bytes))=some (some (.agg #[.int .i64 0,.int .u64 0]),2,16):=by kernel_rfl
def Pos (ws:List Wd) (a:Nat) (w:World) (e:Ending) (w':World):Prop:=e= .returned (.tuple #[.int .i64 (qaJ ws a:Nat),.bool (qdp ws a)])/\wG w w'
def qgG (ws:List Wd) (a lo b:Nat):Prop:=(∀ k p,ws[k]?=some p->k<lo->p.1<a)/\(∀ k p,ws[k]?=some p->b<=k->a<=p.1)
def que (e:ws.Pairwise fun p q=>p.1<q.1) {a lo c:Nat} (d:qgG ws a lo c) (g:c<=lo) (h:lo<=ws.length):qaJ ws a=lo:=by
 have s:=Plain.posW_split ws e a;have b:=Plain.posW_le ws a;rcases Nat.lt_trichotomy (qaJ ws a) lo with h1|h1|h1
 ·obtain ⟨p,b⟩:∃ p,ws[qaJ ws a]?=some p:=⟨_,oA (by omega)⟩
  have h2:=d.1 _ p b h1;have h3:=(s _ p b).2 h2;omega
 ·exact h1
 ·obtain ⟨p,b⟩:∃ p,ws[lo]?=some p:=⟨_,oA (by omega)⟩
  have h2:=d.2 _ p b g;have h3:=(s _ p b).1 h1;omega
def quf (d:ws.Pairwise fun p q=>p.1<q.1) {a lo b m:Nat} {p:Wd} (e:qgG ws a lo b) (c:ws[m]?=some p) (h:p.1<a):qgG ws a (m+1) b:=by
 refine ⟨fun k q g i=> ?_,e.2⟩;have s:=Plain.posW_split ws d a;have h1:=(s m p c).2 h;exact (s k q g).1 (by omega)
def qug (c:ws.Pairwise fun p q=>p.1<q.1) {a lo d m:Nat} {p:Wd} (g:qgG ws a lo d) (b:ws[m]?=some p) (i:¬ p.1<a):qgG ws a lo m:=by
 refine ⟨g.1,fun k q h j=> ?_⟩;have s:=Plain.posW_split ws c a;apply Nat.le_of_not_lt;intro e;have h1:=(s k q h).2 e;exact i ((s m p b).1 (by omega))
def quh (ws:List Wd) (a:Nat) (d:World) (lo c:Value) (wr:World):Prop:=
 ∃ l b:Nat,lo= .int .i64 l/\c= .int .i64 b/\l<=b/\b<=ws.length/\qgG ws a l b/\wG d wr
theorem qui (A:Option Addr) (n c:Nat) (ws:List Wd) (a:Nat) (w:World) (hn:ws.length=n) (hrow:Row w w.heap.size A (qab ws)) (hs:ws.Pairwise fun p q=>p.1<q.1) (hl:ws.length<=1073741824) (ha:a<4611686018427387904)
  (ha2:∀ p∈ws,p.1<4611686018427387904):
  yG 121 #[.slice A n c,.int .i64 a,.func (.func 122) #[] #[]] w (Pos ws a w):=by
 subst hn;have HR:=qH hrow;have HS:=qH hs;clear hrow hs ha2
 go_enter func121,ntmps121
 go_wp2
 go_loopw [9,10] (quh ws a w) (fun lo hi _=>((intOf hi)-(intOf lo)).toNat)
 case atStart=>exact ⟨0,ws.length,rfl,rfl,kA _,aA _,⟨fun k p _ h=>absurd h (Nat.not_lt_zero _),fun k p hk h=>by have :=(yC.1 hk).1;omega⟩,bA _ _⟩
 case round=>
  obtain ⟨lo,hi,rfl,rfl,hle,hhi,hinv,hbw⟩:=hrel;have HI:=qH hinv;have HB:=qH hbw;clear hinv hbw;by_cases hlt:lo<hi
  ·obtain ⟨b1,o1,e1,hb1,hc1,hc2⟩:=qgF (HR.o.below HB.o) (k:=(lo+hi)/2) (by omega)
   subst e1;obtain ⟨p,hp⟩:∃ p,p=ws[(lo+hi)/2]'(by omega):=⟨_,rfl⟩;rw [<- hp] at hc1 hc2;have HP:qI (ws[(lo+hi)/2]?=some p):=by rw [hp];exact oA (by omega)
   clear hp;obtain ⟨m,hm⟩:=qE ((lo+hi)/2);rw [<- hm] at hc1 hc2 HP;have hmi:((lo:Int)+(hi:Int))/2=(m:Int):=by omega
   have hm1:lo<=m:=by omega
   have hm2:m<hi:=by omega
   clear hm;have hcmp:=qnc (p.1:Int) (p.2:Int) (a:Int);by_cases hpa:p.1<a
   ·have hv:qfk (p.1:Int) (a:Int)= -1:=eA (by omega)
    rw [hv] at hcmp;have HC:=qH hcmp;clear hv hcmp
    go_wp2_with (go_at_call 122;refine (HC.o _).mono ?_;rintro e w' ⟨rfl,hbb⟩)
    go_roundw
    case rel=>exact ⟨m+1,hi,by go_num,rfl,by omega,hhi,quf HS.o HI.o HP.o hpa,HB.o.trans (hbb.mono (by have :=HB.o.size;simp;omega))⟩
    case measure=>simp [intOf];omega
   ·have hv:decide (qfk (p.1:Int) (a:Int)<0)=false:=by unfold qfk;rw [dA (by omega)];split<;>rfl
    have HC:=qH hcmp;clear hcmp
    go_wp2_with (go_at_call 122;refine (HC.o _).mono ?_;rintro e w' ⟨rfl,hbb⟩)
    go_roundw
    case rel=>exact ⟨lo,m,rfl,rfl,by omega,by omega,qug HS.o HI.o HP.o hpa,HB.o.trans (hbb.mono (by have :=HB.o.size;simp;omega))⟩
    case measure=>simp [intOf];omega
  ·obtain rfl:hi=lo:=by omega
   have hpos:=que HS.o HI.o (aA _) hhi;by_cases hn:hi<ws.length
   ·obtain ⟨b1,o1,e1,hb1,hc1,hc2⟩:=qgF (HR.o.below HB.o) (k:=hi) hn
    subst e1;obtain ⟨p,hp⟩:=qE (ws[hi]'hn);rw [<- hp] at hc1 hc2;have HP:qI (ws[hi]?=some p):=by rw [hp];exact oA hn
    clear hp;have hkept:qdp ws a=(qfk (p.1:Int) (a:Int)==0):=by
     unfold qdp;rw [hpos,HP.o];show (p.1==a)=_;rw [kD];simp only [pD];unfold qfk;split
     ·omega
     ·split
      ·omega
      ·omega
    have hcmp:=qnc (p.1:Int) (p.2:Int) (a:Int);obtain ⟨q,hq⟩:=qE (qfk (p.1:Int) (a:Int));rw [<- hq] at hcmp hkept;have HC:=qH hcmp;have HPO:=qH hpos;have HK:=qH hkept;clear hcmp hpos hkept hq
    go_wp2_with (go_at_call 122;refine (HC.o _).mono ?_;rintro e w' ⟨rfl,hbb⟩)
    go_ret2;exact ⟨by rw [HPO.o,HK.o];rfl,HB.o.trans (hbb.mono (by have :=HB.o.size;simp;omega))⟩
   ·have hkept:qdp ws a=false:=by
     unfold qdp;rw [hpos,sC (by omega)]
    have HPO:=qH hpos;have HK:=qH hkept;clear hpos hkept;go_wp2;go_ret2;exact ⟨by rw [HPO.o,HK.o];rfl,HB.o⟩
def qbr (w:World) (zz B n:Nat) (ws:List Wd):Prop:=
 zz<=B/\∃ v,w.heap[B]?=some (.cells #[.int .i64 n,v] 101 (0,0))/\w.ownsRow zz 104 2 v ws.length (qab ws)
def qbr.lt (a:qbr w zz B n ws):B<w.heap.size:=by
 obtain ⟨_,v,b,_⟩:=a;exact (gA.1 b).1
def qbr.low (c:qbr w zz B n ws) (a:k<=zz):qbr w k B n ws:=by
 obtain ⟨h1,v,d,b⟩:=c;exact ⟨by omega,v,d,qbk b a⟩
def qbr.below (b:qbr w zz B n ws) (a:wG w w'):qbr w' zz B n ws:=by
 have e:=b.lt;obtain ⟨h1,v,d,c⟩:=b;exact ⟨h1,v,(a.block B e).trans d,qaf c a⟩
def qfL {x y:Value} (a:w.heap[B]?=some (.cells #[x,y] t (0,0))):w.cell? ⟨B,0,none⟩=some x/\w.cell? ⟨B,1,none⟩=some y/\w.frozen? ⟨B,0,none⟩=false/\w.frozen? ⟨B,1,none⟩=false:=by
 simp [World.cell?,World.frozen?,a]
def qbr.read (e:qbr w zz B n ws):
  ∃ A c,w.cell? ⟨B,0,none⟩=some (.int .i64 n)/\w.cell? ⟨B,1,none⟩=some (.slice A ws.length c)/\ws.length<=c/\Row w w.heap.size A (qab ws):=by
 obtain ⟨_,v,g,d⟩:=e;obtain ⟨A,c,rfl,b,a⟩:=qaK d;have ⟨h,i,_,_⟩:=qfL g;exact ⟨A,c,h,i,b,a⟩
def big:Nat:=1073741824
def qgH (a:WS n ws) (b:n<=big):ws.length<=16777217/\∀ p∈ws,p.1<16777217:=by
 unfold big at b;have :=a.length;refine ⟨by omega,fun p c=> ?_⟩;have :=a.here p c;omega
def quj (zz B n:Nat) (ws:List Wd) (a:Nat) (w:World) (g:qbr w zz B n ws) (b:WS n ws) (i:n<=big) (k:a<4611686018427387904):
  yG 73 #[.pointer (some ⟨B,0,none⟩),.int .i64 a] w (Pos ws a w):=by
 have ⟨A,c,s,r,q,d⟩:=g.read;have h:=qgH b i;have j:=qH (qui A ws.length c ws a w rfl d b.asc (by omega) k (fun p m=>by have :=h.2 p m;omega));clear d b h g
 go_enter func73,ntmps73
 go_wp2_with (go_at_call 121;refine j.o.mono ?_;rintro e w' ⟨rfl,l⟩)
 go_ret2;exact ⟨rfl,l⟩
def quk (l:List UInt8):(dec l).1<=1114111:=by
 have :=(qgb _).1 (qsA l);omega
def qul (t:ByteArray) (w:World) (c n:Nat) (d:0<t.size) (g:t.size<=1073741824) (h:qI (dec t.data.toList=(c,n))):
  yG 218 #[.string t] w fun e w'=>e= .returned (.tuple #[.int .i64 c,.int .i64 n])/\w=w':=
 (qt2 t w d g).mono fun e w' ⟨a,b⟩=>⟨by unfold qfi at a;rw [a,h.o],b⟩
def qum (s:ByteArray) (w:World) (a l:Value) (wr:World):Prop:=
 ∃ (t:ByteArray) (b:List Int),a= .string t/\t.size+b.length<=s.size/\wr.ownsRow w.heap.size 3 1 l b.length (qaa b)/\wG w wr/\b++qcH t.data.toList=qcH s.data.toList
def qnt:Value->Nat| .string s=>s.size|_=>0
def qun (s:ByteArray) (w:World) (Q:s.size<=1073741824):
  yG 179 #[.string s] w (qhr (qcH s.data.toList) w):=by
 have ⟨K,M,G,H,F⟩:=lG qc4
 go_enter func179,ntmps179
 go_wp2
 go_loopw [0,3] (fun a l wr=>qum s w a l wr) (fun a _ _=>qnt a)
 case atStart=>exact ⟨s,[],rfl,by simp,vA _ _ _ _,bA _ _,rfl⟩
 case round=>
  obtain ⟨t,i,rfl,R,q,p,z⟩:=hrel;have r:=qH z;clear z;by_cases J:0<t.size
  ·obtain ⟨c,n,h⟩:∃ c n,dec t.data.toList=(c,n):=⟨_,_,rfl⟩
   have m:t.data.toList≠[]:=by
    intro I;have :=congrArg List.length I;rw [qhh,vB] at this;omega
   have d:=qhf _ m;have g:=qms _ m;have x:=quk t.data.toList;rw [h] at d g x;rw [qhh] at d;simp only [] at d g x;have A:=qH h;have D:=qH g;clear h g m;obtain ⟨N,O⟩:=d;have P:=p.size
   go_wp2_with (go_at_call 218;refine (qul t _ c n J (by omega) A).mono ?_)
   rintro e w' ⟨rfl,rfl⟩;clear A
   go_wp2_with (at_builtin;refine wB _ rfl (.tmp 14) (.tmp 16) 23 rfl w.heap.size 3 K _ 1 8 underlying23 M G H F rfl (by omega) _ i.length (qaa i) rfl (q.alloc _) ⟨wr.heap.size,0,none⟩ 1 1 [.int .i64 c] rfl rfl ?c1 ?c2 ?c3 ?c4 ?c5 ?_)
   case c1=>
    intro j u b
    match j,b with
    |0,b=>simp at b;subst b;simp [Addr.add]
    |(j+1),b=>simp at b
   case c2=>intro u v;simp at v;subst v;rfl
   case c3=>unfold maxLen;omega
   case c4=>omega
   case c5=>simp;omega
   intro v' w3 C B _;go_wp2;go_roundw
   case rel=>
    refine ⟨t.extract n t.size,i++[(c:Int)],rfl,?_,?_,?_,?_⟩
    ·rw [ByteArray.size_extract];simp;omega
    ·simpa [qaa] using C
    ·exact (p.alloc (by omega) _).grown B (by simp;omega) (fun k E=>(q.lt k E).1)
    ·rw [<- r.o,D.o,Lib.extract_to_end];simp
   case measure=>
    simp only [qnt];simp [ByteArray.size_extract];omega
  ·go_wp2
   go_ret;have L:t.data.toList=[]:=sB (by rw [qhh];omega);have y:=r.o;rw [L,qmr,mC] at y;subst y;exact ⟨_,rfl,q,p⟩
def qao (R:Option Addr->List Value->Prop):List Po->List Value->Prop
 |[],cs=>cs=[]
 |q::r,cs=>∃ A c cs',cs= .int .i64 q.1:: .slice A q.2.length c::cs'/\q.2.length<=c/\c<=maxLen/\R A (qaa q.2)/\qao R r cs'
section
variable {R R':Option Addr->List Value->Prop}
def qao.len:∀ {l:List Po} {cs:List Value},qao R l cs->cs.length=l.length*2
 |[],cs,a=>by simp only [qao] at a;subst a;rfl
 |q::r,cs,a=>by
  obtain ⟨A,c,cs',rfl,_,_,_,b⟩:=a;have :=qao.len b;simp only [nA,this];omega
def qao.imp:∀ {l:List Po} {cs:List Value},qao R l cs->(∀ A xs,R A xs->R' A xs)->qao R' l cs
 |[],cs,a,_=>a
 |q::r,cs,a,b=>by
  obtain ⟨A,c,cs',rfl,h1,h2,h3,d⟩:=a;exact ⟨A,c,cs',rfl,h1,h2,b _ _ h3,qao.imp d b⟩
def qao.at_:∀ {l:List Po} {cs:List Value} {k:Nat},qao R l cs->k<l.length->
  cs[k*2]?=some (.int .i64 (l.getD k (0,[])).1)/\∃ A c,cs[k*2+1]?=some (.slice A (l.getD k (0,[])).2.length c)/\(l.getD k (0,[])).2.length<=c/\c<=maxLen/\R A (qaa (l.getD k (0,[])).2)
 |[],_,k,_,a=>by simp at a
 |q::r,cs,0,a,_=>by
  obtain ⟨A,c,cs',rfl,h1,h2,h3,b⟩:=a;exact ⟨rfl,A,c,rfl,h1,h2,h3⟩
 |q::r,cs,k+1,a,d=>by
  obtain ⟨A,c,cs',rfl,h1,h2,h3,b⟩:=a;have :=qao.at_ (k:=k) b (by simpa using d);rw [show (k+1)*2=k*2+1+1 by omega,List.getD_cons_succ];simpa using this
def qao.snoc:∀ {l:List Po} {cs:List Value} {A:Option Addr} {c:Nat} {d:Int} {ps:List Int},qao R l cs->ps.length<=c->c<=maxLen->R A (qaa ps)->qao R (l++[(d,ps)]) (cs++[.int .i64 d,.slice A ps.length c])
 |[],cs,A,c,d,ps,a,h1,h2,h3=>by
  simp only [qao] at a;subst a;exact ⟨A,c,[],rfl,h1,h2,h3,rfl⟩
 |q::r,cs,A,c,d,ps,a,h1,h2,h3=>by
  obtain ⟨e,h,cs',rfl,j,b,g,i⟩:=a;exact ⟨e,h,cs'++[.int .i64 d,.slice A ps.length c],rfl,j,b,g,qao.snoc i h1 h2 h3⟩
def qao.take:∀ {l:List Po} {cs:List Value} (k:Nat),qao R l cs->qao R (l.take k) (cs.take (k*2))
 |_,cs,0,_=>by simp [qao]
 |[],cs,k+1,a=>by simp only [qao] at a;subst a;simp [qao]
 |q::r,cs,k+1,a=>by
  obtain ⟨A,c,cs',rfl,h1,h2,h3,b⟩:=a;rw [List.take_succ_cons,show (k+1)*2=k*2+1+1 by omega,List.take_succ_cons,List.take_succ_cons];exact ⟨A,c,_,rfl,h1,h2,h3,qao.take k b⟩
def qao.drop:∀ {l:List Po} {cs:List Value} (k:Nat),qao R l cs->qao R (l.drop k) (cs.drop (k*2))
 |l,cs,0,a=>by simpa using a
 |[],cs,k+1,a=>by simp only [qao] at a;subst a;simp [qao]
 |q::r,cs,k+1,a=>by
  obtain ⟨A,c,cs',rfl,h1,h2,h3,b⟩:=a;rw [sE,show (k+1)*2=k*2+1+1 by omega,sE,sE];exact qao.drop k b
end
def qbf (w:World) (B:Nat) (A:Option Addr) (l:List Po):Prop:=∃ cs,qao (Row w B) l cs/\Row w B A cs
def qbf.nil:qbf w B A []:=⟨[],rfl,Row.nil⟩
def qbf.below {l:List Po} (a:qbf w B A l) (b:Below B w w'):qbf w' B A l:=by
 obtain ⟨cs,h1,h2⟩:=a;exact ⟨cs,h1.imp fun _ _ a=>a.below b,h2.below b⟩
def qbf.more {B':Nat} {l:List Po} (a:qbf w B A l) (b:B<=B'):qbf w B' A l:=by
 obtain ⟨cs,h1,h2⟩:=a;exact ⟨cs,h1.imp fun _ _ a=>a.more b,h2.more b⟩
def qbf.later {l:List Po} (b:qbf w w.heap.size A l) (a:wG w w'):qbf w' w'.heap.size A l:=(b.below a).more a.size
def qbf.cut {l:List Po} (a:qbf w B A l) (k:Nat):qbf w B A (l.take k):=by
 obtain ⟨cs,h1,h2⟩:=a;exact ⟨_,h1.take k,h2.cut (k*2)⟩
def qbf.at_ {l:List Po} (m:qbf w B A l) {k:Nat} (p:k<l.length):
  ∃ b a,A=some ⟨b,a,none⟩/\b<B/\w.cell? ⟨b,a+k*2,none⟩=some (.int .i64 (l.getD k (0,[])).1)/\
   ∃ d c,w.cell? ⟨b,a+k*2+1,none⟩=some (.slice d (l.getD k (0,[])).2.length c)/\(l.getD k (0,[])).2.length<=c/\c<=maxLen/\Row w B d (qaa (l.getD k (0,[])).2):=by
 obtain ⟨cs,h1,h2⟩:=m;obtain ⟨b,a,rfl,i,e⟩:=h2.at_ (by rw [h1.len];omega);have ⟨q,d,c,g,j,h,n⟩:=h1.at_ p;exact ⟨b,a,rfl,i,e _ _ q,d,c,by have :=e _ _ g;rwa [<- uB] at this,j,h,n⟩
def qbf.drop {l:List Po} (d:qbf w B (some ⟨b,n,none⟩) l) (k:Nat):qbf w B (some ⟨b,n+k*2,none⟩) (l.drop k):=by
 obtain ⟨cs,h1,h2⟩:=d;refine ⟨_,h1.drop k,?_⟩;rcases h2 with rfl|⟨i,h,e,c,a⟩
 ·exact .inl (by simp)
 ·injection e with e
  injection e with e1 e2
  subst e1 e2;refine .inr ⟨b,n+k*2,rfl,c,fun j u g=> ?_⟩;have :=a (k*2+j) u (by rw [<- g];simp);rwa [<- uB] at this
def quo (zz:Nat) (w:World) (b:Nat):Prop:=b<w.heap.size/\(b<zz\/∃ cs fr,w.heap[b]?=some (.cells cs 3 fr))
def qcU (zz:Nat) (w:World) (A:Option Addr) (xs:List Value):Prop:=xs=[]\/∃ b a,A=some ⟨b,a,none⟩/\quo zz w b/\∀ j u,xs[j]?=some u->w.cell? ⟨b,a+j,none⟩=some u
def qcU.of_own (a:w.ownsRow k 3 1 (.slice A n c) n xs):qcU zz w A xs:=by
 rcases a.2 with ⟨h,i⟩|⟨g,t,s,h,m,d,x,p,r,y⟩
 ·refine .inl (sB ?_)
  rw [a.1,i]
 ·injection h with h1 h2 h3
  subst h1;have l:=qbx a;rcases l with rfl|⟨b,q,e,v,j⟩
  ·exact .inl rfl
  ·injection e with e
   injection e with e1 e2
   subst e1 e2;exact .inr ⟨g,0,rfl,⟨(gA.1 d).1,.inr ⟨_,_,d⟩⟩,j⟩
def qcU.grown {ys:List Value} {size:Nat} (d:qcU zz w A xs) (m:w.ownsRow zz E size v n ys) (p:E≠3) (h:w.grownBy w' v.ownBlock):qcU zz w' A xs:=by
 rcases d with rfl|⟨b,k,rfl,⟨i,c⟩,s⟩
 ·exact .inl rfl
 ·have q:v.ownBlock≠some b:=by
   rcases c with c|⟨cs,fr,c⟩
   ·intro e
    have :=(m.lt b e).1;omega
   ·intro e
    rcases m.2 with ⟨rfl,_⟩|⟨g,y,x,rfl,_,r,_⟩
    ·cases e
    ·simp only [Value.ownBlock,jB] at e
     subst e;rw [r] at c;simp at c;exact p c.2.1
  have l:w'.heap[b]?=w.heap[b]?:=h.block b i fun e=>q e.symm
  refine .inr ⟨b,k,rfl,⟨tB i h.size,c.imp id fun ⟨cs,fr,d⟩=>⟨cs,fr,l.trans d⟩⟩,fun j u t=> ?_⟩;rw [tC (a:=⟨b,k+j,none⟩) l];exact s j u t
def qcU.below (e:qcU zz w A xs) (d:wG w w'):qcU zz w' A xs:=by
 rcases e with rfl|⟨b,g,rfl,⟨c,k⟩,h⟩
 ·exact .inl rfl
 ·refine .inr ⟨b,g,rfl,⟨tB c d.size,k.imp id fun ⟨cs,fr,e⟩=>⟨cs,fr,(d.block b c).trans e⟩⟩,fun j u i=> ?_⟩
  rw [tC (a:=⟨b,g+j,none⟩) (d.block b c)];exact h j u i
def qup {xs ys:List Nm} (c:k<xs.length) (b:k<ys.length) (a:xs[k]≠ys[k]):decide (xs=ys)=false:=uA fun e=>a (by subst e;rfl)
def quq {xs ys:List Nm} (b:xs.length=ys.length) (a:∀ j (c:j<xs.length),xs[j]=ys[j]'(by omega)):decide (xs=ys)=true:=yA (dD b fun j h1 _=>a j h1)
def qur (xs ys:List Nm) (w:World) (r i:Value) (wr:World):Prop:=r= .bool false/\∃ k:Nat,k<=xs.length/\i= .int .i64 (k:Int)/\wG w wr/\∀ j (a:j<xs.length) (b:j<ys.length),j<k->xs[j]=ys[j]
def qus (A C:Option Addr) (n m c d:Nat) (xs ys:List Nm) (w:World) (R:xs.length=n) (K:ys.length=m) (b:Row w w.heap.size A (qad xs)) (a:Row w w.heap.size C (qad ys)) (V:n<=9223372036854775807) (ad:m<=9223372036854775807):
  yG 45 #[.slice A n c,.slice C m d] w fun e w'=>e= .returned (.bool (decide (xs=ys)))/\wG w w':=by
 subst R K;have S:=qH b;have M:=qH a;have ⟨z,B⟩:=qE (decide (xs=ys));rw [<- B];have E:=qH B;clear b a B;by_cases F:xs.length=ys.length
 ·go_enter func45,ntmps45
  go_wp2
  go_loopw [4,5] (fun r i wr=>qur xs ys w r i wr) (fun _ i _=>xs.length-(intOf i).toNat)
  case atStart=>exact ⟨rfl,0,kA _,rfl,bA _ _,fun j _ _ h=>by omega⟩
  case round=>
   obtain ⟨rfl,k,Y,rfl,l,p⟩:=hrel;by_cases H:k<xs.length
   ·have I:k<ys.length:=by omega
    have ⟨W,aa,O,_,P⟩:=qdr (S.o.below l) H;have ⟨U,ab,L,_,J⟩:=qdr (M.o.below l) I;subst O L;have ⟨x,b,q⟩:=qa8 xs[k];have ⟨y,a,v⟩:=qa8 ys[k];rw [<- b] at P;rw [<- a] at J;have ae:(0:Int)<=k:=by omega
    have Z:(k:Int)<xs.length:=by omega
    have ac:(k:Int)<ys.length:=by omega
    by_cases g:xs[k]=ys[k]
    ·have T:=qeY (s:=x) (t:=y) (by rw [q,v];exact g)
     have N:qI (∀ j (h:j<xs.length) (G:j<ys.length),j<k+1->xs[j]=ys[j]):=qH fun j h G X=>by
      by_cases e:j=k
      ·subst e;exact g
      ·exact p j h G (by omega)
     clear p g b q a v;go_wp2
     go_quiet (fail)
     go_wp2;go_roundw
     case rel=>exact ⟨rfl,k+1,by omega,by go_num,l.trans ⟨rfl,rfl,rfl,aA _,fun _ _=>rfl⟩,N.o⟩
     case measure=>simp [intOf];omega
    ·have T:=qfl (s:=x) (t:=y) (by rw [q,v];exact g)
     have D:z=false:=by rw [E.o];exact qup H I g
     subst D;clear p g b q a v;go_wp2
     go_quiet (fail)
     go_wp2;go_ret;exact ⟨rfl,l.trans ⟨rfl,rfl,rfl,aA _,fun _ _=>rfl⟩⟩
   ·have Q:z=true:=by rw [E.o];exact quq F fun j h=>p j h (by omega) (by omega)
    subst Q;clear p;go_wp2;go_ret;exact ⟨rfl,l⟩
 ·have D:z=false:=by rw [E.o];exact uA fun e=>F (by rw [e])
  subst D
  go_enter func45,ntmps45
  go_wp2;go_ret;exact ⟨rfl,bA _ _⟩
def qut (l:List Nm) (s:Nm) (w:World) (a b i:Value) (wr:World):Prop:=a= .int .i64 0/\b= .bool false/\∃ k:Nat,k<=l.length/\i= .int .i64 (k:Int)/\wG w wr/\∀ j (c:j<l.length),j<k->l[j]<s
def quu (A:Option Addr) (m c:Nat) (l:List Nm) (s:ByteArray) (w:World) (H:Row w w.heap.size A (qad l)) (M:l.length=m) (V:m<=1073741824):
  yG 128 #[.slice A m c,.string s] w fun e w'=>e= .returned (.tuple #[.int .i64 (qaF l s.data.toList),.bool (isN l s.data.toList)])/\wG w w':=by
 have L:=qH H;clear H;subst M;have ⟨p,G⟩:=qE (qaF l s.data.toList);have ⟨z,E⟩:=qE (isN l s.data.toList);rw [<- G,<- E];have I:=qH G;have J:=qH E;clear G E
 go_enter func128,ntmps128
 go_wp2
 go_loopw [4,5,6] (fun a b i wr=>qut l s.data.toList w a b i wr) (fun _ _ i _=>l.length-(intOf i).toNat)
 case atStart=>exact ⟨rfl,rfl,0,by omega,rfl,bA _ _,fun j _ C=>by omega⟩
 case round=>
  obtain ⟨rfl,rfl,k,F,rfl,q,g⟩:=hrel;by_cases K:k<l.length
  ·have ⟨T,W,O,_,P⟩:=qdr (L.o.below q) K
   subst O;have ⟨x,y,h⟩:=qa8 l[k];rw [<- y] at P;by_cases d:l[k]<s.data.toList
   ·have S:=qjW (s:=x) (t:=s) (by rw [h];exact d)
    have N:qI (∀ j (C:j<l.length),j<k+1->l[j]<s.data.toList):=qH fun j C U=>by
     by_cases e:j=k
     ·subst e;exact d
     ·exact g j C (by omega)
    clear y h g d;go_wp2;go_roundw
    case rel=>exact ⟨rfl,rfl,k+1,by omega,by go_num,q,N.o⟩
    case measure=>simp [intOf];omega
   ·have S:=qjX (s:=x) (t:=s) (by rw [h];exact d)
    have D:p=k:=by rw [I.o];exact qhb F g (fun _=>d)
    have v:z=(l[k]==s.data.toList):=by
     have e:=qhb F g (fun _=>d);rw [J.o,qhc (by omega)];simp only [e]
    subst D;by_cases n:l[p]=s.data.toList
    ·have R:=qeY (s:=x) (t:=s) (by rw [h];exact n)
     have r:z=true:=by rw [v,n];exact beq_self_eq_true _
     subst r;clear y h g d v n;go_wp2
     go_quiet (fail)
     go_wp2;go_ret2;exact ⟨rfl,q.trans ⟨rfl,rfl,rfl,aA _,fun _ _=>rfl⟩⟩
    ·have R:=qfl (s:=x) (t:=s) (by rw [h];exact n)
     have r:z=false:=by rw [v];simpa using n
     subst r;clear y h g d v n;go_wp2
     go_quiet (fail)
     go_wp2;go_ret2;exact ⟨rfl,q.trans ⟨rfl,rfl,rfl,aA _,fun _ _=>rfl⟩⟩
  ·have B:k=l.length:=by omega
   have e:=qhb (s:=s.data.toList) F g (fun Q=>absurd Q K);have D:p=l.length:=by rw [I.o,e,B]
   have r:z=false:=by rw [J.o];exact qh2 (by rw [e,B])
   subst D r;clear g e B;go_wp2;go_ret2;exact ⟨rfl,q⟩
open Go.Shelf Go.Sort
def quv:Go.Shelf.Ren:=⟨fun |125=>158|128=>201|129=>202|190=>109|258=>157|302=>192|303=>193|304=>194|305=>195|306=>196|307=>197|308=>198|309=>199|310=>200|329=>228|330=>229|333=>227|334=>230|335=>231|336=>188|344=>246|n=>n,fun |0=>0|3=>3|4=>4|5=>5|9=>9|31=>40|46=>260|51=>297|53=>102|131=>142|182=>289|183=>290|218=>317|222=>321|228=>340|229=>312|n=>n,fun |n=>n⟩
def qnu:Lays.n190 prog quv:={
 mixed:=by kernel_rfl
 f125:=func158.trans (congrArg some (by kernel_rfl))
 f128:=func201.trans (congrArg some (by kernel_rfl))
 f129:=func202.trans (congrArg some (by kernel_rfl))
 f190:=func109.trans (congrArg some (by kernel_rfl))
 f258:=func157.trans (congrArg some (by kernel_rfl))
 f302:=func192.trans (congrArg some (by kernel_rfl))
 f303:=func193.trans (congrArg some (by kernel_rfl))
 f304:=func194.trans (congrArg some (by kernel_rfl))
 f305:=func195.trans (congrArg some (by kernel_rfl))
 f306:=func196.trans (congrArg some (by kernel_rfl))
 f307:=func197.trans (congrArg some (by kernel_rfl))
 f308:=func198.trans (congrArg some (by kernel_rfl))
 f309:=func199.trans (congrArg some (by kernel_rfl))
 f310:=func200.trans (congrArg some (by kernel_rfl))
 f329:=func228.trans (congrArg some (by kernel_rfl))
 f330:=func229.trans (congrArg some (by kernel_rfl))
 f333:=func227.trans (congrArg some (by kernel_rfl))
 f334:=func230.trans (congrArg some (by kernel_rfl))
 f335:=func231.trans (congrArg some (by kernel_rfl))
 f336:=func188.trans (congrArg some (by kernel_rfl))
 f344:=func246.trans (congrArg some (by kernel_rfl))
 t0:=underlying0
 a0:=Tryz.isAgg0
 z0:=Tryz.sizeOf0
 v0:=Tryz.zeroValue0
 t3:=underlying3
 a3:=Tryz.isAgg3
 z3:=Tryz.sizeOf3
 v3:=Tryz.zeroValue3
 t4:=underlying4
 a4:=Tryz.isAgg4
 z4:=Tryz.sizeOf4
 v4:=Tryz.zeroValue4
 t5:=underlying5
 a5:=Tryz.isAgg5
 z5:=Tryz.sizeOf5
 v5:=Tryz.zeroValue5
 t9:=underlying9
 a9:=Tryz.isAgg9
 z9:=Tryz.sizeOf9
 v9:=Tryz.zeroValue9
 t31:=underlying40
 a31:=Tryz.isAgg40
 z31:=Tryz.sizeOf40
 v31:=Tryz.zeroValue40
 t46:=underlying260
 a46:=Tryz.isAgg260
 z46:=Tryz.sizeOf260
 v46:=Tryz.zeroValue260
 t51:=underlying297
 a51:=Tryz.isAgg297
 z51:=Tryz.sizeOf297
 v51:=Tryz.zeroValue297
 t53:=underlying102
 a53:=Tryz.isAgg102
 z53:=Tryz.sizeOf102
 v53:=Tryz.zeroValue102
 t131:=underlying142
 a131:=Tryz.isAgg142
 z131:=Tryz.sizeOf142
 v131:=Tryz.zeroValue142
 t182:=underlying289
 a182:=Tryz.isAgg289
 z182:=Tryz.sizeOf289
 v182:=Tryz.zeroValue289
 t183:=underlying290
 a183:=Tryz.isAgg290
 z183:=Tryz.sizeOf290
 v183:=Tryz.zeroValue290
 t218:=underlying317
 a218:=Tryz.isAgg317
 z218:=Tryz.sizeOf317
 v218:=Tryz.zeroValue317
 t222:=underlying321
 a222:=Tryz.isAgg321
 z222:=Tryz.sizeOf321
 v222:=Tryz.zeroValue321
 t228:=underlying340
 a228:=Tryz.isAgg340
 z228:=Tryz.sizeOf340
 v228:=Tryz.zeroValue340
 t229:=underlying312
 a229:=Tryz.isAgg312
 z229:=Tryz.sizeOf312
 v229:=Tryz.zeroValue312}
def quw (zz:Nat) (v:Value) (xs:List Nm) (w:World) (q:qaB zz w v xs) (p:zz<=w.heap.size) (t:xs.length<=1073741824):
  yG 109 #[v] w fun e w'=>e= .returned (.tuple #[])/\qaB zz w' v (xs.mergeSort fun x y=>decide (x<=y))/\Below zz w w':=by
 have h:(xs.mergeSort fun x y=>decide (x<=y)).length=xs.length:=List.length_mergeSort xs;rcases q.2 with ⟨rfl,k⟩|⟨g,l,s,rfl,d,b,h1,h2,h3,m⟩
 ·obtain rfl:xs=[]:=sB k
  exact (Any.slices_Sort_string_none qnu none 0 w).mono fun e w' ⟨c,a⟩=>⟨c,by rw [a];simpa using qaB.nil,by rw [a];exact bA _ _⟩
 ·have r:Holds encStr w g 0 xs.toArray:=holds_of_block b (by simpa [qad] using m)
  refine (Any.slices_Sort_string qnu g 0 l xs w r (mG b) (by omega)).mono fun e w' ⟨c,n,os,a⟩=>⟨c,?_,?_⟩
  ·rw [a]
   unfold qaB;rw [h];exact ownsRow_sorted h d b h1 h2 h3
  ·rw [a]
   exact (bA zz w).grown (grownBy_sorted _) p (fun j i=>by cases i;exact d)
def qaY:List Nm->List Nat->List Value
 |x::l,v::vs=> .string ⟨x.toArray⟩:: .pointer (some ⟨v,0,none⟩)::qaY l vs
 |_,_=>[]
def qfM (vs:List Nat):qaY [] vs=[]:=by cases vs<;>rfl
def qhp:∀ {l:List Nm} {vs:List Nat},vs.length=l.length->(qaY l vs).length=l.length*2
 |[],vs,_=>by rw [qfM];rfl
 |x::l,[],a=>by simp at a
 |x::l,v::vs,a=>by
  have :=qhp (l:=l) (vs:=vs) (by simpa using a);simp only [qaY,nA,this];omega
def qhq:∀ {l:List Nm} {vs:List Nat} {k:Nat} (c:vs.length=l.length) (b:k<l.length),(qaY l vs)[k*2]?=some (.string ⟨l[k].toArray⟩)/\(qaY l vs)[k*2+1]?=some (.pointer (some ⟨vs.getD k 0,0,none⟩))
 |[],_,_,_,a=>by simp at a
 |x::l,[],_,a,_=>by simp at a
 |x::l,v::vs,0,_,_=>⟨rfl,rfl⟩
 |x::l,v::vs,k+1,a,b=>by
  have :=qhq (l:=l) (vs:=vs) (k:=k) (by simpa using a) (by simpa using b);rw [show (k+1)*2=k*2+1+1 by omega];simpa [qaY] using this
def qj7:∀ {l:List Nm} {vs:List Nat} {x:Nm} {v:Nat},vs.length=l.length->qaY (l++[x]) (vs++[v])=qaY l vs++[.string ⟨x.toArray⟩,.pointer (some ⟨v,0,none⟩)]
 |[],[],x,v,_=>rfl
 |[],_::_,_,_,a=>by simp at a
 |_::_,[],_,_,a=>by simp at a
 |y::l,u::vs,x,v,a=>by
  have :=qj7 (l:=l) (vs:=vs) (x:=x) (v:=v) (by simpa using a);simp only [bC,qaY,this]
def qj8:∀ {l:List Nm} {vs:List Nat} (k:Nat),vs.length=l.length->(qaY l vs).drop (k*2)=qaY (l.drop k) (vs.drop k)
 |l,vs,0,_=>by simp
 |[],vs,k+1,_=>by simp [qfM]
 |x::l,[],k+1,a=>by simp at a
 |x::l,v::vs,k+1,a=>by
  rw [show (k+1)*2=k*2+1+1 by omega,sE,sE,qaY,sE,sE];exact qj8 k (by simpa using a)
theorem qux:(prog.info? 177).map (fun i=>(i.zero,i.size,i.bytes))=some (some (.agg #[.string ByteArray.empty,.pointer none]),2,24):=by kernel_rfl
def qce (w:World) (B o:Nat) (l:List Nm) (vs:List Nat):Prop:=
 B<w.heap.size/\vs.length=l.length/\∃ A c,w.cell? ⟨B,o,none⟩=some (.slice A l.length c)/\l.length<=c/\c<=maxLen/\Row w w.heap.size A (qaY l vs)/\(A=none/\l=[]/\c=0\/∃ g,A=some ⟨g,0,none⟩)
def qce.below {o:Nat} {vs:List Nat} (e:qce w B o l vs) (a:wG w w'):qce w' B o l vs:=by
 obtain ⟨h1,h2,A,c,h3,b,g,h,d⟩:=e;exact ⟨tB h1 a.size,h2,A,c,(a.cell (p:=⟨B,o,none⟩) h1).trans h3,b,g,Row.later h a,d⟩
def qce.lt {o:Nat} {vs:List Nat} (a:qce w B o l vs):B<w.heap.size:=a.1
def qce.read {o:Nat} {vs:List Nat} (a:qce w B o l vs):
  ∃ A c,w.cell? ⟨B,o,none⟩=some (.slice A l.length c)/\l.length<=c/\c<=maxLen/\Row w w.heap.size A (qaY l vs)/\(A=none/\l=[]/\c=0\/∃ g,A=some ⟨g,0,none⟩):=a.2.2
def qce.ent {o:Nat} {vs:List Nat} (j:qce w B o l vs) {k:Nat} (m:k<l.length):
  ∃ b a c,w.cell? ⟨B,o,none⟩=some (.slice (some ⟨b,a,none⟩) l.length c)/\l.length<=c/\c<=maxLen/\b<w.heap.size/\w.cell? ⟨b,a+k*2,none⟩=some (.string ⟨l[k].toArray⟩)/\w.cell? ⟨b,a+k*2+1,none⟩=some (.pointer (some ⟨vs.getD k 0,0,none⟩)):=by
 obtain ⟨_,e,A,c,h1,h2,h3,h,_⟩:=j;obtain ⟨b,a,rfl,i,d⟩:=h.at_ (by rw [qhp e];omega);have ⟨n,g⟩:=qhq e m;exact ⟨b,a,c,h1,h2,h3,i,d _ _ n,by have :=d _ _ g;rwa [<- uB] at this⟩
def qj9 (B o:Nat) (l:List Nm) (vs:List Nat) (w:World) (a:qce w B o l vs):
  yG 98 #[.pointer (some ⟨B,o,none⟩)] w fun e w'=>e= .returned (.int .i64 (l.length:Int))/\w=w':=by
 obtain ⟨_,_,A,c,b,_⟩:=a
 go_enter func98,ntmps98
 go_wp2;go_ret;exact ⟨rfl,rfl⟩
def quy (l:List Nm) (w:World) (r i:Value) (wr:World):Prop:=r= .bool false/\∃ k:Nat,1<=k/\i= .int .i64 (k:Int)/\wG w wr/\∀ j (a:j<l.length),0<j->j<k->l[j-1]<l[j]
def qka (s:ByteArray) (w:World):yG 188 #[.string s] w fun e w'=>e= .returned (.bool false)/\w=w':=by
 go_enter func188,ntmps188
 go_wp2;go_ret;exact ⟨by simp,rfl⟩
def qnv (x y:ByteArray) (w:World):yG 153 #[.string x,.string y] w fun e w'=>e= .returned (.int .i64 (qaO x.data.toList y.data.toList))/\w=w':=by
 have c:Op.bytesLess x.toList y.toList=decide (x.data.toList<y.data.toList):=by rw [Lib.toList_data,Lib.toList_data,qhn]
 have b:(x.toList==y.toList)=decide (x.data.toList=y.data.toList):=by rw [Lib.toList_data,Lib.toList_data,kD];simp
 by_cases h1:x.data.toList<y.data.toList
 ·have a:qaO x.data.toList y.data.toList= -1:=by simp [qaO,h1]
  rw [yA h1] at c;rw [a];clear b a h1
  go_enter func153,ntmps153
  go_wp2_with (go_at_call 188;refine (qka _ _).mono ?_;rintro e w' ⟨rfl,rfl⟩)
  go_ret;exact ⟨rfl,rfl⟩
 ·rw [uA h1] at c
  by_cases h2:x.data.toList=y.data.toList
  ·have a:qaO x.data.toList y.data.toList=0:=by simp [qaO,h2]
   rw [yA h2] at b;rw [a];clear a h1 h2
   go_enter func153,ntmps153
   go_wp2_with (go_at_call 188;refine (qka _ _).mono ?_;rintro e w' ⟨rfl,rfl⟩)
   go_ret;exact ⟨rfl,rfl⟩
  ·have a:qaO x.data.toList y.data.toList=1:=by simp [qaO,h1,h2]
   rw [uA h2] at b;rw [a];clear a h1 h2
   go_enter func153,ntmps153
   go_wp2_with (go_at_call 188;refine (qka _ _).mono ?_;rintro e w' ⟨rfl,rfl⟩)
   go_ret;exact ⟨rfl,rfl⟩
def quz:Go.Shelf.Ren:=⟨fun |16=>212|n=>n,fun |4=>4|9=>9|24=>40|n=>n,fun |n=>n⟩
def qkb:Lays2.n16 prog quz:={
 mixed:=by kernel_rfl
 f16:=func212.trans (congrArg some (by kernel_rfl))
 t4:=underlying4
 a4:=Tryz.isAgg4
 z4:=Tryz.sizeOf4
 v4:=Tryz.zeroValue4
 t9:=underlying9
 a9:=Tryz.isAgg9
 z9:=Tryz.sizeOf9
 v9:=Tryz.zeroValue9
 t24:=underlying40
 a24:=Tryz.isAgg40
 z24:=Tryz.sizeOf40
 v24:=Tryz.zeroValue40
 i9:=by kernel_rfl}
def quA:Go.Shelf.Ren:=⟨fun |125=>158|128=>201|129=>202|190=>109|258=>157|302=>192|303=>193|304=>194|305=>195|306=>196|307=>197|308=>198|309=>199|310=>200|329=>228|330=>229|333=>227|334=>230|335=>231|336=>188|344=>246|n=>n,fun |0=>0|3=>3|4=>4|5=>5|9=>9|31=>40|46=>260|51=>297|53=>102|131=>142|182=>289|183=>290|218=>317|222=>321|228=>340|229=>312|n=>n,fun |n=>n⟩
def qnw:Lays.n190 prog quA:={
 mixed:=by kernel_rfl
 f125:=func158.trans (congrArg some (by kernel_rfl))
 f128:=func201.trans (congrArg some (by kernel_rfl))
 f129:=func202.trans (congrArg some (by kernel_rfl))
 f190:=func109.trans (congrArg some (by kernel_rfl))
 f258:=func157.trans (congrArg some (by kernel_rfl))
 f302:=func192.trans (congrArg some (by kernel_rfl))
 f303:=func193.trans (congrArg some (by kernel_rfl))
 f304:=func194.trans (congrArg some (by kernel_rfl))
 f305:=func195.trans (congrArg some (by kernel_rfl))
 f306:=func196.trans (congrArg some (by kernel_rfl))
 f307:=func197.trans (congrArg some (by kernel_rfl))
 f308:=func198.trans (congrArg some (by kernel_rfl))
 f309:=func199.trans (congrArg some (by kernel_rfl))
 f310:=func200.trans (congrArg some (by kernel_rfl))
 f329:=func228.trans (congrArg some (by kernel_rfl))
 f330:=func229.trans (congrArg some (by kernel_rfl))
 f333:=func227.trans (congrArg some (by kernel_rfl))
 f334:=func230.trans (congrArg some (by kernel_rfl))
 f335:=func231.trans (congrArg some (by kernel_rfl))
 f336:=func188.trans (congrArg some (by kernel_rfl))
 f344:=func246.trans (congrArg some (by kernel_rfl))
 t0:=underlying0
 a0:=Tryz.isAgg0
 z0:=Tryz.sizeOf0
 v0:=Tryz.zeroValue0
 t3:=underlying3
 a3:=Tryz.isAgg3
 z3:=Tryz.sizeOf3
 v3:=Tryz.zeroValue3
 t4:=underlying4
 a4:=Tryz.isAgg4
 z4:=Tryz.sizeOf4
 v4:=Tryz.zeroValue4
 t5:=underlying5
 a5:=Tryz.isAgg5
 z5:=Tryz.sizeOf5
 v5:=Tryz.zeroValue5
 t9:=underlying9
 a9:=Tryz.isAgg9
 z9:=Tryz.sizeOf9
 v9:=Tryz.zeroValue9
 t31:=underlying40
 a31:=Tryz.isAgg40
 z31:=Tryz.sizeOf40
 v31:=Tryz.zeroValue40
 t46:=underlying260
 a46:=Tryz.isAgg260
 z46:=Tryz.sizeOf260
 v46:=Tryz.zeroValue260
 t51:=underlying297
 a51:=Tryz.isAgg297
 z51:=Tryz.sizeOf297
 v51:=Tryz.zeroValue297
 t53:=underlying102
 a53:=Tryz.isAgg102
 z53:=Tryz.sizeOf102
 v53:=Tryz.zeroValue102
 t131:=underlying142
 a131:=Tryz.isAgg142
 z131:=Tryz.sizeOf142
 v131:=Tryz.zeroValue142
 t182:=underlying289
 a182:=Tryz.isAgg289
 z182:=Tryz.sizeOf289
 v182:=Tryz.zeroValue289
 t183:=underlying290
 a183:=Tryz.isAgg290
 z183:=Tryz.sizeOf290
 v183:=Tryz.zeroValue290
 t218:=underlying317
 a218:=Tryz.isAgg317
 z218:=Tryz.sizeOf317
 v218:=Tryz.zeroValue317
 t222:=underlying321
 a222:=Tryz.isAgg321
 z222:=Tryz.sizeOf321
 v222:=Tryz.zeroValue321
 t228:=underlying340
 a228:=Tryz.isAgg340
 z228:=Tryz.sizeOf340
 v228:=Tryz.zeroValue340
 t229:=underlying312
 a229:=Tryz.isAgg312
 z229:=Tryz.sizeOf312
 v229:=Tryz.zeroValue312}
def quB:Go.Shelf.Ren:=⟨fun |194=>213|n=>n,fun |0=>0|3=>3|4=>4|9=>9|31=>40|n=>n,fun |n=>n⟩
def qnx:Lays.n194 prog quB:={
 mixed:=by kernel_rfl
 f194:=func213.trans (congrArg some (by kernel_rfl))
 t0:=underlying0
 a0:=Tryz.isAgg0
 z0:=Tryz.sizeOf0
 v0:=Tryz.zeroValue0
 t3:=underlying3
 a3:=Tryz.isAgg3
 z3:=Tryz.sizeOf3
 v3:=Tryz.zeroValue3
 t4:=underlying4
 a4:=Tryz.isAgg4
 z4:=Tryz.sizeOf4
 v4:=Tryz.zeroValue4
 t9:=underlying9
 a9:=Tryz.isAgg9
 z9:=Tryz.sizeOf9
 v9:=Tryz.zeroValue9
 t31:=underlying40
 a31:=Tryz.isAgg40
 z31:=Tryz.sizeOf40
 v31:=Tryz.zeroValue40}
def quC (A:Option Addr) (n c:Nat) (xs:List Nm) (w:World) (q:xs.length=n) (p:Row w w.heap.size A (qad xs)) (B:n<=1073741824):
  yG 212 #[.slice A n c] w (qeE xs w):=by
 rcases A with _|a
 ·have h:xs=[]:=by
   rcases p with l|⟨_,_,l,_⟩
   ·exact sB (by rw [<- qfJ,l];rfl)
   ·cases l
  subst h;exact (Any.slices_Clone_string_nil qkb n c w).mono fun e w' ⟨d,r⟩=>⟨_,d,qaB.nil,by rw [r];exact bA _ _⟩
 ·by_cases h:n=0
  ·subst h
   obtain rfl:xs=[]:=sB q;exact (Any.slices_Clone_string_zero qkb a c w).mono fun e w' ⟨v,d,k,_,i⟩=>⟨v,d,k,i⟩
  ·have ⟨b,s,m,z,t⟩:=p.at_ (by rw [qfJ];omega)
   injection m with m
   subst m;refine (Any.slices_Clone_string qkb b s n c (xs.map fun x=>⟨x.toArray⟩) w (by simp;omega) (by omega) (fun j g=> ?_)).mono fun e w' ⟨v,d,k,_,i⟩=>⟨v,d,?_,i⟩
   ·rw [gB] at g
    rw [t j (.string ⟨xs[j].toArray⟩) (by simp [qad,g])];simp [List.getD,g]
   ·unfold qaB
    rw [q];have y:((xs.map fun x=>(⟨x.toArray⟩:ByteArray)).take n).map Value.string=qad xs:=by
     rw [nB (by simp;omega),List.map_map];rfl
    rw [<- y];exact k
def quD (zz:Nat) (v:Value) (xs:List Nm) (w:World) (q:qaB zz w v xs) (p:zz<=w.heap.size) (t:xs.length<=1073741824):
  yG 109 #[v] w fun e w'=>e= .returned (.tuple #[])/\qaB zz w' v (xs.mergeSort fun x y=>decide (x<=y))/\Below zz w w':=by
 have h:(xs.mergeSort fun x y=>decide (x<=y)).length=xs.length:=List.length_mergeSort xs;rcases q.2 with ⟨rfl,k⟩|⟨g,l,s,rfl,d,b,h1,h2,h3,m⟩
 ·obtain rfl:xs=[]:=sB k
  exact (Any.slices_Sort_string_none qnw none 0 w).mono fun e w' ⟨c,a⟩=>⟨c,by rw [a];simpa using qaB.nil,by rw [a];exact bA _ _⟩
 ·have r:Holds encStr w g 0 xs.toArray:=holds_of_block b (by simpa [qad] using m)
  refine (Any.slices_Sort_string qnw g 0 l xs w r (mG b) (by omega)).mono fun e w' ⟨c,n,os,a⟩=>⟨c,?_,?_⟩
  ·rw [a]
   unfold qaB;rw [h];exact ownsRow_sorted h d b h1 h2 h3
  ·rw [a]
   exact (bA zz w).grown (grownBy_sorted _) p (fun j i=>by cases i;exact d)
def quE (zz:Nat) (v:Value) (xs:List Nm) (w:World) (c:qaB zz w v xs) (s:xs.length<=1073741824):
  yG 213 #[v] w fun e w'=>∃ v',e= .returned v'/\qaB zz w' v' (Lib.compact xs)/\Below zz w w':=by
 have p:=Lib.compact_length_le xs;rcases c.2 with ⟨rfl,h⟩|⟨g,j,r,rfl,n,i,h1,h2,h3,l⟩
 ·obtain rfl:xs=[]:=sB h
  exact (Any.slices_Compact_string_empty qnx none 0 w).mono fun e w' ⟨b,a⟩=>⟨_,b,by rw [a];exact qaB.nil,by rw [a];exact bA _ _⟩
 ·have m:Holds encStr w g 0 xs.toArray:=holds_of_block i (by simpa [qad] using l)
  refine (Any.slices_Compact_string qnx g 0 j xs w m (by omega) h1).mono fun e w' ⟨b,q,a⟩=>⟨_,b,?_,?_⟩
  ·rw [a]
   have d:=Lib.ownsRow_putRow (q:=q) (k:=(Lib.compact xs).length) (ys:=Lib.compact xs++List.replicate (xs.length-(Lib.compact xs).length) []) c (by simp;omega) (by omega);rw [List.take_left] at d;exact d
  ·rw [a]
   exact Lib.below_putRow (bA zz w) n
def qkc (s:ByteArray) (w:World):yG 188 #[.string s] w fun e w'=>e= .returned (.bool false)/\w=w':=by
 go_enter func188,ntmps188
 go_wp2;go_ret;exact ⟨by simp,rfl⟩
def quF (x y:ByteArray) (w:World):yG 153 #[.string x,.string y] w fun e w'=>e= .returned (.int .i64 (qaO x.data.toList y.data.toList))/\w=w':=by
 have c:Op.bytesLess x.toList y.toList=decide (x.data.toList<y.data.toList):=by rw [Lib.toList_data,Lib.toList_data,qhn]
 have b:(x.toList==y.toList)=decide (x.data.toList=y.data.toList):=by rw [Lib.toList_data,Lib.toList_data,kD];simp
 by_cases h1:x.data.toList<y.data.toList
 ·have a:qaO x.data.toList y.data.toList= -1:=by simp [qaO,h1]
  rw [yA h1] at c;rw [a];clear b a h1
  go_enter func153,ntmps153
  go_wp2_with (go_at_call 188;refine (qkc _ _).mono ?_;rintro e w' ⟨rfl,rfl⟩)
  go_ret;exact ⟨rfl,rfl⟩
 ·rw [uA h1] at c
  by_cases h2:x.data.toList=y.data.toList
  ·have a:qaO x.data.toList y.data.toList=0:=by simp [qaO,h2]
   rw [yA h2] at b;rw [a];clear a h1 h2
   go_enter func153,ntmps153
   go_wp2_with (go_at_call 188;refine (qkc _ _).mono ?_;rintro e w' ⟨rfl,rfl⟩)
   go_ret;exact ⟨rfl,rfl⟩
  ·have a:qaO x.data.toList y.data.toList=1:=by simp [qaO,h1,h2]
   rw [uA h2] at b;rw [a];clear a h1 h2
   go_enter func153,ntmps153
   go_wp2_with (go_at_call 188;refine (qkc _ _).mono ?_;rintro e w' ⟨rfl,rfl⟩)
   go_ret;exact ⟨rfl,rfl⟩
open Plain (Wd WS Rep qaJ qdp getW hasB mayB ones qjq qjr qdX pop qtW)
def qbd (w:World) (zz B:Nat) (r:List Bool):Prop:=∃ ws,qbr w zz B r.length ws/\Rep r ws
def qbd.below {r:List Bool} (a:qbd w zz B r) (b:wG w w'):qbd w' zz B r:=by
 obtain ⟨ws,h1,h2⟩:=a;exact ⟨ws,h1.below b,h2⟩
def qbd.low {r:List Bool} (a:qbd w zz B r) (b:k<=zz):qbd w k B r:=by
 obtain ⟨ws,h1,h2⟩:=a;exact ⟨ws,h1.low b,h2⟩
def quG (zz B n:Nat) (ws:List Wd) (i:Int) (w:World) (a:qbr w zz B n ws) (g:n<=big):
  yG 72 #[.pointer (some ⟨B,0,none⟩),.int .i64 i] w fun e w'=>e= .returned (.bool (mayB n i))/\w=w':=by
 have ⟨A,c,k,j,h,d⟩:=a.read;clear d a h j;unfold big at g;by_cases b:0<=i
 ·go_enter func72,ntmps72
  go_wp2;go_ret;exact ⟨qel (by unfold mayB;simp [b]),rfl⟩
 ·go_enter func72,ntmps72
  go_wp2;go_ret;exact ⟨qel (by unfold mayB;simp;omega),rfl⟩
def quH (zz B n:Nat) (ws:List Wd) (w:World) (a:qbr w zz B n ws):
  yG 80 #[.pointer (some ⟨B,0,none⟩)] w fun e w'=>e= .returned (.int .i64 n)/\w=w':=by
 have ⟨A,c,h,g,d,b⟩:=a.read;clear b a d g
 go_enter func80,ntmps80
 go_wp2;go_ret;exact ⟨rfl,rfl⟩
def quI (ws:List Wd) (s t:Value):Prop:=∃ k:Nat,k<=ws.length/\t= .int .i64 k/\s= .int .i64 (qdX (ws.take k):Nat)
def quJ (A:Option Addr) (n c:Nat) (ws:List Wd) (w:World) (E:ws.length=n) (g:Row w w.heap.size A (qab ws)) (G:ws.length<=33554432) (v:∀ p∈ws,p.2<18446744073709551616):
  yG 168 #[.slice A n c] w fun e w'=>e= .returned (.int .i64 (qdX ws:Nat))/\w=w':=by
 subst E;have y:=qH g;have z:=qH v;clear g v
 go_enter func168,ntmps168
 go_wp2
 go_loop [3,7] (quI ws) (fun _ k=>ws.length-(intOf k).toNat)
 case atStart=>exact ⟨0,kA _,rfl,rfl⟩
 case round=>
  obtain ⟨k,D,rfl,rfl⟩:=hrel;by_cases a:k<ws.length
  ·have ⟨F,I,B,H,C,x⟩:=qgF y.o a
   subst B;have b:=Plain.countW_take a;have h:=Plain.countW_le (ws.take k);rw [sA,eD D] at h;have t:=Plain.pop_le (ws[k]'a).2;have i:=z.o _ (pA a);have ⟨p,j⟩:=qE (ws[k]'a);rw [<- j] at C x b t i;clear j;have d:=qH b;clear b;have ⟨s,m⟩:=qE (qdX (ws.take k));rw [<- m] at h d ⊢;clear m;have l:=qH (qtN p.2 w i);have ⟨q,r⟩:=qE (pop p.2);rw [<- r] at l d t;clear r
   go_wp2_with (go_at_call 207;refine l.o.mono ?_;rintro e w' ⟨rfl,rfl⟩)
   go_round
   case rel=>exact ⟨k+1,by omega,by go_num,by rw [d.o];go_num⟩
   case measure=>simp [intOf];omega
  ·obtain rfl:k=ws.length:=by omega
   go_wp2;go_ret;exact ⟨by first|rfl|(rw [fC];rfl),rfl⟩
def quK (zz B n:Nat) (ws:List Wd) (w:World) (d:qbr w zz B n ws) (a:WS n ws) (g:n<=big):
  yG 129 #[.pointer (some ⟨B,0,none⟩)] w fun e w'=>e= .returned (.int .i64 (qdX ws:Nat))/\w=w':=by
 have ⟨A,c,k,j,h,b⟩:=d.read;have l:=(qgH a g).1;have i:=qH (quJ A ws.length c ws w rfl b (by omega) a.fits);clear b d h a
 go_enter func129,ntmps129
 go_wp2_with (go_at_call 168;refine i.o.mono ?_;rintro e w' ⟨rfl,rfl⟩)
 go_ret;exact ⟨rfl,rfl⟩
def quL (n:Int) (w:World) (e:Ending) (w':World):Prop:=e= .returned (.int .i64 n)/\wG w w'
def quM (zz B:Nat) (r:List Bool) (w:World) (c:qbd w zz B r) (b:r.length<=big):
  yG 129 #[.pointer (some ⟨B,0,none⟩)] w fun e w'=>e= .returned (.int .i64 ((ones r).length:Nat))/\w=w':=by
 obtain ⟨ws,d,a⟩:=c;rw [<- a.count];exact quK zz B r.length ws w d a.wds b
def quN (zz B:Nat) (r:List Bool) (w:World) (a:qbd w zz B r):
  yG 80 #[.pointer (some ⟨B,0,none⟩)] w fun e w'=>e= .returned (.int .i64 (r.length:Nat))/\w=w':=by
 obtain ⟨ws,b,c⟩:=a;exact quH zz B r.length ws w b
def Tab.drewN (b:Tab w) (n:Nat):Tab (w.drewN n):=fun j a=>b j a
def Tab.alloc (a:Tab w) (o:Obj):Tab (w.alloc o):=a.below ((bA _ _).alloc (aA _) _) a.lt
def quO (a y:Nat) (w:World) (n:a<=33554432) (c:y<18446744073709551616) (e:y≠0) (b:Tab w):
  yG 171 #[.agg #[.int .i64 a,.int .u64 y]] w (quL ((a*64+Lib.ctz 64 y:Nat):Int) w):=by
 have k:=(Plain.ctz_bit c e).choose_spec.2;have h:=qH (fun w b=>(qtR y c e w b).mono fun _ _ g=>And.intro g.1 g.2.symm);have j:=qH (b.alloc (.cells #[.int .i64 a,.int .u64 y] 104));have ⟨z,i⟩:=qE (Lib.ctz 64 y);rw [<- i] at h k ⊢;have d:((a*64+z:Nat):Int)=(a:Int)*64+(z:Int):=by omega
 rw [d];clear i b d c;have m:IntKind.i64.wrap ((a:Int)*64)=(a:Int)*64:=by rw [IntKind.wrap_i64];omega
 have l:IntKind.i64.wrap ((a:Int)*64+(z:Int))=(a:Int)*64+(z:Int):=by rw [IntKind.wrap_i64];omega
 go_enter func171,ntmps171
 go_wp2
 go_quiet ((go_at_call 209;exact Calls.quiet_of_same (h.o _ (j.o.drewN _))))
 go_wp2;go_ret;exact ⟨rfl,((bA _ _).alloc (aA _) _).trans ⟨rfl,rfl,rfl,aA _,fun _ _=>rfl⟩⟩
def qkd {a b:List UInt8} (d:b.length=m) (c:w'.ownsRow zz 5 1 v' (a.length+m) (Lib.byteCells a++Lib.byteCells b)):Own zz w' v' (a++b):=by
 unfold Own;rw [Lib.byteCells_append,iA,d];exact c
def qny {l:List Po} (a:k<l.length):l.drop k=l.getD k (0,[])::l.drop (k+1):=by
 rw [yD a,mA,oA a];rfl
def quP (B:Nat):Below B w (w.drewN n):=⟨rfl,rfl,rfl,aA _,fun _ _=>rfl⟩
def qnz:∀ {l:List Po} {x:Int},0<l.length->qaP x l=(l.getD (l.length-1) (0,[])).1
 |[],_,h=>by simp at h
 |[p],x,_=>rfl
 |p::q::r,x,_=>by
  have a:=qnz (l:=q::r) (x:=p.1) (by simp);rw [qaP,a];simp
def quQ (l:List UInt8) (a:Int):(∃ e:Int,qdj l a=([],0,e)/\e≠0)\/∃ (ps:List Int) (q:Nat),qdj l a=(ps,(q:Int),0)/\q<=l.length/\ps.length<=l.length:=by
 have c:=qu8 l a;rcases qim l a with ⟨e,d,i⟩|⟨n,b,d,g,_⟩
 ·exact .inl ⟨e,qkm d (by omega),by omega⟩
 ·rw [qkn d] at c ⊢
  rcases h:qcI l n (-1) b [] with _|⟨xs,q⟩
  ·exact .inl ⟨2,rfl,by omega⟩
  ·rw [h] at c
   have :=qko n l _ _ _ xs q h g;exact .inr ⟨xs,q,rfl,this.2,c⟩
def qnA:∀ {l:List Po} {n:Nat},(∀ p∈l,p.2.length<=n)->qaG l<=l.length*n
 |[],_,_=>by simp [qaG]
 |p::r,n,a=>by
  have h1:=a p (by simp);have h2:=qnA (l:=r) fun q b=>a q (by simp [b])
  rw [qaG,nA,Nat.add_mul,Nat.one_mul];omega
def quR {l:List Po} (c:k<l.length):qaG (l.take (k+1))=qaG (l.take k)+(l.getD k (0,[])).2.length:=by
 have e:∀ (a b:List Po),qaG (a++b)=qaG a+qaG b:=by
  intro a
  induction a with
  |nil=>intro b;simp [qaG]
  |cons p r d=>intro b;simp [qaG,d,uB]
 rw [aB c,e,mA,oA c];simp [qaG]
def qnB {l:List Po} (k:Nat):qaG (l.take k)<=qaG l:=by
 have e:∀ (a b:List Po),qaG (a++b)=qaG a+qaG b:=by
  intro a
  induction a with
  |nil=>intro b;simp [qaG]
  |cons p r d=>intro b;simp [qaG,d,uB]
 have c:=e (l.take k) (l.drop k);rw [gD] at c;omega
def qeo {e:TypeId} {size:Nat} (b:w.ownsRow zz e size v n xs):∃ A c,v= .slice A n c/\(n<=c/\c<=maxLen)/\Row w w.heap.size A xs:=by
 obtain ⟨A,c,rfl,h,d⟩:=qaK b;refine ⟨A,c,rfl,⟨h,?_⟩,d⟩;rcases b.2 with ⟨a,_⟩|⟨g,k,j,a,_,_,_,i,_⟩
 ·injection a with _ _ e
  rw [e];exact kA _
 ·injection a with _ _ e
  rw [e];exact i
theorem qfN:(prog.info? 74).map (fun i=>(i.zero,i.size,i.bytes))=some (some (.agg #[.int .i64 0,.slice none 0 0]),2,32):=by kernel_rfl
