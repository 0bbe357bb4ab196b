import Derived.Test.YtpehcaidjlemiaaGreatDoorMMZz
import Derived.Lib.Hide
import Derived.Test.YtpehcaidjlemiaaGreatDoorProg
import Derived.Deep.AppendLies
import Derived.Lib.TrailingZeros
import Derived.Lib.RowBridge
import Derived.Shelf.Strings.Builder2
import Derived.Shelf.Strings.BuilderRune
import Derived.Shelf.Utf8.RuneCount
import Derived.Shelf.SlicesE.Clone
import Derived.Shelf.SlicesQ.IndexFunc
import Derived.Shelf.SlSortCmp.NoneTotal
import Derived.RangeFuncNested
import Derived.Deep.RegionHeld3
import Derived.OrdersIn
import Derived.Lib.AppendZeros
set_option maxHeartbeats 1000000
universe u
set_option linter.all false
namespace Go.Proofs.YtpehcaidjlemiaaGreatDoor
open Go Go.RowKit
variable {w w' w'' w0:World} {k n b c i j m zz B:Nat} {A:Option Addr} {v v':Value} {xs:List Value} {t:TypeId} {a:Int} {l:List (List UInt8)} {q:List Int} {S:Nat → Prop} {ws:List (Nat × Nat)}
def qI (p:Prop):Prop:=p
def qI.o {p:Prop} (h:qI p):p:=h
def qH {p:Prop} (h:p):qI p:=h
def qE {α:Sort u} (a:α):∃ b,b=a:=⟨a,rfl⟩
abbrev aA:=@Nat.le_refl
abbrev bA:=@Below.refl
abbrev dA:=@if_neg
abbrev eA:=@if_pos
abbrev gA:=@Array.getElem?_eq_some_iff
abbrev iA:=@List.length_append
abbrev jA:=@heap_alloc_new
abbrev kA:=@Nat.zero_le
abbrev lA:=@Nat.le_trans
abbrev mA:=@List.getD_eq_getElem?_getD
abbrev nA:=@List.length_cons
abbrev oA:=@List.getElem?_eq_getElem
abbrev pA:=@List.getElem_mem
abbrev rA:=@Below.heap_setCell
abbrev sA:=@List.length_take
abbrev tA:=@List.mem_map
abbrev uA:=@decide_eq_false
abbrev vA:=@World.ownsRow_nil
abbrev wA:=@List.mem_cons
abbrev xA:=@Bool.and_eq_true
abbrev yA:=@decide_eq_true
abbrev aB:=@List.take_succ_eq_append_getElem
abbrev bB:=@List.length_singleton
abbrev eB:=@List.mem_cons_self
abbrev gB:=@List.length_map
abbrev iB:=@List.append_assoc
abbrev jB:=@Option.some.injEq
abbrev kB:=@Nat.zero_add
abbrev lB:=@heap_setCell_same
abbrev nB:=@List.take_of_length_le
abbrev oB:=@List.mem_cons_of_mem
abbrev pB:=@Below.heap_alloc
abbrev rB:=@List.length_drop
abbrev sB:=@List.eq_nil_of_length_eq_zero
abbrev tB:=@Nat.lt_of_lt_of_le
abbrev uB:=@Nat.add_assoc
abbrev vB:=@List.length_nil
abbrev wB:=@wpList_append_own
abbrev xB:=@List.map_cons
abbrev yB:=@List.mem_singleton
abbrev aC:=@List.mem_append
abbrev bC:=@List.cons_append
abbrev cC:=@Addr.add_lit
abbrev dC:=@List.pairwise_iff_getElem
abbrev eC:=@List.getElem_map
abbrev fC:=@List.take_length
abbrev gC:=@decide_eq_true_iff
abbrev iC:=@decide_eq_true_eq
abbrev jC:=@List.map_append
abbrev kC:=@List.pairwise_cons
abbrev lC:=@List.nil_append
abbrev mC:=@List.append_nil
abbrev nC:=@List.getElem_of_mem
abbrev oC:=@List.getElem?_append_right
abbrev pC:=@List.drop_of_length_le
abbrev rC:=@run_underlying
abbrev sC:=@List.getElem?_eq_none
abbrev tC:=@World.cell?_of_block
abbrev uC:=@List.length_set
abbrev vC:=@World.block_lt_of_cell?
abbrev wC:=@Array.length_toList
abbrev yC:=@List.getElem?_eq_some_iff
abbrev aD:=@List.pairwise_map
abbrev dD:=@List.ext_getElem
abbrev eD:=@Nat.min_eq_left
abbrev fD:=@List.getElem?_append_left
abbrev gD:=@List.take_append_drop
abbrev iD:=@List.size_toArray
abbrev jD:=@List.push_toArray
abbrev kD:=@Bool.eq_iff_iff
abbrev lD:=@Prod.mk.injEq
abbrev mD:=@of_decide_eq_true
abbrev nD:=@beq_eq_false_iff_ne
abbrev pD:=@beq_iff_eq
abbrev rD:=@Int.toNat_natCast
abbrev sD:=@Bool.true_and
abbrev tD:=@Array.replicate_succ
abbrev uD:=@Array.replicate_zero
abbrev vD:=@List.append_toArray
abbrev wD:=@List.length_filter_le
abbrev yD:=@List.drop_eq_getElem_cons
abbrev aE:=@List.getElem?_set
abbrev bE:=@Nat.sub_self
abbrev dE:=@Nat.mul_le_mul_right
abbrev eE:=@List.drop_eq_nil_of_le
abbrev iE:=@List.mem_of_getElem?
abbrev jE:=@List.getElem_set_ne
abbrev mE:=@List.findIdx_cons
abbrev nE:=@List.mem_filter
abbrev oE:=@Bool.false_and
abbrev pE:=@bodyPost_ret
abbrev rE:=@List.length_replicate
abbrev sE:=@List.drop_succ_cons
abbrev tE:=@World.size_alloc
abbrev uE:=@List.getElem?_map
abbrev wE:=@List.foldl_cons
abbrev xE:=@List.mem_range
abbrev yE:=@Int.lt_irrefl
abbrev aF:=@ownsRow_setCell_below
abbrev cF:=@List.getElem_append_left
abbrev dF:=@List.getElem?_cons_succ
abbrev fF:=@List.foldl_append
abbrev iF:=@getElem!_pos
abbrev jF:=@MapKept.run_getObj_map
abbrev lF:=@List.filter_append
abbrev mF:=@Value.slice.injEq
abbrev nF:=@List.all_eq_true
abbrev oF:=@List.getElem_set
abbrev pF:=@toList_madeCells_one
abbrev rF:=@List.mem_of_mem_take
abbrev sF:=@Nat.eq_zero_or_pos
abbrev tF:=@run_make_full
abbrev uF:=@decide_eq_false_iff_not
abbrev vF:=@of_decide_eq_false
abbrev wF:=@List.take_append_of_le_length
abbrev xF:=@List.filter_cons_of_pos
abbrev yF:=@List.filter_cons_of_neg
abbrev aG:=@results_cell_row
abbrev bG:=@ChangeMaps.heap_setBlock_other
abbrev dG:=@ChangeMaps.heap_setBlock_same
abbrev wG (w w':World):=Below w.heap.size w w'
abbrev yG:=Calls Tryz.prog
abbrev eG:=@AllReady.cons
abbrev fG:=@AllReady.nil
abbrev gG:=@Oper.semAt_some
abbrev iG:=@IntWalk.i64_in
abbrev jG:=@IntKind.wrap_u64
abbrev kG:=@cell_of_one
abbrev lG:=@info_parts
abbrev mG:=@lt_of_block
abbrev nG:=@free_of_one
abbrev oG:=@wpAny_ready
abbrev pG:=@ownsRow_setCell_other
abbrev rG:=@one_setCell
abbrev sG:=@bits_and_u64_nat
abbrev tG:=@ints_oneCell
abbrev uG:=@callsIn_wide
abbrev vG:=@callsIn_of_wp
def tk {P:Program} {ops:Array Oper} {Q:Exit->Act->World->Prop} {md:Region.Mode} {S:World->Prop} (i:Nat) (v:Value) {o:Oper} {f:Nat} {l:Array Bool} {a:Act} {w:World} (hi:ops[i]?=some o) (hy:YieldsIf P ops S o v a)
  (b:wpAnyH P md ops Q S f (l.setIfInBounds i true) (a.put o.dst v) w) (hk:(Region.noSelect ops&&Region.free md ops l i&&(Region.ready md ops l).contains i)=true:=by kernel_rfl) (hQ:∀ c a w,Q (.panic c) (a.put o.dst v) w->Q (.panic c) a w:=by exact fun _ _ _ b=>b) (hS:S w:=by assumption):wpAnyH P md ops Q S (f+1) l a w:=by
 simp only [Bool.and_eq_true] at hk;exact wpAnyH_take hi hk.1.1 hk.1.2 hk.2 hQ hy hS b
abbrev tkc:=@AllReadyH.cons
abbrev tkn:=@AllReadyH.nil
abbrev tkr:=@wpAnyH_ready
abbrev tkd:=@wpAnyH_done
def qel {a b:Bool} (c:a=b):Ending.returned (.bool a)= .returned (.bool b):=by rw [c]
def qf8 {k:IntKind} {b:Int} (c:a=b):Ending.returned (.int k a)= .returned (.int k b):=by rw [c]
def Row (w:World) (B:Nat) (A:Option Addr) (xs:List Value):Prop:=
 xs=[]\/∃ b a,A=some ⟨b,a,none⟩/\b<B/\∀ j u,xs[j]?=some u->w.cell? ⟨b,a+j,none⟩=some u
def Row.nil:Row w B A []:= .inl rfl
def Row.at_ (h:Row w B A xs) (c:0<xs.length):
  ∃ b a,A=some ⟨b,a,none⟩/\b<B/\∀ j u,xs[j]?=some u->w.cell? ⟨b,a+j,none⟩=some u:=by
 rcases h with rfl|h
 ·simp at c
 ·exact h
def Row.keep (e:Row w B A xs) (h:∀ p:Addr,p.block<B->w'.cell? p=w.cell? p):Row w' B A xs:=by
 rcases e with rfl|⟨b,c,rfl,a,d⟩
 ·exact .inl rfl
 ·exact .inr ⟨b,c,rfl,a,fun j u g=>(h _ a).trans (d j u g)⟩
def Row.below (a:Row w B A xs) (c:Below B w w'):Row w' B A xs:=a.keep fun _ b=>c.cell b
def Row.more {B':Nat} (d:Row w B A xs) (e:B<=B'):Row w B' A xs:=by
 rcases d with rfl|⟨b,a,rfl,g,c⟩
 ·exact .inl rfl
 ·exact .inr ⟨b,a,rfl,by omega,c⟩
def Row.cut (g:Row w B A xs) (k:Nat):Row w B A (xs.take k):=by
 rcases g with rfl|⟨b,c,rfl,e,d⟩
 ·exact .inl (by simp)
 ·refine .inr ⟨b,c,rfl,e,fun j u a=>d j u ?_⟩
  rw [List.getElem?_take] at a;split at a
  ·exact a
  ·cases a
section
variable {w w':World} {zz:Nat} {e:TypeId} {size:Nat} {v:Value} {n:Nat} {xs:List Value}
def qaK (a:w.ownsRow zz e size v n xs):∃ A c,v= .slice A n c/\n<=c/\Row w w.heap.size A xs:=by
 rcases a.2 with ⟨rfl,rfl⟩|⟨g,d,k,rfl,_,b,h,_,_,_⟩
 ·exact ⟨none,0,rfl,aA _,.inl (sB (by simpa using a.1))⟩
 ·refine ⟨_,d,rfl,h,.inr ⟨g,0,rfl,(gA.1 b).1,fun j u i=> ?_⟩⟩
  have :=a.cells (g:=g) rfl j u i;simpa [cC] using this
def qaf (b:w.ownsRow zz e size v n xs) (j:wG w w'):w'.ownsRow zz e size v n xs:=by
 refine ⟨b.1,?_⟩;rcases b.2 with d|⟨g,i,h,k,c,a,r⟩
 ·exact .inl d
 ·exact .inr ⟨g,i,h,k,c,by rw [j.block g (gA.1 a).1];exact a,r⟩
def qbk (a:w.ownsRow zz e size v n xs) {b:Nat} (k:b<=zz):w.ownsRow b e size v n xs:=by
 refine ⟨a.1,?_⟩;rcases a.2 with c|⟨g,h,d,i,j,r⟩
 ·exact .inl c
 ·exact .inr ⟨g,h,d,i,by omega,r⟩
def qr6 (b:w.ownsRow zz e size v n xs) {k:Nat} {s:ByteArray} {p q:Nat} (l:w.heap[k]?=some (.stringIter s p)):(w.iterAt k s q).ownsRow zz e size v n xs:=by
 refine ⟨b.1,?_⟩;rcases b.2 with d|⟨g,i,h,j,c,a,r⟩
 ·exact .inl d
 ·refine .inr ⟨g,i,h,j,c,?_,r⟩
  rw [Lib.iterAt_other _ _ _ _ _ (fun e=>by rw [e,l] at a;cases a)];exact a
def qr7 (h:w.ownsRow zz e size v n xs) {k:Nat} {s:ByteArray} {p:Nat} (a:w.heap[k]?=some (.stringIter s p)) (c:w.grownBy w' v.ownBlock):w'.heap[k]?=some (.stringIter s p):=by
 rw [c.block k (gA.1 a).1 ?_]
 ·exact a
 ·intro b
  rcases h.2 with ⟨rfl,_⟩|⟨g,j,i,rfl,_,d,_⟩
  ·cases b
  ·simp only [Value.ownBlock,jB] at b
   rw [b,d] at a;cases a
end
def qh0 (k:IntKind) (w:World) (a:Option Addr) (len c:Nat) (b:List Int):Prop:=
 len<=c/\c<=maxLen/\b.length=len/\Row w w.heap.size a (b.map (Value.int k))/\∀ n∈b,(Lit.int k n).wf=true
def qr8 {k:IntKind}:qh0 k w none 0 0 []:=⟨aA _,kA _,rfl,.inl rfl,fun n a=>by cases a⟩
def qr9 {k:IntKind} {x:Addr} {len:Nat} (z:len<=c) (p:c<=maxLen) (A:q.length=c)
  (g:∀ i,i<q.length->w.cell? (x.add i)=some (.int k (q.getD i 0))) (t:∀ n∈q,(Lit.int k n).wf=true):qh0 k w (some x) len c (q.take len):=by
 refine ⟨z,p,by rw [sA];omega,?_,fun n s=>t n (rF s)⟩;by_cases l:q.length=0
 ·have :q=[]:=sB l
  subst this;exact .inl (by simp)
 ·have e:=g 0 (by omega)
  obtain ⟨b,r,v⟩:=x;have m:v=none:=by simpa [Addr.add] using World.cell?_spot e
  subst m;refine .inr ⟨b,r,rfl,by simpa [cC] using vC w _ e,fun j u a=> ?_⟩;rw [uE,List.getElem?_take] at a;split at a
  ·obtain ⟨y,d,rfl⟩:=Option.map_eq_some_iff.1 a
   have h:j<q.length:=(yC.1 d).1;have :=g j h;rw [cC] at this;rw [this,mA,d];rfl
  ·cases a
section
variable {P:Program} (w:World)
def qsa (zz:Nat) (t h e:TypeId) (i:TypeInfo) (size:Nat) (a:P.underlying t=some (.slice e)) (b:P.info? e=some i)
  (v:Value) (n:Nat) (xs:List Value) (d:w.ownsRow zz e size v n xs) (c:Nat):(Builtin.append_ #[t,t] h #[v,.slice none 0 c]).run P w= .ok v w:=by
 rcases d.2 with ⟨rfl,rfl⟩|⟨g,l,k,rfl,_,_,j,_⟩
 ·simp [Builtin.append_,rC a,sizeOf,typeInfo,b,Builtin.lenOf,Builtin.firstCells]
 ·simp [Builtin.append_,rC a,sizeOf,typeInfo,b,Builtin.lenOf,Builtin.firstCells,j,storeCells]
def qf9 {H:Array Oper} {rest:List Oper} {o:Oper} {a:Act} {Q:Exit->Act->World->Prop} (p:o.guard=none) (s x:Operand) (t:TypeId)
  (r:o.op= .call {callee:= .builtin .append,args:=#[s,x],argTypes:=#[t,t]})
  (zz:Nat) (e:TypeId) (i:TypeInfo) (z:Value) (size g:Nat) (l:P.underlying t=some (.slice e)) (q:P.info? e=some i) (K:i.zero=some z)
  (L:i.size=size) (J:i.bytes=g) (G:z.cells.size=size) (E:0<size)
  (v:Value) (n:Nat) (xs:List Value) (D:a.eval s=v) (k:w.ownsRow zz e size v n xs)
  (B:Nat) (A:Option Addr) (m c:Nat) (d:List Value) (C:a.eval x= .slice A m c) (h:d.length=m*size) (O:Row w B A d) (h1:∀ u∈d,u.oneCell'=true)
  (N:n+m<=maxLen) (I:(n+m)*g<=140737488355328) (M:zz<=w.heap.size)
  (y:∀ v' w',w'.ownsRow zz e size v' (n+m) (xs++d)->w.grownBy w' v.ownBlock->wpList P H Q rest (a.put o.dst v') w'):wpList P H Q (o::rest) a w:=by
 by_cases S:m=0
 ·subst S
  have V:d=[]:=sB (by simpa using h);subst V;rcases A with _|ad
  ·refine wpList_plain p fun Y R=> ?_
   have W:=qsa (P:=P) w zz t o.type e i size l q v n xs k c;unfold Oper.wp execOp;simp only [r,resolve,invoke,builtin,Sem.run_bind,Sem.run_pure,Result.andThen_ok,List.map_toArray,xB,List.map_nil,D,C,W];exact R _ _ (y v w (by simpa using k) (World.grownBy.refl _ _))
  ·exact wB w p s x t r zz e i z size g l q K L J G E v n xs D k ad 0 c [] C h (fun j u F=>by simp at F) h1 N I M fun v' w' h2 h3 _=>y v' w' h2 h3
 ·have U:0<d.length:=by rw [h];exact Nat.mul_pos (by omega) E
  obtain ⟨b,X,rfl,_,T⟩:=O.at_ U;exact wB w p s x t r zz e i z size g l q K L J G E v n xs D k _ m c d C h (fun j u F=>by rw [cC];exact T j u F) h1 N I M fun v' w' h2 h3 _=>y v' w' h2 h3
end
def qaH (w:World) (l:List Value) (t:TypeId):∀ j u,l[j]?=some u->(w.alloc (.cells l.toArray t)).cell? ((⟨w.heap.size,0,none⟩:Addr).add j)=some u:=by
 intro j u a;rw [cC,kB,cell_of_row _ _ _ _ _ _ (jA w _)];simpa using a
end Go.Proofs.YtpehcaidjlemiaaGreatDoor
namespace Go.Proofs.YtpehcaidjlemiaaGreatDoor.Plain
variable {w w' w'' w0:World} {k n b c i j m zz B:Nat} {A:Option Addr} {v v':Value} {xs:List Value} {t:TypeId} {a:Int} {l:List (List UInt8)} {q:List Int} {S:Nat → Prop} {ws:List (Nat × Nat)}
def hasB (r:List Bool) (i:Int):Bool:=decide (0<=i)&&r.getD i.toNat false
def mayB (n:Nat) (i:Int):Bool:=decide (0<=i)&&decide (i<n)
def turnB (r:List Bool) (i:Int) (b:Bool):List Bool:=if 0<=i then r.set i.toNat b else r
def qjp (r:List Bool) (i:Int) (b:Bool):Bool:=mayB r.length i&&(r.getD i.toNat false != b)
def ones (r:List Bool):List Nat:=(List.range r.length).filter fun i=>r.getD i false
def qjq (r:List Bool) (i:Int):Int:=match (ones r).find? (fun k:Nat=>decide (i<=(k:Int))) with|some k=>(k:Int)|none=> -1
def qjr (r:List Bool) (i:Int):Nat:=(ones r).countP fun k:Nat=>decide ((k:Int)<i)
def qsb (r:List Bool) (i:Nat):i∈ones r↔i<r.length/\r.getD i false=true:=by simp [ones]
def qsc (r:List Bool) (i:Nat) (a:r.getD i false=true):i<r.length:=by
 rcases Nat.lt_or_ge i r.length with h1|h1
 ·exact h1
 ·rw [mA,sC h1] at a;cases a
def qsd (r:List Bool) (i:Nat):i∈ones r↔r.getD i false=true:=by
 rw [qsb];exact ⟨fun a=>a.2,fun a=>⟨qsc r i a,a⟩⟩
def qse (r:List Bool):(ones r).Pairwise (· <·):=List.Pairwise.filter _ List.pairwise_lt_range
def qjs:∀ (a b:List Nat),a.Pairwise (· <·)->b.Pairwise (· <·)->(∀ x,x∈a↔x∈b)->a=b
 |[],[],_,_,_=>rfl
 |[],y::b,_,_,c=>by have :=(c y).2 (by simp);simp at this
 |x::a,[],_,_,c=>by have :=(c x).1 (by simp);simp at this
 |x::a,y::b,h,g,c=>by
  rw [kC] at h g;have hx:x∈y::b:=(c x).1 (by simp);have hy:y∈x::a:=(c y).2 (by simp);have e:x=y:=by
   simp only [wA] at hx hy;rcases hx with rfl|hx
   ·rfl
   ·rcases hy with rfl|hy
    ·rfl
    ·have h1:=h.1 y hy
     have h2:=g.1 x hx;omega
  subst e;rw [qjs a b h.2 g.2 fun z=> ?_];have i:=c z;simp only [wA] at i;constructor
  ·intro d
   rcases i.1 (.inr d) with rfl|h1
   ·exact absurd (h.1 z d) (Nat.lt_irrefl _)
   ·exact h1
  ·intro d
   rcases i.2 (.inr d) with rfl|h1
   ·exact absurd (g.1 z d) (Nat.lt_irrefl _)
   ·exact h1
abbrev Wd:=Nat × Nat
def qfe (x:Nat):List Nat:=(List.range 64).filter fun j=>x.testBit j
def qg8 (x j:Nat):j∈qfe x↔j<64/\x.testBit j=true:=by simp [qfe]
def qjt (x:Nat):(qfe x).Pairwise (· <·):=List.Pairwise.filter _ List.pairwise_lt_range
def getW (ws:List Wd) (a:Nat):Nat:=match ws.find? (fun p=>p.1==a) with|some p=>p.2|none=>0
def memW (ws:List Wd) (i:Nat):Bool:=(getW ws (i/64)).testBit (i%64)
def qcu (p:Wd):List Nat:=(qfe p.2).map fun j=>p.1*64+j
def qbc (ws:List Wd):List Nat:=ws.flatMap qcu
def qaJ (ws:List Wd) (a:Nat):Nat:=ws.countP fun p=>decide (p.1<a)
structure WS (n:Nat) (ws:List Wd):Prop where
 asc:ws.Pairwise fun p q=>p.1<q.1
 fits:∀ p∈ws,p.2<18446744073709551616
 here:∀ p∈ws,p.1*64<n
 inn:∀ p∈ws,∀ j,p.2.testBit j=true->p.1*64+j<n
structure Rep (r:List Bool) (ws:List Wd):Prop where
 wds:WS r.length ws
 mem:∀ i,r.getD i false=memW ws i
def qmc:∀ (ws:List Wd),(ws.Pairwise fun p q=>p.1<q.1)->∀ p∈ws,ws.find? (fun q=>q.1==p.1)=some p
 |[],_,p,b=>by simp at b
 |q::ws,a,p,b=>by
  rw [kC] at a;rw [List.find?_cons];rcases wA.1 b with rfl|hp'
  ·simp
  ·have :=a.1 p hp'
   have e:(q.1==p.1)=false:=by simp;omega
   rw [e];exact qmc ws a.2 p hp'
def qfE (a:WS n ws) {p:Wd} (b:p∈ws):getW ws p.1=p.2:=by
 unfold getW;rw [qmc ws a.asc p b]
def qg9 {a:Nat} (b:∀ p∈ws,p.1≠a):getW ws a=0:=by
 unfold getW;rw [List.find?_eq_none.2 (fun p c=>by simpa using b p c)]
def qsf {a:Nat} (b:getW ws a≠0):∃ p∈ws,p.1=a/\p.2=getW ws a:=by
 unfold getW at b ⊢;cases hf:ws.find? (fun p=>p.1==a) with
 |none=>rw [hf] at b;exact absurd rfl b
 |some p=>exact ⟨p,List.mem_of_find?_eq_some hf,by simpa using List.find?_some hf,rfl⟩
def qmd {p:Wd} (c:p.2<18446744073709551616):i∈qcu p↔i/64=p.1/\p.2.testBit (i%64)=true:=by
 simp only [qcu,tA,qg8];constructor
 ·rintro ⟨j,⟨h1,h2⟩,rfl⟩
  have b:(p.1*64+j)/64=p.1:=by omega
  have a:(p.1*64+j)%64=j:=by omega
  exact ⟨b,by rw [a];exact h2⟩
 ·rintro ⟨h1,h2⟩
  exact ⟨i%64,⟨Nat.mod_lt _ (by decide),h2⟩,by omega⟩
def qsg (c:WS n ws) (i:Nat):i∈qbc ws↔memW ws i=true:=by
 unfold qbc memW;rw [List.mem_flatMap];constructor
 ·rintro ⟨p,a,h⟩
  have ⟨k,h2⟩:=(qmd (c.fits p a)).1 h;rw [k,qfE c a];exact h2
 ·intro b
  have d:getW ws (i/64)≠0:=by
   intro e;rw [e] at b;simp at b
  have ⟨p,a,j,g⟩:=qsf d;exact ⟨p,a,(qmd (c.fits p a)).2 ⟨j.symm,by rw [g];exact b⟩⟩
def qme {p:Wd} (a:i∈qcu p):p.1*64<=i/\i<p.1*64+64:=by
 simp only [qcu,tA,qg8] at a;obtain ⟨j,⟨h1,_⟩,rfl⟩:=a;omega
def qsh (p:Wd):(qcu p).Pairwise (· <·):=by
 unfold qcu;rw [aD];exact (qjt _).imp fun a=>by omega
def qmf:∀ (ws:List Wd),(ws.Pairwise fun p q=>p.1<q.1)->(qbc ws).Pairwise (· <·)
 |[],_=>by simp [qbc]
 |p::ws,c=>by
  rw [kC] at c;unfold qbc;rw [List.flatMap_cons,List.pairwise_append];refine ⟨qsh p,qmf ws c.2,fun a g b d=> ?_⟩;have ⟨q,e,d⟩:=List.mem_flatMap.1 d;have h1:=qme g;have h2:=qme d;have h3:=c.1 q e;omega
def elems_eq {r:List Bool} (a:Rep r ws):qbc ws=ones r:=
 qjs _ _ (qmf ws a.wds.asc) (qse r) fun i=>by rw [qsg a.wds,qsd,a.mem]
def WS.length (c:WS n ws):ws.length<=n/64+1:=by
 have key:∀ (l:List Wd) (m:Nat),(l.Pairwise fun p q=>p.1<q.1)->(∀ p∈l,m<=p.1/\p.1*64<n)->l.length+m<=n/64+1\/l=[]:=by
  intro l
  induction l with
  |nil=>intros;exact .inr rfl
  |cons p l e=>
   intro m a b;rw [kC] at a;have h1:=b p (by simp);rcases e (p.1+1) a.2 (fun q d=>⟨a.1 q d,(b q (by simp [d])).2⟩) with h2|rfl
   ·left
    simp only [nA];omega
   ·left
    simp only [nA,vB];omega
 rcases key ws 0 c.asc (fun p a=>⟨kA _,c.here p a⟩) with h1|rfl
 ·omega
 ·simp
def posW_le (ws:List Wd) (a:Nat):qaJ ws a<=ws.length:=List.countP_le_length
def posW_split:∀ (ws:List Wd),(ws.Pairwise fun p q=>p.1<q.1)->∀ (a:Nat),(∀ k p,ws[k]?=some p->(k<qaJ ws a↔p.1<a))
 |[],_,a,k,p,b=>by simp at b
 |q::ws,d,a,k,p,b=>by
  rw [kC] at d;have g:=posW_split ws d.2 a;unfold qaJ at g ⊢;by_cases c:q.1<a
  ·rw [List.countP_cons_of_pos (by simpa using c)]
   cases k with
   |zero=>
    simp only [List.getElem?_cons_zero,jB] at b;subst b;exact ⟨fun _=>c,fun _=>by omega⟩
   |succ k=>
    rw [dF] at b;have :=g k p b;omega
  ·have e:∀ p∈ws,¬ p.1<a:=fun p hp=>by have :=d.1 p hp;omega
   rw [List.countP_cons_of_neg (by simpa using c),List.countP_eq_zero.2 (fun p hp=>by simpa using e p hp)];have hp:p∈q::ws:=iE b;have :¬ p.1<a:=by
    rcases wA.1 hp with rfl|hp
    ·exact c
    ·exact e p hp
   omega
def qdp (ws:List Wd) (a:Nat):Bool:=match ws[qaJ ws a]? with|some p=>p.1==a|none=>false
def qmg (g:ws.Pairwise fun p q=>p.1<q.1) (a:Nat):qdp ws a=true↔∃ p∈ws,p.1=a:=by
 unfold qdp;constructor
 ·intro b
  cases c:ws[qaJ ws a]? with
  |none=>rw [c] at b;cases b
  |some p=>rw [c] at b;exact ⟨p,iE c,by simpa using b⟩
 ·rintro ⟨p,c,rfl⟩
  have ⟨k,b⟩:=List.getElem?_of_mem c;have s:=posW_split ws g p.1;have h1:¬ k<qaJ ws p.1:=fun d=>absurd ((s k p b).1 d) (Nat.lt_irrefl _)
  have h:k<ws.length:=(yC.1 b).1;have h2:ws[qaJ ws p.1]?=some ws[qaJ ws p.1]:=oA (by omega);rw [h2];have h3:¬ ws[qaJ ws p.1].1<p.1:=fun d=>absurd ((s _ _ h2).2 d) (Nat.lt_irrefl _)
  rcases Nat.lt_trichotomy k (qaJ ws p.1) with h4|h4|h4
  ·omega
  ·subst h4
   rw [h2] at b;simp only [jB] at b;rw [b];simp
  ·have :=dC.1 g (qaJ ws p.1) k (by omega) h h4
   have e:ws[k]=p:=(yC.1 b).2;rw [e] at this;omega
def keptW_at {a:Nat} (b:qdp ws a=true):∃ x,ws[qaJ ws a]?=some (a,x)/\qaJ ws a<ws.length:=by
 unfold qdp at b;cases hp:ws[qaJ ws a]? with
 |none=>rw [hp] at b;cases b
 |some p=>
  rw [hp] at b;have :p.1=a:=by simpa using b
  subst this;exact ⟨p.2,rfl,(yC.1 hp).1⟩
def getW_kept (b:WS n ws) {a x:Nat} (c:ws[qaJ ws a]?=some (a,x)):getW ws a=x:=qfE b (p:=(a,x)) (iE c)
def getW_not (c:ws.Pairwise fun p q=>p.1<q.1) {a:Nat} (b:qdp ws a=false):getW ws a=0:=
 qg9 fun p d e=>by rw [(qmg c a).2 ⟨p,d,e⟩] at b;cases b
def WS.set (g:WS n ws) {k a x y:Nat} (m:ws[k]?=some (a,x)) (v:y<18446744073709551616) (A:∀ j,y.testBit j=true->a*64+j<n):
  WS n (ws.set k (a,y))/\∀ b,getW (ws.set k (a,y)) b=if b=a then y else getW ws b:=by
 have z:k<ws.length:=(yC.1 m).1;have s:ws[k]=(a,x):=(yC.1 m).2;have l:∀ p,p∈ws.set k (a,y)->p=(a,y)\/p∈ws:=fun p c=>(List.mem_or_eq_of_mem_set c).symm
 have W:WS n (ws.set k (a,y)):=by
  refine ⟨?_,fun p c=> ?_,fun p c=> ?_,fun p c=> ?_⟩
  ·rw [dC]
   intro i j d r w;simp only [uC] at d r;have :=dC.1 g.asc i j d r w;rw [oF,oF];split
   ·rename_i e
    subst e;rw [s] at this;rw [dA (by omega)];exact this
   ·split
    ·rename_i e
     subst e;rw [s] at this;exact this
    ·exact this
  ·rcases l p c with rfl|h1
   ·exact v
   ·exact g.fits p h1
  ·rcases l p c with rfl|h1
   ·exact g.here (a,x) (iE m)
   ·exact g.here p h1
  ·rcases l p c with rfl|h1
   ·exact A
   ·exact g.inn p h1
 refine ⟨W,fun b=> ?_⟩;split
 ·rename_i e
  subst e;exact qfE W (p:=(b,y)) (List.mem_set z (b,y))
 ·rename_i e
  by_cases q:∃ p∈ws,p.1=b
  ·obtain ⟨p,c,rfl⟩:=q
   rw [qfE g c];refine qfE W (p:=p) ?_;have ⟨i,d⟩:=List.getElem?_of_mem c;have t:k≠i:=by
    rintro rfl;rw [m] at d;simp only [jB] at d;subst d;exact e rfl
   exact iE (i:=i) (by rw [List.getElem?_set_ne t];exact d)
  ·rw [qg9 fun p c h=>q ⟨p,c,h⟩]
   refine qg9 fun p c h=> ?_
   rcases l p c with rfl|h1
   ·exact e h.symm
   ·exact q ⟨p,h1,h⟩
def WS.insert (g:WS n ws) {a y:Nat} (s:qdp ws a=false) (B:a*64<n) (w:y<18446744073709551616) (A:∀ j,y.testBit j=true->a*64+j<n):
  WS n (ws.take (qaJ ws a)++(a,y)::ws.drop (qaJ ws a))/\∀ b,getW (ws.take (qaJ ws a)++(a,y)::ws.drop (qaJ ws a)) b=if b=a then y else getW ws b:=by
 have m:=posW_split ws g.asc a;have v:∀ p∈ws,p.1≠a:=fun p c e=>by rw [(qmg g.asc a).2 ⟨p,c,e⟩] at s;cases s
 have h:∀ p,p∈ws.take (qaJ ws a)++(a,y)::ws.drop (qaJ ws a)↔p=(a,y)\/p∈ws:=by
  intro p;rw [aC,wA];constructor
  ·rintro (h1|h1|h1)
   ·exact .inr (rF h1)
   ·exact .inl h1
   ·exact .inr (List.mem_of_mem_drop h1)
  ·rintro (h1|h1)
   ·exact .inr (.inl h1)
   ·rw [<- gD (qaJ ws a) ws] at h1
    rcases aC.1 h1 with h1|h1
    ·exact .inl h1
    ·exact .inr (.inr h1)
 have t:∀ p∈ws.take (qaJ ws a),p.1<a:=by
  intro p c;have ⟨i,d⟩:=List.getElem?_of_mem c;rw [List.getElem?_take] at d;split at d
  ·rename_i z
   exact (m i p d).1 z
  ·cases d
 have r:∀ p∈ws.drop (qaJ ws a),a<p.1:=by
  intro p c;have ⟨i,d⟩:=List.getElem?_of_mem c;rw [List.getElem?_drop] at d;have h1:¬ p.1<a:=fun x=>by have :=(m _ p d).2 x;omega
  have h2:=v p (iE d);omega
 have W:WS n (ws.take (qaJ ws a)++(a,y)::ws.drop (qaJ ws a)):=by
  refine ⟨?_,fun p c=> ?_,fun p c=> ?_,fun p c=> ?_⟩
  ·rw [List.pairwise_append,kC]
   refine ⟨g.asc.sublist (List.take_sublist _ _),⟨r,g.asc.sublist (List.drop_sublist _ _)⟩,fun p c q hq=> ?_⟩;have h1:=t p c;rcases wA.1 hq with rfl|hq
   ·exact h1
   ·have :=r q hq
    omega
  ·rcases (h p).1 c with rfl|h1
   ·exact w
   ·exact g.fits p h1
  ·rcases (h p).1 c with rfl|h1
   ·exact B
   ·exact g.here p h1
  ·rcases (h p).1 c with rfl|h1
   ·exact A
   ·exact g.inn p h1
 refine ⟨W,fun b=> ?_⟩;split
 ·rename_i e
  subst e;exact qfE W (p:=(b,y)) ((h _).2 (.inl rfl))
 ·rename_i e
  by_cases l:∃ p∈ws,p.1=b
  ·obtain ⟨p,c,rfl⟩:=l
   rw [qfE g c];exact qfE W (p:=p) ((h p).2 (.inr c))
  ·rw [qg9 fun p c k=>l ⟨p,c,k⟩]
   refine qg9 fun p c k=> ?_
   rcases (h p).1 c with rfl|h1
   ·exact e k.symm
   ·exact l ⟨p,h1,k⟩
def qsi (a b:Nat):Nat:=a^^^(a &&& b)
def or_fits {a:Nat} (c:a<18446744073709551616) (d:b<18446744073709551616):a ||| b<18446744073709551616:=Nat.or_lt_two_pow (n:=64) c d
def bit_fits (b:j<64):2^j<18446744073709551616:=Nat.pow_lt_pow_right (a:=2) (by decide) b
def qsj (r:List Bool) (i j:Nat) (b:Bool) (c:i<r.length):(r.set i b).getD j false=if j=i then b else r.getD j false:=by
 rw [mA,mA,aE];by_cases a:i=j
 ·subst a;simp [c]
 ·rw [dA a,dA (by omega)]
def Rep.turned {r:List Bool} {d:List Wd} (g:Rep r ws) {i:Nat} (k:i<r.length) {b:Bool} {y:Nat} (l:WS r.length d) (h:∀ a,getW d a=if a=i/64 then y else getW ws a)
  (m:∀ j,y.testBit j=if j=i%64 then b else (getW ws (i/64)).testBit j):Rep (r.set i b) d:=by
 refine ⟨by simpa using l,fun j=> ?_⟩;rw [qsj _ _ _ _ k];unfold memW;rw [h];by_cases c:j/64=i/64
 ·rw [eA c,m]
  by_cases e:j%64=i%64
  ·rw [eA e,eA (by omega)]
  ·rw [dA e,dA (by omega),g.mem]
   unfold memW;rw [c]
 ·rw [dA c,dA (by rintro rfl;exact c rfl),g.mem]
  rfl
def or_pow_bit (x k j:Nat):(x ||| 2^k).testBit j=if j=k then true else x.testBit j:=by
 rw [Nat.testBit_or,Nat.testBit_two_pow];by_cases a:k=j
 ·subst a;simp
 ·simp [a,show ¬ j=k by omega]
def or_pow_ne (x k:Nat):(x ||| 2^k != x)= !x.testBit k:=by
 cases hb:x.testBit k
 ·simp only [Bool.not_false,bne_iff_ne,ne_eq]
  intro e;have :(x ||| 2^k).testBit k=true:=by rw [or_pow_bit];simp
  rw [e,hb] at this;cases this
 ·simp only [Bool.not_true,bne_eq_false_iff_eq]
  apply Nat.eq_of_testBit_eq;intro j;rw [or_pow_bit];split
  ·rename_i e;subst e;exact hb.symm
  ·rfl
end Go.Proofs.YtpehcaidjlemiaaGreatDoor.Plain
namespace Go.Proofs.YtpehcaidjlemiaaGreatDoor
variable {w w' w'' w0:World} {k n b c i j m zz B:Nat} {A:Option Addr} {v v':Value} {xs:List Value} {t:TypeId} {a:Int} {l:List (List UInt8)} {q:List Int} {S:Nat → Prop} {ws:List (Nat × Nat)}
abbrev Nm:=List UInt8
def qju {a:UInt8} {x:Nm}:([]:Nm)<a::x:=by simp
def qjv {x:Nm}:¬ x<([]:Nm):=by simp
def qh1 {a b:UInt8} {x y:Nm}:a::x<b::y↔a<b\/a=b/\x<y:=List.cons_lt_cons_iff
def qsk (a:UInt8):¬ a<a:=by rw [UInt8.lt_iff_toNat_lt];omega
def qff:∀ x:Nm,¬ x<x
 |[]=>qjv
 |a::x=>by
  rw [qh1];rintro (b|⟨_,b⟩)
  ·exact qsk a b
  ·exact qff x b
def qdq:∀ {x y z:Nm},x<y->y<z->x<z
 |_,[],_,d,_=>absurd d qjv
 |_,_::_,[],_,d=>absurd d qjv
 |[],_::_,_::_,_,_=>qju
 |a::x,b::y,c::z,d,k=>by
  rw [qh1] at d k ⊢;rcases d with d|⟨rfl,d⟩
  ·rcases k with k|⟨rfl,k⟩
   ·left;rw [UInt8.lt_iff_toNat_lt] at*;omega
   ·exact .inl d
  ·rcases k with k|⟨rfl,k⟩
   ·exact .inl k
   ·exact .inr ⟨rfl,qdq d k⟩
def qey:∀ x y:Nm,x<y\/x=y\/y<x
 |[],[]=> .inr (.inl rfl)
 |[],_::_=> .inl qju
 |_::_,[]=> .inr (.inr qju)
 |a::x,b::y=>by
  rw [qh1,qh1];by_cases h1:a<b
  ·exact .inl (.inl h1)
  ·by_cases h2:b<a
   ·exact .inr (.inr (.inl h2))
   ·have e:a=b:=by
     rw [UInt8.lt_iff_toNat_lt] at h1 h2;exact UInt8.toNat_inj.1 (by omega)
    subst e;rcases qey x y with h|rfl|h
    ·exact .inl (.inr ⟨rfl,h⟩)
    ·exact .inr (.inl rfl)
    ·exact .inr (.inr (.inr ⟨rfl,h⟩))
def qha {x y:Nm} (a:x<y):¬ y<x:=fun k=>qff x (qdq a k)
def qjw {x y:Nm} (a:x<y):x≠y:=fun e=>qff y (e▸a)
def qsl {x y z:Nm} (a:¬ y<x) (k:y<z):x<z:=by
 rcases qey x y with h1|rfl|h1
 ·exact qdq h1 k
 ·exact k
 ·exact absurd h1 a
def qsm {x y z:Nm} (a:x<y) (k:¬ z<y):x<z:=by
 rcases qey y z with h1|rfl|h1
 ·exact qdq a h1
 ·exact a
 ·exact absurd h1 k
def qaW (l:List Nm):Prop:=l.Pairwise (· <·)
instance (l:List Nm):Decidable (qaW l):=inferInstanceAs (Decidable (l.Pairwise (· <·)))
def qdB (l:List Nm):Bool:=decide (qaW l)
def qgx:qdB l=true↔qaW l:=by simp [qdB]
def qeR (b:qaW l) {i j:Nat} (a:j<l.length) (c:i<j):l[i]<l[j]:=dC.1 b i j (by omega) a c
def qsn (b:∀ i,(c:i+1<l.length)->l[i]<l[i+1]):qaW l:=by
 refine dC.2 fun i j c a g=> ?_
 induction j with
 |zero=>omega
 |succ j d=>
  by_cases e:i=j
  ·subst e;exact b i a
  ·exact qdq (d (by omega) (by omega)) (b j a)
def qso (c:k<l.length) (d:0<k) (a:¬ l[k-1]<l[k]):qdB l=false:=by
 rw [<- Bool.not_eq_true,qgx];exact fun b=>a (qeR b c (by omega))
def qsp (b:∀ i,(a:i<l.length)->0<i->l[i-1]<l[i]):qdB l=true:=by
 rw [qgx];exact qsn fun i a=>by have :=b (i+1) a (by omega);simpa using this
def qaF:List Nm->Nm->Nat
 |[],_=>0
 |x::l,s=>if x<s then qaF l s+1 else 0
def isN:List Nm->Nm->Bool
 |[],_=>false
 |x::l,s=>if x<s then isN l s else x==s
def qbw:List Nm->Nm->List Nm
 |[],s=>[s]
 |x::l,s=>if x<s then x::qbw l s else if x=s then x::l else s::x::l
def qgy:∀ (l:List Nm) (s:Nm),qaF l s<=l.length
 |[],_=>aA _
 |x::l,s=>by
  have :=qgy l s;simp only [qaF,nA];split<;>omega
def qmh:∀ {l:List Nm} {s:Nm} {j:Nat} (b:j<l.length),j<qaF l s->l[j]<s
 |[],_,_,a,_=>by simp at a
 |x::l,s,j,b,a=>by
  simp only [qaF] at a;split at a
  ·rename_i c
   cases j with
   |zero=>exact c
   |succ j=>exact qmh (l:=l) (by simpa using b) (by omega)
  ·omega
def qmi:∀ {l:List Nm} {s:Nm} (a:qaF l s<l.length),¬ l[qaF l s]<s
 |[],_,a=>by simp at a
 |x::l,s,a=>by
  by_cases b:x<s
  ·have e:qaF (x::l) s=qaF l s+1:=by simp [qaF,b]
   have :=qmi (l:=l) (s:=s) (by rw [e] at a;simpa using a);simpa [e] using this
  ·have e:qaF (x::l) s=0:=by simp [qaF,b]
   simpa [e] using b
def qhb {s:Nm} (c:k<=l.length) (h1:∀ j (b:j<l.length),j<k->l[j]<s) (h2:∀ h:k<l.length,¬ l[k]<s):qaF l s=k:=by
 have a:=qgy l s;rcases Nat.lt_trichotomy (qaF l s) k with h|h|h
 ·exact absurd (h1 _ (by omega) h) (qmi (by omega))
 ·exact h
 ·exact absurd (qmh (by omega) h) (h2 (by omega))
def qhc:∀ {l:List Nm} {s:Nm} (a:qaF l s<l.length),isN l s=(l[qaF l s]==s)
 |[],_,a=>by simp at a
 |x::l,s,a=>by
  by_cases b:x<s
  ·have e:qaF (x::l) s=qaF l s+1:=by simp [qaF,b]
   have c:isN (x::l) s=isN l s:=by simp [isN,b]
   have :=qhc (l:=l) (s:=s) (by rw [e] at a;simpa using a);rw [c,this];simp [e]
  ·have e:qaF (x::l) s=0:=by simp [qaF,b]
   simp [e,isN,b]
def qh2:∀ {l:List Nm} {s:Nm},qaF l s=l.length->isN l s=false
 |[],_,_=>rfl
 |x::l,s,a=>by
  by_cases b:x<s
  ·have e:qaF (x::l) s=qaF l s+1:=by simp [qaF,b]
   rw [e] at a;simpa [isN,b] using qh2 (l:=l) (s:=s) (by simpa using a)
  ·have e:qaF (x::l) s=0:=by simp [qaF,b]
   rw [e] at a;simp at a
def qjx {s:Nm} (a:k<l.length) (h1:∀ j (b:j<l.length),j<k->l[j]<s) (h2:l[k]=s):qaF l s=k/\isN l s=true:=by
 have e:=qhb (s:=s) (by omega) h1 (fun _=>by rw [h2];exact qff s);subst e;exact ⟨rfl,by rw [qhc a,h2];simp⟩
def qmj {s:Nm} (b:k<=l.length) (h1:∀ j (c:j<l.length),j<k->l[j]<s) (h2:∀ a:k<l.length,s<l[k]):qaF l s=k/\isN l s=false:=by
 have e:=qhb (s:=s) b h1 (fun a=>qha (h2 a));subst e;refine ⟨rfl,?_⟩;by_cases a:qaF l s<l.length
 ·rw [qhc a]
  simpa using (qjw (h2 a)).symm
 ·exact qh2 (by have :=qgy l s;omega)
def qjy {s:Nm} (a:isN l s=true):∃ b:qaF l s<l.length,l[qaF l s]=s:=by
 by_cases b:qaF l s<l.length
 ·rw [qhc b] at a
  exact ⟨b,by simpa using a⟩
 ·rw [qh2 (by have :=qgy l s;omega)] at a
  cases a
def qmk (b:qaW l) {i:Nat} (a:i<l.length):qaF l l[i]=i/\isN l l[i]=true:=
 qjx a (fun j d c=>qeR b a c) rfl
def qaO (x s:Nm):Int:=if x<s then-1 else if x=s then 0 else 1
def qjz:∀ {l:List Nm} {s:Nm},isN l s=true->qbw l s=l
 |[],_,a=>by cases a
 |x::l,s,a=>by
  by_cases b:x<s
  ·rw [isN,eA b] at a
   rw [qbw,eA b,qjz a]
  ·rw [isN,dA b] at a
   rw [qbw,dA b,eA (by simpa using a)]
def qjA:∀ {l:List Nm} {s:Nm},isN l s=false->qbw l s=l.take (qaF l s)++[s]++l.drop (qaF l s)
 |[],_,b=>rfl
 |x::l,s,b=>by
  by_cases a:x<s
  ·rw [isN,eA a] at b
   rw [qbw,eA a,qjA b,qaF,eA a];simp
  ·rw [isN,dA a] at b
   rw [qbw,dA a,dA (by simpa using b),qaF,dA a];simp
def qh3:∀ {l:List Nm} {s x:Nm},x∈qbw l s↔x=s\/x∈l
 |[],s,x=>by simp [qbw]
 |y::l,s,x=>by
  rw [qbw];split
  ·rw [wA,qh3,wA];exact or_left_comm
  ·split
   ·rename_i e
    subst e;rw [wA];exact ⟨fun a=> .inr a,fun a=>a.elim .inl id⟩
   ·rw [wA,wA]
def qjB:∀ {l:List Nm} {s:Nm},qaW l->qaW (qbw l s)
 |[],s,_=>by simp [qbw,qaW]
 |y::l,s,c=>by
  have d:=kC.1 c;rw [qbw];split
  ·rename_i b
   refine kC.2 ⟨fun a ha=> ?_,qjB d.2⟩;rcases qh3.1 ha with rfl|ha
   ·exact b
   ·exact d.1 a ha
  ·rename_i b
   split
   ·exact c
   ·rename_i g
    have e:s<y:=((qey y s).resolve_left b).resolve_left g;refine kC.2 ⟨fun a ha=> ?_,c⟩;rcases wA.1 ha with rfl|ha
    ·exact e
    ·exact qdq e (d.1 a ha)
def qml (l:List Nm) (s:Nm):(qbw l s).length<=l.length+1:=by
 cases h:isN l s with
 |true=>rw [qjz h];omega
 |false=>rw [qjA h];have :=qgy l s;simp;omega
def qhd:∀ {a b:List Nm},qaW a->qaW b->(∀ x,x∈a↔x∈b)->a=b
 |[],[],_,_,_=>rfl
 |[],y::b,_,_,c=>absurd ((c y).2 (eB ..)) (by simp)
 |x::a,[],_,_,c=>absurd ((c x).1 (eB ..)) (by simp)
 |x::a,y::b,j,i,c=>by
  have g:=kC.1 j;have h:=kC.1 i;have e:x=y:=by
   rcases wA.1 ((c x).1 (eB ..)) with e|h1
   ·exact e
   ·rcases wA.1 ((c y).2 (eB ..)) with e|h2
    ·exact e.symm
    ·exact absurd (g.1 y h2) (qha (h.1 x h1))
  subst e;congr 1;refine qhd g.2 h.2 fun z=>⟨fun d=> ?_,fun d=> ?_⟩
  ·rcases wA.1 ((c z).1 (oB _ d)) with rfl|h1
   ·exact absurd (g.1 z d) (qff z)
   ·exact h1
  ·rcases wA.1 ((c z).2 (oB _ d)) with rfl|h1
   ·exact absurd (h.1 z d) (qff z)
   ·exact h1
def qdR (l:List Nm) (n:Nat):List Nm:=(l.take n).foldl (fun a x=>qbw a (x.take 8)) []
def qsq (a:k<l.length):qdR l (k+1)=qbw (qdR l k) (l[k].take 8):=by
 rw [qdR,aB a,fF];rfl
def qsr (a:l.length<=k) (b:k<=n):qdR l k=qdR l n:=by
 rw [qdR,qdR,nB a,nB (by omega)]
def qss (l:List Nm) (n:Nat):qdR l (min n l.length)=qdR l n:=by
 rcases Nat.le_total n l.length with h|h
 ·rw [eD h]
 ·rw [Nat.min_eq_right h];exact qsr (aA _) h
structure qmm (g:List Nm):Prop where
 rise:qaW g
 eight:∀ x∈g,x.length<=8
def qCM (l:List Nm) (n:Nat):qmm (qdR l n)/\(qdR l n).length<=n:=by
 have :∀ k,k<=l.length->qmm (qdR l k)/\(qdR l k).length<=k:=by
  intro k
  induction k with
  |zero=>intro _;exact ⟨⟨List.Pairwise.nil,fun x hx=>by cases hx⟩,aA _⟩
  |succ k b=>
   intro c;have ⟨h1,h2⟩:=b (by omega);rw [qsq (by omega)];refine ⟨⟨qjB h1.rise,fun x hx=> ?_⟩,by have :=qml (qdR l k) (l[k].take 8);omega⟩;rcases qh3.1 hx with rfl|hx
   ·rw [sA];omega
   ·exact h1.eight x hx
 have a:=this (min n l.length) (by omega);rw [qss] at a;exact ⟨a.1,by omega⟩
def qbo (ls:List (List Nm)):List Nm:=ls.flatten.foldl qbw []
def qjC:∀ (xs:List Nm) (a:List Nm) (x:Nm),x∈xs.foldl qbw a↔x∈xs\/x∈a
 |[],a,x=>by simp
 |y::xs,a,x=>by
  rw [wE,qjC xs,qh3,wA];constructor
  ·rintro (h|h|h)
   ·exact .inl (.inr h)
   ·exact .inl (.inl h)
   ·exact .inr h
  ·rintro ((h|h)|h)
   ·exact .inr (.inl h)
   ·exact .inl h
   ·exact .inr (.inr h)
def qjD:∀ (xs:List Nm) (a:List Nm),qaW a->qaW (xs.foldl qbw a)
 |[],a,b=>b
 |y::xs,a,b=>qjD xs _ (qjB b)
def qga (ls:List (List Nm)):qaW (qbo ls):=qjD _ _ List.Pairwise.nil
def qgz {ls:List (List Nm)} {x:Nm}:x∈qbo ls↔∃ a∈ls,x∈a:=by
 rw [qbo,qjC];simp [List.mem_flatten]
def qmn {ls:List (List Nm)} {r:List Nm} (c:qaW r) (b:∀ x,x∈r↔∃ a∈ls,x∈a):r=qbo ls:=
 qhd c (qga ls) fun x=>by rw [b,qgz]
def qgA:∀ (xs a:List Nm),(xs.foldl qbw a).length<=xs.length+a.length
 |[],a=>by simp
 |y::xs,a=>by
  rw [wE,nA];have :=qgA xs (qbw a y);have :=qml a y;omega
def qhe (l:List Nm):List Nm:=Lib.compact (l.mergeSort fun x y=>decide (x<=y))
def qst (l:List Nm):(l.mergeSort fun x y=>decide (x<=y)).Pairwise (fun x y=>¬ y<x):=by
 have d:=List.pairwise_mergeSort (le:=fun x y:Nm=>decide (x<=y)) (fun a b c h1 h2=>yA (show ¬ c<a from fun d=>(mD h2:¬ c<b) (qsm d (mD h1:¬ b<a)))) (fun a b=>by
  by_cases d:b<a
  ·rw [Bool.or_eq_true];exact .inr (yA (show ¬ a<b from qha d))
  ·rw [Bool.or_eq_true];exact .inl (yA (show ¬ b<a from d))) l
 exact d.imp fun {a b} e=>(mD e:¬ b<a)
def qsu (x:Nm):x∈Lib.compact l↔x∈l:=by
 unfold Lib.compact;have :∀ m,m<=l.length->(x∈Lib.compactUpTo l.toArray m↔x∈l.take m):=by
  intro m
  induction m with
  |zero=>intro _;simp [Lib.compactUpTo]
  |succ m e=>
   intro g;have b:l.toArray[m]! =l[m]:=by rw [iF l.toArray m (by simp;omega)];simp
   rw [Lib.compactUpTo_succ,aC,e (by omega),aB (by omega),aC,b];by_cases a:Lib.keeps l.toArray m=true
   ·rw [eA a]
   ·rw [dA a]
    have c:m≠0/\l.toArray[m]! =l.toArray[m-1]! :=by
     simp only [Lib.keeps,iC,not_or,Decidable.not_not] at a;exact a
    have d:l.toArray[m-1]! =l[m-1]:=by rw [iF l.toArray (m-1) (by simp;omega)];simp
    rw [b,d] at c;constructor
    ·rintro (h|h)
     ·exact .inl h
     ·cases h
    ·rintro (h|h)
     ·exact .inl h
     ·rw [yB] at h
      left;rw [h,c.2];exact List.mem_take_iff_getElem.2 ⟨m-1,by omega,rfl⟩
 have h:=this l.length (aA _);rwa [fC] at h
def qsv (p:l.Pairwise (fun x y=>¬ y<x)):qaW (Lib.compact l):=by
 unfold Lib.compact;have :∀ m,m<=l.length->qaW (Lib.compactUpTo l.toArray m)/\∀ x∈Lib.compactUpTo l.toArray m,∃ j,j<m/\l[j]?=some x:=by
  intro m
  induction m with
  |zero=>intro _;simp [Lib.compactUpTo,qaW]
  |succ m v=>
   intro w;have ⟨h1,h2⟩:=v (by omega);have g:l.toArray[m]! =l[m]:=by rw [iF l.toArray m (by simp;omega)];simp
   rw [Lib.compactUpTo_succ,g];by_cases d:Lib.keeps l.toArray m=true
   ·rw [eA d]
    refine ⟨List.pairwise_append.2 ⟨h1,List.pairwise_singleton _ _,fun a t b n=> ?_⟩,fun x hx=> ?_⟩
    ·rw [yB] at n
     subst n;have ⟨j,i,c⟩:=h2 a t;obtain ⟨z,rfl⟩:=yC.1 c;have r:m≠0:=by omega
     have s:l.toArray[m-1]! =l[m-1]:=by rw [iF l.toArray (m-1) (by simp;omega)];simp
     have q:l[m]≠l[m-1]:=by
      simp only [Lib.keeps,iC] at d;have :=d.resolve_left r;rwa [g,s] at this
     have k:l[m-1]<l[m]:=by
      have h3:=dC.1 p (m-1) m (by omega) (by omega) (by omega);rcases qey l[m-1] l[m] with h|h|h
      ·exact h
      ·exact absurd h.symm q
      ·exact absurd h h3
     by_cases e:j=m-1
     ·subst e;exact k
     ·exact qsl (dC.1 p j (m-1) (by omega) (by omega) (by omega)) k
    ·rcases aC.1 hx with hx|hx
     ·have ⟨j,i,c⟩:=h2 x hx
      exact ⟨j,by omega,c⟩
     ·rw [yB] at hx
      subst hx;exact ⟨m,by omega,by simp⟩
   ·rw [dA d,mC]
    exact ⟨h1,fun x hx=>by have ⟨j,i,c⟩:=h2 x hx;exact ⟨j,by omega,c⟩⟩
 exact (this l.length (aA _)).1
def qsw (l:List Nm):qaW (qhe l):=qsv (qst l)
def qsx (x:Nm):x∈qhe l↔x∈l:=by rw [qhe,qsu,List.mem_mergeSort]
def qcG:List Nm->List Nm->List Nm
 |[],b=>b
 |a,[]=>a
 |x::a,y::b=>if x<y then x::qcG a (y::b) else if x=y then qcG a (y::b) else y::qcG (x::a) b
termination_by a b=>a.length+b.length
def qmo (a:List Nm):qcG a []=a:=by cases a<;>simp [qcG]
def qmp (b:List Nm):qcG [] b=b:=by simp [qcG]
def qgB:∀ (a b:List Nm) (x:Nm),x∈qcG a b↔x∈a\/x∈b
 |[],b,x=>by simp [qcG]
 |y::a,[],x=>by simp [qcG]
 |y::a,z::b,x=>by
  rw [qcG];split
  ·rw [wA,qgB a (z::b),wA (a:=x) (b:=y),or_assoc]
  ·split
   ·rename_i e
    subst e;rw [qgB a (y::b)];simp only [wA];exact ⟨fun c=>c.elim (fun c=> .inl (.inr c)) .inr,fun c=>c.elim (fun c=>c.elim (fun c=> .inr (.inl c)) .inl) .inr⟩
   ·rw [wA,qgB (y::a) b,wA (a:=x) (b:=z)]
    exact or_left_comm
termination_by a b=>a.length+b.length
def qh4:∀ {a b:List Nm},qaW a->qaW b->qaW (qcG a b)
 |[],b,_,c=>by rw [qmp];exact c
 |y::a,[],c,_=>by rw [qmo];exact c
 |y::a,z::b,h,e=>by
  have d:=kC.1 h;have g:=kC.1 e;rw [qcG];split
  ·rename_i c
   refine kC.2 ⟨fun x hx=> ?_,qh4 d.2 e⟩;rcases (qgB _ _ _).1 hx with hx|hx
   ·exact d.1 x hx
   ·rcases wA.1 hx with rfl|hx
    ·exact c
    ·exact qdq c (g.1 x hx)
  ·rename_i c
   split
   ·exact qh4 d.2 e
   ·rename_i j
    have i:z<y:=((qey y z).resolve_left c).resolve_left j;refine kC.2 ⟨fun x hx=> ?_,qh4 h g.2⟩;rcases (qgB _ _ _).1 hx with hx|hx
    ·rcases wA.1 hx with rfl|hx
     ·exact i
     ·exact qdq i (d.1 x hx)
    ·exact g.1 x hx
termination_by a b=>a.length+b.length
open Go
def dec (l:List UInt8):Nat × Nat:=
 let at' (k:Nat):Nat:=(l.getD k 0).toNat
 let cont (k:Nat):Bool:=k<l.length&&at' k/64==2
 let b0:=at' 0
 if b0<0x80 then (b0,1)
 else if b0/32==6&&cont 1 then
  let c:=(b0%32)*64+at' 1%64
  if c≥0x80 then (c,2) else (65533,1)
 else if b0/16==14&&cont 1&&cont 2 then
  let c:=(b0%16)*4096+(at' 1%64)*64+at' 2%64
  if c≥0x800&&Utf8.valid c then (c,3) else (65533,1)
 else if b0/8==30&&cont 1&&cont 2&&cont 3 then
  let c:=(b0%8)*262144+(at' 1%64)*4096+(at' 2%64)*64+at' 3%64
  if c≥0x10000&&Utf8.valid c then (c,4) else (65533,1)
 else (65533,1)
def qsy (s:ByteArray) (i k:Nat):(s.get! (i+k))=(s.data.toList.drop i).getD k 0:=by
 cases s with
 |mk a=>
  simp only [ByteArray.get!,List.getD,List.getElem?_drop,Array.getElem?_toList];rw [getElem!_def];cases a[i+k]?<;>rfl
def qsz (s:ByteArray) (i:Nat):Utf8.decode s i=dec (s.data.toList.drop i):=by
 unfold Utf8.decode dec;simp only [qsy s i];have a:∀ k,decide (i+k<s.size)=decide (k<(s.data.toList.drop i).length):=by
  intro k;have :s.size=s.data.toList.length:=(wC (xs:=s.data)).symm;rw [decide_eq_decide,rB,this];omega
 simp only [a];rfl
def qhf (l:List UInt8) (a:l≠[]):1<=(dec l).2/\(dec l).2<=l.length:=by
 have b:1<=l.length:=by cases l<;>simp_all
 unfold dec;simp only []
 repeat' split
 all_goals (simp_all;try omega)
def qsA (l:List UInt8):Utf8.valid ((dec l).1:Int)=true:=by
 unfold dec;simp only [];have a:∀ k,(l.getD k 0).toNat<256:=fun k=>(l.getD k 0).toNat_lt
 repeat' split
 all_goals simp_all [Utf8.valid]
 all_goals (try omega)
 all_goals (have b:=a 0;have h1:=a 1;try omega)
def qem:Nat->List UInt8->List Int
 |0,_=>[]
 |f+1,l=>if l=[] then [] else ((dec l).1:Int)::qem f (l.drop (dec l).2)
def qcH (l:List UInt8):List Int:=qem l.length l
def qgC (f:Nat):qem f []=[]:=by cases f<;>simp [qem]
def qmq:∀ (f g:Nat) (l:List UInt8),l.length<=f->l.length<=g->qem f l=qem g l
 |0,g,l,c,_=>by
  have :l=[]:=sB (by omega);subst this;rw [qgC,qgC]
 |f+1,0,l,_,b=>by
  have :l=[]:=sB (by omega);subst this;rw [qgC,qgC]
 |f+1,g+1,l,c,b=>by
  by_cases a:l=[]
  ·subst a;rw [qgC,qgC]
  ·have d:=qhf l a
   unfold qem;rw [dA a,dA a,qmq f g _ (by rw [rB];omega) (by rw [rB];omega)]
theorem qmr:qcH []=[]:=rfl
def qms (l:List UInt8) (a:l≠[]):qcH l=((dec l).1:Int)::qcH (l.drop (dec l).2):=by
 have c:=qhf l a;have b:l.length=(l.length-1)+1:=by omega
 unfold qcH;rw [b,qem,dA a,qmq _ _ _ (by rw [rB];omega) (aA _)]
def qh5 (l:List UInt8):(qcH l).length<=l.length:=by
 have :∀ (f:Nat) (l:List UInt8),l.length<=f->(qem f l).length<=l.length:=by
  intro f
  induction f with
  |zero=>intro l a;simp [qem]
  |succ f b=>
   intro l a;by_cases e:l=[]
   ·subst e;simp [qem]
   ·have c:=qhf l e
    unfold qem;rw [dA e];have :=b (l.drop (dec l).2) (by rw [rB];omega);rw [rB] at this;simp only [nA];omega
 exact this _ l (aA _)
def qgb (r:Int):Utf8.valid r=true↔(0<=r/\r<55296)\/(57344<=r/\r<=1114111):=by
 simp [Utf8.valid]
def text (l:List Int):List UInt8:=l.flatMap Lib.encodeRune
def qsB (a b:List Int):text (a++b)=text a++text b:=by simp [text]
def qmt (l:List Int):(text l).length<=4*l.length:=by
 induction l with
 |nil=>simp [text]
 |cons r l a=>
  have :=Lib.encodeRuneZ_length r;have e:text (r::l)=Lib.encodeRune r++text l:=by simp [text]
  rw [e,iA,nA];simp only [Lib.encodeRune,gB];omega
def qez (c:Int):Bool:=decide ((192<=c/\c<=591/\c≠215/\c≠247)\/(97<=c/\c<=122)\/(65<=c/\c<=90))
def qfg (c:Int):Bool:=decide (48<=c/\c<=57)
def qfF (c:Int):Bool:=decide ((65<=c/\c<=90)\/(192<=c/\c<=222/\c≠215))
def qcj (c:Int):Int:=if qfF c=true then c+32 else c
def qh6 (c:Int):Bool:=decide (0<=c/\c<=1114111/\¬ (55296<=c/\c<=57343))
def qeA (c:Int):Int:=if qh6 c=true then c else 65533
def qjE (c:Int):qh6 c=Utf8.valid c:=by
 rw [kD,qgb];simp [qh6];omega
def qsC {c:Int} (a:Utf8.valid c=true):qeA c=c:=by rw [qeA,qjE,eA a]
def qsD (c:Int):Utf8.valid (qeA c)=true:=by
 unfold qeA;split
 ·rename_i a;rw [<- qjE];exact a
 ·decide
def qmu (c:Int):Lib.encodeRune (qeA c)=Lib.encodeRune c:=by
 by_cases a:Utf8.valid c=true
 ·rw [qsC a]
 ·rw [qeA,qjE,dA a]
  have b:c<0\/(55296<=c/\c<=57343)\/1114111<c:=by
   have :=mt (qgb c).2 a;omega
  rw [Lib.encodeRune,Lib.encodeRune,Lib.encodeRuneZ_bad b];rfl
def qsE (c:Int):qcj (qcj c)=qcj c:=by
 unfold qcj;by_cases a:qfF c=true
 ·rw [eA a]
  have :¬ qfF (c+32)=true:=by simp [qfF] at a ⊢;omega
  rw [dA this]
 ·rw [dA a,dA a]
def qsF (c:Int):qez (qcj c)=qez c:=by
 unfold qcj;split
 ·rename_i a
  simp [qfF] at a;rw [kD];simp [qez];omega
 ·rfl
def qsG (c:Int):qfg (qcj c)=qfg c:=by
 unfold qcj;split
 ·rename_i a
  simp [qfF] at a;rw [kD];simp [qfg];omega
 ·rfl
open Go.Proofs.Tryz
open Go.Shelf Go.RowKit
def qsH:Go.Shelf.Ren:=⟨fun |195=>226|n=>n,fun |0=>0|3=>3|4=>4|9=>9|n=>n,fun |n=>n⟩
def qsI:Lays.n195 prog qsH:={
 mixed:=by kernel_rfl
 f195:=func226.trans (congrArg some (by kernel_rfl))
 t0:=underlying0
 a0:=Tryz.isAgg0
 z0:=Tryz.sizeOf0
 v0:=Tryz.zeroValue0
 t3:=underlying3
 a3:=Tryz.isAgg3
 z3:=Tryz.sizeOf3
 v3:=Tryz.zeroValue3
 t4:=underlying4
 a4:=Tryz.isAgg4
 z4:=Tryz.sizeOf4
 v4:=Tryz.zeroValue4
 t9:=underlying9
 a9:=Tryz.isAgg9
 z9:=Tryz.sizeOf9
 v9:=Tryz.zeroValue9}
def qmv:Go.Shelf.Ren:=⟨fun |169=>245|n=>n,fun |0=>0|3=>3|5=>5|9=>9|37=>178|70=>331|72=>333|127=>346|n=>n,fun |n=>n⟩
def qsJ:Lays.n169 prog qmv:={
 mixed:=by kernel_rfl
 f169:=func245.trans (congrArg some (by kernel_rfl))
 t0:=underlying0
 a0:=Tryz.isAgg0
 z0:=Tryz.sizeOf0
 v0:=Tryz.zeroValue0
 t3:=underlying3
 a3:=Tryz.isAgg3
 z3:=Tryz.sizeOf3
 v3:=Tryz.zeroValue3
 t9:=underlying9
 a9:=Tryz.isAgg9
 z9:=Tryz.sizeOf9
 v9:=Tryz.zeroValue9
 t37:=underlying178
 a37:=Tryz.isAgg178
 z37:=Tryz.sizeOf178
 v37:=Tryz.zeroValue178
 t70:=underlying331
 a70:=Tryz.isAgg331
 z70:=Tryz.sizeOf331
 v70:=Tryz.zeroValue331
 t72:=underlying333
 a72:=Tryz.isAgg333
 z72:=Tryz.sizeOf333
 v72:=Tryz.zeroValue333
 t127:=underlying346
 a127:=Tryz.isAgg346
 z127:=Tryz.sizeOf346
 v127:=Tryz.zeroValue346}
def qsK:Builder.Extra prog qmv:={
 sizeBuilder:=by kernel_rfl
 liesBuilder:=by kernel_rfl
 t5:=underlying5
 a5:=Tryz.isAgg5
 z5:=Tryz.sizeOf5
 v5:=Tryz.zeroValue5
 infoByte:=by kernel_rfl
 cellsByte:=by kernel_rfl
 sizeByte:=by kernel_rfl
 neB5:=by decide}
def qmw:Go.Shelf.Ren:=⟨fun |168=>243|240=>252|242=>253|276=>255|278=>256|n=>n,fun |0=>0|3=>3|4=>4|5=>5|9=>9|20=>20 |21=>21|37=>178|46=>260|51=>297|70=>331|72=>333|75=>335|80=>339|164=>348|n=>n,fun |n=>n⟩
def qsL:Lays.n168 prog qmw:={
 mixed:=by kernel_rfl
 f168:=func243.trans (congrArg some (by kernel_rfl))
 f240:=func252.trans (congrArg some (by kernel_rfl))
 f242:=func253.trans (congrArg some (by kernel_rfl))
 f276:=func255.trans (congrArg some (by kernel_rfl))
 f278:=func256.trans (congrArg some (by kernel_rfl))
 t0:=underlying0
 a0:=Tryz.isAgg0
 z0:=Tryz.sizeOf0
 v0:=Tryz.zeroValue0
 t3:=underlying3
 a3:=Tryz.isAgg3
 z3:=Tryz.sizeOf3
 v3:=Tryz.zeroValue3
 t4:=underlying4
 a4:=Tryz.isAgg4
 z4:=Tryz.sizeOf4
 v4:=Tryz.zeroValue4
 t5:=underlying5
 a5:=Tryz.isAgg5
 z5:=Tryz.sizeOf5
 v5:=Tryz.zeroValue5
 t9:=underlying9
 a9:=Tryz.isAgg9
 z9:=Tryz.sizeOf9
 v9:=Tryz.zeroValue9
 t20:=underlying20
 a20:=Tryz.isAgg20
 z20:=Tryz.sizeOf20
 v20:=Tryz.zeroValue20
 t21:=underlying21
 a21:=Tryz.isAgg21
 z21:=Tryz.sizeOf21
 v21:=Tryz.zeroValue21
 t37:=underlying178
 a37:=Tryz.isAgg178
 z37:=Tryz.sizeOf178
 v37:=Tryz.zeroValue178
 t46:=underlying260
 a46:=Tryz.isAgg260
 z46:=Tryz.sizeOf260
 v46:=Tryz.zeroValue260
 t51:=underlying297
 a51:=Tryz.isAgg297
 z51:=Tryz.sizeOf297
 v51:=Tryz.zeroValue297
 t70:=underlying331
 a70:=Tryz.isAgg331
 z70:=Tryz.sizeOf331
 v70:=Tryz.zeroValue331
 t72:=underlying333
 a72:=Tryz.isAgg333
 z72:=Tryz.sizeOf333
 v72:=Tryz.zeroValue333
 t75:=underlying335
 a75:=Tryz.isAgg335
 z75:=Tryz.sizeOf335
 v75:=Tryz.zeroValue335
 t164:=underlying348
 a164:=Tryz.isAgg348
 z164:=Tryz.sizeOf348
 v164:=Tryz.zeroValue348}
def qsM:Builder.Extra prog qmw:={
 sizeBuilder:=by kernel_rfl
 liesBuilder:=by kernel_rfl
 t5:=underlying5
 a5:=Tryz.isAgg5
 z5:=Tryz.sizeOf5
 v5:=Tryz.zeroValue5
 infoByte:=by kernel_rfl
 cellsByte:=by kernel_rfl
 sizeByte:=by kernel_rfl
 neB5:=by decide}
def qsN (s:ByteArray) (w:World) (a:s.size<9223372036854775807):
  yG 226 #[.string s] w fun e w'=>e= .returned (.int .i64 (Lib.runeCount s))/\∃ b,w'=w.iter s b:=Any.utf8_RuneCountInString qsI s w a
def qsO (B b:Nat) (l:List UInt8) (w:World) (a:Lib.IsBuilderF 333 5 B b (Lib.byteCells l) w) (c:B<=w.heap.size):
  yG 245 #[.pointer (some ⟨b,0,none⟩)] w fun e w'=>e= .returned (.string ⟨l.toArray⟩)/\(Lib.IsBuilderF 333 5 B b (Lib.byteCells l) w'/\Below B w w'/\Lib.OthersKept 5 (some b) w w'):=Any.Builder_String_any_k qsJ qsK B b l w a c
def qsP (B b:Nat) (bs:List Value) (r:Int) (c: -2147483648<=r) (a:r<=2147483647) (w:World) (g:Lib.IsBuilderF 333 5 B b bs w) (h:bs.length+4<=140737488355328) (d:B<=w.heap.size):
  yG 243 #[.pointer (some ⟨b,0,none⟩),.int .i32 r] w fun e w'=>e= .returned (.tuple #[.int .i64 (Lib.runeCells r).length,.nilIface])/\(Lib.BuilderAtF 333 5 B b (.pointer (some ⟨b,0,none⟩)) (bs++Lib.runeCells r) w'/\Below B w w'/\Lib.OthersKept 5 (some b) w w'):=Any.Builder_WriteRune_k qsL qsM B b bs r c a w g h d
def qam (n:Nat):List UInt8:=if n<128 then [UInt8.ofNat n] else UInt8.ofNat (128+n%128)::qam (n/128)
termination_by n
decreasing_by omega
def qeB (a:n<128):qam n=[UInt8.ofNat n]:=by rw [qam,eA a]
def qeS (a:128<=n):qam n=UInt8.ofNat (128+n%128)::qam (n/128):=by rw [qam,dA (by omega)]
def qeT (a:n<256):(UInt8.ofNat n).toNat=n:=by simp;omega
def qgc (n:Nat):0<(qam n).length:=by
 by_cases a:n<128
 ·rw [qeB a];simp
 ·rw [qeS (by omega)];simp
def qsQ:∀ {n:Nat},n<128^(k+1)->(qam n).length<=k+1:=by
 induction k with
 |zero=>intro n a;rw [qeB (by simpa using a)];simp
 |succ k b=>
  intro n a;by_cases h1:n<128
  ·rw [qeB h1];simp
  ·rw [qeS (by omega),nA]
   have :=b (n:=n/128) (by rw [Nat.pow_succ] at a;exact Nat.div_lt_of_lt_mul (by rw [Nat.mul_comm];exact a));omega
def qfG (a:n<9223372036854775808):(qam n).length<=9:=qsQ (k:=8) (by simpa using a)
def qCN:∀ {n m:Nat},n<=m->(qam n).length<=(qam m).length:=by
 intro n
 induction n using Nat.strongRecOn with
 |_ n b=>
  intro m a;by_cases h1:n<128
  ·rw [qeB h1]
   exact qgc m
  ·rw [qeS (by omega),qeS (n:=m) (by omega),nA,nA]
   exact Nat.succ_le_succ (b (n/128) (by omega) (Nat.div_le_div_right a))
def qbp:List UInt8->Nat
 |[]=>0
 |c::r=>c.toNat%128+128*qbp r
def qmx:∀ l:List UInt8,qbp l<128^l.length
 |[]=>by simp [qbp]
 |c::r=>by
  have :=qmx r;rw [qbp,nA,Nat.pow_succ];omega
def qmy:∀ (l:List UInt8) (c:UInt8),qbp (l++[c])=qbp l+c.toNat%128*128^l.length
 |[],c=>by simp [qbp]
 |d::r,c=>by
  rw [bC,qbp,qbp,qmy r c,nA,Nat.pow_succ,Nat.mul_add];have :128*(c.toNat%128*128^r.length)=c.toNat%128*(128^r.length*128):=by
   rw [Nat.mul_comm 128,Nat.mul_assoc]
  omega
def qsR {l:List UInt8} (a:i<l.length):qbp (l.take (i+1))=qbp (l.take i)+(l.getD i 0).toNat%128*128^i:=by
 rw [aB a,qmy,sA,eD (by omega),mA,oA a];rfl
def qmz (l:List UInt8) (i:Nat):qbp (l.take i)<128^i:=by
 have a:=qmx (l.take i);have h2:(l.take i).length<=i:=List.length_take_le i l;exact tB a (Nat.pow_le_pow_right (by omega) h2)
def qd9:Nat->List UInt8->Option Nat
 |0,_=>none
 |_+1,[]=>none
 |f+1,c::r=>if c.toNat<128 then some 0 else (qd9 f r).map (· +1)
def qaC (l:List UInt8):Nat × Nat:=
 match qd9 9 l with
 |none=>(0,0)
 |some k=>if k≠0/\(l.getD k 0).toNat=0 then (0,0) else (qbp (l.take (k+1)),k+1)
def qmA:∀ {f:Nat} {l:List UInt8},(∀ j,j<f->j<l.length->128<=(l.getD j 0).toNat)->qd9 f l=none
 |0,_,_=>rfl
 |f+1,[],_=>rfl
 |f+1,c::r,a=>by
  have e:128<=c.toNat:=a 0 (by omega) (by simp);have b:=qmA (f:=f) (l:=r) fun j d g=>a (j+1) (by omega) (by simp;omega)
  simp only [qd9,b];rw [dA (by omega)];rfl
def qjF:∀ {f:Nat} {l:List UInt8} {i:Nat},i<f->i<l.length->(∀ j,j<i->128<=(l.getD j 0).toNat)->(l.getD i 0).toNat<128->qd9 f l=some i
 |0,_,_,a,_,_,_=>by omega
 |f+1,[],_,_,a,_,_=>by simp at a
 |f+1,c::r,0,_,_,_,a=>by
  have b:c.toNat<128:=a;simp [qd9,b]
 |f+1,c::r,i+1,k,g,d,a=>by
  have b:128<=c.toNat:=d 0 (by omega);have e:=qjF (f:=f) (l:=r) (i:=i) (by omega) (by simpa using g) (fun j h=>d (j+1) (by omega)) a;simp only [qd9,e];rw [dA (by omega)];rfl
def qdS (l:List UInt8) (i:Nat):Prop:=∀ j,j<i->128<=(l.getD j 0).toNat
def qdS.zero (l:List UInt8):qdS l 0:=fun j a=>by omega
def qdS.succ {l:List UInt8} (a:qdS l i) (b:128<=(l.getD i 0).toNat):qdS l (i+1):=fun j c=>by
 by_cases e:j=i
 ·rw [e];exact b
 ·exact a j (by omega)
def qsS {l:List UInt8} (a:qdS l i) (b:9<=i\/l.length<=i):qaC l=(0,0):=by
 unfold qaC;rw [qmA fun j h1 h2=>a j (by omega)]
def qsT {l:List UInt8} (c:qdS l i) (a:i<9) (d:i<l.length) (e:0<i) (b:(l.getD i 0).toNat=0):qaC l=(0,0):=by
 unfold qaC;rw [qjF a d c (by omega)];simp only;rw [eA ⟨by omega,b⟩]
def qmB {l:List UInt8} (c:qdS l i) (a:i<9) (d:i<l.length) (b:(l.getD i 0).toNat<128) (e:i=0\/(l.getD i 0).toNat≠0):qaC l=(qbp (l.take (i+1)),i+1):=by
 unfold qaC;rw [qjF a d c b];simp only;rw [dA (by omega)]
def qsU (l:List UInt8):qaC l=(0,0)\/∃ i,i<9/\i<l.length/\qaC l=(qbp (l.take (i+1)),i+1):=by
 unfold qaC;have key:∀ (f:Nat) (l:List UInt8) (k:Nat),qd9 f l=some k->k<f/\k<l.length:=by
  intro f
  induction f with
  |zero=>intro l k a;cases a
  |succ f d=>
   intro l k a;cases l with
   |nil=>cases a
   |cons c r=>
    rw [qd9] at a;split at a
    ·simp at a;subst a;simp
    ·rw [Option.map_eq_some_iff] at a
     obtain ⟨j,b,rfl⟩:=a;have :=d r j b;simp;omega
 rcases hs:qd9 9 l with _|k
 ·exact .inl rfl
 ·have :=key 9 l k hs
  simp only;split
  ·exact .inl rfl
  ·exact .inr ⟨k,this.1,this.2,rfl⟩
def qfH (l:List UInt8):(qaC l).1<9223372036854775808/\(qaC l).2<=l.length/\(qaC l).2<=9:=by
 rcases qsU l with a|⟨i,h1,h2,a⟩
 ·rw [a];simp
 ·rw [a]
  have :=qmz l (i+1);have h3:(128:Nat)^(i+1)<=128^9:=Nat.pow_le_pow_right (by omega) (by omega);refine ⟨?_,?_,?_⟩<;>simp only<;>omega
def qmC (a:i<9):(128:Nat)^i<=72057594037927936:=by
 have h3:(128:Nat)^i<=128^8:=Nat.pow_le_pow_right (by omega) (by omega);omega
def qsV:∀ (n:Nat) (j:Nat),j+1<(qam n).length->128<=((qam n).getD j 0).toNat:=by
 intro n
 induction n using Nat.strongRecOn with
 |_ n b=>
  intro j a;by_cases h1:n<128
  ·rw [qeB h1] at a;simp at a
  ·rw [qeS (by omega)] at a ⊢
   cases j with
   |zero=>rw [List.getD_cons_zero,qeT (by omega)];omega
   |succ j=>simpa using b (n/128) (by omega) j (by simpa using a)
def qsW:∀ (n:Nat),((qam n).getD ((qam n).length-1) 0).toNat<128/\(0<n->((qam n).getD ((qam n).length-1) 0).toNat≠0):=by
 intro n
 induction n using Nat.strongRecOn with
 |_ n a=>
  by_cases h1:n<128
  ·rw [qeB h1]
   have :=qeT (n:=n) (by omega);simp only [bB,List.getD_cons_zero,bE];omega
  ·rw [qeS (by omega)]
   have b:=qgc (n/128);have :=a (n/128) (by omega);rw [nA,show (qam (n/128)).length+1-1=((qam (n/128)).length-1)+1 by omega,List.getD_cons_succ];exact ⟨this.1,fun _=>this.2 (by omega)⟩
def qsX (a:1<(qam n).length):0<n:=by
 rcases sF n with h0|h0
 ·subst h0
  rw [qeB (by omega)] at a;simp at a
 ·exact h0
def qsY:∀ n:Nat,qbp (qam n)=n:=by
 intro n
 induction n using Nat.strongRecOn with
 |_ n a=>
  by_cases h1:n<128
  ·rw [qeB h1,qbp,qbp,qeT (by omega)];omega
  ·rw [qeS (by omega),qbp,a (n/128) (by omega),qeT (by omega)];omega
def qjG {a b:List UInt8} (c:j<a.length):(a++b).getD j 0=a.getD j 0:=by
 rw [mA,mA,fD c]
def qmD (b:n<9223372036854775808) (r:List UInt8):qaC (qam n++r)=(n,(qam n).length):=by
 have e:=qgc n;have d:=qfG b;have a:=qsW n;rw [qmB (i:=(qam n).length-1) ?_ (by omega) (by simp;omega) ?_ ?_,show (qam n).length-1+1=(qam n).length by omega,List.take_left,qsY]
 ·intro j c
  rw [qjG (by omega)];exact qsV n j (by omega)
 ·rw [qjG (by omega)]
  exact a.1
 ·by_cases h1:(qam n).length=1
  ·exact .inl (by omega)
  ·refine .inr ?_
   rw [qjG (by omega)];exact a.2 (qsX (by omega))
def qmE:∀ {k:Nat} {l:List UInt8},l.length=k+1->qdS l k->(l.getD k 0).toNat<128->(k=0\/(l.getD k 0).toNat≠0)->qam (qbp l)=l/\((l.getD k 0).toNat≠0->0<qbp l)
 |0,[c],_,_,b,_=>by
  have h:c.toNat<128:=by simpa using b
  have a:qbp [c]=c.toNat:=by simp only [qbp];omega
  refine ⟨?_,fun h0=> ?_⟩
  ·rw [a,qeB h]
   congr 1;exact UInt8.toNat_inj.1 (by rw [qeT (by omega)])
  ·rw [a]
   have :c.toNat≠0:=by simpa using h0
   omega
 |k+1,c::r,i,d,b,h0=>by
  have p:128<=c.toNat:=d 0 (by omega);have q:=c.toNat_lt;have e:(r.getD k 0).toNat≠0:=by
   rcases h0 with h0|h0
   ·omega
   ·simpa using h0
  have g:=qmE (k:=k) (l:=r) (by simpa using i) (fun j m=>by simpa using d (j+1) (by omega)) (by simpa using b) (.inr e);have a:qbp (c::r)=c.toNat-128+128*qbp r:=by simp only [qbp];omega
  have n:=g.2 e;refine ⟨?_,fun _=>by rw [a];omega⟩;rw [a,qeS (by omega),show (c.toNat-128+128*qbp r)/128=qbp r by omega,g.1];congr 1;exact UInt8.toNat_inj.1 (by rw [qeT (by omega)];omega)
def qbY (l:List UInt8) (a:Int):Int × Int × Int:=
 if a<0\/(l.length:Int)<a then (0,0,1)
 else if (qaC (l.drop a.toNat)).2=0 then (0,0,2) else (((qaC (l.drop a.toNat)).1:Int),a+((qaC (l.drop a.toNat)).2:Int),0)
def qmF {l:List UInt8} (b:a<0\/(l.length:Int)<a):qbY l a=(0,0,1):=by unfold qbY;rw [eA b]
def qmG {l:List UInt8} {a:Nat} (b:a<=l.length) (h2:(qaC (l.drop a)).2=0):qbY l (a:Int)=(0,0,2):=by
 unfold qbY;rw [dA (by omega),rD,eA h2]
def qjH {l:List UInt8} {a:Nat} (b:a<=l.length) (h2:qaC (l.drop a)=(n,k+1)):qbY l (a:Int)=((n:Int),(a:Int)+((k+1:Nat):Int),0):=by
 unfold qbY;rw [dA (by omega),rD,h2];simp
def qmH (c:n<9223372036854775808) (b r:List UInt8):qbY (b++(qam n++r)) (b.length:Int)=((n:Int),((b.length+(qam n).length:Nat):Int),0):=by
 have d:=qgc n;obtain ⟨k,a⟩:∃ k,(qam n).length=k+1:=⟨(qam n).length-1,by omega⟩;rw [qjH (n:=n) (k:=k) (by simp) (by rw [List.drop_left,qmD c,a]),a];simp
def qal:Int->List Int->Bool
 |_,[]=>true
 |last,n::r=>decide (last<n)&&qal n r
def dB:Int->List Int->List UInt8
 |_,[]=>[]
 |last,n::r=>qam (n-(last+1)).toNat++dB n r
def qbQ (l:List Int):List UInt8:=qam l.length++dB (-1) l
def qjI:∀ (l:List Int) (last:Int), -1<=last->qal last l=true->(∀ x∈l,x<=9223372036854775807)->(dB last l).length<=9*l.length
 |[],_,_,_,_=>by simp [dB]
 |n::r,last,e,a,b=>by
  rw [qal,xA,gC] at a;have d:=b n (by simp);rw [dB,iA,nA];have h1:=qfG (n:=(n-(last+1)).toNat) (by omega);have h2:=qjI r n (by omega) a.2 fun x c=>b x (by simp [c])
  omega
def qcI (l:List UInt8):Nat->Int->Nat->List Int->Option (List Int × Nat)
 |0,_,a,b=>some (b,a)
 |m+1,last,a,b=>
  if (qaC (l.drop a)).2=0\/4611686018427387904-(last+1)<((qaC (l.drop a)).1:Int) then none
  else qcI l m (last+(((qaC (l.drop a)).1:Int)+1)) (a+(qaC (l.drop a)).2) (b++[last+(((qaC (l.drop a)).1:Int)+1)])
def qdj (l:List UInt8) (a:Int):List Int × Int × Int:=
 if (qbY l a).2.2=0 then
  match qcI l (qbY l a).1.toNat (-1) (qbY l a).2.1.toNat [] with
  |none=>([],0,2)
  |some (xs,b)=>(xs,(b:Int),0)
 else ([],0,(qbY l a).2.2)
def qmI:∀ (g:List Int) (last:Int) (pre post:List UInt8) (a:List Int), -1<=last->qal last g=true->(∀ x∈g,x<=4611686018427387904)->
  qcI (pre++(dB last g++post)) g.length last pre.length a=some (a++g,pre.length+(dB last g).length)
 |[],last,pre,post,a,_,_,_=>by simp [qcI,dB]
 |n::r,last,pre,post,a,l,b,c=>by
  rw [qal,xA,gC] at b;have k:=c n (by simp);have e:pre++(dB last (n::r)++post)=pre++(qam (n-(last+1)).toNat++(dB n r++post)):=by rw [dB,iB]
  have d:qaC ((pre++(dB last (n::r)++post)).drop pre.length)=((n-(last+1)).toNat,(qam (n-(last+1)).toNat).length):=by
   rw [e,List.drop_left,qmD (by omega)]
  have m:=qgc (n-(last+1)).toNat;rw [nA,qcI,d];simp only;rw [dA (by omega),show last+(((n-(last+1)).toNat:Int)+1)=n by omega,e];have h:pre++(qam (n-(last+1)).toNat++(dB n r++post))=(pre++qam (n-(last+1)).toNat)++(dB n r++post):=by rw [iB]
  have i:=qmI r n (pre++qam (n-(last+1)).toNat) post (a++[n]) (by omega) b.2 (fun x j=>c x (by simp [j]));rw [h,<- iA,i,dB];simp [uB]
def qsZ {g:List Int} (d:qal (-1) g=true) (h:∀ x∈g,x<=4611686018427387904) (i:g.length<9223372036854775808) (b r:List UInt8):
  qdj (b++(qbQ g++r)) (b.length:Int)=(g,((b.length+(qbQ g).length:Nat):Int),0):=by
 have j:=qmH i b (dB (-1) g++r);have e:b++(qbQ g++r)=b++(qam g.length++(dB (-1) g++r)):=by rw [qbQ,iB]
 have c:b++(qam g.length++(dB (-1) g++r))=(b++qam g.length)++(dB (-1) g++r):=by rw [iB]
 have a:=qmI g (-1) (b++qam g.length) r [] (by omega) d h;unfold qdj;rw [e,j];simp only [if_true,rD];rw [c,<- iA,a];simp [qbQ,uB]
def qs0:Go.Shelf.Ren:=⟨fun |41=>154|n=>n,fun |4=>4|22=>57|23=>121|n=>n,fun |n=>n⟩
def qmJ:SlLaysE0.n41 prog qs0:={
 mixed:=by kernel_rfl
 f41:=⟨Tryz.f154.name,by kernel_rfl,func154.trans (congrArg some (by kernel_rfl))⟩
 t4:=underlying4
 a4:=Tryz.isAgg4
 z4:=Tryz.sizeOf4
 v4:=Tryz.zeroValue4
 t22:=underlying57
 a22:=Tryz.isAgg57
 z22:=Tryz.sizeOf57
 v22:=Tryz.zeroValue57}
def qs1:Go.Shelf.Ren:=⟨fun |6=>183|8=>146|n=>n,fun |0=>0|3=>3|4=>4|22=>57|23=>121|25=>247|n=>n,fun |n=>n⟩
def qs2:SlLaysH0.n8 prog qs1:={
 mixed:=by kernel_rfl
 f6:=⟨Tryz.f183.name,by kernel_rfl,func183.trans (congrArg some (by kernel_rfl))⟩
 f8:=⟨Tryz.f146.name,by kernel_rfl,func146.trans (congrArg some (by kernel_rfl))⟩
 t0:=underlying0
 a0:=Tryz.isAgg0
 z0:=Tryz.sizeOf0
 v0:=Tryz.zeroValue0
 t3:=underlying3
 a3:=Tryz.isAgg3
 z3:=Tryz.sizeOf3
 v3:=Tryz.zeroValue3
 t4:=underlying4
 a4:=Tryz.isAgg4
 z4:=Tryz.sizeOf4
 v4:=Tryz.zeroValue4
 t22:=underlying57
 a22:=Tryz.isAgg57
 z22:=Tryz.sizeOf57
 v22:=Tryz.zeroValue57
 t25:=underlying247
 a25:=Tryz.isAgg247
 z25:=Tryz.sizeOf247
 v25:=Tryz.zeroValue247}
def qjJ:Go.Shelf.Ren:=⟨fun |6=>186|14=>221|15=>158|20=>233|21=>234|22=>235|23=>236|24=>237|25=>238|26=>239|27=>240|28=>201|29=>202|46=>249|47=>228|48=>229|49=>250|50=>251|57=>254|n=>n,fun |0=>0|3=>3|4=>4|5=>5|9=>9|22=>145|24=>69|25=>255|39=>260|45=>289|46=>290|50=>142|53=>297|55=>102|66=>317|70=>321|76=>340|77=>312|n=>n,fun |n=>n⟩
def qmK:SlLaysF0.n6 prog qjJ:={
 mixed:=by kernel_rfl
 f6:=⟨Tryz.f186.name,by kernel_rfl,func186.trans (congrArg some (by kernel_rfl))⟩
 f14:=⟨Tryz.f221.name,by kernel_rfl,func221.trans (congrArg some (by kernel_rfl))⟩
 f15:=func158.trans (congrArg some (by kernel_rfl))
 f20:=⟨Tryz.f233.name,by kernel_rfl,func233.trans (congrArg some (by kernel_rfl))⟩
 f21:=⟨Tryz.f234.name,by kernel_rfl,func234.trans (congrArg some (by kernel_rfl))⟩
 f22:=⟨Tryz.f235.name,by kernel_rfl,func235.trans (congrArg some (by kernel_rfl))⟩
 f23:=⟨Tryz.f236.name,by kernel_rfl,func236.trans (congrArg some (by kernel_rfl))⟩
 f24:=⟨Tryz.f237.name,by kernel_rfl,func237.trans (congrArg some (by kernel_rfl))⟩
 f25:=⟨Tryz.f238.name,by kernel_rfl,func238.trans (congrArg some (by kernel_rfl))⟩
 f26:=⟨Tryz.f239.name,by kernel_rfl,func239.trans (congrArg some (by kernel_rfl))⟩
 f27:=⟨Tryz.f240.name,by kernel_rfl,func240.trans (congrArg some (by kernel_rfl))⟩
 f28:=func201.trans (congrArg some (by kernel_rfl))
 f29:=func202.trans (congrArg some (by kernel_rfl))
 f46:=⟨Tryz.f249.name,by kernel_rfl,func249.trans (congrArg some (by kernel_rfl))⟩
 f47:=func228.trans (congrArg some (by kernel_rfl))
 f48:=func229.trans (congrArg some (by kernel_rfl))
 f49:=⟨Tryz.f250.name,by kernel_rfl,func250.trans (congrArg some (by kernel_rfl))⟩
 f50:=⟨Tryz.f251.name,by kernel_rfl,func251.trans (congrArg some (by kernel_rfl))⟩
 f57:=⟨Tryz.f254.name,by kernel_rfl,func254.trans (congrArg some (by kernel_rfl))⟩
 t0:=underlying0
 a0:=Tryz.isAgg0
 z0:=Tryz.sizeOf0
 v0:=Tryz.zeroValue0
 t3:=underlying3
 a3:=Tryz.isAgg3
 z3:=Tryz.sizeOf3
 v3:=Tryz.zeroValue3
 t4:=underlying4
 a4:=Tryz.isAgg4
 z4:=Tryz.sizeOf4
 v4:=Tryz.zeroValue4
 t5:=underlying5
 a5:=Tryz.isAgg5
 z5:=Tryz.sizeOf5
 v5:=Tryz.zeroValue5
 t9:=underlying9
 a9:=Tryz.isAgg9
 z9:=Tryz.sizeOf9
 v9:=Tryz.zeroValue9
 t22:=underlying145
 a22:=Tryz.isAgg145
 z22:=Tryz.sizeOf145
 v22:=Tryz.zeroValue145
 t25:=underlying255
 a25:=Tryz.isAgg255
 z25:=Tryz.sizeOf255
 v25:=Tryz.zeroValue255
 t39:=underlying260
 a39:=Tryz.isAgg260
 z39:=Tryz.sizeOf260
 v39:=Tryz.zeroValue260
 t45:=underlying289
 a45:=Tryz.isAgg289
 z45:=Tryz.sizeOf289
 v45:=Tryz.zeroValue289
 t46:=underlying290
 a46:=Tryz.isAgg290
 z46:=Tryz.sizeOf290
 v46:=Tryz.zeroValue290
 t50:=underlying142
 a50:=Tryz.isAgg142
 z50:=Tryz.sizeOf142
 v50:=Tryz.zeroValue142
 t53:=underlying297
 a53:=Tryz.isAgg297
 z53:=Tryz.sizeOf297
 v53:=Tryz.zeroValue297
 t55:=underlying102
 a55:=Tryz.isAgg102
 z55:=Tryz.sizeOf102
 v55:=Tryz.zeroValue102
 t66:=underlying317
 a66:=Tryz.isAgg317
 z66:=Tryz.sizeOf317
 v66:=Tryz.zeroValue317
 t70:=underlying321
 a70:=Tryz.isAgg321
 z70:=Tryz.sizeOf321
 v70:=Tryz.zeroValue321
 t76:=underlying340
 a76:=Tryz.isAgg340
 z76:=Tryz.sizeOf340
 v76:=Tryz.zeroValue340
 t77:=underlying312
 a77:=Tryz.isAgg312
 z77:=Tryz.sizeOf312
 v77:=Tryz.zeroValue312}
section
variable {P:Program} {ops:Array Oper} {Q:Exit->Act->World->Prop} {md:Region.Mode} {n l:Nat}
def qck (Q:Exit->Act->World->Prop):Exit->Act->World->Prop
 |.normal,a,w=>Q .normal a w
 |_,_,_=>False
def qck.imp:∀ e a w,qck Q e a w->Q e a w:=fun e a w b=>by
 cases e<;>first|exact b|exact (b:False).elim
def qck.fin {a:Act} (b:Q .normal a w):qck Q .normal a w:=b
def qck.no_out:¬ LetsOut (qck Q):=fun ⟨_,_,a⟩=>a
def qs3 {o:Oper} {a:Act} {d:Act->World->Prop} (g:∀ c,o.op≠ .defer c) (b:o.wp P a w d Q):o.wpIn (Fence.wide.inRound l) n P a w d Q:=by
 refine ⟨fun _ _=>trivial,?_⟩;have e:o.semAt (Fence.wide.inRound l).round a.eval=execOp a.eval o:=gG l _ _ g;rw [e];unfold Oper.wp at b;generalize (execOp a.eval o).run P w=r at*;cases r with
 |ok x w'=>
  cases x<;>first
   |exact b
   |exact (b:False).elim
   |exact ⟨fun e=>(by cases e),CallsIn.inRound l (uG.2 b)⟩
   |exact ⟨fun e=>(by cases e),fun c cs _=>let ⟨v,w2,h1,h2⟩:=b c cs;⟨v,w2,h1,stepsIn_wide.2 h2⟩⟩
 |halt x w'=>cases x<;>exact b
def qs4 {a:Act} {g h:Act->World->Prop} (j:∀ (i:Nat) (o:Oper),ops[i]?=some o->∀ c,o.op≠ .defer c) (e:∀ a w,g a w->h a w) (b:wpOp P ops (qck Q) i g a w):wpOpIn (Fence.wide.inRound l) n P ops (qck Q) i h a w:=by
 unfold wpOp at b;unfold wpOpIn;cases ho:ops[i]? with
 |none=>rw [ho] at b;exact e _ _ b
 |some o=>
  rw [ho] at b;simp only at b ⊢;split
  ·rename_i d
   rw [eA d] at b;rcases b with b|⟨_,b⟩
   ·exact Oper.wpIn_mono e (qs3 (j i o ho) b)
   ·exact (qck.no_out b).elim
  ·rename_i d
   rw [dA d] at b;exact ⟨fun _ _=>trivial,e _ _ b⟩
def qjK (e:∀ (i:Nat) (o:Oper),ops[i]?=some o->∀ c,o.op≠ .defer c):∀ (fuel:Nat) (d:Array Bool) (a:Act) (w:World),wpAny P md ops (qck Q) fuel d a w->wpAnyIn (Fence.wide.inRound l) n P md ops (qck Q) fuel d a w
 |0,_,_,_,b=>b
 |fuel+1,d,a,w,b=>⟨b.1,fun i g=>qs4 e (fun h w' j=>qjK e fuel _ h w' j) (b.2 i g)⟩
def qh7 (o:Oper):Bool:=match o.op with| .defer _=>false|_=>true
def qmL (a:ops.toList.all qh7=true):∀ (i:Nat) (o:Oper),ops[i]?=some o->∀ c,o.op≠ .defer c:=fun i o b c e=>by
 have h1:=nF.1 a o (by rw [Array.mem_toList_iff];exact Array.mem_of_getElem? b);unfold qh7 at h1;rw [e] at h1;cases h1
def qgd {o:Oper} {a:Act} {w:World} {c:Act->World->Prop} {E:Prop} (e:o.guard=none) (s x:Operand) (t:TypeId)
  (j:o.op=Op.call {callee:=Callee.builtin Builtin.append,args:=#[s,x],argTypes:=#[t,t]}) (vs b:Value) (g:a.eval s=vs) (k:a.eval x=b) (v':Value) (w':World)
  (h:(Builtin.append_ #[t,t] o.type #[vs,b]).run P w= .ok v' w') (i:c (a.put o.dst v') w'):if Region.wanted o (yielded ops a.tmps)=true then Oper.wp P o a w c Q else E:=by
 have d:Region.wanted o (yielded ops a.tmps)=true:=by simp [Region.wanted,e]
 rw [eA d];exact Lib.wp_append_run w s x t t j vs b g k v' w' h i
def qh8 {S:World->Prop} {id:Nat} {a:Act} (b:P.follows .mixedOrders=true) (c:ops.toList.all qh7=true) (d:S w.drew)
  (e:S w.drew->wpAnyH P .any ops (qck Q) S ops.size (Array.replicate ops.size false) a w.drew):(Code.region id ops true).wpIn (Fence.wide.inRound l) n P Q a w:=
 wpIn_mono (wpIn_region_any b (qjK (qmL c) _ _ _ _ (wpAny_of_held _ _ _ _ (e d)))) qck.imp
end
def qs5:Go.Shelf.Ren:=⟨fun |41=>68|n=>n,fun |4=>4|22=>71|23=>74|n=>n,fun |n=>n⟩
def qs6:SlLaysE0.n41 prog qs5:={
 mixed:=by kernel_rfl
 f41:=⟨Tryz.f68.name,by kernel_rfl,func68.trans (congrArg some (by kernel_rfl))⟩
 t4:=underlying4
 a4:=Tryz.isAgg4
 z4:=Tryz.sizeOf4
 v4:=Tryz.zeroValue4
 t22:=underlying71
 a22:=Tryz.isAgg71
 z22:=Tryz.sizeOf71
 v22:=Tryz.zeroValue71}
def qs7:Go.Shelf.Ren:=⟨fun |41=>53|n=>n,fun |4=>4|22=>23|23=>3|n=>n,fun |n=>n⟩
def qs8:SlLaysE0.n41 prog qs7:={
 mixed:=by kernel_rfl
 f41:=⟨Tryz.f53.name,by kernel_rfl,func53.trans (congrArg some (by kernel_rfl))⟩
 t4:=underlying4
 a4:=Tryz.isAgg4
 z4:=Tryz.sizeOf4
 v4:=Tryz.zeroValue4
 t22:=underlying23
 a22:=Tryz.isAgg23
 z22:=Tryz.sizeOf23
 v22:=Tryz.zeroValue23}
end Go.Proofs.YtpehcaidjlemiaaGreatDoor
namespace Go.Proofs.YtpehcaidjlemiaaGreatDoor.Plain
variable {w w' w'' w0:World} {k n b c i j m zz B:Nat} {A:Option Addr} {v v':Value} {xs:List Value} {t:TypeId} {a:Int} {l:List (List UInt8)} {q:List Int} {S:Nat → Prop} {ws:List (Nat × Nat)}
def qbe:Nat->Nat->Nat
 |0,_=>0
 |f+1,x=>x%2+qbe f (x/2)
def pop (x:Nat):Nat:=(qfe x).length
def qmM:∀ (n x:Nat),((List.range n).filter fun j=>x.testBit j).length=qbe n x
 |0,x=>rfl
 |n+1,x=>by
  rw [List.range_succ_eq_map,List.filter_cons,List.filter_map];have a:=qmM n (x/2);have e:(fun j=>x.testBit j) ∘ Nat.succ=fun j=>(x/2).testBit j:=by funext j;simp [Nat.testBit_succ]
  rw [e];unfold qbe;rw [<- a];rcases Nat.mod_two_eq_zero_or_one x with h|h
  ·rw [dA (by simp [h]),gB,h,kB]
  ·rw [eA (by simp [h]),nA,gB,h,Nat.add_comm]
def qs9 (x:Nat):pop x=qbe 64 x:=qmM 64 x
def pop_le (x:Nat):pop x<=64:=by
 unfold pop qfe;exact lA (wD _ _) (by simp)
def val:List Nat->Nat
 |[]=>0
 |b::bs=>256*val bs+b
def mB (c:Nat):Nat->Nat
 |0=>0
 |n+1=>256*mB c n+c
def h1 (b:Nat):Nat:=(b/2 &&& 85)+(b &&& 85)
def h2 (b:Nat):Nat:=(b/4 &&& 51)+(b &&& 51)
def h3 (b:Nat):Nat:=(b/16+b) &&& 15
def qhg (y b m c:Nat) (d:b<256) (a:c<256):(256*y+b) &&& (256*m+c)=256*(y &&& m)+(b &&& c):=by
 have e:(256:Nat)=2^8:=rfl;rw [e] at d a ⊢;apply Nat.eq_of_testBit_eq;intro i;have g:b &&& c<2^8:=Nat.and_lt_two_pow b a;rw [Nat.testBit_and,Nat.testBit_two_pow_mul_add y d,Nat.testBit_two_pow_mul_add m a,Nat.testBit_two_pow_mul_add _ g];split
 ·rw [Nat.testBit_and]
 ·rw [Nat.testBit_and]
def qta:∀ e,e<2->∀ b,b<256->(128*e+b/2) &&& 85=b/2 &&& 85:=by decide+kernel
def qtb:∀ e,e<4->∀ b,b<256->(64*e+b/4) &&& 51=b/4 &&& 51:=by decide+kernel
def qtc:∀ e,e<5->∀ b,b<69->(16*e+b/16+b) &&& 15=(b/16+b) &&& 15:=by decide+kernel
def qeC:∀ b,b<256->h1 b<256/\h2 (h1 b)<69/\h2 (h1 b)%16<5/\h3 (h2 (h1 b))=qbe 8 b/\qbe 8 b<=8:=by decide+kernel
def qmN:∀ bs:List Nat,(∀ b∈bs,b<256)->(val bs/2 &&& mB 85 bs.length)+(val bs &&& mB 85 bs.length)=val (bs.map h1)
 |[],_=>rfl
 |b::bs,a=>by
  have d:=a b (by simp);have h:=qmN bs fun c g=>a c (by simp [g])
  simp only [val,mB,nA,xB];have e:(256*val bs+b)/2=256*(val bs/2)+(128*(val bs%2)+b/2):=by omega
  rw [e,qhg _ _ _ _ (by omega) (by omega),qhg _ _ _ _ d (by omega),qta _ (Nat.mod_lt _ (by decide)) b d,<- h];unfold h1;omega
def qmO:∀ bs:List Nat,(∀ b∈bs,b<256)->(val bs/4 &&& mB 51 bs.length)+(val bs &&& mB 51 bs.length)=val (bs.map h2)
 |[],_=>rfl
 |b::bs,a=>by
  have d:=a b (by simp);have h:=qmO bs fun c g=>a c (by simp [g])
  simp only [val,mB,nA,xB];have e:(256*val bs+b)/4=256*(val bs/4)+(64*(val bs%4)+b/4):=by omega
  rw [e,qhg _ _ _ _ (by omega) (by omega),qhg _ _ _ _ d (by omega),qtb _ (Nat.mod_lt _ (by decide)) b d,<- h];unfold h2;omega
def qmP:∀ bs:List Nat,(∀ b∈bs,b<69/\b%16<5)->(val bs/16+val bs) &&& mB 15 bs.length=val (bs.map h3)
 |[],_=>rfl
 |b::bs,a=>by
  have h:=a b (by simp);have i:=qmP bs fun c g=>a c (by simp [g])
  have d:val bs%16<5:=by
   cases bs with
   |nil=>simp [val]
   |cons c cs=>
    have :=(a c (by simp)).2;simp only [val];omega
  simp only [val,mB,nA,xB];have e:(256*val bs+b)/16+(256*val bs+b)=256*(val bs/16+val bs)+(16*(val bs%16)+b/16+b):=by omega
  rw [e,qhg _ _ _ _ (by omega) (by omega),qtc _ d b h.1,<- i];rfl
def qdC (x:Nat):List Nat:=[x%256,x/256%256,x/65536%256,x/16777216%256,x/4294967296%256,x/1099511627776%256,x/281474976710656%256,x/72057594037927936%256]
def qmQ (x:Nat) (a:x<18446744073709551616):val (qdC x)=x:=by
 simp only [qdC,val];omega
def qfI (y b m:Nat) (a:b<256):qbe (m+8) (256*y+b)=qbe 8 b+qbe m y:=by
 have e:(256*y+b)/2/2/2/2/2/2/2/2=y:=by omega
 simp only [qbe,e];omega
def qtd (a b c d e f g h:Nat) (p:a<256) (m:b<256) (l:c<256) (j:d<256) (q:e<256) (n:f<256) (i:g<256) (k:h<256):
  pop (val [a,b,c,d,e,f,g,h])=qbe 8 a+(qbe 8 b+(qbe 8 c+(qbe 8 d+(qbe 8 e+(qbe 8 f+(qbe 8 g+qbe 8 h)))))):=by
 rw [qs9];simp only [val];rw [qfI _ _ 56 p,qfI _ _ 48 m,qfI _ _ 40 l,qfI _ _ 32 j,qfI _ _ 24 q,qfI _ _ 16 n,qfI _ _ 8 i,qfI _ _ 0 k];simp [qbe]
def qte (a b c d e f g h:Nat) (I:a<=8) (w:b<=8) (C:c<=8) (B:d<=8) (J:e<=8) (H:f<=8) (F:g<=8) (G:h<=8) (x y z:Nat)
  (i:x=val [a,b,c,d,e,f,g,h]+val [a,b,c,d,e,f,g,h]/256) (j:y=x+x/65536) (k:z=y+y/4294967296):
  x<18446744073709551616/\y<18446744073709551616/\z<9223372036854775808/\z%128=a+(b+(c+(d+(e+(f+(g+h)))))):=by
 simp only [val] at i;have m:x=256*(256*(256*(256*(256*(256*(256*h+(g+h))+(f+g))+(e+f))+(d+e))+(c+d))+(b+c))+(a+b):=by omega
 have l:y=256*(256*(256*(256*(256*(256*(256*h+(g+h))+(f+g+h))+(e+f+g+h))+(d+e+f+g))+(c+d+e+f))+(b+c+d+e))+(a+b+c+d):=by
  clear i k;omega
 have ⟨t,q⟩:=qE (256*(256*(256*h+(g+h))+(f+g+h))+(e+f+g+h));have ⟨v,r⟩:=qE (256*(256*(256*(d+e+f+g)+(c+d+e+f))+(b+c+d+e))+(a+b+c+d));have s:y=4294967296*t+v:=by
  clear i j m k;omega
 have n:y/4294967296=t:=by
  clear i j m k l;omega
 have A:t<4294967296:=by
  clear i j m k l s n;omega
 have D:v<4294967296:=by
  clear i j m k l s n q;omega
 rw [n] at k;have p:z%128=(v+t)%128:=by
  clear i j m l q r;omega
 have E:t<=200000000:=by
  clear i j m k l s n r p;omega
 refine ⟨?_,?_,?_,?_⟩
 ·clear i j k l s n q r p
  omega
 ·clear i j k l m n q r p
  omega
 ·clear i j l m n q r p
  omega
 ·rw [p]
  clear i j l m n s k p;omega
def pop_hack (x:Nat) (G:x<18446744073709551616):
  ∃ t l r v s w:Nat,
   t=(x/2 &&& 6148914691236517205)+(x &&& 6148914691236517205)/\t<18446744073709551616/\
   l=(t/4 &&& 3689348814741910323)+(t &&& 3689348814741910323)/\l<18446744073709551616/\
   l/16+l<18446744073709551616/\r=(l/16+l) &&& 1085102592571150095/\r<18446744073709551616/\
   v=r+r/256/\v<18446744073709551616/\s=v+v/65536/\s<18446744073709551616/\w=s+s/4294967296/\w<9223372036854775808/\w%128=pop x:=by
 have q:∀ b∈qdC x,b<256:=by
  intro b k;simp only [qdC,wA,List.not_mem_nil,or_false] at k;omega
 have i:=qmN (qdC x) q;rw [qmQ x G] at i;have E:mB 85 (qdC x).length=6148914691236517205:=by simp [mB,qdC]
 rw [E] at i;have j:=qmO ((qdC x).map h1) (by
  intro b k;obtain ⟨c,m,rfl⟩:=tA.1 k;exact (qeC c (q c m)).1)
 have C:mB 51 ((qdC x).map h1).length=3689348814741910323:=by simp [mB,qdC]
 rw [C] at j;have p:=qmP (((qdC x).map h1).map h2) (by
  intro b k;obtain ⟨c,m,rfl⟩:=tA.1 k;obtain ⟨d,n,rfl⟩:=tA.1 m;exact ⟨(qeC d (q d n)).2.1,(qeC d (q d n)).2.2.1⟩)
 have A:mB 15 (((qdC x).map h1).map h2).length=1085102592571150095:=by simp [mB,qdC]
 rw [A] at p;have y:pop x=pop (val (qdC x)):=by rw [qmQ x G]
 simp only [qdC,xB,List.map_nil] at i j p y;have J:x%256<256:=Nat.mod_lt _ (by decide);have k:x/256%256<256:=Nat.mod_lt _ (by decide);have m:x/65536%256<256:=Nat.mod_lt _ (by decide);have n:x/16777216%256<256:=Nat.mod_lt _ (by decide);have K:x/4294967296%256<256:=Nat.mod_lt _ (by decide);have I:x/1099511627776%256<256:=Nat.mod_lt _ (by decide);have F:x/281474976710656%256<256:=Nat.mod_lt _ (by decide);have H:x/72057594037927936%256<256:=Nat.mod_lt _ (by decide);clear E C A q;generalize x%256=a at*;generalize x/256%256=b at*;generalize x/65536%256=c at*;generalize x/16777216%256=d at*;generalize x/4294967296%256=e at*;generalize x/1099511627776%256=f at*;generalize x/281474976710656%256=g at*;generalize x/72057594037927936%256=h at*;have ⟨au,ae,az,M,ab⟩:=qeC a J;have ⟨ah,af,a2,V,N⟩:=qeC b k;have ⟨am,ay,a0,R,Y⟩:=qeC c m;have ⟨a3,ad,ag,U,T⟩:=qeC d n;have ⟨al,aj,an,L,Q⟩:=qeC e K;have ⟨ao,a1,ar,aa,ac⟩:=qeC f I;have ⟨ap,ak,aw,P,X⟩:=qeC g F;have ⟨ai,aq,ax,Z,S⟩:=qeC h H;rw [M,V,R,U,L,aa,P,Z] at p;rw [qtd _ _ _ _ _ _ _ _ J k m n K I F H] at y;have ⟨B,l2,D,z⟩:=qte (qbe 8 a) (qbe 8 b) (qbe 8 c) (qbe 8 d) (qbe 8 e) (qbe 8 f) (qbe 8 g) (qbe 8 h) ab N Y T Q ac X S _ _ _ rfl rfl rfl;rw [<- y] at z;have O:val [h1 a,h1 b,h1 c,h1 d,h1 e,h1 f,h1 g,h1 h]<18446744073709551616:=by
  simp only [val];omega
 have av:val [h2 (h1 a),h2 (h1 b),h2 (h1 c),h2 (h1 d),h2 (h1 e),h2 (h1 f),h2 (h1 g),h2 (h1 h)]<5000000000000000000:=by
  simp only [val];omega
 have W:val [qbe 8 a,qbe 8 b,qbe 8 c,qbe 8 d,qbe 8 e,qbe 8 f,qbe 8 g,qbe 8 h]<18446744073709551616:=by
  simp only [val];omega
 rw [<- p, ] at B l2 D z;refine ⟨_,_,_,_,_,_,rfl,?_,rfl,?_,?_,rfl,?_,rfl,?_,rfl,?_,rfl,?_,?_⟩
 ·rw [i];exact O
 ·rw [i,j];omega
 ·rw [i,j];omega
 ·rw [i,j,p];exact W
 ·rw [i,j];exact B
 ·rw [i,j];exact l2
 ·rw [i,j];exact D
 ·rw [i,j];exact z
end Go.Proofs.YtpehcaidjlemiaaGreatDoor.Plain
namespace Go.Proofs.YtpehcaidjlemiaaGreatDoor
open Go Go.RowKit
variable {w w' w'' w0:World} {k n b c i j m zz B:Nat} {A:Option Addr} {v v':Value} {xs:List Value} {t:TypeId} {a:Int} {l:List (List UInt8)} {q:List Int} {S:Nat → Prop} {ws:List (Nat × Nat)}
section
variable {w w' w1:World} {zz:Nat} {e:TypeId} {size:Nat} {v:Value} {n:Nat} {xs:List Value}
def qaq (a:w.ownsRow zz e size v n xs) (j:∀ g,v.ownBlock=some g->w'.heap[g]?=w.heap[g]?):w'.ownsRow zz e size v n xs:=by
 refine ⟨a.1,?_⟩;rcases a.2 with c|⟨g,i,h,rfl,b,d,r⟩
 ·exact .inl c
 ·exact .inr ⟨g,i,h,rfl,b,(j g rfl).trans d,r⟩
def qan (h:w.ownsRow zz e size v n xs) {B:Nat} {cs:Array Value} {t:TypeId} {fr:Nat × Nat} (a:w.heap[B]?=some (.cells cs t fr)) (c:t≠e):v.ownBlock≠some B:=by
 intro b;rcases h.2 with ⟨rfl,_⟩|⟨g,k,j,rfl,i,d,r⟩
 ·cases b
 ·simp only [Value.ownBlock,jB] at b
  subst b;rw [d] at a;simp at a;exact c a.2.1.symm
def qeU {base':Nat} {xs':List Value} (h:w.ownsRow zz e size v n xs) (i:w.ownsRow base' t k v' b xs') (c:e≠t) {g:Nat} (a:v'.ownBlock=some g):v.ownBlock≠some g:=by
 rcases i.2 with ⟨rfl,_⟩|⟨m,l,j,rfl,_,d,r⟩
 ·cases a
 ·simp only [Value.ownBlock,jB] at a
  subst a;exact qan h d c.symm
def qmR {base':Nat} {xs':List Value} (d:w.ownsRow zz e size v n xs) (h:w.ownsRow base' t k v' b xs') (c:e≠t):v.ownBlock=none\/v.ownBlock≠v'.ownBlock:=by
 rcases hv:v'.ownBlock with _|g
 ·by_cases a:v.ownBlock=none
  ·exact .inl a
  ·exact .inr a
 ·exact .inr (qeU d h c hv)
def qtf {g:Nat} (i:w.ownsRow zz e size (.slice (some ⟨g,0,none⟩) n k) n xs):w.ownsRow zz e size (.slice (some ⟨g,0,none⟩) 0 k) 0 []:=by
 refine ⟨by simp,?_⟩;rcases i.2 with ⟨a,_⟩|⟨p,m,c,a,b,d,l,j,h,q⟩
 ·cases a
 ·injection a with h1 h2 h3
  injection h1 with h1
  injection h1 with h1
  subst h1 h3;exact .inr ⟨g,k,c,rfl,b,d,kA _,j,h,by simp⟩
end
def qbJ (T E:TypeId) (zz B:Nat) (xs:List Value) (w:World):Prop:=∃ v,w.heap[B]?=some (.cells #[v] T (0,0))/\w.ownsRow zz E 1 v xs.length xs
def qcl (B:Nat) (w w':World):Prop:=
 w'.os=w.os/\w'.tape=w.tape/\w'.output=w.output/\w.heap.size<=w'.heap.size/\∀ k,k<w.heap.size->k≠B->(∀ v t,w.heap[B]?=some (.cells #[v] t (0,0))->v.ownBlock≠some k)->w'.heap[k]?=w.heap[k]?
section
variable {T E T' E':TypeId} {zz base' B B':Nat} {xs xs':List Value} {w w':World}
def qbJ.lt (a:qbJ T E zz B xs w):B<w.heap.size:=by obtain ⟨v,b,_⟩:=a;exact mG b
def qcl.block (g:qbJ T E zz B xs w) (d:qcl B w w') {k:Nat} {cs:Array Value} {t:TypeId} {fr:Nat × Nat} (b:w.heap[k]?=some (.cells cs t fr)) (h1:t≠T) (h2:t≠E):w'.heap[k]?=some (.cells cs t fr):=by
 obtain ⟨v,a,e⟩:=g;rw [d.2.2.2.2 k (mG b) ?_ ?_,b]
 ·rintro rfl;rw [b] at a;simp at a;exact h1 a.2.1
 ·intro u h c
  rw [a] at c;simp at c;rw [<- c.1];exact qan e b h2
def qbJ.other (j:qbJ T' E' base' B' xs' w) (e:qbJ T E zz B xs w) (b:qcl B w w') (h1:T'≠T) (h2:T'≠E) (h3:E'≠T) (i:E'≠E):qbJ T' E' base' B' xs' w':=by
 obtain ⟨v',h,d⟩:=j;refine ⟨v',qcl.block e b h h1 h2,qaq d fun g a=> ?_⟩;rcases d.2 with ⟨rfl,_⟩|⟨m,l,k,rfl,_,c,r⟩
 ·cases a
 ·simp only [Value.ownBlock,jB] at a
  subst a;rw [qcl.block e b c h3 i,c]
def qcl.below (e:qbJ T E zz B xs w) (i:zz<=B) (h:zz<=w.heap.size) (a:qcl B w w'):Below zz w w':=by
 obtain ⟨v,g,d⟩:=e;refine ⟨a.1,a.2.1,a.2.2.1,a.2.2.2.1,fun k j=>a.2.2.2.2 k (by omega) (by omega) fun u t b c=> ?_⟩;rw [g] at b;simp at b;rw [<- b.1] at c;have :=(d.lt k c).1;omega
def qbF (zz B C:Nat) (w w':World):Prop:=
 w'.os=w.os/\w'.tape=w.tape/\w'.output=w.output/\w.heap.size<=w'.heap.size/\∀ k,k<zz->k≠B->k≠C->w'.heap[k]?=w.heap[k]?
def qbF.refl (zz B C:Nat) (w:World):qbF zz B C w w:=⟨rfl,rfl,rfl,aA _,fun _ _ _ _=>rfl⟩
def qbF.trans {C:Nat} {w1:World} (a:qbF zz B C w w1) (k:qbF zz B C w1 w'):qbF zz B C w w':=
 ⟨k.1.trans a.1,k.2.1.trans a.2.1,k.2.2.1.trans a.2.2.1,lA a.2.2.2.1 k.2.2.2.1,fun i b h1 h2=>(k.2.2.2.2 i b h1 h2).trans (a.2.2.2.2 i b h1 h2)⟩
def qbF.of {C:Nat} {w1:World} (a:Below zz w w1):qbF zz B C w w1:=⟨a.os,a.tape,a.output,a.size,fun k b _ _=>a.block k b⟩
def qbF.swap {C:Nat} {w1:World} (a:qbF zz B C w w1):qbF zz C B w w1:=⟨a.1,a.2.1,a.2.2.1,a.2.2.2.1,fun k b h1 h2=>a.2.2.2.2 k b h2 h1⟩
def qbF.below {C:Nat} {w1:World} (a:qbF zz B C w w1) {b:Nat} (e:b<=zz) (c:b<=B) (g:b<=C):Below b w w1:=⟨a.1,a.2.1,a.2.2.1,a.2.2.2.1,fun k d=>a.2.2.2.2 k (by omega) (by omega) (by omega)⟩
def qcl.aside {C:Nat} (e:qbJ T E zz B xs w) (i:zz<=w.heap.size) (a:qcl B w w'):qbF zz B C w w':=by
 obtain ⟨v,g,d⟩:=e;refine ⟨a.1,a.2.1,a.2.2.1,a.2.2.2.1,fun k j h _=>a.2.2.2.2 k (by omega) h fun u t b c=> ?_⟩;rw [g] at b;simp at b;rw [<- b.1] at c;have :=(d.lt k c).1;omega
def qbJ.below (d:qbJ T E zz B xs w) (b:wG w w'):qbJ T E zz B xs w':=by
 obtain ⟨v,a,c⟩:=d;exact ⟨v,(b.block B (mG a)).trans a,qaf c b⟩
def pushed {w1:World} {u:List Value} (h:T≠E) (d:w.heap[B]?=some (.cells #[v] T (0,0))) (q:xs.length=n) (p:w.ownsRow zz E 1 v n xs)
  (a:wG w w0) (b:w0.grownBy w1 v.ownBlock) (g:w1.ownsRow zz E 1 v' m (xs++u)) (i:m=n+u.length):
  w1.cell? ⟨B,0,none⟩=some v/\w1.frozen? ⟨B,0,none⟩=false/\qbJ T E zz B (xs++u) (w1.setCell ⟨B,0,none⟩ v')/\qcl B w (w1.setCell ⟨B,0,none⟩ v'):=by
 have j:=mG d;have l:v.ownBlock≠some B:=qan p d h;have c:w1.heap[B]?=some (.cells #[v] T (0,0)):=(b.block B (by have :=a.size;omega) (fun e=>l e.symm)).trans ((a.block B j).trans d);have s:v'.ownBlock≠some B:=qan g c h;have x:m=(xs++u).length:=by simp [i,q]
 rw [x] at g;refine ⟨kG c,nG c,⟨v',rG c,pG g s v'⟩,b.os.trans a.os,b.tape.trans a.tape,b.output.trans a.output,?_,fun k y t r=> ?_⟩
 ·have h1:=a.size
  have h2:=b.size;simp;omega
 ·rw [rA _ _ _ _ t,b.block k (by have :=a.size;omega) (fun e=>r v T d e.symm),a.block k y]
def qtg {g:Nat} (h:T≠E) (c:w.heap[B]?=some (.cells #[.slice (some ⟨g,0,none⟩) n b] T (0,0))) (a:w.ownsRow zz E 1 (.slice (some ⟨g,0,none⟩) n b) n xs):
  qbJ T E zz B [] (w.setCell ⟨B,0,none⟩ (.slice (some ⟨g,0,none⟩) 0 b))/\qcl B w (w.setCell ⟨B,0,none⟩ (.slice (some ⟨g,0,none⟩) 0 b)):=by
 have d:=qan a c h;refine ⟨⟨_,rG c,pG (qtf a) (by simpa [Value.ownBlock] using d) _⟩,rfl,rfl,rfl,by simp,fun k i e _=> ?_⟩;rw [rA _ _ _ _ e]
def qbx {e:TypeId} {size:Nat} (b:w.ownsRow zz e size (.slice A m c) n xs):Row w w.heap.size A xs:=by
 have ⟨g,h,d,_,a⟩:=qaK b;injection d with h1 h2 h3
 rw [h1];exact a
def qmS {e:TypeId} {size:Nat} (a:w.ownsRow base' e size v n xs) {C:Nat} (h:B<base') (i:C<base') (d:w.heap.size<=zz) (c:qbF zz B C w w'):w'.ownsRow base' e size v n xs:=
 qaq a fun g b=>by
  have :=a.lt g b;exact c.2.2.2.2 g (by omega) (by omega) (by omega)
end
open Go.Proofs.Tryz
def qad (l:List (List UInt8)):List Value:=l.map fun s=> .string ⟨s.toArray⟩
def qfJ (l:List (List UInt8)):(qad l).length=l.length:=by simp [qad]
theorem qfh:(prog.info? 9).map (fun i=>(i.zero,i.size,i.bytes))=some (some (.string ByteArray.empty),1,16):=by kernel_rfl
def qjL {xs:List (List UInt8)} (e:Row w B A (qad xs)) {k:Nat} (g:k<xs.length):
  ∃ b a,A=some ⟨b,a,none⟩/\b<B/\w.cell? ⟨b,a+k,none⟩=some (.string ⟨xs[k].toArray⟩):=by
 obtain ⟨b,a,rfl,d,c⟩:=e.at_ (by rw [qfJ];omega);refine ⟨b,a,rfl,d,c k _ ?_⟩;simp [qad,g]
def qdT (f g:List UInt8):List UInt8:=f++0::g
def qth {f g f' h:List UInt8} (c:qdT f g=qdT f' h) (d:(0:UInt8)∉f) (h1:(0:UInt8)∉f'):f=f'/\g=h:=by
 induction f generalizing f' with
 |nil=>
  cases f' with
  |nil=>simp [qdT] at c;exact ⟨rfl,c⟩
  |cons b f'=>simp [qdT] at c;exact absurd (by rw [<- c.1];exact eB ..) h1
 |cons a f i=>
  cases f' with
  |nil=>simp [qdT] at c;exact absurd (by rw [c.1];exact eB ..) d
  |cons b f'=>
   simp only [qdT,bC,List.cons.injEq] at c;have ⟨h2,h3⟩:=i (f':=f') c.2 (fun e=>d (oB _ e)) (fun e=>h1 (oB _ e));exact ⟨by rw [c.1,h2],h3⟩
def qcJ (f g:ByteArray):ByteArray:=f++⟨#[0]⟩++g
def qge (f g:ByteArray):(qcJ f g).data.toList=qdT f.data.toList g.data.toList:=by simp [qcJ,qdT]
def qh9 (f g:ByteArray) (w:World) (b:f.size<=140737488355328) (a:g.size<=140737488355328):
  yG 78 #[.agg #[.string f,.string g]] w fun e w'=>e= .returned (.string (qcJ f g))/\wG w w':=by
 go_enter func78,ntmps78
 go_wp2;go_ret;exact ⟨rfl,(bA _ _).alloc (aA _) _⟩
def qca (l:List UInt8) (j:Nat):Prop:=j<l.length/\(l.getD j 0).toNat/64=2
def qdU (l:List UInt8) (a:Int):Nat->Int
 |0=>a
 |k+1=>64*qdU l a k+((l.getD (k+1) 0).toNat:Int)-128
def Small (k:Nat) (v:Int):Prop:=0<=v/\((k=0/\v<=31)\/(k=1/\v<=2047)\/(k=2/\v<=131071)\/(k=3/\v<=8388607))
def qgf (l:List UInt8) (k:Nat):Prop:=∀ j,1<=j->j<=k->qca l j
def qjM (l:List UInt8):qgf l 0:=fun j h1 h2=>by omega
def qjN {l:List UInt8} (a:qgf l k) (b:qca l (k+1)):qgf l (k+1):=fun j h1 h2=>by
 by_cases e:j=k+1
 ·rw [e];exact b
 ·exact a j h1 (by omega)
def qdV (l:List UInt8) (j:Nat):(decide (j<l.length)&&(l.getD j 0).toNat/64==2)=true↔qca l j:=by
 simp [qca]
def qti (l:List UInt8) (a:(l.getD 0 0).toNat<128):dec l=((l.getD 0 0).toNat,1):=by
 unfold dec;simp only [];rw [eA a]
def qtj (l:List UInt8) (a:128<=(l.getD 0 0).toNat) (h2:(l.getD 0 0).toNat<194\/245<=(l.getD 0 0).toNat):dec l=(65533,1):=by
 have g:=(l.getD 0 0).toNat_lt;unfold dec;simp only [];rw [dA (by omega)];by_cases d:(l.getD 0 0).toNat/32=6
 ·by_cases b:qca l 1
  ·rw [eA (by rw [xA,qdV];exact ⟨by simpa using d,b⟩),dA (by omega)]
  ·rw [dA (by rw [xA,qdV];exact fun a=>b a.2)]
   rw [dA (by intro a;simp only [xA,pD,iC] at a;omega),dA (by intro a;simp only [xA,pD,iC] at a;omega)]
 ·rw [dA (by intro a;simp only [xA,pD,iC] at a;omega),dA (by intro a;simp only [xA,pD,iC] at a;omega)]
  by_cases e:(l.getD 0 0).toNat/8=30
  ·split
   ·rw [dA]
    rw [xA,qgb];intro c;have :=c.2;omega
   ·rfl
  ·rw [dA (by intro a;simp only [xA,pD,iC] at a;omega)]
def qtk (l:List UInt8) (a:(l.getD 0 0).toNat/32=6) (b:¬ qca l 1):dec l=(65533,1):=by
 unfold dec;simp only [];rw [dA (by omega),dA (by rw [xA,qdV];exact fun a=>b a.2),dA (by intro a;simp only [xA,pD,iC] at a;omega),dA (by intro a;simp only [xA,pD,iC] at a;omega)]
def qtl (l:List UInt8) (a:(l.getD 0 0).toNat/32=6) (c:194<=(l.getD 0 0).toNat) (b:qca l 1):dec l=(((l.getD 0 0).toNat%32)*64+(l.getD 1 0).toNat%64,2):=by
 unfold dec;simp only [];rw [dA (by omega),eA (by rw [xA,qdV];exact ⟨by simpa using a,b⟩),eA (by omega)]
def qtm (l:List UInt8) (a:(l.getD 0 0).toNat/16=14) (b:¬ (qca l 1/\qca l 2)):dec l=(65533,1):=by
 unfold dec;simp only [];rw [dA (by omega),dA (by intro a;simp only [xA,pD,iC] at a;omega),dA (by rw [xA,xA,qdV,qdV];exact fun a=>b ⟨a.1.2,a.2⟩),dA (by intro a;simp only [xA,pD,iC] at a;omega)]
def qtn (l:List UInt8) (a:(l.getD 0 0).toNat/16=14) (h1:qca l 1) (h2:qca l 2) (c:Nat) (e:c=((l.getD 0 0).toNat%16)*4096+((l.getD 1 0).toNat%64)*64+(l.getD 2 0).toNat%64):
  dec l=if 2048<=c/\Utf8.valid c=true then (c,3) else (65533,1):=by
 subst e;unfold dec;simp only [];rw [dA (by omega),dA (by intro a;simp only [xA,pD,iC] at a;omega),eA (by rw [xA,xA,qdV,qdV];exact ⟨⟨by simpa using a,h1⟩,h2⟩)];simp only [xA,iC,ge_iff_le]
def qto (l:List UInt8) (a:(l.getD 0 0).toNat/8=30) (b:¬ (qca l 1/\qca l 2/\qca l 3)):dec l=(65533,1):=by
 unfold dec;simp only [];rw [dA (by omega),dA (by intro a;simp only [xA,pD,iC] at a;omega),dA (by intro a;simp only [xA,pD,iC] at a;omega),dA (by rw [xA,xA,xA,qdV,qdV,qdV];exact fun a=>b ⟨a.1.1.2,a.1.2,a.2⟩)]
def qtp (l:List UInt8) (a:(l.getD 0 0).toNat/8=30) (h1:qca l 1) (h2:qca l 2) (h3:qca l 3) (c:Nat)
  (e:c=((l.getD 0 0).toNat%8)*262144+((l.getD 1 0).toNat%64)*4096+((l.getD 2 0).toNat%64)*64+(l.getD 3 0).toNat%64):
  dec l=if 65536<=c/\Utf8.valid c=true then (c,4) else (65533,1):=by
 subst e;unfold dec;simp only [];rw [dA (by omega),dA (by intro a;simp only [xA,pD,iC] at a;omega),dA (by intro a;simp only [xA,pD,iC] at a;omega),eA (by rw [xA,xA,xA,qdV,qdV,qdV];exact ⟨⟨⟨by simpa using a,h1⟩,h2⟩,h3⟩)];simp only [xA,iC,ge_iff_le]
def qfi (l:List UInt8) (e:Ending):Prop:=e= .returned (.tuple #[.int .i64 ((dec l).1:Int),.int .i64 ((dec l).2:Int)])
def qcR {l:List UInt8} {b:Int} (e:dec l=(c,n)) (g:a=c) (d:b=n):qfi l (.returned (.tuple #[.int .i64 a,.int .i64 b])):=by
 unfold qfi;rw [e,g,d]
def qcS {s:ByteArray} (a:k<s.size):s.data.toList.getD k 0=s[k]:=by
 rw [mA,oA (by rw [wC];exact a)];simp;rfl
def qhh (s:ByteArray):s.data.toList.length=s.size:=wC
def qtq {l:List UInt8} {V:Int} (d:(l.getD 0 0).toNat/32=6) (c:194<=(l.getD 0 0).toNat) (e:qgf l 1) (a:V=qdU l ((l.getD 0 0).toNat-192) 1):dec l=(V.toNat,2)/\128<=V/\V<=2047:=by
 have b:=e 1 (by omega) (by omega);rw [qtl l d c b];have :=b.2;simp only [qdU] at a;simp only [kB] at a;refine ⟨Prod.ext ?_ rfl,by omega,by omega⟩;show _=V.toNat;simp only [];omega
def qtr {l:List UInt8} {V:Int} (h:(l.getD 0 0).toNat/16=14) (b:qgf l 2) (c:V=qdU l ((l.getD 0 0).toNat-224) 2):
  0<=V/\V<=65535/\(dec l=if 2048<=V/\¬ (55296<=V/\V<=57343) then (V.toNat,3) else (65533,1)):=by
 have e:=b 1 (by omega) (by omega);have g:=b 2 (by omega) (by omega);have k:=e.2;have j:=g.2;simp only [qdU] at c;simp only [kB,Nat.reduceAdd] at c;refine ⟨by omega,by omega,?_⟩;rw [qtn l h e g V.toNat (by omega)];have d:=qgb (V.toNat:Int);by_cases a:2048<=V/\¬ (55296<=V/\V<=57343)
 ·rw [eA a,eA ⟨by omega,d.2 (by omega)⟩]
 ·rw [dA a,dA]
  rintro ⟨m,i⟩;have :=d.1 i;omega
def qts {l:List UInt8} {V:Int} (i:(l.getD 0 0).toNat/8=30) (a:qgf l 3) (d:V=qdU l ((l.getD 0 0).toNat-240) 3):
  0<=V/\V<=2097151/\(dec l=if 65536<=V/\V<=1114111 then (V.toNat,4) else (65533,1)):=by
 have g:=a 1 (by omega) (by omega);have h:=a 2 (by omega) (by omega);have b:=a 3 (by omega) (by omega);have m:=g.2;have k:=h.2;have n:=b.2;simp only [qdU] at d;simp only [kB,Nat.reduceAdd] at d;refine ⟨by omega,by omega,?_⟩;rw [qtp l i g h b V.toNat (by omega)];have e:=qgb (V.toNat:Int);by_cases c:65536<=V/\V<=1114111
 ·rw [eA c,eA ⟨by omega,e.2 (by omega)⟩]
 ·rw [dA c,dA]
  rintro ⟨p,j⟩;have :=e.1 j;omega
def qaa (l:List Int):List Value:=l.map (Value.int .i64)
def qhi (l:List Int):(qaa l).length=l.length:=by simp [qaa]
theorem qc4:(prog.info? 3).map (fun i=>(i.zero,i.size,i.bytes))=some (some (.int .i64 0),1,8):=by kernel_rfl
def qbR {xs:List Int} (e:Row w B A (qaa xs)) {k:Nat} (g:k<xs.length):
  ∃ b a,A=some ⟨b,a,none⟩/\b<B/\w.cell? ⟨b,a+k,none⟩=some (.int .i64 xs[k]):=by
 obtain ⟨b,a,rfl,d,c⟩:=e.at_ (by rw [qhi];omega);refine ⟨b,a,rfl,d,c k _ ?_⟩;simp [qaa,g]
def qtt (c:Int) (w:World):
  yG 241 #[.int .i64 c] w fun e w'=>e= .returned (.bool (qez c))/\w=w':=by
 go_enter func241,ntmps241
 go_wp2
 all_goals
  go_ret;refine ⟨qel ?_,rfl⟩;rw [kD];simp [qez]
  try omega
def qtu (c:Int) (w:World):
  yG 219 #[.int .i64 c] w fun e w'=>e= .returned (.bool (qez c))/\w=w':=by
 go_enter func219,ntmps219
 go_wp2
 all_goals
  go_ret;refine ⟨qel ?_,rfl⟩;rw [kD];simp [qez]
  try omega
def qtv (c:Int) (w:World):
  yG 242 #[.int .i64 c] w fun e w'=>e= .returned (.bool (qfg c))/\w=w':=by
 go_enter func242,ntmps242
 go_wp2
 all_goals
  go_ret;refine ⟨qel ?_,rfl⟩;rw [kD];simp [qfg]
  try omega
def qtw (c:Int) (w:World):
  yG 224 #[.int .i64 c] w fun e w'=>e= .returned (.int .i64 (qcj c))/\w=w':=by
 go_enter func224,ntmps224
 go_wp2
 all_goals
  go_ret;refine ⟨qf8 ?_,rfl⟩
  try simp only [bne_iff_ne,ne_eq,bne_eq_false_iff_eq] at*
  unfold qcj;split
  all_goals
   rename_i a
   simp [qfF] at a
   try omega
def qtx (c:Int) (w:World):
  yG 181 #[.int .i64 c] w fun e w'=>e= .returned (.int .i64 (qcj c))/\w=w':=by
 go_enter func181,ntmps181
 go_wp2
 all_goals
  go_ret;refine ⟨qf8 ?_,rfl⟩
  try simp only [bne_iff_ne,ne_eq,bne_eq_false_iff_eq] at*
  unfold qcj;split
  all_goals
   rename_i a
   simp [qfF] at a
   try omega
def qty (c:Int) (w:World):
  yG 244 #[.int .i64 c] w fun e w'=>e= .returned (.int .i32 (qeA c))/\w=w':=by
 go_enter func244,ntmps244
 go_wp2
 all_goals
  go_ret;refine ⟨qf8 ?_,rfl⟩;unfold qeA;split
  all_goals
   rename_i a
   simp [qh6] at a
   try omega
def qbq (c:Int):Bool:=qez c || qfg c
def step (a:List (List Int) × List Int) (c:Int):List (List Int) × List Int:=
 if qbq c=true then (a.1,a.2++[qcj c]) else if a.2=[] then a else (a.1++[a.2],[])
def qcT (a:List (List Int) × List Int) (l:List Int):List (List Int):=((l++[32]).foldl step a).1
def qeV (l:List Int):List (List Int):=qcT ([],[]) l
def qaX (l:List UInt8):List (List UInt8):=(qeV (qcH l)).map text
def qmT:qbq 32=false:=by decide
def qtz (c:Int):qbq (qcj c)=qbq c:=by rw [qbq,qbq,qsF,qsG]
def qia {o:List (List Int)} {n:List Int} {c:Int} (a:qbq c=true):step (o,n) c=(o,n++[qcj c]):=by unfold step;rw [eA a]
def qhj {o:List (List Int)} {c:Int} (a:qbq c=false):step (o,[]) c=(o,[]):=by unfold step;rw [dA (by simp [a]),eA rfl]
def qhk {o:List (List Int)} {n:List Int} {c:Int} (b:qbq c=false) (a:n≠[]):step (o,n) c=(o++[n],[]):=by unfold step;rw [dA (by simp [b]),dA a]
def qjO (a:List (List Int) × List Int) (c:Int) (l:List Int):qcT a (c::l)=qcT (step a c) l:=by simp [qcT]
def qib (o:List (List Int)):qcT (o,[]) []=o:=by simp [qcT,qhj qmT]
def qjP {o:List (List Int)} {n:List Int} (a:n≠[]):qcT (o,n) []=o++[n]:=by simp [qcT,qhk qmT a]
def qtA (a o:List (List Int)) (n:List Int) (c:Int):step (a++o,n) c=(a++(step (o,n) c).1,(step (o,n) c).2):=by
 unfold step;split
 ·rfl
 ·split
  ·rfl
  ·simp
def qtB (a:List (List Int)):∀ (l:List Int) (o:List (List Int)) (n:List Int),l.foldl step (a++o,n)=(a++(l.foldl step (o,n)).1,(l.foldl step (o,n)).2)
 |[],o,n=>rfl
 |c::l,o,n=>by rw [wE,wE,qtA,qtB a l]
def qic (w:List Int):Prop:=w≠[]/\∀ c∈w,qbq c=true/\qcj c=c
def qid:∀ (l:List Int) (o:List (List Int)) (n:List Int),(∀ w∈o,qic w)->(∀ c∈n,qbq c=true/\qcj c=c)->∀ w∈qcT (o,n) l,qic w
 |[],o,n,b,d,w,hw=>by
  by_cases a:n=[]
  ·subst a;rw [qib] at hw;exact b w hw
  ·rw [qjP a] at hw
   rcases aC.1 hw with hw|hw
   ·exact b w hw
   ·obtain rfl:=yB.1 hw;exact ⟨a,d⟩
 |c::l,o,n,b,d,w,hw=>by
  rw [qjO] at hw;by_cases e:qbq c=true
  ·rw [qia e] at hw
   refine qid l o _ b (fun x hx=> ?_) w hw;rcases aC.1 hx with hx|hx
   ·exact d x hx
   ·obtain rfl:=yB.1 hx;exact ⟨by rw [qtz];exact e,qsE c⟩
  ·have g:qbq c=false:=by simpa using e
   by_cases a:n=[]
   ·subst a;rw [qhj g] at hw;exact qid l o [] b d w hw
   ·rw [qhk g a] at hw
    refine qid l _ [] (fun x hx=> ?_) (fun x hx=>by cases hx) w hw;rcases aC.1 hx with hx|hx
    ·exact b x hx
    ·obtain rfl:=yB.1 hx;exact ⟨a,d⟩
def qtC (l:List Int):∀ w∈qeV l,qic w:=qid l [] [] (fun w a=>by cases a) (fun c b=>by cases b)
def qa7 (o:List (List Int)):Nat:=(o.map List.length).sum
def qmU (a b:List (List Int)):qa7 (a++b)=qa7 a+qa7 b:=by simp [qa7]
def qie:∀ (l:List Int) (o:List (List Int)) (n:List Int),qa7 (qcT (o,n) l)<=qa7 o+n.length+l.length
 |[],o,n=>by
  by_cases a:n=[]
  ·subst a;rw [qib];omega
  ·rw [qjP a,qmU];simp [qa7]
 |c::l,o,n=>by
  rw [qjO];by_cases b:qbq c=true
  ·rw [qia b];have :=qie l o (n++[qcj c]);simp at this ⊢;omega
  ·have d:qbq c=false:=by simpa using b
   by_cases a:n=[]
   ·subst a;rw [qhj d];have :=qie l o [];simp at this ⊢;omega
   ·rw [qhk d a];have :=qie l (o++[n]) [];rw [qmU] at this;simp [qa7] at this ⊢;omega
def qmV (l:List Int):qa7 (qeV l)<=l.length:=by have :=qie l [] [];simpa [qa7,qeV] using this
def qtD {o:List (List Int)} {w:List Int} (h:w∈o):w.length<=qa7 o:=by
 induction o with
 |nil=>cases h
 |cons a o b=>
  simp only [qa7,xB,List.sum_cons] at b ⊢;rcases wA.1 h with rfl|h
  ·omega
  ·have :=b h;omega
def qmW:∀ {o:List (List Int)},(∀ w∈o,qic w)->o.length<=qa7 o
 |[],_=>by simp
 |a::o,b=>by
  have h1:=List.length_pos_iff.2 (b a (eB ..)).1;have h2:=qmW (o:=o) (fun w c=>b w (oB _ c));simp only [qa7,xB,List.sum_cons,nA] at h2 ⊢;omega
def qtE (l:List Int):(qeV l).length<=l.length:=lA (qmW (qtC l)) (qmV l)
def qmX (l:List UInt8):(qaX l).length<=l.length:=by
 rw [qaX,gB];exact lA (qtE _) (qh5 l)
def qif {l w:List UInt8} (a:w∈qaX l):w.length<=4*l.length:=by
 obtain ⟨v,b,rfl⟩:=tA.1 a;have h1:=qmt v;have h2:=qtD b;have h3:=qmV (qcH l);have c:=qh5 l;omega
structure qcb (S:Nat->Prop) (w w':World):Prop where
 os:w'.os=w.os
 tape:w'.tape=w.tape
 output:w'.output=w.output
 size:w.heap.size<=w'.heap.size
 block:∀ k,k<w.heap.size->¬ S k->w'.heap[k]?=w.heap[k]?
def qcb.of_below (a:wG w w'):qcb S w w':=⟨a.os,a.tape,a.output,a.size,fun k b _=>a.block k b⟩
def qcb.trans (a:qcb S w w') (k:qcb S w' w''):qcb S w w'':=
 ⟨k.os.trans a.os,k.tape.trans a.tape,k.output.trans a.output,lA a.size k.size,fun i c b=>(k.block i (tB c a.size) b).trans (a.block i c b)⟩
def qcb.below (a:qcb S w w') (c:∀ k,S k->zz<=k) (d:zz<=w.heap.size):Below zz w w':=
 ⟨a.os,a.tape,a.output,a.size,fun k e=>a.block k (by omega) (fun b=>by have :=c k b;omega)⟩
def qmY (b:(Lit.int .i64 a).wf=true): -9223372036854775808<=a/\a<=9223372036854775807:=by
 have c:IntKind.i64.min= -9223372036854775808:=rfl;simp [Lit.wf] at b;omega
def qtF (c: -9223372036854775808<=a/\a<=9223372036854775807):∃ n:Nat,n<9223372036854775808/\(a<0-> -(a+1)=(n:Int))/\(¬ a<0->a=(n:Int)):=
 ⟨(if a<0 then-(a+1) else a).toNat,by split<;>omega,fun b=>by rw [eA b];omega,fun b=>by rw [dA b];omega⟩
def qig {α:Type} {R:α->α->Prop} (i:∀ x,¬ R x x) (j:∀ x y,R x y->¬ R y x):∀ {a b:List α},a.Pairwise R->b.Pairwise R->(∀ x,x∈a↔x∈b)->a=b
 |[],[],_,_,_=>rfl
 |[],y::b,_,_,c=>by have :=(c y).2 (eB ..);simp at this
 |x::a,[],_,_,c=>by have :=(c x).1 (eB ..);simp at this
 |x::a,y::b,h,g,c=>by
  rw [kC] at h g;have k:x=y:=by
   rcases wA.1 ((c x).1 (eB ..)) with e|h1
   ·exact e
   ·rcases wA.1 ((c y).2 (eB ..)) with e|h2
    ·exact e.symm
    ·exact absurd (h.1 y h2) (j _ _ (g.1 x h1))
  subst k;rw [qig i j h.2 g.2 fun z=>⟨fun d=> ?_,fun d=> ?_⟩]
  ·rcases wA.1 ((c z).1 (oB _ d)) with e|h1
   ·exact absurd (h.1 z d) (e▸i _)
   ·exact h1
  ·rcases wA.1 ((c z).2 (oB _ d)) with e|h1
   ·exact absurd (g.1 z d) (e▸i _)
   ·exact h1
abbrev Pl:=Nat × Nat
def qaA (l:List (List Int)) (p:Pl):Int:=(l.getD p.1 []).getD p.2 0
def InO (l:List (List Int)) (p:Pl):Prop:=p.1<l.length/\p.2<(l.getD p.1 []).length
structure qbS (l:List (List Int)) (o:List Pl):Prop where
 rise:o.Pairwise fun p q=>qaA l p<qaA l q
 mem:∀ p,p∈o↔InO l p
def qbS.ext {l:List (List Int)} {a b:List Pl} (d:qbS l a) (e:qbS l b):a=b:=
 qig (R:=fun p q=>qaA l p<qaA l q) (fun _ c=>yE _ c) (fun _ _ c k=>yE _ (Int.lt_trans c k)) d.rise e.rise fun p=>(d.mem p).trans (e.mem p).symm
def qeD (l:List (List Int)):Prop:=∃ p q,InO l p/\InO l q/\qaA l p=qaA l q/\p≠q
def qbS.once {l:List (List Int)} {o:List Pl} (a:qbS l o):¬ qeD l:=fun ⟨p,q,m,k,e,h⟩=>by
 have h1:=(a.mem p).2 m;have h2:=(a.mem q).2 k;have ⟨i,g,c⟩:=nC h1;have ⟨j,d,b⟩:=nC h2;rcases Nat.lt_trichotomy i j with hij|hij|hij
 ·have :=dC.1 a.rise i j g d hij
  rw [c,b,e] at this;exact yE _ this
 ·subst hij
  exact h (c.symm.trans b)
 ·have :=dC.1 a.rise j i d g hij
  rw [c,b,e] at this;exact yE _ this
inductive qea (l:List (List Int)):Int->List Pl->Prop
 |bad:¬ (∀ s∈l,qal (-1) s=true)->qea l 1 []
 |twice:(∀ s∈l,qal (-1) s=true)->qeD l->qea l 5 []
 |ok {o:List Pl}:(∀ s∈l,qal (-1) s=true)->qbS l o->qea l 0 o
def qea.det {l:List (List Int)} {e f:Int} {a b:List Pl} (c:qea l e a) (k:qea l f b):e=f/\a=b:=by
 cases c with
 |bad c=>cases k with
  |bad _=>exact ⟨rfl,rfl⟩
  |twice k _=>exact absurd k c
  |ok k _=>exact absurd k c
 |twice c h2=>cases k with
  |bad k=>exact absurd c k
  |twice _ _=>exact ⟨rfl,rfl⟩
  |ok _ d=>exact absurd h2 d.once
 |ok c h2=>cases k with
  |bad k=>exact absurd c k
  |twice _ d=>exact absurd d h2.once
  |ok _ d=>exact ⟨rfl,h2.ext d⟩
def qhl:∀ {l:List Int} {x:Int},qal x l=true->∀ i (b:i<l.length),x<l[i]/\∀ j (c:j<l.length),j<i->l[j]<l[i]
 |[],x,a,i,b=>by simp at b
 |y::l,x,a,i,b=>by
  rw [qal,xA,iC] at a;cases i with
  |zero=>exact ⟨a.1,fun j _ c=>by omega⟩
  |succ i=>
   have ⟨h1,h2⟩:=qhl a.2 i (by simpa using b);refine ⟨by rw [zC];omega,fun j c d=> ?_⟩;cases j with
   |zero=>simpa using h1
   |succ j=>simpa using h2 j (by simpa using c) (by omega)
def qeW {l:List (List Int)} (a:i<l.length) (b:k<l[i].length):qaA l (i,k)=l[i][k]:=by
 simp [qaA,mA,oA a,oA b]
def qcm {l:List (List Int)}:InO l (i,k)↔∃ a:i<l.length,k<l[i].length:=by
 constructor
 ·rintro ⟨h1,h2⟩
  simp only at h1 h2;exact ⟨h1,by simpa [mA,oA h1] using h2⟩
 ·rintro ⟨h1,h2⟩
  exact ⟨h1,by simpa [mA,oA h1] using h2⟩
def qmZ {l:List (List Int)} (c:∀ s∈l,qal (-1) s=true) {i k m:Nat} (d:InO l (i,m)) (e:k<m):qaA l (i,k)<qaA l (i,m):=by
 have ⟨a,b⟩:=qcm.1 d;rw [qeW a b,qeW a (by omega)];exact (qhl (c _ (pA a)) m b).2 k (by omega) e
def qm0 {l:List (List Int)} (d:∀ s∈l,qal (-1) s=true) {p:Pl} (c:InO l p): -1<qaA l p:=by
 have ⟨b,a⟩:=qcm.1 c;rw [show p=(p.1,p.2) from rfl,qeW b a]
 exact (qhl (d _ (pA b)) _ a).1
structure qdW (l:List (List Int)) (a:List Nat) (o:List Pl) (last:Int):Prop where
 len:a.length=l.length
 le:∀ i (hi:i<l.length),a.getD i 0<=l[i].length
 rise:o.Pairwise fun p q=>qaA l p<qaA l q
 mem:∀ p,p∈o↔p.1<l.length/\p.2<a.getD p.1 0
 low:∀ p∈o,qaA l p<=last
 lasts:last= -1\/∃ p∈o,qaA l p=last
 ahead:∀ p,InO l p->a.getD p.1 0<=p.2->last<=qaA l p
def qm1 {l:List (List Int)} (c:∀ s∈l,qal (-1) s=true):qdW l (List.replicate l.length 0) [] (-1) where
 len:=by simp
 le:=fun i b=>by simp [mA,b]
 rise:=List.Pairwise.nil
 mem:=fun p=>by
  constructor
  ·intro a;simp at a
  ·rintro ⟨h1,h2⟩
   simp [mA,h1] at h2
 low:=fun p a=>by simp at a
 lasts:= .inl rfl
 ahead:=fun p d _=>by have :=qm0 c d;omega
def qdW.inO {l:List (List Int)} {a:List Nat} {o:List Pl} {last:Int} (b:qdW l a o last) {p:Pl} (c:p∈o):InO l p:=by
 have ⟨h1,h2⟩:=(b.mem p).1 c;exact qcm.2 ⟨h1,tB h2 (b.le _ h1)⟩
def qdW.done {l:List (List Int)} {a:List Nat} {o:List Pl} {last:Int} (b:qdW l a o last) (c:∀ i (e:i<l.length),l[i].length<=a.getD i 0):qbS l o:=
 ⟨b.rise,fun p=>⟨b.inO,fun d=>(b.mem p).2 (by have ⟨h1,h2⟩:=qcm.1 d;exact ⟨h1,tB h2 (c _ h1)⟩)⟩⟩
def qdW.twice {l:List (List Int)} (h:∀ s∈l,qal (-1) s=true) {a:List Nat} {o:List Pl} {last:Int} (c:qdW l a o last) {b:Nat} (d:InO l (b,a.getD b 0)) (i:qaA l (b,a.getD b 0)=last):qeD l:=by
 rcases c.lasts with e|⟨p,g,e⟩
 ·have :=qm0 h d;omega
 ·refine ⟨p,_,c.inO g,d,by rw [e,i],fun e=> ?_⟩
  have :=((c.mem p).1 g).2;rw [e] at this;simp at this
def qdW.step {l:List (List Int)} (j:∀ s∈l,qal (-1) s=true) {a:List Nat} {o:List Pl} {last:Int} (c:qdW l a o last) {b:Nat} (m:InO l (b,a.getD b 0)) (h:∀ i,InO l (i,a.getD i 0)->qaA l (b,a.getD b 0)<=qaA l (i,a.getD i 0)) (w:qaA l (b,a.getD b 0)≠last):qdW l (a.set b (a.getD b 0+1)) (o++[(b,a.getD b 0)]) (qaA l (b,a.getD b 0)):=by
 have ⟨n,y⟩:=qcm.1 m;have x:last<qaA l (b,a.getD b 0):=by have :=c.ahead _ m (aA _);omega
 have v:b<a.length:=by rw [c.len];exact n
 have g:∀ i,(a.set b (a.getD b 0+1)).getD i 0=if i=b then a.getD b 0+1 else a.getD i 0:=fun i=>by
  rw [mA,aE];by_cases e:b=i
  ·subst e;simp [v]
  ·rw [dA e,dA (fun d=>e d.symm),mA (l:=a) (i:=i)]
 exact {
  len:=by rw [uC];exact c.len
  le:=fun i r=>by
   rw [g];split
   ·rename_i e;subst e;omega
   ·exact c.le i r
  rise:=List.pairwise_append.2 ⟨c.rise,List.pairwise_singleton ..,fun p hp q t=>by
   rw [yB.1 t];have :=c.low p hp;omega⟩
  mem:=fun p=>by
   rw [aC,yB,c.mem,g];constructor
   ·rintro (⟨h1,h2⟩|rfl)
    ·refine ⟨h1,?_⟩
     split
     ·rename_i e;rw [e] at h2;omega
     ·exact h2
    ·exact ⟨n,by simp⟩
   ·rintro ⟨h1,h2⟩
    split at h2
    ·rename_i e
     by_cases d:p.2=a.getD b 0
     ·exact .inr (by rw [<- d,<- e])
     ·exact .inl ⟨h1,by rw [e];omega⟩
    ·exact .inl ⟨h1,h2⟩
  low:=fun p hp=>by
   rcases aC.1 hp with hp|hp
   ·have :=c.low p hp;omega
   ·rw [yB.1 hp];omega
  lasts:= .inr ⟨_,List.mem_append_right _ (yB.2 rfl),rfl⟩
  ahead:=fun p hp k=>by
   rw [g] at k;split at k
   ·rename_i e
    have :qaA l (b,a.getD b 0)<qaA l (b,p.2):=qmZ j (by rw [<- e];exact hp) (by omega);rw [<- e] at this ⊢;exact Int.le_of_lt this
   ·have h1:=qcm.1 (show InO l (p.1,p.2) from hp)
    by_cases d:p.2=a.getD p.1 0
    ·have :=h p.1 (by rw [<- d];exact hp)
     rwa [<- d] at this
    ·have h2:=h p.1 (qcm.2 ⟨h1.1,by have :=h1.2;omega⟩)
     have h3:qaA l (p.1,a.getD p.1 0)<qaA l (p.1,p.2):=qmZ j hp (by omega);exact Int.le_of_lt (Int.lt_of_le_of_lt h2 h3)}
def qbB:List Pl->Nat->Int->Int->Int
 |[],_,_,_=> -1
 |p::o,j,i,k=>if (p.1:Int)=i/\(p.2:Int)=k then (j:Int) else qbB o (j+1) i k
abbrev AtO (p:Pl) (i k:Int):Prop:=(p.1:Int)=i/\(p.2:Int)=k
def qm2:∀ (o:List Pl) (m:Nat) (p:Pl) (i k:Int),qbB (o++[p]) m i k=if qbB o m i k≠ -1 then qbB o m i k else if AtO p i k then ((m+o.length:Nat):Int) else-1
 |[],m,p,i,k=>by
  by_cases a:(p.1:Int)=i/\(p.2:Int)=k<;>simp [qbB,AtO,a]
 |q::o,m,p,i,k=>by
  rw [bC,qbB,qbB];by_cases a:(q.1:Int)=i/\(q.2:Int)=k
  ·rw [eA a,eA a,eA (by omega)]
  ·rw [dA a,dA a,qm2 o (m+1) p i k,nA,show m+1+o.length=m+(o.length+1) by omega]
def qm3:∀ {o:List Pl} {m:Nat} {i k:Int},qbB o m i k≠ -1->∃ p∈o,AtO p i k
 |[],m,i,k,a=>by simp [qbB] at a
 |q::o,m,i,k,a=>by
  rw [qbB] at a;split at a
  ·rename_i e;exact ⟨q,eB ..,e⟩
  ·have ⟨p,b,e⟩:=qm3 a
   exact ⟨p,oB _ b,e⟩
def qtG {o:List Pl} {i k:Int} (b:∀ p∈o,¬ AtO p i k):qbB o m i k= -1:=by
 apply Classical.byContradiction;intro a;have ⟨p,c,e⟩:=qm3 a;exact b p c e
def qm4 {p q:Pl} {i k:Int} (a:AtO p i k) (h2:AtO q i k):p=q:=by
 obtain ⟨h1,b⟩:=a;obtain ⟨h3,c⟩:=h2;exact Prod.ext (by omega) (by omega)
def qm5 {o:List Pl} (g:o.Nodup) {j:Nat} (b:j<o.length) (i k:Int):qbB (o.take (j+1)) 0 i k=if AtO o[j] i k then (j:Int) else qbB (o.take j) 0 i k:=by
 rw [aB b,qm2,sA,eD (by omega),kB];by_cases a:AtO o[j] i k
 ·have m:qbB (o.take j) 0 i k= -1:=qtG fun p l e=>by
   have d:=qm4 e a;subst d;have ⟨x,h,c⟩:=nC l;rw [List.getElem_take] at c;rw [sA] at h;have :=dC.1 g x j (by omega) b (by omega);exact this c
  rw [eA a,eA a,dA (by omega)]
 ·rw [dA a,dA a]
  split
  ·rfl
  ·rename_i h2
   exact (Classical.not_not.1 h2).symm
def qcc (o:List Pl) (i:Int) (n:Nat):List Int:=(List.range n).map fun (k:Nat)=>qbB o 0 i (k:Int)
