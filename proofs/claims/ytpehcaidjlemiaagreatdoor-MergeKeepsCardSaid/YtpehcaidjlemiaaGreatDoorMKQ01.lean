import Derived.Test.YtpehcaidjlemiaaGreatDoorMKZz
import Derived.Lib.TrailingZeros
import Derived.WalkKit
import Derived.Below
import Derived.OwnWalk
import Derived.Lib.OthersKept
import Derived.Deep.AppendLies
import Derived.Test.YtpehcaidjlemiaaGreatDoorProg
import Derived.Laws.Bits64b
import Derived.Lib.Hide
import Derived.BigQuiet
import Derived.Deep.QuietTactic
import Derived.OneCell
set_option maxHeartbeats 4000000
set_option maxRecDepth 100000
set_option linter.unusedVariables false
namespace Go.Proofs.YtpehcaidjlemiaaGreatDoor.Plain
def hasB (r:List Bool) (i:Int):Bool:=decide (0<=i)&&r.getD i.toNat false
def mayB (n:Nat) (i:Int):Bool:=decide (0<=i)&&decide (i<n)
def turnB (r:List Bool) (i:Int) (b:Bool):List Bool:=if 0<=i then r.set i.toNat b else r
def qh7 (r:List Bool) (i:Int) (b:Bool):Bool:=mayB r.length i&&(r.getD i.toNat false != b)
def ones (r:List Bool):List Nat:=(List.range r.length).filter fun i=>r.getD i false
def qh8 (r:List Bool) (i:Int):Int:=match (ones r).find? (fun k:Nat=>decide (i<=(k:Int))) with|some k=>(k:Int)|none=> -1
def qh9 (r:List Bool) (i:Int):Nat:=(ones r).countP fun k:Nat=>decide ((k:Int)<i)
theorem qpY (r:List Bool) (i:Nat):i∈ones r↔i<r.length/\r.getD i false=true:=by simp [ones]
theorem qpZ (r:List Bool) (i:Nat) (h:r.getD i false=true):i<r.length:=by
 rcases Nat.lt_or_ge i r.length with h1|h1
 ·exact h1
 ·rw [List.getD_eq_getElem?_getD,List.getElem?_eq_none h1] at h;cases h
theorem qp0 (r:List Bool) (i:Nat):i∈ones r↔r.getD i false=true:=by
 rw [qpY];exact ⟨fun h=>h.2,fun h=>⟨qpZ r i h,h⟩⟩
theorem qp1 (r:List Bool):(ones r).Pairwise (· <·):=List.Pairwise.filter _ List.pairwise_lt_range
theorem qia:∀ (a b:List Nat),a.Pairwise (· <·)->b.Pairwise (· <·)->(∀ x,x∈a↔x∈b)->a=b
 |[],[],_,_,_=>rfl
 |[],y::b,_,_,h=>by have :=(h y).2 (by simp);simp at this
 |x::a,[],_,_,h=>by have :=(h x).1 (by simp);simp at this
 |x::a,y::b,ha,hb,h=>by
  rw [List.pairwise_cons] at ha hb;have hx:x∈y::b:=(h x).1 (by simp);have hy:y∈x::a:=(h y).2 (by simp);have e:x=y:=by
   simp only [List.mem_cons] at hx hy;rcases hx with rfl|hx
   ·rfl
   ·rcases hy with rfl|hy
    ·rfl
    ·have h1:=ha.1 y hy
     have h2:=hb.1 x hx;omega
  subst e;rw [qia a b ha.2 hb.2 fun z=> ?_];have hz:=h z;simp only [List.mem_cons] at hz;constructor
  ·intro hm
   rcases hz.1 (.inr hm) with rfl|h1
   ·exact absurd (ha.1 z hm) (Nat.lt_irrefl _)
   ·exact h1
  ·intro hm
   rcases hz.2 (.inr hm) with rfl|h1
   ·exact absurd (hb.1 z hm) (Nat.lt_irrefl _)
   ·exact h1
abbrev Wd:=Nat × Nat
def qev (x:Nat):List Nat:=(List.range 64).filter fun j=>x.testBit j
theorem qgg (x j:Nat):j∈qev x↔j<64/\x.testBit j=true:=by simp [qev]
theorem qib (x:Nat):(qev x).Pairwise (· <·):=List.Pairwise.filter _ List.pairwise_lt_range
def getW (ws:List Wd) (a:Nat):Nat:=match ws.find? (fun p=>p.1==a) with|some p=>p.2|none=>0
def memW (ws:List Wd) (i:Nat):Bool:=(getW ws (i/64)).testBit (i%64)
def qcc (p:Wd):List Nat:=(qev p.2).map fun j=>p.1*64+j
def qaZ (ws:List Wd):List Nat:=ws.flatMap qcc
def qax (ws:List Wd) (a:Nat):Nat:=ws.countP fun p=>decide (p.1<a)
structure WS (n:Nat) (ws:List Wd):Prop where
 asc:ws.Pairwise fun p q=>p.1<q.1
 fits:∀ p∈ws,p.2<18446744073709551616
 here:∀ p∈ws,p.1*64<n
 inn:∀ p∈ws,∀ j,p.2.testBit j=true->p.1*64+j<n
structure Rep (r:List Bool) (ws:List Wd):Prop where
 wds:WS r.length ws
 mem:∀ i,r.getD i false=memW ws i
theorem qkL:∀ (ws:List Wd),(ws.Pairwise fun p q=>p.1<q.1)->∀ p∈ws,ws.find? (fun q=>q.1==p.1)=some p
 |[],_,p,hp=>by simp at hp
 |q::ws,h,p,hp=>by
  rw [List.pairwise_cons] at h;rw [List.find?_cons];rcases List.mem_cons.1 hp with rfl|hp'
  ·simp
  ·have :=h.1 p hp'
   have e:(q.1==p.1)=false:=by simp;omega
   rw [e];exact qkL ws h.2 p hp'
theorem qeR {n:Nat} {ws:List Wd} (h:WS n ws) {p:Wd} (hp:p∈ws):getW ws p.1=p.2:=by
 unfold getW;rw [qkL ws h.asc p hp]
theorem qgh {ws:List Wd} {a:Nat} (h:∀ p∈ws,p.1≠a):getW ws a=0:=by
 unfold getW;rw [List.find?_eq_none.2 (fun p hp=>by simpa using h p hp)]
theorem qp2 {ws:List Wd} {a:Nat} (h:getW ws a≠0):∃ p∈ws,p.1=a/\p.2=getW ws a:=by
 unfold getW at h ⊢;cases hf:ws.find? (fun p=>p.1==a) with
 |none=>rw [hf] at h;exact absurd rfl h
 |some p=>exact ⟨p,List.mem_of_find?_eq_some hf,by simpa using List.find?_some hf,rfl⟩
theorem qkM {p:Wd} {i:Nat} (hp:p.2<18446744073709551616):i∈qcc p↔i/64=p.1/\p.2.testBit (i%64)=true:=by
 simp only [qcc,List.mem_map,qgg];constructor
 ·rintro ⟨j,⟨h1,h2⟩,rfl⟩
  have e1:(p.1*64+j)/64=p.1:=by omega
  have e2:(p.1*64+j)%64=j:=by omega
  exact ⟨e1,by rw [e2];exact h2⟩
 ·rintro ⟨h1,h2⟩
  exact ⟨i%64,⟨Nat.mod_lt _ (by decide),h2⟩,by omega⟩
theorem qp3 {n:Nat} {ws:List Wd} (h:WS n ws) (i:Nat):i∈qaZ ws↔memW ws i=true:=by
 unfold qaZ memW;rw [List.mem_flatMap];constructor
 ·rintro ⟨p,hp,hi⟩
  obtain ⟨rfl',h2⟩:=(qkM (h.fits p hp)).1 hi;rw [rfl',qeR h hp];exact h2
 ·intro hb
  have h0:getW ws (i/64)≠0:=by
   intro e;rw [e] at hb;simp at hb
  obtain ⟨p,hp,e1,e2⟩:=qp2 h0;exact ⟨p,hp,(qkM (h.fits p hp)).2 ⟨e1.symm,by rw [e2];exact hb⟩⟩
theorem qkN {p:Wd} {i:Nat} (h:i∈qcc p):p.1*64<=i/\i<p.1*64+64:=by
 simp only [qcc,List.mem_map,qgg] at h;obtain ⟨j,⟨h1,_⟩,rfl⟩:=h;omega
theorem qp4 (p:Wd):(qcc p).Pairwise (· <·):=by
 unfold qcc;rw [List.pairwise_map];exact (qib _).imp fun h=>by omega
theorem qkO:∀ (ws:List Wd),(ws.Pairwise fun p q=>p.1<q.1)->(qaZ ws).Pairwise (· <·)
 |[],_=>by simp [qaZ]
 |p::ws,h=>by
  rw [List.pairwise_cons] at h;unfold qaZ;rw [List.flatMap_cons,List.pairwise_append];refine ⟨qp4 p,qkO ws h.2,fun a ha b hb=> ?_⟩;obtain ⟨q,hq,hb⟩:=List.mem_flatMap.1 hb;have h1:=qkN ha;have h2:=qkN hb;have h3:=h.1 q hq;omega
theorem elems_eq {r:List Bool} {ws:List Wd} (h:Rep r ws):qaZ ws=ones r:=
 qia _ _ (qkO ws h.wds.asc) (qp1 r) fun i=>by rw [qp3 h.wds,qp0,h.mem]
theorem WS.length {n:Nat} {ws:List Wd} (h:WS n ws):ws.length<=n/64+1:=by
 have key:∀ (l:List Wd) (m:Nat),(l.Pairwise fun p q=>p.1<q.1)->(∀ p∈l,m<=p.1/\p.1*64<n)->l.length+m<=n/64+1∨l=[]:=by
  intro l
  induction l with
  |nil=>intros;exact .inr rfl
  |cons p l ih=>
   intro m hp hb;rw [List.pairwise_cons] at hp;have h1:=hb p (by simp);rcases ih (p.1+1) hp.2 (fun q hq=>⟨hp.1 q hq,(hb q (by simp [hq])).2⟩) with h2|rfl
   ·left
    simp only [List.length_cons];omega
   ·left
    simp only [List.length_cons,List.length_nil];omega
 rcases key ws 0 h.asc (fun p hp=>⟨Nat.zero_le _,h.here p hp⟩) with h1|rfl
 ·omega
 ·simp
theorem posW_le (ws:List Wd) (a:Nat):qax ws a<=ws.length:=List.countP_le_length
theorem posW_split:∀ (ws:List Wd),(ws.Pairwise fun p q=>p.1<q.1)->∀ (a:Nat),(∀ k p,ws[k]?=some p->(k<qax ws a↔p.1<a))
 |[],_,a,k,p,hk=>by simp at hk
 |q::ws,h,a,k,p,hk=>by
  rw [List.pairwise_cons] at h;have ih:=posW_split ws h.2 a;unfold qax at ih ⊢;by_cases hq:q.1<a
  ·rw [List.countP_cons_of_pos (by simpa using hq)]
   cases k with
   |zero=>
    simp only [List.getElem?_cons_zero,Option.some.injEq] at hk;subst hk;exact ⟨fun _=>hq,fun _=>by omega⟩
   |succ k=>
    rw [List.getElem?_cons_succ] at hk;have :=ih k p hk;omega
  ·have h0:∀ p∈ws,¬ p.1<a:=fun p hp=>by have :=h.1 p hp;omega
   rw [List.countP_cons_of_neg (by simpa using hq),List.countP_eq_zero.2 (fun p hp=>by simpa using h0 p hp)];have hp:p∈q::ws:=List.mem_of_getElem? hk;have :¬ p.1<a:=by
    rcases List.mem_cons.1 hp with rfl|hp
    ·exact hq
    ·exact h0 p hp
   omega
def qcW (ws:List Wd) (a:Nat):Bool:=match ws[qax ws a]? with|some p=>p.1==a|none=>false
theorem qkP {ws:List Wd} (h:ws.Pairwise fun p q=>p.1<q.1) (a:Nat):qcW ws a=true↔∃ p∈ws,p.1=a:=by
 unfold qcW;constructor
 ·intro hk
  cases hp:ws[qax ws a]? with
  |none=>rw [hp] at hk;cases hk
  |some p=>rw [hp] at hk;exact ⟨p,List.mem_of_getElem? hp,by simpa using hk⟩
 ·rintro ⟨p,hp,rfl⟩
  obtain ⟨k,hk⟩:=List.getElem?_of_mem hp;have s:=posW_split ws h p.1;have h1:¬ k<qax ws p.1:=fun hc=>absurd ((s k p hk).1 hc) (Nat.lt_irrefl _)
  have hkl:k<ws.length:=(List.getElem?_eq_some_iff.1 hk).1;have h2:ws[qax ws p.1]?=some ws[qax ws p.1]:=List.getElem?_eq_getElem (by omega);rw [h2];have h3:¬ ws[qax ws p.1].1<p.1:=fun hc=>absurd ((s _ _ h2).2 hc) (Nat.lt_irrefl _)
  rcases Nat.lt_trichotomy k (qax ws p.1) with h4|h4|h4
  ·omega
  ·subst h4
   rw [h2] at hk;simp only [Option.some.injEq] at hk;rw [hk];simp
  ·have :=List.pairwise_iff_getElem.1 h (qax ws p.1) k (by omega) hkl h4
   have e:ws[k]=p:=(List.getElem?_eq_some_iff.1 hk).2;rw [e] at this;omega
theorem keptW_at {ws:List Wd} {a:Nat} (hk:qcW ws a=true):∃ x,ws[qax ws a]?=some (a,x)/\qax ws a<ws.length:=by
 unfold qcW at hk;cases hp:ws[qax ws a]? with
 |none=>rw [hp] at hk;cases hk
 |some p=>
  rw [hp] at hk;have :p.1=a:=by simpa using hk
  subst this;exact ⟨p.2,rfl,(List.getElem?_eq_some_iff.1 hp).1⟩
theorem getW_kept {n:Nat} {ws:List Wd} (h:WS n ws) {a x:Nat} (hk:ws[qax ws a]?=some (a,x)):getW ws a=x:=qeR h (p:=(a,x)) (List.mem_of_getElem? hk)
theorem getW_not {ws:List Wd} (h:ws.Pairwise fun p q=>p.1<q.1) {a:Nat} (hk:qcW ws a=false):getW ws a=0:=
 qgh fun p hp e=>by rw [(qkP h a).2 ⟨p,hp,e⟩] at hk;cases hk
theorem WS.set {n:Nat} {ws:List Wd} (h:WS n ws) {k a x y:Nat} (hk:ws[k]?=some (a,x)) (hy:y<18446744073709551616) (hin:∀ j,y.testBit j=true->a*64+j<n):
  WS n (ws.set k (a,y))/\∀ b,getW (ws.set k (a,y)) b=if b=a then y else getW ws b:=by
 have hkl:k<ws.length:=(List.getElem?_eq_some_iff.1 hk).1;have hke:ws[k]=(a,x):=(List.getElem?_eq_some_iff.1 hk).2;have hmem:∀ p,p∈ws.set k (a,y)->p=(a,y)∨p∈ws:=fun p hp=>(List.mem_or_eq_of_mem_set hp).symm
 have W:WS n (ws.set k (a,y)):=by
  refine ⟨?_,fun p hp=> ?_,fun p hp=> ?_,fun p hp=> ?_⟩
  ·rw [List.pairwise_iff_getElem]
   intro i j hi hj hij;simp only [List.length_set] at hi hj;have :=List.pairwise_iff_getElem.1 h.asc i j hi hj hij;rw [List.getElem_set,List.getElem_set];split
   ·rename_i e
    subst e;rw [hke] at this;rw [if_neg (by omega)];exact this
   ·split
    ·rename_i e
     subst e;rw [hke] at this;exact this
    ·exact this
  ·rcases hmem p hp with rfl|h1
   ·exact hy
   ·exact h.fits p h1
  ·rcases hmem p hp with rfl|h1
   ·exact h.here (a,x) (List.mem_of_getElem? hk)
   ·exact h.here p h1
  ·rcases hmem p hp with rfl|h1
   ·exact hin
   ·exact h.inn p h1
 refine ⟨W,fun b=> ?_⟩;split
 ·rename_i e
  subst e;exact qeR W (p:=(b,y)) (List.mem_set hkl (b,y))
 ·rename_i e
  by_cases h0:∃ p∈ws,p.1=b
  ·obtain ⟨p,hp,rfl⟩:=h0
   rw [qeR h hp];refine qeR W (p:=p) ?_;obtain ⟨i,hi⟩:=List.getElem?_of_mem hp;have hik:k≠i:=by
    rintro rfl;rw [hk] at hi;simp only [Option.some.injEq] at hi;subst hi;exact e rfl
   exact List.mem_of_getElem? (i:=i) (by rw [List.getElem?_set_ne hik];exact hi)
  ·rw [qgh fun p hp e'=>h0 ⟨p,hp,e'⟩]
   refine qgh fun p hp e'=> ?_
   rcases hmem p hp with rfl|h1
   ·exact e e'.symm
   ·exact h0 ⟨p,h1,e'⟩
theorem WS.insert {n:Nat} {ws:List Wd} (h:WS n ws) {a y:Nat} (hk:qcW ws a=false) (ha:a*64<n) (hy:y<18446744073709551616) (hin:∀ j,y.testBit j=true->a*64+j<n):
  WS n (ws.take (qax ws a)++(a,y)::ws.drop (qax ws a))/\∀ b,getW (ws.take (qax ws a)++(a,y)::ws.drop (qax ws a)) b=if b=a then y else getW ws b:=by
 have hs:=posW_split ws h.asc a;have hne:∀ p∈ws,p.1≠a:=fun p hp e=>by rw [(qkP h.asc a).2 ⟨p,hp,e⟩] at hk;cases hk
 have hmem:∀ p,p∈ws.take (qax ws a)++(a,y)::ws.drop (qax ws a)↔p=(a,y)∨p∈ws:=by
  intro p;rw [List.mem_append,List.mem_cons];constructor
  ·rintro (h1|h1|h1)
   ·exact .inr (List.mem_of_mem_take h1)
   ·exact .inl h1
   ·exact .inr (List.mem_of_mem_drop h1)
  ·rintro (h1|h1)
   ·exact .inr (.inl h1)
   ·rw [<- List.take_append_drop (qax ws a) ws] at h1
    rcases List.mem_append.1 h1 with h1|h1
    ·exact .inl h1
    ·exact .inr (.inr h1)
 have hlo:∀ p∈ws.take (qax ws a),p.1<a:=by
  intro p hp;obtain ⟨i,hi⟩:=List.getElem?_of_mem hp;rw [List.getElem?_take] at hi;split at hi
  ·rename_i hlt
   exact (hs i p hi).1 hlt
  ·cases hi
 have hhi:∀ p∈ws.drop (qax ws a),a<p.1:=by
  intro p hp;obtain ⟨i,hi⟩:=List.getElem?_of_mem hp;rw [List.getElem?_drop] at hi;have h1:¬ p.1<a:=fun hc=>by have :=(hs _ p hi).2 hc;omega
  have h2:=hne p (List.mem_of_getElem? hi);omega
 have W:WS n (ws.take (qax ws a)++(a,y)::ws.drop (qax ws a)):=by
  refine ⟨?_,fun p hp=> ?_,fun p hp=> ?_,fun p hp=> ?_⟩
  ·rw [List.pairwise_append,List.pairwise_cons]
   refine ⟨h.asc.sublist (List.take_sublist _ _),⟨hhi,h.asc.sublist (List.drop_sublist _ _)⟩,fun p hp q hq=> ?_⟩;have h1:=hlo p hp;rcases List.mem_cons.1 hq with rfl|hq
   ·exact h1
   ·have :=hhi q hq
    omega
  ·rcases (hmem p).1 hp with rfl|h1
   ·exact hy
   ·exact h.fits p h1
  ·rcases (hmem p).1 hp with rfl|h1
   ·exact ha
   ·exact h.here p h1
  ·rcases (hmem p).1 hp with rfl|h1
   ·exact hin
   ·exact h.inn p h1
 refine ⟨W,fun b=> ?_⟩;split
 ·rename_i e
  subst e;exact qeR W (p:=(b,y)) ((hmem _).2 (.inl rfl))
 ·rename_i e
  by_cases h0:∃ p∈ws,p.1=b
  ·obtain ⟨p,hp,rfl⟩:=h0
   rw [qeR h hp];exact qeR W (p:=p) ((hmem p).2 (.inr hp))
  ·rw [qgh fun p hp e'=>h0 ⟨p,hp,e'⟩]
   refine qgh fun p hp e'=> ?_
   rcases (hmem p).1 hp with rfl|h1
   ·exact e e'.symm
   ·exact h0 ⟨p,h1,e'⟩
def qp5 (a b:Nat):Nat:=a^^^(a &&& b)
theorem or_fits {a b:Nat} (ha:a<18446744073709551616) (hb:b<18446744073709551616):a ||| b<18446744073709551616:=Nat.or_lt_two_pow (n:=64) ha hb
theorem bit_fits {j:Nat} (hj:j<64):2^j<18446744073709551616:=Nat.pow_lt_pow_right (a:=2) (by decide) hj
theorem qp6 (r:List Bool) (i j:Nat) (b:Bool) (hi:i<r.length):(r.set i b).getD j false=if j=i then b else r.getD j false:=by
 rw [List.getD_eq_getElem?_getD,List.getD_eq_getElem?_getD,List.getElem?_set];by_cases h:i=j
 ·subst h;simp [hi]
 ·rw [if_neg h,if_neg (by omega)]
theorem Rep.turned {r:List Bool} {ws ws':List Wd} (h:Rep r ws) {i:Nat} (hi:i<r.length) {b:Bool} {y:Nat} (hW:WS r.length ws') (hg:∀ a,getW ws' a=if a=i/64 then y else getW ws a)
  (hy:∀ j,y.testBit j=if j=i%64 then b else (getW ws (i/64)).testBit j):Rep (r.set i b) ws':=by
 refine ⟨by simpa using hW,fun j=> ?_⟩;rw [qp6 _ _ _ _ hi];unfold memW;rw [hg];by_cases hd:j/64=i/64
 ·rw [if_pos hd,hy]
  by_cases hm:j%64=i%64
  ·rw [if_pos hm,if_pos (by omega)]
  ·rw [if_neg hm,if_neg (by omega),h.mem]
   unfold memW;rw [hd]
 ·rw [if_neg hd,if_neg (by rintro rfl;exact hd rfl),h.mem]
  rfl
theorem or_pow_bit (x k j:Nat):(x ||| 2^k).testBit j=if j=k then true else x.testBit j:=by
 rw [Nat.testBit_or,Nat.testBit_two_pow];by_cases h:k=j
 ·subst h;simp
 ·simp [h,show ¬ j=k by omega]
theorem or_pow_ne (x k:Nat):(x ||| 2^k != x)= !x.testBit k:=by
 cases hb:x.testBit k
 ·simp only [Bool.not_false,bne_iff_ne,ne_eq]
  intro e;have :(x ||| 2^k).testBit k=true:=by rw [or_pow_bit];simp
  rw [e,hb] at this;cases this
 ·simp only [Bool.not_true,bne_eq_false_iff_eq]
  apply Nat.eq_of_testBit_eq;intro j;rw [or_pow_bit];split
  ·rename_i e;subst e;exact hb.symm
  ·rfl
end Go.Proofs.YtpehcaidjlemiaaGreatDoor.Plain
namespace Go.Proofs.YtpehcaidjlemiaaGreatDoor.Plain
def qa2:Nat->Nat->Nat
 |0,_=>0
 |f+1,x=>x%2+qa2 f (x/2)
def pop (x:Nat):Nat:=(qev x).length
theorem qkQ:∀ (n x:Nat),((List.range n).filter fun j=>x.testBit j).length=qa2 n x
 |0,x=>rfl
 |n+1,x=>by
  rw [List.range_succ_eq_map,List.filter_cons,List.filter_map];have ih:=qkQ n (x/2);have e:(fun j=>x.testBit j) ∘ Nat.succ=fun j=>(x/2).testBit j:=by funext j;simp [Nat.testBit_succ]
  rw [e];unfold qa2;rw [<- ih];rcases Nat.mod_two_eq_zero_or_one x with h|h
  ·rw [if_neg (by simp [h]),List.length_map,h,Nat.zero_add]
  ·rw [if_pos (by simp [h]),List.length_cons,List.length_map,h,Nat.add_comm]
theorem qp7 (x:Nat):pop x=qa2 64 x:=qkQ 64 x
theorem pop_le (x:Nat):pop x<=64:=by
 unfold pop qev;exact Nat.le_trans (List.length_filter_le _ _) (by simp)
def val:List Nat->Nat
 |[]=>0
 |b::bs=>256*val bs+b
def mB (c:Nat):Nat->Nat
 |0=>0
 |n+1=>256*mB c n+c
def h1 (b:Nat):Nat:=(b/2 &&& 85)+(b &&& 85)
def h2 (b:Nat):Nat:=(b/4 &&& 51)+(b &&& 51)
def h3 (b:Nat):Nat:=(b/16+b) &&& 15
theorem qgi (y b m c:Nat) (hb:b<256) (hc:c<256):(256*y+b) &&& (256*m+c)=256*(y &&& m)+(b &&& c):=by
 have e:(256:Nat)=2^8:=rfl;rw [e] at hb hc ⊢;apply Nat.eq_of_testBit_eq;intro i;have hbc:b &&& c<2^8:=Nat.and_lt_two_pow b hc;rw [Nat.testBit_and,Nat.testBit_two_pow_mul_add y hb,Nat.testBit_two_pow_mul_add m hc,Nat.testBit_two_pow_mul_add _ hbc];split
 ·rw [Nat.testBit_and]
 ·rw [Nat.testBit_and]
theorem qp8:∀ e,e<2->∀ b,b<256->(128*e+b/2) &&& 85=b/2 &&& 85:=by decide+kernel
theorem qp9:∀ e,e<4->∀ b,b<256->(64*e+b/4) &&& 51=b/4 &&& 51:=by decide+kernel
theorem qqa:∀ e,e<5->∀ b,b<69->(16*e+b/16+b) &&& 15=(b/16+b) &&& 15:=by decide+kernel
theorem qdV:∀ b,b<256->h1 b<256/\h2 (h1 b)<69/\h2 (h1 b)%16<5/\h3 (h2 (h1 b))=qa2 8 b/\qa2 8 b<=8:=by decide+kernel
theorem qkR:∀ bs:List Nat,(∀ b∈bs,b<256)->(val bs/2 &&& mB 85 bs.length)+(val bs &&& mB 85 bs.length)=val (bs.map h1)
 |[],_=>rfl
 |b::bs,h=>by
  have hb:=h b (by simp);have ih:=qkR bs fun c hc=>h c (by simp [hc])
  simp only [val,mB,List.length_cons,List.map_cons];have e:(256*val bs+b)/2=256*(val bs/2)+(128*(val bs%2)+b/2):=by omega
  rw [e,qgi _ _ _ _ (by omega) (by omega),qgi _ _ _ _ hb (by omega),qp8 _ (Nat.mod_lt _ (by decide)) b hb,<- ih];unfold h1;omega
theorem qkS:∀ bs:List Nat,(∀ b∈bs,b<256)->(val bs/4 &&& mB 51 bs.length)+(val bs &&& mB 51 bs.length)=val (bs.map h2)
 |[],_=>rfl
 |b::bs,h=>by
  have hb:=h b (by simp);have ih:=qkS bs fun c hc=>h c (by simp [hc])
  simp only [val,mB,List.length_cons,List.map_cons];have e:(256*val bs+b)/4=256*(val bs/4)+(64*(val bs%4)+b/4):=by omega
  rw [e,qgi _ _ _ _ (by omega) (by omega),qgi _ _ _ _ hb (by omega),qp9 _ (Nat.mod_lt _ (by decide)) b hb,<- ih];unfold h2;omega
theorem qkT:∀ bs:List Nat,(∀ b∈bs,b<69/\b%16<5)->(val bs/16+val bs) &&& mB 15 bs.length=val (bs.map h3)
 |[],_=>rfl
 |b::bs,h=>by
  have hb:=h b (by simp);have ih:=qkT bs fun c hc=>h c (by simp [hc])
  have hm:val bs%16<5:=by
   cases bs with
   |nil=>simp [val]
   |cons c cs=>
    have :=(h c (by simp)).2;simp only [val];omega
  simp only [val,mB,List.length_cons,List.map_cons];have e:(256*val bs+b)/16+(256*val bs+b)=256*(val bs/16+val bs)+(16*(val bs%16)+b/16+b):=by omega
  rw [e,qgi _ _ _ _ (by omega) (by omega),qqa _ hm b hb.1,<- ih];rfl
def qc6 (x:Nat):List Nat:=[x%256,x/256%256,x/65536%256,x/16777216%256,x/4294967296%256,x/1099511627776%256,x/281474976710656%256,x/72057594037927936%256]
theorem qkU (x:Nat) (hx:x<18446744073709551616):val (qc6 x)=x:=by
 simp only [qc6,val];omega
theorem qeS (y b m:Nat) (hb:b<256):qa2 (m+8) (256*y+b)=qa2 8 b+qa2 m y:=by
 have e:(256*y+b)/2/2/2/2/2/2/2/2=y:=by omega
 simp only [qa2,e];omega
theorem qqb (a b c d e f g h:Nat) (ha:a<256) (hb:b<256) (hc:c<256) (hd:d<256) (he:e<256) (hf:f<256) (hg:g<256) (hh:h<256):
  pop (val [a,b,c,d,e,f,g,h])=qa2 8 a+(qa2 8 b+(qa2 8 c+(qa2 8 d+(qa2 8 e+(qa2 8 f+(qa2 8 g+qa2 8 h)))))):=by
 rw [qp7];simp only [val];rw [qeS _ _ 56 ha,qeS _ _ 48 hb,qeS _ _ 40 hc,qeS _ _ 32 hd,qeS _ _ 24 he,qeS _ _ 16 hf,qeS _ _ 8 hg,qeS _ _ 0 hh];simp [qa2]
theorem qqc (a b c d e f g h:Nat) (ha:a<=8) (hb:b<=8) (hc:c<=8) (hd:d<=8) (he:e<=8) (hf:f<=8) (hg:g<=8) (hh:h<=8) (x y z:Nat)
  (hx:x=val [a,b,c,d,e,f,g,h]+val [a,b,c,d,e,f,g,h]/256) (hy:y=x+x/65536) (hz:z=y+y/4294967296):
  x<18446744073709551616/\y<18446744073709551616/\z<9223372036854775808/\z%128=a+(b+(c+(d+(e+(f+(g+h)))))):=by
 simp only [val] at hx;have e1:x=256*(256*(256*(256*(256*(256*(256*h+(g+h))+(f+g))+(e+f))+(d+e))+(c+d))+(b+c))+(a+b):=by omega
 have e2:y=256*(256*(256*(256*(256*(256*(256*h+(g+h))+(f+g+h))+(e+f+g+h))+(d+e+f+g))+(c+d+e+f))+(b+c+d+e))+(a+b+c+d):=by
  clear hx hz;omega
 obtain ⟨U,hU⟩:∃ U,U=256*(256*(256*h+(g+h))+(f+g+h))+(e+f+g+h):=⟨_,rfl⟩;obtain ⟨L,hL⟩:∃ L,L=256*(256*(256*(d+e+f+g)+(c+d+e+f))+(b+c+d+e))+(a+b+c+d):=⟨_,rfl⟩;have e3:y=4294967296*U+L:=by
  clear hx hy e1 hz;omega
 have e4:y/4294967296=U:=by
  clear hx hy e1 hz e2;omega
 have e5:U<4294967296:=by
  clear hx hy e1 hz e2 e3 e4;omega
 have e6:L<4294967296:=by
  clear hx hy e1 hz e2 e3 e4 hU;omega
 rw [e4] at hz;have e7:z%128=(L+U)%128:=by
  clear hx hy e1 e2 hU hL;omega
 have e8:U<=200000000:=by
  clear hx hy e1 hz e2 e3 e4 hL e7;omega
 refine ⟨?_,?_,?_,?_⟩
 ·clear hx hy hz e2 e3 e4 hU hL e7
  omega
 ·clear hx hy hz e2 e1 e4 hU hL e7
  omega
 ·clear hx hy e2 e1 e4 hU hL e7
  omega
 ·rw [e7]
  clear hx hy e2 e1 e4 e3 hz e7;omega
theorem pop_hack (x:Nat) (hx:x<18446744073709551616):
  ∃ x1 x2 x3 x4 x5 x6:Nat,
   x1=(x/2 &&& 6148914691236517205)+(x &&& 6148914691236517205)/\x1<18446744073709551616/\
   x2=(x1/4 &&& 3689348814741910323)+(x1 &&& 3689348814741910323)/\x2<18446744073709551616/\
   x2/16+x2<18446744073709551616/\x3=(x2/16+x2) &&& 1085102592571150095/\x3<18446744073709551616/\
   x4=x3+x3/256/\x4<18446744073709551616/\x5=x4+x4/65536/\x5<18446744073709551616/\x6=x5+x5/4294967296/\x6<9223372036854775808/\x6%128=pop x:=by
 have hall:∀ b∈qc6 x,b<256:=by
  intro b hb;simp only [qc6,List.mem_cons,List.not_mem_nil,or_false] at hb;omega
 have s1:=qkR (qc6 x) hall;rw [qkU x hx] at s1;have m1:mB 85 (qc6 x).length=6148914691236517205:=by simp [mB,qc6]
 rw [m1] at s1;have s2:=qkS ((qc6 x).map h1) (by
  intro b hb;obtain ⟨c,hc,rfl⟩:=List.mem_map.1 hb;exact (qdV c (hall c hc)).1)
 have m2:mB 51 ((qc6 x).map h1).length=3689348814741910323:=by simp [mB,qc6]
 rw [m2] at s2;have s3:=qkT (((qc6 x).map h1).map h2) (by
  intro b hb;obtain ⟨c,hc,rfl⟩:=List.mem_map.1 hb;obtain ⟨d,hd,rfl⟩:=List.mem_map.1 hc;exact ⟨(qdV d (hall d hd)).2.1,(qdV d (hall d hd)).2.2.1⟩)
 have m3:mB 15 (((qc6 x).map h1).map h2).length=1085102592571150095:=by simp [mB,qc6]
 rw [m3] at s3;have hpop:pop x=pop (val (qc6 x)):=by rw [qkU x hx]
 simp only [qc6,List.map_cons,List.map_nil] at s1 s2 s3 hpop;have ha:x%256<256:=Nat.mod_lt _ (by decide);have hb:x/256%256<256:=Nat.mod_lt _ (by decide);have hc:x/65536%256<256:=Nat.mod_lt _ (by decide);have hd:x/16777216%256<256:=Nat.mod_lt _ (by decide);have he:x/4294967296%256<256:=Nat.mod_lt _ (by decide);have hf:x/1099511627776%256<256:=Nat.mod_lt _ (by decide);have hg:x/281474976710656%256<256:=Nat.mod_lt _ (by decide);have hh:x/72057594037927936%256<256:=Nat.mod_lt _ (by decide);clear m1 m2 m3 hall;generalize x%256=a at*;generalize x/256%256=b at*;generalize x/65536%256=c at*;generalize x/16777216%256=d at*;generalize x/4294967296%256=e at*;generalize x/1099511627776%256=f at*;generalize x/281474976710656%256=g at*;generalize x/72057594037927936%256=h at*;obtain ⟨a1,a2,a3,a4,a5⟩:=qdV a ha;obtain ⟨b1,b2,b3,b4,b5⟩:=qdV b hb;obtain ⟨c1,c2,c3,c4,c5⟩:=qdV c hc;obtain ⟨d1,d2,d3,d4,d5⟩:=qdV d hd;obtain ⟨e1,e2,e3,e4,e5⟩:=qdV e he;obtain ⟨f1,f2,f3,f4,f5⟩:=qdV f hf;obtain ⟨g1,g2,g3,g4,g5⟩:=qdV g hg;obtain ⟨i1,i2,i3,i4,i5⟩:=qdV h hh;rw [a4,b4,c4,d4,e4,f4,g4,i4] at s3;rw [qqb _ _ _ _ _ _ _ _ ha hb hc hd he hf hg hh] at hpop;obtain ⟨l1,l2,l3,l4⟩:=qqc (qa2 8 a) (qa2 8 b) (qa2 8 c) (qa2 8 d) (qa2 8 e) (qa2 8 f) (qa2 8 g) (qa2 8 h) a5 b5 c5 d5 e5 f5 g5 i5 _ _ _ rfl rfl rfl;rw [<- hpop] at l4;have v1:val [h1 a,h1 b,h1 c,h1 d,h1 e,h1 f,h1 g,h1 h]<18446744073709551616:=by
  simp only [val];omega
 have v2:val [h2 (h1 a),h2 (h1 b),h2 (h1 c),h2 (h1 d),h2 (h1 e),h2 (h1 f),h2 (h1 g),h2 (h1 h)]<5000000000000000000:=by
  simp only [val];omega
 have v3:val [qa2 8 a,qa2 8 b,qa2 8 c,qa2 8 d,qa2 8 e,qa2 8 f,qa2 8 g,qa2 8 h]<18446744073709551616:=by
  simp only [val];omega
 rw [<- s3, ] at l1 l2 l3 l4;refine ⟨_,_,_,_,_,_,rfl,?_,rfl,?_,?_,rfl,?_,rfl,?_,rfl,?_,rfl,?_,?_⟩
 ·rw [s1];exact v1
 ·rw [s1,s2];omega
 ·rw [s1,s2];omega
 ·rw [s1,s2,s3];exact v3
 ·rw [s1,s2];exact l1
 ·rw [s1,s2];exact l2
 ·rw [s1,s2];exact l3
 ·rw [s1,s2];exact l4
end Go.Proofs.YtpehcaidjlemiaaGreatDoor.Plain
namespace Go.Proofs.YtpehcaidjlemiaaGreatDoor
open Go Go.RowKit
theorem qdM {a b:Bool} (h:a=b):Ending.returned (.bool a)= .returned (.bool b):=by rw [h]
theorem qfo {k:IntKind} {a b:Int} (h:a=b):Ending.returned (.int k a)= .returned (.int k b):=by rw [h]
def Row (w:World) (B:Nat) (A:Option Addr) (xs:List Value):Prop:=
 xs=[]∨∃ b off,A=some ⟨b,off,none⟩/\b<B/\∀ j u,xs[j]?=some u->w.cell? ⟨b,off+j,none⟩=some u
theorem Row.nil {w:World} {B:Nat} {A:Option Addr}:Row w B A []:= .inl rfl
theorem Row.at_ {w:World} {B:Nat} {A:Option Addr} {xs:List Value} (h:Row w B A xs) (hn:0<xs.length):
  ∃ b off,A=some ⟨b,off,none⟩/\b<B/\∀ j u,xs[j]?=some u->w.cell? ⟨b,off+j,none⟩=some u:=by
 rcases h with rfl|h
 ·simp at hn
 ·exact h
theorem Row.keep {w w':World} {B:Nat} {A:Option Addr} {xs:List Value} (h:Row w B A xs) (hk:∀ p:Addr,p.block<B->w'.cell? p=w.cell? p):Row w' B A xs:=by
 rcases h with rfl|⟨b,off,rfl,hb,hc⟩
 ·exact .inl rfl
 ·exact .inr ⟨b,off,rfl,hb,fun j u hu=>(hk _ hb).trans (hc j u hu)⟩
theorem Row.below {w w':World} {B:Nat} {A:Option Addr} {xs:List Value} (h:Row w B A xs) (hb:Below B w w'):Row w' B A xs:=h.keep fun _ hp=>hb.cell hp
theorem Row.more {w:World} {B B':Nat} {A:Option Addr} {xs:List Value} (h:Row w B A xs) (hB:B<=B'):Row w B' A xs:=by
 rcases h with rfl|⟨b,off,rfl,hb,hc⟩
 ·exact .inl rfl
 ·exact .inr ⟨b,off,rfl,by omega,hc⟩
theorem Row.cut {w:World} {B:Nat} {A:Option Addr} {xs:List Value} (h:Row w B A xs) (k:Nat):Row w B A (xs.take k):=by
 rcases h with rfl|⟨b,off,rfl,hb,hc⟩
 ·exact .inl (by simp)
 ·refine .inr ⟨b,off,rfl,hb,fun j u hu=>hc j u ?_⟩
  rw [List.getElem?_take] at hu;split at hu
  ·exact hu
  ·cases hu
section
variable {w w':World} {base:Nat} {e:TypeId} {size:Nat} {v:Value} {n:Nat} {xs:List Value}
theorem qaR (h:w.ownsRow base e size v n xs):∃ A c,v= .slice A n c/\n<=c/\Row w w.heap.size A xs:=by
 rcases h.2 with ⟨rfl,rfl⟩|⟨g,cap,cur,rfl,_,hg,hnc,_,_,_⟩
 ·exact ⟨none,0,rfl,Nat.le_refl _,.inl (List.eq_nil_of_length_eq_zero (by simpa using h.1))⟩
 ·refine ⟨_,cap,rfl,hnc,.inr ⟨g,0,rfl,(Array.getElem?_eq_some_iff.1 hg).1,fun j u hu=> ?_⟩⟩
  have :=h.cells (g:=g) rfl j u hu;simpa [Addr.add_lit] using this
theorem qao (h:w.ownsRow base e size v n xs) (hb:Below w.heap.size w w'):w'.ownsRow base e size v n xs:=by
 refine ⟨h.1,?_⟩;rcases h.2 with hn|⟨g,cap,cur,hv,hg,hh,r⟩
 ·exact .inl hn
 ·exact .inr ⟨g,cap,cur,hv,hg,by rw [hb.block g (Array.getElem?_eq_some_iff.1 hh).1];exact hh,r⟩
theorem qbk (h:w.ownsRow base e size v n xs) {b:Nat} (hb:b<=base):w.ownsRow b e size v n xs:=by
 refine ⟨h.1,?_⟩;rcases h.2 with hn|⟨g,cap,cur,hv,hg,r⟩
 ·exact .inl hn
 ·exact .inr ⟨g,cap,cur,hv,by omega,r⟩
theorem qqd (h:w.ownsRow base e size v n xs) {k:Nat} {s:ByteArray} {p q:Nat} (hk:w.heap[k]?=some (.stringIter s p)):(w.iterAt k s q).ownsRow base e size v n xs:=by
 refine ⟨h.1,?_⟩;rcases h.2 with hn|⟨g,cap,cur,hv,hg,hh,r⟩
 ·exact .inl hn
 ·refine .inr ⟨g,cap,cur,hv,hg,?_,r⟩
  rw [Lib.iterAt_other _ _ _ _ _ (fun e=>by rw [e,hk] at hh;cases hh)];exact hh
theorem qqe (h:w.ownsRow base e size v n xs) {k:Nat} {s:ByteArray} {p:Nat} (hk:w.heap[k]?=some (.stringIter s p)) (hg:w.grownBy w' v.ownBlock):w'.heap[k]?=some (.stringIter s p):=by
 rw [hg.block k (Array.getElem?_eq_some_iff.1 hk).1 ?_]
 ·exact hk
 ·intro he
  rcases h.2 with ⟨rfl,_⟩|⟨g,cap,cur,rfl,_,hh,_⟩
  ·cases he
  ·simp only [Value.ownBlock,Option.some.injEq] at he
   rw [he,hh] at hk;cases hk
end
section
variable {P:Program} (w:World)
theorem qqf (base:Nat) (t ty e:TypeId) (i:TypeInfo) (size:Nat) (ht:P.underlying t=some (.slice e)) (hi:P.info? e=some i)
  (v:Value) (n:Nat) (xs:List Value) (hown:w.ownsRow base e size v n xs) (c:Nat):(Builtin.append_ #[t,t] ty #[v,.slice none 0 c]).run P w= .ok v w:=by
 rcases hown.2 with ⟨rfl,rfl⟩|⟨g,cap,cur,rfl,_,_,hnc,_⟩
 ·simp [Builtin.append_,run_underlying ht,sizeOf,typeInfo,hi,Builtin.lenOf,Builtin.firstCells]
 ·simp [Builtin.append_,run_underlying ht,sizeOf,typeInfo,hi,Builtin.lenOf,Builtin.firstCells,hnc,storeCells]
theorem qfM {ops:Array Oper} {rest:List Oper} {o:Oper} {a:Act} {Q:Exit->Act->World->Prop} (hgd:o.guard=none) (s x:Operand) (t:TypeId)
  (ho:o.op= .call {callee:= .builtin .append,args:=#[s,x],argTypes:=#[t,t]})
  (base:Nat) (e:TypeId) (i:TypeInfo) (z:Value) (size bytes:Nat) (ht:P.underlying t=some (.slice e)) (hi:P.info? e=some i) (hz:i.zero=some z)
  (hsize:i.size=size) (hby:i.bytes=bytes) (hzs:z.cells.size=size) (hsz:0<size)
  (v:Value) (n:Nat) (xs:List Value) (hs:a.eval s=v) (hown:w.ownsRow base e size v n xs)
  (B:Nat) (A:Option Addr) (m c:Nat) (news:List Value) (hx:a.eval x= .slice A m c) (hl:news.length=m*size) (hr:Row w B A news) (h1:∀ u∈news,u.oneCell'=true)
  (h63:n+m<=maxLen) (hbytes:(n+m)*bytes<=140737488355328) (hbase:base<=w.heap.size)
  (h:∀ v' w',w'.ownsRow base e size v' (n+m) (xs++news)->w.grownBy w' v.ownBlock->wpList P ops Q rest (a.put o.dst v') w'):wpList P ops Q (o::rest) a w:=by
 by_cases hm:m=0
 ·subst hm
  have hn:news=[]:=List.eq_nil_of_length_eq_zero (by simpa using hl);subst hn;rcases A with _|ad
  ·refine wpList_plain hgd fun K hK=> ?_
   have hrun:=qqf (P:=P) w base t o.type e i size ht hi v n xs hown c;unfold Oper.wp execOp;simp only [ho,resolve,invoke,builtin,Sem.run_bind,Sem.run_pure,Result.andThen_ok,List.map_toArray,List.map_cons,List.map_nil,hs,hx,hrun];exact hK _ _ (h v w (by simpa using hown) (World.grownBy.refl _ _))
  ·exact wpList_append_own w hgd s x t ho base e i z size bytes ht hi hz hsize hby hzs hsz v n xs hs hown ad 0 c [] hx hl (fun j u hu=>by simp at hu) h1 h63 hbytes hbase fun v' w' h2 h3 _=>h v' w' h2 h3
 ·have hp:0<news.length:=by rw [hl];exact Nat.mul_pos (by omega) hsz
  obtain ⟨b,off,rfl,_,hc⟩:=hr.at_ hp;exact wpList_append_own w hgd s x t ho base e i z size bytes ht hi hz hsize hby hzs hsz v n xs hs hown _ m c news hx hl (fun j u hu=>by rw [Addr.add_lit];exact hc j u hu) h1 h63 hbytes hbase fun v' w' h2 h3 _=>h v' w' h2 h3
end
theorem qaN (w:World) (l:List Value) (t:TypeId):∀ j u,l[j]?=some u->(w.alloc (.cells l.toArray t)).cell? ((⟨w.heap.size,0,none⟩:Addr).add j)=some u:=by
 intro j u hu;rw [Addr.add_lit,Nat.zero_add,cell_of_row _ _ _ _ _ _ (heap_alloc_new w _)];simpa using hu
theorem qkV (i:Nat) (w:World) (hi:i<9223372036854775808):
  Calls Tryz.prog 75 #[.int .i64 i] w fun e w'=>e= .returned (.int .u64 ((2^(i%64):Nat):Int))/\w=w':=by
 have hm:i%64<64:=Nat.mod_lt _ (by decide);have hp:=Plain.bit_fits hm;obtain ⟨p,hpp⟩:∃ p,p=2^(i%64):=⟨_,rfl⟩;rw [<- hpp] at hp ⊢;have HP:=qH hpp;clear hpp
 go_enter Tryz.func75,Tryz.ntmps75
 go_wp2;go_ret;refine ⟨qfo ?_,rfl⟩;rw [HP.out,IntKind.wrap_u64];rw [HP.out] at hp;generalize hq:2^(i%64)=q at*;have :((2:Int)^(i%64))=(q:Int):=by rw [<- hq];simp
 rw [this];omega
theorem qzz (i:Nat) (w:World) (hi:i<9223372036854775808):
  Calls Tryz.prog 48 #[.int .i64 i] w fun e w'=>e= .returned (.int .u64 ((2^(i%64)-1:Nat):Int))/\w=w':=by
 have hm:i%64<64:=Nat.mod_lt _ (by decide);have hp:=Plain.bit_fits hm;have hb:=qkV i w hi;have h0:0<2^(i%64):=Nat.two_pow_pos _;generalize 2^(i%64)=p at*;have HB:=qH hb;clear hb;have e1:((p-1:Nat):Int)=(p:Int)-1:=by omega
 rw [e1]
 go_enter Tryz.func48,Tryz.ntmps48
 go_wp2_with (go_at_call 75;refine HB.out.mono ?_;rintro e w' ⟨rfl,rfl⟩)
 go_ret;refine ⟨qfo ?_,rfl⟩
 first|rfl|(rw [IntKind.wrap_u64];omega)|omega
theorem qqg (x:Int) (w:World):
  Calls Tryz.prog 166 #[.int .i64 x] w fun e w'=>e= .returned (.bool false)/\w=w':=by
 go_enter Tryz.func166,Tryz.ntmps166
 go_wp2;go_ret;exact ⟨qdM (by simp),rfl⟩
def qew (x y:Int):Int:=if x<y then-1 else if y<x then 1 else 0
theorem qqh (x y:Int) (w:World):
  Calls Tryz.prog 123 #[.int .i64 x,.int .i64 y] w fun e w'=>e= .returned (.int .i64 (qew x y))/\w=w':=by
 go_enter Tryz.func123,Tryz.ntmps123
 go_wp2_with (go_at_call 166;refine (qqg _ _).mono ?_;rintro e w' ⟨rfl,rfl⟩)
 all_goals
  go_ret;refine ⟨qfo ?_,rfl⟩;unfold qew
  first
   |(rw [if_pos (by omega)])
   |(rw [if_neg (by omega),if_pos (by omega)])
   |(rw [if_neg (by omega),if_neg (by omega)])
theorem qkW (a:Int) (x:Int) (at_:Int) (w:World):
  Calls Tryz.prog 122 #[.agg #[.int .i64 a,.int .u64 x],.int .i64 at_] w fun e w'=>e= .returned (.int .i64 (qew a at_))/\Below w.heap.size w w':=by
 go_enter Tryz.func122,Tryz.ntmps122
 go_wp2_with (go_at_call 123;refine (qqh _ _ _).mono ?_;rintro e w' ⟨rfl,rfl⟩)
 go_ret;exact ⟨rfl,(Below.refl _ _).alloc (Nat.le_refl _) _⟩
theorem qqi (x:Nat) (hx:x<9223372036854775808):bits .and .i64 (x:Int) 127=((x%128:Nat):Int):=by
 have h1:(BitVec.ofInt 64 (x:Int)).toNat=x:=by
  rw [BitVec.ofInt_natCast,BitVec.toNat_ofNat];exact Nat.mod_eq_of_lt (by omega)
 have h2:(BitVec.ofInt 64 127).toNat=127:=by decide
 show IntKind.i64.wrap ((BitVec.ofInt 64 (x:Int) &&& BitVec.ofInt 64 127).toNat:Int)=_;rw [BitVec.toNat_and,h1,h2,show (127:Nat)=2^7-1 from rfl,Nat.and_two_pow_sub_one_eq_mod,IntKind.wrap_i64]
 omega
theorem qqj (x:Nat) (w:World) (hx:x<18446744073709551616):
  Calls Tryz.prog 207 #[.int .u64 x] w fun e w'=>e= .returned (.int .i64 (Plain.pop x:Nat))/\w=w':=by
 obtain ⟨x1,x2,x3,x4,x5,x6,h1,b1,h2,b2,b2',h3,b3,h4,b4,h5,b5,h6,b6,h7⟩:=Plain.pop_hack x hx;obtain ⟨y2,hy2⟩:∃ y,y=x2/16+x2:=⟨_,rfl⟩;rw [<- hy2] at b2' h3;have k1:=bits_and_u64_nat (x/2) 6148914691236517205 (by omega) (by decide);have k2:=bits_and_u64_nat x 6148914691236517205 hx (by decide);have k3:=bits_and_u64_nat (x1/4) 3689348814741910323 (by omega) (by decide);have k4:=bits_and_u64_nat x1 3689348814741910323 b1 (by decide);have k5:=bits_and_u64_nat y2 1085102592571150095 b2' (by decide);have e1:IntKind.u64.wrap (bits .and .u64 ((x:Int)/2) 6148914691236517205+bits .and .u64 (x:Int) 6148914691236517205)=(x1:Int):=by
  rw [IntKind.wrap_u64,show ((x:Int)/2)=((x/2:Nat):Int) by omega];rw [show (6148914691236517205:Int)=((6148914691236517205:Nat):Int) from rfl,k1,k2]
  omega
 have e2:IntKind.u64.wrap (bits .and .u64 ((x1:Int)/4) 3689348814741910323+bits .and .u64 (x1:Int) 3689348814741910323)=(x2:Int):=by
  rw [IntKind.wrap_u64,show ((x1:Int)/4)=((x1/4:Nat):Int) by omega];rw [show (3689348814741910323:Int)=((3689348814741910323:Nat):Int) from rfl,k3,k4]
  omega
 have e3:IntKind.u64.wrap ((x2:Int)/16+(x2:Int))=(y2:Int):=by
  rw [IntKind.wrap_u64];omega
 have e4:bits .and .u64 (y2:Int) 1085102592571150095=(x3:Int):=by
  rw [show (1085102592571150095:Int)=((1085102592571150095:Nat):Int) from rfl,k5,h3]
 have e5:IntKind.u64.wrap ((x3:Int)+(x3:Int)/256)=(x4:Int):=by
  rw [IntKind.wrap_u64];omega
 have e6:IntKind.u64.wrap ((x4:Int)+(x4:Int)/65536)=(x5:Int):=by
  rw [IntKind.wrap_u64];omega
 have e7:IntKind.u64.wrap ((x5:Int)+(x5:Int)/4294967296)=(x6:Int):=by
  rw [IntKind.wrap_u64];omega
 have HP:=qH h7;clear k1 k2 k3 k4 k5 h1 h2 h3 h4 h5 h6 h7 hy2
 go_enter Tryz.func207,Tryz.ntmps207
 go_wp2;go_ret;refine ⟨qfo ?_,rfl⟩;have h2:=qqi x6 b6;rw [<- HP.out,<- h2]
def qqk (g:Nat) (tab:List Nat) (w:World):Prop:=∀ j,j<tab.length->w.cell? ⟨g,j,none⟩=some (.int .u8 (tab.getD j 0))
def Tab (w:World):Prop:=qqk 0 Lib.deBruijn64tab w
theorem Tab.below {B:Nat} {w w':World} (h:Tab w) (hb:Below B w w') (hB:0<B):Tab w':=fun j hj=>(hb.cell (p:=⟨0,j,none⟩) hB).trans (h j hj)
theorem Tab.lt {w:World} (h:Tab w):0<w.heap.size:=World.block_lt_of_cell? w _ (h 0 (by decide))
theorem qql (x k idx:Nat) (w:World) (hx0:((x:Int)==0)=false)
  (key:IntKind.u64.wrap (bits BinOp.and IntKind.u64 (x:Int) (IntKind.u64.wrap (-(x:Int)))*285870213051353865)/288230376151711744=(idx:Int))
  (hi:idx<64) (hk:k<64) (hcell:w.cell? ⟨0,idx,none⟩=some (.int .u8 k)):
  Calls Tryz.prog 209 #[.int .u64 x] w fun e w'=>e= .returned (.int .i64 k)/\w=w':=by
 go_enter Tryz.func209,Tryz.ntmps209
 go_wp2_with (simp only [key])
 go_ret;exact ⟨rfl,rfl⟩
theorem qqm (x a:Nat) (hx:x<18446744073709551616) (hx0:x≠0) (hlow:x &&& (18446744073709551616-x)=a):
  IntKind.u64.wrap (bits BinOp.and IntKind.u64 (x:Int) (IntKind.u64.wrap (-(x:Int)))*285870213051353865)/288230376151711744=((a*285870213051353865%18446744073709551616/288230376151711744:Nat):Int):=by
 have e1:IntKind.u64.wrap (-(x:Int))=((18446744073709551616-x:Nat):Int):=by rw [IntKind.wrap_u64];omega
 rw [e1,bits_and_u64_nat x _ hx (by omega),hlow,IntKind.wrap_u64];omega
theorem qqn (x:Nat) (hx:x<18446744073709551616) (hx0:x≠0) (w:World) (hT:Tab w):
  Calls Tryz.prog 209 #[.int .u64 x] w fun e w'=>e= .returned (.int .i64 (Lib.ctz 64 x:Nat))/\w=w':=by
 obtain ⟨hlow,hk⟩:=Lib.lowest_bit 64 x hx0 hx;obtain ⟨hi,htab⟩:=Lib.deBruijn64_at _ hk;have hcell:=hT _ hi;rw [htab] at hcell;exact qql x _ _ w (by simp;omega) (qqm x _ hx hx0 hlow) hi hk hcell
section
variable {w w' w1:World} {base:Nat} {e:TypeId} {size:Nat} {v:Value} {n:Nat} {xs:List Value}
theorem qat (h:w.ownsRow base e size v n xs) (hk:∀ g,v.ownBlock=some g->w'.heap[g]?=w.heap[g]?):w'.ownsRow base e size v n xs:=by
 refine ⟨h.1,?_⟩;rcases h.2 with hn|⟨g,cap,cur,rfl,hg,hh,r⟩
 ·exact .inl hn
 ·exact .inr ⟨g,cap,cur,rfl,hg,(hk g rfl).trans hh,r⟩
theorem qai (h:w.ownsRow base e size v n xs) {B:Nat} {cs:Array Value} {t:TypeId} {fr:Nat × Nat} (hB:w.heap[B]?=some (.cells cs t fr)) (ht:t≠e):v.ownBlock≠some B:=by
 intro he;rcases h.2 with ⟨rfl,_⟩|⟨g,cap,cur,rfl,hg,hh,r⟩
 ·cases he
 ·simp only [Value.ownBlock,Option.some.injEq] at he
  subst he;rw [hh] at hB;simp at hB;exact ht hB.2.1.symm
theorem qfp {base':Nat} {e':TypeId} {size':Nat} {v':Value} {n':Nat} {xs':List Value} (h:w.ownsRow base e size v n xs) (h':w.ownsRow base' e' size' v' n' xs') (ht:e≠e') {g:Nat} (hg:v'.ownBlock=some g):v.ownBlock≠some g:=by
 rcases h'.2 with ⟨rfl,_⟩|⟨g',cap,cur,rfl,_,hh,r⟩
 ·cases hg
 ·simp only [Value.ownBlock,Option.some.injEq] at hg
  subst hg;exact qai h hh ht.symm
theorem qkX {base':Nat} {e':TypeId} {size':Nat} {v':Value} {n':Nat} {xs':List Value} (h:w.ownsRow base e size v n xs) (h':w.ownsRow base' e' size' v' n' xs') (ht:e≠e'):v.ownBlock=none∨v.ownBlock≠v'.ownBlock:=by
 rcases hv:v'.ownBlock with _|g
 ·by_cases h0:v.ownBlock=none
  ·exact .inl h0
  ·exact .inr h0
 ·exact .inr (qfp h h' ht hv)
theorem qqo {g cap:Nat} (h:w.ownsRow base e size (.slice (some ⟨g,0,none⟩) n cap) n xs):w.ownsRow base e size (.slice (some ⟨g,0,none⟩) 0 cap) 0 []:=by
 refine ⟨by simp,?_⟩;rcases h.2 with ⟨hv,_⟩|⟨g',cap',cur,hv,hg,hh,hnc,hcp,hcs,htake⟩
 ·cases hv
 ·injection hv with h1 h2 h3
  injection h1 with h1
  injection h1 with h1
  subst h1 h3;exact .inr ⟨g,cap,cur,rfl,hg,hh,Nat.zero_le _,hcp,hcs,by simp⟩
end
def qbq (T E:TypeId) (base B:Nat) (xs:List Value) (w:World):Prop:=∃ v,w.heap[B]?=some (.cells #[v] T (0,0))/\w.ownsRow base E 1 v xs.length xs
def qbV (B:Nat) (w w':World):Prop:=
 w'.os=w.os/\w'.tape=w.tape/\w'.output=w.output/\w.heap.size<=w'.heap.size/\∀ k,k<w.heap.size->k≠B->(∀ v t,w.heap[B]?=some (.cells #[v] t (0,0))->v.ownBlock≠some k)->w'.heap[k]?=w.heap[k]?
section
variable {T E T' E':TypeId} {base base' B B':Nat} {xs xs':List Value} {w w':World}
theorem qbq.lt (h:qbq T E base B xs w):B<w.heap.size:=by obtain ⟨v,hv,_⟩:=h;exact lt_of_block hv
theorem qbV.block (h:qbq T E base B xs w) (ht:qbV B w w') {k:Nat} {cs:Array Value} {t:TypeId} {fr:Nat × Nat} (hk:w.heap[k]?=some (.cells cs t fr)) (h1:t≠T) (h2:t≠E):w'.heap[k]?=some (.cells cs t fr):=by
 obtain ⟨v,hv,hown⟩:=h;rw [ht.2.2.2.2 k (lt_of_block hk) ?_ ?_,hk]
 ·rintro rfl;rw [hk] at hv;simp at hv;exact h1 hv.2.1
 ·intro u t' hu
  rw [hv] at hu;simp at hu;rw [<- hu.1];exact qai hown hk h2
theorem qbq.other (h':qbq T' E' base' B' xs' w) (h:qbq T E base B xs w) (ht:qbV B w w') (h1:T'≠T) (h2:T'≠E) (h3:E'≠T) (h4:E'≠E):qbq T' E' base' B' xs' w':=by
 obtain ⟨v',hv',hown'⟩:=h';refine ⟨v',qbV.block h ht hv' h1 h2,qat hown' fun g hg=> ?_⟩;rcases hown'.2 with ⟨rfl,_⟩|⟨g',cap,cur,rfl,_,hh,r⟩
 ·cases hg
 ·simp only [Value.ownBlock,Option.some.injEq] at hg
  subst hg;rw [qbV.block h ht hh h3 h4,hh]
theorem qbV.below (h:qbq T E base B xs w) (hB:base<=B) (hs:base<=w.heap.size) (ht:qbV B w w'):Below base w w':=by
 obtain ⟨v,hv,hown⟩:=h;refine ⟨ht.1,ht.2.1,ht.2.2.1,ht.2.2.2.1,fun k hk=>ht.2.2.2.2 k (by omega) (by omega) fun u t hu he=> ?_⟩;rw [hv] at hu;simp at hu;rw [<- hu.1] at he;have :=(hown.lt k he).1;omega
def qbl (base B C:Nat) (w w':World):Prop:=
 w'.os=w.os/\w'.tape=w.tape/\w'.output=w.output/\w.heap.size<=w'.heap.size/\∀ k,k<base->k≠B->k≠C->w'.heap[k]?=w.heap[k]?
theorem qbl.refl (base B C:Nat) (w:World):qbl base B C w w:=⟨rfl,rfl,rfl,Nat.le_refl _,fun _ _ _ _=>rfl⟩
theorem qbl.trans {B C:Nat} {w w1 w2:World} (h:qbl base B C w w1) (k:qbl base B C w1 w2):qbl base B C w w2:=
 ⟨k.1.trans h.1,k.2.1.trans h.2.1,k.2.2.1.trans h.2.2.1,Nat.le_trans h.2.2.2.1 k.2.2.2.1,fun i hi h1 h2=>(k.2.2.2.2 i hi h1 h2).trans (h.2.2.2.2 i hi h1 h2)⟩
theorem qbl.of {B C:Nat} {w w1:World} (h:Below base w w1):qbl base B C w w1:=⟨h.os,h.tape,h.output,h.size,fun k hk _ _=>h.block k hk⟩
theorem qbl.swap {B C:Nat} {w w1:World} (h:qbl base B C w w1):qbl base C B w w1:=⟨h.1,h.2.1,h.2.2.1,h.2.2.2.1,fun k hk h1 h2=>h.2.2.2.2 k hk h2 h1⟩
theorem qbl.below {B C:Nat} {w w1:World} (h:qbl base B C w w1) {b:Nat} (hb:b<=base) (hB:b<=B) (hC:b<=C):Below b w w1:=⟨h.1,h.2.1,h.2.2.1,h.2.2.2.1,fun k hk=>h.2.2.2.2 k (by omega) (by omega) (by omega)⟩
theorem qbV.aside {C:Nat} (h:qbq T E base B xs w) (hs:base<=w.heap.size) (ht:qbV B w w'):qbl base B C w w':=by
 obtain ⟨v,hv,hown⟩:=h;refine ⟨ht.1,ht.2.1,ht.2.2.1,ht.2.2.2.1,fun k hk hkB _=>ht.2.2.2.2 k (by omega) hkB fun u t hu he=> ?_⟩;rw [hv] at hu;simp at hu;rw [<- hu.1] at he;have :=(hown.lt k he).1;omega
theorem qbq.below (h:qbq T E base B xs w) (hb:Below w.heap.size w w'):qbq T E base B xs w':=by
 obtain ⟨v,hv,hown⟩:=h;exact ⟨v,(hb.block B (lt_of_block hv)).trans hv,qao hown hb⟩
theorem pushed {v v':Value} {w0 w1:World} {n m:Nat} {u:List Value} (hTE:T≠E) (hv:w.heap[B]?=some (.cells #[v] T (0,0))) (hn:xs.length=n) (hown:w.ownsRow base E 1 v n xs)
  (hb:Below w.heap.size w w0) (hg:w0.grownBy w1 v.ownBlock) (hown1:w1.ownsRow base E 1 v' m (xs++u)) (hm:m=n+u.length):
  w1.cell? ⟨B,0,none⟩=some v/\w1.frozen? ⟨B,0,none⟩=false/\qbq T E base B (xs++u) (w1.setCell ⟨B,0,none⟩ v')/\qbV B w (w1.setCell ⟨B,0,none⟩ v'):=by
 have hBlt:=lt_of_block hv;have hne:v.ownBlock≠some B:=qai hown hv hTE;have hv1:w1.heap[B]?=some (.cells #[v] T (0,0)):=(hg.block B (by have :=hb.size;omega) (fun e=>hne e.symm)).trans ((hb.block B hBlt).trans hv);have hne':v'.ownBlock≠some B:=qai hown1 hv1 hTE;have hl:m=(xs++u).length:=by simp [hm,hn]
 rw [hl] at hown1;refine ⟨cell_of_one hv1,free_of_one hv1,⟨v',one_setCell hv1,ownsRow_setCell_other hown1 hne' v'⟩,hg.os.trans hb.os,hg.tape.trans hb.tape,hg.output.trans hb.output,?_,fun k hk hkB hkv=> ?_⟩
 ·have h1:=hb.size
  have h2:=hg.size;simp;omega
 ·rw [Below.heap_setCell _ _ _ _ hkB,hg.block k (by have :=hb.size;omega) (fun e=>hkv v T hv e.symm),hb.block k hk]
theorem qqp {g n cap:Nat} (hTE:T≠E) (hv:w.heap[B]?=some (.cells #[.slice (some ⟨g,0,none⟩) n cap] T (0,0))) (hown:w.ownsRow base E 1 (.slice (some ⟨g,0,none⟩) n cap) n xs):
  qbq T E base B [] (w.setCell ⟨B,0,none⟩ (.slice (some ⟨g,0,none⟩) 0 cap))/\qbV B w (w.setCell ⟨B,0,none⟩ (.slice (some ⟨g,0,none⟩) 0 cap)):=by
 have hne:=qai hown hv hTE;refine ⟨⟨_,one_setCell hv,ownsRow_setCell_other (qqo hown) (by simpa [Value.ownBlock] using hne) _⟩,rfl,rfl,rfl,by simp,fun k hk hkB _=> ?_⟩;rw [Below.heap_setCell _ _ _ _ hkB]
theorem qbv {e:TypeId} {size:Nat} {A:Option Addr} {n m c:Nat} (h:w.ownsRow base e size (.slice A m c) n xs):Row w w.heap.size A xs:=by
 obtain ⟨A',c',he,_,hr⟩:=qaR h;injection he with h1 h2 h3
 rw [h1];exact hr
theorem qkY {e:TypeId} {size:Nat} {v:Value} {n:Nat} (h:w.ownsRow base' e size v n xs) {C:Nat} (hB:B<base') (hC:C<base') (hs:w.heap.size<=base) (hk:qbl base B C w w'):w'.ownsRow base' e size v n xs:=
 qat h fun g hg=>by
  have :=h.lt g hg;exact hk.2.2.2.2 g (by omega) (by omega) (by omega)
end
end Go.Proofs.YtpehcaidjlemiaaGreatDoor
