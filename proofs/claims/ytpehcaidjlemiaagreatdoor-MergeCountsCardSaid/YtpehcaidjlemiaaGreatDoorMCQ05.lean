import Derived.Test.YtpehcaidjlemiaaGreatDoorMCZz
import Derived.Test.YtpehcaidjlemiaaGreatDoorMCQ04
import Derived.Test.YtpehcaidjlemiaaGreatDoorMCQ01
import Derived.Deep.SlicePairs
import Derived.ProofKit
import Derived.OpenShut
import Derived.Below
set_option linter.unusedVariables false
namespace Go.Proofs.YtpehcaidjlemiaaGreatDoor
open Go
structure qdy (l:List Fd):Prop where
 len:l.length<=8
 names:∀ f∈l,f.1.length<=12
 texts:∀ f∈l,f.2.length<=1024
 apart:qdx l
 zero:qeW l
 wordsF:∀ f∈l,(qaL f.2).length<=500
 wordsS:∀ s,(qcv l s).length<=500
 weight:qew l<=500
theorem qmn:∀ {l:List Nat} {a:Nat},a∈l->a<=l.sum
 |x::l,a,h=>by
  rw [List.sum_cons];rcases List.mem_cons.1 h with rfl|h
  ·omega
  ·have :=qmn h;omega
theorem qmo {l:List Fd} (ha:qdx l) (s:Nm):(qcv l s).length<=qew l:=by
 by_cases h:∃ f∈l,f.1=s
 ·obtain ⟨f,hf,rfl⟩:=h
  unfold qew;exact qmn (List.mem_map.2 ⟨f,hf,rfl⟩)
 ·rw [qmb fun f hf e=>h ⟨f,hf,e⟩]
  exact Nat.zero_le _
theorem qiO {l:List Fd} (hm:qa9 l=0) (ht:∀ f∈l,f.2.length<=1024):qdy l:=by
 obtain ⟨g1,g2,g3,g4,g5⟩:=qsK hm;refine ⟨g1,fun f hf=> ?_,ht,g3,g4,fun f hf=> ?_,fun s=>Nat.le_trans (qmo g3 s) g5,g5⟩
 ·have :=g2 f hf
  rw [qbl,Bool.and_eq_true,Bool.and_eq_true,decide_eq_true_iff,decide_eq_true_iff] at this;exact this.2.2
 ·rw [<- qhb g3 hf]
  exact Nat.le_trans (qmo g3 _) g5
abbrev Dc:=Int × List Fd
abbrev En:=Int × List Fd × Int
abbrev Pn:=Int × List Int
def qgr (last:Int) (q:En):Int:=if qa9 q.2.1≠0 then qa9 q.2.1 else if q.2.2<0∨q.2.2<=last then 12 else 0
def qdd (l:List En):Nat:=(l.map fun q=>qew q.2.1).sum
def qex (a:List Nm) (ts:List Tm):List Nm:=(ts.map qae).foldl qbV a
def qaf (l:List En):List Nm:=l.foldl (fun a q=>qex a (qas q.2.1)) []
def qbe (i:Nat) (d:List Fd) (ts:List Tm) (key:Nm):List Pn:=(ts.filter fun t=>decide (qae t=key)).map fun t=>((i:Int),qaX d t)
def qag:Nat->List En->Nm->List Pn
 |_,[],_=>[]
 |i,q::l,key=>qbe i q.2.1 (qas q.2.1) key++qag (i+1) l key
def qey (l:List En):Int:=match l.getLast? with|none=> -1|some q=>q.2.2
def qcQ (l:List En):Prop:=∀ q∈l,qdy q.2.1
theorem qsL {l:List En} (hg:qcQ l):qdd l<=l.length*500:=by
 unfold qdd
 induction l with
 |nil=>simp
 |cons q l ih=>
  have h1:=(hg q (List.mem_cons_self ..)).weight;have h2:=ih fun x hx=>hg x (List.mem_cons_of_mem _ hx)
  simp only [List.map_cons,List.sum_cons,List.length_cons];omega
theorem qcQ.snoc {l:List En} {q:En} (h:qcQ l) (hq:qdy q.2.1):qcQ (l++[q]):=fun x hx=>by
 rcases List.mem_append.1 hx with hx|hx
 ·exact h x hx
 ·rw [List.mem_singleton.1 hx];exact hq
theorem qsM (a:List Nm) (ts:List Tm):(qex a ts).length<=ts.length+a.length:=by
 have :=qgl (ts.map qae) a;rwa [List.length_map] at this
theorem qsN {a:List Nm} (h:qaH a) (ts:List Tm):qaH (qex a ts):=qiC _ _ h
theorem qsO {a:List Nm} {ts:List Tm} {x:Nm}:x∈qex a ts↔(∃ t∈ts,qae t=x)∨x∈a:=by
 rw [qex,qiB,List.mem_map]
theorem qmp:∀ (l:List En) {a:List Nm},qaH a->qaH (l.foldl (fun a q=>qex a (qas q.2.1)) a)
 |[],a,h=>h
 |q::l,a,h=>qmp l (qsN h _)
theorem qgs (l:List En):qaH (qaf l):=qmp l List.Pairwise.nil
theorem qmq:∀ (l:List En) {a:List Nm} {x:Nm},x∈l.foldl (fun a q=>qex a (qas q.2.1)) a↔(∃ q∈l,∃ t∈qas q.2.1,qae t=x)∨x∈a
 |[],a,x=>by simp
 |q::l,a,x=>by
  rw [List.foldl_cons,qmq l,qsO];constructor
  ·rintro (⟨q',hq',h⟩|h|h)
   ·exact .inl ⟨q',List.mem_cons_of_mem _ hq',h⟩
   ·exact .inl ⟨q,List.mem_cons_self ..,h⟩
   ·exact .inr h
  ·rintro (⟨q',hq',h⟩|h)
   ·rcases List.mem_cons.1 hq' with rfl|hq'
    ·exact .inr (.inl h)
    ·exact .inl ⟨q',hq',h⟩
   ·exact .inr (.inr h)
theorem qez {l:List En} {x:Nm}:x∈qaf l↔∃ q∈l,∃ t∈qas q.2.1,qae t=x:=by
 have :=qmq l (a:=[]) (x:=x);simpa [qaf] using this
theorem qhe {M:Nat}:∀ {l:List En} {a:List Nm},(∀ q∈l,(qas q.2.1).length<=M)->(l.foldl (fun a q=>qex a (qas q.2.1)) a).length<=l.length*M+a.length
 |[],a,_=>by simp
 |q::l,a,h=>by
  have h1:=qhe (l:=l) (a:=qex a (qas q.2.1)) fun x hx=>h x (List.mem_cons_of_mem _ hx)
  have h2:=qsM a (qas q.2.1);have h3:=h q (List.mem_cons_self ..);simp only [List.foldl_cons,List.length_cons,Nat.add_mul,Nat.one_mul];omega
theorem qhf:∀ (l:List En) (i:Nat) (q:En) (key:Nm),qag i (l++[q]) key=qag i l key++qbe (i+l.length) q.2.1 (qas q.2.1) key
 |[],i,q,key=>by simp [qag]
 |x::l,i,q,key=>by
  rw [List.cons_append,qag,qag,qhf l (i+1) q key,List.append_assoc,List.length_cons,show i+1+l.length=i+(l.length+1) by omega]
theorem qsP:qey []= -1:=rfl
theorem qmr (l:List En) (q:En):qey (l++[q])=q.2.2:=by simp [qey]
theorem qsQ {l:List En} (h:0<l.length):qey l=(l[l.length-1]'(by omega)).2.2:=by
 have h0:l≠[]:=fun e=>by rw [e] at h;simp at h
 rw [qey,List.getLast?_eq_some_getLast h0,List.getLast_eq_getElem h0]
def qcl (l:List Dc) (most:Nat) (start step:Int):List En:=(l.take most).zipIdx.map fun p=>(p.1.1,qeT p.1.2,start+step*(p.2:Int))
theorem qiP (l:List Dc) (most:Nat) (start step:Int):(qcl l most start step).length=min most l.length:=by simp [qcl]
theorem qsR {l:List Dc} {k:Nat} {start step:Int} (hk:k<l.length):qcl l (k+1) start step=qcl l k start step++[(l[k].1,qeT l[k].2,start+step*(k:Int))]:=by
 unfold qcl;rw [List.take_succ_eq_append_getElem hk,List.zipIdx_append,List.map_append,List.length_take,Nat.zero_add,Nat.min_eq_left (by omega)];rfl
theorem qsS (l:List Dc) (most:Nat) (start step:Int):∀ q∈qcl l most start step,∃ d,q.2.1=qeT d:=fun q hq=>by
 obtain ⟨p,_,rfl⟩:=List.mem_map.1 hq;exact ⟨p.1.2,rfl⟩
open Go.RowKit
structure qbK (S:Nat->Prop) (w w':World):Prop where
 os:w'.os=w.os
 tape:w'.tape=w.tape
 output:w'.output=w.output
 size:w.heap.size<=w'.heap.size
 block:∀ k,k<w.heap.size->¬ S k->w'.heap[k]?=w.heap[k]?
theorem qbK.of_below {S:Nat->Prop} {w w':World} (h:Below w.heap.size w w'):qbK S w w':=⟨h.os,h.tape,h.output,h.size,fun k hk _=>h.block k hk⟩
theorem qbK.trans {S:Nat->Prop} {w w' w'':World} (h:qbK S w w') (k:qbK S w' w''):qbK S w w'':=
 ⟨k.os.trans h.os,k.tape.trans h.tape,k.output.trans h.output,Nat.le_trans h.size k.size,fun i hi hne=>(k.block i (Nat.lt_of_lt_of_le hi h.size) hne).trans (h.block i hi hne)⟩
theorem qbK.below {S:Nat->Prop} {base:Nat} {w w':World} (h:qbK S w w') (hb:∀ k,S k->base<=k) (hw:base<=w.heap.size):Below base w w':=
 ⟨h.os,h.tape,h.output,h.size,fun k hk=>h.block k (by omega) (fun hs=>by have :=hb k hs;omega)⟩
def qaN (p:Nat->Prop) (w:World) (A:Option Addr) (xs:List Value):Prop:=xs=[]∨∃ b off,A=some ⟨b,off,none⟩/\p b/\∀ j u,xs[j]?=some u->w.cell? ⟨b,off+j,none⟩=some u
section
variable {p q:Nat->Prop} {w w':World} {A:Option Addr} {xs:List Value}
theorem qaN.keep (h:qaN p w A xs) (hb:∀ b,p b->w'.heap[b]?=w.heap[b]?):qaN p w' A xs:=by
 rcases h with h|⟨b,off,e,hp,hc⟩
 ·exact .inl h
 ·refine .inr ⟨b,off,e,hp,fun j u hu=> ?_⟩
  rw [World.cell?_of_block (a:=⟨b,off+j,none⟩) (hb b hp)];exact hc j u hu
theorem qaN.imp (h:qaN p w A xs) (hpq:∀ b,p b->q b):qaN q w A xs:=by
 rcases h with h|⟨b,off,e,hp,hc⟩
 ·exact .inl h
 ·exact .inr ⟨b,off,e,hpq b hp,hc⟩
theorem qaN.row {B:Nat} (h:qaN p w A xs) (hB:∀ b,p b->b<B):Row w B A xs:=h.imp hB
end
structure qdz (α:Type) where
 p:Nat
 r:Nat
 pre:α->List Value
 mid:α->List Fd
 post:α->List Value
 hp:∀ q,(pre q).length=p
 hr:∀ q,(post q).length=r
def qdz.size {α:Type} (s:qdz α):Nat:=s.p+1+s.r
section
variable {α:Type} {s:qdz α} {R R':Option Addr->List Value->Prop}
def qcw (s:qdz α) (R:Option Addr->List Value->Prop):List α->List Value->Prop
 |[],cs=>cs=[]
 |q::l,cs=>∃ A c cs',cs=s.pre q++(.slice A (s.mid q).length c::(s.post q++cs'))/\(s.mid q).length<=c/\c<=maxLen/\R A (flds (s.mid q))/\qcw s R l cs'
theorem qcw.imp:∀ {l:List α} {cs:List Value},qcw s R l cs->(∀ A xs,R A xs->R' A xs)->qcw s R' l cs
 |[],cs,h,_=>h
 |q::l,cs,h,hi=>by
  obtain ⟨A,c,cs',rfl,h1,h2,h3,h'⟩:=h;exact ⟨A,c,cs',rfl,h1,h2,hi _ _ h3,qcw.imp h' hi⟩
theorem qsT {q:α} {A:Option Addr} {c:Nat} {cs':List Value} {k:Nat} (i:Nat):(s.pre q++(.slice A (s.mid q).length c::(s.post q++cs')))[(k+1)*s.size+i]?=cs'[k*s.size+i]?:=by
 have hp:=s.hp q;have hr:=s.hr q;have e:(k+1)*s.size+i=s.p+(1+(s.r+(k*s.size+i))):=by rw [Nat.add_mul,Nat.one_mul];unfold qdz.size;omega
 rw [e,List.getElem?_append_right (by omega),hp,Nat.add_sub_cancel_left,Nat.add_comm 1,List.getElem?_cons_succ,List.getElem?_append_right (by omega),hr,Nat.add_sub_cancel_left]
theorem qcw.at_:∀ {l:List α} {cs:List Value} {k:Nat},qcw s R l cs->(hk:k<l.length)->
  ∃ A c,cs[k*s.size+s.p]?=some (.slice A (s.mid l[k]).length c)/\(s.mid l[k]).length<=c/\c<=maxLen/\R A (flds (s.mid l[k]))/\
   (∀ i u,(s.pre l[k])[i]?=some u->cs[k*s.size+i]?=some u)/\(∀ i u,(s.post l[k])[i]?=some u->cs[k*s.size+s.p+1+i]?=some u)
 |[],_,k,_,h=>by simp at h
 |q::l,cs,0,h,_=>by
  obtain ⟨A,c,cs',rfl,h1,h2,h3,h'⟩:=h;have hp:=s.hp q;refine ⟨A,c,?_,h1,h2,h3,fun i u hu=> ?_,fun i u hu=> ?_⟩
  ·rw [List.getElem?_append_right (by omega)]
   simp [hp]
  ·have :i<(s.pre q).length:=by
    rcases Nat.lt_or_ge i (s.pre q).length with h|h
    ·exact h
    ·simp only [zB] at hu
     rw [List.getElem?_eq_none h] at hu;cases hu
   rw [Nat.zero_mul,Nat.zero_add,List.getElem?_append_left this];exact hu
  ·have :i<(s.post q).length:=by
    rcases Nat.lt_or_ge i (s.post q).length with h|h
    ·exact h
    ·simp only [zB] at hu
     rw [List.getElem?_eq_none h] at hu;cases hu
   rw [List.getElem?_append_right (by omega),show 0*s.size+s.p+1+i-(s.pre q).length=i+1 by omega,List.getElem?_cons_succ,List.getElem?_append_left this];exact hu
 |q::l,cs,k+1,h,hk=>by
  obtain ⟨A,c,cs',rfl,h1,h2,h3,h'⟩:=h;have hp:=s.hp q;have hr:=s.hr q;have skip:=qsT (s:=s) (q:=q) (A:=A) (c:=c) (cs':=cs') (k:=k);obtain ⟨A',c',g1,g2,g3,g4,g5,g6⟩:=qcw.at_ (k:=k) h' (by simpa using hk);refine ⟨A',c',?_,g2,g3,g4,fun i u hu=> ?_,fun i u hu=> ?_⟩
  ·rw [skip];exact g1
  ·rw [skip];exact g5 i u hu
  ·rw [show (k+1)*s.size+s.p+1+i=(k+1)*s.size+(s.p+1+i) by omega,skip,show k*s.size+(s.p+1+i)=k*s.size+s.p+1+i by omega]
   exact g6 i u hu
theorem qcw.snoc:∀ {l:List α} {cs:List Value} {A:Option Addr} {c:Nat} {q:α},qcw s R l cs->(s.mid q).length<=c->c<=maxLen->R A (flds (s.mid q))->qcw s R (l++[q]) (cs++(s.pre q++(.slice A (s.mid q).length c::s.post q)))
 |[],cs,A,c,q,h,h1,h2,h3=>by
  simp only [qcw] at h;subst h;exact ⟨A,c,[],by simp,h1,h2,h3,rfl⟩
 |y::l,cs,A,c,q,h,h1,h2,h3=>by
  obtain ⟨A',c',cs',rfl,g1,g2,g3,h'⟩:=h;exact ⟨A',c',_,by simp,g1,g2,g3,qcw.snoc h' h1 h2 h3⟩
def qde (s:qdz α) (p:Nat->Prop) (w:World) (A:Option Addr) (l:List α):Prop:=∃ cs,qcw s (qaN p w) l cs/\qaN p w A cs
end
section
variable {α:Type} {s:qdz α} {p q:Nat->Prop} {w w':World} {A:Option Addr} {l:List α}
theorem qde.nil:qde s p w A []:=⟨[],rfl,.inl rfl⟩
theorem qde.keep (h:qde s p w A l) (hb:∀ b,p b->w'.heap[b]?=w.heap[b]?):qde s p w' A l:=by
 obtain ⟨cs,h1,h2⟩:=h;exact ⟨cs,h1.imp fun _ _ h=>h.keep hb,h2.keep hb⟩
theorem qde.imp (h:qde s p w A l) (hpq:∀ b,p b->q b):qde s q w A l:=by
 obtain ⟨cs,h1,h2⟩:=h;exact ⟨cs,h1.imp fun _ _ h=>h.imp hpq,h2.imp hpq⟩
theorem qde.at_ (h:qde s p w A l) {k:Nat} (hk:k<l.length):
  ∃ b off A' c',A=some ⟨b,off,none⟩/\p b/\w.cell? ⟨b,off+k*s.size+s.p,none⟩=some (.slice A' (s.mid l[k]).length c')/\(s.mid l[k]).length<=c'/\c'<=maxLen/\qaN p w A' (flds (s.mid l[k]))/\
   (∀ i u,(s.pre l[k])[i]?=some u->w.cell? ⟨b,off+k*s.size+i,none⟩=some u)/\(∀ i u,(s.post l[k])[i]?=some u->w.cell? ⟨b,off+k*s.size+s.p+1+i,none⟩=some u):=by
 obtain ⟨cs,h1,h2⟩:=h;obtain ⟨A',c',g1,g2,g3,g4,g5,g6⟩:=h1.at_ hk;rcases h2 with rfl|⟨b,off,rfl,hb,hc⟩
 ·simp at g1
 ·refine ⟨b,off,A',c',rfl,hb,by have :=hc _ _ g1;rwa [<- Nat.add_assoc] at this,g2,g3,g4,fun i u hu=> ?_,fun i u hu=> ?_⟩
  ·have :=hc _ _ (g5 i u hu);rwa [<- Nat.add_assoc] at this
  ·have :=hc _ _ (g6 i u hu)
   rwa [show off+(k*s.size+s.p+1+i)=off+k*s.size+s.p+1+i by omega] at this
abbrev qc1 (s:qdz α) (w:World) (B:Nat) (A:Option Addr) (l:List α):Prop:=qde s (fun b=>b<B) w A l
theorem qc1.below {B:Nat} (h:qc1 s w B A l) (hb:Below B w w'):qc1 s w' B A l:=h.keep fun b hb'=>hb.block b hb'
theorem qc1.more {B B':Nat} (h:qc1 s w B A l) (hB:B<=B'):qc1 s w B' A l:=h.imp fun b hb=>Nat.lt_of_lt_of_le hb hB
theorem qc1.later (h:qc1 s w w.heap.size A l) (hb:Below w.heap.size w w'):qc1 s w' w'.heap.size A l:=qc1.more (qc1.below h hb) hb.size
end
def qhg:qdz Dc:=⟨1,0,fun q=>[.int .i64 q.1],fun q=>q.2,fun _=>[],fun _=>rfl,fun _=>rfl⟩
def enS:qdz En:=⟨1,1,fun q=>[.int .i64 q.1],fun q=>q.2.1,fun q=>[.int .i64 q.2.2],fun _=>rfl,fun _=>rfl⟩
theorem qsU {p:Nat->Prop} {w:World} {A:Option Addr} {l:List Dc} (h:qde qhg p w A l) {k:Nat} (hk:k<l.length):
  ∃ b off A' c',A=some ⟨b,off,none⟩/\p b/\w.cell? ⟨b,off+k*2,none⟩=some (.int .i64 l[k].1)/\w.cell? ⟨b,off+k*2+1,none⟩=some (.slice A' l[k].2.length c')/\l[k].2.length<=c'/\c'<=maxLen/\qaN p w A' (flds l[k].2):=by
 obtain ⟨b,off,A',c',e,hb,g1,g2,g3,g4,g5,_⟩:=h.at_ hk;exact ⟨b,off,A',c',e,hb,g5 0 _ rfl,g1,g2,g3,g4⟩
theorem qiQ:(Tryz.prog.info? 61).map (fun i=>(i.zero,i.size,i.bytes))=some (some (.agg #[.int .i64 0,.slice none 0 0,.int .i64 0]),3,40):=by kernel_rfl
open Go.ChangeShapes Go.WideShapes Go.ChangeAt
def qms (w:World) (a:Option Addr) (len cap:Nat) (l:List Fd):Prop:=
 len<=cap/\cap<=maxLen/\l.length=len/\qaA w w.heap.size a l/\∀ f∈l,f.1.length<=maxLen/\f.2.length<=maxLen
theorem qmt:Tryz.prog.cellsOf 121=2:=by kernel_rfl
theorem qhh:Tryz.prog.cellsOf 9=1:=by kernel_rfl
theorem qmu {f:Nat->Fd} {V0 V1:Nat->Value} {w:World} {b off n:Nat} (h:∀ i,i<n->V0 i= .string ⟨(f i).1.toArray⟩/\V1 i= .string ⟨(f i).2.toArray⟩)
  (hc:∀ i,i<n->w.cell? ⟨b,off+i*2,none⟩=some (V0 i)/\w.cell? ⟨b,off+(i*2+1),none⟩=some (V1 i)):
  ∀ k,k<=n->∀ j u,(flds ((List.range k).map f))[j]?=some u->w.cell? ⟨b,off+j,none⟩=some u
 |0,_,j,u,hu=>by simp [flds] at hu
 |k+1,hk,j,u,hu=>by
  rw [List.range_succ,List.map_append,qha] at hu;have hl:(flds ((List.range k).map f)).length=k*2:=by rw [qfo,List.length_map,List.length_range]
  by_cases hj:j<k*2
  ·rw [List.getElem?_append_left (by rw [hl];exact hj)] at hu
   exact qmu h hc k (by omega) j u hu
  ·rw [List.getElem?_append_right (by rw [hl];omega),hl] at hu
   obtain ⟨h0,h1⟩:=h k (by omega);obtain ⟨c0,c1⟩:=hc k (by omega);rcases hq:j-k*2 with _|_|q
   ·rw [hq] at hu
    simp [flds] at hu;rw [show j=k*2 by omega,c0,h0,hu]
   ·rw [hq] at hu
    simp [flds] at hu;rw [show j=k*2+1 by omega,c1,h1,hu]
   ·rw [hq] at hu
    simp [flds] at hu
theorem qsV {H:Type} {enc:TypeId × Value->H} {W:World} {fuel:Nat} {a:Option Addr} {len cap:Nat} {x:DataW H × List MemPlace}
  (h:DataW.trod enc Tryz.prog W 0 (fun _=>true) true fuel 57 [Value.slice a len cap]=some x):∃ l,qms W a len cap l:=by
 rcases Deep.open_slice_pairs Tryz.underlying57 Tryz.underlying121 qmt rfl rfl qhh qhh h with ⟨hcs,_⟩|⟨ad,l,c,m,n,V0,V1,D0,D1,P0,P1,hcs,_,hl,hm,hmm,_,hx⟩
 ·simp at hcs
  obtain ⟨rfl,rfl,rfl⟩:=hcs;exact ⟨[],Nat.le_refl _,Nat.zero_le _,rfl,qaA.nil,fun p hp=>by cases hp⟩
 ·simp at hcs
  obtain ⟨rfl,rfl,rfl⟩:=hcs;simp only [if_true] at hmm;subst hmm;have each:∀ i,i<m->∃ q:Fd,(V0 i= .string ⟨q.1.toArray⟩/\V1 i= .string ⟨q.2.toArray⟩)/\q.1.length<=maxLen/\q.2.length<=maxLen:=fun i hi=>by
   obtain ⟨_,_,g0,g1⟩:=hx i hi;obtain ⟨s0,e0,_,k0⟩:=DataW.trod_string Tryz.underlying9 g0;obtain ⟨s1,e1,_,k1⟩:=DataW.trod_string Tryz.underlying9 g1;simp only [List.cons.injEq,and_true] at e0 e1;refine ⟨(s0.data.toList,s1.data.toList),⟨e0,e1⟩,?_,?_⟩
   ·show s0.data.toList.length<=maxLen
    rw [Array.length_toList];exact k0
   ·show s1.data.toList.length<=maxLen
    rw [Array.length_toList];exact k1
  obtain ⟨f,hf⟩:=Deep.choose_lt each;by_cases h0:m=0
  ·have hl0:len=0:=by omega
   subst hl0;exact ⟨[],hl,hm,rfl,qaA.nil,fun p hp=>by cases hp⟩
  ·obtain ⟨c00,_,_,_⟩:=hx 0 (by omega)
   obtain ⟨b,off,spot⟩:=ad;have hs:spot=none:=by simpa [Addr.add] using World.cell?_spot c00
   subst hs;have hblt:b<W.heap.size:=by simpa [Addr.add_lit] using World.block_lt_of_cell? W _ c00
   refine ⟨(List.range len).map f,hl,hm,by simp,.inr ⟨b,off,rfl,hblt,qmu (n:=m) (fun i hi=>(hf i hi).1) (fun i hi=> ?_) len hl⟩,fun p hp=> ?_⟩
   ·obtain ⟨g0,g1,_,_⟩:=hx i hi
    rw [Addr.add_lit] at g0 g1;exact ⟨g0,g1⟩
   ·obtain ⟨i,hi,rfl⟩:=List.mem_map.1 hp
    have hil:=List.mem_range.1 hi;exact (hf i (by omega)).2
theorem qsW {H:Type} {enc:TypeId × Value->H} {W:World} {fuel:Nat} {v:Value} {x:DataW H × List MemPlace}
  (h:DataW.trod enc Tryz.prog W 0 (fun _=>true) true fuel 57 [v]=some x):∃ a len cap l,v= .slice a len cap/\qms W a len cap l:=by
 have hv:∃ a len cap,v= .slice a len cap:=by
  rcases Deep.open_slice_pairs Tryz.underlying57 Tryz.underlying121 qmt rfl rfl qhh qhh h with ⟨hcs,_⟩|⟨ad,l,c,m,n,V0,V1,D0,D1,P0,P1,hcs,_⟩
  ·simp only [List.cons.injEq,and_true] at hcs
   exact ⟨_,_,_,hcs⟩
  ·simp only [List.cons.injEq,and_true] at hcs
   exact ⟨_,_,_,hcs⟩
 obtain ⟨a,len,cap,rfl⟩:=hv;obtain ⟨l,hl⟩:=qsV h;exact ⟨a,len,cap,l,rfl,hl⟩
theorem qmv:Tryz.prog.cellsOf 59=2:=by kernel_rfl
def qee (V:Nat->List Value):Nat->List Value
 |0=>[]
 |k+1=>qee V k++V k
theorem qmw {V:Nat->List Value} {z n:Nat} (hz:∀ i,i<n->(V i).length=z):∀ k,k<=n->(qee V k).length=k*z
 |0,_=>by simp [qee]
 |k+1,hk=>by rw [qee,List.length_append,qmw hz k (by omega),hz k (by omega),Nat.add_mul,Nat.one_mul]
theorem qmx {w:World} {b off z n:Nat} {V:Nat->List Value} (hz:∀ i,i<n->(V i).length=z) (h:∀ i,i<n->∀ j u,(V i)[j]?=some u->w.cell? ⟨b,off+(i*z+j),none⟩=some u):
  ∀ k,k<=n->∀ j u,(qee V k)[j]?=some u->w.cell? ⟨b,off+j,none⟩=some u
 |0,_,j,u,hu=>by simp [qee] at hu
 |k+1,hk,j,u,hu=>by
  rw [qee] at hu;have hl:=qmw hz k (by omega);by_cases hj:j<k*z
  ·rw [List.getElem?_append_left (by rw [hl];exact hj)] at hu
   exact qmx hz h k (by omega) j u hu
  ·rw [List.getElem?_append_right (by rw [hl];omega),hl] at hu
   have :=h k (by omega) _ _ hu;rwa [show k*z+(j-k*z)=j by omega] at this
theorem qmy {α:Type} {s:qdz α} {R:Option Addr->List Value->Prop} {V:Nat->List Value} {f:Nat->α} {n:Nat}
  (h:∀ i,i<n->∃ A c,V i=s.pre (f i)++(.slice A (s.mid (f i)).length c::s.post (f i))/\(s.mid (f i)).length<=c/\c<=maxLen/\R A (flds (s.mid (f i)))):∀ k,k<=n->qcw s R ((List.range k).map f) (qee V k)
 |0,_=>rfl
 |k+1,hk=>by
  have ih:=qmy h k (by omega);obtain ⟨A,c,h1,h2,h3,h4⟩:=h k (by omega);rw [List.range_succ,List.map_append,qee,h1];exact ih.snoc h2 h3 h4
def qmz {α:Type} (s:qdz α) (good:α->Prop) (w:World) (a:Option Addr) (len cap:Nat) (l:List α):Prop:=
 len<=cap/\cap<=maxLen/\l.length=len/\qc1 s w w.heap.size a l/\∀ q∈l,good q
theorem qsX {α:Type} [Inhabited α] {H:Type} {enc:TypeId × Value->H} {W:World} (s:qdz α) (good:α->Prop) {t e:TypeId} (ht:Tryz.prog.underlying t=some (.slice e)) (ce:Tryz.prog.cellsOf e=s.size)
  (open1:∀ {fuel:Nat} {cs:List Value} {x:DataW H × List MemPlace},DataW.trod enc Tryz.prog W 0 (fun _=>true) true fuel e cs=some x->
   ∃ (q:α) (A:Option Addr) (c:Nat),cs=s.pre q++(.slice A (s.mid q).length c::s.post q)/\(s.mid q).length<=c/\c<=maxLen/\qaA W W.heap.size A (s.mid q)/\good q)
  {fuel:Nat} {a:Option Addr} {len cap:Nat} {x:DataW H × List MemPlace} (h:DataW.trod enc Tryz.prog W 0 (fun _=>true) true fuel t [Value.slice a len cap]=some x):∃ l,qmz s good W a len cap l:=by
 rcases Deep.open_slice ht h with ⟨hcs,_⟩|⟨ad,l,c,m,n,D,Pl,hcs,_,hl,hm,hmm,_,hx⟩
 ·simp at hcs
  obtain ⟨rfl,rfl,rfl⟩:=hcs;exact ⟨[],Nat.le_refl _,Nat.zero_le _,rfl,qde.nil,fun p hp=>by cases hp⟩
 ·simp at hcs
  obtain ⟨rfl,rfl,rfl⟩:=hcs;simp only [if_true] at hmm;subst hmm;have each:∀ i,i<m->∃ q:α × List Value,(∃ A c,q.2=s.pre q.1++(.slice A (s.mid q.1).length c::s.post q.1)/\(s.mid q.1).length<=c/\c<=maxLen/\Row W W.heap.size A (flds (s.mid q.1)))/\good q.1/\q.2.length=s.size/\
    ∀ j u,q.2[j]?=some u->W.cell? (ad.add (i*s.size+j))=some u:=fun i hi=>by
   obtain ⟨cs',h1,h2⟩:=hx i hi;obtain ⟨_,hlen,hcell⟩:=World.cells?_some h1;obtain ⟨q,A,c,e1,e2,e3,e4,e5⟩:=open1 h2;rw [ce] at hlen;refine ⟨(q,cs'),⟨A,c,e1,e2,e3,e4⟩,e5,hlen,fun j u hu=> ?_⟩;have hj:j<s.size:=by
    rcases Nat.lt_or_ge j s.size with h|h
    ·exact h
    ·rw [List.getElem?_eq_none (by rw [hlen];exact h)] at hu;cases hu
   have :=hcell j (by rw [ce];exact hj);rw [Deep.add_add,ce] at this;rw [this];exact hu
  obtain ⟨f,hf⟩:=Deep.choose_lt each;by_cases h0:m=0
  ·have hl0:len=0:=by omega
   subst hl0;exact ⟨[],hl,hm,rfl,qde.nil,fun p hp=>by cases hp⟩
  ·obtain ⟨_,_,hl0,hc0⟩:=hf 0 (by omega)
   obtain ⟨u0,hu0⟩:∃ u,(f 0).2[0]?=some u:=⟨_,List.getElem?_eq_getElem (by rw [hl0];unfold qdz.size;omega)⟩;have c00:=hc0 0 u0 hu0;obtain ⟨b,off,spot⟩:=ad;have hs:spot=none:=by simpa [Addr.add] using World.cell?_spot c00
   subst hs;have hblt:b<W.heap.size:=by simpa [Addr.add_lit] using World.block_lt_of_cell? W _ c00
   refine ⟨(List.range len).map fun i=>(f i).1,hl,hm,by simp,⟨qee (fun i=>(f i).2) len,qmy (n:=m) (fun i hi=>(hf i hi).1) len hl,.inr ⟨b,off,rfl,hblt,qmx (n:=m) (z:=s.size) (fun i hi=>(hf i hi).2.2.1) (fun i hi j u hu=> ?_) len hl⟩⟩,fun p hp=> ?_⟩
   ·have :=(hf i hi).2.2.2 j u hu
    rwa [Addr.add_lit] at this
   ·obtain ⟨i,hi,rfl⟩:=List.mem_map.1 hp
    have hil:=List.mem_range.1 hi;exact (hf i (by omega)).2.1
def qiR (l:List Fd):Prop:=∀ f∈l,f.1.length<=maxLen/\f.2.length<=maxLen
theorem qsY {H:Type} {enc:TypeId × Value->H} {W:World} {fuel:Nat} {cs:List Value} {x:DataW H × List MemPlace} (h:DataW.trod enc Tryz.prog W 0 (fun _=>true) true fuel 59 cs=some x):
  ∃ (q:Dc) (A:Option Addr) (c:Nat),cs=[.int .i64 q.1,.slice A q.2.length c]/\q.2.length<=c/\c<=maxLen/\qaA W W.heap.size A q.2/\qiR q.2:=by
 obtain ⟨y0,y1,n,_,hl,g0,g1⟩:=trod_struct2 Tryz.underlying59 h;rw [qmv] at hl;obtain ⟨v0,v1,rfl⟩:∃ v0 v1,cs=[v0,v1]:=by
  rcases cs with _|⟨v0,_|⟨v1,_|⟨v2,cs⟩⟩⟩
  ·cases hl
  ·cases hl
  ·exact ⟨_,_,rfl⟩
  ·simp only [List.length_cons] at hl;omega
 ·have ci:Tryz.prog.cellsOf 3=1:=by kernel_rfl
  have cf:Tryz.prog.cellsOf 57=1:=by kernel_rfl
  simp [ci] at g0;simp [cf] at g1;obtain ⟨d,e0,_,_⟩:=DataW.trod_int Tryz.underlying3 g0;obtain ⟨a,len,cap,l,rfl,h1,h2,h3,h4,h5⟩:=qsW g1;simp only [List.cons.injEq,and_true] at e0;subst e0;exact ⟨(d,l),a,cap,by rw [h3],by rw [h3];exact h1,h2,h4,h5⟩
abbrev qiS:=qmz qhg (fun q=>qiR q.2)
theorem qsZ {H:Type} {enc:TypeId × Value->H} {W:World} {fuel:Nat} {a:Option Addr} {len cap:Nat} {x:DataW H × List MemPlace}
  (h:DataW.trod enc Tryz.prog W 0 (fun _=>true) true fuel 22 (Value.slice a len cap).cells.toList=some x):∃ l,qiS W a len cap l:=
 qsX qhg (fun q=>qiR q.2) Tryz.underlying22 qmv (fun h=>qsY h) (by simpa [Value.cells] using h)
def qah (n:Nat):List UInt8:=if n<128 then [UInt8.ofNat n] else UInt8.ofNat (128+n%128)::qah (n/128)
termination_by n
decreasing_by omega
theorem qdZ {n:Nat} (h:n<128):qah n=[UInt8.ofNat n]:=by rw [qah,if_pos h]
theorem qef {n:Nat} (h:128<=n):qah n=UInt8.ofNat (128+n%128)::qah (n/128):=by rw [qah,if_neg (by omega)]
theorem qeg {n:Nat} (h:n<256):(UInt8.ofNat n).toNat=n:=by simp;omega
theorem qfp (n:Nat):0<(qah n).length:=by
 by_cases h:n<128
 ·rw [qdZ h];simp
 ·rw [qef (by omega)];simp
theorem qs0 {k:Nat}:∀ {n:Nat},n<128^(k+1)->(qah n).length<=k+1:=by
 induction k with
 |zero=>intro n h;rw [qdZ (by simpa using h)];simp
 |succ k ih=>
  intro n h;by_cases h1:n<128
  ·rw [qdZ h1];simp
  ·rw [qef (by omega),List.length_cons]
   have :=ih (n:=n/128) (by rw [Nat.pow_succ] at h;exact Nat.div_lt_of_lt_mul (by rw [Nat.mul_comm];exact h));omega
theorem qeX {n:Nat} (h:n<9223372036854775808):(qah n).length<=9:=qs0 (k:=8) (by simpa using h)
theorem qzM:∀ {n m:Nat},n<=m->(qah n).length<=(qah m).length:=by
 intro n
 induction n using Nat.strongRecOn with
 |_ n ih=>
  intro m h;by_cases h1:n<128
  ·rw [qdZ h1]
   exact qfp m
  ·rw [qef (by omega),qef (n:=m) (by omega),List.length_cons,List.length_cons]
   exact Nat.succ_le_succ (ih (n/128) (by omega) (Nat.div_le_div_right h))
def qa5:List UInt8->Nat
 |[]=>0
 |c::r=>c.toNat%128+128*qa5 r
theorem qmA:∀ l:List UInt8,qa5 l<128^l.length
 |[]=>by simp [qa5]
 |c::r=>by
  have :=qmA r;rw [qa5,List.length_cons,Nat.pow_succ];omega
theorem qmB:∀ (l:List UInt8) (c:UInt8),qa5 (l++[c])=qa5 l+c.toNat%128*128^l.length
 |[],c=>by simp [qa5]
 |d::r,c=>by
  rw [List.cons_append,qa5,qa5,qmB r c,List.length_cons,Nat.pow_succ,Nat.mul_add];have :128*(c.toNat%128*128^r.length)=c.toNat%128*(128^r.length*128):=by
   rw [Nat.mul_comm 128,Nat.mul_assoc]
  omega
theorem qs1 {l:List UInt8} {i:Nat} (h:i<l.length):qa5 (l.take (i+1))=qa5 (l.take i)+(l.getD i 0).toNat%128*128^i:=by
 rw [List.take_succ_eq_append_getElem h,qmB,List.length_take,Nat.min_eq_left (by omega),List.getD_eq_getElem?_getD,List.getElem?_eq_getElem h];rfl
theorem qmC (l:List UInt8) (i:Nat):qa5 (l.take i)<128^i:=by
 have h:=qmA (l.take i);have h2:(l.take i).length<=i:=List.length_take_le i l;exact Nat.lt_of_lt_of_le h (Nat.pow_le_pow_right (by omega) h2)
def qdI:Nat->List UInt8->Option Nat
 |0,_=>none
 |_+1,[]=>none
 |f+1,c::r=>if c.toNat<128 then some 0 else (qdI f r).map (· +1)
def qar (l:List UInt8):Nat × Nat:=
 match qdI 9 l with
 |none=>(0,0)
 |some k=>if k≠0/\(l.getD k 0).toNat=0 then (0,0) else (qa5 (l.take (k+1)),k+1)
theorem qmD:∀ {f:Nat} {l:List UInt8},(∀ j,j<f->j<l.length->128<=(l.getD j 0).toNat)->qdI f l=none
 |0,_,_=>rfl
 |f+1,[],_=>rfl
 |f+1,c::r,h=>by
  have h0:128<=c.toNat:=h 0 (by omega) (by simp);have ih:=qmD (f:=f) (l:=r) fun j hj hr=>h (j+1) (by omega) (by simp;omega)
  simp only [qdI,ih];rw [if_neg (by omega)];rfl
theorem qiT:∀ {f:Nat} {l:List UInt8} {i:Nat},i<f->i<l.length->(∀ j,j<i->128<=(l.getD j 0).toNat)->(l.getD i 0).toNat<128->qdI f l=some i
 |0,_,_,h,_,_,_=>by omega
 |f+1,[],_,_,h,_,_=>by simp at h
 |f+1,c::r,0,_,_,_,h=>by
  have h0:c.toNat<128:=h;simp [qdI,h0]
 |f+1,c::r,i+1,hf,hl,hb,h=>by
  have h0:128<=c.toNat:=hb 0 (by omega);have ih:=qiT (f:=f) (l:=r) (i:=i) (by omega) (by simpa using hl) (fun j hj=>hb (j+1) (by omega)) h;simp only [qdI,ih];rw [if_neg (by omega)];rfl
def qdA (l:List UInt8) (i:Nat):Prop:=∀ j,j<i->128<=(l.getD j 0).toNat
theorem qdA.zero (l:List UInt8):qdA l 0:=fun j h=>by omega
theorem qdA.succ {l:List UInt8} {i:Nat} (h:qdA l i) (hc:128<=(l.getD i 0).toNat):qdA l (i+1):=fun j hj=>by
 by_cases e:j=i
 ·rw [e];exact hc
 ·exact h j (by omega)
theorem qs2 {l:List UInt8} {i:Nat} (h:qdA l i) (hi:9<=i∨l.length<=i):qar l=(0,0):=by
 unfold qar;rw [qmD fun j h1 h2=>h j (by omega)]
theorem qs3 {l:List UInt8} {i:Nat} (h:qdA l i) (hi:i<9) (hl:i<l.length) (h0:0<i) (hc:(l.getD i 0).toNat=0):qar l=(0,0):=by
 unfold qar;rw [qiT hi hl h (by omega)];simp only;rw [if_pos ⟨by omega,hc⟩]
theorem qmE {l:List UInt8} {i:Nat} (h:qdA l i) (hi:i<9) (hl:i<l.length) (hc:(l.getD i 0).toNat<128) (h0:i=0∨(l.getD i 0).toNat≠0):qar l=(qa5 (l.take (i+1)),i+1):=by
 unfold qar;rw [qiT hi hl h hc];simp only;rw [if_neg (by omega)]
theorem qs4 (l:List UInt8):qar l=(0,0)∨∃ i,i<9/\i<l.length/\qar l=(qa5 (l.take (i+1)),i+1):=by
 unfold qar;have key:∀ (f:Nat) (l:List UInt8) (k:Nat),qdI f l=some k->k<f/\k<l.length:=by
  intro f
  induction f with
  |zero=>intro l k h;cases h
  |succ f ih=>
   intro l k h;cases l with
   |nil=>cases h
   |cons c r=>
    rw [qdI] at h;split at h
    ·simp at h;subst h;simp
    ·rw [Option.map_eq_some_iff] at h
     obtain ⟨j,hj,rfl⟩:=h;have :=ih r j hj;simp;omega
 rcases hs:qdI 9 l with _|k
 ·exact .inl rfl
 ·have :=key 9 l k hs
  simp only;split
  ·exact .inl rfl
  ·exact .inr ⟨k,this.1,this.2,rfl⟩
theorem qeY (l:List UInt8):(qar l).1<9223372036854775808/\(qar l).2<=l.length/\(qar l).2<=9:=by
 rcases qs4 l with h|⟨i,h1,h2,h⟩
 ·rw [h];simp
 ·rw [h]
  have :=qmC l (i+1);have h3:(128:Nat)^(i+1)<=128^9:=Nat.pow_le_pow_right (by omega) (by omega);have h4:(128:Nat)^9=9223372036854775808:=by decide
  refine ⟨?_,?_,?_⟩<;>simp only<;>omega
theorem qmF {i:Nat} (h:i<9):(128:Nat)^i<=72057594037927936:=by
 have h3:(128:Nat)^i<=128^8:=Nat.pow_le_pow_right (by omega) (by omega);have h4:(128:Nat)^8=72057594037927936:=by decide
 omega
theorem qs5:∀ (n:Nat) (j:Nat),j+1<(qah n).length->128<=((qah n).getD j 0).toNat:=by
 intro n
 induction n using Nat.strongRecOn with
 |_ n ih=>
  intro j hj;by_cases h1:n<128
  ·rw [qdZ h1] at hj;simp at hj
  ·rw [qef (by omega)] at hj ⊢
   cases j with
   |zero=>rw [List.getD_cons_zero,qeg (by omega)];omega
   |succ j=>simpa using ih (n/128) (by omega) j (by simpa using hj)
theorem qs6:∀ (n:Nat),((qah n).getD ((qah n).length-1) 0).toNat<128/\(0<n->((qah n).getD ((qah n).length-1) 0).toNat≠0):=by
 intro n
 induction n using Nat.strongRecOn with
 |_ n ih=>
  by_cases h1:n<128
  ·rw [qdZ h1]
   have :=qeg (n:=n) (by omega);simp only [List.length_singleton,List.getD_cons_zero,Nat.sub_self];omega
  ·rw [qef (by omega)]
   have hp:=qfp (n/128);have :=ih (n/128) (by omega);rw [List.length_cons,show (qah (n/128)).length+1-1=((qah (n/128)).length-1)+1 by omega,List.getD_cons_succ];exact ⟨this.1,fun _=>this.2 (by omega)⟩
theorem qs7 {n:Nat} (h:1<(qah n).length):0<n:=by
 rcases Nat.eq_zero_or_pos n with h0|h0
 ·subst h0
  rw [qdZ (by omega)] at h;simp at h
 ·exact h0
theorem qs8:∀ n:Nat,qa5 (qah n)=n:=by
 intro n
 induction n using Nat.strongRecOn with
 |_ n ih=>
  by_cases h1:n<128
  ·rw [qdZ h1,qa5,qa5,qeg (by omega)];omega
  ·rw [qef (by omega),qa5,ih (n/128) (by omega),qeg (by omega)];omega
theorem qiU {a b:List UInt8} {j:Nat} (h:j<a.length):(a++b).getD j 0=a.getD j 0:=by
 rw [List.getD_eq_getElem?_getD,List.getD_eq_getElem?_getD,List.getElem?_append_left h]
theorem qmG {n:Nat} (h:n<9223372036854775808) (r:List UInt8):qar (qah n++r)=(n,(qah n).length):=by
 have hp:=qfp n;have h9:=qeX h;have hl:=qs6 n;rw [qmE (i:=(qah n).length-1) ?_ (by omega) (by simp;omega) ?_ ?_,show (qah n).length-1+1=(qah n).length by omega,List.take_left,qs8]
 ·intro j hj
  rw [qiU (by omega)];exact qs5 n j (by omega)
 ·rw [qiU (by omega)]
  exact hl.1
 ·by_cases h1:(qah n).length=1
  ·exact .inl (by omega)
  ·refine .inr ?_
   rw [qiU (by omega)];exact hl.2 (qs7 (by omega))
theorem qmH:∀ {k:Nat} {l:List UInt8},l.length=k+1->qdA l k->(l.getD k 0).toNat<128->(k=0∨(l.getD k 0).toNat≠0)->qah (qa5 l)=l/\((l.getD k 0).toNat≠0->0<qa5 l)
 |0,[c],_,_,h,_=>by
  have hc:c.toNat<128:=by simpa using h
  have hv:qa5 [c]=c.toNat:=by simp only [qa5];omega
  refine ⟨?_,fun h0=> ?_⟩
  ·rw [hv,qdZ hc]
   congr 1;exact UInt8.toNat_inj.1 (by rw [qeg (by omega)])
  ·rw [hv]
   have :c.toNat≠0:=by simpa using h0
   omega
 |k+1,c::r,hl,hh,h,h0=>by
  have hc0:128<=c.toNat:=hh 0 (by omega);have hc1:=c.toNat_lt;have h0':(r.getD k 0).toNat≠0:=by
   rcases h0 with h0|h0
   ·omega
   ·simpa using h0
  have ih:=qmH (k:=k) (l:=r) (by simpa using hl) (fun j hj=>by simpa using hh (j+1) (by omega)) (by simpa using h) (.inr h0');have hv:qa5 (c::r)=c.toNat-128+128*qa5 r:=by simp only [qa5];omega
  have hpos:=ih.2 h0';refine ⟨?_,fun _=>by rw [hv];omega⟩;rw [hv,qef (by omega),show (c.toNat-128+128*qa5 r)/128=qa5 r by omega,ih.1];congr 1;exact UInt8.toNat_inj.1 (by rw [qeg (by omega)];omega)
def qbA (l:List UInt8) (a:Int):Int × Int × Int:=
 if a<0∨(l.length:Int)<a then (0,0,1)
 else if (qar (l.drop a.toNat)).2=0 then (0,0,2) else (((qar (l.drop a.toNat)).1:Int),a+((qar (l.drop a.toNat)).2:Int),0)
theorem qmI {l:List UInt8} {a:Int} (h:a<0∨(l.length:Int)<a):qbA l a=(0,0,1):=by unfold qbA;rw [if_pos h]
theorem qmJ {l:List UInt8} {a:Nat} (h:a<=l.length) (h2:(qar (l.drop a)).2=0):qbA l (a:Int)=(0,0,2):=by
 unfold qbA;rw [if_neg (by omega),Int.toNat_natCast,if_pos h2]
theorem qiV {l:List UInt8} {a n k:Nat} (h:a<=l.length) (h2:qar (l.drop a)=(n,k+1)):qbA l (a:Int)=((n:Int),(a:Int)+((k+1:Nat):Int),0):=by
 unfold qbA;rw [if_neg (by omega),Int.toNat_natCast,h2];simp
theorem qmK {n:Nat} (h:n<9223372036854775808) (b r:List UInt8):qbA (b++(qah n++r)) (b.length:Int)=((n:Int),((b.length+(qah n).length:Nat):Int),0):=by
 have hp:=qfp n;obtain ⟨k,hk⟩:∃ k,(qah n).length=k+1:=⟨(qah n).length-1,by omega⟩;rw [qiV (n:=n) (k:=k) (by simp) (by rw [List.drop_left,qmG h,hk]),hk];simp
def qaj:Int->List Int->Bool
 |_,[]=>true
 |last,n::r=>decide (last<n)&&qaj n r
def dB:Int->List Int->List UInt8
 |_,[]=>[]
 |last,n::r=>qah (n-(last+1)).toNat++dB n r
def qbv (l:List Int):List UInt8:=qah l.length++dB (-1) l
theorem qiW:∀ (l:List Int) (last:Int), -1<=last->qaj last l=true->(∀ x∈l,x<=9223372036854775807)->(dB last l).length<=9*l.length
 |[],_,_,_,_=>by simp [dB]
 |n::r,last,h,hr,hb=>by
  rw [qaj,Bool.and_eq_true,decide_eq_true_iff] at hr;have hn:=hb n (by simp);rw [dB,List.length_append,List.length_cons];have h1:=qeX (n:=(n-(last+1)).toNat) (by omega);have h2:=qiW r n (by omega) hr.2 fun x hx=>hb x (by simp [hx])
  omega
def qcm (l:List UInt8):Nat->Int->Nat->List Int->Option (List Int × Nat)
 |0,_,a,acc=>some (acc,a)
 |m+1,last,a,acc=>
  if (qar (l.drop a)).2=0∨4611686018427387904-(last+1)<((qar (l.drop a)).1:Int) then none
  else qcm l m (last+(((qar (l.drop a)).1:Int)+1)) (a+(qar (l.drop a)).2) (acc++[last+(((qar (l.drop a)).1:Int)+1)])
def qcR (l:List UInt8) (a:Int):List Int × Int × Int:=
 if (qbA l a).2.2=0 then
  match qcm l (qbA l a).1.toNat (-1) (qbA l a).2.1.toNat [] with
  |none=>([],0,2)
  |some (xs,b)=>(xs,(b:Int),0)
 else ([],0,(qbA l a).2.2)
theorem qmL:∀ (g:List Int) (last:Int) (pre post:List UInt8) (acc:List Int), -1<=last->qaj last g=true->(∀ x∈g,x<=4611686018427387904)->
  qcm (pre++(dB last g++post)) g.length last pre.length acc=some (acc++g,pre.length+(dB last g).length)
 |[],last,pre,post,acc,_,_,_=>by simp [qcm,dB]
 |n::r,last,pre,post,acc,h,hr,hb=>by
  rw [qaj,Bool.and_eq_true,decide_eq_true_iff] at hr;have hn:=hb n (by simp);have e:pre++(dB last (n::r)++post)=pre++(qah (n-(last+1)).toNat++(dB n r++post)):=by rw [dB,List.append_assoc]
  have hg:qar ((pre++(dB last (n::r)++post)).drop pre.length)=((n-(last+1)).toNat,(qah (n-(last+1)).toNat).length):=by
   rw [e,List.drop_left,qmG (by omega)]
  have hp:=qfp (n-(last+1)).toNat;rw [List.length_cons,qcm,hg];simp only;rw [if_neg (by omega),show last+(((n-(last+1)).toNat:Int)+1)=n by omega,e];have e2:pre++(qah (n-(last+1)).toNat++(dB n r++post))=(pre++qah (n-(last+1)).toNat)++(dB n r++post):=by rw [List.append_assoc]
  have ih:=qmL r n (pre++qah (n-(last+1)).toNat) post (acc++[n]) (by omega) hr.2 (fun x hx=>hb x (by simp [hx]));rw [e2,<- List.length_append,ih,dB];simp [Nat.add_assoc]
theorem qs9 {g:List Int} (hr:qaj (-1) g=true) (hb:∀ x∈g,x<=4611686018427387904) (hl:g.length<9223372036854775808) (b r:List UInt8):
  qcR (b++(qbv g++r)) (b.length:Int)=(g,((b.length+(qbv g).length:Nat):Int),0):=by
 have hz:=qmK hl b (dB (-1) g++r);have e:b++(qbv g++r)=b++(qah g.length++(dB (-1) g++r)):=by rw [qbv,List.append_assoc]
 have e2:b++(qah g.length++(dB (-1) g++r))=(b++qah g.length)++(dB (-1) g++r):=by rw [List.append_assoc]
 have ht:=qmL g (-1) (b++qah g.length) r [] (by omega) hr hb;unfold qcR;rw [e,hz];simp only [if_true,Int.toNat_natCast];rw [e2,<- List.length_append,ht];simp [qbv,Nat.add_assoc]
theorem qhi {α:Type} {R:α->α->Prop} (irr:∀ x,¬ R x x) (asym:∀ x y,R x y->¬ R y x):∀ {a b:List α},a.Pairwise R->b.Pairwise R->(∀ x,x∈a↔x∈b)->a=b
 |[],[],_,_,_=>rfl
 |[],y::b,_,_,h=>by have :=(h y).2 (List.mem_cons_self ..);simp at this
 |x::a,[],_,_,h=>by have :=(h x).1 (List.mem_cons_self ..);simp at this
 |x::a,y::b,ha,hb,h=>by
  rw [List.pairwise_cons] at ha hb;have hxy:x=y:=by
   rcases List.mem_cons.1 ((h x).1 (List.mem_cons_self ..)) with e|h1
   ·exact e
   ·rcases List.mem_cons.1 ((h y).2 (List.mem_cons_self ..)) with e|h2
    ·exact e.symm
    ·exact absurd (ha.1 y h2) (asym _ _ (hb.1 x h1))
  subst hxy;rw [qhi irr asym ha.2 hb.2 fun z=>⟨fun hz=> ?_,fun hz=> ?_⟩]
  ·rcases List.mem_cons.1 ((h z).1 (List.mem_cons_of_mem _ hz)) with e|h1
   ·exact absurd (ha.1 z hz) (e▸irr _)
   ·exact h1
  ·rcases List.mem_cons.1 ((h z).2 (List.mem_cons_of_mem _ hz)) with e|h1
   ·exact absurd (hb.1 z hz) (e▸irr _)
   ·exact h1
abbrev Pl:=Nat × Nat
def qaK (l:List (List Int)) (p:Pl):Int:=(l.getD p.1 []).getD p.2 0
def InO (l:List (List Int)) (p:Pl):Prop:=p.1<l.length/\p.2<(l.getD p.1 []).length
structure qb7 (l:List (List Int)) (o:List Pl):Prop where
 rise:o.Pairwise fun p q=>qaK l p<qaK l q
 mem:∀ p,p∈o↔InO l p
theorem qb7.ext {l:List (List Int)} {a b:List Pl} (ha:qb7 l a) (hb:qb7 l b):a=b:=
 qhi (R:=fun p q=>qaK l p<qaK l q) (fun _ h=>Int.lt_irrefl _ h) (fun _ _ h k=>Int.lt_irrefl _ (Int.lt_trans h k)) ha.rise hb.rise fun p=>(ha.mem p).trans (hb.mem p).symm
def qdP (l:List (List Int)):Prop:=∃ p q,InO l p/\InO l q/\qaK l p=qaK l q/\p≠q
theorem qb7.once {l:List (List Int)} {o:List Pl} (h:qb7 l o):¬ qdP l:=fun ⟨p,q,hp,hq,e,hn⟩=>by
 have h1:=(h.mem p).2 hp;have h2:=(h.mem q).2 hq;obtain ⟨i,hi,hi2⟩:=List.getElem_of_mem h1;obtain ⟨j,hj,hj2⟩:=List.getElem_of_mem h2;rcases Nat.lt_trichotomy i j with hij|hij|hij
 ·have :=List.pairwise_iff_getElem.1 h.rise i j hi hj hij
  rw [hi2,hj2,e] at this;exact Int.lt_irrefl _ this
 ·subst hij
  exact hn (hi2.symm.trans hj2)
 ·have :=List.pairwise_iff_getElem.1 h.rise j i hj hi hij
  rw [hi2,hj2,e] at this;exact Int.lt_irrefl _ this
inductive qeh (l:List (List Int)):Int->List Pl->Prop
 |bad:¬ (∀ s∈l,qaj (-1) s=true)->qeh l 1 []
 |twice:(∀ s∈l,qaj (-1) s=true)->qdP l->qeh l 5 []
 |ok {o:List Pl}:(∀ s∈l,qaj (-1) s=true)->qb7 l o->qeh l 0 o
theorem qeh.det {l:List (List Int)} {e f:Int} {a b:List Pl} (h:qeh l e a) (k:qeh l f b):e=f/\a=b:=by
 cases h with
 |bad h=>cases k with
  |bad _=>exact ⟨rfl,rfl⟩
  |twice k _=>exact absurd k h
  |ok k _=>exact absurd k h
 |twice h h2=>cases k with
  |bad k=>exact absurd h k
  |twice _ _=>exact ⟨rfl,rfl⟩
  |ok _ k2=>exact absurd h2 k2.once
 |ok h h2=>cases k with
  |bad k=>exact absurd h k
  |twice _ k2=>exact absurd k2 h2.once
  |ok _ k2=>exact ⟨rfl,h2.ext k2⟩
theorem qgt:∀ {l:List Int} {x:Int},qaj x l=true->∀ i (hi:i<l.length),x<l[i]/\∀ j (hj:j<l.length),j<i->l[j]<l[i]
 |[],x,h,i,hi=>by simp at hi
 |y::l,x,h,i,hi=>by
  rw [qaj,Bool.and_eq_true,decide_eq_true_eq] at h;cases i with
  |zero=>exact ⟨h.1,fun j _ hj=>by omega⟩
  |succ i=>
   obtain ⟨h1,h2⟩:=qgt h.2 i (by simpa using hi);refine ⟨by rw [zC];omega,fun j hj hji=> ?_⟩;cases j with
   |zero=>simpa using h1
   |succ j=>simpa using h2 j (by simpa using hj) (by omega)
theorem qfq {l:List (List Int)} {i k:Nat} (hi:i<l.length) (hk:k<l[i].length):qaK l (i,k)=l[i][k]:=by
 simp [qaK,List.getD_eq_getElem?_getD,List.getElem?_eq_getElem hi,List.getElem?_eq_getElem hk]
theorem qdf {l:List (List Int)} {i k:Nat}:InO l (i,k)↔∃ hi:i<l.length,k<l[i].length:=by
 constructor
 ·rintro ⟨h1,h2⟩
  simp only at h1 h2;exact ⟨h1,by simpa [List.getD_eq_getElem?_getD,List.getElem?_eq_getElem h1] using h2⟩
 ·rintro ⟨h1,h2⟩
  exact ⟨h1,by simpa [List.getD_eq_getElem?_getD,List.getElem?_eq_getElem h1] using h2⟩
theorem qmM {l:List (List Int)} (hr:∀ s∈l,qaj (-1) s=true) {i k m:Nat} (h:InO l (i,m)) (hk:k<m):qaK l (i,k)<qaK l (i,m):=by
 obtain ⟨hi,hm⟩:=qdf.1 h;rw [qfq hi hm,qfq hi (by omega)];exact (qgt (hr _ (List.getElem_mem hi)) m hm).2 k (by omega) hk
theorem qmN {l:List (List Int)} (hr:∀ s∈l,qaj (-1) s=true) {p:Pl} (h:InO l p): -1<qaK l p:=by
 obtain ⟨hi,hm⟩:=qdf.1 h;rw [show p=(p.1,p.2) from rfl,qfq hi hm]
 exact (qgt (hr _ (List.getElem_mem hi)) _ hm).1
structure qdQ (l:List (List Int)) (a:List Nat) (o:List Pl) (last:Int):Prop where
 len:a.length=l.length
 le:∀ i (hi:i<l.length),a.getD i 0<=l[i].length
 rise:o.Pairwise fun p q=>qaK l p<qaK l q
 mem:∀ p,p∈o↔p.1<l.length/\p.2<a.getD p.1 0
 low:∀ p∈o,qaK l p<=last
 lasts:last= -1∨∃ p∈o,qaK l p=last
 ahead:∀ p,InO l p->a.getD p.1 0<=p.2->last<=qaK l p
theorem qta {l:List (List Int)} (hr:∀ s∈l,qaj (-1) s=true):qdQ l (List.replicate l.length 0) [] (-1) where
 len:=by simp
 le:=fun i hi=>by simp [List.getD_eq_getElem?_getD,hi]
 rise:=List.Pairwise.nil
 mem:=fun p=>by
  constructor
  ·intro h;simp at h
  ·rintro ⟨h1,h2⟩
   simp [List.getD_eq_getElem?_getD,h1] at h2
 low:=fun p h=>by simp at h
 lasts:= .inl rfl
 ahead:=fun p hp _=>by have :=qmN hr hp;omega
theorem qdQ.inO {l:List (List Int)} {a:List Nat} {o:List Pl} {last:Int} (h:qdQ l a o last) {p:Pl} (hp:p∈o):InO l p:=by
 obtain ⟨h1,h2⟩:=(h.mem p).1 hp;exact qdf.2 ⟨h1,Nat.lt_of_lt_of_le h2 (h.le _ h1)⟩
theorem qdQ.done {l:List (List Int)} {a:List Nat} {o:List Pl} {last:Int} (h:qdQ l a o last) (hd:∀ i (hi:i<l.length),l[i].length<=a.getD i 0):qb7 l o:=
 ⟨h.rise,fun p=>⟨h.inO,fun hp=>(h.mem p).2 (by obtain ⟨h1,h2⟩:=qdf.1 hp;exact ⟨h1,Nat.lt_of_lt_of_le h2 (hd _ h1)⟩)⟩⟩
theorem qdQ.twice {l:List (List Int)} (hr:∀ s∈l,qaj (-1) s=true) {a:List Nat} {o:List Pl} {last:Int} (h:qdQ l a o last) {b:Nat} (hb:InO l (b,a.getD b 0)) (he:qaK l (b,a.getD b 0)=last):qdP l:=by
 rcases h.lasts with e|⟨p,hp,e⟩
 ·have :=qmN hr hb;omega
 ·refine ⟨p,_,h.inO hp,hb,by rw [e,he],fun e=> ?_⟩
  have :=((h.mem p).1 hp).2;rw [e] at this;simp at this
theorem qdQ.step {l:List (List Int)} (hr:∀ s∈l,qaj (-1) s=true) {a:List Nat} {o:List Pl} {last:Int} (h:qdQ l a o last) {b:Nat} (hb:InO l (b,a.getD b 0)) (hm:∀ i,InO l (i,a.getD i 0)->qaK l (b,a.getD b 0)<=qaK l (i,a.getD i 0)) (hn:qaK l (b,a.getD b 0)≠last):qdQ l (a.set b (a.getD b 0+1)) (o++[(b,a.getD b 0)]) (qaK l (b,a.getD b 0)):=by
 obtain ⟨hb1,hb2⟩:=qdf.1 hb;have hlt:last<qaK l (b,a.getD b 0):=by have :=h.ahead _ hb (Nat.le_refl _);omega
 have hba:b<a.length:=by rw [h.len];exact hb1
 have hset:∀ i,(a.set b (a.getD b 0+1)).getD i 0=if i=b then a.getD b 0+1 else a.getD i 0:=fun i=>by
  rw [List.getD_eq_getElem?_getD,List.getElem?_set];by_cases e:b=i
  ·subst e;simp [hba]
  ·rw [if_neg e,if_neg (fun e2=>e e2.symm),List.getD_eq_getElem?_getD (l:=a) (i:=i)]
 exact {
  len:=by rw [List.length_set];exact h.len
  le:=fun i hi=>by
   rw [hset];split
   ·rename_i e;subst e;omega
   ·exact h.le i hi
  rise:=List.pairwise_append.2 ⟨h.rise,List.pairwise_singleton ..,fun p hp q hq=>by
   rw [List.mem_singleton.1 hq];have :=h.low p hp;omega⟩
  mem:=fun p=>by
   rw [List.mem_append,List.mem_singleton,h.mem,hset];constructor
   ·rintro (⟨h1,h2⟩|rfl)
    ·refine ⟨h1,?_⟩
     split
     ·rename_i e;rw [e] at h2;omega
     ·exact h2
    ·exact ⟨hb1,by simp⟩
   ·rintro ⟨h1,h2⟩
    split at h2
    ·rename_i e
     by_cases e2:p.2=a.getD b 0
     ·exact .inr (by rw [<- e2,<- e])
     ·exact .inl ⟨h1,by rw [e];omega⟩
    ·exact .inl ⟨h1,h2⟩
  low:=fun p hp=>by
   rcases List.mem_append.1 hp with hp|hp
   ·have :=h.low p hp;omega
   ·rw [List.mem_singleton.1 hp];omega
  lasts:= .inr ⟨_,List.mem_append_right _ (List.mem_singleton.2 rfl),rfl⟩
  ahead:=fun p hp hle=>by
   rw [hset] at hle;split at hle
   ·rename_i e
    have :qaK l (b,a.getD b 0)<qaK l (b,p.2):=qmM hr (by rw [<- e];exact hp) (by omega);rw [<- e] at this ⊢;exact Int.le_of_lt this
   ·have h1:=qdf.1 (show InO l (p.1,p.2) from hp)
    by_cases e2:p.2=a.getD p.1 0
    ·have :=hm p.1 (by rw [<- e2];exact hp)
     rwa [<- e2] at this
    ·have h2:=hm p.1 (qdf.2 ⟨h1.1,by have :=h1.2;omega⟩)
     have h3:qaK l (p.1,a.getD p.1 0)<qaK l (p.1,p.2):=qmM hr hp (by omega);exact Int.le_of_lt (Int.lt_of_le_of_lt h2 h3)}
def qba:List Pl->Nat->Int->Int->Int
 |[],_,_,_=> -1
 |p::o,j,i,k=>if (p.1:Int)=i/\(p.2:Int)=k then (j:Int) else qba o (j+1) i k
end Go.Proofs.YtpehcaidjlemiaaGreatDoor
