import Derived.Test.YtpehcaidjlemiaaGreatDoorMKZz
import Derived.Test.YtpehcaidjlemiaaGreatDoorMKQ05
import Derived.Below
import Derived.Test.YtpehcaidjlemiaaGreatDoorMKQ04
set_option linter.unusedVariables false
namespace Go.Proofs.YtpehcaidjlemiaaGreatDoor
open Go Go.RowKit Go.ChangeShapes Go.WideShapes Go.ChangeAt
def qeg (V:Nat->List Value):Nat->List Value
 |0=>[]
 |k+1=>qeg V k++V k
theorem qmw {V:Nat->List Value} {z n:Nat} (hz:∀ i,i<n->(V i).length=z):∀ k,k<=n->(qeg V k).length=k*z
 |0,_=>by simp [qeg]
 |k+1,hk=>by rw [qeg,List.length_append,qmw hz k (by omega),hz k (by omega),Nat.add_mul,Nat.one_mul]
theorem qmx {w:World} {b off z n:Nat} {V:Nat->List Value} (hz:∀ i,i<n->(V i).length=z) (h:∀ i,i<n->∀ j u,(V i)[j]?=some u->w.cell? ⟨b,off+(i*z+j),none⟩=some u):
  ∀ k,k<=n->∀ j u,(qeg V k)[j]?=some u->w.cell? ⟨b,off+j,none⟩=some u
 |0,_,j,u,hu=>by simp [qeg] at hu
 |k+1,hk,j,u,hu=>by
  rw [qeg] at hu;have hl:=qmw hz k (by omega);by_cases hj:j<k*z
  ·rw [List.getElem?_append_left (by rw [hl];exact hj)] at hu
   exact qmx hz h k (by omega) j u hu
  ·rw [List.getElem?_append_right (by rw [hl];omega),hl] at hu
   have :=h k (by omega) _ _ hu;rwa [show k*z+(j-k*z)=j by omega] at this
theorem qmy {α:Type} {s:qdv α} {R:Option Addr->List Value->Prop} {V:Nat->List Value} {f:Nat->α} {n:Nat}
  (h:∀ i,i<n->∃ A c,V i=s.pre (f i)++(.slice A (s.mid (f i)).length c::s.post (f i))/\(s.mid (f i)).length<=c/\c<=maxLen/\R A (flds (s.mid (f i)))):∀ k,k<=n->qcQ s R ((List.range k).map f) (qeg V k)
 |0,_=>rfl
 |k+1,hk=>by
  have ih:=qmy h k (by omega);obtain ⟨A,c,h1,h2,h3,h4⟩:=h k (by omega);rw [List.range_succ,List.map_append,qeg,h1];exact ih.snoc h2 h3 h4
def qmz {α:Type} (s:qdv α) (good:α->Prop) (w:World) (a:Option Addr) (len cap:Nat) (l:List α):Prop:=
 len<=cap/\cap<=maxLen/\l.length=len/\qdd s w w.heap.size a l/\∀ q∈l,good q
theorem qsO {α:Type} [Inhabited α] {H:Type} {enc:TypeId × Value->H} {W:World} (s:qdv α) (good:α->Prop) {t e:TypeId} (ht:Tryz.prog.underlying t=some (.slice e)) (ce:Tryz.prog.cellsOf e=s.size)
  (open1:∀ {fuel:Nat} {cs:List Value} {x:DataW H × List MemPlace},DataW.trod enc Tryz.prog W 0 (fun _=>true) true fuel e cs=some x->
   ∃ (q:α) (A:Option Addr) (c:Nat),cs=s.pre q++(.slice A (s.mid q).length c::s.post q)/\(s.mid q).length<=c/\c<=maxLen/\qaD W W.heap.size A (s.mid q)/\good q)
  {fuel:Nat} {a:Option Addr} {len cap:Nat} {x:DataW H × List MemPlace} (h:DataW.trod enc Tryz.prog W 0 (fun _=>true) true fuel t [Value.slice a len cap]=some x):∃ l,qmz s good W a len cap l:=by
 rcases Deep.open_slice ht h with ⟨hcs,_⟩|⟨ad,l,c,m,n,D,Pl,hcs,_,hl,hm,hmm,_,hx⟩
 ·simp at hcs
  obtain ⟨rfl,rfl,rfl⟩:=hcs;exact ⟨[],Nat.le_refl _,Nat.zero_le _,rfl,qdc.nil,fun p hp=>by cases hp⟩
 ·simp at hcs
  obtain ⟨rfl,rfl,rfl⟩:=hcs;simp only [if_true] at hmm;subst hmm;have each:∀ i,i<m->∃ q:α × List Value,(∃ A c,q.2=s.pre q.1++(.slice A (s.mid q.1).length c::s.post q.1)/\(s.mid q.1).length<=c/\c<=maxLen/\Row W W.heap.size A (flds (s.mid q.1)))/\good q.1/\q.2.length=s.size/\
    ∀ j u,q.2[j]?=some u->W.cell? (ad.add (i*s.size+j))=some u:=fun i hi=>by
   obtain ⟨cs',h1,h2⟩:=hx i hi;obtain ⟨_,hlen,hcell⟩:=World.cells?_some h1;obtain ⟨q,A,c,e1,e2,e3,e4,e5⟩:=open1 h2;rw [ce] at hlen;refine ⟨(q,cs'),⟨A,c,e1,e2,e3,e4⟩,e5,hlen,fun j u hu=> ?_⟩;have hj:j<s.size:=by
    rcases Nat.lt_or_ge j s.size with h|h
    ·exact h
    ·rw [List.getElem?_eq_none (by rw [hlen];exact h)] at hu;cases hu
   have :=hcell j (by rw [ce];exact hj);rw [Deep.add_add,ce] at this;rw [this];exact hu
  obtain ⟨f,hf⟩:=Deep.choose_lt each;by_cases h0:m=0
  ·have hl0:len=0:=by omega
   subst hl0;exact ⟨[],hl,hm,rfl,qdc.nil,fun p hp=>by cases hp⟩
  ·obtain ⟨_,_,hl0,hc0⟩:=hf 0 (by omega)
   obtain ⟨u0,hu0⟩:∃ u,(f 0).2[0]?=some u:=⟨_,List.getElem?_eq_getElem (by rw [hl0];unfold qdv.size;omega)⟩;have c00:=hc0 0 u0 hu0;obtain ⟨b,off,spot⟩:=ad;have hs:spot=none:=by simpa [Addr.add] using World.cell?_spot c00
   subst hs;have hblt:b<W.heap.size:=by simpa [Addr.add_lit] using World.block_lt_of_cell? W _ c00
   refine ⟨(List.range len).map fun i=>(f i).1,hl,hm,by simp,⟨qeg (fun i=>(f i).2) len,qmy (n:=m) (fun i hi=>(hf i hi).1) len hl,.inr ⟨b,off,rfl,hblt,qmx (n:=m) (z:=s.size) (fun i hi=>(hf i hi).2.2.1) (fun i hi j u hu=> ?_) len hl⟩⟩,fun p hp=> ?_⟩
   ·have :=(hf i hi).2.2.2 j u hu
    rwa [Addr.add_lit] at this
   ·obtain ⟨i,hi,rfl⟩:=List.mem_map.1 hp
    have hil:=List.mem_range.1 hi;exact (hf i (by omega)).2.1
def qiP (l:List Fd):Prop:=∀ f∈l,f.1.length<=maxLen/\f.2.length<=maxLen
theorem qsP {H:Type} {enc:TypeId × Value->H} {W:World} {fuel:Nat} {cs:List Value} {x:DataW H × List MemPlace} (h:DataW.trod enc Tryz.prog W 0 (fun _=>true) true fuel 59 cs=some x):
  ∃ (q:Dc) (A:Option Addr) (c:Nat),cs=[.int .i64 q.1,.slice A q.2.length c]/\q.2.length<=c/\c<=maxLen/\qaD W W.heap.size A q.2/\qiP q.2:=by
 obtain ⟨y0,y1,n,_,hl,g0,g1⟩:=trod_struct2 Tryz.underlying59 h;rw [qmv] at hl;obtain ⟨v0,v1,rfl⟩:∃ v0 v1,cs=[v0,v1]:=by
  rcases cs with _|⟨v0,_|⟨v1,_|⟨v2,cs⟩⟩⟩
  ·cases hl
  ·cases hl
  ·exact ⟨_,_,rfl⟩
  ·simp only [List.length_cons] at hl;omega
 ·have ci:Tryz.prog.cellsOf 3=1:=by kernel_rfl
  have cf:Tryz.prog.cellsOf 57=1:=by kernel_rfl
  simp [ci] at g0;simp [cf] at g1;obtain ⟨d,e0,_,_⟩:=DataW.trod_int Tryz.underlying3 g0;obtain ⟨a,len,cap,l,rfl,h1,h2,h3,h4,h5⟩:=qsN g1;simp only [List.cons.injEq,and_true] at e0;subst e0;exact ⟨(d,l),a,cap,by rw [h3],by rw [h3];exact h1,h2,h4,h5⟩
abbrev qiQ:=qmz qhg (fun q=>qiP q.2)
theorem qsQ {H:Type} {enc:TypeId × Value->H} {W:World} {fuel:Nat} {a:Option Addr} {len cap:Nat} {x:DataW H × List MemPlace}
  (h:DataW.trod enc Tryz.prog W 0 (fun _=>true) true fuel 22 (Value.slice a len cap).cells.toList=some x):∃ l,qiQ W a len cap l:=
 qsO qhg (fun q=>qiP q.2) Tryz.underlying22 qmv (fun h=>qsP h) (by simpa [Value.cells] using h)
def qah (n:Nat):List UInt8:=if n<128 then [UInt8.ofNat n] else UInt8.ofNat (128+n%128)::qah (n/128)
termination_by n
decreasing_by omega
theorem qdZ {n:Nat} (h:n<128):qah n=[UInt8.ofNat n]:=by rw [qah,if_pos h]
theorem qeh {n:Nat} (h:128<=n):qah n=UInt8.ofNat (128+n%128)::qah (n/128):=by rw [qah,if_neg (by omega)]
theorem qei {n:Nat} (h:n<256):(UInt8.ofNat n).toNat=n:=by simp;omega
theorem qfw (n:Nat):0<(qah n).length:=by
 by_cases h:n<128
 ·rw [qdZ h];simp
 ·rw [qeh (by omega)];simp
theorem qsR {k:Nat}:∀ {n:Nat},n<128^(k+1)->(qah n).length<=k+1:=by
 induction k with
 |zero=>intro n h;rw [qdZ (by simpa using h)];simp
 |succ k ih=>
  intro n h;by_cases h1:n<128
  ·rw [qdZ h1];simp
  ·rw [qeh (by omega),List.length_cons]
   have :=ih (n:=n/128) (by rw [Nat.pow_succ] at h;exact Nat.div_lt_of_lt_mul (by rw [Nat.mul_comm];exact h));omega
theorem qe3 {n:Nat} (h:n<9223372036854775808):(qah n).length<=9:=qsR (k:=8) (by simpa using h)
theorem qzD:∀ {n m:Nat},n<=m->(qah n).length<=(qah m).length:=by
 intro n
 induction n using Nat.strongRecOn with
 |_ n ih=>
  intro m h;by_cases h1:n<128
  ·rw [qdZ h1]
   exact qfw m
  ·rw [qeh (by omega),qeh (n:=m) (by omega),List.length_cons,List.length_cons]
   exact Nat.succ_le_succ (ih (n/128) (by omega) (Nat.div_le_div_right h))
def qbc:List UInt8->Nat
 |[]=>0
 |c::r=>c.toNat%128+128*qbc r
theorem qmA:∀ l:List UInt8,qbc l<128^l.length
 |[]=>by simp [qbc]
 |c::r=>by
  have :=qmA r;rw [qbc,List.length_cons,Nat.pow_succ];omega
theorem qmB:∀ (l:List UInt8) (c:UInt8),qbc (l++[c])=qbc l+c.toNat%128*128^l.length
 |[],c=>by simp [qbc]
 |d::r,c=>by
  rw [List.cons_append,qbc,qbc,qmB r c,List.length_cons,Nat.pow_succ,Nat.mul_add];have :128*(c.toNat%128*128^r.length)=c.toNat%128*(128^r.length*128):=by
   rw [Nat.mul_comm 128,Nat.mul_assoc]
  omega
theorem qsS {l:List UInt8} {i:Nat} (h:i<l.length):qbc (l.take (i+1))=qbc (l.take i)+(l.getD i 0).toNat%128*128^i:=by
 rw [List.take_succ_eq_append_getElem h,qmB,List.length_take,Nat.min_eq_left (by omega),List.getD_eq_getElem?_getD,List.getElem?_eq_getElem h];rfl
theorem qmC (l:List UInt8) (i:Nat):qbc (l.take i)<128^i:=by
 have h:=qmA (l.take i);have h2:(l.take i).length<=i:=List.length_take_le i l;exact Nat.lt_of_lt_of_le h (Nat.pow_le_pow_right (by omega) h2)
def qdF:Nat->List UInt8->Option Nat
 |0,_=>none
 |_+1,[]=>none
 |f+1,c::r=>if c.toNat<128 then some 0 else (qdF f r).map (· +1)
def qas (l:List UInt8):Nat × Nat:=
 match qdF 9 l with
 |none=>(0,0)
 |some k=>if k≠0/\(l.getD k 0).toNat=0 then (0,0) else (qbc (l.take (k+1)),k+1)
theorem qmD:∀ {f:Nat} {l:List UInt8},(∀ j,j<f->j<l.length->128<=(l.getD j 0).toNat)->qdF f l=none
 |0,_,_=>rfl
 |f+1,[],_=>rfl
 |f+1,c::r,h=>by
  have h0:128<=c.toNat:=h 0 (by omega) (by simp);have ih:=qmD (f:=f) (l:=r) fun j hj hr=>h (j+1) (by omega) (by simp;omega)
  simp only [qdF,ih];rw [if_neg (by omega)];rfl
theorem qiR:∀ {f:Nat} {l:List UInt8} {i:Nat},i<f->i<l.length->(∀ j,j<i->128<=(l.getD j 0).toNat)->(l.getD i 0).toNat<128->qdF f l=some i
 |0,_,_,h,_,_,_=>by omega
 |f+1,[],_,_,h,_,_=>by simp at h
 |f+1,c::r,0,_,_,_,h=>by
  have h0:c.toNat<128:=h;simp [qdF,h0]
 |f+1,c::r,i+1,hf,hl,hb,h=>by
  have h0:128<=c.toNat:=hb 0 (by omega);have ih:=qiR (f:=f) (l:=r) (i:=i) (by omega) (by simpa using hl) (fun j hj=>hb (j+1) (by omega)) h;simp only [qdF,ih];rw [if_neg (by omega)];rfl
def qdw (l:List UInt8) (i:Nat):Prop:=∀ j,j<i->128<=(l.getD j 0).toNat
theorem qdw.zero (l:List UInt8):qdw l 0:=fun j h=>by omega
theorem qdw.succ {l:List UInt8} {i:Nat} (h:qdw l i) (hc:128<=(l.getD i 0).toNat):qdw l (i+1):=fun j hj=>by
 by_cases e:j=i
 ·rw [e];exact hc
 ·exact h j (by omega)
theorem qsT {l:List UInt8} {i:Nat} (h:qdw l i) (hi:9<=i∨l.length<=i):qas l=(0,0):=by
 unfold qas;rw [qmD fun j h1 h2=>h j (by omega)]
theorem qsU {l:List UInt8} {i:Nat} (h:qdw l i) (hi:i<9) (hl:i<l.length) (h0:0<i) (hc:(l.getD i 0).toNat=0):qas l=(0,0):=by
 unfold qas;rw [qiR hi hl h (by omega)];simp only;rw [if_pos ⟨by omega,hc⟩]
theorem qmE {l:List UInt8} {i:Nat} (h:qdw l i) (hi:i<9) (hl:i<l.length) (hc:(l.getD i 0).toNat<128) (h0:i=0∨(l.getD i 0).toNat≠0):qas l=(qbc (l.take (i+1)),i+1):=by
 unfold qas;rw [qiR hi hl h hc];simp only;rw [if_neg (by omega)]
theorem qsV (l:List UInt8):qas l=(0,0)∨∃ i,i<9/\i<l.length/\qas l=(qbc (l.take (i+1)),i+1):=by
 unfold qas;have key:∀ (f:Nat) (l:List UInt8) (k:Nat),qdF f l=some k->k<f/\k<l.length:=by
  intro f
  induction f with
  |zero=>intro l k h;cases h
  |succ f ih=>
   intro l k h;cases l with
   |nil=>cases h
   |cons c r=>
    rw [qdF] at h;split at h
    ·simp at h;subst h;simp
    ·rw [Option.map_eq_some_iff] at h
     obtain ⟨j,hj,rfl⟩:=h;have :=ih r j hj;simp;omega
 rcases hs:qdF 9 l with _|k
 ·exact .inl rfl
 ·have :=key 9 l k hs
  simp only;split
  ·exact .inl rfl
  ·exact .inr ⟨k,this.1,this.2,rfl⟩
theorem qe4 (l:List UInt8):(qas l).1<9223372036854775808/\(qas l).2<=l.length/\(qas l).2<=9:=by
 rcases qsV l with h|⟨i,h1,h2,h⟩
 ·rw [h];simp
 ·rw [h]
  have :=qmC l (i+1);have h3:(128:Nat)^(i+1)<=128^9:=Nat.pow_le_pow_right (by omega) (by omega);have h4:(128:Nat)^9=9223372036854775808:=by decide
  refine ⟨?_,?_,?_⟩<;>simp only<;>omega
theorem qmF {i:Nat} (h:i<9):(128:Nat)^i<=72057594037927936:=by
 have h3:(128:Nat)^i<=128^8:=Nat.pow_le_pow_right (by omega) (by omega);have h4:(128:Nat)^8=72057594037927936:=by decide
 omega
theorem qsW:∀ (n:Nat) (j:Nat),j+1<(qah n).length->128<=((qah n).getD j 0).toNat:=by
 intro n
 induction n using Nat.strongRecOn with
 |_ n ih=>
  intro j hj;by_cases h1:n<128
  ·rw [qdZ h1] at hj;simp at hj
  ·rw [qeh (by omega)] at hj ⊢
   cases j with
   |zero=>rw [List.getD_cons_zero,qei (by omega)];omega
   |succ j=>simpa using ih (n/128) (by omega) j (by simpa using hj)
theorem qsX:∀ (n:Nat),((qah n).getD ((qah n).length-1) 0).toNat<128/\(0<n->((qah n).getD ((qah n).length-1) 0).toNat≠0):=by
 intro n
 induction n using Nat.strongRecOn with
 |_ n ih=>
  by_cases h1:n<128
  ·rw [qdZ h1]
   have :=qei (n:=n) (by omega);simp only [List.length_singleton,List.getD_cons_zero,Nat.sub_self];omega
  ·rw [qeh (by omega)]
   have hp:=qfw (n/128);have :=ih (n/128) (by omega);rw [List.length_cons,show (qah (n/128)).length+1-1=((qah (n/128)).length-1)+1 by omega,List.getD_cons_succ];exact ⟨this.1,fun _=>this.2 (by omega)⟩
theorem qsY {n:Nat} (h:1<(qah n).length):0<n:=by
 rcases Nat.eq_zero_or_pos n with h0|h0
 ·subst h0
  rw [qdZ (by omega)] at h;simp at h
 ·exact h0
theorem qsZ:∀ n:Nat,qbc (qah n)=n:=by
 intro n
 induction n using Nat.strongRecOn with
 |_ n ih=>
  by_cases h1:n<128
  ·rw [qdZ h1,qbc,qbc,qei (by omega)];omega
  ·rw [qeh (by omega),qbc,ih (n/128) (by omega),qei (by omega)];omega
theorem qiS {a b:List UInt8} {j:Nat} (h:j<a.length):(a++b).getD j 0=a.getD j 0:=by
 rw [List.getD_eq_getElem?_getD,List.getD_eq_getElem?_getD,List.getElem?_append_left h]
theorem qmG {n:Nat} (h:n<9223372036854775808) (r:List UInt8):qas (qah n++r)=(n,(qah n).length):=by
 have hp:=qfw n;have h9:=qe3 h;have hl:=qsX n;rw [qmE (i:=(qah n).length-1) ?_ (by omega) (by simp;omega) ?_ ?_,show (qah n).length-1+1=(qah n).length by omega,List.take_left,qsZ]
 ·intro j hj
  rw [qiS (by omega)];exact qsW n j (by omega)
 ·rw [qiS (by omega)]
  exact hl.1
 ·by_cases h1:(qah n).length=1
  ·exact .inl (by omega)
  ·refine .inr ?_
   rw [qiS (by omega)];exact hl.2 (qsY (by omega))
theorem qmH:∀ {k:Nat} {l:List UInt8},l.length=k+1->qdw l k->(l.getD k 0).toNat<128->(k=0∨(l.getD k 0).toNat≠0)->qah (qbc l)=l/\((l.getD k 0).toNat≠0->0<qbc l)
 |0,[c],_,_,h,_=>by
  have hc:c.toNat<128:=by simpa using h
  have hv:qbc [c]=c.toNat:=by simp only [qbc];omega
  refine ⟨?_,fun h0=> ?_⟩
  ·rw [hv,qdZ hc]
   congr 1;exact UInt8.toNat_inj.1 (by rw [qei (by omega)])
  ·rw [hv]
   have :c.toNat≠0:=by simpa using h0
   omega
 |k+1,c::r,hl,hh,h,h0=>by
  have hc0:128<=c.toNat:=hh 0 (by omega);have hc1:=c.toNat_lt;have h0':(r.getD k 0).toNat≠0:=by
   rcases h0 with h0|h0
   ·omega
   ·simpa using h0
  have ih:=qmH (k:=k) (l:=r) (by simpa using hl) (fun j hj=>by simpa using hh (j+1) (by omega)) (by simpa using h) (.inr h0');have hv:qbc (c::r)=c.toNat-128+128*qbc r:=by simp only [qbc];omega
  have hpos:=ih.2 h0';refine ⟨?_,fun _=>by rw [hv];omega⟩;rw [hv,qeh (by omega),show (c.toNat-128+128*qbc r)/128=qbc r by omega,ih.1];congr 1;exact UInt8.toNat_inj.1 (by rw [qei (by omega)];omega)
def qbE (l:List UInt8) (a:Int):Int × Int × Int:=
 if a<0∨(l.length:Int)<a then (0,0,1)
 else if (qas (l.drop a.toNat)).2=0 then (0,0,2) else (((qas (l.drop a.toNat)).1:Int),a+((qas (l.drop a.toNat)).2:Int),0)
theorem qmI {l:List UInt8} {a:Int} (h:a<0∨(l.length:Int)<a):qbE l a=(0,0,1):=by unfold qbE;rw [if_pos h]
theorem qmJ {l:List UInt8} {a:Nat} (h:a<=l.length) (h2:(qas (l.drop a)).2=0):qbE l (a:Int)=(0,0,2):=by
 unfold qbE;rw [if_neg (by omega),Int.toNat_natCast,if_pos h2]
theorem qiT {l:List UInt8} {a n k:Nat} (h:a<=l.length) (h2:qas (l.drop a)=(n,k+1)):qbE l (a:Int)=((n:Int),(a:Int)+((k+1:Nat):Int),0):=by
 unfold qbE;rw [if_neg (by omega),Int.toNat_natCast,h2];simp
theorem qmK {n:Nat} (h:n<9223372036854775808) (b r:List UInt8):qbE (b++(qah n++r)) (b.length:Int)=((n:Int),((b.length+(qah n).length:Nat):Int),0):=by
 have hp:=qfw n;obtain ⟨k,hk⟩:∃ k,(qah n).length=k+1:=⟨(qah n).length-1,by omega⟩;rw [qiT (n:=n) (k:=k) (by simp) (by rw [List.drop_left,qmG h,hk]),hk];simp
def qak:Int->List Int->Bool
 |_,[]=>true
 |last,n::r=>decide (last<n)&&qak n r
def dB:Int->List Int->List UInt8
 |_,[]=>[]
 |last,n::r=>qah (n-(last+1)).toNat++dB n r
def qby (l:List Int):List UInt8:=qah l.length++dB (-1) l
theorem qiU:∀ (l:List Int) (last:Int), -1<=last->qak last l=true->(∀ x∈l,x<=9223372036854775807)->(dB last l).length<=9*l.length
 |[],_,_,_,_=>by simp [dB]
 |n::r,last,h,hr,hb=>by
  rw [qak,Bool.and_eq_true,decide_eq_true_iff] at hr;have hn:=hb n (by simp);rw [dB,List.length_append,List.length_cons];have h1:=qe3 (n:=(n-(last+1)).toNat) (by omega);have h2:=qiU r n (by omega) hr.2 fun x hx=>hb x (by simp [hx])
  omega
def qcp (l:List UInt8):Nat->Int->Nat->List Int->Option (List Int × Nat)
 |0,_,a,acc=>some (acc,a)
 |m+1,last,a,acc=>
  if (qas (l.drop a)).2=0∨4611686018427387904-(last+1)<((qas (l.drop a)).1:Int) then none
  else qcp l m (last+(((qas (l.drop a)).1:Int)+1)) (a+(qas (l.drop a)).2) (acc++[last+(((qas (l.drop a)).1:Int)+1)])
def qcR (l:List UInt8) (a:Int):List Int × Int × Int:=
 if (qbE l a).2.2=0 then
  match qcp l (qbE l a).1.toNat (-1) (qbE l a).2.1.toNat [] with
  |none=>([],0,2)
  |some (xs,b)=>(xs,(b:Int),0)
 else ([],0,(qbE l a).2.2)
theorem qmL:∀ (g:List Int) (last:Int) (pre post:List UInt8) (acc:List Int), -1<=last->qak last g=true->(∀ x∈g,x<=4611686018427387904)->
  qcp (pre++(dB last g++post)) g.length last pre.length acc=some (acc++g,pre.length+(dB last g).length)
 |[],last,pre,post,acc,_,_,_=>by simp [qcp,dB]
 |n::r,last,pre,post,acc,h,hr,hb=>by
  rw [qak,Bool.and_eq_true,decide_eq_true_iff] at hr;have hn:=hb n (by simp);have e:pre++(dB last (n::r)++post)=pre++(qah (n-(last+1)).toNat++(dB n r++post)):=by rw [dB,List.append_assoc]
  have hg:qas ((pre++(dB last (n::r)++post)).drop pre.length)=((n-(last+1)).toNat,(qah (n-(last+1)).toNat).length):=by
   rw [e,List.drop_left,qmG (by omega)]
  have hp:=qfw (n-(last+1)).toNat;rw [List.length_cons,qcp,hg];simp only;rw [if_neg (by omega),show last+(((n-(last+1)).toNat:Int)+1)=n by omega,e];have e2:pre++(qah (n-(last+1)).toNat++(dB n r++post))=(pre++qah (n-(last+1)).toNat)++(dB n r++post):=by rw [List.append_assoc]
  have ih:=qmL r n (pre++qah (n-(last+1)).toNat) post (acc++[n]) (by omega) hr.2 (fun x hx=>hb x (by simp [hx]));rw [e2,<- List.length_append,ih,dB];simp [Nat.add_assoc]
theorem qs0 {g:List Int} (hr:qak (-1) g=true) (hb:∀ x∈g,x<=4611686018427387904) (hl:g.length<9223372036854775808) (b r:List UInt8):
  qcR (b++(qby g++r)) (b.length:Int)=(g,((b.length+(qby g).length:Nat):Int),0):=by
 have hz:=qmK hl b (dB (-1) g++r);have e:b++(qby g++r)=b++(qah g.length++(dB (-1) g++r)):=by rw [qby,List.append_assoc]
 have e2:b++(qah g.length++(dB (-1) g++r))=(b++qah g.length)++(dB (-1) g++r):=by rw [List.append_assoc]
 have ht:=qmL g (-1) (b++qah g.length) r [] (by omega) hr hb;unfold qcR;rw [e,hz];simp only [if_true,Int.toNat_natCast];rw [e2,<- List.length_append,ht];simp [qby,Nat.add_assoc]
theorem qhi {α:Type} {R:α->α->Prop} (irr:∀ x,¬ R x x) (asym:∀ x y,R x y->¬ R y x):∀ {a b:List α},a.Pairwise R->b.Pairwise R->(∀ x,x∈a↔x∈b)->a=b
 |[],[],_,_,_=>rfl
 |[],y::b,_,_,h=>by have :=(h y).2 (List.mem_cons_self ..);simp at this
 |x::a,[],_,_,h=>by have :=(h x).1 (List.mem_cons_self ..);simp at this
 |x::a,y::b,ha,hb,h=>by
  rw [List.pairwise_cons] at ha hb;have hxy:x=y:=by
   rcases List.mem_cons.1 ((h x).1 (List.mem_cons_self ..)) with e|h1
   ·exact e
   ·rcases List.mem_cons.1 ((h y).2 (List.mem_cons_self ..)) with e|h2
    ·exact e.symm
    ·exact absurd (ha.1 y h2) (asym _ _ (hb.1 x h1))
  subst hxy;rw [qhi irr asym ha.2 hb.2 fun z=>⟨fun hz=> ?_,fun hz=> ?_⟩]
  ·rcases List.mem_cons.1 ((h z).1 (List.mem_cons_of_mem _ hz)) with e|h1
   ·exact absurd (ha.1 z hz) (e▸irr _)
   ·exact h1
  ·rcases List.mem_cons.1 ((h z).2 (List.mem_cons_of_mem _ hz)) with e|h1
   ·exact absurd (hb.1 z hz) (e▸irr _)
   ·exact h1
abbrev Pl:=Nat × Nat
def qaL (l:List (List Int)) (p:Pl):Int:=(l.getD p.1 []).getD p.2 0
def InO (l:List (List Int)) (p:Pl):Prop:=p.1<l.length/\p.2<(l.getD p.1 []).length
structure qcd (l:List (List Int)) (o:List Pl):Prop where
 rise:o.Pairwise fun p q=>qaL l p<qaL l q
 mem:∀ p,p∈o↔InO l p
theorem qcd.ext {l:List (List Int)} {a b:List Pl} (ha:qcd l a) (hb:qcd l b):a=b:=
 qhi (R:=fun p q=>qaL l p<qaL l q) (fun _ h=>Int.lt_irrefl _ h) (fun _ _ h k=>Int.lt_irrefl _ (Int.lt_trans h k)) ha.rise hb.rise fun p=>(ha.mem p).trans (hb.mem p).symm
def qdQ (l:List (List Int)):Prop:=∃ p q,InO l p/\InO l q/\qaL l p=qaL l q/\p≠q
theorem qcd.once {l:List (List Int)} {o:List Pl} (h:qcd l o):¬ qdQ l:=fun ⟨p,q,hp,hq,e,hn⟩=>by
 have h1:=(h.mem p).2 hp;have h2:=(h.mem q).2 hq;obtain ⟨i,hi,hi2⟩:=List.getElem_of_mem h1;obtain ⟨j,hj,hj2⟩:=List.getElem_of_mem h2;rcases Nat.lt_trichotomy i j with hij|hij|hij
 ·have :=List.pairwise_iff_getElem.1 h.rise i j hi hj hij
  rw [hi2,hj2,e] at this;exact Int.lt_irrefl _ this
 ·subst hij
  exact hn (hi2.symm.trans hj2)
 ·have :=List.pairwise_iff_getElem.1 h.rise j i hj hi hij
  rw [hi2,hj2,e] at this;exact Int.lt_irrefl _ this
inductive qej (l:List (List Int)):Int->List Pl->Prop
 |bad:¬ (∀ s∈l,qak (-1) s=true)->qej l 1 []
 |twice:(∀ s∈l,qak (-1) s=true)->qdQ l->qej l 5 []
 |ok {o:List Pl}:(∀ s∈l,qak (-1) s=true)->qcd l o->qej l 0 o
theorem qej.det {l:List (List Int)} {e f:Int} {a b:List Pl} (h:qej l e a) (k:qej l f b):e=f/\a=b:=by
 cases h with
 |bad h=>cases k with
  |bad _=>exact ⟨rfl,rfl⟩
  |twice k _=>exact absurd k h
  |ok k _=>exact absurd k h
 |twice h h2=>cases k with
  |bad k=>exact absurd h k
  |twice _ _=>exact ⟨rfl,rfl⟩
  |ok _ k2=>exact absurd h2 k2.once
 |ok h h2=>cases k with
  |bad k=>exact absurd h k
  |twice _ k2=>exact absurd k2 h2.once
  |ok _ k2=>exact ⟨rfl,h2.ext k2⟩
theorem qgA:∀ {l:List Int} {x:Int},qak x l=true->∀ i (hi:i<l.length),x<l[i]/\∀ j (hj:j<l.length),j<i->l[j]<l[i]
 |[],x,h,i,hi=>by simp at hi
 |y::l,x,h,i,hi=>by
  rw [qak,Bool.and_eq_true,decide_eq_true_eq] at h;cases i with
  |zero=>exact ⟨h.1,fun j _ hj=>by omega⟩
  |succ i=>
   obtain ⟨h1,h2⟩:=qgA h.2 i (by simpa using hi);refine ⟨by rw [zC];omega,fun j hj hji=> ?_⟩;cases j with
   |zero=>simpa using h1
   |succ j=>simpa using h2 j (by simpa using hj) (by omega)
theorem qfx {l:List (List Int)} {i k:Nat} (hi:i<l.length) (hk:k<l[i].length):qaL l (i,k)=l[i][k]:=by
 simp [qaL,List.getD_eq_getElem?_getD,List.getElem?_eq_getElem hi,List.getElem?_eq_getElem hk]
theorem qde {l:List (List Int)} {i k:Nat}:InO l (i,k)↔∃ hi:i<l.length,k<l[i].length:=by
 constructor
 ·rintro ⟨h1,h2⟩
  simp only at h1 h2;exact ⟨h1,by simpa [List.getD_eq_getElem?_getD,List.getElem?_eq_getElem h1] using h2⟩
 ·rintro ⟨h1,h2⟩
  exact ⟨h1,by simpa [List.getD_eq_getElem?_getD,List.getElem?_eq_getElem h1] using h2⟩
theorem qmM {l:List (List Int)} (hr:∀ s∈l,qak (-1) s=true) {i k m:Nat} (h:InO l (i,m)) (hk:k<m):qaL l (i,k)<qaL l (i,m):=by
 obtain ⟨hi,hm⟩:=qde.1 h;rw [qfx hi hm,qfx hi (by omega)];exact (qgA (hr _ (List.getElem_mem hi)) m hm).2 k (by omega) hk
theorem qmN {l:List (List Int)} (hr:∀ s∈l,qak (-1) s=true) {p:Pl} (h:InO l p): -1<qaL l p:=by
 obtain ⟨hi,hm⟩:=qde.1 h;rw [show p=(p.1,p.2) from rfl,qfx hi hm]
 exact (qgA (hr _ (List.getElem_mem hi)) _ hm).1
structure qdR (l:List (List Int)) (a:List Nat) (o:List Pl) (last:Int):Prop where
 len:a.length=l.length
 le:∀ i (hi:i<l.length),a.getD i 0<=l[i].length
 rise:o.Pairwise fun p q=>qaL l p<qaL l q
 mem:∀ p,p∈o↔p.1<l.length/\p.2<a.getD p.1 0
 low:∀ p∈o,qaL l p<=last
 lasts:last= -1∨∃ p∈o,qaL l p=last
 ahead:∀ p,InO l p->a.getD p.1 0<=p.2->last<=qaL l p
theorem qs1 {l:List (List Int)} (hr:∀ s∈l,qak (-1) s=true):qdR l (List.replicate l.length 0) [] (-1) where
 len:=by simp
 le:=fun i hi=>by simp [List.getD_eq_getElem?_getD,hi]
 rise:=List.Pairwise.nil
 mem:=fun p=>by
  constructor
  ·intro h;simp at h
  ·rintro ⟨h1,h2⟩
   simp [List.getD_eq_getElem?_getD,h1] at h2
 low:=fun p h=>by simp at h
 lasts:= .inl rfl
 ahead:=fun p hp _=>by have :=qmN hr hp;omega
theorem qdR.inO {l:List (List Int)} {a:List Nat} {o:List Pl} {last:Int} (h:qdR l a o last) {p:Pl} (hp:p∈o):InO l p:=by
 obtain ⟨h1,h2⟩:=(h.mem p).1 hp;exact qde.2 ⟨h1,Nat.lt_of_lt_of_le h2 (h.le _ h1)⟩
theorem qdR.done {l:List (List Int)} {a:List Nat} {o:List Pl} {last:Int} (h:qdR l a o last) (hd:∀ i (hi:i<l.length),l[i].length<=a.getD i 0):qcd l o:=
 ⟨h.rise,fun p=>⟨h.inO,fun hp=>(h.mem p).2 (by obtain ⟨h1,h2⟩:=qde.1 hp;exact ⟨h1,Nat.lt_of_lt_of_le h2 (hd _ h1)⟩)⟩⟩
theorem qdR.twice {l:List (List Int)} (hr:∀ s∈l,qak (-1) s=true) {a:List Nat} {o:List Pl} {last:Int} (h:qdR l a o last) {b:Nat} (hb:InO l (b,a.getD b 0)) (he:qaL l (b,a.getD b 0)=last):qdQ l:=by
 rcases h.lasts with e|⟨p,hp,e⟩
 ·have :=qmN hr hb;omega
 ·refine ⟨p,_,h.inO hp,hb,by rw [e,he],fun e=> ?_⟩
  have :=((h.mem p).1 hp).2;rw [e] at this;simp at this
theorem qdR.step {l:List (List Int)} (hr:∀ s∈l,qak (-1) s=true) {a:List Nat} {o:List Pl} {last:Int} (h:qdR l a o last) {b:Nat} (hb:InO l (b,a.getD b 0)) (hm:∀ i,InO l (i,a.getD i 0)->qaL l (b,a.getD b 0)<=qaL l (i,a.getD i 0)) (hn:qaL l (b,a.getD b 0)≠last):qdR l (a.set b (a.getD b 0+1)) (o++[(b,a.getD b 0)]) (qaL l (b,a.getD b 0)):=by
 obtain ⟨hb1,hb2⟩:=qde.1 hb;have hlt:last<qaL l (b,a.getD b 0):=by have :=h.ahead _ hb (Nat.le_refl _);omega
 have hba:b<a.length:=by rw [h.len];exact hb1
 have hset:∀ i,(a.set b (a.getD b 0+1)).getD i 0=if i=b then a.getD b 0+1 else a.getD i 0:=fun i=>by
  rw [List.getD_eq_getElem?_getD,List.getElem?_set];by_cases e:b=i
  ·subst e;simp [hba]
  ·rw [if_neg e,if_neg (fun e2=>e e2.symm),List.getD_eq_getElem?_getD (l:=a) (i:=i)]
 exact {
  len:=by rw [List.length_set];exact h.len
  le:=fun i hi=>by
   rw [hset];split
   ·rename_i e;subst e;omega
   ·exact h.le i hi
  rise:=List.pairwise_append.2 ⟨h.rise,List.pairwise_singleton ..,fun p hp q hq=>by
   rw [List.mem_singleton.1 hq];have :=h.low p hp;omega⟩
  mem:=fun p=>by
   rw [List.mem_append,List.mem_singleton,h.mem,hset];constructor
   ·rintro (⟨h1,h2⟩|rfl)
    ·refine ⟨h1,?_⟩
     split
     ·rename_i e;rw [e] at h2;omega
     ·exact h2
    ·exact ⟨hb1,by simp⟩
   ·rintro ⟨h1,h2⟩
    split at h2
    ·rename_i e
     by_cases e2:p.2=a.getD b 0
     ·exact .inr (by rw [<- e2,<- e])
     ·exact .inl ⟨h1,by rw [e];omega⟩
    ·exact .inl ⟨h1,h2⟩
  low:=fun p hp=>by
   rcases List.mem_append.1 hp with hp|hp
   ·have :=h.low p hp;omega
   ·rw [List.mem_singleton.1 hp];omega
  lasts:= .inr ⟨_,List.mem_append_right _ (List.mem_singleton.2 rfl),rfl⟩
  ahead:=fun p hp hle=>by
   rw [hset] at hle;split at hle
   ·rename_i e
    have :qaL l (b,a.getD b 0)<qaL l (b,p.2):=qmM hr (by rw [<- e];exact hp) (by omega);rw [<- e] at this ⊢;exact Int.le_of_lt this
   ·have h1:=qde.1 (show InO l (p.1,p.2) from hp)
    by_cases e2:p.2=a.getD p.1 0
    ·have :=hm p.1 (by rw [<- e2];exact hp)
     rwa [<- e2] at this
    ·have h2:=hm p.1 (qde.2 ⟨h1.1,by have :=h1.2;omega⟩)
     have h3:qaL l (p.1,a.getD p.1 0)<qaL l (p.1,p.2):=qmM hr hp (by omega);exact Int.le_of_lt (Int.lt_of_le_of_lt h2 h3)}
def qbi:List Pl->Nat->Int->Int->Int
 |[],_,_,_=> -1
 |p::o,j,i,k=>if (p.1:Int)=i/\(p.2:Int)=k then (j:Int) else qbi o (j+1) i k
abbrev GP:=Nm × List Pn
def qce:List GP->Nm->Pn->List GP
 |[],t,a=>[(t,[a])]
 |p::g,t,a=>if p.1=t then (p.1,p.2++[a])::g else p::qce g t a
def qbF:List GP->Nm->List Pn
 |[],_=>[]
 |p::g,t=>if p.1=t then p.2 else qbF g t
theorem qmO (t u:Nm) (a:Pn):∀ g:List GP,qbF (qce g t a) u=if t=u then qbF g u++[a] else qbF g u
 |[]=>by by_cases h:t=u<;>simp [qce,qbF,h]
 |p::g=>by
  rw [qce];by_cases h1:p.1=t
  ·rw [if_pos h1,qbF,qbF]
   by_cases h2:t=u
   ·rw [if_pos h2,if_pos (h1.trans h2),if_pos (h1.trans h2)]
   ·rw [if_neg h2,if_neg (fun e=>h2 (h1.symm.trans e)),if_neg (fun e=>h2 (h1.symm.trans e))]
  ·rw [if_neg h1,qbF,qbF,qmO t u a g]
   by_cases h2:p.1=u
   ·rw [if_pos h2,if_pos h2,if_neg (fun e=>h1 (h2.trans e.symm))]
   ·rw [if_neg h2,if_neg h2]
theorem qiV (t:Nm) (a:Pn):∀ g:List GP,(qce g t a).map (·.1)=if t∈g.map (·.1) then g.map (·.1) else g.map (·.1)++[t]
 |[]=>by simp [qce]
 |p::g=>by
  rw [qce];by_cases h1:p.1=t
  ·rw [if_pos h1,if_pos (by simp [h1])]
   simp
  ·rw [if_neg h1,List.map_cons,qiV t a g]
   by_cases h2:t∈g.map (·.1)
   ·rw [if_pos h2,if_pos (show t∈(p::g).map (·.1) from List.mem_cons_of_mem _ h2)]
    simp
   ·rw [if_neg h2,if_neg (by rw [List.map_cons,List.mem_cons];exact fun h=>h.elim (fun e=>h1 e.symm) h2)]
    simp
theorem qs2 {t:Nm} {a:Pn} {g:List GP} {x:Nm}:x∈(qce g t a).map (·.1)↔x∈g.map (·.1)∨x=t:=by
 rw [qiV];split
 ·rename_i h
  exact ⟨.inl,fun h'=>h'.elim id fun e=>e▸h⟩
 ·rw [List.mem_append,List.mem_singleton]
theorem qs3 {t:Nm} {a:Pn} {g:List GP} (h:(g.map (·.1)).Nodup):((qce g t a).map (·.1)).Nodup:=by
 rw [qiV];split
 ·exact h
 ·rename_i hn
  rw [List.nodup_append];exact ⟨h,by simp,fun x hx y hy e=>by rw [List.mem_singleton] at hy;subst hy;subst e;exact hn hx⟩
def qb1 (i:Nat) (d:List Fd) (g:List GP) (ts:List Tm):List GP:=ts.foldl (fun g t=>qce g (qaf t) ((i:Int),qa3 d t)) g
theorem qs4 {i:Nat} {d:List Fd} {g:List GP} {ts:List Tm} {k:Nat} (hk:k<ts.length):qb1 i d g (ts.take (k+1))=qce (qb1 i d g (ts.take k)) (qaf ts[k]) ((i:Int),qa3 d ts[k]):=by
 unfold qb1;rw [List.take_succ_eq_append_getElem hk,List.foldl_append];rfl
theorem qiW (i:Nat) (d:List Fd) (key:Nm):∀ (ts:List Tm) (g:List GP),qbF (qb1 i d g ts) key=qbF g key++qb0 i d ts key
 |[],g=>by simp [qb1,qb0]
 |t::ts,g=>by
  rw [show qb1 i d g (t::ts)=qb1 i d (qce g (qaf t) ((i:Int),qa3 d t)) ts from rfl,qiW i d key ts,qmO]
  unfold qb0;by_cases h:qaf t=key
  ·rw [if_pos h,List.filter_cons_of_pos (by simpa using h),List.map_cons,List.append_assoc]
   rfl
  ·rw [if_neg h,List.filter_cons_of_neg (by simpa using h)]
theorem qmP (i:Nat) (d:List Fd):∀ (ts:List Tm) (g:List GP),(g.map (·.1)).Nodup->((qb1 i d g ts).map (·.1)).Nodup
 |[],g,h=>h
 |t::ts,g,h=>qmP i d ts _ (qs3 h)
theorem qmQ (i:Nat) (d:List Fd) {x:Nm}:∀ (ts:List Tm) (g:List GP),x∈(qb1 i d g ts).map (·.1)↔x∈g.map (·.1)∨∃ t∈ts,qaf t=x
 |[],g=>by simp [qb1]
 |t::ts,g=>by
  rw [show qb1 i d g (t::ts)=qb1 i d (qce g (qaf t) ((i:Int),qa3 d t)) ts from rfl,qmQ i d ts,qs2]
  constructor
  ·rintro ((h|h)|⟨t',h1,h2⟩)
   ·exact .inl h
   ·exact .inr ⟨t,List.mem_cons_self ..,h.symm⟩
   ·exact .inr ⟨t',List.mem_cons_of_mem _ h1,h2⟩
  ·rintro (h|⟨t',h1,h2⟩)
   ·exact .inl (.inl h)
   ·rcases List.mem_cons.1 h1 with rfl|h1
    ·exact .inl (.inr h2.symm)
    ·exact .inr ⟨t',h1,h2⟩
structure qdS (g:List GP) (l:List En):Prop where
 posts:∀ key,qbF g key=qal 0 l key
 nodup:(g.map (·.1)).Nodup
 keys:∀ x,x∈g.map (·.1)↔x∈qag l
theorem qdS.nil:qdS [] []:=⟨fun _=>rfl,List.nodup_nil,fun x=>by simp [qag]⟩
theorem qdS.turned {g:List GP} {l:List En} (h:qdS g l) (q:En):qdS (qb1 l.length q.2.1 g (qaz q.2.1)) (l++[q]):=by
 refine ⟨fun key=> ?_,qmP _ _ _ _ h.nodup,fun x=> ?_⟩
 ·rw [qiW,h.posts,qmp,Nat.zero_add]
 ·rw [qmQ,h.keys,qeE,qeE]
  constructor
  ·rintro (⟨q',hq',h'⟩|h')
   ·exact ⟨q',List.mem_append_left _ hq',h'⟩
   ·exact ⟨q,by simp,h'⟩
  ·rintro ⟨q',hq',h'⟩
   rcases List.mem_append.1 hq' with hq'|hq'
   ·exact .inl ⟨q',hq',h'⟩
   ·rw [List.mem_singleton.1 hq'] at h';exact .inr h'
theorem qs5 (l:List En):(qag l).Nodup:=List.Pairwise.imp (fun h e=>by subst e;exact absurd h (List.lt_irrefl _)) (qgz l)
theorem qdS.perm {g:List GP} {l:List En} (h:qdS g l):(g.map (·.1)).Perm (qag l):=(List.perm_ext_iff_of_nodup h.nodup (qs5 l)).2 h.keys
theorem qdS.length {g:List GP} {l:List En} (h:qdS g l):g.length=(qag l).length:=by have :=h.perm.length_eq;rwa [List.length_map] at this
theorem qs6 {ks:List Nm} {l:List En} (h:ks.Perm (qag l)):ks.mergeSort (fun x y=>decide (x<=y))=qag l:=by
 have hp:=(List.mergeSort_perm ks (fun x y=>decide (x<=y))).trans h;have hs:(ks.mergeSort fun x y=>decide (x<=y)).Pairwise (fun x y:Nm=>x<=y):=by
  have :=List.pairwise_mergeSort (le:=fun x y:Nm=>decide (x<=y)) (fun a b c h1 h2=>by
   simp only [decide_eq_true_eq] at*;exact List.le_trans h1 h2) (fun a b=>by
   simp only [Bool.or_eq_true,decide_eq_true_eq];exact List.le_total a b) ks
  exact this.imp fun h=>by simpa using h
 refine hp.eq_of_pairwise (le:=fun x y:Nm=>x<=y) (fun a b _ _ h1 h2=>List.le_antisymm h1 h2) hs ((qgz l).imp fun h=>Std.le_of_lt h)
abbrev Po:=Int × List Int
def qcS (ps:List Int):Bool:=qak (-1) ps&&(!ps.isEmpty)&&decide (ps.getLastD 0<2147483648)
def qaS:Int->List Po->Bool
 |_,[]=>true
 |last,p::r=>decide (last<p.1)&&decide (p.1<2147483648)&&qcS p.2&&qaS p.1 r
theorem qfW {ps:List Int}:qcS ps=true↔qak (-1) ps=true/\ps≠[]/\ps.getLastD 0<2147483648:=by
 simp [qcS,and_assoc]
theorem qeF {last:Int} {p:Po} {r:List Po}:qaS last (p::r)=true↔last<p.1/\p.1<2147483648/\qcS p.2=true/\qaS p.1 r=true:=by
 simp [qaS,and_assoc]
theorem qiX:∀ {ps:List Int} {x:Int},qak x ps=true->∀ y∈ps,x<y/\y<=ps.getLastD 0
 |[],_,_=>by simp
 |n::r,x,h=>by
  rw [qak,Bool.and_eq_true,decide_eq_true_iff] at h;have ih:=qiX h.2;intro y hy;rcases List.mem_cons.1 hy with rfl|hy
  ·refine ⟨h.1,?_⟩
   cases r with
   |nil=>simp
   |cons m r'=>
    have :=ih m (by simp);have e:(y::m::r').getLastD 0=(m::r').getLastD 0:=by simp [List.getLastD]
    rw [e];omega
  ·have :=ih y hy
   refine ⟨by omega,?_⟩;cases r with
   |nil=>cases hy
   |cons m r'=>
    have e:(n::m::r').getLastD 0=(m::r').getLastD 0:=by simp [List.getLastD]
    rw [e];exact this.2
theorem qmR:∀ {l:List Int},l≠[]->l.getLastD 0∈l
 |[],h=>absurd rfl h
 |[a],_=>by simp
 |a::b::r,_=>by
  have e:(a::b::r).getLastD 0=(b::r).getLastD 0:=by simp [List.getLastD]
  rw [e];exact List.mem_cons_of_mem _ (qmR (l:=b::r) (by simp))
theorem qhj {ps:List Int} (h:qcS ps=true):∀ y∈ps,0<=y/\y<2147483648:=by
 obtain ⟨h1,_,h3⟩:=qfW.1 h;intro y hy;have :=qiX h1 y hy;omega
def qac:Int->List Po->List UInt8
 |_,[]=>[]
 |last,p::r=>qah (p.1-(last+1)).toNat++(qby p.2++qac p.1 r)
def qaE:Int->List Po->Int
 |last,[]=>last
 |_,p::r=>qaE p.1 r
theorem qe5:∀ (a b:List Po) (last:Int),qac last (a++b)=qac last a++qac (qaE last a) b
 |[],b,last=>rfl
 |p::r,b,last=>by simp [qac,qaE,qe5 r b p.1,List.append_assoc]
theorem qiY:∀ (a b:List Po) (last:Int),qaE last (a++b)=qaE (qaE last a) b
 |[],_,_=>rfl
 |p::r,b,_=>by simp [qaE,qiY r b p.1]
theorem qek:∀ (a b:List Po) (last:Int),qaS last (a++b)=(qaS last a&&qaS (qaE last a) b)
 |[],b,last=>by simp [qaS,qaE]
 |p::r,b,last=>by simp [qaS,qaE,qek r b p.1,Bool.and_assoc]
theorem qhk:∀ (l:List Po) (last:Int),qaS last l=true->last<=qaE last l
 |[],_,_=>Int.le_refl _
 |p::r,last,h=>by
  have :=qeF.1 h;have ih:=qhk r p.1 this.2.2.2;rw [qaE];omega
theorem qmS:∀ (l:List Po) (last:Int),qaS last l=true->last<2147483648->qaE last l<2147483648
 |[],_,_,h=>h
 |p::r,last,h,_=>by
  have :=qeF.1 h;exact qmS r p.1 this.2.2.2 this.2.1
def qav:List Po->Nat
 |[]=>0
 |p::r=>p.2.length+qav r
theorem qmT {ps:List Int} (h:qcS ps=true) (hl:ps.length<9223372036854775808):(qby ps).length<=9+9*ps.length:=by
 have hb:=qhj h;have h1:=qiU ps (-1) (by omega) (qfW.1 h).1 fun x hx=>by have :=hb x hx;omega
 have h2:=qe3 hl;rw [qby,List.length_append];omega
theorem qiZ:∀ (l:List Po) (last:Int), -1<=last->qaS last l=true->(∀ p∈l,p.2.length<9223372036854775808)->(qac last l).length<=18*l.length+9*qav l
 |[],_,_,_,_=>by simp [qac]
 |p::r,last,h0,h,hl=>by
  obtain ⟨h1,h2,h3,h4⟩:=qeF.1 h;have ih:=qiZ r p.1 (by omega) h4 fun q hq=>hl q (by simp [hq])
  have e1:=qe3 (n:=(p.1-(last+1)).toNat) (by omega);have e2:=qmT h3 (hl p (by simp));rw [qac,List.length_append,List.length_append,List.length_cons,qav];omega
theorem qs7 {pre post:List UInt8} {last d:Int} {ps:List Int} {r:List Po} (h0: -1<=last) (hd:last<d) (hd2:d<2147483648) (hp:qcS ps=true) (hl:ps.length<9223372036854775808):
  qbE (pre++(qac last ((d,ps)::r)++post)) (pre.length:Int)=(d-(last+1),((pre.length+(qah (d-(last+1)).toNat).length:Nat):Int),0)/\
  qcR (pre++(qac last ((d,ps)::r)++post)) ((pre.length+(qah (d-(last+1)).toNat).length:Nat):Int)=(ps,((pre.length+((qah (d-(last+1)).toNat).length+(qby ps).length):Nat):Int),0):=by
 have hb:=qhj hp;have e1:pre++(qac last ((d,ps)::r)++post)=pre++(qah (d-(last+1)).toNat++(qby ps++(qac d r++post))):=by simp [qac,List.append_assoc]
 have e2:pre++(qac last ((d,ps)::r)++post)=(pre++qah (d-(last+1)).toNat)++(qby ps++(qac d r++post)):=by simp [qac,List.append_assoc]
 refine ⟨?_,?_⟩
 ·rw [e1,qmK (by omega)]
  simp only [Prod.mk.injEq,and_true];omega
 ·have :=qs0 (g:=ps) (qfW.1 hp).1 (fun x hx=>by have :=hb x hx;omega) hl (pre++qah (d-(last+1)).toNat) (qac d r++post)
  rw [List.length_append] at this;rw [e2,this];simp [Nat.add_assoc]
def qaA (n:Nat):Nat:=(n+7)/8
def qbO (l:List Po) (k:Int):List Po:=if k<0 then [] else (l.drop (8*k.toNat)).take 8
theorem qs8 {l:List Po} {k:Int} (h:k<0):qbO l k=[]:=by unfold qbO;rw [if_pos h]
theorem qgB {l:List Po} (k:Nat):qbO l (k:Int)=(l.drop (8*k)).take 8:=by unfold qbO;rw [if_neg (by omega),Int.toNat_natCast]
theorem qs9 {l:List Po} {k:Nat} (h:qaA l.length<=k):qbO l (k:Int)=[]:=by
 rw [qgB,List.drop_eq_nil_of_le (by unfold qaA at h;omega)];rfl
theorem qi0 {l:List Po} (k:Nat):(qbO l (k:Int)).length=min 8 (l.length-8*k):=by rw [qgB,List.length_take,List.length_drop]
theorem qi1 (l:List Po) (k:Nat):l.take (8*(k+1))=l.take (8*k)++qbO l (k:Int):=by
 rw [qgB,Nat.mul_add,Nat.mul_one,List.take_add]
theorem qta {d:List Fd} (h:qdt d) (t:Tm):(qa3 d t).length=((qaW d).filter fun p=>decide (p.1=t)).length:=by
 rw [<- qmb h t];simp [qda]
theorem qmU {d:List Fd} (h:qdu d) {t:Tm} (ht:t∈qaz d):0<(qa3 d t).length:=by
 obtain ⟨p,hp,e⟩:=List.mem_map.1 ((qhd h.apart t).1 ht);rw [qta h.apart];exact List.length_pos_of_mem (List.mem_filter.2 ⟨hp,by simpa using e⟩)
theorem qtb {d:List Fd} (h:qdu d) (t:Tm):(qa3 d t).length<=500:=Nat.le_trans (qiC _ _ _) (h.wordsS _)
theorem qi2 {key:Nm}:∀ {l:List En} {i:Nat},(∃ q∈l,∃ t∈qaz q.2.1,qaf t=key)->0<(qal i l key).length
 |[],i,⟨q,hq,_⟩=>by cases hq
 |q::l,i,⟨x,hx,t,ht,e⟩=>by
  rw [qal,List.length_append];rcases List.mem_cons.1 hx with rfl|hx
  ·have :0<(qb0 i x.2.1 (qaz x.2.1) key).length:=by
    unfold qb0;rw [List.length_map];exact List.length_pos_of_mem (List.mem_filter.2 ⟨ht,by simpa using e⟩)
   omega
  ·have :=qi2 (i:=i+1) ⟨x,hx,t,ht,e⟩
   omega
theorem qmV {key:Nm} {p:Pn}:∀ {l:List En} {i:Nat},p∈qal i l key->∃ q∈l,∃ t∈qaz q.2.1,p.2=qa3 q.2.1 t
 |[],i,h=>by cases h
 |q::l,i,h=>by
  rw [qal] at h;rcases List.mem_append.1 h with h|h
  ·unfold qb0 at h
   obtain ⟨t,ht,rfl⟩:=List.mem_map.1 h;exact ⟨q,List.mem_cons_self ..,t,(List.mem_filter.1 ht).1,rfl⟩
  ·obtain ⟨x,hx,t,ht,e⟩:=qmV h
   exact ⟨x,List.mem_cons_of_mem _ hx,t,ht,e⟩
theorem qi3 {l:List En} (hg:qcP l) {key:Nm}:∀ p∈qal 0 l key,0<p.2.length/\p.2.length<=500:=fun p hp=>by
 obtain ⟨q,hq,t,ht,e⟩:=qmV hp;rw [e];exact ⟨qmU (hg q hq) ht,qtb (hg q hq) t⟩
theorem qi4 {i:Nat} {d:List Fd} (h:qe2 d) (key:Nm):qb0 i d (qaz d) key=[]∨∃ t∈qaz d,qb0 i d (qaz d) key=[((i:Int),qa3 d t)]:=by
 have h1:=qmg h;unfold qdE qaI at h1;rw [List.pairwise_map] at h1;have h2:=h1.filter (fun t=>decide (qaf t=key));unfold qb0
 match hs:(qaz d).filter fun t=>decide (qaf t=key) with
 |[]=>exact .inl rfl
 |[t]=>exact .inr ⟨t,(List.mem_filter.1 (hs▸List.mem_singleton_self t)).1,rfl⟩
 |t::u::s=>
  rw [hs] at h2;have h3:=(List.pairwise_cons.1 h2).1 u (List.mem_cons_self ..);have mt:t∈(qaz d).filter fun t=>decide (qaf t=key):=by rw [hs];exact List.mem_cons_self ..
  have mu:u∈(qaz d).filter fun t=>decide (qaf t=key):=by rw [hs];exact List.mem_cons_of_mem _ (List.mem_cons_self ..)
  have ht:qaf t=key:=by simpa using (List.mem_filter.1 mt).2
  have hu:qaf u=key:=by simpa using (List.mem_filter.1 mu).2
  rw [ht,hu] at h3;exact absurd h3 (List.lt_irrefl _)
theorem qgC {l:List En} (hg:qcP l) {key:Nm}:∀ (m:List En) (i:Nat),(∀ q∈m,q∈l)->(qal i m key).length<=m.length
 |[],i,_=>by simp [qal]
 |q::m,i,h=>by
  have ih:=qgC hg (key:=key) m (i+1) fun x hx=>h x (List.mem_cons_of_mem _ hx)
  rw [qal,List.length_append,List.length_cons];rcases qi4 (i:=i) (hg q (h q (List.mem_cons_self ..))).zero key with e|⟨t,_,e⟩<;>rw [e]<;>simp <;>omega
theorem qfX:∀ {ps:List Int} {x:Int},ps.Pairwise (· <·)->(∀ a∈ps,x<a)->qak x ps=true
 |[],x,_,_=>rfl
 |p::ps,x,h,hx=>by
  rw [List.pairwise_cons] at h;rw [qak,qfX h.2 h.1,Bool.and_true];exact decide_eq_true (hx p (List.mem_cons_self ..))
theorem qtc {d:List Fd} (h:qdu d) {t:Tm} (ht:t∈qaz d):qcS (qa3 d t)=true:=by
 have h0:=qmU h ht;have hne:qa3 d t≠[]:=fun e=>by rw [e] at h0;cases h0
 rw [qfW];refine ⟨qfX (qiM _ _ _) fun a ha=> ?_,hne,?_⟩
 ·have :=qhe _ _ _ a ha
  omega
 ·have hm:(qa3 d t).getLastD 0∈qa3 d t:=by
   rw [List.getLastD_eq_getLast?,List.getLast?_eq_some_getLast hne];exact List.getLast_mem hne
  obtain ⟨k,hk,hk2⟩:=(qmk _ _ _ _).1 hm;have hl:=(List.getElem?_eq_some_iff.1 hk2).1;have :=h.wordsS t.1;rw [hk];omega
theorem qi5 {key:Nm}:∀ {l:List En} {i:Nat} {last:Int},qcP l->last<i->i+l.length<=2147483648->qaS last (qal i l key)=true
 |[],i,last,_,_,_=>rfl
 |q::l,i,last,hg,hl,hi=>by
  have hq:=hg q (List.mem_cons_self ..);rw [List.length_cons] at hi;have ih:=fun (last:Int) (h:last<((i+1:Nat):Int))=>qi5 (key:=key) (l:=l) (i:=i+1) (last:=last) (fun x hx=>hg x (List.mem_cons_of_mem _ hx)) h (by omega)
  rw [qal];rcases qi4 (i:=i) hq.zero key with e|⟨t,ht,e⟩
  ·rw [e,List.nil_append]
   exact ih last (by push_cast;omega)
  ·rw [e,List.singleton_append,qeF]
   exact ⟨hl,by show (i:Int)<2147483648;omega,qtc hq ht,ih _ (by push_cast;omega)⟩
structure qbj where
 ids:List Int
 seqs:List Int
 keys:List Nm
 lists:List (List Pn)
deriving DecidableEq
def qcz (n:Nat) (l:List Pn):Bool:=qaS (-1) l&&(decide (l.length≠0)&&decide (∀ p,l.getLast?=some p->p.1<(n:Int)))
def qd0 (x:qbj):Bool:=decide (x.ids.length=x.seqs.length)&&(decide (x.keys.length=x.lists.length)&&(qak (-1) x.seqs&&(qc8 x.keys&&x.lists.all (qcz x.ids.length))))
def qad (l:List En):qbj:=⟨l.map (·.1),l.map (·.2.2),qag l,(qag l).map fun k=>qal 0 l k⟩
def atP:List Nm->List (List Pn)->Nm->List Pn
 |k::ks,l::ls,key=>if k=key then l else atP ks ls key
 |_,_,_=>[]
theorem qmW {key:Nm}:∀ {ks:List Nm} {ls:List (List Pn)},(∀ k∈ks,k≠key)->atP ks ls key=[]
 |[],_,_=>by simp [atP]
 |k::ks,[],_=>by simp [atP]
 |k::ks,l::ls,h=>by rw [atP,if_neg (h k (List.mem_cons_self ..)),qmW fun x hx=>h x (List.mem_cons_of_mem _ hx)]
theorem qmX {key:Nm}:∀ {ks:List Nm} {ls:List (List Pn)} {i:Nat} (hi:i<ks.length) (hl:i<ls.length),ks[i]=key->(∀ j (hj:j<ks.length),j<i->ks[j]≠key)->atP ks ls key=ls[i]
 |[],_,i,hi,_,_,_=>by simp at hi
 |k::ks,[],i,_,hl,_,_=>by simp at hl
 |k::ks,l::ls,0,_,_,h,_=>by simp at h;simp [atP,h]
 |k::ks,l::ls,i+1,hi,hl,h,hn=>by
  have h0:=hn 0 (by simp) (by omega);simp at h0;rw [atP,if_neg h0];simpa using qmX (ks:=ks) (ls:=ls) (i:=i) (by simpa using hi) (by simpa using hl) (by simpa using h) fun j hj hji=>by
   have :=hn (j+1) (by simpa using hj) (by omega);rw [zC] at this;exact this
def qd1 (x:qbj) (key:Nm):List Pn:=atP x.keys x.lists key
theorem qmY (f:Nm->List Pn) (key:Nm):∀ ks:List Nm,atP ks (ks.map f) key=if key∈ks then f key else []
 |[]=>by simp [atP]
 |k::ks=>by
  rw [List.map_cons,atP,qmY f key ks];by_cases h:k=key
  ·rw [if_pos h,if_pos (by rw [h];exact List.mem_cons_self ..),h]
  ·rw [if_neg h]
   by_cases h2:key∈ks
   ·rw [if_pos h2,if_pos (List.mem_cons_of_mem _ h2)]
   ·rw [if_neg h2,if_neg (fun e=>(List.mem_cons.1 e).elim (fun e=>h e.symm) h2)]
theorem qi6 {key:Nm}:∀ {l:List En} {i:Nat},(∀ q∈l,∀ t∈qaz q.2.1,qaf t≠key)->qal i l key=[]
 |[],i,_=>rfl
 |q::l,i,h=>by
  rw [qal,qi6 fun x hx=>h x (List.mem_cons_of_mem _ hx),List.append_nil];unfold qb0;rw [List.filter_eq_nil_iff.2 fun t ht=>by simpa using h q (List.mem_cons_self ..) t ht];rfl
theorem qtd (l:List En) (key:Nm):qd1 (qad l) key=qal 0 l key:=by
 unfold qd1 qad;rw [qmY];split
 ·rfl
 ·rename_i h
  exact (qi6 fun q hq t ht e=>h (qeE.2 ⟨q,hq,t,ht,e⟩)).symm
def qbf (r:List Bool):List Nat:=(List.range r.length).filter fun k=>r.getD k false
def qi7 (x:qbj) (r:List Bool):List Int:=(qbf r).map fun k=>x.seqs.getD k 0
def qa4 (Ls:List (List En)) (p:Pl):En:=(Ls.getD p.1 []).getD p.2 (0,[],0)
def InE (Ls:List (List En)) (p:Pl):Prop:=p.1<Ls.length/\p.2<(Ls.getD p.1 []).length
theorem qi8 {key:Nm} {l:List En} {i:Nat}:qal i l key≠[]↔∃ q∈l,∃ t∈qaz q.2.1,qaf t=key:=by
 constructor
 ·intro h
  apply Classical.byContradiction;intro hn;exact h (qi6 fun q hq t ht e=>hn ⟨q,hq,t,ht,e⟩)
 ·intro h e
  have :=qi2 (i:=i) h;rw [e] at this;simp at this
end Go.Proofs.YtpehcaidjlemiaaGreatDoor
