import Derived.Test.YtmoomnpbiifedaaGreatMBQ06
import Derived.Deep.SlicePairs
import Derived.ProofKit
import Derived.OpenShut
import Derived.Test.YtmoomnpbiifedaaGreatMBQ07
namespace Go.Proofs.YtmoomnpbiifedaaGreat
open Go Go.RowKit Go.ChangeShapes Go.WideShapes Go.ChangeAt
set_option linter.unusedVariables false
def InFlds (w:World) (a:Option Addr) (len cap:Nat) (l:List Fd):Prop:=
 len≤cap∧cap≤maxLen∧l.length=len∧FRow w w.heap.size a l∧∀ f∈l,f.1.length≤maxLen∧f.2.length≤maxLen
theorem field_cells:Tryz.prog.cellsOf 99=2:=by kernel_rfl
theorem str_cells:Tryz.prog.cellsOf 9=1:=by kernel_rfl
theorem flds_range {f:Nat→Fd} {V0 V1:Nat→Value} {w:World} {b off n:Nat} (h:∀ i,i<n→V0 i= .string ⟨(f i).1.toArray⟩∧V1 i= .string ⟨(f i).2.toArray⟩)
  (hc:∀ i,i<n→w.cell? ⟨b,off+i*2,none⟩=some (V0 i)∧w.cell? ⟨b,off+(i*2+1),none⟩=some (V1 i)):
  ∀ k,k≤n→∀ j u,(flds ((List.range k).map f))[j]?=some u→w.cell? ⟨b,off+j,none⟩=some u
 |0,_,j,u,hu=>by simp [flds] at hu
 |k+1,hk,j,u,hu=>by
  rw [List.range_succ,List.map_append,flds_append] at hu
  have hl:(flds ((List.range k).map f)).length=k*2:=by rw [flds_length,List.length_map,List.length_range]
  by_cases hj:j<k*2
  ·rw [List.getElem?_append_left (by rw [hl];exact hj)] at hu
   exact flds_range h hc k (by omega) j u hu
  ·rw [List.getElem?_append_right (by rw [hl];omega),hl] at hu
   obtain ⟨h0,h1⟩:=h k (by omega)
   obtain ⟨c0,c1⟩:=hc k (by omega)
   rcases hq:j-k*2 with _|_|q
   ·rw [hq] at hu
    simp [flds] at hu
    rw [show j=k*2 by omega,c0,h0,hu]
   ·rw [hq] at hu
    simp [flds] at hu
    rw [show j=k*2+1 by omega,c1,h1,hu]
   ·rw [hq] at hu
    simp [flds] at hu
theorem in_flds {H:Type} {enc:TypeId × Value→H} {W:World} {fuel:Nat} {a:Option Addr} {len cap:Nat} {x:DataW H × List MemPlace}
  (h:DataW.trod enc Tryz.prog W 0 (fun _=>true) true fuel 51 [Value.slice a len cap]=some x):∃ l,InFlds W a len cap l:=by
 rcases Deep.open_slice_pairs Tryz.underlying51 Tryz.underlying99 field_cells rfl rfl str_cells str_cells h with ⟨hcs,_⟩|⟨ad,l,c,m,n,V0,V1,D0,D1,P0,P1,hcs,_,hl,hm,hmm,_,hx⟩
 ·simp at hcs
  obtain ⟨rfl,rfl,rfl⟩:=hcs
  exact ⟨[],Nat.le_refl _,Nat.zero_le _,rfl,FRow.nil,fun p hp=>by cases hp⟩
 ·simp at hcs
  obtain ⟨rfl,rfl,rfl⟩:=hcs
  simp only [if_true] at hmm
  subst hmm
  have each:∀ i,i<m→∃ q:Fd,(V0 i= .string ⟨q.1.toArray⟩∧V1 i= .string ⟨q.2.toArray⟩)∧q.1.length≤maxLen∧q.2.length≤maxLen:=fun i hi=>by
   obtain ⟨_,_,g0,g1⟩:=hx i hi
   obtain ⟨s0,e0,_,k0⟩:=DataW.trod_string Tryz.underlying9 g0
   obtain ⟨s1,e1,_,k1⟩:=DataW.trod_string Tryz.underlying9 g1
   simp only [List.cons.injEq,and_true] at e0 e1
   refine ⟨(s0.data.toList,s1.data.toList),⟨e0,e1⟩,?_,?_⟩
   ·show s0.data.toList.length≤maxLen
    rw [Array.length_toList]
    exact k0
   ·show s1.data.toList.length≤maxLen
    rw [Array.length_toList]
    exact k1
  obtain ⟨f,hf⟩:=Deep.choose_lt each
  by_cases h0:m=0
  ·have hl0:len=0:=by omega
   subst hl0
   exact ⟨[],hl,hm,rfl,FRow.nil,fun p hp=>by cases hp⟩
  ·obtain ⟨c00,_,_,_⟩:=hx 0 (by omega)
   obtain ⟨b,off,spot⟩:=ad
   have hs:spot=none:=by simpa [Addr.add] using World.cell?_spot c00
   subst hs
   have hblt:b<W.heap.size:=by simpa [Addr.add_lit] using World.block_lt_of_cell? W _ c00
   refine ⟨(List.range len).map f,hl,hm,by simp,.inr ⟨b,off,rfl,hblt,flds_range (n:=m) (fun i hi=>(hf i hi).1) (fun i hi=> ?_) len hl⟩,fun p hp=> ?_⟩
   ·obtain ⟨g0,g1,_,_⟩:=hx i hi
    rw [Addr.add_lit] at g0 g1
    exact ⟨g0,g1⟩
   ·obtain ⟨i,hi,rfl⟩:=List.mem_map.1 hp
    have hil:=List.mem_range.1 hi
    exact (hf i (by omega)).2
theorem in_flds_any {H:Type} {enc:TypeId × Value→H} {W:World} {fuel:Nat} {v:Value} {x:DataW H × List MemPlace}
  (h:DataW.trod enc Tryz.prog W 0 (fun _=>true) true fuel 51 [v]=some x):∃ a len cap l,v= .slice a len cap∧InFlds W a len cap l:=by
 have hv:∃ a len cap,v= .slice a len cap:=by
  rcases Deep.open_slice_pairs Tryz.underlying51 Tryz.underlying99 field_cells rfl rfl str_cells str_cells h with ⟨hcs,_⟩|⟨ad,l,c,m,n,V0,V1,D0,D1,P0,P1,hcs,_⟩
  ·simp only [List.cons.injEq,and_true] at hcs
   exact ⟨_,_,_,hcs⟩
  ·simp only [List.cons.injEq,and_true] at hcs
   exact ⟨_,_,_,hcs⟩
 obtain ⟨a,len,cap,rfl⟩:=hv
 obtain ⟨l,hl⟩:=in_flds h
 exact ⟨a,len,cap,l,rfl,hl⟩
theorem doc_cells:Tryz.prog.cellsOf 53=2:=by kernel_rfl
end Go.Proofs.YtmoomnpbiifedaaGreat
namespace Go.Proofs.YtmoomnpbiifedaaGreat
open Go Go.RowKit Go.ChangeShapes Go.WideShapes Go.ChangeAt
set_option linter.unusedVariables false
def catTo (V:Nat→List Value):Nat→List Value
 |0=>[]
 |k+1=>catTo V k++V k
theorem catTo_length {V:Nat→List Value} {z n:Nat} (hz:∀ i,i<n→(V i).length=z):∀ k,k≤n→(catTo V k).length=k*z
 |0,_=>by simp [catTo]
 |k+1,hk=>by rw [catTo,List.length_append,catTo_length hz k (by omega),hz k (by omega),Nat.add_mul,Nat.one_mul]
theorem catTo_row {w:World} {b off z n:Nat} {V:Nat→List Value} (hz:∀ i,i<n→(V i).length=z) (h:∀ i,i<n→∀ j u,(V i)[j]?=some u→w.cell? ⟨b,off+(i*z+j),none⟩=some u):
  ∀ k,k≤n→∀ j u,(catTo V k)[j]?=some u→w.cell? ⟨b,off+j,none⟩=some u
 |0,_,j,u,hu=>by simp [catTo] at hu
 |k+1,hk,j,u,hu=>by
  rw [catTo] at hu
  have hl:=catTo_length hz k (by omega)
  by_cases hj:j<k*z
  ·rw [List.getElem?_append_left (by rw [hl];exact hj)] at hu
   exact catTo_row hz h k (by omega) j u hu
  ·rw [List.getElem?_append_right (by rw [hl];omega),hl] at hu
   have :=h k (by omega) _ _ hu
   rwa [show k*z+(j-k*z)=j by omega] at this
theorem catTo_nest {α:Type} {s:Shape α} {R:Option Addr→List Value→Prop} {V:Nat→List Value} {f:Nat→α} {n:Nat}
  (h:∀ i,i<n→∃ A c,V i=s.pre (f i)++(.slice A (s.mid (f i)).length c::s.post (f i))∧(s.mid (f i)).length≤c∧c≤maxLen∧R A (flds (s.mid (f i)))):∀ k,k≤n→NestC s R ((List.range k).map f) (catTo V k)
 |0,_=>rfl
 |k+1,hk=>by
  have ih:=catTo_nest h k (by omega)
  obtain ⟨A,c,h1,h2,h3,h4⟩:=h k (by omega)
  rw [List.range_succ,List.map_append,catTo,h1]
  exact ih.snoc h2 h3 h4
def InNest {α:Type} (s:Shape α) (good:α→Prop) (w:World) (a:Option Addr) (len cap:Nat) (l:List α):Prop:=
 len≤cap∧cap≤maxLen∧l.length=len∧Nest s w w.heap.size a l∧∀ q∈l,good q
theorem in_nest {α:Type} [Inhabited α] {H:Type} {enc:TypeId × Value→H} {W:World} (s:Shape α) (good:α→Prop) {t e:TypeId} (ht:Tryz.prog.underlying t=some (.slice e)) (ce:Tryz.prog.cellsOf e=s.size)
  (open1:∀ {fuel:Nat} {cs:List Value} {x:DataW H × List MemPlace},DataW.trod enc Tryz.prog W 0 (fun _=>true) true fuel e cs=some x→
   ∃ (q:α) (A:Option Addr) (c:Nat),cs=s.pre q++(.slice A (s.mid q).length c::s.post q)∧(s.mid q).length≤c∧c≤maxLen∧FRow W W.heap.size A (s.mid q)∧good q)
  {fuel:Nat} {a:Option Addr} {len cap:Nat} {x:DataW H × List MemPlace} (h:DataW.trod enc Tryz.prog W 0 (fun _=>true) true fuel t [Value.slice a len cap]=some x):∃ l,InNest s good W a len cap l:=by
 rcases Deep.open_slice ht h with ⟨hcs,_⟩|⟨ad,l,c,m,n,D,Pl,hcs,_,hl,hm,hmm,_,hx⟩
 ·simp at hcs
  obtain ⟨rfl,rfl,rfl⟩:=hcs
  exact ⟨[],Nat.le_refl _,Nat.zero_le _,rfl,NestP.nil,fun p hp=>by cases hp⟩
 ·simp at hcs
  obtain ⟨rfl,rfl,rfl⟩:=hcs
  simp only [if_true] at hmm
  subst hmm
  have each:∀ i,i<m→∃ q:α × List Value,(∃ A c,q.2=s.pre q.1++(.slice A (s.mid q.1).length c::s.post q.1)∧(s.mid q.1).length≤c∧c≤maxLen∧Row W W.heap.size A (flds (s.mid q.1)))∧good q.1∧q.2.length=s.size∧
    ∀ j u,q.2[j]?=some u→W.cell? (ad.add (i*s.size+j))=some u:=fun i hi=>by
   obtain ⟨cs',h1,h2⟩:=hx i hi
   obtain ⟨_,hlen,hcell⟩:=World.cells?_some h1
   obtain ⟨q,A,c,e1,e2,e3,e4,e5⟩:=open1 h2
   rw [ce] at hlen
   refine ⟨(q,cs'),⟨A,c,e1,e2,e3,e4⟩,e5,hlen,fun j u hu=> ?_⟩
   have hj:j<s.size:=by
    rcases Nat.lt_or_ge j s.size with h|h
    ·exact h
    ·rw [List.getElem?_eq_none (by rw [hlen];exact h)] at hu;cases hu
   have :=hcell j (by rw [ce];exact hj)
   rw [Deep.add_add,ce] at this
   rw [this]
   exact hu
  obtain ⟨f,hf⟩:=Deep.choose_lt each
  by_cases h0:m=0
  ·have hl0:len=0:=by omega
   subst hl0
   exact ⟨[],hl,hm,rfl,NestP.nil,fun p hp=>by cases hp⟩
  ·obtain ⟨_,_,hl0,hc0⟩:=hf 0 (by omega)
   obtain ⟨u0,hu0⟩:∃ u,(f 0).2[0]?=some u:=⟨_,List.getElem?_eq_getElem (by rw [hl0];unfold Shape.size;omega)⟩
   have c00:=hc0 0 u0 hu0
   obtain ⟨b,off,spot⟩:=ad
   have hs:spot=none:=by simpa [Addr.add] using World.cell?_spot c00
   subst hs
   have hblt:b<W.heap.size:=by simpa [Addr.add_lit] using World.block_lt_of_cell? W _ c00
   refine ⟨(List.range len).map fun i=>(f i).1,hl,hm,by simp,⟨catTo (fun i=>(f i).2) len,catTo_nest (n:=m) (fun i hi=>(hf i hi).1) len hl,.inr ⟨b,off,rfl,hblt,catTo_row (n:=m) (z:=s.size) (fun i hi=>(hf i hi).2.2.1) (fun i hi j u hu=> ?_) len hl⟩⟩,fun p hp=> ?_⟩
   ·have :=(hf i hi).2.2.2 j u hu
    rwa [Addr.add_lit] at this
   ·obtain ⟨i,hi,rfl⟩:=List.mem_map.1 hp
    have hil:=List.mem_range.1 hi
    exact (hf i (by omega)).2.1
def InFd (l:List Fd):Prop:=∀ f∈l,f.1.length≤maxLen∧f.2.length≤maxLen
theorem open_doc {H:Type} {enc:TypeId × Value→H} {W:World} {fuel:Nat} {cs:List Value} {x:DataW H × List MemPlace} (h:DataW.trod enc Tryz.prog W 0 (fun _=>true) true fuel 53 cs=some x):
  ∃ (q:Dc) (A:Option Addr) (c:Nat),cs=[.int .i64 q.1,.slice A q.2.length c]∧q.2.length≤c∧c≤maxLen∧FRow W W.heap.size A q.2∧InFd q.2:=by
 obtain ⟨y0,y1,n,_,hl,g0,g1⟩:=trod_struct2 Tryz.underlying53 h
 rw [doc_cells] at hl
 obtain ⟨v0,v1,rfl⟩:∃ v0 v1,cs=[v0,v1]:=by
  rcases cs with _|⟨v0,_|⟨v1,_|⟨v2,cs⟩⟩⟩
  ·cases hl
  ·cases hl
  ·exact ⟨_,_,rfl⟩
  ·simp only [List.length_cons] at hl;omega
 ·have ci:Tryz.prog.cellsOf 3=1:=by kernel_rfl
  have cf:Tryz.prog.cellsOf 51=1:=by kernel_rfl
  simp [ci] at g0
  simp [cf] at g1
  obtain ⟨d,e0,_,_⟩:=DataW.trod_int Tryz.underlying3 g0
  obtain ⟨a,len,cap,l,rfl,h1,h2,h3,h4,h5⟩:=in_flds_any g1
  simp only [List.cons.injEq,and_true] at e0
  subst e0
  exact ⟨(d,l),a,cap,by rw [h3],by rw [h3];exact h1,h2,h4,h5⟩
abbrev InDocs:=InNest docS (fun q=>InFd q.2)
theorem in_docs {H:Type} {enc:TypeId × Value→H} {W:World} {fuel:Nat} {a:Option Addr} {len cap:Nat} {x:DataW H × List MemPlace}
  (h:DataW.trod enc Tryz.prog W 0 (fun _=>true) true fuel 27 (Value.slice a len cap).cells.toList=some x):∃ l,InDocs W a len cap l:=
 in_nest docS (fun q=>InFd q.2) Tryz.underlying27 doc_cells (fun h=>open_doc h) (by simpa [Value.cells] using h)
end Go.Proofs.YtmoomnpbiifedaaGreat
