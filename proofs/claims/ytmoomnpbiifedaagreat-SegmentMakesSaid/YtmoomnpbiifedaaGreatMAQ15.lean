import Derived.Test.YtmoomnpbiifedaaGreatMAQ03
import Derived.Deep.SlicePairs
import Derived.ProofKit
import Derived.OpenShut
import Derived.SliceStrings
import Derived.Test.YtmoomnpbiifedaaGreatMAQ08
import Derived.Test.YtmoomnpbiifedaaGreatMAQ06
import Derived.Shelf.SlSorted.Search
import Derived.BigCall
import Derived.BigQuiet
import Derived.Deep.QuietTactic
import Derived.Test.YtmoomnpbiifedaaGreatMAQ09
import Derived.Test.YtmoomnpbiifedaaGreatMAQ01
import Derived.Deep.RegionLaw
import Derived.Deep.RegionHeld3
import Derived.Deep.AppendLies
namespace Go.Proofs.YtmoomnpbiifedaaGreat
open Go Go.RowKit Go.ChangeShapes Go.WideShapes Go.ChangeAt
set_option linter.unusedVariables false
def InStrs (w:World) (a:Option Addr) (len cap:Nat) (xs:List Nm):Prop:=
 len≤cap∧cap≤maxLen∧xs.length=len∧Row w w.heap.size a (strs xs)∧∀ x∈xs,x.length≤maxLen
theorem string_cells:Tryz.prog.cellsOf 9=1:=by kernel_rfl
theorem in_strs {H:Type} {enc:TypeId × Value→H} {W:World} {fuel:Nat} {a:Option Addr} {len cap:Nat} {x:DataW H × List MemPlace}
  (h:DataW.trod enc Tryz.prog W 0 (fun _=>true) true fuel 23 [Value.slice a len cap]=some x):∃ xs,InStrs W a len cap xs:=by
 rcases open_strings Tryz.underlying23 Tryz.underlying9 string_cells h with ⟨hcs,_⟩|⟨ad,l,c,ss,hcs,_,hl,hm,hss,_,hcell,hwf⟩
 ·simp only [List.cons.injEq,and_true] at hcs
  injection hcs with h1 h2 h3
  subst h1 h2 h3
  exact ⟨[],Nat.le_refl _,Nat.zero_le _,rfl,.inl rfl,fun x hx=>by cases hx⟩
 ·simp only [List.cons.injEq,and_true] at hcs
  injection hcs with h1 h2 h3
  subst h1 h2 h3
  simp only [if_true] at hss
  refine ⟨(ss.take len).map fun s=>s.data.toList,hl,hm,by rw [List.length_map,List.length_take];omega,?_,fun x hx=> ?_⟩
  ·by_cases h0:ss.length=0
   ·have :ss=[]:=List.eq_nil_of_length_eq_zero h0
    subst this
    exact .inl (by simp [strs])
   ·have hc0:=hcell 0 (by omega)
    obtain ⟨b,off,spot⟩:=ad
    have hs:spot=none:=by simpa [Addr.add] using World.cell?_spot hc0
    subst hs
    refine .inr ⟨b,off,rfl,by simpa [Addr.add_lit] using World.block_lt_of_cell? W _ hc0,fun j u hu=> ?_⟩
    simp only [strs,List.map_map] at hu
    rw [List.getElem?_map,List.getElem?_take] at hu
    split at hu
    ·obtain ⟨y,hy,rfl⟩:=Option.map_eq_some_iff.1 hu
     have hj:j<ss.length:=(List.getElem?_eq_some_iff.1 hy).1
     have :=hcell j hj
     rw [Addr.add_lit] at this
     rw [this,List.getD_eq_getElem?_getD,hy]
     simp
    ·cases hu
  ·obtain ⟨s,hs,rfl⟩:=List.mem_map.1 hx
   rw [Array.length_toList]
   exact hwf s (List.mem_of_mem_take hs)
end Go.Proofs.YtmoomnpbiifedaaGreat
namespace Go.Proofs.YtmoomnpbiifedaaGreat
open Go Go.RowKit Go.ChangeShapes Go.WideShapes Go.ChangeAt
set_option linter.unusedVariables false
def cellsTo (V0 V1:Nat→Value):Nat→List Value
 |0=>[]
 |k+1=>cellsTo V0 V1 k++[V0 k,V1 k]
theorem cellsTo_length (V0 V1:Nat→Value):∀ k,(cellsTo V0 V1 k).length=k*2
 |0=>rfl
 |k+1=>by rw [cellsTo,List.length_append,cellsTo_length V0 V1 k];simp;omega
theorem cellsTo_row {w:World} {b off:Nat} {V0 V1:Nat→Value} {n:Nat} (h:∀ i,i<n→w.cell? ⟨b,off+i*2,none⟩=some (V0 i)∧w.cell? ⟨b,off+(i*2+1),none⟩=some (V1 i)):
  ∀ k,k≤n→∀ j u,(cellsTo V0 V1 k)[j]?=some u→w.cell? ⟨b,off+j,none⟩=some u
 |0,_,j,u,hu=>by simp [cellsTo] at hu
 |k+1,hk,j,u,hu=>by
  rw [cellsTo] at hu
  by_cases hj:j<k*2
  ·rw [List.getElem?_append_left (by rw [cellsTo_length];exact hj)] at hu
   exact cellsTo_row h k (by omega) j u hu
  ·rw [List.getElem?_append_right (by rw [cellsTo_length];omega),cellsTo_length] at hu
   obtain ⟨h0,h1⟩:=h k (by omega)
   rcases hq:j-k*2 with _|_|q
   ·rw [hq] at hu
    simp at hu
    rw [show j=k*2 by omega,h0,hu]
   ·rw [hq] at hu
    simp at hu
    rw [show j=k*2+1 by omega,h1,hu]
   ·rw [hq] at hu
    simp at hu
theorem cellsTo_po {R:Option Addr→List Value→Prop} {V0 V1:Nat→Value} {f:Nat→Po} {n:Nat} (h:∀ i,i<n→V0 i= .int .i64 (f i).1∧∃ A c,V1 i= .slice A (f i).2.length c∧(f i).2.length≤c∧c≤maxLen∧R A (ints (f i).2)):
  ∀ k,k≤n→PoCells R ((List.range k).map f) (cellsTo V0 V1 k)
 |0,_=>rfl
 |k+1,hk=>by
  have ih:=cellsTo_po h k (by omega)
  obtain ⟨h0,A,c,h1,h2,h3,h4⟩:=h k (by omega)
  rw [List.range_succ,List.map_append,cellsTo,h0,h1]
  exact ih.snoc h2 h3 h4
theorem po_cells:Tryz.prog.cellsOf 63=2:=by kernel_rfl
theorem int_cells:Tryz.prog.cellsOf 3=1:=by kernel_rfl
theorem ints_cells:Tryz.prog.cellsOf 22=1:=by kernel_rfl
theorem in_posts {H:Type} {enc:TypeId × Value→H} {W:World} {fuel:Nat} {a:Option Addr} {len cap:Nat} {x:DataW H × List MemPlace}
  (h:DataW.trod enc Tryz.prog W 0 (fun _=>true) true fuel 58 (Value.slice a len cap).cells.toList=some x):∃ ps,InPosts W a len cap ps:=by
 rcases Deep.open_slice_pairs Tryz.underlying58 Tryz.underlying63 po_cells rfl rfl int_cells ints_cells h with ⟨hcs,_⟩|⟨ad,l,c,m,n,V0,V1,D0,D1,P0,P1,hcs,_,hl,hm,hmm,_,hx⟩
 ·simp [Value.cells] at hcs
  obtain ⟨rfl,rfl,rfl⟩:=hcs
  exact ⟨[],Nat.le_refl _,Nat.zero_le _,rfl,Posts.nil,fun p hp=>by cases hp⟩
 ·simp [Value.cells] at hcs
  obtain ⟨rfl,rfl,rfl⟩:=hcs
  simp only [if_true] at hmm
  subst hmm
  have each:∀ i,i<m→∃ q:Po,(V0 i= .int .i64 q.1∧∃ A c,V1 i= .slice A q.2.length c∧q.2.length≤c∧c≤maxLen∧Row W W.heap.size A (ints q.2))∧(Lit.int .i64 q.1).wf=true∧∀ y∈q.2,(Lit.int .i64 y).wf=true:=fun i hi=>by
   obtain ⟨_,_,g0,g1⟩:=hx i hi
   obtain ⟨d,e0,_,hd⟩:=DataW.trod_int Tryz.underlying3 g0
   simp only [List.cons.injEq,and_true] at e0
   rcases open_ints Tryz.underlying22 Tryz.underlying3 int_cells g1 with ⟨e1,_⟩|⟨b,l2,c2,zs,e1,_,hl2,hm2,hz2,_,hcell,hwz⟩
   ·simp only [List.cons.injEq,and_true] at e1
    exact ⟨(d,[]),⟨e0,none,0,e1,Nat.le_refl _,Nat.zero_le _,Row.nil⟩,hd,fun y hy=>by cases hy⟩
   ·simp only [List.cons.injEq,and_true] at e1
    simp only [if_true] at hz2
    obtain ⟨h1,h2,h3,h4,h5⟩:=inRow_of (k:= .i64) hl2 hm2 hz2 hcell hwz
    exact ⟨(d,zs.take l2),⟨e0,some b,c2,by rw [h3];exact e1,by rw [h3];exact h1,h2,h4⟩,hd,h5⟩
  obtain ⟨f,hf⟩:=Deep.choose_lt each
  by_cases h0:m=0
  ·have hl0:len=0:=by omega
   subst hl0
   exact ⟨[],hl,hm,rfl,Posts.nil,fun p hp=>by cases hp⟩
  ·obtain ⟨c00,_,_,_⟩:=hx 0 (by omega)
   obtain ⟨b,off,spot⟩:=ad
   have hs:spot=none:=by simpa [Addr.add] using World.cell?_spot c00
   subst hs
   have hblt:b<W.heap.size:=by simpa [Addr.add_lit] using World.block_lt_of_cell? W _ c00
   refine ⟨(List.range len).map f,hl,hm,by simp,⟨cellsTo V0 V1 len,cellsTo_po (n:=m) (fun i hi=>(hf i hi).1) len hl,.inr ⟨b,off,rfl,hblt,cellsTo_row (n:=m) (fun i hi=> ?_) len hl⟩⟩,fun p hp=> ?_⟩
   ·obtain ⟨g0,g1,_,_⟩:=hx i hi
    rw [Addr.add_lit] at g0 g1
    exact ⟨g0,g1⟩
   ·obtain ⟨i,hi,rfl⟩:=List.mem_map.1 hp
    have hil:=List.mem_range.1 hi
    exact (hf i (by omega)).2
theorem in_ints_any {H:Type} {enc:TypeId × Value→H} {W:World} {fuel:Nat} {v:Value} {x:DataW H × List MemPlace}
  (h:DataW.trod enc Tryz.prog W 0 (fun _=>true) true fuel 22 [v]=some x):∃ a len cap zs,v= .slice a len cap∧InRow .i64 W a len cap zs:=by
 rcases open_ints Tryz.underlying22 Tryz.underlying3 int_cells h with ⟨e1,_⟩|⟨b,l2,c2,zs,e1,_,hl2,hm2,hz2,_,hcell,hwz⟩
 ·simp only [List.cons.injEq,and_true] at e1
  exact ⟨none,0,0,[],e1,inRow_nil⟩
 ·simp only [List.cons.injEq,and_true] at e1
  simp only [if_true] at hz2
  exact ⟨some b,l2,c2,zs.take l2,e1,inRow_of (k:= .i64) hl2 hm2 hz2 hcell hwz⟩
theorem in_strs_any {H:Type} {enc:TypeId × Value→H} {W:World} {fuel:Nat} {v:Value} {x:DataW H × List MemPlace}
  (h:DataW.trod enc Tryz.prog W 0 (fun _=>true) true fuel 23 [v]=some x):∃ a len cap l,v= .slice a len cap∧InStrs W a len cap l:=by
 have hv:∃ A l c,v= .slice A l c:=by
  rcases open_strings Tryz.underlying23 Tryz.underlying9 (by kernel_rfl) h with ⟨hcs,_⟩|⟨ad,l,c,ss,hcs,_⟩
  ·simp only [List.cons.injEq,and_true] at hcs
   exact ⟨_,_,_,hcs⟩
  ·simp only [List.cons.injEq,and_true] at hcs
   exact ⟨_,_,_,hcs⟩
 obtain ⟨a,len,cap,rfl⟩:=hv
 obtain ⟨l,hl⟩:=in_strs h
 exact ⟨a,len,cap,l,rfl,hl⟩
theorem in_posts_any {H:Type} {enc:TypeId × Value→H} {W:World} {fuel:Nat} {v:Value} {x:DataW H × List MemPlace}
  (h:DataW.trod enc Tryz.prog W 0 (fun _=>true) true fuel 58 [v]=some x):∃ a len cap l,v= .slice a len cap∧InPosts W a len cap l:=by
 have hv:∃ a len cap,v= .slice a len cap:=by
  rcases Deep.open_slice_pairs Tryz.underlying58 Tryz.underlying63 po_cells rfl rfl int_cells ints_cells h with ⟨hcs,_⟩|⟨ad,l,c,m,n,V0,V1,D0,D1,P0,P1,hcs,_⟩
  ·simp only [List.cons.injEq,and_true] at hcs
   exact ⟨_,_,_,hcs⟩
  ·simp only [List.cons.injEq,and_true] at hcs
   exact ⟨_,_,_,hcs⟩
 obtain ⟨a,len,cap,rfl⟩:=hv
 obtain ⟨l,hl⟩:=in_posts h
 exact ⟨a,len,cap,l,rfl,hl⟩
def InLPosts (w:World) (a:Option Addr) (len cap:Nat) (ls:List (List Pn)):Prop:=len≤cap∧cap≤maxLen∧ls.length=len∧LPosts w w.heap.size a ls
theorem in_lposts_any {H:Type} {enc:TypeId × Value→H} {W:World} {fuel:Nat} {v:Value} {x:DataW H × List MemPlace}
  (h:DataW.trod enc Tryz.prog W 0 (fun _=>true) true fuel 24 [v]=some x):∃ a len cap ls,v= .slice a len cap∧InLPosts W a len cap ls:=by
 rcases Deep.open_slice1 Tryz.underlying24 (by kernel_rfl) h with ⟨hcs,_⟩|⟨ad,l,c,m,n,V,D,Pl,hcs,_,hl,hm,hmm,_,hx⟩
 ·simp only [List.cons.injEq,and_true] at hcs
  exact ⟨none,0,0,[],hcs,Nat.le_refl _,Nat.zero_le _,rfl,LPosts.nil⟩
 ·simp only [List.cons.injEq,and_true] at hcs
  simp only [if_true] at hmm
  subst hmm
  have each:∀ i,i<m→∃ q:List Po,∃ A c,V i= .slice A q.length c∧(q.length≤c∧c≤maxLen)∧Posts W W.heap.size A q:=fun i hi=>by
   obtain ⟨_,g1⟩:=hx i hi
   obtain ⟨A,l,c,q,hv,h1,h2,h3,h4,_⟩:=in_posts_any g1
   exact ⟨q,A,c,by rw [h3];exact hv,⟨by rw [h3];exact h1,h2⟩,h4⟩
  obtain ⟨f,hf⟩:=Deep.choose_lt each
  refine ⟨some ad,l,m,(List.range l).map f,hcs,hl,hm,by simp,(List.range l).map V,⟨by simp,fun i hi=> ?_⟩,?_⟩
  ·have hil:i<l:=by simpa using hi
   obtain ⟨A,c,g1,g2,g3⟩:=hf i (by omega)
   have e1:((List.range l).map f)[i]=f i:=by simp
   have e2:((List.range l).map V)[i]?=some (V i):=by simp [hil]
   rw [e1]
   exact ⟨A,c,by rw [e2,g1],g2,g3⟩
  ·by_cases h0:l=0
   ·subst h0
    exact .inl rfl
   ·obtain ⟨c00,_⟩:=hx 0 (by omega)
    obtain ⟨b,off,spot⟩:=ad
    have hs:spot=none:=by simpa [Addr.add] using World.cell?_spot c00
    subst hs
    refine .inr ⟨b,off,rfl,by simpa [Addr.add_lit] using World.block_lt_of_cell? W _ c00,fun j u hu=> ?_⟩
    rw [List.getElem?_map] at hu
    obtain ⟨i,hi,rfl⟩:=Option.map_eq_some_iff.1 hu
    obtain ⟨hj,rfl⟩:=List.getElem?_eq_some_iff.1 hi
    rw [List.length_range] at hj
    have :=(hx j (by omega)).1
    rw [Addr.add_lit] at this
    simpa using this
theorem LPosts.places {w:World} {B:Nat} {A:Option Addr} {ls:List (List Pn)} (h:LPosts w B A ls):∀ l∈ls,∀ p∈l,p.2.length≤maxLen:=fun l hl p hp=>by
 obtain ⟨i,hi,rfl⟩:=List.getElem_of_mem hl
 obtain ⟨_,_,A',c',_,_,_,_,hpo⟩:=h.at_ hi
 obtain ⟨k,hk,rfl⟩:=List.getElem_of_mem hp
 obtain ⟨_,_,_,_,_,_,_,_,h1,h2,_⟩:=hpo.at_ hk
 rw [List.getD_eq_getElem?_getD,List.getElem?_eq_getElem hk] at h1
 exact Nat.le_trans h1 h2
def InPar (w:World) (A1 A2 A3 A4:Option Addr) (n1 c1 n2 c2 n3 c3 n4 c4:Nat) (x:PartsP):Prop:=
 (x.ids.length=n1∧x.seqs.length=n2∧x.keys.length=n3∧x.lists.length=n4)∧PAt w w.heap.size A1 A2 A3 A4 x∧(n1≤c1∧c1≤maxLen)∧(n2≤c2∧c2≤maxLen)∧(n3≤c3∧c3≤maxLen)∧(n4≤c4∧c4≤maxLen)∧∀ k∈x.keys,k.length≤maxLen
theorem in_par {H:Type} {enc:TypeId × Value→H} {W:World} {m:Nat} {v0 v1 v2 v3:Value} {x0 x1 x2 x3:DataW H × List MemPlace}
  (h0:DataW.trod enc Tryz.prog W 0 (fun _=>true) true m 22 [v0]=some x0) (h1:DataW.trod enc Tryz.prog W 0 (fun _=>true) true m 22 [v1]=some x1)
  (h2:DataW.trod enc Tryz.prog W 0 (fun _=>true) true m 23 [v2]=some x2) (h3:DataW.trod enc Tryz.prog W 0 (fun _=>true) true m 24 [v3]=some x3):
  ∃ A1 A2 A3 A4 n1 c1 n2 c2 n3 c3 n4 c4 x,v0= .slice A1 n1 c1∧v1= .slice A2 n2 c2∧v2= .slice A3 n3 c3∧v3= .slice A4 n4 c4∧InPar W A1 A2 A3 A4 n1 c1 n2 c2 n3 c3 n4 c4 x:=by
 obtain ⟨A1,n1,c1,z1,e1,a1,b1,l1,r1,_⟩:=in_ints_any h0
 obtain ⟨A2,n2,c2,z2,e2,a2,b2,l2,r2,_⟩:=in_ints_any h1
 obtain ⟨A3,n3,c3,z3,e3,a3,b3,l3,r3,k3⟩:=in_strs_any h2
 obtain ⟨A4,n4,c4,z4,e4,a4,b4,l4,r4⟩:=in_lposts_any h3
 exact ⟨A1,A2,A3,A4,n1,c1,n2,c2,n3,c3,n4,c4,⟨z1,z2,z3,z4⟩,e1,e2,e3,e4,⟨l1,l2,l3,l4⟩,⟨r1,r2,r3,r4⟩,⟨a1,b1⟩,⟨a2,b2⟩,⟨a3,b3⟩,⟨a4,b4⟩,k3⟩
end Go.Proofs.YtmoomnpbiifedaaGreat
namespace Go.Proofs.YtmoomnpbiifedaaGreat
open Go Go.RowKit
set_option linter.unusedVariables false
def RiseRel10 (l:List Nm) (w:World) (r i:Value) (wr:World):Prop:=r= .bool false∧∃ k:Nat,1≤k∧i= .int .i64 (k:Int)∧Below w.heap.size w wr∧∀ j (hj:j<l.length),0<j→j<k→l[j-1]<l[j]
set_option maxHeartbeats 1000000 in
set_option maxRecDepth 100000 in
theorem ref07_Rises (A:Option Addr) (m c:Nat) (l:List Nm) (w:World) (hr:Row w w.heap.size A (strs l)) (hm:l.length=m) (hl:m≤9223372036854775807):
  Calls Tryz.prog 22 #[.slice A m c] w fun e w'=>e= .returned (.bool (risesN l))∧Below w.heap.size w w':=by
 have HR:=Lib.hid hr
 clear hr
 subst hm
 obtain ⟨ans,hans⟩:∃ ans,ans=risesN l:=⟨_,rfl⟩
 rw [← hans]
 have HA:=Lib.hid hans
 clear hans
 go_enter Tryz.func22,Tryz.ntmps22
 go_wp2
 go_loopw [2,3] (fun r i wr=>RiseRel10 l w r i wr) (fun _ i _=>l.length-(intOf i).toNat)
 case atStart=>exact ⟨rfl,1,by omega,rfl,Below.refl _ _,fun j _ _ _=>by omega⟩
 case round=>
  obtain ⟨rfl,k,hk,rfl,hbw,hall⟩:=hrel
  by_cases hlt:k<l.length
  ·obtain ⟨b1,o1,e1,_,hc1⟩:=row_nm (HR.out.below hbw) hlt
   subst e1
   have hc0:wr.cell? ⟨b1,o1+(k-1),none⟩=some (.string ⟨l[k-1].toArray⟩):=by
    obtain ⟨b2,o2,e2,_,hc2⟩:=row_nm (HR.out.below hbw) (k:=k-1) (by omega)
    injection e2 with e2
    injection e2 with e3 e4
    subst e3 e4
    exact hc2
   obtain ⟨x,hx,hx2⟩:=as_text l[k]
   obtain ⟨y,hy,hy2⟩:=as_text l[k-1]
   rw [← hx] at hc1
   rw [← hy] at hc0
   obtain ⟨j,hj⟩:∃ j,j=k-1:=⟨_,rfl⟩
   have hw:IntKind.i64.wrap ((k:Int)-1)=(j:Int):=by rw [IntWalk.i64_in _ (by omega)];omega
   have hjl:j<l.length:=by omega
   rw [← hj] at hc0
   by_cases hxy:l[k-1]<l[k]
   ·have t1:=less_false (s:=x) (t:=y) (by rw [hx2,hy2];exact nm_asym hxy)
    have t2:=same_false (s:=x) (t:=y) (by rw [hx2,hy2];exact (nm_ne hxy).symm)
    have HN:Hid (∀ j (hj:j<l.length),0<j→j<k+1→l[j-1]<l[j]):=Lib.hid fun j hj h0 hjk=>by
     by_cases e:j=k
     ·subst e;exact hxy
     ·exact hall j hj h0 (by omega)
    clear hx hx2 hy hy2 hj hall hxy
    go_wp2
    go_quiet (fail)
    go_wp2
    go_roundw
    case rel=>exact ⟨rfl,k+1,by omega,by go_num,hbw.trans ⟨rfl,rfl,rfl,Nat.le_refl _,fun _ _=>rfl⟩,HN.out⟩
    case measure=>simp [intOf];omega
   ·have hbad:ans=false:=by rw [HA.out];exact rise_bad hlt (by omega) hxy
    subst hbad
    have hle:Op.bytesLess x.toList y.toList=true∨Op.bytesLess x.toList y.toList=false∧(x.toList==y.toList)=true:=by
     rcases nm_tri l[k] l[k-1] with h|h|h
     ·exact .inl (less_true (by rw [hx2,hy2];exact h))
     ·exact .inr ⟨less_false (by rw [hx2,hy2,h];exact nm_irrefl _),same_true (by rw [hx2,hy2];exact h)⟩
     ·exact absurd h hxy
    clear hx hx2 hy hy2 hj hall hxy
    rcases hle with t1|⟨t1,t2⟩
    all_goals
     go_wp2
     go_quiet (fail)
     go_wp2
     go_ret
     exact ⟨rfl,hbw.trans ⟨rfl,rfl,rfl,Nat.le_refl _,fun _ _=>rfl⟩⟩
  ·have hgood:ans=true:=by rw [HA.out];exact rise_good fun i hi h0=>hall i hi h0 (by omega)
   subst hgood
   clear hall
   go_wp2
   go_ret
   exact ⟨rfl,hbw⟩
end Go.Proofs.YtmoomnpbiifedaaGreat
namespace Go.Proofs.YtmoomnpbiifedaaGreat
open Go Go.RowKit
set_option linter.unusedVariables false
set_option maxHeartbeats 1000000 in
set_option maxRecDepth 100000 in
theorem dict_rise (A:Option Addr) (m c:Nat) (l:List Nm) (w:World) (hr:Row w w.heap.size A (strs l)) (hm:l.length=m) (hl:m≤1073741824):
  Calls Tryz.prog 66 #[.slice A m c] w fun e w'=>e= .returned (.bool (risesN l))∧Below w.heap.size w w':=by
 have HR:=Lib.hid hr
 clear hr
 subst hm
 obtain ⟨ans,hans⟩:∃ ans,ans=risesN l:=⟨_,rfl⟩
 rw [← hans]
 have HA:=Lib.hid hans
 clear hans
 go_enter Tryz.func66,Tryz.ntmps66
 go_wp2
 go_loopw [2,3] (fun r i wr=>RiseRel10 l w r i wr) (fun _ i _=>l.length-(intOf i).toNat)
 case atStart=>exact ⟨rfl,1,by omega,rfl,Below.refl _ _,fun j _ _ _=>by omega⟩
 case round=>
  obtain ⟨rfl,k,hk,rfl,hbw,hall⟩:=hrel
  by_cases hlt:k<l.length
  ·obtain ⟨b1,o1,e1,_,hc1⟩:=row_nm (HR.out.below hbw) hlt
   subst e1
   have hc0:wr.cell? ⟨b1,o1+(k-1),none⟩=some (.string ⟨l[k-1].toArray⟩):=by
    obtain ⟨b2,o2,e2,_,hc2⟩:=row_nm (HR.out.below hbw) (k:=k-1) (by omega)
    injection e2 with e2
    injection e2 with e3 e4
    subst e3 e4
    exact hc2
   obtain ⟨x,hx,hx2⟩:=as_text l[k]
   obtain ⟨y,hy,hy2⟩:=as_text l[k-1]
   rw [← hx] at hc1
   rw [← hy] at hc0
   obtain ⟨j,hj⟩:∃ j,j=k-1:=⟨_,rfl⟩
   have hw:IntKind.i64.wrap ((k:Int)-1)=(j:Int):=by rw [IntWalk.i64_in _ (by omega)];omega
   have hjl:j<l.length:=by omega
   rw [← hj] at hc0
   by_cases hxy:l[k-1]<l[k]
   ·have t1:=less_true (s:=y) (t:=x) (by rw [hx2,hy2];exact hxy)
    have HN:Hid (∀ j (hj:j<l.length),0<j→j<k+1→l[j-1]<l[j]):=Lib.hid fun j hj h0 hjk=>by
     by_cases e:j=k
     ·subst e;exact hxy
     ·exact hall j hj h0 (by omega)
    clear hx hx2 hy hy2 hj hall hxy
    go_wp2
    go_quiet (fail)
    go_wp2
    go_roundw
    case rel=>exact ⟨rfl,k+1,by omega,by go_num,hbw.trans ⟨rfl,rfl,rfl,Nat.le_refl _,fun _ _=>rfl⟩,HN.out⟩
    case measure=>simp [intOf];omega
   ·have hbad:ans=false:=by rw [HA.out];exact rise_bad hlt (by omega) hxy
    subst hbad
    have t1:=less_false (s:=y) (t:=x) (by rw [hx2,hy2];exact hxy)
    clear hx hx2 hy hy2 hj hall hxy
    go_wp2
    go_quiet (fail)
    go_wp2
    go_ret
    exact ⟨rfl,hbw.trans ⟨rfl,rfl,rfl,Nat.le_refl _,fun _ _=>rfl⟩⟩
  ·have hgood:ans=true:=by rw [HA.out];exact rise_good fun i hi h0=>hall i hi h0 (by omega)
   subst hgood
   clear hall
   go_wp2
   go_ret
   exact ⟨rfl,hbw⟩
end Go.Proofs.YtmoomnpbiifedaaGreat
set_option linter.unusedVariables false
namespace Go.Proofs.YtmoomnpbiifedaaGreat
open Go Go.RowKit
abbrev Sl:=Option Addr × Nat × Nat
def entQ:List Nm→List Sl→List Value
 |x::l,v::vs=> .string ⟨x.toArray⟩:: .slice v.1 v.2.1 v.2.2::entQ l vs
 |_,_=>[]
theorem entQ_nil (vs:List Sl):entQ [] vs=[]:=by cases vs<;>rfl
theorem entQ_snoc:∀ {l:List Nm} {vs:List Sl} {x:Nm} {v:Sl},vs.length=l.length→entQ (l++[x]) (vs++[v])=entQ l vs++[.string ⟨x.toArray⟩,.slice v.1 v.2.1 v.2.2]
 |[],[],x,v,_=>rfl
 |[],_::_,_,_,h=>by simp at h
 |_::_,[],_,_,h=>by simp at h
 |y::l,u::vs,x,v,h=>by
  have :=entQ_snoc (l:=l) (vs:=vs) (x:=x) (v:=v) (by simpa using h)
  simp only [List.cons_append,entQ,this]
theorem info_entryQ:(Tryz.prog.info? 128).map (fun i=>(i.zero,i.size,i.bytes))=some (some (.agg #[.string ByteArray.empty,.slice none 0 0]),2,40):=by kernel_rfl
def sls (vs:List Sl):List Value:=vs.map fun v=> .slice v.1 v.2.1 v.2.2
theorem row_sl {w:World} {B:Nat} {A:Option Addr} {l:List Sl} {k:Nat} (h:Row w B A (sls l)) (hk:k<l.length):∃ b off,A=some ⟨b,off,none⟩∧b<B∧w.cell? ⟨b,off+k,none⟩=some (.slice l[k].1 l[k].2.1 l[k].2.2):=by
 obtain ⟨b,off,rfl,hb,hc⟩:=Row.at_ h (by simp [sls];omega)
 exact ⟨b,off,rfl,hb,hc _ _ (by simp [sls,hk])⟩
def DictAtQ (w:World) (base B:Nat) (l:List Nm) (vs:List Sl):Prop:=
 base≤B∧vs.length=l.length∧∃ v,w.heap[B]?=some (.cells #[v] 126 (0,0))∧w.ownsRow base 128 2 v l.length (entQ l vs)
def MadeDQ (l:List Nm) (vs:List Sl) (w:World) (e:Ending) (w':World):Prop:=∃ B,e= .returned (.tuple #[.pointer (some ⟨B,0,none⟩),.int .i64 0])∧DictAtQ w' w.heap.size B l vs∧Below w.heap.size w w'
def NoneDQ (w:World) (e:Ending) (w':World):Prop:=e= .returned (.tuple #[.pointer none,.int .i64 1])∧Below w.heap.size w w'
set_option maxHeartbeats 1000000 in
set_option maxRecDepth 100000 in
theorem dictQ_Make_no (A A2:Option Addr) (n c m c2:Nat) (l:List Nm) (w:World) (hr:Row w w.heap.size A (strs l)) (hn:l.length=n) (hl:n≤1073741824) (hno:n≠m∨risesN l=false):
  Calls Tryz.prog 28 #[.slice A n c,.slice A2 m c2] w (NoneDQ w):=by
 by_cases hnm:n=m
 ·have hf:risesN l=false:=hno.resolve_left (fun h=>h hnm)
  have c1:=dict_rise A n c l w hr hn hl
  rw [hf] at c1
  have C1:=Lib.hid c1
  subst hnm
  clear c1 hno hf hr hn
  go_enter Tryz.func28,Tryz.ntmps28
  go_wp2_with (go_at_call 66;refine (C1.out).mono ?_;rintro e w1 ⟨rfl,hb⟩)
  go_ret2
  exact ⟨rfl,hb⟩
 ·have e1:((n:Int) != (m:Int))=true:=by simp;omega
  have e2:((n:Int)==(m:Int))=false:=by rw [beq_eq_false_iff_ne];omega
  clear hr hn hno hnm
  go_enter Tryz.func28,Tryz.ntmps28
  go_wp2
  go_ret2
  exact ⟨rfl,Below.refl _ _⟩
def MakeRelQ (B:Nat) (l:List Nm) (vs:List Sl) (w:World) (i:Value) (wr:World):Prop:=
 ∃ (k:Nat) (v:Value),k≤l.length∧i= .int .i64 (k:Int)∧wr.heap[B]?=some (.cells #[v] 126 (0,0))∧wr.ownsRow w.heap.size 128 2 v k (entQ (l.take k) (vs.take k))∧Below w.heap.size w wr
theorem owned_setQ {w:World} {base B:Nat} {e:TypeId} {size:Nat} {v:Value} {n:Nat} {xs:List Value} {cs:Array Value} {t:TypeId} {fr:Nat × Nat} (h:w.ownsRow base e size v n xs) (hB:w.heap[B]?=some (.cells cs t fr)) (ht:t≠e) (o:Nat) (u:Value):(w.setCell ⟨B,o,none⟩ u).ownsRow base e size v n xs:=
 owned_keep h fun g hg=>Below.heap_setCell _ _ _ _ (fun e1=>owned_apart h hB ht (by rw [hg,e1]))
theorem enteredQ {w0 w1:World} {base B n:Nat} {v v':Value} {xs ys:List Value} (hv:w0.heap[B]?=some (.cells #[v] 126 (0,0))) (hown:w0.ownsRow base 128 2 v n xs) (hg:w0.grownBy w1 v.ownBlock) (hown1:w1.ownsRow base 128 2 v' (n+1) ys) (hbase:base≤w0.heap.size) (hB:base≤B):
  w1.heap[B]?=some (.cells #[v] 126 (0,0))∧(w1.setCell ⟨B,0,none⟩ v').heap[B]?=some (.cells #[v'] 126 (0,0))∧(w1.setCell ⟨B,0,none⟩ v').ownsRow base 128 2 v' (n+1) ys∧Below base w0 (w1.setCell ⟨B,0,none⟩ v'):=by
 have h1:w1.heap[B]?=some (.cells #[v] 126 (0,0)):=(hg.block B (lt_of_block hv) (fun e=>owned_apart hown hv (by decide) e.symm)).trans hv
 refine ⟨h1,by simpa using one_setCell h1,owned_setQ hown1 h1 (by decide) _ _,?_⟩
 exact (((Below.refl base w0).grown hg hbase fun k hk=>(hown.lt k hk).1)).setCell hB _
set_option maxHeartbeats 4000000 in
set_option maxRecDepth 100000 in
theorem dictQ_Make (A A2:Option Addr) (n c c2:Nat) (l:List Nm) (vs:List Sl) (w:World) (hr:Row w w.heap.size A (strs l)) (hn:l.length=n) (hl:n≤1048576) (hv:Row w w.heap.size A2 (sls vs)) (hvn:vs.length=n) (hg:risesN l=true):
    Calls Tryz.prog 28 #[.slice A n c,.slice A2 n c2] w (MadeDQ l vs w):=by
  obtain ⟨i0,hi0,hz0,hz1,hz2⟩:=info_parts info_entryQ
  have c1:=dict_rise A n c l w hr hn (by omega)
  rw [hg] at c1
  have C1:=Lib.hid c1
  have HR:=Lib.hid hr
  have HV:=Lib.hid hv
  have HN:=Lib.hid hn
  have HVN:=Lib.hid hvn
  clear c1 hr hv hn hvn hg
  go_enter Tryz.func28,Tryz.ntmps28
  go_wp2_with (go_at_call 66;refine (C1.out).mono ?_)
  rintro e w1 ⟨rfl,hb1⟩
  obtain ⟨w2,hrun,hown2,hgrow2⟩:=run_make_own (P:=Tryz.prog) w1 w.heap.size 124 128 i0 _ 2 Tryz.underlying124 hi0 hz0 hz1 .i64 .i64 n (by rw [hz2];omega) (by unfold maxLen;omega) hb1.size
  have hb2:Below w.heap.size w w2:=hb1.grown hgrow2 hb1.size (fun k hk=>by cases hk)
  obtain ⟨B,hB⟩:∃ B,B=w2.heap.size:=⟨_,rfl⟩
  obtain ⟨w3,hw3⟩:∃ w3,w3=w2.alloc (.cells #[.slice (some ⟨w1.heap.size,0,none⟩) 0 n] 126):=⟨_,rfl⟩
  have hrel:MakeRelQ B l vs w (.int .i64 ((0:Nat):Int)) w3:=by
    refine ⟨0,.slice (some ⟨w1.heap.size,0,none⟩) 0 n,Nat.zero_le _,rfl,?_,?_,?_⟩
    · rw [hw3,hB];exact heap_alloc_new w2 _
    · rw [hw3];simpa [entQ_nil] using hown2.alloc _
    · rw [hw3];exact hb2.alloc hb2.size _
  have HREL:=Lib.hid hrel
  have HW3:=Lib.hid hw3
  have HB:=Lib.hid hB
  have HBW:Hid (w.heap.size≤B):=Lib.hid (by rw [hB];exact hb2.size)
  clear hrel hown2 hgrow2 hb2 hb1 hw3 hB
  go_wp2
  rw [← HW3.out,← HB.out]
  clear hrun
  go_loopw [26] (MakeRelQ B l vs w) (fun i _=>n-(intOf i).toNat)
  case atStart=>exact HREL.out
  case round=>
    obtain ⟨k,v,hk,rfl,hblk,hown,hbw⟩:=hrel
    rw [HN.out] at hk
    have hsz:=hbw.size
    by_cases hlt:k<n
    · have hkl:k<l.length:=by rw [HN.out];exact hlt
      have hkv:k<vs.length:=by rw [HVN.out];exact hlt
      obtain ⟨b1,o1,e1,hb1,hc1⟩:=row_nm (HR.out.below hbw) hkl
      obtain ⟨b2,o2,e2,hb2,hc2⟩:=row_sl (HV.out.below hbw) hkv
      subst e1 e2
      obtain ⟨x,hx⟩:∃ x:ByteArray,x=⟨l[k].toArray⟩:=⟨_,rfl⟩
      obtain ⟨y,hy⟩:∃ y,y=vs[k]:=⟨_,rfl⟩
      rw [← hx] at hc1
      rw [← hy] at hc2
      have hsn:entQ (l.take (k+1)) (vs.take (k+1))=entQ (l.take k) (vs.take k)++[.string x,.slice y.1 y.2.1 y.2.2]:=by
        rw [List.take_succ_eq_append_getElem hkl,List.take_succ_eq_append_getElem hkv,entQ_snoc (by simp only [List.length_take];rw [HN.out,HVN.out]),← hx,← hy]
      obtain ⟨cs,hcs⟩:∃ cs,cs=entQ (l.take k) (vs.take k):=⟨_,rfl⟩
      rw [← hcs] at hown hsn
      have cB:=cell_of_one hblk
      have fB:=free_of_one hblk
      have k2:(0:Int)≤(k:Int):=by omega
      have k3:(k:Int)<(n:Int):=by omega
      have hBlt:=lt_of_block hblk
      have hal:∀ o,((wr.alloc o).drew).cell? ⟨B,0,none⟩=some v:=fun o=>(((Below.refl _ wr).alloc (Nat.le_refl _) o).cell (p:=⟨B,0,none⟩) hBlt).trans cB
      have HOWN:=Lib.hid hown
      have HBLK:=Lib.hid hblk
      have HSN:=Lib.hid hsn
      clear hx hy hcs hown hblk hsn hkl hkv
      go_wp2
      go_region_law (first
        | (refine step_append_lies _ (by rfl) _ _ _ (by rfl) w.heap.size 128 i0 _ 2 40 Tryz.underlying124 hi0 hz0 hz1 hz2 rfl (by omega) v k cs (by rfl) ((HOWN.out.alloc _).drew)
            ⟨wr.heap.size,0,none⟩ 1 1 [.string x,.slice y.1 y.2.1 y.2.2] (by rfl) (by rfl) (World.news_of_block (cs:=#[.string x,.slice y.1 y.2.1 y.2.2]) (t:=128) (fr:=(0,0)) (heap_alloc_new wr.drew _)) (by intro u hu;simp at hu;rcases hu with hu|hu<;>(subst hu;rfl))
            (by omega) (by unfold maxLen;omega) (by omega) (by simp;omega) (wr.heap.size+1) (by simp) ?_
           intro gg cap w5 hown5 hg5 hat hlt5
           obtain ⟨hB5,hB6,hown6,hb6⟩:=enteredQ (((Below.refl _ wr).alloc (Nat.le_refl _) _).drew.block B hBlt |>.trans HBLK.out) ((HOWN.out.alloc _).drew) hg5 hown5 (by simp;omega) HBW.out
           have cB5:=cell_of_one hB5
           have fB5:=free_of_one hB5))
      all_goals
        have hrel:MakeRelQ B l vs w (.int .i64 ((k:Int)+1)) (w5.setCell ⟨B,0,none⟩ (.slice (some ⟨gg,0,none⟩) (k+1) cap)):=by
          refine ⟨k+1,_,by rw [HN.out];omega,by go_num,hB6,?_,?_⟩
          · rw [HSN.out];exact hown6
          · exact hbw.trans ((((Below.refl _ wr).alloc hsz _).drew).trans hb6)
        have HREL:=Lib.hid hrel
        clear hrel hB6 hown6 hb6 hB5
        go_wp2
        go_roundw
        case rel=>exact HREL.out
        case measure=>simp [intOf];omega
    · have hkn:k=n:=by omega
      have HFIN:Hid (MadeDQ l vs w (.returned (.tuple #[.pointer (some ⟨B,0,none⟩),.int .i64 0])) wr):=Lib.hid ⟨B,rfl,⟨HBW.out,by rw [HN.out,HVN.out],v,hblk,by
        rw [hkn,List.take_of_length_le (by rw [HN.out];omega),List.take_of_length_le (by rw [HVN.out];omega)] at hown
        rw [HN.out]
        exact hown⟩,hbw⟩
      clear hown hblk hbw
      go_wp2
      go_ret2
      exact HFIN.out
end Go.Proofs.YtmoomnpbiifedaaGreat
namespace Go.Proofs.YtmoomnpbiifedaaGreat
open Go Go.RowKit
set_option linter.unusedVariables false
def PlacesRel10 (l:List Int) (r last i:Value):Prop:=r= .bool false∧∃ (k:Nat) (x:Int),k≤l.length∧i= .int .i64 (k:Int)∧last= .int .i64 x∧placesOn x (l.drop k)=placesOn (-1) l
set_option maxHeartbeats 1000000 in
set_option maxRecDepth 100000 in
theorem may_places_any (A:Option Addr) (m c:Nat) (l:List Int) (w:World) (hr:Row w w.heap.size A (ints l)) (hm:l.length=m) (hl:m≤9223372036854775807):
  Calls Tryz.prog 99 #[.slice A m c] w fun e w'=>e= .returned (.bool (placesB l))∧w=w':=by
 have HR:=Lib.hid hr
 clear hr
 subst hm
 rw [placesB_on]
 obtain ⟨ans,hans⟩:∃ ans,ans=placesOn (-1) l:=⟨_,rfl⟩
 rw [← hans]
 have HA:=Lib.hid hans
 clear hans
 go_enter Tryz.func99,Tryz.ntmps99
 go_wp2
 go_loop [2,3,8] (fun r last i=>PlacesRel10 l r last i) (fun _ _ i=>l.length-(intOf i).toNat)
 case atStart=>exact ⟨rfl,0, -1,by omega,rfl,rfl,rfl⟩
 case round=>
  obtain ⟨rfl,k,x,hk,rfl,rfl,hx⟩:=hrel
  by_cases hlt:k<l.length
  ·obtain ⟨b1,o1,e1,_,hc1⟩:=row_int' HR.out hlt
   subst e1
   rw [placesOn_cut hlt] at hx
   obtain ⟨y,hy⟩:∃ y,y=l.getD k 0:=⟨_,rfl⟩
   rw [← hy] at hc1 hx
   clear hy
   by_cases hxy:y≤x
   ·rw [decide_eq_false (by omega),Bool.false_and,Bool.false_and,← HA.out] at hx
    subst hx
    have hd:decide (y≤x)=true:=decide_eq_true hxy
    go_wp2
    go_ret
    exact ⟨rfl,rfl⟩
   ·have hd:decide (y≤x)=false:=decide_eq_false hxy
    by_cases hyb:2147483648≤y
    ·rw [decide_eq_false (p:=y<2147483648) (by omega),Bool.and_false,Bool.false_and,← HA.out] at hx
     subst hx
     have hd2:decide (2147483648≤y)=true:=decide_eq_true hyb
     go_wp2
     go_ret
     exact ⟨rfl,rfl⟩
    ·rw [decide_eq_true (p:=x<y) (by omega),decide_eq_true (p:=y<2147483648) (by omega),Bool.true_and,Bool.true_and] at hx
     have hd2:decide (2147483648≤y)=false:=decide_eq_false hyb
     have HX:=Lib.hid hx
     clear hx
     go_wp2
     go_round
     case rel=>exact ⟨rfl,k+1,y,by omega,by go_num,rfl,HX.out⟩
     case measure=>simp [intOf];omega
  ·have hx2:placesOn x (l.drop k)=true:=by rw [List.drop_eq_nil_of_le (by omega)];rfl
   rw [hx2,← HA.out] at hx
   subst hx
   clear hx2
   go_wp2
   go_ret
   exact ⟨rfl,rfl⟩
end Go.Proofs.YtmoomnpbiifedaaGreat
namespace Go.Proofs.YtmoomnpbiifedaaGreat
open Go Go.RowKit
set_option linter.unusedVariables false
def RisesRel10 (l:List Int) (r last i:Value):Prop:=r= .bool false∧∃ (k:Nat) (x:Int),k≤l.length∧i= .int .i64 (k:Int)∧last= .int .i64 x∧risesZ x (l.drop k)=risesZ (-1) l
set_option maxHeartbeats 1000000 in
set_option maxRecDepth 100000 in
theorem vint_rises_any (A:Option Addr) (m c:Nat) (l:List Int) (w:World) (hr:Row w w.heap.size A (ints l)) (hm:l.length=m) (hl:m≤9223372036854775807):
  Calls Tryz.prog 124 #[.slice A m c] w fun e w'=>e= .returned (.bool (risesZ (-1) l))∧w=w':=by
 have HR:=Lib.hid hr
 clear hr
 subst hm
 obtain ⟨ans,hans⟩:∃ ans,ans=risesZ (-1) l:=⟨_,rfl⟩
 rw [← hans]
 have HA:=Lib.hid hans
 clear hans
 go_enter Tryz.func124,Tryz.ntmps124
 go_wp2
 go_loop [2,3,8] (fun r last i=>RisesRel10 l r last i) (fun _ _ i=>l.length-(intOf i).toNat)
 case atStart=>exact ⟨rfl,0, -1,by omega,rfl,rfl,rfl⟩
 case round=>
  obtain ⟨rfl,k,x,hk,rfl,rfl,hx⟩:=hrel
  by_cases hlt:k<l.length
  ·obtain ⟨b1,o1,e1,_,hc1⟩:=row_int' HR.out hlt
   subst e1
   rw [risesZ_drop hlt] at hx
   obtain ⟨y,hy⟩:∃ y,y=l.getD k 0:=⟨_,rfl⟩
   rw [← hy] at hc1 hx
   clear hy
   by_cases hxy:y≤x
   ·rw [decide_eq_false (by omega),Bool.false_and,← HA.out] at hx
    subst hx
    go_wp2
    go_ret
    exact ⟨rfl,rfl⟩
   ·rw [decide_eq_true (by omega),Bool.true_and] at hx
    have HX:=Lib.hid hx
    clear hx
    go_wp2
    go_round
    case rel=>exact ⟨rfl,k+1,y,by omega,by go_num,rfl,HX.out⟩
    case measure=>simp [intOf];omega
  ·rw [risesZ_end (by omega),← HA.out] at hx
   subst hx
   go_wp2
   go_ret
   exact ⟨rfl,rfl⟩
end Go.Proofs.YtmoomnpbiifedaaGreat
namespace Go.Proofs.YtmoomnpbiifedaaGreat
open Go Go.RowKit
set_option linter.unusedVariables false
def GaveOwn (base:Nat) (bs:List UInt8) (w:World) (e:Ending) (w':World):Prop:=∃ v,e= .returned v∧Own base w' v bs∧Below base w w'
def AddRel (base:Nat) (all:List UInt8) (n:Nat) (w:World) (v i:Value) (wr:World):Prop:=
 ∃ (cur:List UInt8) (x:Nat),i= .int .i64 (x:Int)∧x≤n∧cur.length≤all.length∧cur++putB x=all∧Buf base wr v cur∧Below base w wr
set_option maxHeartbeats 1000000 in
set_option maxRecDepth 100000 in
theorem vint_add (v:Value) (bs:List UInt8) (n:Nat) (base:Nat) (w:World) (hb:Buf base w v bs) (hbase:base≤w.heap.size) (hn:n<9223372036854775808) (hl:bs.length≤1073741824):
  Calls Tryz.prog 125 #[v,.int .i64 (n:Int)] w (GaveOwn base (bs++putB n) w):=by
 obtain ⟨i0,hi0,hz0,hz1,hz2⟩:=info_parts info_byte
 have h9:=putB_nine hn
 obtain ⟨all,hall⟩:∃ all,all=bs++putB n:=⟨_,rfl⟩
 have hal:all.length≤1073741833:=by rw [hall,List.length_append];omega
 rw [← hall]
 have HALL:=Lib.hid hall
 have HB:=Lib.hid hb
 clear hall hb
 go_enter Tryz.func125,Tryz.ntmps125
 go_wp2
 go_loopw [0,1] (fun v i wr=>AddRel base all n w v i wr) (fun _ i _=>(intOf i).toNat)
 case atStart=>exact ⟨bs,n,rfl,Nat.le_refl _,by rw [HALL.out];simp,HALL.out.symm,HB.out,Below.refl _ _⟩
 case round=>
  obtain ⟨cur,x,rfl,hx,hcl,hcat,hbuf,hbw⟩:=hrel
  have hsz:=hbw.size
  have HBUF:=Lib.hid hbuf
  have HCAT:=Lib.hid hcat
  clear hbuf hcat
  by_cases h:128≤x
  ·obtain ⟨c,hc⟩:∃ c,c=UInt8.ofNat (128+x%128):=⟨_,rfl⟩
   have hcn:Hid (c.toNat=128+x%128):=Lib.hid (by rw [hc,byte_nat (by omega)])
   have hcat2:(cur++[c])++putB (x/128)=all:=by
    rw [← HCAT.out,putB_big h,List.append_assoc,hc];rfl
   have hcl2:(cur++[c]).length≤all.length:=by rw [← hcat2,List.length_append (bs:=putB (x/128))];omega
   clear hc
   have HC2:=Lib.hid hcat2
   have HL2:=Lib.hid hcl2
   clear hcat2 hcl2
   go_wp2_with (at_builtin;refine wpList_append_buf _ rfl (.tmp 9) (.tmp 14) 86 rfl base i0 _ Tryz.underlying86 hi0 hz0 hz1 hz2 rfl _ cur rfl (HBUF.out.alloc (by omega) _) (by simp;omega) ⟨wr.heap.size,0,none⟩ 1 _ rfl (news_at wr [.int .u8 _] 5) c (by rw [hcn.out];omega) (by omega) ?_)
   intro v' w3 hown3 hb3
   go_wp2
   go_roundw
   case rel=>exact ⟨_,x/128,by go_num,by omega,HL2.out,HC2.out,hown3.buf,(hbw.alloc (by omega) _).trans hb3⟩
   case measure=>simp [intOf];omega
  ·obtain ⟨c,hc⟩:∃ c,c=UInt8.ofNat x:=⟨_,rfl⟩
   have hcn:Hid (c.toNat=x):=Lib.hid (by rw [hc,byte_nat (by omega)])
   have hcat2:cur++[c]=all:=by rw [← HCAT.out,putB_small (by omega),hc]
   clear hc
   have HC2:=Lib.hid hcat2
   clear hcat2
   go_wp2_with (at_builtin;refine wpList_append_buf _ rfl (.tmp 16) (.tmp 19) 86 rfl base i0 _ Tryz.underlying86 hi0 hz0 hz1 hz2 rfl _ cur rfl (HBUF.out.alloc (by omega) _) (by simp;omega) ⟨wr.heap.size,0,none⟩ 1 _ rfl (news_at wr [.int .u8 _] 5) c (by rw [hcn.out]) (by omega) ?_)
   intro v' w3 hown3 hb3
   go_wp2
   go_ret
   exact ⟨_,rfl,by rw [← HC2.out];exact hown3,(hbw.alloc (by omega) _).trans hb3⟩
end Go.Proofs.YtmoomnpbiifedaaGreat
namespace Go.Proofs.YtmoomnpbiifedaaGreat
open Go Go.RowKit
set_option linter.unusedVariables false
set_option maxHeartbeats 1000000 in
set_option maxRecDepth 100000 in
theorem vint_Put (A:Option Addr) (m c:Nat) (bs:List UInt8) (n:Nat) (w:World) (hm:bs.length=m) (hc:m≤c) (hr:Row w w.heap.size A (Lib.byteCells bs)) (hn:n<9223372036854775808) (hl:bs.length≤1073741824):
  Calls Tryz.prog 102 #[.slice A m c,.int .i64 (n:Int)] w (GaveOwn w.heap.size (bs++putB n) w):=by
 have HR:=Lib.hid hr
 clear hr
 subst hm
 go_enter Tryz.func102,Tryz.ntmps102
 go_wp2_with (go_at_call 125;refine (vint_add _ bs n w.heap.size _ (.inl ⟨A,?_,HR.out⟩) (Nat.le_refl _) hn hl).mono ?_)
 ·rfl
 rintro e w2 ⟨v,rfl,hown,hb⟩
 go_wp2
 go_ret
 exact ⟨_,rfl,hown,hb⟩
end Go.Proofs.YtmoomnpbiifedaaGreat
namespace Go.Proofs.YtmoomnpbiifedaaGreat
open Go Go.RowKit
set_option linter.unusedVariables false
def AddRel10 (base:Nat) (all:List UInt8) (n:Nat) (w:World) (v i:Value) (wr:World):Prop:=
 ∃ (cur:List UInt8) (x:Nat),i= .int .i64 (x:Int)∧x≤n∧cur.length≤all.length∧cur++putB x=all∧Buf base wr v cur∧Below base w wr
set_option maxHeartbeats 1000000 in
set_option maxRecDepth 100000 in
theorem vint_add_any (v:Value) (bs:List UInt8) (n:Nat) (base:Nat) (w:World) (hb:Buf base w v bs) (hbase:base≤w.heap.size) (hn:n<9223372036854775808) (hl:bs.length≤1000000000000):
  Calls Tryz.prog 125 #[v,.int .i64 (n:Int)] w (GaveOwn base (bs++putB n) w):=by
 obtain ⟨i0,hi0,hz0,hz1,hz2⟩:=info_parts info_byte
 have h9:=putB_nine hn
 obtain ⟨all,hall⟩:∃ all,all=bs++putB n:=⟨_,rfl⟩
 have hal:all.length≤1000000000009:=by rw [hall,List.length_append];omega
 rw [← hall]
 have HALL:=Lib.hid hall
 have HB:=Lib.hid hb
 clear hall hb
 go_enter Tryz.func125,Tryz.ntmps125
 go_wp2
 go_loopw [0,1] (fun v i wr=>AddRel10 base all n w v i wr) (fun _ i _=>(intOf i).toNat)
 case atStart=>exact ⟨bs,n,rfl,Nat.le_refl _,by rw [HALL.out];simp,HALL.out.symm,HB.out,Below.refl _ _⟩
 case round=>
  obtain ⟨cur,x,rfl,hx,hcl,hcat,hbuf,hbw⟩:=hrel
  have hsz:=hbw.size
  have HBUF:=Lib.hid hbuf
  have HCAT:=Lib.hid hcat
  clear hbuf hcat
  by_cases h:128≤x
  ·obtain ⟨c,hc⟩:∃ c,c=UInt8.ofNat (128+x%128):=⟨_,rfl⟩
   have hcn:Hid (c.toNat=128+x%128):=Lib.hid (by rw [hc,byte_nat (by omega)])
   have hcat2:(cur++[c])++putB (x/128)=all:=by
    rw [← HCAT.out,putB_big h,List.append_assoc,hc];rfl
   have hcl2:(cur++[c]).length≤all.length:=by rw [← hcat2,List.length_append (bs:=putB (x/128))];omega
   clear hc
   have HC2:=Lib.hid hcat2
   have HL2:=Lib.hid hcl2
   clear hcat2 hcl2
   go_wp2_with (at_builtin;refine wpList_append_buf _ rfl (.tmp 9) (.tmp 14) 86 rfl base i0 _ Tryz.underlying86 hi0 hz0 hz1 hz2 rfl _ cur rfl (HBUF.out.alloc (by omega) _) (by simp;omega) ⟨wr.heap.size,0,none⟩ 1 _ rfl (news_at wr [.int .u8 _] 5) c (by rw [hcn.out];omega) (by omega) ?_)
   intro v' w3 hown3 hb3
   go_wp2
   go_roundw
   case rel=>exact ⟨_,x/128,by go_num,by omega,HL2.out,HC2.out,hown3.buf,(hbw.alloc (by omega) _).trans hb3⟩
   case measure=>simp [intOf];omega
  ·obtain ⟨c,hc⟩:∃ c,c=UInt8.ofNat x:=⟨_,rfl⟩
   have hcn:Hid (c.toNat=x):=Lib.hid (by rw [hc,byte_nat (by omega)])
   have hcat2:cur++[c]=all:=by rw [← HCAT.out,putB_small (by omega),hc]
   clear hc
   have HC2:=Lib.hid hcat2
   clear hcat2
   go_wp2_with (at_builtin;refine wpList_append_buf _ rfl (.tmp 16) (.tmp 19) 86 rfl base i0 _ Tryz.underlying86 hi0 hz0 hz1 hz2 rfl _ cur rfl (HBUF.out.alloc (by omega) _) (by simp;omega) ⟨wr.heap.size,0,none⟩ 1 _ rfl (news_at wr [.int .u8 _] 5) c (by rw [hcn.out]) (by omega) ?_)
   intro v' w3 hown3 hb3
   go_wp2
   go_ret
   exact ⟨_,rfl,by rw [← HC2.out];exact hown3,(hbw.alloc (by omega) _).trans hb3⟩
end Go.Proofs.YtmoomnpbiifedaaGreat
namespace Go.Proofs.YtmoomnpbiifedaaGreat
open Go Go.RowKit
set_option linter.unusedVariables false
def PutRRel10 (base:Nat) (all:List UInt8) (l:List Int) (w:World) (v last i:Value) (wr:World):Prop:=
 ∃ (cur:List UInt8) (k:Nat) (x:Int),k≤l.length∧i= .int .i64 (k:Int)∧last= .int .i64 x∧ -1≤x∧risesZ x (l.drop k)=true∧cur.length≤all.length∧cur++dB x (l.drop k)=all∧Own base wr v cur∧Below base w wr
set_option maxHeartbeats 1000000 in
set_option maxRecDepth 100000 in
theorem vint_PutRising_any (A:Option Addr) (m c:Nat) (bs:List UInt8) (C:Option Addr) (n d:Nat) (l:List Int) (w:World) (hm:bs.length=m) (hc:m≤c) (hr:Row w w.heap.size A (Lib.byteCells bs)) (hl:m≤400000000000)
  (hn:l.length=n) (hn20:n≤2147483648) (hrl:Row w w.heap.size C (ints l)) (hb:∀ x∈l,x≤9223372036854775807) (hri:risesZ (-1) l=true):
  Calls Tryz.prog 101 #[.slice A m c,.slice C n d] w fun e w'=>∃ v,e= .returned (.tuple #[v,.int .i64 0])∧Own w.heap.size w' v (bs++putR l)∧Below w.heap.size w w':=by
 subst hm hn
 have hdl:=dB_length l (-1) (by omega) hri hb
 have h9:=putB_nine (n:=l.length) (by omega)
 obtain ⟨all,hall⟩:∃ all,all=bs++putR l:=⟨_,rfl⟩
 have hal:all.length≤800000000000:=by rw [hall,putR,List.length_append,List.length_append];omega
 rw [← hall]
 have HALL:=Lib.hid hall
 have HR:=Lib.hid hr
 have HRL:=Lib.hid hrl
 have HB:=Lib.hid hb
 have r1:=vint_rises_any C l.length d l w hrl rfl (by omega)
 rw [hri] at r1
 have HRI:=Lib.hid hri
 have R1:=Lib.hid r1
 clear hall hr hrl hb r1 hri hdl
 go_enter Tryz.func101,Tryz.ntmps101
 go_wp2_with (first
  |(go_at_call 124;refine R1.out.mono ?_;rintro e w' ⟨rfl,rfl⟩)
  |(go_at_call 125;refine (vint_add_any _ bs l.length w.heap.size _ (.inl ⟨A,rfl,HR.out⟩) (Nat.le_refl _) (by omega) (by omega)).mono ?_))
 rintro e w2 ⟨v,rfl,hown,hb2⟩
 have HOWN:=Lib.hid hown
 have HB2:=Lib.hid hb2
 clear hown hb2
 go_wp2
 go_loopw [0,6,23] (fun v last i wr=>PutRRel10 w.heap.size all l w v last i wr) (fun _ _ i _=>l.length-(intOf i).toNat)
 case atStart=>exact ⟨bs++putB l.length,0, -1,by omega,rfl,rfl,by omega,HRI.out,by rw [HALL.out,putR,List.length_append,List.length_append,List.length_append];omega,by rw [HALL.out,putR,List.append_assoc];rfl,HOWN.out,HB2.out⟩
 case round=>
  obtain ⟨cur,k,x,hk,rfl,rfl,hx1,hris,hcl,hcat,hown,hbw⟩:=hrel
  have hsz:=hbw.size
  have HOW:=Lib.hid hown
  clear hown
  by_cases hlt:k<l.length
  ·obtain ⟨b1,o1,e1,_,hc1⟩:=row_int' (HRL.out.below hbw) hlt
   subst e1
   rw [risesZ_drop hlt,Bool.and_eq_true,decide_eq_true_iff] at hris
   rw [dB_drop hlt,← List.append_assoc] at hcat
   have hyb:l.getD k 0≤9223372036854775807:=HB.out _ (by rw [List.getD_eq_getElem?_getD,List.getElem?_eq_getElem hlt];simp)
   obtain ⟨y,hy⟩:∃ y,y=l.getD k 0:=⟨_,rfl⟩
   rw [← hy] at hc1 hris hcat hyb
   obtain ⟨hxy,hris⟩:=hris
   obtain ⟨g,hg⟩:∃ g:Nat,y-(x+1)=(g:Int):=⟨(y-(x+1)).toNat,by omega⟩
   rw [hg,Int.toNat_natCast] at hcat
   have hcl2:(cur++putB g).length≤all.length:=by rw [← hcat,List.length_append (bs:=dB y _)];omega
   have HCAT:=Lib.hid hcat
   have HRIS:=Lib.hid hris
   have HCL:=Lib.hid hcl2
   have VA:Hid (Calls Tryz.prog 125 #[u0,.int .i64 (g:Int)] wr (GaveOwn w.heap.size (cur++putB g) wr)):=
    Lib.hid (by exact vint_add_any u0 cur g w.heap.size _ HOW.out.buf (by omega) (by omega) (by omega))
   clear hcat hris hcl2 hy
   go_wp2_with (go_at_call 125;refine VA.out.mono ?_)
   rintro e w3 ⟨v3,rfl,hown3,hb3⟩
   go_wp2
   go_roundw
   case rel=>exact ⟨_,k+1,y,by omega,by go_num,rfl,by omega,HRIS.out,HCL.out,HCAT.out,hown3,hbw.trans hb3⟩
   case measure=>simp [intOf];omega
  ·rw [dB_end (by omega),List.append_nil] at hcat
   subst hcat
   go_wp2
   go_ret2
   exact ⟨_,rfl,HOW.out,hbw⟩
end Go.Proofs.YtmoomnpbiifedaaGreat
