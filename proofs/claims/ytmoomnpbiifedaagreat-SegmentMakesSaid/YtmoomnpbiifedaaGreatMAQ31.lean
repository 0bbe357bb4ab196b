import Derived.Test.YtmoomnpbiifedaaGreatMAQ30
import Derived.Test.YtmoomnpbiifedaaGreatMAQ22
import Derived.Test.YtmoomnpbiifedaaGreatMAQ01
import Derived.Test.YtmoomnpbiifedaaGreatMAQ03
import Derived.Deep.SlicePairs
import Derived.ProofKit
import Derived.OpenShut
import Derived.Test.YtmoomnpbiifedaaGreatMAQ04
import Derived.Test.YtmoomnpbiifedaaGreatMAQ08
import Derived.Test.YtmoomnpbiifedaaGreatMAQ24
import Derived.Test.YtmoomnpbiifedaaGreatMAQ09
import Derived.BigQuiet
import Derived.Deep.QuietTactic
import Derived.Test.YtmoomnpbiifedaaGreatMAQ15
set_option linter.unusedVariables false
namespace Go.Proofs.YtmoomnpbiifedaaGreat
open Go Go.RowKit
def litE:En:=(4,[([116],[97])],7)
theorem lit_add:AddOk [litE] where
 may q hq:=by
  rw [List.mem_singleton.1 hq]
  exact ⟨by decide,by decide⟩
 rise:=by decide
 few:=by decide
theorem nil_add:AddOk []:=⟨(fun q hq=>by cases hq),rfl,by decide⟩
theorem lit_posts:(postsPs (buildP [litE]) [116,0,97]).length=1:=by decide
theorem lit_own {w w2 w3:World} {b:Nat} (h2:w2=w.alloc (.cells #[.string ⟨#[116]⟩,.string ⟨#[97]⟩] 99))
  (h3:w3=w2.alloc (.cells #[.int .i64 4,.slice (some ⟨w.heap.size,0,none⟩) 1 1,.int .i64 7] 55)) (hb:b=w2.heap.size):OwnES (fun k=>k<w3.heap.size) w3 (.slice (some ⟨b,0,none⟩) 1 1) [litE]:=by
 have hs:w3.heap.size=w2.heap.size+1:=by rw [h3];simp
 have hs2:w2.heap.size=w.heap.size+1:=by rw [h2];simp
 have hf:w3.ownsRow 0 99 2 (.slice (some ⟨w.heap.size,0,none⟩) 1 1) 1 (flds [(([116],[97]):Fd)]):=by
  refine ⟨by simp [flds],.inr ⟨w.heap.size,1,#[.string ⟨#[116]⟩,.string ⟨#[97]⟩],rfl,Nat.zero_le _,?_,Nat.le_refl _,by decide,rfl,rfl⟩⟩
  rw [h3,Below.heap_alloc w2 _ _ (by omega),h2]
  exact heap_alloc_new w _
 refine ⟨[.int .i64 4,.slice (some ⟨w.heap.size,0,none⟩) 1 1,.int .i64 7],⟨by simp,.inr ⟨b,1,#[.int .i64 4,.slice (some ⟨w.heap.size,0,none⟩) 1 1,.int .i64 7],rfl,Nat.zero_le _,?_,Nat.le_refl _,by decide,rfl,rfl⟩⟩,?_,?_⟩
 ·rw [h3,hb]
  exact heap_alloc_new w2 _
 ·intro k hk
  cases hk
  show b<w3.heap.size
  omega
 ·exact ⟨some ⟨w.heap.size,0,none⟩,1,[],rfl,Nat.le_refl _,by decide,RowF.of_own hf fun k _ hk=>hk,rfl⟩
set_option maxHeartbeats 2000000 in
set_option maxRecDepth 100000 in
theorem law10_lives (w:World):Calls Tryz.prog 15 #[] w fun e w'=>e= .returned (.bool true)∧Below w.heap.size w w':=by
  have HN:Hid (Calls Tryz.prog 16 #[.slice none 0 0] w (MadeSeg (buildP []) w)):=Lib.hid (seg_Build _ _ w OwnES.nil nil_add)
  have HL:Hid (∀ (w1 w2 w3:World) (b:Nat),w2=w1.alloc (.cells #[.string ⟨#[116]⟩,.string ⟨#[97]⟩] 99)→w3=w2.alloc (.cells #[.int .i64 4,.slice (some ⟨w1.heap.size,0,none⟩) 1 1,.int .i64 7] 55)→b=w2.heap.size→
      Below w.heap.size w w1→Calls Tryz.prog 16 #[.slice (some ⟨b,0,none⟩) 1 1] w3 fun e w'=>∃ S,e= .returned (.tuple #[.pointer (some ⟨S,0,none⟩),.int .i64 0])∧SegAt w' S (buildP [litE])∧Below w1.heap.size w1 w'∧Below w.heap.size w w'):=Lib.hid fun w1 w2 w3 b h2 h3 hb hw=>by
    have h12:Below w1.heap.size w1 w2:=by rw [h2];exact (Below.refl _ _).alloc (Nat.le_refl _) _
    have h13:Below w1.heap.size w1 w3:=by rw [h3];exact h12.alloc h12.size _
    refine (seg_Build _ _ w3 (lit_own h2 h3 hb) lit_add).mono ?_
    rintro e w4 ⟨S,h4,h5,h6,h7⟩
    have h14:=h13.trans (h7.mono h13.size)
    exact ⟨S,h4,h5,h14,hw.trans (h14.mono hw.size)⟩
  have HC:Hid (∀ (S:Nat) (w3:World),SegAt w3 S (buildP [litE])→Calls Tryz.prog 45 #[.pointer (some ⟨S,0,none⟩),.agg #[.string ⟨#[116]⟩,.string ⟨#[97]⟩]] w3 fun e w'=>e= .returned (.int .i64 1)∧Below w3.heap.size w3 w'):=Lib.hid fun S w3 hs=>(seg_Count hs ⟨#[116]⟩ ⟨#[97]⟩ (by decide) (by decide)).mono fun e w' h=>⟨by
    rw [h.1,show keyL _ _=[116,0,97] from rfl,lit_posts];rfl,h.2⟩
  have HI:Hid (∀ (S:Nat) (w3:World),SegAt w3 S (buildP [litE])→Calls Tryz.prog 35 #[.pointer (some ⟨S,0,none⟩),.int .i64 0] w3 fun e w'=>e= .returned (.int .i64 4)∧Below w3.heap.size w3 w'):=Lib.hid fun S w3 hs=>seg_Id hs 0
  have HQ:Hid (∀ (S:Nat) (w3:World),SegAt w3 S (buildP [litE])→Calls Tryz.prog 36 #[.pointer (some ⟨S,0,none⟩),.int .i64 0] w3 fun e w'=>e= .returned (.int .i64 7)∧Below w3.heap.size w3 w'):=Lib.hid fun S w3 hs=>seg_Seq hs 0
  have HE:Hid (∀ (S:Nat) (w3:World),SegAt w3 S (buildP [])→Calls Tryz.prog 31 #[.pointer (some ⟨S,0,none⟩)] w3 fun e w'=>e= .returned (.int .i64 0)∧Below w3.heap.size w3 w'):=Lib.hid fun S w3 hs=>seg_Len hs
  have HK:Hid (∀ (S:Nat) (w3:World),SegAt w3 S (buildP [])→Calls Tryz.prog 33 #[.pointer (some ⟨S,0,none⟩)] w3 fun e w'=>∃ A c,e= .returned (.slice A 0 c)∧Below w3.heap.size w3 w'):=Lib.hid fun S w3 hs=>(seg_Keys hs).mono fun e w' h=>by
    obtain ⟨v,rfl,ho,hb⟩:=h
    obtain ⟨A,c,rfl,_,_⟩:=ho.row
    exact ⟨A,c,rfl,hb⟩
  go_enter Tryz.func15,Tryz.ntmps15
  go_wp2_with (first
    | (go_at_call 16; (with_reducible refine HN.out.mono ?_); rintro e w1 ⟨S1, rfl, hs1, -, hb1⟩
       have HS1:=Lib.hid hs1
       have HW1:=Lib.hid hb1
       clear hs1 hb1)
    | (go_at_call 16; (with_reducible refine (HL.out w1 _ _ _ rfl rfl (by simp) HW1.out).mono ?_); rintro e w2 ⟨S2, rfl, hs2, hb2, hw2⟩
       have HS2:=Lib.hid hs2
       have HS3:=Lib.hid (HS1.out.below hb2)
       have HW2:=Lib.hid hw2
       clear hs2 hb2 hw2)
    | (go_at_call 31; (with_reducible refine (HE.out S1 w2 HS3.out).mono ?_); rintro e w3 ⟨rfl, hb3⟩
       have HS4:=Lib.hid (HS3.out.below hb3)
       have HS5:=Lib.hid (HS2.out.below hb3)
       have HW3:=Lib.hid (HW2.out.trans (hb3.mono HW2.out.size))
       clear hb3)
    | (go_at_call 33; (with_reducible refine (HK.out S1 w3 HS4.out).mono ?_); rintro e w4 ⟨A4, c4, rfl, hb4⟩
       have HS6:=Lib.hid (HS5.out.below hb4)
       have HW4:=Lib.hid (HW3.out.trans (hb4.mono HW3.out.size))
       clear hb4)
    | (go_at_call 35; (with_reducible refine (HI.out S2 w4 HS6.out).mono ?_); rintro e w5 ⟨rfl, hb5⟩
       have HS7:=Lib.hid (HS6.out.below hb5)
       have HW5:=Lib.hid (HW4.out.trans (hb5.mono HW4.out.size))
       clear hb5)
    | (go_at_call 36; (with_reducible refine (HQ.out S2 w5 HS7.out).mono ?_); rintro e w6 ⟨rfl, hb6⟩
       have HS8:=Lib.hid (HS7.out.below hb6)
       have HW6:=Lib.hid (HW5.out.trans (hb6.mono HW5.out.size))
       clear hb6)
    | (go_at_call 45; (with_reducible refine (HC.out S2 w6 HS8.out).mono ?_); rintro e w7 ⟨rfl, hb7⟩
       have HW7:=Lib.hid (HW6.out.trans (hb7.mono HW6.out.size))
       clear hb7))
  go_ret
  exact ⟨rfl,HW7.out⟩
end Go.Proofs.YtmoomnpbiifedaaGreat
namespace Go.Proofs.YtmoomnpbiifedaaGreat
open Go Go.RowKit Go.ChangeShapes Go.WideShapes Go.ChangeAt
set_option linter.unusedVariables false
def InFlds (w:World) (a:Option Addr) (len cap:Nat) (l:List Fd):Prop:=
 len≤cap∧cap≤maxLen∧l.length=len∧FRow w w.heap.size a l∧∀ f∈l,f.1.length≤maxLen∧f.2.length≤maxLen
theorem field_cells:Tryz.prog.cellsOf 99=2:=by kernel_rfl
theorem str_cells:Tryz.prog.cellsOf 9=1:=by kernel_rfl
theorem flds_range {f:Nat→Fd} {V0 V1:Nat→Value} {w:World} {b off n:Nat} (h:∀ i,i<n→V0 i= .string ⟨(f i).1.toArray⟩∧V1 i= .string ⟨(f i).2.toArray⟩)
  (hc:∀ i,i<n→w.cell? ⟨b,off+i*2,none⟩=some (V0 i)∧w.cell? ⟨b,off+(i*2+1),none⟩=some (V1 i)):
  ∀ k,k≤n→∀ j u,(flds ((List.range k).map f))[j]?=some u→w.cell? ⟨b,off+j,none⟩=some u
 |0,_,j,u,hu=>by simp [flds] at hu
 |k+1,hk,j,u,hu=>by
  rw [List.range_succ,List.map_append,flds_append] at hu
  have hl:(flds ((List.range k).map f)).length=k*2:=by rw [flds_length,List.length_map,List.length_range]
  by_cases hj:j<k*2
  ·rw [List.getElem?_append_left (by rw [hl];exact hj)] at hu
   exact flds_range h hc k (by omega) j u hu
  ·rw [List.getElem?_append_right (by rw [hl];omega),hl] at hu
   obtain ⟨h0,h1⟩:=h k (by omega)
   obtain ⟨c0,c1⟩:=hc k (by omega)
   rcases hq:j-k*2 with _|_|q
   ·rw [hq] at hu
    simp [flds] at hu
    rw [show j=k*2 by omega,c0,h0,hu]
   ·rw [hq] at hu
    simp [flds] at hu
    rw [show j=k*2+1 by omega,c1,h1,hu]
   ·rw [hq] at hu
    simp [flds] at hu
theorem in_flds {H:Type} {enc:TypeId × Value→H} {W:World} {fuel:Nat} {a:Option Addr} {len cap:Nat} {x:DataW H × List MemPlace}
  (h:DataW.trod enc Tryz.prog W 0 (fun _=>true) true fuel 51 [Value.slice a len cap]=some x):∃ l,InFlds W a len cap l:=by
 rcases Deep.open_slice_pairs Tryz.underlying51 Tryz.underlying99 field_cells rfl rfl str_cells str_cells h with ⟨hcs,_⟩|⟨ad,l,c,m,n,V0,V1,D0,D1,P0,P1,hcs,_,hl,hm,hmm,_,hx⟩
 ·simp at hcs
  obtain ⟨rfl,rfl,rfl⟩:=hcs
  exact ⟨[],Nat.le_refl _,Nat.zero_le _,rfl,FRow.nil,fun p hp=>by cases hp⟩
 ·simp at hcs
  obtain ⟨rfl,rfl,rfl⟩:=hcs
  simp only [if_true] at hmm
  subst hmm
  have each:∀ i,i<m→∃ q:Fd,(V0 i= .string ⟨q.1.toArray⟩∧V1 i= .string ⟨q.2.toArray⟩)∧q.1.length≤maxLen∧q.2.length≤maxLen:=fun i hi=>by
   obtain ⟨_,_,g0,g1⟩:=hx i hi
   obtain ⟨s0,e0,_,k0⟩:=DataW.trod_string Tryz.underlying9 g0
   obtain ⟨s1,e1,_,k1⟩:=DataW.trod_string Tryz.underlying9 g1
   simp only [List.cons.injEq,and_true] at e0 e1
   refine ⟨(s0.data.toList,s1.data.toList),⟨e0,e1⟩,?_,?_⟩
   ·show s0.data.toList.length≤maxLen
    rw [Array.length_toList]
    exact k0
   ·show s1.data.toList.length≤maxLen
    rw [Array.length_toList]
    exact k1
  obtain ⟨f,hf⟩:=Deep.choose_lt each
  by_cases h0:m=0
  ·have hl0:len=0:=by omega
   subst hl0
   exact ⟨[],hl,hm,rfl,FRow.nil,fun p hp=>by cases hp⟩
  ·obtain ⟨c00,_,_,_⟩:=hx 0 (by omega)
   obtain ⟨b,off,spot⟩:=ad
   have hs:spot=none:=by simpa [Addr.add] using World.cell?_spot c00
   subst hs
   have hblt:b<W.heap.size:=by simpa [Addr.add_lit] using World.block_lt_of_cell? W _ c00
   refine ⟨(List.range len).map f,hl,hm,by simp,.inr ⟨b,off,rfl,hblt,flds_range (n:=m) (fun i hi=>(hf i hi).1) (fun i hi=> ?_) len hl⟩,fun p hp=> ?_⟩
   ·obtain ⟨g0,g1,_,_⟩:=hx i hi
    rw [Addr.add_lit] at g0 g1
    exact ⟨g0,g1⟩
   ·obtain ⟨i,hi,rfl⟩:=List.mem_map.1 hp
    have hil:=List.mem_range.1 hi
    exact (hf i (by omega)).2
theorem in_flds_any {H:Type} {enc:TypeId × Value→H} {W:World} {fuel:Nat} {v:Value} {x:DataW H × List MemPlace}
  (h:DataW.trod enc Tryz.prog W 0 (fun _=>true) true fuel 51 [v]=some x):∃ a len cap l,v= .slice a len cap∧InFlds W a len cap l:=by
 have hv:∃ a len cap,v= .slice a len cap:=by
  rcases Deep.open_slice_pairs Tryz.underlying51 Tryz.underlying99 field_cells rfl rfl str_cells str_cells h with ⟨hcs,_⟩|⟨ad,l,c,m,n,V0,V1,D0,D1,P0,P1,hcs,_⟩
  ·simp only [List.cons.injEq,and_true] at hcs
   exact ⟨_,_,_,hcs⟩
  ·simp only [List.cons.injEq,and_true] at hcs
   exact ⟨_,_,_,hcs⟩
 obtain ⟨a,len,cap,rfl⟩:=hv
 obtain ⟨l,hl⟩:=in_flds h
 exact ⟨a,len,cap,l,rfl,hl⟩
theorem doc_cells:Tryz.prog.cellsOf 53=2:=by kernel_rfl
end Go.Proofs.YtmoomnpbiifedaaGreat
namespace Go.Proofs.YtmoomnpbiifedaaGreat
open Go Go.RowKit Go.ChangeShapes Go.WideShapes Go.ChangeAt
set_option linter.unusedVariables false
def catTo (V:Nat→List Value):Nat→List Value
 |0=>[]
 |k+1=>catTo V k++V k
theorem catTo_length {V:Nat→List Value} {z n:Nat} (hz:∀ i,i<n→(V i).length=z):∀ k,k≤n→(catTo V k).length=k*z
 |0,_=>by simp [catTo]
 |k+1,hk=>by rw [catTo,List.length_append,catTo_length hz k (by omega),hz k (by omega),Nat.add_mul,Nat.one_mul]
theorem catTo_row {w:World} {b off z n:Nat} {V:Nat→List Value} (hz:∀ i,i<n→(V i).length=z) (h:∀ i,i<n→∀ j u,(V i)[j]?=some u→w.cell? ⟨b,off+(i*z+j),none⟩=some u):
  ∀ k,k≤n→∀ j u,(catTo V k)[j]?=some u→w.cell? ⟨b,off+j,none⟩=some u
 |0,_,j,u,hu=>by simp [catTo] at hu
 |k+1,hk,j,u,hu=>by
  rw [catTo] at hu
  have hl:=catTo_length hz k (by omega)
  by_cases hj:j<k*z
  ·rw [List.getElem?_append_left (by rw [hl];exact hj)] at hu
   exact catTo_row hz h k (by omega) j u hu
  ·rw [List.getElem?_append_right (by rw [hl];omega),hl] at hu
   have :=h k (by omega) _ _ hu
   rwa [show k*z+(j-k*z)=j by omega] at this
theorem catTo_nest {α:Type} {s:Shape α} {R:Option Addr→List Value→Prop} {V:Nat→List Value} {f:Nat→α} {n:Nat}
  (h:∀ i,i<n→∃ A c,V i=s.pre (f i)++(.slice A (s.mid (f i)).length c::s.post (f i))∧(s.mid (f i)).length≤c∧c≤maxLen∧R A (flds (s.mid (f i)))):∀ k,k≤n→NestC s R ((List.range k).map f) (catTo V k)
 |0,_=>rfl
 |k+1,hk=>by
  have ih:=catTo_nest h k (by omega)
  obtain ⟨A,c,h1,h2,h3,h4⟩:=h k (by omega)
  rw [List.range_succ,List.map_append,catTo,h1]
  exact ih.snoc h2 h3 h4
def InNest {α:Type} (s:Shape α) (good:α→Prop) (w:World) (a:Option Addr) (len cap:Nat) (l:List α):Prop:=
 len≤cap∧cap≤maxLen∧l.length=len∧Nest s w w.heap.size a l∧∀ q∈l,good q
theorem in_nest {α:Type} [Inhabited α] {H:Type} {enc:TypeId × Value→H} {W:World} (s:Shape α) (good:α→Prop) {t e:TypeId} (ht:Tryz.prog.underlying t=some (.slice e)) (ce:Tryz.prog.cellsOf e=s.size)
  (open1:∀ {fuel:Nat} {cs:List Value} {x:DataW H × List MemPlace},DataW.trod enc Tryz.prog W 0 (fun _=>true) true fuel e cs=some x→
   ∃ (q:α) (A:Option Addr) (c:Nat),cs=s.pre q++(.slice A (s.mid q).length c::s.post q)∧(s.mid q).length≤c∧c≤maxLen∧FRow W W.heap.size A (s.mid q)∧good q)
  {fuel:Nat} {a:Option Addr} {len cap:Nat} {x:DataW H × List MemPlace} (h:DataW.trod enc Tryz.prog W 0 (fun _=>true) true fuel t [Value.slice a len cap]=some x):∃ l,InNest s good W a len cap l:=by
 rcases Deep.open_slice ht h with ⟨hcs,_⟩|⟨ad,l,c,m,n,D,Pl,hcs,_,hl,hm,hmm,_,hx⟩
 ·simp at hcs
  obtain ⟨rfl,rfl,rfl⟩:=hcs
  exact ⟨[],Nat.le_refl _,Nat.zero_le _,rfl,NestP.nil,fun p hp=>by cases hp⟩
 ·simp at hcs
  obtain ⟨rfl,rfl,rfl⟩:=hcs
  simp only [if_true] at hmm
  subst hmm
  have each:∀ i,i<m→∃ q:α × List Value,(∃ A c,q.2=s.pre q.1++(.slice A (s.mid q.1).length c::s.post q.1)∧(s.mid q.1).length≤c∧c≤maxLen∧Row W W.heap.size A (flds (s.mid q.1)))∧good q.1∧q.2.length=s.size∧
    ∀ j u,q.2[j]?=some u→W.cell? (ad.add (i*s.size+j))=some u:=fun i hi=>by
   obtain ⟨cs',h1,h2⟩:=hx i hi
   obtain ⟨_,hlen,hcell⟩:=World.cells?_some h1
   obtain ⟨q,A,c,e1,e2,e3,e4,e5⟩:=open1 h2
   rw [ce] at hlen
   refine ⟨(q,cs'),⟨A,c,e1,e2,e3,e4⟩,e5,hlen,fun j u hu=> ?_⟩
   have hj:j<s.size:=by
    rcases Nat.lt_or_ge j s.size with h|h
    ·exact h
    ·rw [List.getElem?_eq_none (by rw [hlen];exact h)] at hu;cases hu
   have :=hcell j (by rw [ce];exact hj)
   rw [Deep.add_add,ce] at this
   rw [this]
   exact hu
  obtain ⟨f,hf⟩:=Deep.choose_lt each
  by_cases h0:m=0
  ·have hl0:len=0:=by omega
   subst hl0
   exact ⟨[],hl,hm,rfl,NestP.nil,fun p hp=>by cases hp⟩
  ·obtain ⟨_,_,hl0,hc0⟩:=hf 0 (by omega)
   obtain ⟨u0,hu0⟩:∃ u,(f 0).2[0]?=some u:=⟨_,List.getElem?_eq_getElem (by rw [hl0];unfold Shape.size;omega)⟩
   have c00:=hc0 0 u0 hu0
   obtain ⟨b,off,spot⟩:=ad
   have hs:spot=none:=by simpa [Addr.add] using World.cell?_spot c00
   subst hs
   have hblt:b<W.heap.size:=by simpa [Addr.add_lit] using World.block_lt_of_cell? W _ c00
   refine ⟨(List.range len).map fun i=>(f i).1,hl,hm,by simp,⟨catTo (fun i=>(f i).2) len,catTo_nest (n:=m) (fun i hi=>(hf i hi).1) len hl,.inr ⟨b,off,rfl,hblt,catTo_row (n:=m) (z:=s.size) (fun i hi=>(hf i hi).2.2.1) (fun i hi j u hu=> ?_) len hl⟩⟩,fun p hp=> ?_⟩
   ·have :=(hf i hi).2.2.2 j u hu
    rwa [Addr.add_lit] at this
   ·obtain ⟨i,hi,rfl⟩:=List.mem_map.1 hp
    have hil:=List.mem_range.1 hi
    exact (hf i (by omega)).2.1
def InFd (l:List Fd):Prop:=∀ f∈l,f.1.length≤maxLen∧f.2.length≤maxLen
theorem open_doc {H:Type} {enc:TypeId × Value→H} {W:World} {fuel:Nat} {cs:List Value} {x:DataW H × List MemPlace} (h:DataW.trod enc Tryz.prog W 0 (fun _=>true) true fuel 53 cs=some x):
  ∃ (q:Dc) (A:Option Addr) (c:Nat),cs=[.int .i64 q.1,.slice A q.2.length c]∧q.2.length≤c∧c≤maxLen∧FRow W W.heap.size A q.2∧InFd q.2:=by
 obtain ⟨y0,y1,n,_,hl,g0,g1⟩:=trod_struct2 Tryz.underlying53 h
 rw [doc_cells] at hl
 obtain ⟨v0,v1,rfl⟩:∃ v0 v1,cs=[v0,v1]:=by
  rcases cs with _|⟨v0,_|⟨v1,_|⟨v2,cs⟩⟩⟩
  ·cases hl
  ·cases hl
  ·exact ⟨_,_,rfl⟩
  ·simp only [List.length_cons] at hl;omega
 ·have ci:Tryz.prog.cellsOf 3=1:=by kernel_rfl
  have cf:Tryz.prog.cellsOf 51=1:=by kernel_rfl
  simp [ci] at g0
  simp [cf] at g1
  obtain ⟨d,e0,_,_⟩:=DataW.trod_int Tryz.underlying3 g0
  obtain ⟨a,len,cap,l,rfl,h1,h2,h3,h4,h5⟩:=in_flds_any g1
  simp only [List.cons.injEq,and_true] at e0
  subst e0
  exact ⟨(d,l),a,cap,by rw [h3],by rw [h3];exact h1,h2,h4,h5⟩
abbrev InDocs:=InNest docS (fun q=>InFd q.2)
theorem in_docs {H:Type} {enc:TypeId × Value→H} {W:World} {fuel:Nat} {a:Option Addr} {len cap:Nat} {x:DataW H × List MemPlace}
  (h:DataW.trod enc Tryz.prog W 0 (fun _=>true) true fuel 27 (Value.slice a len cap).cells.toList=some x):∃ l,InDocs W a len cap l:=
 in_nest docS (fun q=>InFd q.2) Tryz.underlying27 doc_cells (fun h=>open_doc h) (by simpa [Value.cells] using h)
end Go.Proofs.YtmoomnpbiifedaaGreat
namespace Go.Proofs.YtmoomnpbiifedaaGreat
open Go Go.RowKit
set_option linter.unusedVariables false
def MayRel10 (l:List Po) (w:World) (r i:Value) (wr:World):Prop:=r= .bool false∧∃ k:Nat,k≤l.length∧i= .int .i64 (k:Int)∧ -1≤docAt l k∧mayB' (docAt l k) (l.drop k)=mayB' (-1) l∧Below w.heap.size w wr
theorem last_at10 {ps:List Int} {j:Nat} (h:j+1=ps.length):ps.getD j 0=ps.getLastD 0:=by
 rw [List.getLastD_eq_getLast?,List.getLast?_eq_getElem?,List.getD_eq_getElem?_getD,← h]
 simp
set_option maxHeartbeats 4000000 in
set_option maxRecDepth 100000 in
theorem ref05_May_any (A:Option Addr) (n d:Nat) (l:List Po) (w:World) (hn:l.length=n) (hnx:n≤9223372036854775807) (hpo:Posts w w.heap.size A l) (hpl:∀ p∈l,p.2.length≤9223372036854775807):
  Calls Tryz.prog 23 #[.slice A n d] w fun e w'=>e= .returned (.bool (mayB' (-1) l))∧Below w.heap.size w w':=by
 subst hn
 obtain ⟨ans,hans⟩:∃ ans,ans=mayB' (-1) l:=⟨_,rfl⟩
 rw [← hans]
 have HANS:=Lib.hid hans
 have HPO:=Lib.hid hpo
 have HPL:=Lib.hid hpl
 clear hans hpo hpl
 go_enter Tryz.func23,Tryz.ntmps23
 go_wp2
 go_loopw [2,3] (fun r i wr=>MayRel10 l w r i wr) (fun _ i _=>l.length-(intOf i).toNat)
 case atStart=>exact ⟨rfl,0,by omega,rfl,by simp [docAt],rfl,Below.refl _ _⟩
 case round=>
  obtain ⟨rfl,k,hk,rfl,hx1,hris,hbw⟩:=hrel
  have hsz:=hbw.size
  by_cases hlt:k<l.length
  ·obtain ⟨b1,o1,e1,hb1,hc1,A2,c2,hc2,hlc,hcx,hr2⟩:=(HPO.out.below hbw).at_ hlt
   subst e1
   have hc0:0<k→∀ j,j=k-1→wr.cell? ⟨b1,o1+j*2,none⟩=some (.int .i64 (docAt l k)):=fun h j hj=>by
    obtain ⟨b2,o2,e2,_,hc3,_⟩:=(HPO.out.below hbw).at_ (k:=j) (by omega)
    injection e2 with e2
    injection e2 with e3 e4
    subst e3 e4
    rw [hc3]
    have hk0:k≠0:=by omega
    simp only [docAt,if_neg hk0,hj]
   have ha0:k=0→docAt l k= -1:=fun h=>by simp [docAt,h]
   have hs:=docAt_succ (l:=l) (k:=k)
   have hlp:=HPL.out (l.getD k (0,[])) (by rw [List.getD_eq_getElem?_getD,List.getElem?_eq_getElem hlt];simp)
   rw [drop_po hlt] at hris
   obtain ⟨q,hq⟩:∃ q,q=l.getD k (0,[]):=⟨_,rfl⟩
   rw [← hq] at hc1 hc2 hlc hr2 hris hs hlp
   obtain ⟨y,ps⟩:=q
   obtain ⟨x,hxx⟩:∃ x,x=docAt l k:=⟨_,rfl⟩
   rw [← hxx] at hris hx1 hc0 ha0
   simp only at hc1 hc2 hlc hr2 hs hlp
   have HNO:Hid (¬ (x<y∧y<2147483648∧placesB ps=true)→ans=false):=Lib.hid fun h=>by
    rw [HANS.out,← hris,Bool.eq_false_iff]
    intro hm
    have :=mayB'_cons.1 hm
    exact h ⟨this.1,this.2.1,this.2.2.1⟩
   have HYES:Hid (x<y→y<2147483648→placesB ps=true→mayB' y (l.drop (k+1))=mayB' (-1) l):=Lib.hid fun h1 h2 h3=>by
    rw [← hris,mayB',decide_eq_true h1,decide_eq_true h2,h3]
    rfl
   have rr:=ref04_Rises A2 ps.length c2 ps wr (hr2.more hsz) rfl hlp
   obtain ⟨rb,hrb⟩:∃ rb,rb=risesZ (-1) ps:=⟨_,rfl⟩
   rw [← hrb] at rr
   have RR:=Lib.hid rr
   have HRB:=Lib.hid hrb
   have HR2:=Lib.hid hr2
   have HS:=Lib.hid hs
   have HC0:=Lib.hid hc0
   have HA0:=Lib.hid ha0
   obtain ⟨P,hP⟩:∃ P,P=ps.length:=⟨_,rfl⟩
   rw [← hP] at hc2 hlc hlp RR
   have HPP:=Lib.hid hP
   clear hris rr hrb hr2 hs hc0 ha0 hq hxx hP
   go_wp2_with (go_at_call 21;refine RR.out.mono ?_)
   rintro e w5 ⟨rfl,hb5⟩
   have hb5':Below w.heap.size wr w5:=hb5.mono hsz
   have k1:=(hb5'.cell (p:=⟨b1,o1+k*2,none⟩) hb1).trans hc1
   have k2:=(hb5'.cell (p:=⟨b1,o1+k*2+1,none⟩) hb1).trans hc2
   have HK0:Hid (0<k→∀ j,j=k-1→w5.cell? ⟨b1,o1+j*2,none⟩=some (.int .i64 x)):=Lib.hid fun h j hj=>(hb5'.cell (p:=⟨b1,o1+j*2,none⟩) hb1).trans (HC0.out h j hj)
   have HLAST:Hid (∀ p1,p1+1=P→∃ b3 o3,A2=some ⟨b3,o3,none⟩∧w5.cell? ⟨b3,o3+p1,none⟩=some (.int .i64 (ps.getLastD 0))):=Lib.hid fun p1 hp=>by
    obtain ⟨b3,o3,e3,_,hc3⟩:=row_int' (HR2.out.below hb5') (k:=p1) (by rw [← HPP.out];omega)
    exact ⟨b3,o3,e3,by rw [hc3,last_at10 (by rw [← HPP.out];exact hp)]⟩
   have HB5:=Lib.hid (hbw.trans hb5')
   clear hb5 hb5' hc1 hc2 RR HC0
   by_cases h1:y<0
   ·have e1:decide (y<0)=true:=decide_eq_true h1
    have HN0:=Lib.hid (HNO.out (by omega))
    go_wp2
    go_quiet (fail)
    go_wp2
    go_ret
    rw [HN0.out]
    exact ⟨rfl,HB5.out.trans (quiet_below _)⟩
   have e1:decide (y<0)=false:=decide_eq_false h1
   by_cases h2:2147483648≤y
   ·have e2:decide (2147483648≤y)=true:=decide_eq_true h2
    have HN0:=Lib.hid (HNO.out (by omega))
    go_wp2
    go_quiet (fail)
    go_wp2
    go_ret
    rw [HN0.out]
    exact ⟨rfl,HB5.out.trans (quiet_below _)⟩
   have e2:decide (2147483648≤y)=false:=decide_eq_false h2
   have hyb:y<2147483648:=by omega
   rcases Nat.eq_zero_or_pos k with hk0|hk0
   ·have hxy:x<y:=by have :=HA0.out hk0;omega
    have e3:decide ((0:Int)<(k:Int))=false:=decide_eq_false (by omega)
    have e3':decide (0<k)=false:=decide_eq_false (by omega)
    clear hk0
    rcases Nat.eq_zero_or_pos P with hP0|hP0
    ·have hpe:ps=[]:=List.eq_nil_of_length_eq_zero (by rw [← HPP.out];exact hP0)
     have HN0:=Lib.hid (HNO.out (by rw [hpe];simp [placesB]))
     have e4:((P:Int)==0)=true:=by rw [hP0];rfl
     clear hpe hP0
     go_wp2
     go_quiet (fail)
     go_wp2
     go_ret
     rw [HN0.out]
     exact ⟨rfl,HB5.out.trans (quiet_below _)⟩
    ·have e4:((P:Int)==0)=false:=by rw [beq_eq_false_iff_ne];omega
     rcases hrbc:rb with _|_
     ·have HN0:=Lib.hid (HNO.out (by have :=HRB.out;rw [hrbc] at this;simp [placesB,← this]))
      subst hrbc
      go_wp2
      go_quiet (fail)
      go_wp2
      go_ret
      rw [HN0.out]
      exact ⟨rfl,HB5.out.trans (quiet_below _)⟩
     ·obtain ⟨p1,hp1⟩:∃ p1,p1+1=P:=⟨P-1,by omega⟩
      obtain ⟨b3,o3,hA3,hlast⟩:=HLAST.out p1 hp1
      have hw2:IntKind.i64.wrap ((P:Int)-1)=(p1:Int):=by rw [IntWalk.i64_in _ (by omega)];omega
      have hp1P:p1<P:=by omega
      obtain ⟨z,hz⟩:∃ z,z=ps.getLastD 0:=⟨_,rfl⟩
      rw [← hz] at hlast
      have hne:ps≠[]:=by intro h;have :=HPP.out;rw [h] at this;simp at this;omega
      have HZ:=Lib.hid hz
      have HNE:=Lib.hid hne
      have HRT:Hid (risesZ (-1) ps=true):=Lib.hid (by rw [← HRB.out];exact hrbc)
      subst hA3
      clear hp1 hz hne
      subst hrbc
      by_cases hzb:2147483648≤z
      ·have HN0:=Lib.hid (HNO.out (by intro h;have :=(placesB_iff.1 h.2.2).2.2;rw [← HZ.out] at this;omega))
       have e6:decide (2147483648≤z)=true:=decide_eq_true hzb
       go_wp2
       go_quiet (fail)
       go_wp2
       go_ret
       rw [HN0.out]
       exact ⟨rfl,HB5.out.trans (quiet_below _)⟩
      ·have e6:decide (2147483648≤z)=false:=decide_eq_false hzb
       have HY0:=Lib.hid (HYES.out hxy hyb (placesB_iff.2 ⟨HRT.out,HNE.out,by rw [← HZ.out];omega⟩))
       have HXY:=Lib.hid hxy
       clear hxy
       go_wp2
       go_quiet (fail)
       go_wp2
       go_roundw
       case rel=>exact ⟨rfl,k+1,by omega,by go_num,by rw [HS.out];have :=HXY.out;omega,by rw [HS.out];exact HY0.out,HB5.out.trans (quiet_below _)⟩
       case measure=>simp [intOf];omega
   ·obtain ⟨j,hj⟩:∃ j,j=k-1:=⟨_,rfl⟩
    have k0:=HK0.out hk0 j hj
    have hw1:IntKind.i64.wrap ((k:Int)-1)=(j:Int):=by rw [IntWalk.i64_in _ (by omega)];omega
    have hjl:j<l.length:=by omega
    have e3:decide ((0:Int)<(k:Int))=true:=decide_eq_true (by omega)
    have e3':decide (0<k)=true:=decide_eq_true hk0
    clear hj
    by_cases h3:y≤x
    ·have e5:decide (y≤x)=true:=decide_eq_true h3
     have HN0:=Lib.hid (HNO.out (by omega))
     go_wp2
     go_quiet (fail)
     go_wp2
     go_ret
     rw [HN0.out]
     exact ⟨rfl,HB5.out.trans (quiet_below _)⟩
    have e5:decide (y≤x)=false:=decide_eq_false h3
    have hxy:x<y:=by omega
    rcases Nat.eq_zero_or_pos P with hP0|hP0
    ·have hpe:ps=[]:=List.eq_nil_of_length_eq_zero (by rw [← HPP.out];exact hP0)
     have HN0:=Lib.hid (HNO.out (by rw [hpe];simp [placesB]))
     have e4:((P:Int)==0)=true:=by rw [hP0];rfl
     clear hpe hP0
     go_wp2
     go_quiet (fail)
     go_wp2
     go_ret
     rw [HN0.out]
     exact ⟨rfl,HB5.out.trans (quiet_below _)⟩
    ·have e4:((P:Int)==0)=false:=by rw [beq_eq_false_iff_ne];omega
     rcases hrbc:rb with _|_
     ·have HN0:=Lib.hid (HNO.out (by have :=HRB.out;rw [hrbc] at this;simp [placesB,← this]))
      subst hrbc
      go_wp2
      go_quiet (fail)
      go_wp2
      go_ret
      rw [HN0.out]
      exact ⟨rfl,HB5.out.trans (quiet_below _)⟩
     ·obtain ⟨p1,hp1⟩:∃ p1,p1+1=P:=⟨P-1,by omega⟩
      obtain ⟨b3,o3,hA3,hlast⟩:=HLAST.out p1 hp1
      have hw2:IntKind.i64.wrap ((P:Int)-1)=(p1:Int):=by rw [IntWalk.i64_in _ (by omega)];omega
      have hp1P:p1<P:=by omega
      obtain ⟨z,hz⟩:∃ z,z=ps.getLastD 0:=⟨_,rfl⟩
      rw [← hz] at hlast
      have hne:ps≠[]:=by intro h;have :=HPP.out;rw [h] at this;simp at this;omega
      have HZ:=Lib.hid hz
      have HNE:=Lib.hid hne
      have HRT:Hid (risesZ (-1) ps=true):=Lib.hid (by rw [← HRB.out];exact hrbc)
      subst hA3
      clear hp1 hz hne
      subst hrbc
      by_cases hzb:2147483648≤z
      ·have HN0:=Lib.hid (HNO.out (by intro h;have :=(placesB_iff.1 h.2.2).2.2;rw [← HZ.out] at this;omega))
       have e6:decide (2147483648≤z)=true:=decide_eq_true hzb
       go_wp2
       go_quiet (fail)
       go_wp2
       go_ret
       rw [HN0.out]
       exact ⟨rfl,HB5.out.trans (quiet_below _)⟩
      ·have e6:decide (2147483648≤z)=false:=decide_eq_false hzb
       have HY0:=Lib.hid (HYES.out hxy hyb (placesB_iff.2 ⟨HRT.out,HNE.out,by rw [← HZ.out];omega⟩))
       have HXY:=Lib.hid hxy
       clear hxy
       go_wp2
       go_quiet (fail)
       go_wp2
       go_roundw
       case rel=>exact ⟨rfl,k+1,by omega,by go_num,by rw [HS.out];have :=HXY.out;omega,by rw [HS.out];exact HY0.out,HB5.out.trans (quiet_below _)⟩
       case measure=>simp [intOf];omega
  ·rw [List.drop_eq_nil_of_le (by omega)] at hris
   have HF:Hid (ans=true):=Lib.hid (by rw [HANS.out,← hris];rfl)
   clear hris
   go_wp2
   go_ret
   rw [HF.out]
   exact ⟨rfl,hbw⟩
end Go.Proofs.YtmoomnpbiifedaaGreat
namespace Go.Proofs.YtmoomnpbiifedaaGreat
open Go Go.RowKit
set_option linter.unusedVariables false
def PMayRel (w:World) (V:Array Value) (n:Nat) (ls:List (List Pn)) (r i:Value) (wr:World):Prop:=
 r= .bool false∧∃ k:Nat,k≤ls.length∧i= .int .i64 (k:Int)∧PBox w V wr∧∀ j (hj:j<ls.length),j<k→mayL n ls[j]=true
theorem last_pn {l:List Pn} {j:Nat} (h:j+1=l.length):l.getLast?=some (l.getD j (0,[])):=by
 rw [List.getLast?_eq_getElem?,List.getD_eq_getElem?_getD,← h]
 simp
 rw [List.getElem?_eq_getElem (by omega)]
 rfl
theorem mayL_iff {n:Nat} {l:List Pn} {j:Nat} (h:j+1=l.length):mayL n l=(mayB' (-1) l&&decide ((l.getD j (0,[])).1<(n:Int))):=by
 unfold mayL
 rw [last_pn h]
 have :l.length≠0:=by omega
 simp [this]
set_option maxHeartbeats 4000000 in
set_option maxRecDepth 100000 in
theorem ref10_May (A1 A2 A3 A4:Option Addr) (n1 c1 n2 c2 n3 c3 n4 c4:Nat) (x:PartsP) (w:World)
  (hx1:x.ids.length=n1) (hx2:x.seqs.length=n2) (hx3:x.keys.length=n3) (hx4:x.lists.length=n4) (hx:PAt w w.heap.size A1 A2 A3 A4 x) (fx:PFew x):
  Calls Tryz.prog 8 #[.agg #[.slice A1 n1 c1,.slice A2 n2 c2,.slice A3 n3 c3,.slice A4 n4 c4]] w fun e w'=>e= .returned (.bool (mayPs x))∧Below w.heap.size w w':=by
 obtain ⟨V,hV⟩:∃ V:Array Value,V=#[.slice A1 n1 c1,.slice A2 n2 c2,.slice A3 n3 c3,.slice A4 n4 c4]:=⟨_,rfl⟩
 obtain ⟨z,hz⟩:∃ z,z=mayPs x:=⟨_,rfl⟩
 obtain ⟨z2,hz2⟩:∃ z,z=risesZ (-1) x.seqs:=⟨_,rfl⟩
 obtain ⟨z3,hz3⟩:∃ z,z=risesN x.keys:=⟨_,rfl⟩
 have hE:mayPs x=(decide (n1=n2)&&(decide (n3=n4)&&(z2&&(z3&&x.lists.all (mayL n1))))):=by rw [hz2,hz3,← hx1,← hx2,← hx3,← hx4];rfl
 have S2:Hid (∀ w1,Below w.heap.size w w1→Calls Tryz.prog 21 #[.slice A2 n2 c2] w1 fun e w'=>e= .returned (.bool z2)∧Below w1.heap.size w1 w'):=Lib.hid fun w1 h=>by
  rw [hz2]
  exact ref04_Rises A2 n2 c2 x.seqs w1 (hx.later h).seqs hx2 (hx2▸fx.2.1)
 have S3:Hid (∀ w1,Below w.heap.size w w1→Calls Tryz.prog 22 #[.slice A3 n3 c3] w1 fun e w'=>e= .returned (.bool z3)∧Below w1.heap.size w1 w'):=Lib.hid fun w1 h=>by
  rw [hz3]
  exact ref07_Rises A3 n3 c3 x.keys w1 (hx.later h).keys hx3 (hx3▸fx.2.2.1)
 have HX4:=Lib.hid hx.lists
 have H4:=Lib.hid hx4
 have HFX:=Lib.hid fx.2.2.2.2
 have hn1:n1≤9223372036854775807:=hx1▸fx.1
 have hn4:n4≤9223372036854775807:=hx4▸fx.2.2.2.1
 have HV:=Lib.hid hV
 rw [← hz]
 rw [hE] at hz
 have HZ:=Lib.hid hz
 clear hV hz hz2 hz3 hx fx hx1 hx2 hx3 hx4 hE
 obtain ⟨w1,hw1⟩:∃ w1,w1=w.alloc (.cells #[.slice A1 n1 c1,.slice A2 n2 c2,.slice A3 n3 c3,.slice A4 n4 c4] 26):=⟨_,rfl⟩
 have hb1:PBox w V w1:=by rw [hw1,HV.out];exact pBox_start w _
 have HW1:=Lib.hid hw1
 have HB1:=Lib.hid hb1
 clear hw1 hb1
 have QS:Hid (∀ wr,PBox w V wr→wr.cell? ⟨w.heap.size,0,none⟩=some (.slice A1 n1 c1)∧wr.cell? ⟨w.heap.size,1,none⟩=some (.slice A2 n2 c2)∧wr.cell? ⟨w.heap.size,2,none⟩=some (.slice A3 n3 c3)∧wr.cell? ⟨w.heap.size,3,none⟩=some (.slice A4 n4 c4)):=Lib.hid fun wr h=>by
  obtain ⟨_,_,h2⟩:=h
  rw [HV.out] at h2
  exact cells4 h2
 go_enter Tryz.func8,Tryz.ntmps8
 obtain ⟨q0,q1,q2,q3⟩:=QS.out _ HB1.out
 go_wp2_with (go_at_call 21;rw [show w.alloc _=w1 from HW1.out.symm];refine (S2.out _ HB1.out.1).mono ?_)
 rintro e w2 ⟨rfl,hb2⟩
 have HB2:Hid (PBox w V w2):=Lib.hid (HB1.out.below hb2)
 clear hb2 S2 q0 q1 q2 q3
 obtain ⟨q0,q1,q2,q3⟩:=QS.out _ HB2.out
 go_wp2_with (go_at_call 22;refine (S3.out _ HB2.out.1).mono ?_)
 rintro e w3 ⟨rfl,hb3⟩
 have HB3:Hid (PBox w V w3):=Lib.hid (HB2.out.below hb3)
 clear hb3 S3 q0 q1 q2 q3
 obtain ⟨q0,q1,q2,q3⟩:=QS.out _ HB3.out
 by_cases h12:n2=n1
 ·subst h12
  by_cases h34:n4=n3
  ·subst h34
   rcases hz2:z2 with _|_
   ·have hzf:z=false:=by rw [HZ.out,hz2];simp
    subst hz2 hzf
    go_wp2
    go_ret
    exact ⟨rfl,HB3.out.1⟩
   rcases hz3:z3 with _|_
   ·have hzf:z=false:=by rw [HZ.out,hz3];simp
    subst hz2 hz3 hzf
    go_wp2
    go_ret
    exact ⟨rfl,HB3.out.1⟩
   have hzl:z=x.lists.all (mayL n2):=by rw [HZ.out,hz2,hz3];simp
   have HZL:=Lib.hid hzl
   subst hz2 hz3
   clear hzl HZ
   go_wp2
   clear q0 q1 q2 q3
   go_loopw [2,5,6,7] (fun r i s t wr=>PMayRel w V n2 x.lists r i wr) (fun _ i _ _ _=>n4-(intOf i).toNat)
   case atStart=>exact ⟨rfl,0,Nat.zero_le _,rfl,HB3.out,fun j _ hj=>by omega⟩
   case round=>
    obtain ⟨rfl,k,hk,rfl,hbox,hall⟩:=hrel
    obtain ⟨q0,q1,q2,q3⟩:=QS.out _ hbox
    have hsz:=hbox.2.1
    have HALL:=Lib.hid hall
    clear hall q1 q2
    by_cases hkm:k<n4
    ·have hlt:k<x.lists.length:=by rw [H4.out];exact hkm
     obtain ⟨b1,o1,A',c',e1,hb1,hc1,hl1,hp1⟩:=(HX4.out.below hbox.1).at_ hlt
     subst e1
     have hi0:(0:Int)≤k:=by omega
     have hi1:(k:Int)<n4:=by omega
     have f1:=HFX.out _ (List.getElem_mem hlt)
     have hno:mayL n2 x.lists[k]=false→z=false:=fun h=>by
      rw [HZL.out]
      exact Bool.eq_false_iff.2 fun e=>by
       have :=List.all_eq_true.1 e _ (List.getElem_mem hlt)
       rw [h] at this
       cases this
     obtain ⟨L,hL⟩:∃ L,L=x.lists[k]:=⟨_,rfl⟩
     rw [← hL] at hc1 hl1 hp1 f1 hno
     have HLK:=Lib.hid hL
     clear hL
     obtain ⟨N,hN⟩:∃ N,N=L.length:=⟨_,rfl⟩
     rw [← hN] at hc1 hl1 f1
     obtain ⟨zk,hzk⟩:∃ z,z=mayB' (-1) L:=⟨_,rfl⟩
     have SM:Hid (Calls Tryz.prog 23 #[.slice A' N c'] wr fun e w'=>e= .returned (.bool zk)∧Below wr.heap.size wr w'):=Lib.hid (by
      rw [hzk]
      exact ref05_May_any A' N c' L wr hN.symm f1.1 (hp1.more (by omega)) f1.2)
     have HP:=Lib.hid (hp1.more (show w.heap.size≤wr.heap.size by omega))
     have HN:=Lib.hid hN
     have HZK:=Lib.hid hzk
     have HBOX:=Lib.hid hbox
     have HNO:=Lib.hid hno
     have hNb:=f1.1
     clear hN hzk f1 hp1 hl1 hbox hno
     go_wp2_with (go_at_call 23;refine SM.out.mono ?_)
     rintro e w5 ⟨rfl,hb5⟩
     have HBX:Hid (PBox w V w5):=Lib.hid (HBOX.out.below hb5)
     have HP5:=Lib.hid (HP.out.below hb5)
     clear hb5 q0 q3
     obtain ⟨q0,q1,q2,q3⟩:=QS.out _ HBX.out
     rcases hzkc:zk with _|_
     ·have hzf:=HNO.out (by unfold mayL;rw [← HZK.out,hzkc];rfl)
      subst hzkc hzf
      go_wp2
      go_quiet (fail)
      go_wp2
      go_ret
      exact ⟨rfl,HBX.out.1.trans ⟨rfl,rfl,rfl,Nat.le_refl _,fun _ _=>rfl⟩⟩
     rcases Nat.eq_zero_or_pos N with hN0|hN0
     ·have hzf:=HNO.out (by unfold mayL;rw [show decide (L.length≠0)=false by rw [← HN.out,hN0];rfl];simp)
      have e4:((N:Int)==0)=true:=by rw [hN0];rfl
      subst hzkc hzf
      clear hN0
      go_wp2
      go_quiet (fail)
      go_wp2
      go_ret
      exact ⟨rfl,HBX.out.1.trans ⟨rfl,rfl,rfl,Nat.le_refl _,fun _ _=>rfl⟩⟩
     ·have e4:((N:Int)==0)=false:=by rw [beq_eq_false_iff_ne];omega
      obtain ⟨j,hj⟩:∃ j,j+1=N:=⟨N-1,by omega⟩
      have hw2:IntKind.i64.wrap ((N:Int)-1)=(j:Int):=by rw [IntWalk.i64_in _ (by omega)];omega
      have hjN:j<N:=by omega
      have hj0:(0:Int)≤j:=by omega
      have hjN':(j:Int)<N:=by omega
      obtain ⟨b3,o3,e3,hb3,hc3,_⟩:=HP5.out.at_ (k:=j) (by rw [← HN.out];exact hjN)
      subst e3
      have HML:Hid (mayL n2 L=(mayB' (-1) L&&decide ((L.getD j (0,[])).1<(n2:Int)))):=Lib.hid (mayL_iff (by rw [← HN.out];exact hj))
      obtain ⟨y,hy⟩:∃ y,y=(L.getD j (0,[])).1:=⟨_,rfl⟩
      rw [← hy] at hc3
      have HY:=Lib.hid hy
      clear hj hy hN0
      by_cases hyn:(n2:Int)≤y
      ·have hzf:=HNO.out (by rw [HML.out,← HY.out,decide_eq_false (by omega)];simp)
       have e6:decide ((n2:Int)≤y)=true:=decide_eq_true hyn
       subst hzkc hzf
       clear hyn
       go_wp2
       go_quiet (fail)
       go_wp2
       go_ret
       exact ⟨rfl,HBX.out.1.trans ⟨rfl,rfl,rfl,Nat.le_refl _,fun _ _=>rfl⟩⟩
      ·have e6:decide ((n2:Int)≤y)=false:=decide_eq_false hyn
       have HOK:Hid (∀ j (hj:j<x.lists.length),j<k+1→mayL n2 x.lists[j]=true):=Lib.hid fun i hi hik=>by
        by_cases e:i=k
        ·subst e
         rw [← HLK.out,HML.out,← HY.out,← HZK.out,hzkc,decide_eq_true (by omega)]
         rfl
        ·exact HALL.out i hi (by omega)
       subst hzkc
       clear hyn
       go_wp2
       go_quiet (fail)
       go_wp2
       go_roundw
       case rel=>exact ⟨rfl,k+1,by omega,by go_num,HBX.out.below ⟨rfl,rfl,rfl,Nat.le_refl _,fun _ _=>rfl⟩,HOK.out⟩
       case measure=>simp [intOf];omega
    ·have hzt:z=true:=by
      rw [HZL.out]
      exact List.all_eq_true.2 fun l hl=>by
       obtain ⟨j,hj,rfl⟩:=List.mem_iff_getElem.1 hl
       exact HALL.out j hj (by have :=H4.out;omega)
     subst hzt
     have HBOX:=Lib.hid hbox
     clear hbox
     go_wp2
     go_ret
     exact ⟨rfl,HBOX.out.1⟩
  ·have hzf:z=false:=by rw [HZ.out,show decide (n3=n4)=false from decide_eq_false fun e=>h34 e.symm];simp
   subst hzf
   have hne:((n3:Int) != (n4:Int))=true:=by simp;omega
   clear h34
   go_wp2
   go_ret
   exact ⟨rfl,HB3.out.1⟩
 ·have hzf:z=false:=by rw [HZ.out,show decide (n1=n2)=false from decide_eq_false fun e=>h12 e.symm];simp
  subst hzf
  have hne:((n1:Int) != (n2:Int))=true:=by simp;omega
  clear h12
  go_wp2
  go_ret
  exact ⟨rfl,HB3.out.1⟩
end Go.Proofs.YtmoomnpbiifedaaGreat
