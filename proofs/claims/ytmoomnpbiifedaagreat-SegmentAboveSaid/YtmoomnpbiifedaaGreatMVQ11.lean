import Derived.Test.YtmoomnpbiifedaaGreatMVQ05
import Derived.Test.YtmoomnpbiifedaaGreatMVQ01
import Derived.Deep.RegionLaw
import Derived.Deep.CutRange
import Derived.Test.YtmoomnpbiifedaaGreatMVQ10
import Derived.Laws.Rows
import Derived.RangeFuncOwn
import Derived.BigCall
import Derived.BigQuiet
import Derived.Deep.QuietTactic
import Derived.Deep.RegionHeld3
import Derived.Test.YtmoomnpbiifedaaGreatMVQ03
import Derived.Test.YtmoomnpbiifedaaGreatMVQ04
import Derived.Test.YtmoomnpbiifedaaGreatMVQ06
import Derived.Shelf.Sort.Plain
import Derived.Shelf.Slices.In.SortNone
import Derived.Sort.OwnSorted
import Derived.Sort.Grow
import Derived.Lib.OwnBridge
import Derived.Test.YtmoomnpbiifedaaGreatMVQ02
import Derived.Test.YtmoomnpbiifedaaGreatMVQ09
set_option linter.unusedVariables false
namespace Go.Proofs.YtmoomnpbiifedaaGreat
open Go Go.RowKit
def ahead (l:List Int) (k:Nat):Int:=if k=0 then-1 else l.getD (k-1) 0
theorem risesZ_drop {l:List Int} {k:Nat} (hk:k<l.length) (last:Int):risesZ last (l.drop k)=(decide (last<l.getD k 0)&&risesZ (l.getD k 0) (l.drop (k+1))):=by
 rw [List.drop_eq_getElem_cons hk,risesZ,List.getD_eq_getElem?_getD,List.getElem?_eq_getElem hk]
 rfl
theorem risesZ_end {l:List Int} {k:Nat} (hk:l.length≤k) (last:Int):risesZ last (l.drop k)=true:=by rw [List.drop_eq_nil_of_le hk];rfl
theorem row_int' {w:World} {B:Nat} {A:Option Addr} {xs:List Int} (h:Row w B A (ints xs)) {k:Nat} (hk:k<xs.length):
  ∃ b off,A=some ⟨b,off,none⟩∧b<B∧w.cell? ⟨b,off+k,none⟩=some (.int .i64 (xs.getD k 0)):=by
 obtain ⟨b,off,h1,h2,h3⟩:=row_int h hk
 refine ⟨b,off,h1,h2,?_⟩
 rw [h3,List.getD_eq_getElem?_getD,List.getElem?_eq_getElem hk]
 rfl
theorem dB_drop {l:List Int} {k:Nat} (hk:k<l.length) (last:Int):dB last (l.drop k)=putB (l.getD k 0-(last+1)).toNat++dB (l.getD k 0) (l.drop (k+1)):=by
 rw [List.drop_eq_getElem_cons hk,dB,List.getD_eq_getElem?_getD,List.getElem?_eq_getElem hk]
 rfl
theorem dB_end {l:List Int} {k:Nat} (hk:l.length≤k) (last:Int):dB last (l.drop k)=[]:=by rw [List.drop_eq_nil_of_le hk];rfl
end Go.Proofs.YtmoomnpbiifedaaGreat
namespace Go.Proofs.YtmoomnpbiifedaaGreat
open Go Go.RowKit
set_option linter.unusedVariables false
end Go.Proofs.YtmoomnpbiifedaaGreat
namespace Go.Proofs.YtmoomnpbiifedaaGreat
open Go Go.RowKit
set_option linter.unusedVariables false
end Go.Proofs.YtmoomnpbiifedaaGreat
set_option linter.unusedVariables false
namespace Go.Proofs.YtmoomnpbiifedaaGreat
open Go Go.RowKit
def endCells:List (Int × Nat)→List Value
 |[]=>[]
 |p::r=> .int .i64 p.1:: .int .i64 (p.2:Int)::endCells r
theorem endCells_length:∀ l:List (Int × Nat),(endCells l).length=l.length*2
 |[]=>rfl
 |p::r=>by simp only [endCells,List.length_cons,endCells_length r];omega
theorem endCells_append:∀ a b:List (Int × Nat),endCells (a++b)=endCells a++endCells b
 |[],b=>rfl
 |p::a,b=>by simp only [List.cons_append,endCells,endCells_append a b]
theorem endCells_at:∀ (l:List (Int × Nat)) (k:Nat) (p:Int × Nat),l[k]?=some p→(endCells l)[k*2]?=some (.int .i64 p.1)∧(endCells l)[k*2+1]?=some (.int .i64 (p.2:Int))
 |[],k,p,h=>by simp at h
 |q::l,0,p,h=>by
  simp only [List.getElem?_cons_zero,Option.some.injEq] at h
  subst h
  exact ⟨rfl,rfl⟩
 |q::l,k+1,p,h=>by
  rw [List.getElem?_cons_succ] at h
  have ih:=endCells_at l k p h
  rw [endCells,show (k+1)*2=k*2+1+1 by omega]
  exact ih
theorem info_end:(Tryz.prog.info? 119).map (fun i=>(i.zero,i.size,i.bytes))=some (some (.agg #[.int .i64 0,.int .i64 0]),2,16):=by kernel_rfl
def endsV (l:List Po):List Value:=endCells (endsC l (blocksP l.length))
theorem endsV_length (l:List Po):(endsV l).length=blocksP l.length*2:=by rw [endsV,endCells_length,endsC_length]
def LAt (w:World) (base B:Nat) (bs:List UInt8) (l:List Po):Prop:=
 base≤B∧∃ vb ve,w.heap[B]?=some (.cells #[vb,ve,.int .i64 (l.length:Int),.int .i64 (totalP l:Int)] 113 (0,0))∧
  w.ownsRow base 5 1 vb bs.length (Lib.byteCells bs)∧w.ownsRow base 119 2 ve (blocksP l.length) (endsV l)
theorem cell_four {w:World} {B:Nat} {a b c d:Value} {t:TypeId} (h:w.heap[B]?=some (.cells #[a,b,c,d] t (0,0))):
  (w.cell? ⟨B,0,none⟩=some a∧w.cell? ⟨B,1,none⟩=some b∧w.cell? ⟨B,2,none⟩=some c∧w.cell? ⟨B,3,none⟩=some d)∧
  w.frozen? ⟨B,0,none⟩=false∧w.frozen? ⟨B,1,none⟩=false∧w.frozen? ⟨B,2,none⟩=false∧w.frozen? ⟨B,3,none⟩=false:=by
 simp [World.cell?,World.frozen?,h]
section
variable {w w':World} {base B:Nat} {bs:List UInt8} {l:List Po}
theorem LAt.lt (h:LAt w base B bs l):B<w.heap.size:=by
 obtain ⟨_,vb,ve,hv,_⟩:=h
 exact (Array.getElem?_eq_some_iff.1 hv).1
theorem LAt.below (h:LAt w base B bs l) (hb:Below w.heap.size w w'):LAt w' base B bs l:=by
 have hl:=h.lt
 obtain ⟨h1,vb,ve,hv,ho,he⟩:=h
 exact ⟨h1,vb,ve,(hb.block B hl).trans hv,owned_below ho hb,owned_below he hb⟩
theorem LAt.cellsKept (h:LAt w base B bs l) (hk:∀ (k:Nat) (o:Obj),w.heap[k]?=some o→o.isCells=true→w'.heap[k]?=some o):LAt w' base B bs l:=by
 obtain ⟨h1,vb,ve,hv,ho,he⟩:=h
 have key:∀ {E:TypeId} {size:Nat} {v:Value} {n:Nat} {xs:List Value},w.ownsRow base E size v n xs→w'.ownsRow base E size v n xs:=fun ho=>by
  refine owned_keep ho fun g hg=> ?_
  rcases ho.2 with ⟨rfl,_⟩|⟨g',cap,cur,rfl,_,hh,_⟩
  ·cases hg
  ·simp only [Value.ownBlock,Option.some.injEq] at hg
   subst hg
   rw [hk _ _ hh rfl,hh]
 exact ⟨h1,vb,ve,hk B _ hv rfl,key ho,key he⟩
theorem LAt.read (h:LAt w base B bs l):∃ Ab cb Ae ce,(w.cell? ⟨B,0,none⟩=some (.slice Ab bs.length cb)∧w.cell? ⟨B,1,none⟩=some (.slice Ae (blocksP l.length) ce)∧w.cell? ⟨B,2,none⟩=some (.int .i64 (l.length:Int))∧w.cell? ⟨B,3,none⟩=some (.int .i64 (totalP l:Int)))∧
  bs.length≤cb∧cb≤maxLen∧blocksP l.length≤ce∧Row w w.heap.size Ab (Lib.byteCells bs)∧Row w w.heap.size Ae (endsV l)∧(Ab=none→bs.length=0∧cb=0):=by
 obtain ⟨_,vb,ve,hv,ho,he⟩:=h
 have hx:=(cell_four hv).1
 obtain ⟨Ae,ce,rfl,hce,hre⟩:=owned_row he
 rcases ho.2 with ⟨rfl,h0⟩|⟨g,c,cur,rfl,_,_,hnc,hcm,_,_⟩
 ·exact ⟨none,0,Ae,ce,by rw [h0];exact hx,by omega,by unfold maxLen;omega,hce,by rw [List.eq_nil_of_length_eq_zero h0];exact Row.nil,hre,fun _=>⟨h0,rfl⟩⟩
 ·exact ⟨_,c,Ae,ce,hx,hnc,hcm,hce,owned_row_of ho,hre,fun e=>by cases e⟩
end
def LIn (w:World) (B:Nat) (bs:List UInt8) (l:List Po):Prop:=
 B<w.heap.size∧∃ Ab cb Ae ce,(w.cell? ⟨B,0,none⟩=some (.slice Ab bs.length cb)∧w.cell? ⟨B,1,none⟩=some (.slice Ae (blocksP l.length) ce)∧w.cell? ⟨B,2,none⟩=some (.int .i64 (l.length:Int))∧w.cell? ⟨B,3,none⟩=some (.int .i64 (totalP l:Int)))∧
  bs.length≤cb∧cb≤maxLen∧blocksP l.length≤ce∧Row w w.heap.size Ab (Lib.byteCells bs)∧Row w w.heap.size Ae (endsV l)
theorem LAt.in_ {w:World} {base B:Nat} {bs:List UInt8} {l:List Po} (h:LAt w base B bs l):LIn w B bs l:=by
 obtain ⟨Ab,cb,Ae,ce,h1,h2,h3,h4,h5,h6,_⟩:=h.read
 exact ⟨h.lt,Ab,cb,Ae,ce,h1,h2,h3,h4,h5,h6⟩
theorem row_end {w:World} {D:Nat} {A:Option Addr} {l:List Po} (h:Row w D A (endsV l)) {k:Nat} (hk:k<blocksP l.length):
  ∃ b off,A=some ⟨b,off,none⟩∧b<D∧w.cell? ⟨b,off+k*2,none⟩=some (.int .i64 (docOf (-1) (l.take (8*(k+1)))))∧w.cell? ⟨b,off+k*2+1,none⟩=some (.int .i64 ((bytesP (-1) (l.take (8*(k+1)))).length:Int)):=by
 obtain ⟨b,off,rfl,hb,hc⟩:=h.at_ (by rw [endsV_length];omega)
 have h2:=endCells_at _ _ _ (endsC_at l (blocksP l.length) k hk)
 exact ⟨b,off,rfl,hb,hc _ _ h2.1,by rw [Nat.add_assoc];exact hc _ _ h2.2⟩
section
variable (B:Nat) (bs:List UInt8) (l:List Po) (w:World) (h:LIn w B bs l)
include h
theorem in_Blocks:Calls Tryz.prog 104 #[.pointer (some ⟨B,0,none⟩)] w fun e w'=>e= .returned (.int .i64 (blocksP l.length:Int))∧w=w':=by
 obtain ⟨_,Ab,cb,Ae,ce,⟨c0,c1,c2,c3⟩,_⟩:=h
 go_enter Tryz.func104,Tryz.ntmps104
 go_wp2
 go_ret
 exact ⟨rfl,rfl⟩
theorem in_ahead (k:Nat) (hk:k≤blocksP l.length) (hl:l.length≤1073741824):Calls Tryz.prog 103 #[.pointer (some ⟨B,0,none⟩),.int .i64 (k:Int)] w fun e w'=>
  e= .returned (.agg #[.int .i64 (docOf (-1) (l.take (8*k))),.int .i64 ((bytesP (-1) (l.take (8*k))).length:Int)])∧Below w.heap.size w w':=by
 have hlt:=h.1
 obtain ⟨_,Ab,cb,Ae,ce,⟨c0,c1,c2,c3⟩,_,_,hce,_,hre⟩:=h
 have hbl:blocksP l.length≤1073741824:=by unfold blocksP;omega
 clear c0 c2 c3
 rcases Nat.eq_zero_or_pos k with rfl|hpos
 ·go_enter Tryz.func103,Tryz.ntmps103
  go_wp2
  refine bodyPost_ret (results_cell_row (P:=Tryz.prog) rfl _ _ w.heap.size 119 _ (0,0) _ rfl (by first|rfl|exact heap_alloc_new _ _) Tryz.underlying119 rfl (by kernel_rfl)) rfl ?_
  exact ⟨rfl,by repeat (first|exact (Below.refl _ _).alloc (Nat.le_refl _) _|refine Below.setCell ?_ (by simp) _)⟩
 ·obtain ⟨j,rfl⟩:∃ j,k=j+1:=⟨k-1,by omega⟩
  obtain ⟨b,o,rfl,hb,e0,e1⟩:=row_end hre (k:=j) (by omega)
  obtain ⟨n,hn⟩:∃ n,n=blocksP l.length:=⟨_,rfl⟩
  rw [← hn] at c1 hk hce hbl
  obtain ⟨x,hx⟩:∃ x,x=docOf (-1) (l.take (8*(j+1))):=⟨_,rfl⟩
  obtain ⟨y,hy⟩:∃ y,y=(bytesP (-1) (l.take (8*(j+1)))).length:=⟨_,rfl⟩
  rw [← hx] at e0 ⊢
  rw [← hy] at e1 ⊢
  have hj:((j+1:Nat):Int)=(j:Int)+1:=by omega
  have hz:((j:Int)+1==0)=false:=by rw [beq_eq_false_iff_ne];omega
  rw [hj]
  have hjn:j<n:=by omega
  clear hn hx hy hre hj hk hpos
  go_enter Tryz.func103,Tryz.ntmps103
  go_wp2
  refine bodyPost_ret (results_cell_row (P:=Tryz.prog) rfl _ _ w.heap.size 119 _ (0,0) _ rfl (by first|rfl|exact heap_alloc_new _ _) Tryz.underlying119 rfl (by kernel_rfl)) rfl ?_
  exact ⟨rfl,by repeat (first|exact (Below.refl _ _).alloc (Nat.le_refl _) _|refine Below.setCell ?_ (by simp) _)⟩
end
section
variable (base B:Nat) (bs:List UInt8) (l:List Po) (w:World) (h:LAt w base B bs l)
include h
theorem list_Blocks:Calls Tryz.prog 104 #[.pointer (some ⟨B,0,none⟩)] w fun e w'=>e= .returned (.int .i64 (blocksP l.length:Int))∧w=w':=in_Blocks B bs l w h.in_
theorem list_ahead (k:Nat) (hk:k≤blocksP l.length) (hl:l.length≤1073741824):Calls Tryz.prog 103 #[.pointer (some ⟨B,0,none⟩),.int .i64 (k:Int)] w fun e w'=>
  e= .returned (.agg #[.int .i64 (docOf (-1) (l.take (8*k))),.int .i64 ((bytesP (-1) (l.take (8*k))).length:Int)])∧Below w.heap.size w w':=in_ahead B bs l w h.in_ k hk hl
end
end Go.Proofs.YtmoomnpbiifedaaGreat
namespace Go.Proofs.YtmoomnpbiifedaaGreat
open Go Go.RowKit
set_option linter.unusedVariables false
end Go.Proofs.YtmoomnpbiifedaaGreat
set_option linter.unusedVariables false
namespace Go.Proofs.YtmoomnpbiifedaaGreat
open Go Go.RowKit
theorem cells3 {w:World} {b:Nat} {x y z:Value} {t:TypeId} (h:w.heap[b]?=some (.cells #[x,y,z] t (0,0))):w.cell? ⟨b,0,none⟩=some x∧w.cell? ⟨b,1,none⟩=some y∧w.cell? ⟨b,2,none⟩=some z:=by
 simp [World.cell?,h]
structure PSmall (x:PartsP):Prop where
 ids:x.ids.length≤1048576
 keys:x.keys.length≤1048576
 lists:∀ l∈x.lists,l.length≤1000∧totalP l≤40000000000
structure SegAt (w:World) (S:Nat) (x:PartsP):Prop where
 cells:∃ A1 c1 A2 c2 A3 c3,w.heap[S]?=some (.cells #[.slice A1 x.ids.length c1,.slice A2 x.seqs.length c2,.slice A3 x.keys.length c3] 76 (0,0))∧x.ids.length≤c1∧x.seqs.length≤c2∧Row w w.heap.size A1 (ints x.ids)∧Row w w.heap.size A2 (ints x.seqs)
 dict:∃ bl:List Nat,DictR w S 2 x.keys bl∧∀ i (h:i<x.lists.length),∃ base,LAt w base (bl.getD i 0) (bytesP (-1) x.lists[i]) x.lists[i]
 may:mayPs x=true
 small:PSmall x
section
variable {w w':World} {S:Nat} {x:PartsP}
theorem SegAt.lt (h:SegAt w S x):S<w.heap.size:=by obtain ⟨bl,h,_⟩:=h.dict;exact h.lt
theorem SegAt.below (h:SegAt w S x) (hb:Below w.heap.size w w'):SegAt w' S x:=by
 have hlt:=h.lt
 obtain ⟨⟨A1,c1,A2,c2,A3,c3,h1,h2,h3,h4,h5⟩,⟨bl,h6,h7⟩,h8,h9⟩:=h
 refine ⟨⟨A1,c1,A2,c2,A3,c3,(hb.block S hlt).trans h1,h2,h3,Row.later h4 hb,Row.later h5 hb⟩,⟨bl,h6.below hb,fun i hi=> ?_⟩,h8,h9⟩
 obtain ⟨base,h⟩:=h7 i hi
 exact ⟨base,h.below hb⟩
theorem mayPs_iff {x:PartsP}:mayPs x=true↔x.ids.length=x.seqs.length∧x.keys.length=x.lists.length∧risesZ (-1) x.seqs=true∧risesN x.keys=true∧∀ l∈x.lists,mayL x.ids.length l=true:=by
 simp [mayPs]
theorem mayL_may {n:Nat} {l:List Pn} (h:mayL n l=true):mayB' (-1) l=true∧l≠[]:=by
 simp only [mayL,Bool.and_eq_true,decide_eq_true_eq] at h
 exact ⟨h.1,fun e=>h.2.1 (by rw [e];rfl)⟩
theorem SegAt.seqs (h:SegAt w S x):x.ids.length=x.seqs.length:=(mayPs_iff.1 h.may).1
theorem SegAt.keys (h:SegAt w S x):x.keys.length=x.lists.length:=(mayPs_iff.1 h.may).2.1
end
def idAt (l:List Int) (i:Int):Int:=if 0≤i∧i<(l.length:Int) then l.getD i.toNat 0 else-1
set_option maxHeartbeats 1000000 in
set_option maxRecDepth 100000 in
theorem seg_at (A:Option Addr) (n c:Nat) (i:Int) (l:List Int) (w:World) (hr:Row w w.heap.size A (ints l)) (hn:l.length=n):
  Calls Tryz.prog 70 #[.slice A n c,.int .i64 i] w fun e w'=>e= .returned (.int .i64 (idAt l i))∧Below w.heap.size w w':=by
 by_cases h0:i<0
 ·have hv:idAt l i= -1:=if_neg (by omega)
  have e0:decide (i<0)=true:=decide_eq_true h0
  rw [hv]
  clear hv hr hn
  go_enter Tryz.func70,Tryz.ntmps70
  go_wp2
  go_ret
  exact ⟨rfl,Below.refl _ _⟩
 ·have e0:decide (i<0)=false:=decide_eq_false h0
  by_cases h1:(n:Int)≤i
  ·have hv:idAt l i= -1:=if_neg (by omega)
   have e1:decide ((n:Int)≤i)=true:=decide_eq_true h1
   rw [hv]
   clear hv hr hn
   go_enter Tryz.func70,Tryz.ntmps70
   go_wp2
   go_ret
   exact ⟨rfl,Below.refl _ _⟩
  ·have e1:decide ((n:Int)≤i)=false:=decide_eq_false h1
   obtain ⟨k,rfl⟩:∃ k:Nat,i=(k:Int):=⟨i.toNat,by omega⟩
   have hk:k<l.length:=by omega
   obtain ⟨b,off,rfl,hb,hc⟩:=row_int hr hk
   have hv:idAt l (k:Int)=l[k]:=by
    unfold idAt
    rw [if_pos ⟨by omega,by omega⟩]
    simp [List.getD_eq_getElem?_getD,hk]
   rw [hv]
   obtain ⟨y,hy⟩:∃ y,y=l[k]:=⟨_,rfl⟩
   rw [← hy] at hc ⊢
   have hi0:(0:Int)≤k:=by omega
   have hi1:(k:Int)<n:=by omega
   clear hv hy hr h0 h1 hk hn
   go_enter Tryz.func70,Tryz.ntmps70
   go_wp2
   go_ret
   exact ⟨rfl,Below.refl _ _⟩
def SegRiseRel (l:List Int) (w:World) (r last i:Value) (wr:World):Prop:=r= .bool false∧∃ (k:Nat) (x:Int),k≤l.length∧i= .int .i64 (k:Int)∧last= .int .i64 x∧risesZ x (l.drop k)=risesZ (-1) l∧Below w.heap.size w wr
set_option maxHeartbeats 1000000 in
set_option maxRecDepth 100000 in
theorem seg_rise (A:Option Addr) (n c:Nat) (l:List Int) (w:World) (hr:Row w w.heap.size A (ints l)) (hn:l.length=n) (hl:n≤9223372036854775807):
  Calls Tryz.prog 27 #[.slice A n c] w fun e w'=>e= .returned (.bool (risesZ (-1) l))∧Below w.heap.size w w':=by
 have HR:=Lib.hid hr
 clear hr
 obtain ⟨ans,hans⟩:∃ ans,ans=risesZ (-1) l:=⟨_,rfl⟩
 rw [← hans]
 have HA:=Lib.hid hans
 have HN:=Lib.hid hn
 clear hans hn
 go_enter Tryz.func27,Tryz.ntmps27
 go_wp2
 go_loopw [2,3,8] (fun r last i wr=>SegRiseRel l w r last i wr) (fun _ _ i _=>n-(intOf i).toNat)
 case atStart=>exact ⟨rfl,0, -1,Nat.zero_le _,rfl,rfl,rfl,Below.refl _ _⟩
 case round=>
  obtain ⟨rfl,k,x,hk,rfl,rfl,hx,hbw⟩:=hrel
  rw [HN.out] at hk
  by_cases hlt:k<n
  ·have hkl:k<l.length:=by rw [HN.out];exact hlt
   obtain ⟨b1,o1,rfl,_,hc1⟩:=row_int (HR.out.below hbw) hkl
   have hdr:l.drop k=l[k]::l.drop (k+1):=List.drop_eq_getElem_cons hkl
   rw [hdr,risesZ] at hx
   obtain ⟨y,hy⟩:∃ y,y=l[k]:=⟨_,rfl⟩
   rw [← hy] at hc1 hx
   have hi0:(0:Int)≤k:=by omega
   have hi1:(k:Int)<n:=by omega
   clear hy hdr
   by_cases hxy:y≤x
   ·have hv:ans=false:=by rw [HA.out,← hx,decide_eq_false (by omega)];rfl
    have d1:decide (y≤x)=true:=decide_eq_true hxy
    subst hv
    clear hx hkl hxy
    go_wp2
    go_ret
    exact ⟨rfl,hbw⟩
   ·have d1:decide (y≤x)=false:=decide_eq_false hxy
    rw [decide_eq_true (by omega),Bool.true_and] at hx
    have HX:=Lib.hid hx
    clear hx hkl hxy
    go_wp2
    go_roundw
    case rel=>exact ⟨rfl,k+1,y,by rw [HN.out];omega,by go_num,rfl,HX.out,hbw⟩
    case measure=>simp [intOf];omega
  ·have hv:ans=true:=by
    rw [HA.out,← hx,List.drop_of_length_le (by rw [HN.out];omega)]
    rfl
   subst hv
   clear hx
   go_wp2
   go_ret
   exact ⟨rfl,hbw⟩
section
variable {w:World} {S:Nat} {x:PartsP}
set_option maxHeartbeats 1000000 in
theorem seg_Len (h:SegAt w S x):Calls Tryz.prog 31 #[.pointer (some ⟨S,0,none⟩)] w fun e w'=>e= .returned (.int .i64 (x.ids.length:Int))∧Below w.heap.size w w':=by
 obtain ⟨A1,c1,A2,c2,A3,c3,h1,_⟩:=h.cells
 obtain ⟨q0,q1,q2⟩:=cells3 h1
 clear h h1
 go_enter Tryz.func31,Tryz.ntmps31
 go_wp2
 go_ret
 exact ⟨rfl,Below.refl _ _⟩
set_option maxHeartbeats 1000000 in
theorem seg_Id (h:SegAt w S x) (i:Int):Calls Tryz.prog 35 #[.pointer (some ⟨S,0,none⟩),.int .i64 i] w fun e w'=>e= .returned (.int .i64 (idAt x.ids i))∧Below w.heap.size w w':=by
 obtain ⟨A1,c1,A2,c2,A3,c3,h1,h2,h3,h4,h5⟩:=h.cells
 obtain ⟨q0,q1,q2⟩:=cells3 h1
 have C1:=Lib.hid (seg_at A1 _ c1 i x.ids w h4 rfl)
 clear h h1 h2 h3 h4 h5
 go_enter Tryz.func35,Tryz.ntmps35
 go_wp2_with (go_at_call 70;refine C1.out.mono ?_;rintro e w' ⟨rfl,hb⟩)
 go_ret
 exact ⟨rfl,hb⟩
set_option maxHeartbeats 1000000 in
theorem seg_Seq (h:SegAt w S x) (i:Int):Calls Tryz.prog 36 #[.pointer (some ⟨S,0,none⟩),.int .i64 i] w fun e w'=>e= .returned (.int .i64 (idAt x.seqs i))∧Below w.heap.size w w':=by
 obtain ⟨A1,c1,A2,c2,A3,c3,h1,h2,h3,h4,h5⟩:=h.cells
 obtain ⟨q0,q1,q2⟩:=cells3 h1
 have C1:=Lib.hid (seg_at A2 _ c2 i x.seqs w h5 rfl)
 clear h h1 h2 h3 h4 h5
 go_enter Tryz.func36,Tryz.ntmps36
 go_wp2_with (go_at_call 70;refine C1.out.mono ?_;rintro e w' ⟨rfl,hb⟩)
 go_ret
 exact ⟨rfl,hb⟩
end
end Go.Proofs.YtmoomnpbiifedaaGreat
namespace Go.Proofs.YtmoomnpbiifedaaGreat
open Go Go.RowKit
set_option linter.unusedVariables false
end Go.Proofs.YtmoomnpbiifedaaGreat
set_option linter.unusedVariables false
namespace Go.Proofs.YtmoomnpbiifedaaGreat
open Go Go.RowKit
theorem own_more {base:Nat} {w':World} {v':Value} {a b:List UInt8} {m:Nat} (hm:b.length=m) (hown:w'.ownsRow base 5 1 v' (a.length+m) (Lib.byteCells a++Lib.byteCells b)):Own base w' v' (a++b):=by
 unfold Own
 rw [Lib.byteCells_append,List.length_append,hm]
 exact hown
theorem drop_po {l:List Po} {k:Nat} (hk:k<l.length):l.drop k=l.getD k (0,[])::l.drop (k+1):=by
 rw [List.drop_eq_getElem_cons hk,List.getD_eq_getElem?_getD,List.getElem?_eq_getElem hk]
 rfl
theorem docOf_getD:∀ {l:List Po} {x:Int},0<l.length→docOf x l=(l.getD (l.length-1) (0,[])).1
 |[],_,h=>by simp at h
 |[p],x,_=>rfl
 |p::q::r,x,_=>by
  have ih:=docOf_getD (l:=q::r) (x:=p.1) (by simp)
  rw [docOf,ih]
  simp
theorem totalP_le:∀ {l:List Po} {n:Nat},(∀ p∈l,p.2.length≤n)→totalP l≤l.length*n
 |[],_,_=>by simp [totalP]
 |p::r,n,h=>by
  have h1:=h p (by simp)
  have h2:=totalP_le (l:=r) fun q hq=>h q (by simp [hq])
  rw [totalP,List.length_cons,Nat.add_mul,Nat.one_mul]
  omega
theorem totalP_take {l:List Po} {k:Nat} (hk:k<l.length):totalP (l.take (k+1))=totalP (l.take k)+(l.getD k (0,[])).2.length:=by
 have e:∀ (a b:List Po),totalP (a++b)=totalP a+totalP b:=by
  intro a
  induction a with
  |nil=>intro b;simp [totalP]
  |cons p r ih=>intro b;simp [totalP,ih,Nat.add_assoc]
 rw [List.take_succ_eq_append_getElem hk,e,List.getD_eq_getElem?_getD,List.getElem?_eq_getElem hk]
 simp [totalP]
theorem totalP_le_take {l:List Po} (k:Nat):totalP (l.take k)≤totalP l:=by
 have e:∀ (a b:List Po),totalP (a++b)=totalP a+totalP b:=by
  intro a
  induction a with
  |nil=>intro b;simp [totalP]
  |cons p r ih=>intro b;simp [totalP,ih,Nat.add_assoc]
 have h:=e (l.take k) (l.drop k)
 rw [List.take_append_drop] at h
 omega
end Go.Proofs.YtmoomnpbiifedaaGreat
namespace Go.Proofs.YtmoomnpbiifedaaGreat
open Go Go.RowKit
set_option linter.unusedVariables false
theorem cells4 {w:World} {b:Nat} {x y z u:Value} {t:TypeId} (h:w.heap[b]?=some (.cells #[x,y,z,u] t (0,0))):w.cell? ⟨b,0,none⟩=some x∧w.cell? ⟨b,1,none⟩=some y∧w.cell? ⟨b,2,none⟩=some z∧w.cell? ⟨b,3,none⟩=some u:=by
 simp [World.cell?,h]
end Go.Proofs.YtmoomnpbiifedaaGreat
namespace Go.Proofs.YtmoomnpbiifedaaGreat
open Go Go.RowKit
set_option linter.unusedVariables false
end Go.Proofs.YtmoomnpbiifedaaGreat
namespace Go.Proofs.YtmoomnpbiifedaaGreat
open Go Go.RowKit
set_option linter.unusedVariables false
end Go.Proofs.YtmoomnpbiifedaaGreat
namespace Go.Proofs.YtmoomnpbiifedaaGreat
open Go Go.RowKit
set_option linter.unusedVariables false
end Go.Proofs.YtmoomnpbiifedaaGreat
namespace Go.Proofs.YtmoomnpbiifedaaGreat
open Go Go.RowKit
set_option linter.unusedVariables false
def PFew (x:PartsP):Prop:=x.ids.length≤9223372036854775807∧x.seqs.length≤9223372036854775807∧x.keys.length≤9223372036854775807∧x.lists.length≤9223372036854775807∧∀ l∈x.lists,l.length≤9223372036854775807∧∀ p∈l,p.2.length≤9223372036854775807
structure PAt (w:World) (B:Nat) (A1 A2 A3 A4:Option Addr) (x:PartsP):Prop where
 ids:Row w B A1 (ints x.ids)
 seqs:Row w B A2 (ints x.seqs)
 keys:Row w B A3 (strs x.keys)
 lists:LPosts w B A4 x.lists
theorem PAt.later {w w':World} {A1 A2 A3 A4:Option Addr} {x:PartsP} (h:PAt w w.heap.size A1 A2 A3 A4 x) (hb:Below w.heap.size w w'):PAt w' w'.heap.size A1 A2 A3 A4 x:=
 ⟨Row.later h.ids hb,Row.later h.seqs hb,Row.later h.keys hb,h.lists.later hb⟩
end Go.Proofs.YtmoomnpbiifedaaGreat
set_option linter.unusedVariables false
namespace Go.Proofs.YtmoomnpbiifedaaGreat
open Go Go.RowKit
open Go.ChangeMaps (setBlock)
attribute [local go_sem] Oper.semAt_some
def encK (x:Nm):Array Value:=#[kV x]
def ItK (W:World) (r B c:Nat) (m:List EntK) (pre:List Nm):Prop:=∃ seen:List Nat,W.heap[r]?=some (.mapIter (some B) (c+m.length) (seen.map (c+·)).toArray (c+m.length))∧seen.Nodup∧(∀ b∈seen,b<m.length)∧pre=seen.map fun b=>(m.map (·.1)).getD b []
theorem entsK_mem {m:List EntK} {i:Nat} {e:MapEntry} (h:e∈entsK i m):∃ (k:Nat) (hk:k<m.length),e={key:=kV m[k].1,val:=m[k].2,born:=i+k}:=by
 obtain ⟨k,hk,rfl⟩:=List.getElem_of_mem h
 rw [entsK_length] at hk
 refine ⟨k,hk,?_⟩
 have :=entsK_at (i:=i) hk
 rw [List.getElem?_eq_getElem (by rw [entsK_length];exact hk)] at this
 exact Option.some.inj this
theorem entsK_borns:∀ (m:List EntK) (i:Nat),(entsK i m).map (·.born)=List.range' i m.length
 |[],i=>rfl
 |e::m,i=>by rw [entsK,List.map_cons,entsK_borns m (i+1),List.length_cons,List.range'_succ]
theorem ItK.done {c:Nat} {m:List EntK} {seen:List Nat} (hn:seen.Nodup) (hs:∀ b∈seen,b<m.length) (h0:(leftOf (entsK c m).toArray (seen.map (c+·)).toArray).size=0):(seen.map fun b=>(m.map (·.1)).getD b []).Perm (m.map (·.1)):=by
 have hall:=all_seen _ _ h0
 have hp:seen.Perm (List.range m.length):=by
  refine (List.perm_ext_iff_of_nodup hn List.nodup_range).2 fun b=>⟨fun hb=>List.mem_range.2 (hs b hb),fun hb=> ?_⟩
  have hb:=List.mem_range.1 hb
  have he:=entsK_at (i:=c) hb
  have :=hall _ (List.mem_of_getElem? (by simpa using he))
  simpa using this
 have h1:=hp.map fun b=>(m.map (·.1)).getD b ([]:Nm)
 refine h1.trans (List.Perm.of_eq ?_)
 apply List.ext_getElem
 ·simp
 ·intro i h2 h3
  have hi:i<m.length:=by simpa using h3
  simp [List.getD_eq_getElem?_getD,hi]
section
variable {F:Fence} {n:Nat} (w:World) {ops:Array Oper} {rest:List Oper} {o:Oper} {a:Act} {Q:Exit→Act→World→Prop}
theorem wpListIn_range_ks (hg:o.guard=none) (x:Operand) (hop:o.op=Op.range 142 x) (B c:Nat) (m:List EntK) (hx:a.eval x= .map (some B)) (hm:MapK w B c m)
  (hK:wpListIn F n Tryz.prog ops Q rest (a.put o.dst (.pointer (some ⟨w.heap.size,0,none⟩))) (w.alloc (.mapIter (some B) (c+m.length) #[] (c+m.length)))):
  wpListIn F n Tryz.prog ops Q (o::rest) a w:=by
 refine wpListIn_plain hg fun K' hK'=> ?_
 have hrun:=run_range_map (P:=Tryz.prog) w 142 _ _ B _ _ Tryz.underlying142 hm
 unfold Oper.wpIn
 refine ⟨by simp [Oper.about,hop],?_⟩
 rw [Oper.semAt_plain F _ _ (by rw [hop];intro c hc';cases hc')]
 simp [execOp,hop,hx,hrun,Result.andThen]
 exact hK' _ _ hK
theorem wpListIn_next_ks (hg:o.guard=none) (it:Operand) (hop:o.op=Op.next it false) (base r B c:Nat) (m:List EntK) (pre:List Nm) (hit:a.eval it= .pointer (some ⟨r,0,none⟩)) (hm:MapK w B c m) (hi:ItK w r B c m pre) (hb:base≤r)
  (hDone:pre.Perm (m.map (·.1))→wpListIn F n Tryz.prog ops Q rest (a.put o.dst (.tuple #[.bool false])) w)
  (hMore:∀ (t:Nm) (v:Value) (w':World),pre.length<m.length→MvIt base w w'→ItK w' r B c m (pre++[t])→(Instr.entry (.pointer (some ⟨r,0,none⟩))).run Tryz.prog w'= .ok (.tuple #[kV t,v]) w'→wpListIn F n Tryz.prog ops Q rest (a.put o.dst (.tuple #[.bool true,kV t,v])) w'):
  wpListIn F n Tryz.prog ops Q (o::rest) a w:=by
 refine wpListIn_plain hg fun K' hK'=> ?_
 unfold Oper.wpIn
 refine ⟨by simp [Oper.about,hop],?_⟩
 rw [Oper.semAt_plain F _ _ (by rw [hop];intro c hc';cases hc')]
 obtain ⟨seen,hr,hn,hs,rfl⟩:=hi
 have hold:∀ x∈(entsK c m).toArray.toList,x.born<c+m.length:=fun x hx=>by
  obtain ⟨k,hk,rfl⟩:=entsK_mem (by simpa using hx)
  simpa using hk
 rcases run_next_at (P:=Tryz.prog) w o.type r B (c+m.length) (c+m.length) (seen.map (c+·)).toArray (entsK c m).toArray (c+m.length) hr hm hold (Nat.le_refl _) with ⟨h0,hrun⟩|⟨e,he,w1,hw1,hrun⟩
 ·simp [execOp,hop,hit,hrun,Result.andThen]
  exact hK' _ _ (hDone (ItK.done hn hs h0))
 ·obtain ⟨he1,he2⟩:=mem_left he
  obtain ⟨k,hk,hek⟩:=entsK_mem (m:=m) (i:=c) (e:=e) (by simpa using he1)
  have hbk:e.born=c+k:=by rw [hek]
  have hkk:e.key=kV m[k].1:=by rw [hek]
  rw [hbk] at he2 hrun
  have hks:k∉seen:=by simpa using he2
  have hpush:(seen.map (c+·)).toArray.push (c+k)=((seen++[k]).map (c+·)).toArray:=by simp
  rw [hpush] at hrun
  obtain ⟨hmv,hr2⟩:=setBlock_moved (base:=base) hw1 hr hb (.mapIter (some B) (c+m.length) ((seen++[k]).map (c+·)).toArray (c+m.length))
  have hm2:MapK (setBlock w1 r (.mapIter (some B) (c+m.length) ((seen++[k]).map (c+·)).toArray (c+m.length))) B c m:=hmv.keep _ _ hm (by simp)
  have hen:=run_entry_at (P:=Tryz.prog) _ r B (c+m.length) (seen.map (c+·)).toArray (entsK c m).toArray (c+m.length) e (by rw [hbk,hpush];exact hr2) hm2 he1 (by simp [entsK_borns,List.nodup_range'])
  rw [hkk] at hen hrun
  simp only [execOp,hop,hit,hrun,Sem.run_bind,Sem.run_pure,Result.andThen]
  have hlen:seen.length<m.length:=by
   have h1:(seen++[k]).Nodup:=by rw [List.nodup_append];exact ⟨hn,by simp,fun x hx y hy e=>by rw [List.mem_singleton] at hy;subst hy;subst e;exact hks hx⟩
   have h2:(seen++[k]).length≤m.length:=by
    refine nodup_lt _ _ h1 fun b hb=> ?_
    rcases List.mem_append.1 hb with hb|hb
    ·exact hs b hb
    ·rw [List.mem_singleton.1 hb];exact hk
   rw [List.length_append,List.length_singleton] at h2
   omega
  refine hK' _ _ (hMore m[k].1 e.val _ (by simpa using hlen) hmv ⟨seen++[k],hr2,?_,?_,?_⟩ hen)
  ·rw [List.nodup_append]
   exact ⟨hn,by simp,fun x hx y hy e=>by rw [List.mem_singleton] at hy;subst hy;subst e;exact hks hx⟩
  ·intro b hb
   rcases List.mem_append.1 hb with hb|hb
   ·exact hs b hb
   ·rw [List.mem_singleton.1 hb];exact hk
  ·rw [List.map_append]
   congr 1
   simp [List.getD_eq_getElem?_getD,hk]
end
end Go.Proofs.YtmoomnpbiifedaaGreat
set_option linter.unusedVariables false
namespace Go.Proofs.YtmoomnpbiifedaaGreat
open Go Go.RowKit
attribute [local go_sem] Oper.semAt_some
set_option maxHeartbeats 1000000 in
theorem maps_KeysP (B:Nat) (w:World):
  Calls Tryz.prog 90 #[.map (some B)] w fun e w'=>e= .returned (.func (.func 120) #[] #[.pointer (some ⟨w.heap.size,0,none⟩)])∧w'=w.alloc (.cells #[.map (some B)] 142):=by
 go_enter Tryz.func90,Tryz.ntmps90
 go_wp2
 go_ret
 exact ⟨rfl,rfl⟩
def KeysRelP (base r B c:Nat) (m:List EntK) (w0:World) (J:List Nm→World→Prop) (wr:World):Prop:=∃ pre:List Nm,ItK wr r B c m pre∧MapK wr B c m∧J pre wr∧w0.heap.size≤wr.heap.size
theorem leftIt_ofK {W:World} {r B c:Nat} {m:List EntK} {pre:List Nm} (h:ItK W r B c m pre):leftIt r m.length W=m.length-pre.length:=by
 obtain ⟨seen,h1,_,_,rfl⟩:=h
 simp [leftIt,h1]
set_option maxHeartbeats 4000000 in
set_option maxRecDepth 100000 in
theorem keys_movedP (q b Bx B c:Nat) (m:List EntK) (w:World) (hq:1≤q) (hb:b≤w.heap.size) (hm:MapK w B c m) (hc:w.cell? ⟨Bx,0,none⟩=some (.map (some B))):
  Moved q Tryz.prog 120 #[.pointer (some ⟨Bx,0,none⟩)] encK (MvIt w.heap.size) (KpIt b) (fun pre _ _=>pre.length<m.length) (fun xs=>xs.Perm (m.map (·.1))) w:=by
 intro lp J W hW hJ hY h0
 have hmW:MapK W B c m:=(hW.block B (Array.getElem?_eq_some_iff.1 hm).1).trans hm
 have hcW:=(hW.cell (p:=⟨Bx,0,none⟩) (World.block_lt_of_cell? w _ hc)).trans hc
 have HJ:=Lib.hid hJ
 have HY:=Lib.hid hY
 have hszW:=hW.size
 obtain ⟨r,hr⟩:∃ r,r=W.heap.size:=⟨_,rfl⟩
 obtain ⟨w2,hw2⟩:∃ w2,w2=W.alloc (.mapIter (some B) (c+m.length) #[] (c+m.length)):=⟨_,rfl⟩
 have hb2:Below W.heap.size W w2:=by rw [hw2];exact (Below.refl _ _).alloc (Nat.le_refl _) _
 have hrel0:KeysRelP b r B c m W J w2:=by
  refine ⟨[],⟨[],by rw [hw2,hr];exact heap_alloc_new _ _,by simp,by simp,rfl⟩,(hb2.block B (Array.getElem?_eq_some_iff.1 hmW).1).trans hmW,hJ _ _ _ h0 (MvIt.of hb2 hszW),hb2.size⟩
 have HREL:=Lib.hid hrel0
 have HW2:=Lib.hid hw2
 have hrb:w.heap.size≤r:=by omega
 have HR:=Lib.hid hr
 clear hJ hY h0 hm hc hW hrel0 hw2 hb2 hr
 refine callsIn_of_wp Tryz.func120 rfl trivial ?_ rfl
 simp only [Tryz.ntmps120,List.size_toArray,List.length_cons,List.length_nil,Nat.reduceAdd,Nat.reduceSub,Array.replicate_succ,Array.replicate_zero,List.push_toArray,List.append_toArray,List.nil_append,List.cons_append]
 gi_wp2_with (first
  |(gi_at_range;refine wpListIn_range_ks _ rfl _ rfl B c m rfl hmW ?_;rw [← HW2.out,← HR.out])
  |gi_in)
 gi_loopw [] (fun wr=>KeysRelP b r B c m W J wr) (fun wr=>leftIt r m.length wr)
 case atStart=>exact HREL.out
 case round=>
  obtain ⟨pre,hit,hmr,hj,hsz⟩:=hrel
  gi_wp2_with (first
   |(gi_at_next;refine wpListIn_next_ks _ rfl _ rfl w.heap.size r B c m pre rfl hmr hit hrb ?_ ?_)
   |gi_in)
  ·intro hp
   gi_wp2
   go_end0
   exact ⟨⟨_,rfl⟩,pre,hp,hj⟩
  ·intro t v w3 hlen hmv hit3 hen
   have hj3:=HJ.out _ _ _ hj hmv
   have hm3:MapK w3 B c m:=hmv.keep _ _ hmr (by simp)
   have hl:=leftIt_ofK hit
   have hsz3:=hmv.below.size
   obtain ⟨X,hX⟩:∃ X:ByteArray,X=⟨t.toArray⟩:=⟨_,rfl⟩
   have htV:kV t= .string X:=by rw [hX];rfl
   rw [htV] at hen ⊢
   have hyy:=HY.out pre t w3 hj3 hlen
   rw [show encK t=#[.string X] by unfold encK;rw [htV]] at hyy
   obtain ⟨fn,tmps,assign,body,hy,hRR⟩:=hyy
   have HIT3:=Lib.hid hit3
   have HM3:=Lib.hid hm3
   have HL:=Lib.hid hl
   clear hX htV hit hit3 hmr hm3 hmv hj hj3 hl
   gi_wp2
   refine hRR.mono ?_
   rintro e W4 ⟨rfl,hJ4,hk4⟩
   obtain ⟨seen,g1,g2,g3,g4⟩:=HIT3.out
   have hit4:ItK W4 r B c m (pre++[t]):=⟨seen,hk4.keep _ _ g1 (.inl ⟨_,_,_,_,rfl⟩),g2,g3,g4⟩
   have hrel:KeysRelP b r B c m W J W4:=⟨pre++[t],hit4,hk4.keep _ _ HM3.out (.inr ⟨_,_,rfl⟩),hJ4,by have :=hk4.below.size;omega⟩
   have hlt:leftIt r m.length W4<leftIt r m.length wr:=by
    rw [HL.out,leftIt_ofK hit4,List.length_append,List.length_singleton]
    omega
   have HRL:=Lib.hid hrel
   have HLT:=Lib.hid hlt
   clear hrel hlt hit4 hJ4 hk4 hy hRR g1 g2 g3 g4
   gi_wp2
   go_roundw
   case rel=>exact HRL.out
   case measure=>exact HLT.out
end Go.Proofs.YtmoomnpbiifedaaGreat
set_option linter.unusedVariables false
namespace Go.Proofs.YtmoomnpbiifedaaGreat
open Go.Shelf Go.RowKit Go.Sort
def laySortS_ren:Go.Shelf.Ren:=⟨fun |125=>144|128=>170|129=>171|190=>119|258=>143|302=>161|303=>162|304=>163|305=>164|306=>165|307=>166|308=>167|309=>168|310=>169|329=>184|330=>185|333=>183|334=>186|335=>187|336=>157|344=>202|n=>n,fun |0=>0|3=>3|4=>4|5=>5|9=>9|31=>23|46=>157|51=>224|53=>226|131=>109|182=>216|183=>217|218=>236|222=>240|228=>258|229=>231|n=>n,fun |n=>n⟩
theorem laySortS:Lays.n190 Tryz.prog laySortS_ren:={
 mixed:=by kernel_rfl
 f125:=Tryz.func144.trans (congrArg some (by kernel_rfl))
 f128:=Tryz.func170.trans (congrArg some (by kernel_rfl))
 f129:=Tryz.func171.trans (congrArg some (by kernel_rfl))
 f190:=Tryz.func119.trans (congrArg some (by kernel_rfl))
 f258:=Tryz.func143.trans (congrArg some (by kernel_rfl))
 f302:=Tryz.func161.trans (congrArg some (by kernel_rfl))
 f303:=Tryz.func162.trans (congrArg some (by kernel_rfl))
 f304:=Tryz.func163.trans (congrArg some (by kernel_rfl))
 f305:=Tryz.func164.trans (congrArg some (by kernel_rfl))
 f306:=Tryz.func165.trans (congrArg some (by kernel_rfl))
 f307:=Tryz.func166.trans (congrArg some (by kernel_rfl))
 f308:=Tryz.func167.trans (congrArg some (by kernel_rfl))
 f309:=Tryz.func168.trans (congrArg some (by kernel_rfl))
 f310:=Tryz.func169.trans (congrArg some (by kernel_rfl))
 f329:=Tryz.func184.trans (congrArg some (by kernel_rfl))
 f330:=Tryz.func185.trans (congrArg some (by kernel_rfl))
 f333:=Tryz.func183.trans (congrArg some (by kernel_rfl))
 f334:=Tryz.func186.trans (congrArg some (by kernel_rfl))
 f335:=Tryz.func187.trans (congrArg some (by kernel_rfl))
 f336:=Tryz.func157.trans (congrArg some (by kernel_rfl))
 f344:=Tryz.func202.trans (congrArg some (by kernel_rfl))
 t0:=Tryz.underlying0
 a0:=Tryz.isAgg0
 z0:=Tryz.sizeOf0
 v0:=Tryz.zeroValue0
 t3:=Tryz.underlying3
 a3:=Tryz.isAgg3
 z3:=Tryz.sizeOf3
 v3:=Tryz.zeroValue3
 t4:=Tryz.underlying4
 a4:=Tryz.isAgg4
 z4:=Tryz.sizeOf4
 v4:=Tryz.zeroValue4
 t5:=Tryz.underlying5
 a5:=Tryz.isAgg5
 z5:=Tryz.sizeOf5
 v5:=Tryz.zeroValue5
 t9:=Tryz.underlying9
 a9:=Tryz.isAgg9
 z9:=Tryz.sizeOf9
 v9:=Tryz.zeroValue9
 t31:=Tryz.underlying23
 a31:=Tryz.isAgg23
 z31:=Tryz.sizeOf23
 v31:=Tryz.zeroValue23
 t46:=Tryz.underlying157
 a46:=Tryz.isAgg157
 z46:=Tryz.sizeOf157
 v46:=Tryz.zeroValue157
 t51:=Tryz.underlying224
 a51:=Tryz.isAgg224
 z51:=Tryz.sizeOf224
 v51:=Tryz.zeroValue224
 t53:=Tryz.underlying226
 a53:=Tryz.isAgg226
 z53:=Tryz.sizeOf226
 v53:=Tryz.zeroValue226
 t131:=Tryz.underlying109
 a131:=Tryz.isAgg109
 z131:=Tryz.sizeOf109
 v131:=Tryz.zeroValue109
 t182:=Tryz.underlying216
 a182:=Tryz.isAgg216
 z182:=Tryz.sizeOf216
 v182:=Tryz.zeroValue216
 t183:=Tryz.underlying217
 a183:=Tryz.isAgg217
 z183:=Tryz.sizeOf217
 v183:=Tryz.zeroValue217
 t218:=Tryz.underlying236
 a218:=Tryz.isAgg236
 z218:=Tryz.sizeOf236
 v218:=Tryz.zeroValue236
 t222:=Tryz.underlying240
 a222:=Tryz.isAgg240
 z222:=Tryz.sizeOf240
 v222:=Tryz.zeroValue240
 t228:=Tryz.underlying258
 a228:=Tryz.isAgg258
 z228:=Tryz.sizeOf258
 v228:=Tryz.zeroValue258
 t229:=Tryz.underlying231
 a229:=Tryz.isAgg231
 z229:=Tryz.sizeOf231
 v229:=Tryz.zeroValue231}
theorem sort_texts (base:Nat) (v:Value) (xs:List Nm) (w:World) (ho:OwnNm base w v xs) (hb:base≤w.heap.size) (hbig:xs.length≤1073741824):
  Calls Tryz.prog 119 #[v] w fun e w'=>e= .returned (.tuple #[])∧OwnNm base w' v (xs.mergeSort fun x y=>decide (x≤y))∧Below base w w':=by
 have hl2:(xs.mergeSort fun x y=>decide (x≤y)).length=xs.length:=List.length_mergeSort xs
 rcases ho.2 with ⟨rfl,h0⟩|⟨g,cap,cur,rfl,hbase,hh,h1,h2,h3,h4⟩
 ·obtain rfl:xs=[]:=List.eq_nil_of_length_eq_zero h0
  exact (Any.slices_Sort_string_none laySortS none 0 w).mono fun e w' ⟨he,hw⟩=>⟨he,by rw [hw];simpa using OwnNm.nil,by rw [hw];exact Below.refl _ _⟩
 ·have hH:Holds encStr w g 0 xs.toArray:=holds_of_block hh (by simpa [strs] using h4)
  refine (Any.slices_Sort_string laySortS g 0 cap xs w hH (lt_of_block hh) (by omega)).mono fun e w' ⟨he,n,os,hw⟩=>⟨he,?_,?_⟩
  ·rw [hw]
   unfold OwnNm
   rw [hl2]
   exact ownsRow_sorted hl2 hbase hh h1 h2 h3
  ·rw [hw]
   exact (Below.refl base w).grown (grownBy_sorted _) hb (fun j hj=>by cases hj;exact hbase)
end Go.Proofs.YtmoomnpbiifedaaGreat
set_option linter.unusedVariables false
namespace Go.Proofs.YtmoomnpbiifedaaGreat
open Go Go.RowKit
attribute [local go_sem] Oper.semAt_some
def NmVar (base B:Nat) (l:List Nm) (W:World):Prop:=∃ v,W.heap[B]?=some (.cells #[v] 23 (0,0))∧OwnNm base W v l
theorem ownN_cells {base:Nat} {w:World} {v:Value} {l:List Nm} (h:OwnNm base w v l) {k:Nat} {o:Obj} (hk:w.heap[k]?=some o) (ho:o.isCells=false):v.ownBlock≠some k:=by
 intro he
 rcases h.2 with ⟨rfl,_⟩|⟨g,cap,cur,rfl,_,hh,_⟩
 ·cases he
 ·simp only [Value.ownBlock,Option.some.injEq] at he
  subst he
  rw [hh] at hk
  cases hk
  cases ho
theorem NmVar.firm (N base B:Nat) (l:List Nm):FirmM N (NmVar base B l):=fun W k o o' _ ho hc ⟨v,h1,h2⟩=>by
 have hB:B≠k:=fun e=>by subst e;rw [h1] at ho;injection ho with ho;rw [← ho] at hc;cases hc
 exact ⟨v,(World.putObj_heap_other hB).trans h1,owned_keep h2 fun g hg=>World.putObj_heap_other fun e=>by subst e;exact ownN_cells h2 ho hc hg⟩
theorem NmVar.moved {base base' B:Nat} {l:List Nm} {w w':World} (h:NmVar base B l w) (hm:MvIt base' w w'):NmVar base B l w':=by
 obtain ⟨v,h1,h2⟩:=h
 refine ⟨v,hm.keep _ _ h1 (by simp),owned_keep h2 fun g hg=> ?_⟩
 rcases h2.2 with ⟨rfl,_⟩|⟨g',cap,cur,rfl,_,hh,_⟩
 ·cases hg
 ·simp only [Value.ownBlock,Option.some.injEq] at hg
  subst hg
  rw [hm.keep _ _ hh (by simp),hh]
def CollInS (w:World) (pre:List Nm) (W:World):Prop:=NmVar w.heap.size w.heap.size pre W∧Below w.heap.size w W∧pre.length≤134217728
def CollAxS (f:Value) (w:World) (x:Nm) (a:Act) (W:World):Prop:=a={tmps:=#[.slice none 0 0,f,.pointer (some ⟨w.heap.size,0,none⟩),undef,.slice none 0 0,kV x,f,kV x,undef,undef,undef,undef,undef],defers:=[]}
def GotKeysS (ks:List Nm) (w:World) (e:Ending) (w':World):Prop:=∃ v ts,e= .returned v∧ts.Perm ks∧OwnNm w.heap.size w' v ts∧Below w.heap.size w w'
set_option maxHeartbeats 8000000 in
set_option maxRecDepth 100000 in
theorem keys_appendS (Bx B c:Nat) (m:List EntK) (w:World) (hm:MapK w B c m) (hc:w.cell? ⟨Bx,0,none⟩=some (.map (some B))) (hl:m.length≤134217727):
  Calls Tryz.prog 142 #[.slice none 0 0,.func (.func 120) #[] #[.pointer (some ⟨Bx,0,none⟩)]] w (GotKeysS (m.map (·.1)) w):=by
 obtain ⟨i0,hi0,hz0,hz1,hz2⟩:=info_parts info_string
 refine (callsIn_wide (n:=6)).1 ?_
 obtain ⟨w2,hw2⟩:∃ w2,w2=w.alloc (.cells #[.slice none 0 0] 23):=⟨_,rfl⟩
 have hb2:Below w.heap.size w w2:=by rw [hw2];exact (Below.refl _ _).alloc (Nat.le_refl _) _
 have hm2:MapK w2 B c m:=(hb2.block B (Array.getElem?_eq_some_iff.1 hm).1).trans hm
 have hc2:=(hb2.cell (p:=⟨Bx,0,none⟩) (World.block_lt_of_cell? w _ hc)).trans hc
 have hv2:NmVar w.heap.size w.heap.size [] w2:=⟨_,by rw [hw2];exact heap_alloc_new w _,OwnNm.nil⟩
 have hs2:w2.heap.size=w.heap.size+1:=by rw [hw2];simp
 have HT:=Lib.hid (keys_movedP 5 w.heap.size Bx B c m w2 (by omega) hb2.size hm2 hc2)
 have HW2:=Lib.hid hw2
 have HB2:=Lib.hid hb2
 have HV2:=Lib.hid hv2
 clear hw2 hb2 hm2 hc2 hv2 hm hc
 refine callsIn_of_wp_marks Tryz.func142 rfl trivial ?_ rfl
 simp only [Tryz.ntmps142,List.size_toArray,List.length_cons,List.length_nil,Nat.reduceAdd,Nat.reduceSub,Array.replicate_succ,Array.replicate_zero,List.push_toArray,List.append_toArray,List.nil_append,List.cons_append]
 gi_wp2
 rw [← HW2.out]
 refine wpIn_range_moved (by omega) (gf:=120) (lb:=#[.pointer (some ⟨Bx,0,none⟩)]) rfl (enters_of Tryz.func120 (by kernel_rfl) rfl)
  HT.out (fun hb=>MvIt.of hb (Nat.le_refl _)) (fun {A B k o} hk hmv ho hnc=>hmv.keep _ _ ho (by rcases hnc with ⟨x,rfl⟩|⟨x,rfl⟩<;>simp))
  (fun h k=>h.trans k) (fun W lp x o' hlp ho=>KpIt.loop W lp x o' (by omega) ho) (fun _=>rfl)
  (CollInS w) (fun s A' B' h hmv=>⟨h.1.moved hmv,h.2.1.trans (hmv.below.mono (by omega)),h.2.2⟩)
  (fun s=>fun W l o o' h1 h2 h3 h=>⟨NmVar.firm _ _ _ _ W l o o' h1 h2 h3 h.1,Below.firm (by omega) W l o o' h1 h2 h3 h.2.1,h.2.2⟩)
  (fun s x W l o o' _ _ _ h=>h) ⟨HV2.out,HB2.out,by simp⟩
  (CollAxS (.func (.func 120) #[] #[.pointer (some ⟨Bx,0,none⟩)]) w) (fun x a' W l o o' _ ho hc h=>h) ?assign ?body ?done
 case assign=>
  intro lp pre x W K' hi hx hK'
  unfold encK kV
  gi_wp2
  exact hK' _ _ rfl hi hx (Below.refl _ _) (KpIt.of (Below.refl _ _) hi.2.1.size)
 case body=>
  rintro lp pre x a' W rfl ⟨⟨v,hv,hown⟩,hbw,hpl⟩ hlt
  unfold kV
  obtain ⟨X,hX⟩:∃ X:ByteArray,X=⟨x.toArray⟩:=⟨_,rfl⟩
  rw [← hX]
  have hfl:strs [x]=[.string X]:=by rw [hX];rfl
  have cB:=cell_of_one hv
  have fB:=free_of_one hv
  have hsz:=hbw.size
  have hlB:=lt_of_block hv
  obtain ⟨k,hk⟩:∃ k,k=pre.length:=⟨_,rfl⟩
  have ho1:W.ownsRow w.heap.size 9 1 v k (strs pre):=by rw [hk];exact hown
  have hkl:k≤134217727:=by omega
  have HO:=Lib.hid ho1
  have HOW:=Lib.hid hown
  have HV:=Lib.hid hv
  have HBW:=Lib.hid hbw
  have HK:=Lib.hid hk
  have HFL:=Lib.hid hfl
  have HLT:=Lib.hid hlt
  clear hv hown hbw ho1 hk hfl hX hlt hpl
  gi_wp2_with (gi_at_builtin;refine wpListIn_append_own _ rfl (.tmp 8) (.tmp 10) 23 rfl w.heap.size 9 i0 _ 1 16 Tryz.underlying23 hi0 hz0 hz1 hz2 rfl (by omega) _ k (strs pre) rfl (HO.out.alloc _) ⟨W.heap.size,0,none⟩ 1 1 [.string X] rfl rfl (news_at W [.string X] 9) (by intro u hu;simp at hu;subst hu;rfl) (by unfold maxLen;omega) (by omega) (by simp;omega) ?_)
  intro v' w4 hown4 hgrow4 hz4
  clear hz4
  obtain ⟨g',cap',hv',_,_⟩:=hown4.form (by omega)
  have hne:=owned_apart HOW.out HV.out (by decide)
  have hal:Below W.heap.size W (W.alloc (.cells #[.string X] 9)):=(Below.refl _ _).alloc (Nat.le_refl _) _
  have hv4:w4.heap[w.heap.size]?=some (.cells #[v] 23 (0,0)):=(hgrow4.block _ (by simp;omega) (fun e=>hne e.symm)).trans ((hal.block _ hlB).trans HV.out)
  have cB4:=cell_of_one hv4
  have fB4:=free_of_one hv4
  have hne':=owned_apart hown4 hv4 (by decide)
  have hs4:W.heap.size≤w4.heap.size:=Nat.le_trans hal.size hgrow4.size
  have hkeep:∀ (j:Nat),j<W.heap.size→j≠w.heap.size→v.ownBlock≠some j→(w4.setCell ⟨w.heap.size,0,none⟩ v').heap[j]?=W.heap[j]?:=fun j h1 h2 h3=>by
   rw [Below.heap_setCell _ _ _ _ h2,hgrow4.block j (Nat.lt_of_lt_of_le h1 hal.size) (fun e=>h3 e.symm),hal.block j h1]
  have hnc:∀ (j:Nat) (o:Obj),W.heap[j]?=some o→o.isCells=false→(w4.setCell ⟨w.heap.size,0,none⟩ v').heap[j]?=some o:=fun j o h1 h2=>by
   rw [hkeep j (Array.getElem?_eq_some_iff.1 h1).1 (fun e=> ?_) (ownN_cells HOW.out h1 h2),h1]
   subst e
   have :=HV.out
   rw [this] at h1
   injection h1 with h1
   rw [← h1] at h2
   cases h2
  have hbl:Below w.heap.size W (w4.setCell ⟨w.heap.size,0,none⟩ v'):=⟨hgrow4.os,hgrow4.tape,hgrow4.output,by simpa using hs4,fun j hj=>hkeep j (by omega) (by omega) (fun e=>by have :=(HO.out.lt j e).1;omega)⟩
  have hin:CollInS w (pre++[x]) (w4.setCell ⟨w.heap.size,0,none⟩ v'):=by
   refine ⟨⟨v',one_setCell hv4,?_⟩,HBW.out.trans hbl,by rw [List.length_append,List.length_singleton,← HK.out];omega⟩
   have :=ownsRow_setCell_other hown4 (show v'.ownBlock≠some (⟨w.heap.size,0,none⟩:Addr).block from hne') v'
   unfold OwnNm
   rw [List.length_append,List.length_singleton,← HK.out,strs_append,HFL.out]
   exact this
  have HKO:Hid (KeepsOthers W (w4.setCell ⟨w.heap.size,0,none⟩ v')):=Lib.hid ⟨by simpa using hs4,hnc⟩
  have HKP:Hid (KpIt w.heap.size W (w4.setCell ⟨w.heap.size,0,none⟩ v')):=Lib.hid ⟨hbl,fun j o h1 h2=>hnc j o h1 (by rcases h2 with ⟨_,_,_,_,rfl⟩|⟨_,_,rfl⟩<;>rfl)⟩
  have HIN:=Lib.hid hin
  subst hv'
  clear hkeep hnc hbl hin hne hne' hal hv4 hgrow4 hown4
  gi_wp2
  exact ⟨HKO.out,HKP.out,HIN.out⟩
 case done=>
  rintro D' ys W hD2 hys ⟨⟨v,hv,hown⟩,hbw,_⟩ hK'
  have cB:=cell_of_one hv
  have HO:=Lib.hid hown
  have HBW:=Lib.hid hbw
  have HV:=Lib.hid hv
  have HYS:=Lib.hid hys
  clear hys hown hbw hv
  gi_wp2
  refine ⟨by simp,.inl ⟨_,_,rfl,run_takeDeferred hK',?_⟩⟩
  refine ⟨_,results_tmp rfl _ _ _,?_⟩
  refine ⟨v,ys,rfl,HYS.out,owned_keep HO.out fun g hg=>World.putObj_heap_other fun e=> ?_,Below.firm (by omega) W D' _ (.deferred none) hD2 hK' rfl HBW.out⟩
  subst e
  exact ownN_cells HO.out hK' rfl hg
set_option maxHeartbeats 1000000 in
theorem keys_collectS (Bx B c:Nat) (m:List EntK) (w:World) (hm:MapK w B c m) (hc:w.cell? ⟨Bx,0,none⟩=some (.map (some B))) (hl:m.length≤134217727):
  Calls Tryz.prog 118 #[.func (.func 120) #[] #[.pointer (some ⟨Bx,0,none⟩)]] w (GotKeysS (m.map (·.1)) w):=by
 have HA:=Lib.hid (keys_appendS Bx B c m w hm hc hl)
 clear hm hc
 go_enter Tryz.func118,Tryz.ntmps118
 go_wp2_with (go_at_call 142;(with_reducible refine HA.out.mono ?_);rintro e w' ⟨v,ts,rfl,hp,ho,hb⟩)
 go_ret
 exact ⟨v,ts,rfl,hp,ho,hb⟩
set_option maxHeartbeats 2000000 in
theorem keys_sortedS (Bx B c:Nat) (m:List EntK) (l:List En) (w:World) (hm:MapK w B c m) (hc:w.cell? ⟨Bx,0,none⟩=some (.map (some B))) (hl:m.length≤134217727) (hk:(m.map (·.1)).Perm (keysE l)):
    Calls Tryz.prog 89 #[.func (.func 120) #[] #[.pointer (some ⟨Bx,0,none⟩)]] w (GaveNm (keysE l) w):=by
  have HA:=Lib.hid (keys_collectS Bx B c m w hm hc hl)
  have hks:(m.map (·.1)).length≤134217727:=by simpa using hl
  have HK:=Lib.hid hk
  obtain ⟨ks,hk2⟩:∃ ks,ks=m.map (·.1):=⟨_,rfl⟩
  rw [← hk2] at hks HA HK
  clear hm hc hk hk2
  go_enter Tryz.func89,Tryz.ntmps89
  go_wp2_with (first
    | (go_at_call 118; (with_reducible refine HA.out.mono ?_); rintro e w1 ⟨v, ts, rfl, hp, ho, hb⟩
       have hlt:ts.length≤134217727:=by rw [hp.length_eq];exact hks
       have HS:=Lib.hid (sort_texts w.heap.size v ts w1 ho hb.size (by omega))
       have HP:=Lib.hid hp
       have HB:=Lib.hid hb
       clear hp ho hb)
    |(go_at_call 119;(with_reducible refine HS.out.mono ?_);rintro e w2 ⟨rfl,ho2,hb2⟩))
  go_ret
  rw [sorted_keys (HP.out.trans HK.out)] at ho2
  exact ⟨v,rfl,ho2,HB.out.trans hb2⟩
end Go.Proofs.YtmoomnpbiifedaaGreat
set_option linter.unusedVariables false
namespace Go.Proofs.YtmoomnpbiifedaaGreat
open Go Go.RowKit
section
variable {S:Nat→Prop} {w:World} {B:Nat} {l:List En} {up:Int}
theorem keysE_bound {l:List En} (hg:GoodE l) (hn:l.length≤1000):(keysE l).length≤4000000:=by
 have h1:=keysE_length (l:=l) (a:=[]) (M:=4000) fun q hq=>by
  have h:=hg q hq
  have h1:=termsUp_length (l:=q.2.1) (M:=500) h.wordsS q.2.1.length (Nat.le_refl _)
  rw [termsUp_all] at h1
  exact Nat.le_trans h1 (Nat.le_trans (Nat.mul_le_mul_right _ h.len) (by omega))
 have h2:l.length*4000≤1000*4000:=Nat.mul_le_mul_right _ hn
 have h3:(keysE l).length≤l.length*4000+([]:List Nm).length:=h1
 simp only [List.length_nil] at h3
 omega
theorem buf_Keys (h:BufAt S w B l up) (hn:l.length≤1000):Calls Tryz.prog 51 #[.pointer (some ⟨B,0,none⟩)] w (GaveNm (keysE l) w):=by
  obtain ⟨v,M,c,g,h⟩:=h
  obtain ⟨c0,c1,c2,c3,_⟩:=four_cells h.cells
  obtain ⟨m,hm,hk,hl⟩:=h.map.keys
  have hp:(m.map (·.1)).Perm (keysE l):=by rw [hk];exact h.stand.perm
  have hlen:m.length≤134217727:=by rw [hl,h.stand.length];have :=keysE_bound h.good hn;omega
  have HM:=Lib.hid hm
  have HP:=Lib.hid hp
  clear h hm hk hl hp
  go_enter Tryz.func51,Tryz.ntmps51
  go_wp2_with (first
    | (go_at_call 90; (with_reducible refine (maps_KeysP M w).mono ?_); rintro e w1 ⟨rfl, hw1⟩
       have hb1:Below w.heap.size w w1:=by rw [hw1];exact (Below.refl _ _).alloc (Nat.le_refl _) _
       have hc1:w1.cell? ⟨w.heap.size,0,none⟩=some (.map (some M)):=by rw [hw1];simp
       have hm1:MapK w1 M c m:=(hb1.block M (Array.getElem?_eq_some_iff.1 HM.out).1).trans HM.out
       have HS:=Lib.hid (keys_sortedS w.heap.size M c m l w1 hm1 hc1 hlen HP.out)
       have HB1:=Lib.hid hb1
       clear hw1 hb1 hc1 hm1)
    |(go_at_call 89;(with_reducible refine HS.out.mono ?_);rintro e w2 ⟨v2,rfl,ho2,hb2⟩))
  go_ret
  exact ⟨_,rfl,ho2.low HB1.out.size,HB1.out.trans (hb2.mono HB1.out.size)⟩
end
end Go.Proofs.YtmoomnpbiifedaaGreat
