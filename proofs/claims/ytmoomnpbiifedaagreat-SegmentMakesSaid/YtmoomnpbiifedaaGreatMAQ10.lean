import Derived.Test.YtmoomnpbiifedaaGreatMAZz
import Derived.Test.YtmoomnpbiifedaaGreatMAQ07
import Derived.Test.YtmoomnpbiifedaaGreatMAQ09
import Derived.Test.YtmoomnpbiifedaaGreatMAQ08
import Derived.Test.YtmoomnpbiifedaaGreatMAQ03
import Derived.Maps.RangeRun
import Derived.MapKept
import Derived.Test.YtmoomnpbiifedaaGreatMAQ04
import Derived.Test.YtmoomnpbiifedaaGreatMAQ06
set_option linter.unusedVariables false
namespace Go.Proofs.YtmoomnpbiifedaaGreat
open Go Go.RowKit
theorem cells3 {w:World} {b:Nat} {x y z:Value} {t:TypeId} (h:w.heap[b]?=some (.cells #[x,y,z] t (0,0))):w.cell? ⟨b,0,none⟩=some x∧w.cell? ⟨b,1,none⟩=some y∧w.cell? ⟨b,2,none⟩=some z:=by
 simp [World.cell?,h]
structure PSmall (x:PartsP):Prop where
 ids:x.ids.length≤1048576
 keys:x.keys.length≤1048576
 lists:∀ l∈x.lists,l.length≤1000∧totalP l≤40000000000
structure SegAt (w:World) (S:Nat) (x:PartsP):Prop where
 cells:∃ A1 c1 A2 c2 A3 c3,w.heap[S]?=some (.cells #[.slice A1 x.ids.length c1,.slice A2 x.seqs.length c2,.slice A3 x.keys.length c3] 76 (0,0))∧x.ids.length≤c1∧x.seqs.length≤c2∧Row w w.heap.size A1 (ints x.ids)∧Row w w.heap.size A2 (ints x.seqs)
 dict:∃ bl:List Nat,DictR w S 2 x.keys bl∧∀ i (h:i<x.lists.length),∃ base,LAt w base (bl.getD i 0) (bytesP (-1) x.lists[i]) x.lists[i]
 may:mayPs x=true
 small:PSmall x
section
variable {w w':World} {S:Nat} {x:PartsP}
theorem SegAt.lt (h:SegAt w S x):S<w.heap.size:=by obtain ⟨bl,h,_⟩:=h.dict;exact h.lt
theorem SegAt.below (h:SegAt w S x) (hb:Below w.heap.size w w'):SegAt w' S x:=by
 have hlt:=h.lt
 obtain ⟨⟨A1,c1,A2,c2,A3,c3,h1,h2,h3,h4,h5⟩,⟨bl,h6,h7⟩,h8,h9⟩:=h
 refine ⟨⟨A1,c1,A2,c2,A3,c3,(hb.block S hlt).trans h1,h2,h3,Row.later h4 hb,Row.later h5 hb⟩,⟨bl,h6.below hb,fun i hi=> ?_⟩,h8,h9⟩
 obtain ⟨base,h⟩:=h7 i hi
 exact ⟨base,h.below hb⟩
theorem mayPs_iff {x:PartsP}:mayPs x=true↔x.ids.length=x.seqs.length∧x.keys.length=x.lists.length∧risesZ (-1) x.seqs=true∧risesN x.keys=true∧∀ l∈x.lists,mayL x.ids.length l=true:=by
 simp [mayPs]
theorem mayL_may {n:Nat} {l:List Pn} (h:mayL n l=true):mayB' (-1) l=true∧l≠[]:=by
 simp only [mayL,Bool.and_eq_true,decide_eq_true_eq] at h
 exact ⟨h.1,fun e=>h.2.1 (by rw [e];rfl)⟩
theorem SegAt.seqs (h:SegAt w S x):x.ids.length=x.seqs.length:=(mayPs_iff.1 h.may).1
theorem SegAt.keys (h:SegAt w S x):x.keys.length=x.lists.length:=(mayPs_iff.1 h.may).2.1
end
def idAt (l:List Int) (i:Int):Int:=if 0≤i∧i<(l.length:Int) then l.getD i.toNat 0 else-1
set_option maxHeartbeats 1000000 in
set_option maxRecDepth 100000 in
theorem seg_at (A:Option Addr) (n c:Nat) (i:Int) (l:List Int) (w:World) (hr:Row w w.heap.size A (ints l)) (hn:l.length=n):
  Calls Tryz.prog 70 #[.slice A n c,.int .i64 i] w fun e w'=>e= .returned (.int .i64 (idAt l i))∧Below w.heap.size w w':=by
 by_cases h0:i<0
 ·have hv:idAt l i= -1:=if_neg (by omega)
  have e0:decide (i<0)=true:=decide_eq_true h0
  rw [hv]
  clear hv hr hn
  go_enter Tryz.func70,Tryz.ntmps70
  go_wp2
  go_ret
  exact ⟨rfl,Below.refl _ _⟩
 ·have e0:decide (i<0)=false:=decide_eq_false h0
  by_cases h1:(n:Int)≤i
  ·have hv:idAt l i= -1:=if_neg (by omega)
   have e1:decide ((n:Int)≤i)=true:=decide_eq_true h1
   rw [hv]
   clear hv hr hn
   go_enter Tryz.func70,Tryz.ntmps70
   go_wp2
   go_ret
   exact ⟨rfl,Below.refl _ _⟩
  ·have e1:decide ((n:Int)≤i)=false:=decide_eq_false h1
   obtain ⟨k,rfl⟩:∃ k:Nat,i=(k:Int):=⟨i.toNat,by omega⟩
   have hk:k<l.length:=by omega
   obtain ⟨b,off,rfl,hb,hc⟩:=row_int hr hk
   have hv:idAt l (k:Int)=l[k]:=by
    unfold idAt
    rw [if_pos ⟨by omega,by omega⟩]
    simp [List.getD_eq_getElem?_getD,hk]
   rw [hv]
   obtain ⟨y,hy⟩:∃ y,y=l[k]:=⟨_,rfl⟩
   rw [← hy] at hc ⊢
   have hi0:(0:Int)≤k:=by omega
   have hi1:(k:Int)<n:=by omega
   clear hv hy hr h0 h1 hk hn
   go_enter Tryz.func70,Tryz.ntmps70
   go_wp2
   go_ret
   exact ⟨rfl,Below.refl _ _⟩
def SegRiseRel (l:List Int) (w:World) (r last i:Value) (wr:World):Prop:=r= .bool false∧∃ (k:Nat) (x:Int),k≤l.length∧i= .int .i64 (k:Int)∧last= .int .i64 x∧risesZ x (l.drop k)=risesZ (-1) l∧Below w.heap.size w wr
set_option maxHeartbeats 1000000 in
set_option maxRecDepth 100000 in
theorem seg_rise (A:Option Addr) (n c:Nat) (l:List Int) (w:World) (hr:Row w w.heap.size A (ints l)) (hn:l.length=n) (hl:n≤9223372036854775807):
  Calls Tryz.prog 27 #[.slice A n c] w fun e w'=>e= .returned (.bool (risesZ (-1) l))∧Below w.heap.size w w':=by
 have HR:=Lib.hid hr
 clear hr
 obtain ⟨ans,hans⟩:∃ ans,ans=risesZ (-1) l:=⟨_,rfl⟩
 rw [← hans]
 have HA:=Lib.hid hans
 have HN:=Lib.hid hn
 clear hans hn
 go_enter Tryz.func27,Tryz.ntmps27
 go_wp2
 go_loopw [2,3,8] (fun r last i wr=>SegRiseRel l w r last i wr) (fun _ _ i _=>n-(intOf i).toNat)
 case atStart=>exact ⟨rfl,0, -1,Nat.zero_le _,rfl,rfl,rfl,Below.refl _ _⟩
 case round=>
  obtain ⟨rfl,k,x,hk,rfl,rfl,hx,hbw⟩:=hrel
  rw [HN.out] at hk
  by_cases hlt:k<n
  ·have hkl:k<l.length:=by rw [HN.out];exact hlt
   obtain ⟨b1,o1,rfl,_,hc1⟩:=row_int (HR.out.below hbw) hkl
   have hdr:l.drop k=l[k]::l.drop (k+1):=List.drop_eq_getElem_cons hkl
   rw [hdr,risesZ] at hx
   obtain ⟨y,hy⟩:∃ y,y=l[k]:=⟨_,rfl⟩
   rw [← hy] at hc1 hx
   have hi0:(0:Int)≤k:=by omega
   have hi1:(k:Int)<n:=by omega
   clear hy hdr
   by_cases hxy:y≤x
   ·have hv:ans=false:=by rw [HA.out,← hx,decide_eq_false (by omega)];rfl
    have d1:decide (y≤x)=true:=decide_eq_true hxy
    subst hv
    clear hx hkl hxy
    go_wp2
    go_ret
    exact ⟨rfl,hbw⟩
   ·have d1:decide (y≤x)=false:=decide_eq_false hxy
    rw [decide_eq_true (by omega),Bool.true_and] at hx
    have HX:=Lib.hid hx
    clear hx hkl hxy
    go_wp2
    go_roundw
    case rel=>exact ⟨rfl,k+1,y,by rw [HN.out];omega,by go_num,rfl,HX.out,hbw⟩
    case measure=>simp [intOf];omega
  ·have hv:ans=true:=by
    rw [HA.out,← hx,List.drop_of_length_le (by rw [HN.out];omega)]
    rfl
   subst hv
   clear hx
   go_wp2
   go_ret
   exact ⟨rfl,hbw⟩
section
variable {w:World} {S:Nat} {x:PartsP}
set_option maxHeartbeats 1000000 in
theorem seg_Len (h:SegAt w S x):Calls Tryz.prog 31 #[.pointer (some ⟨S,0,none⟩)] w fun e w'=>e= .returned (.int .i64 (x.ids.length:Int))∧Below w.heap.size w w':=by
 obtain ⟨A1,c1,A2,c2,A3,c3,h1,_⟩:=h.cells
 obtain ⟨q0,q1,q2⟩:=cells3 h1
 clear h h1
 go_enter Tryz.func31,Tryz.ntmps31
 go_wp2
 go_ret
 exact ⟨rfl,Below.refl _ _⟩
set_option maxHeartbeats 1000000 in
theorem seg_Id (h:SegAt w S x) (i:Int):Calls Tryz.prog 35 #[.pointer (some ⟨S,0,none⟩),.int .i64 i] w fun e w'=>e= .returned (.int .i64 (idAt x.ids i))∧Below w.heap.size w w':=by
 obtain ⟨A1,c1,A2,c2,A3,c3,h1,h2,h3,h4,h5⟩:=h.cells
 obtain ⟨q0,q1,q2⟩:=cells3 h1
 have C1:=Lib.hid (seg_at A1 _ c1 i x.ids w h4 rfl)
 clear h h1 h2 h3 h4 h5
 go_enter Tryz.func35,Tryz.ntmps35
 go_wp2_with (go_at_call 70;refine C1.out.mono ?_;rintro e w' ⟨rfl,hb⟩)
 go_ret
 exact ⟨rfl,hb⟩
set_option maxHeartbeats 1000000 in
theorem seg_Seq (h:SegAt w S x) (i:Int):Calls Tryz.prog 36 #[.pointer (some ⟨S,0,none⟩),.int .i64 i] w fun e w'=>e= .returned (.int .i64 (idAt x.seqs i))∧Below w.heap.size w w':=by
 obtain ⟨A1,c1,A2,c2,A3,c3,h1,h2,h3,h4,h5⟩:=h.cells
 obtain ⟨q0,q1,q2⟩:=cells3 h1
 have C1:=Lib.hid (seg_at A2 _ c2 i x.seqs w h5 rfl)
 clear h h1 h2 h3 h4 h5
 go_enter Tryz.func36,Tryz.ntmps36
 go_wp2_with (go_at_call 70;refine C1.out.mono ?_;rintro e w' ⟨rfl,hb⟩)
 go_ret
 exact ⟨rfl,hb⟩
end
end Go.Proofs.YtmoomnpbiifedaaGreat
set_option linter.unusedVariables false
namespace Go.Proofs.YtmoomnpbiifedaaGreat
open Go Go.RowKit
open Go.ChangeMaps (setBlock)
def tV (t:Tm):Value:= .agg #[.string ⟨t.1.toArray⟩,.string ⟨t.2.toArray⟩]
theorem str_eq (a b:Nm):((⟨a.toArray⟩:ByteArray)==⟨b.toArray⟩)=decide (a=b):=by
 have h:((⟨a.toArray⟩:ByteArray)==⟨b.toArray⟩)=(a.toArray==b.toArray):=rfl
 rw [h,Bool.eq_iff_iff]
 simp
theorem run_equal_tm (s t:Tm) (w:World):(Op.equal 39 (tV s) (tV t)).run Tryz.prog w= .ok (decide (s=t)) w:=by
 have h:∀ d:Nat,(Op.equalIn (d+2) 39 (tV s) (tV t)).run Tryz.prog w= .ok (decide (s=t)) w:=fun d=>by
  simp only [Op.equalIn,tV,part]
  simp [run_underlying Tryz.underlying39,run_underlying Tryz.underlying9,Tryz.sizeOf9,Tryz.isAgg9,str_eq]
  obtain ⟨s1,s2⟩:=s
  obtain ⟨t1,t2⟩:=t
  by_cases h1:s1=t1<;>by_cases h2:s2=t2<;>simp [h1,h2]
 exact h 9998
theorem run_check_tm (em:Bool) (t:Tm) (w:World):(Instr.checkKey em 10000 39 (tV t)).run Tryz.prog w= .ok () w:=by
 have h:∀ d:Nat,(Instr.checkKey em (d+2) 39 (tV t)).run Tryz.prog w= .ok () w:=fun d=>by
  simp [Instr.checkKey,run_underlying Tryz.underlying39,run_underlying Tryz.underlying9,tV,part,Tryz.sizeOf9,Tryz.isAgg9]
 exact h 9998
theorem run_stays_tm (t:Tm) (w:World):(Instr.keyThatStays (tV t) (tV t)).run Tryz.prog w= .ok (tV t) w:=by
 have h:∀ d:Nat,Instr.sameBits (d+2) (tV t) (tV t)=true:=fun d=>by simp [Instr.sameBits,tV,str_eq]
 simp [Instr.keyThatStays,h 9998]
abbrev Ent:=Tm × Value
def entsM:Nat→List Ent→List MapEntry
 |_,[]=>[]
 |i,e::m=>{key:=tV e.1,val:=e.2,born:=i}::entsM (i+1) m
theorem entsM_length:∀ (m:List Ent) (i:Nat),(entsM i m).length=m.length
 |[],_=>rfl
 |e::m,i=>by simp [entsM,entsM_length m (i+1)]
theorem entsM_at:∀ {m:List Ent} {i k:Nat} (hk:k<m.length),(entsM i m)[k]?=some {key:=tV m[k].1,val:=m[k].2,born:=i+k}
 |[],_,_,h=>by simp at h
 |e::m,i,0,_=>rfl
 |e::m,i,k+1,h=>by
  have :=entsM_at (m:=m) (i:=i+1) (k:=k) (by simpa using h)
  simp only [entsM,List.getElem?_cons_succ,zC]
  rw [this,Nat.add_assoc,Nat.add_comm 1 k]
theorem entsM_append:∀ (m:List Ent) (e:Ent) (i:Nat),entsM i (m++[e])=entsM i m++[{key:=tV e.1,val:=e.2,born:=i+m.length}]
 |[],e,i=>rfl
 |x::m,e,i=>by
  simp only [List.cons_append,entsM,entsM_append m e (i+1),List.length_cons]
  rw [Nat.add_assoc,Nat.add_comm 1 m.length]
theorem entsM_set:∀ (m:List Ent) (e:Ent) (i k:Nat),entsM i (m.set k e)=(entsM i m).set k {key:=tV e.1,val:=e.2,born:=i+k}
 |[],e,i,k=>by simp [entsM]
 |x::m,e,i,0=>by simp [entsM]
 |x::m,e,i,k+1=>by
  simp only [zF,entsM,entsM_set m e (i+1) k]
  rw [Nat.add_assoc,Nat.add_comm 1 k]
def MapAt (w:World) (B:Nat) (m:List Ent):Prop:=w.heap[B]?=some (.map (entsM 0 m).toArray m.length)
def posM (m:List Ent) (t:Tm):Nat:=m.findIdx (fun e=>decide (e.1=t))
def valM (m:List Ent) (t:Tm):Value:=if h:posM m t<m.length then m[posM m t].2 else .slice none 0 0
def entM (m:List Ent) (t:Tm):List Ent:=if posM m t<m.length then m else m++[(t,.slice none 0 0)]
theorem posM_key {m:List Ent} {t:Tm} (h:posM m t<m.length):m[posM m t].1=t:=by
 have :=List.findIdx_getElem (p:=fun e:Ent=>decide (e.1=t)) (xs:=m) (w:=h)
 exact of_decide_eq_true this
theorem posM_entM (m:List Ent) (t:Tm):posM m t<(entM m t).length∧(entM m t)[posM m t]?=some (t,valM m t):=by
 unfold entM valM
 split
 ·rename_i h
  have e:=posM_key h
  refine ⟨h,?_⟩
  rw [List.getElem?_eq_getElem h]
  exact congrArg some (Prod.ext e rfl)
 ·rename_i h
  have hle:posM m t≤m.length:=List.findIdx_le_length
  have :posM m t=m.length:=by omega
  rw [this]
  simp
theorem run_asking:∀ (m:List Ent) (t:Tm) (w:World) (k i:Nat),(Instr.findAsking 39 (tV t) (entsM k m) i).run Tryz.prog w= .ok (if h:posM m t<m.length then some (i+posM m t,m[posM m t].2) else none) w
 |[],t,w,k,i=>by simp [entsM,Instr.findAsking,posM]
 |e::m,t,w,k,i=>by
  have ih:=run_asking m t w (k+1) (i+1)
  rw [entsM,Instr.findAsking]
  simp only [Sem.run_bind,run_equal_tm,Result.andThen]
  by_cases he:t=e.1
  ·have hp:posM (e::m) t=0:=by unfold posM;rw [List.findIdx_cons];simp [he]
   simp only [hp]
   simp [he]
  ·have he':¬ e.1=t:=fun h=>he h.symm
   have hp:posM (e::m) t=posM m t+1:=by unfold posM;rw [List.findIdx_cons];simp [he']
   simp only [he,decide_false,Bool.false_eq_true,if_false,ih]
   rw [Result.ok.injEq]
   refine ⟨?_,rfl⟩
   by_cases h:posM m t<m.length
   ·have h':posM (e::m) t<(e::m).length:=by rw [hp];simpa using h
    rw [dif_pos h,dif_pos h']
    simp only [hp,zC]
    rw [Nat.add_assoc,Nat.add_comm 1]
   ·have h':¬ posM (e::m) t<(e::m).length:=by rw [hp];simpa using h
    rw [dif_neg h,dif_neg h']
theorem run_find_tm (m:List Ent) (t:Tm) (w:World) (k:Nat):(Instr.findKey 39 (tV t) (entsM k m)).run Tryz.prog w= .ok (if h:posM m t<m.length then some (posM m t,m[posM m t].2) else none) w:=by
 have h1:=run_asking m t w k 0
 rw [Nat.zero_add] at h1
 cases m with
 |nil=>simp [Instr.findKey,run_underlying Tryz.underlying39,entsM,Instr.findNow,posM]
 |cons e m=>
  rw [← h1]
  simp [Instr.findKey,run_underlying Tryz.underlying39,entsM,Instr.findNow,Instr.sameNow]
theorem run_lookup_tm {w:World} {B:Nat} {m:List Ent} (h:MapAt w B m) (t:Tm):(Instr.lookup 192 (.map (some B)) (tV t) false).run Tryz.prog w= .ok (valM m t) w:=by
 unfold MapAt at h
 have hf:=run_find_tm m t w 0
 unfold valM
 by_cases hp:posM m t<m.length
 ·rw [dif_pos hp] at hf ⊢
  simp [Instr.lookup,run_underlying Tryz.underlying192,MapKept.run_getObj_map h,run_check_tm,hf,Result.andThen]
 ·rw [dif_neg hp] at hf ⊢
  simp [Instr.lookup,run_underlying Tryz.underlying192,MapKept.run_getObj_map h,run_check_tm,hf,Result.andThen,Tryz.zeroValue22]
theorem run_entry_tm {w:World} {B:Nat} {m:List Ent} (h:MapAt w B m) (t:Tm):∃ w',(Instr.mapEntry 192 (.map (some B)) (tV t)).run Tryz.prog w= .ok (.tuple #[valM m t,.int .i64 (posM m t:Int)]) w'∧MapAt w' B (entM m t)∧w.grownBy w' (some B):=by
 unfold MapAt at h
 have hf:=run_find_tm m t w 0
 unfold valM entM
 by_cases hp:posM m t<m.length
 ·rw [dif_pos hp] at hf ⊢
  rw [if_pos hp]
  have hk:=posM_key hp
  have he:=entsM_at (i:=0) hp
  rw [hk,Nat.zero_add] at he
  have hmod:(entsM 0 m).modify (posM m t) (fun e=>{e with key:=tV t})=entsM 0 m:=by
   apply List.ext_getElem?
   intro j
   rw [List.getElem?_modify]
   by_cases hj:posM m t=j
   ·subst hj;simp [he]
   ·simp [hj]
  refine ⟨setBlock w B (.map (entsM 0 m).toArray m.length),?_,ChangeMaps.heap_setBlock_same h _,?_⟩
  ·simp [Instr.mapEntry,run_underlying Tryz.underlying192,MapKept.run_getObj_map h,run_check_tm,hf,Result.andThen,he,run_stays_tm,MapKept.run_setObj_map _ h,hmod,goInt,setBlock]
  ·exact ⟨rfl,rfl,rfl,by simp [setBlock],fun k _ hk=>ChangeMaps.heap_setBlock_other h _ (fun e=>hk (by rw [e]))⟩
 ·rw [dif_neg hp] at hf ⊢
  rw [if_neg hp]
  have hle:posM m t≤m.length:=List.findIdx_le_length
  have hpe:posM m t=m.length:=by omega
  have hpush:(entsM 0 m).toArray.push {key:=tV t,val:= .slice none 0 0,born:=m.length}=(entsM 0 (m++[(t,.slice none 0 0)])).toArray:=by
   rw [entsM_append,Nat.zero_add,List.push_toArray]
  refine ⟨setBlock w B (.map (entsM 0 (m++[(t,Value.slice none 0 0)])).toArray (m++[(t,Value.slice none 0 0)]).length),?_,ChangeMaps.heap_setBlock_same h _,?_⟩
  ·rw [hpe,← hpush]
   simp [Instr.mapEntry,run_underlying Tryz.underlying192,MapKept.run_getObj_map h,run_check_tm,hf,Result.andThen,MapKept.run_setObj_map _ h,goInt,setBlock,Tryz.zeroValue22]
  ·exact ⟨rfl,rfl,rfl,by simp [setBlock],fun k _ hk=>ChangeMaps.heap_setBlock_other h _ (fun e=>hk (by rw [e]))⟩
theorem find_born:∀ (m:List Ent) (i k:Nat),k<m.length→(entsM i m).findIdx? (fun e=>((e.born:Nat):Int)==((i+k:Nat):Int))=some k
 |[],i,k,h=>by simp at h
 |e::m,i,0,_=>by rw [entsM,List.findIdx?_cons];simp
 |e::m,i,k+1,h=>by
  have ih:=find_born m (i+1) k (by simpa using h)
  rw [entsM,List.findIdx?_cons,if_neg (by simp;omega)]
  rw [show i+(k+1)=i+1+k by omega,ih]
  rfl
theorem run_stored_tm {w:World} {B:Nat} {m:List Ent} (h:MapAt w B m) {k:Nat} (hk:k<m.length) (v:Value):∃ w',(Instr.entryStore 192 (.map (some B)) (.int .i64 (k:Int)) v).run Tryz.prog w= .ok () w'∧MapAt w' B (m.set k (m[k].1,v))∧w.grownBy w' (some B):=by
 unfold MapAt at h
 have hb:=find_born m 0 k hk
 rw [Nat.zero_add] at hb
 have he:=entsM_at (i:=0) hk
 rw [Nat.zero_add] at he
 have hmod:(entsM 0 m).modify k (fun e=>{e with val:=v})=entsM 0 (m.set k (m[k].1,v)):=by
  rw [entsM_set,Nat.zero_add]
  apply List.ext_getElem?
  intro j
  rw [List.getElem?_modify,List.getElem?_set]
  by_cases hj:k=j
  ·subst hj
   have hkl:k<(entsM 0 m).length:=by rw [entsM_length];exact hk
   rw [he,if_pos rfl,if_pos hkl]
   simp
  ·simp [hj]
 refine ⟨setBlock w B (.map (entsM 0 (m.set k (m[k].1,v))).toArray (m.set k (m[k].1,v)).length),?_,ChangeMaps.heap_setBlock_same h _,?_⟩
 ·rw [← hmod]
  simp [Instr.entryStore,MapKept.run_getObj_map h,asInt,asIntOf,hb,MapKept.run_setObj_map _ h,Result.andThen,setBlock]
 ·exact ⟨rfl,rfl,rfl,by simp [setBlock],fun k _ hk=>ChangeMaps.heap_setBlock_other h _ (fun e=>hk (by rw [e]))⟩
section
variable {ops:Array Oper} {rest:List Oper} {o:Oper} {a:Act} {Q:Exit→Act→World→Prop}
theorem wpList_lookup_tm (w:World) (hg:o.guard=none) (x y:Operand) (hop:o.op=Op.lookup 192 x y false) (B:Nat) (m:List Ent) (t:Tm) (hx:a.eval x= .map (some B)) (hat:MapAt w B m) (hy:a.eval y=tV t)
  (hK:wpList Tryz.prog ops Q rest (a.put o.dst (valM m t)) w):wpList Tryz.prog ops Q (o::rest) a w:=by
 refine wpList_plain hg fun K' hK'=> ?_
 unfold Oper.wp
 simp [execOp,hop,hx,hy,run_lookup_tm hat,Result.andThen]
 exact hK' _ _ hK
theorem wpList_entry_tm (w:World) (hg:o.guard=none) (x y:Operand) (hop:o.op=Op.mapEntry 192 x y) (B:Nat) (m:List Ent) (t:Tm) (hx:a.eval x= .map (some B)) (hat:MapAt w B m) (hy:a.eval y=tV t)
  (hK:∀ w',MapAt w' B (entM m t)→w.grownBy w' (some B)→wpList Tryz.prog ops Q rest (a.put o.dst (.tuple #[valM m t,.int .i64 (posM m t:Int)])) w'):wpList Tryz.prog ops Q (o::rest) a w:=by
 refine wpList_plain hg fun K' hK'=> ?_
 obtain ⟨w',hrun,r1,r2⟩:=run_entry_tm hat t
 unfold Oper.wp
 simp [execOp,hop,hx,hy,hrun,Result.andThen]
 exact hK' _ _ (hK w' r1 r2)
theorem wpList_stored_tm (w:World) (hg:o.guard=none) (x y z:Operand) (hop:o.op=Op.entryStore 192 x y z) (B:Nat) (m:List Ent) (k:Nat) (hk:k<m.length) (v:Value) (hx:a.eval x= .map (some B)) (hat:MapAt w B m) (hy:a.eval y= .int .i64 (k:Int)) (hz:a.eval z=v)
  (hK:∀ w',MapAt w' B (m.set k (m[k].1,v))→w.grownBy w' (some B)→wpList Tryz.prog ops Q rest (a.put o.dst undef) w'):wpList Tryz.prog ops Q (o::rest) a w:=by
 refine wpList_plain hg fun K' hK'=> ?_
 obtain ⟨w',hrun,r1,r2⟩:=run_stored_tm hat hk v
 unfold Oper.wp
 simp [execOp,hop,hx,hy,hz,hrun,Result.andThen]
 exact hK' _ _ (hK w' r1 r2)
end
end Go.Proofs.YtmoomnpbiifedaaGreat
set_option linter.unusedVariables false
namespace Go.Proofs.YtmoomnpbiifedaaGreat
open Go Go.RowKit
open Go.ChangeMaps (setBlock)
def kV (t:Nm):Value:= .string ⟨t.toArray⟩
theorem run_check_ks (em:Bool) (t:Nm) (w:World):(Instr.checkKey em 10000 9 (kV t)).run Tryz.prog w= .ok () w:=by
 have h:∀ d:Nat,(Instr.checkKey em (d+1) 9 (kV t)).run Tryz.prog w= .ok () w:=fun d=>by
  simp [Instr.checkKey,run_underlying Tryz.underlying9,kV]
 exact h 9999
theorem run_stays_ks (t:Nm) (w:World):(Instr.keyThatStays (kV t) (kV t)).run Tryz.prog w= .ok (kV t) w:=by
 have h:∀ d:Nat,Instr.sameBits (d+2) (kV t) (kV t)=true:=fun d=>by simp [Instr.sameBits,kV,str_eq]
 simp [Instr.keyThatStays,h 9998]
abbrev EntK:=Nm × Value
def entsK:Nat→List EntK→List MapEntry
 |_,[]=>[]
 |i,e::m=>{key:=kV e.1,val:=e.2,born:=i}::entsK (i+1) m
theorem entsK_length:∀ (m:List EntK) (i:Nat),(entsK i m).length=m.length
 |[],_=>rfl
 |e::m,i=>by simp [entsK,entsK_length m (i+1)]
theorem entsK_at:∀ {m:List EntK} {i k:Nat} (hk:k<m.length),(entsK i m)[k]?=some {key:=kV m[k].1,val:=m[k].2,born:=i+k}
 |[],_,_,h=>by simp at h
 |e::m,i,0,_=>rfl
 |e::m,i,k+1,h=>by
  have :=entsK_at (m:=m) (i:=i+1) (k:=k) (by simpa using h)
  simp only [entsK,List.getElem?_cons_succ,zC]
  rw [this,Nat.add_assoc,Nat.add_comm 1 k]
theorem entsK_append:∀ (m:List EntK) (e:EntK) (i:Nat),entsK i (m++[e])=entsK i m++[{key:=kV e.1,val:=e.2,born:=i+m.length}]
 |[],e,i=>rfl
 |x::m,e,i=>by
  simp only [List.cons_append,entsK,entsK_append m e (i+1),List.length_cons]
  rw [Nat.add_assoc,Nat.add_comm 1 m.length]
theorem entsK_set:∀ (m:List EntK) (e:EntK) (i k:Nat),entsK i (m.set k e)=(entsK i m).set k {key:=kV e.1,val:=e.2,born:=i+k}
 |[],e,i,k=>by simp [entsK]
 |x::m,e,i,0=>by simp [entsK]
 |x::m,e,i,k+1=>by
  simp only [zF,entsK,entsK_set m e (i+1) k]
  rw [Nat.add_assoc,Nat.add_comm 1 k]
def MapK (w:World) (B c:Nat) (m:List EntK):Prop:=w.heap[B]?=some (.map (entsK c m).toArray (c+m.length))
def posK (m:List EntK) (t:Nm):Nat:=m.findIdx (fun e=>decide (e.1=t))
def valK (m:List EntK) (t:Nm):Value:=if h:posK m t<m.length then m[posK m t].2 else .slice none 0 0
def entK (m:List EntK) (t:Nm):List EntK:=if posK m t<m.length then m else m++[(t,.slice none 0 0)]
theorem posK_key {m:List EntK} {t:Nm} (h:posK m t<m.length):m[posK m t].1=t:=by
 have :=List.findIdx_getElem (p:=fun e:EntK=>decide (e.1=t)) (xs:=m) (w:=h)
 exact of_decide_eq_true this
theorem posK_entK (m:List EntK) (t:Nm):posK m t<(entK m t).length∧(entK m t)[posK m t]?=some (t,valK m t):=by
 unfold entK valK
 split
 ·rename_i h
  have e:=posK_key h
  refine ⟨h,?_⟩
  rw [List.getElem?_eq_getElem h]
  exact congrArg some (Prod.ext e rfl)
 ·rename_i h
  have hle:posK m t≤m.length:=List.findIdx_le_length
  have :posK m t=m.length:=by omega
  rw [this]
  simp
theorem find_now:∀ (m:List EntK) (t:Nm) (k i:Nat),Instr.findNow .string (kV t) (entsK k m) i=some (if h:posK m t<m.length then some (i+posK m t,m[posK m t].2) else none)
 |[],t,k,i=>by simp [entsK,Instr.findNow,posK]
 |e::m,t,k,i=>by
  have ih:=find_now m t (k+1) (i+1)
  have hs:Instr.sameNow .string (kV t) (kV e.1)=some (decide (t=e.1)):=by simp only [Instr.sameNow,kV,str_eq]
  rw [entsK,Instr.findNow]
  simp only [hs]
  by_cases he:t=e.1
  ·have hp:posK (e::m) t=0:=by unfold posK;rw [List.findIdx_cons];simp [he]
   simp only [hp]
   simp [he]
  ·have he':¬ e.1=t:=fun h=>he h.symm
   have hp:posK (e::m) t=posK m t+1:=by unfold posK;rw [List.findIdx_cons];simp [he']
   simp only [he,decide_false,ih]
   by_cases h:posK m t<m.length
   ·have h':posK (e::m) t<(e::m).length:=by rw [hp];simpa using h
    rw [dif_pos h,dif_pos h']
    simp only [hp,zC]
    rw [Nat.add_assoc,Nat.add_comm 1]
   ·have h':¬ posK (e::m) t<(e::m).length:=by rw [hp];simpa using h
    rw [dif_neg h,dif_neg h']
theorem run_find_ks (m:List EntK) (t:Nm) (w:World) (k:Nat):(Instr.findKey 9 (kV t) (entsK k m)).run Tryz.prog w= .ok (if h:posK m t<m.length then some (posK m t,m[posK m t].2) else none) w:=by
 have h:=find_now m t k 0
 simp only [Nat.zero_add] at h
 simp only [Instr.findKey,Sem.run_bind,run_underlying Tryz.underlying9,Result.andThen,h]
 simp [Sem.run_pure]
theorem run_lookup_ks {w:World} {B c:Nat} {m:List EntK} (h:MapK w B c m) (t:Nm):(Instr.lookup 142 (.map (some B)) (kV t) false).run Tryz.prog w= .ok (valK m t) w:=by
 unfold MapK at h
 have hf:=run_find_ks m t w c
 unfold valK
 by_cases hp:posK m t<m.length
 ·rw [dif_pos hp] at hf ⊢
  simp [Instr.lookup,run_underlying Tryz.underlying142,MapKept.run_getObj_map h,run_check_ks,hf,Result.andThen]
 ·rw [dif_neg hp] at hf ⊢
  simp [Instr.lookup,run_underlying Tryz.underlying142,MapKept.run_getObj_map h,run_check_ks,hf,Result.andThen,Tryz.zeroValue58]
theorem run_update_ks {w:World} {B c:Nat} {m:List EntK} (h:MapK w B c m) (t:Nm) (v:Value):∃ w',(Instr.mapUpdate 142 (.map (some B)) (kV t) v).run Tryz.prog w= .ok () w'∧MapK w' B c ((entK m t).set (posK m t) (t,v))∧w.grownBy w' (some B):=by
 unfold MapK at h
 have hf:=run_find_ks m t w c
 unfold entK
 by_cases hp:posK m t<m.length
 ·rw [dif_pos hp] at hf
  rw [if_pos hp]
  have hk:=posK_key hp
  have he:=entsK_at (i:=c) hp
  rw [hk] at he
  have hmod:(entsK c m).modify (posK m t) (fun e=>{e with key:=kV t,val:=v})=entsK c (m.set (posK m t) (t,v)):=by
   rw [entsK_set]
   apply List.ext_getElem?
   intro j
   rw [List.getElem?_modify,List.getElem?_set]
   by_cases hj:posK m t=j
   ·subst hj
    have hkl:posK m t<(entsK c m).length:=by rw [entsK_length];exact hp
    rw [he,if_pos rfl,if_pos hkl]
    simp
   ·simp [hj]
  refine ⟨setBlock w B (.map (entsK c (m.set (posK m t) (t,v))).toArray (c+(m.set (posK m t) (t,v)).length)),?_,ChangeMaps.heap_setBlock_same h _,?_⟩
  ·rw [← hmod]
   simp [Instr.mapUpdate,run_underlying Tryz.underlying142,MapKept.run_getObj_map h,run_check_ks,hf,Result.andThen,he,run_stays_ks,MapKept.run_setObj_map _ h,setBlock]
  ·exact ⟨rfl,rfl,rfl,by simp [setBlock],fun k _ hk=>ChangeMaps.heap_setBlock_other h _ (fun e=>hk (by rw [e]))⟩
 ·rw [dif_neg hp] at hf
  rw [if_neg hp]
  have hle:posK m t≤m.length:=List.findIdx_le_length
  have hpe:posK m t=m.length:=by omega
  have hset:(m++[(t,Value.slice none 0 0)]).set (posK m t) (t,v)=m++[(t,v)]:=by
   rw [hpe]
   simp
  have hpush:(entsK c m).toArray.push {key:=kV t,val:=v,born:=c+m.length}=(entsK c (m++[(t,v)])).toArray:=by
   rw [entsK_append,List.push_toArray]
  rw [hset]
  refine ⟨setBlock w B (.map (entsK c (m++[(t,v)])).toArray (c+(m++[(t,v)]).length)),?_,ChangeMaps.heap_setBlock_same h _,?_⟩
  ·rw [← hpush]
   simp [Instr.mapUpdate,run_underlying Tryz.underlying142,MapKept.run_getObj_map h,run_check_ks,hf,Result.andThen,MapKept.run_setObj_map _ h,setBlock,Nat.add_assoc]
  ·exact ⟨rfl,rfl,rfl,by simp [setBlock],fun k _ hk=>ChangeMaps.heap_setBlock_other h _ (fun e=>hk (by rw [e]))⟩
section
variable {ops:Array Oper} {rest:List Oper} {o:Oper} {a:Act} {Q:Exit→Act→World→Prop}
theorem wpList_lookup_ks (w:World) (hg:o.guard=none) (x y:Operand) (hop:o.op=Op.lookup 142 x y false) (B c:Nat) (m:List EntK) (t:Nm) (hx:a.eval x= .map (some B)) (hat:MapK w B c m) (hy:a.eval y=kV t)
  (hK:wpList Tryz.prog ops Q rest (a.put o.dst (valK m t)) w):wpList Tryz.prog ops Q (o::rest) a w:=by
 refine wpList_plain hg fun K' hK'=> ?_
 unfold Oper.wp
 simp [execOp,hop,hx,hy,run_lookup_ks hat,Result.andThen]
 exact hK' _ _ hK
end
end Go.Proofs.YtmoomnpbiifedaaGreat
set_option linter.unusedVariables false
namespace Go.Proofs.YtmoomnpbiifedaaGreat
open Go Go.RowKit
def Of (S:Nat→Prop) (t:TypeId) (w:World) (k:Nat):Prop:=S k∧∃ cs fr,w.heap[k]?=some (.cells cs t fr)∧fr=(0,0)
theorem Of.lt {S:Nat→Prop} {t:TypeId} {w:World} {k:Nat} (h:Of S t w k):k<w.heap.size:=by obtain ⟨_,cs,fr,h,_⟩:=h;exact (Array.getElem?_eq_some_iff.1 h).1
theorem Of.keep {S:Nat→Prop} {t:TypeId} {w w':World} {k:Nat} (h:Of S t w k) (hk:w'.heap[k]?=w.heap[k]?):Of S t w' k:=by obtain ⟨h1,cs,fr,h,h0⟩:=h;exact ⟨h1,cs,fr,hk.trans h,h0⟩
theorem Of.imp {S T:Nat→Prop} {t:TypeId} {w:World} {k:Nat} (h:Of S t w k) (hs:S k→T k):Of T t w k:=⟨hs h.1,h.2⟩
theorem RowP.keepO {S:Nat→Prop} {t:TypeId} {w w':World} {A:Option Addr} {xs:List Value} (h:RowP (Of S t w) w A xs) (hk:∀ k,Of S t w k→w'.heap[k]?=w.heap[k]?):RowP (Of S t w') w' A xs:=(h.keep hk).imp fun k hs=>hs.keep (hk k hs)
theorem owned_type9 {w:World} {base:Nat} {e:TypeId} {size:Nat} {v:Value} {n:Nat} {xs:List Value} (h:w.ownsRow base e size v n xs) {k:Nat} (hk:v.ownBlock=some k):∃ cs fr,w.heap[k]?=some (.cells cs e fr):=by
 rcases h.2 with ⟨rfl,_⟩|⟨g,cap,cur,rfl,_,hh,_⟩
 ·cases hk
 ·simp only [Value.ownBlock,Option.some.injEq] at hk
  subst hk
  exact ⟨_,_,hh⟩
theorem owned_type0 {w:World} {base:Nat} {e:TypeId} {size:Nat} {v:Value} {n:Nat} {xs:List Value} (h:w.ownsRow base e size v n xs) {k:Nat} (hk:v.ownBlock=some k):∃ cs,w.heap[k]?=some (.cells cs e (0,0)):=by
 rcases h.2 with ⟨rfl,_⟩|⟨g,cap,cur,rfl,_,hh,_⟩
 ·cases hk
 ·simp only [Value.ownBlock,Option.some.injEq] at hk
  subst hk
  exact ⟨_,hh⟩
def OwnPP (S:Nat→Prop) (w:World) (v:Value) (l:List Pn):Prop:=∃ cs,w.ownsRow 0 63 2 v l.length cs∧(∀ k,v.ownBlock=some k→S k)∧PoCells (RowP (Of S 3 w) w) l cs
theorem OwnPP.nil {S:Nat→Prop} {w:World}:OwnPP S w (.slice none 0 0) []:=⟨[],World.ownsRow_nil _ _ _ _,(fun k hk=>by cases hk),rfl⟩
theorem OwnPP.keep {S:Nat→Prop} {w w':World} {v:Value} {l:List Pn} (h:OwnPP S w v l) (hv:∀ k,v.ownBlock=some k→w'.heap[k]?=w.heap[k]?) (hk:∀ k,Of S 3 w k→w'.heap[k]?=w.heap[k]?):OwnPP S w' v l:=by
 obtain ⟨cs,h1,h2,h3⟩:=h
 exact ⟨cs,owned_keep h1 hv,h2,h3.imp fun _ _ h=>h.keepO hk⟩
theorem OwnPP.imp {S T:Nat→Prop} {w:World} {v:Value} {l:List Pn} (h:OwnPP S w v l) (hs:∀ k,S k→T k):OwnPP T w v l:=by
 obtain ⟨cs,h1,h2,h3⟩:=h
 exact ⟨cs,h1,fun k hk=>hs k (h2 k hk),h3.imp fun _ _ h=>h.imp fun k hk=>hk.imp (hs k)⟩
theorem OwnPP.push {S:Nat→Prop} {w w':World} {v v':Value} {l:List Pn} {cs:List Value} (h1:w.ownsRow 0 63 2 v l.length cs) (h3:PoCells (RowP (Of S 3 w) w) l cs) {A:Option Addr} {c:Nat} {d:Int} {ps:List Int} (hc:ps.length≤c) (hcx:c≤maxLen) (hr:RowP (Of S 3 w) w A (ints ps))
  (hown:w'.ownsRow 0 63 2 v' (l.length+1) (cs++[.int .i64 d,.slice A ps.length c])) (hg:w.grownBy w' v.ownBlock) (hS:∀ k,v'.ownBlock=some k→S k):OwnPP S w' v' (l++[(d,ps)]):=by
 have hk:∀ k,Of S 3 w k→w'.heap[k]?=w.heap[k]?:=fun k hk=>hg.block k hk.lt fun e=>by
  obtain ⟨_,cs',fr,hh,_⟩:=hk
  exact owned_apart h1 hh (by decide) e.symm
 refine ⟨_,?_,hS,(h3.imp fun _ _ h=>h.keepO hk).snoc hc hcx (hr.keepO hk)⟩
 rw [List.length_append,List.length_singleton]
 exact hown
def PmAt (S:Nat→Prop) (w:World) (M c:Nat) (g:List GP):Prop:=∃ m:List EntK,MapK w M c m∧S M∧m.length=g.length∧
 (∀ (i:Nat) (e:EntK) (p:GP),m[i]?=some e→g[i]?=some p→e.1=p.1∧OwnPP S w e.2 p.2)∧
 ∀ (i j:Nat) (e f:EntK) (k:Nat),i≠j→m[i]?=some e→m[j]?=some f→e.2.ownBlock=some k→f.2.ownBlock≠some k
def MapB (S:Nat→Prop) (w:World) (M k:Nat):Prop:=k=M∨Of S 63 w k
theorem OwnPP.not_map {S:Nat→Prop} {w:World} {v:Value} {l:List Pn} (h:OwnPP S w v l) {B:Nat} {es:Array MapEntry} {c:Nat} (hB:w.heap[B]?=some (.map es c)):v.ownBlock≠some B:=by
 intro he
 obtain ⟨cs,h1,_⟩:=h
 obtain ⟨cs',fr,hh⟩:=owned_type9 h1 he
 rw [hh] at hB
 cases hB
theorem PmAt.lt {S:Nat→Prop} {w:World} {M c:Nat} {g:List GP} (h:PmAt S w M c g):M<w.heap.size:=by obtain ⟨m,h1,_⟩:=h;exact (Array.getElem?_eq_some_iff.1 h1).1
theorem PmAt.map {S:Nat→Prop} {w:World} {M c:Nat} {g:List GP} (h:PmAt S w M c g):∃ es c',w.heap[M]?=some (.map es c'):=by obtain ⟨m,h1,_⟩:=h;exact ⟨_,_,h1⟩
theorem PmAt.keep {S:Nat→Prop} {w w':World} {M c:Nat} {g:List GP} (h:PmAt S w M c g) (hk:∀ k,S k→k<w.heap.size→w'.heap[k]?=w.heap[k]?):PmAt S w' M c g:=by
 have hlt:=h.lt
 obtain ⟨m,h1,h2,h3,h4,h5⟩:=h
 refine ⟨m,(hk M h2 hlt).trans h1,h2,h3,fun i e p he hp=> ?_,h5⟩
 obtain ⟨r1,r2⟩:=h4 i e p he hp
 refine ⟨r1,r2.keep (fun k hv=> ?_) fun k hs=>hk k hs.1 hs.lt⟩
 obtain ⟨cs,q1,q2,_⟩:=r2
 exact hk k (q2 k hv) (q1.lt k hv).2
theorem PmAt.imp {S T:Nat→Prop} {w:World} {M c:Nat} {g:List GP} (h:PmAt S w M c g) (hs:∀ k,S k→T k):PmAt T w M c g:=by
 obtain ⟨m,h1,h2,h3,h4,h5⟩:=h
 exact ⟨m,h1,hs M h2,h3,fun i e p he hp=>⟨(h4 i e p he hp).1,(h4 i e p he hp).2.imp hs⟩,h5⟩
theorem posK_getP {S:Nat→Prop} {w:World}:∀ {m:List EntK} {g:List GP} (t:Nm),m.length=g.length→(∀ (i:Nat) (e:EntK) (p:GP),m[i]?=some e→g[i]?=some p→e.1=p.1∧OwnPP S w e.2 p.2)→OwnPP S w (valK m t) (getP g t)
 |[],g,t,hl,h=>by
  cases g with
  |nil=>exact OwnPP.nil
  |cons p g=>cases hl
 |e::m,g,t,hl,h=>by
  cases g with
  |nil=>cases hl
  |cons p g=>
   obtain ⟨h1,h2⟩:=h 0 e p rfl rfl
   have ih:=posK_getP (m:=m) (g:=g) t (by simpa using hl) fun i e' p' he hp=>h (i+1) e' p' (by simpa using he) (by simpa using hp)
   rw [getP]
   by_cases ht:e.1=t
   ·have hp:posK (e::m) t=0:=by unfold posK;rw [List.findIdx_cons];simp [ht]
    have hv:valK (e::m) t=e.2:=by unfold valK;simp [hp]
    rw [if_pos (by rw [← h1];exact ht),hv]
    exact h2
   ·have hp:posK (e::m) t=posK m t+1:=by unfold posK;rw [List.findIdx_cons];simp [ht]
    have hv:valK (e::m) t=valK m t:=by unfold valK;simp [hp]
    rw [if_neg (by rw [← h1];exact ht),hv]
    exact ih
theorem PmAt.look {S:Nat→Prop} {w:World} {M c:Nat} {g:List GP} (h:PmAt S w M c g) (t:Nm):∃ v,(∃ m,MapK w M c m∧valK m t=v)∧OwnPP S w v (getP g t):=by
 obtain ⟨m,h1,h2,h3,h4,h5⟩:=h
 exact ⟨_,⟨m,h1,rfl⟩,posK_getP t h3 h4⟩
theorem PmAt.keys {S:Nat→Prop} {w:World} {M c:Nat} {g:List GP} (h:PmAt S w M c g):∃ m,MapK w M c m∧m.map (·.1)=g.map (·.1)∧m.length=g.length:=by
 obtain ⟨m,h1,_,h3,h4,_⟩:=h
 refine ⟨m,h1,List.ext_getElem (by simp [h3]) fun i hi hj=> ?_,h3⟩
 have hi':i<m.length:=by simpa using hi
 have hj':i<g.length:=by simpa using hj
 simpa using (h4 i _ _ (List.getElem?_eq_getElem hi') (List.getElem?_eq_getElem hj')).1
theorem addP_at:∀ {m:List EntK} {g:List GP} {t:Nm} {a:Pn},m.length=g.length→(∀ (i:Nat) (e:EntK) (p:GP),m[i]?=some e→g[i]?=some p→e.1=p.1)→
  (addP g t a).length=(entK m t).length∧(addP g t a)[posK m t]?=some (t,getP g t++[a])∧∀ i p,i≠posK m t→(addP g t a)[i]?=some p→g[i]?=some p
 |[],g,t,a,hl,h=>by
  cases g with
  |nil=>refine ⟨by simp [addP,entK,posK],by simp [addP,posK,getP],fun i p hi hp=> ?_⟩;cases i with|zero=>simp [posK] at hi|succ i=>simp [addP] at hp
  |cons p g=>cases hl
 |e::m,g,t,a,hl,h=>by
  cases g with
  |nil=>cases hl
  |cons p g=>
   have h1:=h 0 e p rfl rfl
   obtain ⟨i1,i2,i3⟩:=addP_at (m:=m) (g:=g) (t:=t) (a:=a) (by simpa using hl) fun i e' p' he hp=>h (i+1) e' p' (by simpa using he) (by simpa using hp)
   have hl':m.length=g.length:=by simpa using hl
   rw [addP]
   by_cases ht:e.1=t
   ·have hp:posK (e::m) t=0:=by unfold posK;rw [List.findIdx_cons];simp [ht]
    have ht':p.1=t:=by rw [← h1];exact ht
    rw [if_pos ht',hp]
    refine ⟨by simp [entK,hp,hl'],by simp [getP,ht'],fun i q hi hq=> ?_⟩
    cases i with
    |zero=>exact absurd rfl hi
    |succ i=>simpa using hq
   ·have hp:posK (e::m) t=posK m t+1:=by unfold posK;rw [List.findIdx_cons];simp [ht]
    have ht':¬ p.1=t:=by rw [← h1];exact ht
    have he:(entK (e::m) t).length=(entK m t).length+1:=by
     unfold entK
     rw [hp]
     by_cases hq:posK m t<m.length
     ·rw [if_pos hq,if_pos (by simpa using hq)];rfl
     ·rw [if_neg hq,if_neg (by simpa using hq)];simp
    rw [if_neg ht',hp]
    refine ⟨by rw [he,List.length_cons,i1],by rw [List.getElem?_cons_succ,i2,getP,if_neg ht'],fun i q hi hq=> ?_⟩
    cases i with
    |zero=>simpa using hq
    |succ i=>simpa using i3 i q (by omega) (by simpa using hq)
theorem PmAt.added {S T:Nat→Prop} {w w3:World} {M c:Nat} {g:List GP} {m:List EntK} {t:Nm} {a:Pn} {v':Value}
  (h1:MapK w M c m) (h2:S M) (h3:m.length=g.length) (h4:∀ (i:Nat) (e:EntK) (p:GP),m[i]?=some e→g[i]?=some p→e.1=p.1∧OwnPP S w e.2 p.2)
  (h5:∀ (i j:Nat) (e f:EntK) (k:Nat),i≠j→m[i]?=some e→m[j]?=some f→e.2.ownBlock=some k→f.2.ownBlock≠some k)
  (hST:∀ k,S k→T k) (hk:∀ (k:Nat),k<w.heap.size→k≠M→(valK m t).ownBlock≠some k→w3.heap[k]?=w.heap[k]?)
  (hm2:MapK w3 M c ((entK m t).set (posK m t) (t,v'))) (ho:OwnPP T w3 v' (getP g t++[a])) (hn:v'.ownBlock=(valK m t).ownBlock∨∀ k,v'.ownBlock=some k→w.heap.size≤k):PmAt T w3 M c (addP g t a):=by
 obtain ⟨p1,p2⟩:=posK_entK m t
 obtain ⟨q1,q2,q3⟩:=addP_at (a:=a) (t:=t) h3 fun i e p he hp=>(h4 i e p he hp).1
 have hB:M<w.heap.size:=(Array.getElem?_eq_some_iff.1 h1).1
 have hent:∀ (i:Nat) (e:EntK),i≠posK m t→(entK m t)[i]?=some e→m[i]?=some e:=fun i e hi he=>by
  unfold entK at he
  split at he
  ·exact he
  ·rename_i hlt
   have hle:posK m t≤m.length:=List.findIdx_le_length
   rw [List.getElem?_append] at he
   split at he
   ·exact he
   ·rename_i h6
    have :i≠m.length:=by omega
    rw [List.getElem?_eq_none (by simp;omega)] at he
    cases he
 have hval:∀ (i:Nat) (e:EntK) (k:Nat),i≠posK m t→m[i]?=some e→e.2.ownBlock=some k→(valK m t).ownBlock≠some k:=fun i e k hi he hk'=>by
  unfold valK
  split
  ·rename_i hlt
   exact h5 i (posK m t) e _ k hi he (List.getElem?_eq_getElem hlt) hk'
  ·intro hh;cases hh
 refine ⟨_,hm2,hST M h2,by rw [List.length_set,q1],fun i e p he hp=> ?_,fun i j e f k hij he hf hk'=> ?_⟩
 ·rw [List.getElem?_set] at he
  by_cases hi:posK m t=i
  ·subst hi
   rw [if_pos rfl,if_pos p1] at he
   rw [q2] at hp
   cases he
   cases hp
   exact ⟨rfl,ho⟩
  ·rw [if_neg hi] at he
   have he':=hent i e (fun h=>hi h.symm) he
   have hp':=q3 i p (fun h=>hi h.symm) hp
   obtain ⟨r1,r2⟩:=h4 i e p he' hp'
   have rv:=hval i e
   have rm:∀ k,e.2.ownBlock=some k→k≠M:=fun k hk' e'=>r2.not_map h1 (by rw [hk',e'])
   refine ⟨r1,OwnPP.imp (r2.keep (fun k hk'=> ?_) fun k hs=> ?_) hST⟩
   ·have hlt:k<w.heap.size:=by obtain ⟨cs,g1,_⟩:=r2;exact (g1.lt k hk').2
    exact hk k hlt (rm k hk') (rv k (fun h=>hi h.symm) he' hk')
   ·obtain ⟨_,cs',fr',hh,_⟩:=hs
    refine hk k (Array.getElem?_eq_some_iff.1 hh).1 (fun e'=> ?_) (fun e'=> ?_)
    ·subst e';rw [h1] at hh;cases hh
    ·obtain ⟨cs2,g1,_⟩:=posK_getP (S:=S) (w:=w) t h3 h4
     exact owned_apart g1 hh (by decide) e'
 ·rw [List.getElem?_set] at he hf
  have hother:∀ (x:Nat) (u:EntK),posK m t≠x→(entK m t)[x]?=some u→∀ k,u.2.ownBlock=some k→v'.ownBlock≠some k:=fun x u hx hu k hk2 hv=>by
   have hu':=hent x u (fun h=>hx h.symm) hu
   rcases hn with hn|hn
   ·rw [hn] at hv
    exact hval x u k (fun h=>hx h.symm) hu' hk2 hv
   ·have hlx:x<g.length:=by rw [← h3];exact (List.getElem?_eq_some_iff.1 hu').1
    obtain ⟨cs2,g1,_⟩:=(h4 x u _ hu' (List.getElem?_eq_getElem hlx)).2
    have :=(g1.lt k hk2).2
    have :=hn k hv
    omega
  by_cases hi:posK m t=i
  ·subst hi
   rw [if_pos rfl,if_pos p1] at he
   cases he
   rw [if_neg hij] at hf
   intro hf2
   exact hother j f hij hf k hf2 hk'
  ·rw [if_neg hi] at he
   by_cases hj:posK m t=j
   ·subst hj
    rw [if_pos rfl,if_pos p1] at hf
    cases hf
    exact hother i e hi he k hk'
   ·rw [if_neg hj] at hf
    exact h5 i j e f k hij (hent i e (fun h=>hi h.symm) he) (hent j f (fun h=>hj h.symm) hf) hk'
end Go.Proofs.YtmoomnpbiifedaaGreat
set_option linter.unusedVariables false
namespace Go.Proofs.YtmoomnpbiifedaaGreat
open Go Go.RowKit
theorem four_cells {w:World} {b:Nat} {x y z u:Value} {t:TypeId} (h:w.heap[b]?=some (.cells #[x,y,z,u] t (0,0))):
  w.cell? ⟨b,0,none⟩=some x∧w.cell? ⟨b,1,none⟩=some y∧w.cell? ⟨b,2,none⟩=some z∧w.cell? ⟨b,3,none⟩=some u∧
   w.frozen? ⟨b,0,none⟩=false∧w.frozen? ⟨b,1,none⟩=false∧w.frozen? ⟨b,2,none⟩=false∧w.frozen? ⟨b,3,none⟩=false:=by
 simp [World.cell?,World.frozen?,h]
def RowF (S:Nat→Prop) (w:World) (A:Option Addr) (xs:List Value):Prop:=RowP (Of S 99 w) w A xs∧(A=none∨∃ b o,A=some ⟨b,o,none⟩)
theorem RowF.keepO {S:Nat→Prop} {w w':World} {A:Option Addr} {xs:List Value} (h:RowF S w A xs) (hk:∀ k,Of S 99 w k→w'.heap[k]?=w.heap[k]?):RowF S w' A xs:=⟨RowP.keepO h.1 hk,h.2⟩
theorem RowF.impS {S T:Nat→Prop} {w:World} {A:Option Addr} {xs:List Value} (h:RowF S w A xs) (hs:∀ k,S k→T k):RowF T w A xs:=⟨RowP.imp h.1 fun k hk=>hk.imp (hs k),h.2⟩
def OwnES (S:Nat→Prop) (w:World) (v:Value) (l:List En):Prop:=∃ cs,w.ownsRow 0 55 3 v l.length cs∧(∀ k,v.ownBlock=some k→S k)∧NestC enS (RowF S w) l cs
section
variable {S T:Nat→Prop} {w w':World} {v v':Value} {l:List En}
theorem OwnES.nil:OwnES S w (.slice none 0 0) []:=⟨[],World.ownsRow_nil _ _ _ _,(fun k hk=>by cases hk),rfl⟩
theorem OwnES.keep (h:OwnES S w v l) (hv:∀ k,v.ownBlock=some k→w'.heap[k]?=w.heap[k]?) (hk:∀ k,Of S 99 w k→w'.heap[k]?=w.heap[k]?):OwnES S w' v l:=by
 obtain ⟨cs,h1,h2,h3⟩:=h
 exact ⟨cs,owned_keep h1 hv,h2,h3.imp fun _ _ h=>h.keepO hk⟩
theorem OwnES.keeps (h:OwnES S w v l) (hk:∀ k,S k→k<w.heap.size→w'.heap[k]?=w.heap[k]?):OwnES S w' v l:=by
 refine h.keep (fun k hv=> ?_) fun k hs=>hk k hs.1 hs.lt
 obtain ⟨cs,q1,q2,_⟩:=h
 exact hk k (q2 k hv) (q1.lt k hv).2
theorem OwnES.imp (h:OwnES S w v l) (hs:∀ k,S k→T k):OwnES T w v l:=by
 obtain ⟨cs,h1,h2,h3⟩:=h
 exact ⟨cs,h1,fun k hk=>hs k (h2 k hk),h3.imp fun _ _ h=>h.impS hs⟩
theorem OwnES.nestP {p:Nat→Prop} (h:OwnES S w v l) (hp:∀ k,S k→k<w.heap.size→(∃ cs t fr,w.heap[k]?=some (.cells cs t fr)∧(t=55∨t=99))→p k):∃ A c,v= .slice A l.length c∧(l.length≤c∧c≤maxLen)∧NestP enS p w A l:=by
 obtain ⟨cs,h1,h2,h3⟩:=h
 obtain ⟨A,c,rfl,hc,hr⟩:=owned_roomed h1
 refine ⟨A,c,rfl,hc,cs,h3.imp fun _ _ h=>h.1.imp fun k hk=>hp k hk.1 hk.lt ?_,?_⟩
 ·obtain ⟨_,cs',fr,hh,_⟩:=hk
  exact ⟨cs',_,fr,hh,.inr rfl⟩
 ·rcases h1.2 with ⟨hv,h0⟩|⟨g,cap,cur,hv,_,hh,_⟩
  ·refine .inl (List.eq_nil_of_length_eq_zero ?_)
   rw [h1.1,h0]
  ·injection hv with e1 e2 e3
   subst e1
   have hs:=h2 g rfl
   rcases hr with h0|⟨b,off,e,hb,hcc⟩
   ·exact .inl h0
   ·injection e with e
    injection e with e4 e5
    subst e4 e5
    exact .inr ⟨g,0,rfl,hp g hs hb ⟨_,_,_,hh,.inl rfl⟩,hcc⟩
theorem OwnES.nest (h:OwnES S w v l):∃ A c,v= .slice A l.length c∧(l.length≤c∧c≤maxLen)∧Nest enS w w.heap.size A l:=h.nestP fun k _ hk _=>hk
theorem OwnES.push {cs:List Value} (h1:w.ownsRow 0 55 3 v l.length cs) (h3:NestC enS (RowF S w) l cs) {A:Option Addr} {c:Nat} {q:En} (hc:q.2.1.length≤c) (hcx:c≤maxLen) (hr:RowF S w A (flds q.2.1))
  (hown:w'.ownsRow 0 55 3 v' (l.length+1) (cs++[.int .i64 q.1,.slice A q.2.1.length c,.int .i64 q.2.2])) (hg:w.grownBy w' v.ownBlock) (hS:∀ k,v'.ownBlock=some k→S k):OwnES S w' v' (l++[q]):=by
 have hk:∀ k,Of S 99 w k→w'.heap[k]?=w.heap[k]?:=fun k hk=>hg.block k hk.lt fun e=>by
  obtain ⟨_,cs',fr,hh,_⟩:=hk
  exact owned_apart h1 hh (by decide) e.symm
 refine ⟨_,?_,hS,(h3.imp fun _ _ h=>h.keepO hk).snoc (q:=q) hc hcx (hr.keepO hk)⟩
 rw [List.length_append,List.length_singleton]
 exact hown
theorem RowF.of_own {base:Nat} {A:Option Addr} {n c:Nat} {fs:List Fd} (h:w.ownsRow base 99 2 (.slice A n c) n (flds fs)) (hS:∀ k,base≤k→k<w.heap.size→S k):RowF S w A (flds fs):=by
 rcases h.2 with ⟨hv,hn⟩|⟨g,cap,cur,hv,hg,hh,hnc,hcp,hcs,htake⟩
 ·injection hv with h1 h2 h3
  refine ⟨.inl (List.eq_nil_of_length_eq_zero ?_),.inl h1⟩
  rw [h.1,hn]
 ·injection hv with h1 h2 h3
  subst h1
  refine ⟨?_,.inr ⟨g,0,rfl⟩⟩
  rcases owned_row_of h with h0|⟨b,off,e,hb,hc⟩
  ·exact .inl h0
  ·injection e with e
   injection e with e1 e2
   subst e1 e2
   exact .inr ⟨g,0,rfl,⟨hS g hg hb,_,_,hh,rfl⟩,hc⟩
theorem OwnES.at_ (h:OwnES S w v l) {k:Nat} (hk:k<l.length):∃ b c0 A c,v= .slice (some ⟨b,0,none⟩) l.length c0∧S b∧b<w.heap.size∧w.cell? ⟨b,k*3,none⟩=some (.int .i64 l[k].1)∧w.cell? ⟨b,k*3+1,none⟩=some (.slice A l[k].2.1.length c)∧w.cell? ⟨b,k*3+2,none⟩=some (.int .i64 l[k].2.2)∧l[k].2.1.length≤c∧c≤maxLen∧RowF S w A (flds l[k].2.1):=by
 obtain ⟨cs,h1,h2,h3⟩:=h
 obtain ⟨A,c,g1,g2,g3,g4,g5,g6⟩:=h3.at_ hk
 have e0:=g5 0 _ rfl
 have e2:=g6 0 _ rfl
 rcases h1.2 with ⟨hv,h0⟩|⟨g,cap,cur,hv,hg,hh,_⟩
 ·omega
 ·subst hv
  have hc:∀ {j u},cs[j]?=some u→w.cell? ⟨g,j,none⟩=some u:=fun {j u} hu=>by have :=h1.cells (g:=g) rfl _ _ hu;simpa [Addr.add_lit] using this
  exact ⟨g,cap,A,c,rfl,h2 g rfl,(Array.getElem?_eq_some_iff.1 hh).1,hc e0,hc g1,hc e2,g2,g3,g4⟩
end
structure BufIn (S:Nat→Prop) (w:World) (B:Nat) (l:List En) (up:Int) (v:Value) (M c:Nat) (g:List GP):Prop where
 cells:w.heap[B]?=some (.cells #[v,.map (some M),.int .i64 (weightE l:Int),.int .i64 up] 144 (0,0))
 mine:S B
 own:OwnES S w v l
 map:PmAt S w M c g
 stand:Stand g l
 good:GoodE l
 up1: -1≤up
 last:l≠[]→up=lastE l
 lt:∀ k,S k→k<w.heap.size
def BufAt (S:Nat→Prop) (w:World) (B:Nat) (l:List En) (up:Int):Prop:=∃ v M c g,BufIn S w B l up v M c g
section
variable {S T:Nat→Prop} {w w':World} {B:Nat} {l:List En} {up:Int}
theorem BufIn.keep {v:Value} {M c:Nat} {g:List GP} (h:BufIn S w B l up v M c g) (hk:∀ k,S k→w'.heap[k]?=w.heap[k]?) (hs:w.heap.size≤w'.heap.size):BufIn S w' B l up v M c g:=
 ⟨(hk B h.mine).trans h.cells,h.mine,h.own.keeps fun k hk' _=>hk k hk',h.map.keep fun k hk' _=>hk k hk',h.stand,h.good,h.up1,h.last,fun k hk'=>Nat.lt_of_lt_of_le (h.lt k hk') hs⟩
theorem BufAt.keep (h:BufAt S w B l up) (hk:∀ k,S k→w'.heap[k]?=w.heap[k]?) (hs:w.heap.size≤w'.heap.size):BufAt S w' B l up:=by
 obtain ⟨v,M,c,g,h⟩:=h
 exact ⟨v,M,c,g,h.keep hk hs⟩
theorem BufIn.below {v:Value} {M c:Nat} {g:List GP} (h:BufIn S w B l up v M c g) (hb:Below w.heap.size w w'):BufIn S w' B l up v M c g:=h.keep (fun k hk=>hb.block k (h.lt k hk)) hb.size
theorem BufAt.below (h:BufAt S w B l up) (hb:Below w.heap.size w w'):BufAt S w' B l up:=by
 obtain ⟨v,M,c,g,h⟩:=h
 exact ⟨v,M,c,g,h.below hb⟩
theorem BufAt.lt (h:BufAt S w B l up):∀ k,S k→k<w.heap.size:=by obtain ⟨v,M,c,g,h⟩:=h;exact h.lt
end
end Go.Proofs.YtmoomnpbiifedaaGreat
