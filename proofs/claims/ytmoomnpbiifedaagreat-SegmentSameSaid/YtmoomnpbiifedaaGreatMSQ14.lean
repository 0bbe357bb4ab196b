import Derived.Test.YtmoomnpbiifedaaGreatMSZz
import Derived.Test.YtmoomnpbiifedaaGreatMSQ04
import Derived.Test.YtmoomnpbiifedaaGreatMSQ02
import Derived.Maps.RangeRun
import Derived.MapKept
import Derived.Deep.AppendLies
import Derived.Test.YtmoomnpbiifedaaGreatMSQ05
import Derived.Test.YtmoomnpbiifedaaGreatMSQ12
set_option linter.unusedVariables false
namespace Go.Proofs.YtmoomnpbiifedaaGreat
open Go Go.RowKit
def flds:List Fd→List Value
 |[]=>[]
 |f::l=> .string ⟨f.1.toArray⟩:: .string ⟨f.2.toArray⟩::flds l
theorem flds_length:∀ l:List Fd,(flds l).length=l.length*2
 |[]=>rfl
 |f::l=>by simp only [flds,List.length_cons,flds_length l];omega
theorem flds_append:∀ a b:List Fd,flds (a++b)=flds a++flds b
 |[],_=>rfl
 |f::a,b=>by simp [flds,flds_append a b]
theorem flds_at:∀ {l:List Fd} {k:Nat} (hk:k<l.length),(flds l)[k*2]?=some (.string ⟨l[k].1.toArray⟩)∧(flds l)[k*2+1]?=some (.string ⟨l[k].2.toArray⟩)
 |[],_,h=>by simp at h
 |f::l,0,_=>⟨rfl,rfl⟩
 |f::l,k+1,h=>by
  have :=flds_at (l:=l) (k:=k) (by simpa using h)
  rw [show (k+1)*2=k*2+1+1 by omega]
  simpa [flds] using this
theorem flds_take:∀ (l:List Fd) (k:Nat),flds (l.take k)=(flds l).take (k*2)
 |l,0=>by simp [flds]
 |[],k+1=>by simp [flds]
 |f::l,k+1=>by rw [show (k+1)*2=k*2+1+1 by omega];simp [flds,flds_take l k]
theorem flds_oneCell:∀ (l:List Fd),∀ u∈flds l,u.oneCell'=true
 |[],u,h=>by cases h
 |f::l,u,h=>by
  simp only [flds,List.mem_cons] at h
  rcases h with rfl|rfl|h
  ·rfl
  ·rfl
  ·exact flds_oneCell l u h
def FRow (w:World) (B:Nat) (A:Option Addr) (l:List Fd):Prop:=Row w B A (flds l)
theorem FRow.below {w w':World} {B:Nat} {A:Option Addr} {l:List Fd} (h:FRow w B A l) (hb:Below B w w'):FRow w' B A l:=Row.below h hb
theorem FRow.more {w:World} {B B':Nat} {A:Option Addr} {l:List Fd} (h:FRow w B A l) (hB:B≤B'):FRow w B' A l:=Row.more h hB
theorem FRow.nil {w:World} {B:Nat} {A:Option Addr}:FRow w B A []:=Row.nil
theorem FRow.later {w w':World} {A:Option Addr} {l:List Fd} (h:FRow w w.heap.size A l) (hb:Below w.heap.size w w'):FRow w' w'.heap.size A l:=(h.below hb).more hb.size
theorem FRow.at_ {w:World} {B:Nat} {A:Option Addr} {l:List Fd} (h:FRow w B A l) {k:Nat} (hk:k<l.length):
  ∃ b off,A=some ⟨b,off,none⟩∧b<B∧w.cell? ⟨b,off+k*2,none⟩=some (.string ⟨l[k].1.toArray⟩)∧w.cell? ⟨b,off+k*2+1,none⟩=some (.string ⟨l[k].2.toArray⟩):=by
 obtain ⟨b,off,rfl,hb,hc⟩:=Row.at_ h (by rw [flds_length];omega)
 obtain ⟨g1,g2⟩:=flds_at hk
 exact ⟨b,off,rfl,hb,hc _ _ g1,by have :=hc _ _ g2;rwa [← Nat.add_assoc] at this⟩
abbrev docV (id:Int) (A:Option Addr) (n c:Nat):Value:= .agg #[.int .i64 id,.slice A n c]
theorem info_field:(Tryz.prog.info? 99).map (fun i=>(i.zero,i.size,i.bytes))=some (some (.agg #[.string ByteArray.empty,.string ByteArray.empty]),2,32):=by kernel_rfl
end Go.Proofs.YtmoomnpbiifedaaGreat
set_option linter.unusedVariables false
namespace Go.Proofs.YtmoomnpbiifedaaGreat
open Go Go.RowKit
open Go.ChangeMaps (setBlock)
def tV (t:Tm):Value:= .agg #[.string ⟨t.1.toArray⟩,.string ⟨t.2.toArray⟩]
theorem str_eq (a b:Nm):((⟨a.toArray⟩:ByteArray)==⟨b.toArray⟩)=decide (a=b):=by
 have h:((⟨a.toArray⟩:ByteArray)==⟨b.toArray⟩)=(a.toArray==b.toArray):=rfl
 rw [h,Bool.eq_iff_iff]
 simp
theorem run_equal_tm (s t:Tm) (w:World):(Op.equal 39 (tV s) (tV t)).run Tryz.prog w= .ok (decide (s=t)) w:=by
 have h:∀ d:Nat,(Op.equalIn (d+2) 39 (tV s) (tV t)).run Tryz.prog w= .ok (decide (s=t)) w:=fun d=>by
  simp only [Op.equalIn,tV,part]
  simp [run_underlying Tryz.underlying39,run_underlying Tryz.underlying9,Tryz.sizeOf9,Tryz.isAgg9,str_eq]
  obtain ⟨s1,s2⟩:=s
  obtain ⟨t1,t2⟩:=t
  by_cases h1:s1=t1<;>by_cases h2:s2=t2<;>simp [h1,h2]
 exact h 9998
theorem run_check_tm (em:Bool) (t:Tm) (w:World):(Instr.checkKey em 10000 39 (tV t)).run Tryz.prog w= .ok () w:=by
 have h:∀ d:Nat,(Instr.checkKey em (d+2) 39 (tV t)).run Tryz.prog w= .ok () w:=fun d=>by
  simp [Instr.checkKey,run_underlying Tryz.underlying39,run_underlying Tryz.underlying9,tV,part,Tryz.sizeOf9,Tryz.isAgg9]
 exact h 9998
theorem run_stays_tm (t:Tm) (w:World):(Instr.keyThatStays (tV t) (tV t)).run Tryz.prog w= .ok (tV t) w:=by
 have h:∀ d:Nat,Instr.sameBits (d+2) (tV t) (tV t)=true:=fun d=>by simp [Instr.sameBits,tV,str_eq]
 simp [Instr.keyThatStays,h 9998]
abbrev Ent:=Tm × Value
def entsM:Nat→List Ent→List MapEntry
 |_,[]=>[]
 |i,e::m=>{key:=tV e.1,val:=e.2,born:=i}::entsM (i+1) m
theorem entsM_length:∀ (m:List Ent) (i:Nat),(entsM i m).length=m.length
 |[],_=>rfl
 |e::m,i=>by simp [entsM,entsM_length m (i+1)]
theorem entsM_at:∀ {m:List Ent} {i k:Nat} (hk:k<m.length),(entsM i m)[k]?=some {key:=tV m[k].1,val:=m[k].2,born:=i+k}
 |[],_,_,h=>by simp at h
 |e::m,i,0,_=>rfl
 |e::m,i,k+1,h=>by
  have :=entsM_at (m:=m) (i:=i+1) (k:=k) (by simpa using h)
  simp only [entsM,List.getElem?_cons_succ,zC]
  rw [this,Nat.add_assoc,Nat.add_comm 1 k]
theorem entsM_append:∀ (m:List Ent) (e:Ent) (i:Nat),entsM i (m++[e])=entsM i m++[{key:=tV e.1,val:=e.2,born:=i+m.length}]
 |[],e,i=>rfl
 |x::m,e,i=>by
  simp only [List.cons_append,entsM,entsM_append m e (i+1),List.length_cons]
  rw [Nat.add_assoc,Nat.add_comm 1 m.length]
theorem entsM_set:∀ (m:List Ent) (e:Ent) (i k:Nat),entsM i (m.set k e)=(entsM i m).set k {key:=tV e.1,val:=e.2,born:=i+k}
 |[],e,i,k=>by simp [entsM]
 |x::m,e,i,0=>by simp [entsM]
 |x::m,e,i,k+1=>by
  simp only [zF,entsM,entsM_set m e (i+1) k]
  rw [Nat.add_assoc,Nat.add_comm 1 k]
def MapAt (w:World) (B:Nat) (m:List Ent):Prop:=w.heap[B]?=some (.map (entsM 0 m).toArray m.length)
def posM (m:List Ent) (t:Tm):Nat:=m.findIdx (fun e=>decide (e.1=t))
def valM (m:List Ent) (t:Tm):Value:=if h:posM m t<m.length then m[posM m t].2 else .slice none 0 0
def entM (m:List Ent) (t:Tm):List Ent:=if posM m t<m.length then m else m++[(t,.slice none 0 0)]
theorem posM_key {m:List Ent} {t:Tm} (h:posM m t<m.length):m[posM m t].1=t:=by
 have :=List.findIdx_getElem (p:=fun e:Ent=>decide (e.1=t)) (xs:=m) (w:=h)
 exact of_decide_eq_true this
theorem posM_entM (m:List Ent) (t:Tm):posM m t<(entM m t).length∧(entM m t)[posM m t]?=some (t,valM m t):=by
 unfold entM valM
 split
 ·rename_i h
  have e:=posM_key h
  refine ⟨h,?_⟩
  rw [List.getElem?_eq_getElem h]
  exact congrArg some (Prod.ext e rfl)
 ·rename_i h
  have hle:posM m t≤m.length:=List.findIdx_le_length
  have :posM m t=m.length:=by omega
  rw [this]
  simp
theorem run_asking:∀ (m:List Ent) (t:Tm) (w:World) (k i:Nat),(Instr.findAsking 39 (tV t) (entsM k m) i).run Tryz.prog w= .ok (if h:posM m t<m.length then some (i+posM m t,m[posM m t].2) else none) w
 |[],t,w,k,i=>by simp [entsM,Instr.findAsking,posM]
 |e::m,t,w,k,i=>by
  have ih:=run_asking m t w (k+1) (i+1)
  rw [entsM,Instr.findAsking]
  simp only [Sem.run_bind,run_equal_tm,Result.andThen]
  by_cases he:t=e.1
  ·have hp:posM (e::m) t=0:=by unfold posM;rw [List.findIdx_cons];simp [he]
   simp only [hp]
   simp [he]
  ·have he':¬ e.1=t:=fun h=>he h.symm
   have hp:posM (e::m) t=posM m t+1:=by unfold posM;rw [List.findIdx_cons];simp [he']
   simp only [he,decide_false,Bool.false_eq_true,if_false,ih]
   rw [Result.ok.injEq]
   refine ⟨?_,rfl⟩
   by_cases h:posM m t<m.length
   ·have h':posM (e::m) t<(e::m).length:=by rw [hp];simpa using h
    rw [dif_pos h,dif_pos h']
    simp only [hp,zC]
    rw [Nat.add_assoc,Nat.add_comm 1]
   ·have h':¬ posM (e::m) t<(e::m).length:=by rw [hp];simpa using h
    rw [dif_neg h,dif_neg h']
theorem run_find_tm (m:List Ent) (t:Tm) (w:World) (k:Nat):(Instr.findKey 39 (tV t) (entsM k m)).run Tryz.prog w= .ok (if h:posM m t<m.length then some (posM m t,m[posM m t].2) else none) w:=by
 have h1:=run_asking m t w k 0
 rw [Nat.zero_add] at h1
 cases m with
 |nil=>simp [Instr.findKey,run_underlying Tryz.underlying39,entsM,Instr.findNow,posM]
 |cons e m=>
  rw [← h1]
  simp [Instr.findKey,run_underlying Tryz.underlying39,entsM,Instr.findNow,Instr.sameNow]
theorem run_lookup_tm {w:World} {B:Nat} {m:List Ent} (h:MapAt w B m) (t:Tm):(Instr.lookup 192 (.map (some B)) (tV t) false).run Tryz.prog w= .ok (valM m t) w:=by
 unfold MapAt at h
 have hf:=run_find_tm m t w 0
 unfold valM
 by_cases hp:posM m t<m.length
 ·rw [dif_pos hp] at hf ⊢
  simp [Instr.lookup,run_underlying Tryz.underlying192,MapKept.run_getObj_map h,run_check_tm,hf,Result.andThen]
 ·rw [dif_neg hp] at hf ⊢
  simp [Instr.lookup,run_underlying Tryz.underlying192,MapKept.run_getObj_map h,run_check_tm,hf,Result.andThen,Tryz.zeroValue22]
theorem run_entry_tm {w:World} {B:Nat} {m:List Ent} (h:MapAt w B m) (t:Tm):∃ w',(Instr.mapEntry 192 (.map (some B)) (tV t)).run Tryz.prog w= .ok (.tuple #[valM m t,.int .i64 (posM m t:Int)]) w'∧MapAt w' B (entM m t)∧w.grownBy w' (some B):=by
 unfold MapAt at h
 have hf:=run_find_tm m t w 0
 unfold valM entM
 by_cases hp:posM m t<m.length
 ·rw [dif_pos hp] at hf ⊢
  rw [if_pos hp]
  have hk:=posM_key hp
  have he:=entsM_at (i:=0) hp
  rw [hk,Nat.zero_add] at he
  have hmod:(entsM 0 m).modify (posM m t) (fun e=>{e with key:=tV t})=entsM 0 m:=by
   apply List.ext_getElem?
   intro j
   rw [List.getElem?_modify]
   by_cases hj:posM m t=j
   ·subst hj;simp [he]
   ·simp [hj]
  refine ⟨setBlock w B (.map (entsM 0 m).toArray m.length),?_,ChangeMaps.heap_setBlock_same h _,?_⟩
  ·simp [Instr.mapEntry,run_underlying Tryz.underlying192,MapKept.run_getObj_map h,run_check_tm,hf,Result.andThen,he,run_stays_tm,MapKept.run_setObj_map _ h,hmod,goInt,setBlock]
  ·exact ⟨rfl,rfl,rfl,by simp [setBlock],fun k _ hk=>ChangeMaps.heap_setBlock_other h _ (fun e=>hk (by rw [e]))⟩
 ·rw [dif_neg hp] at hf ⊢
  rw [if_neg hp]
  have hle:posM m t≤m.length:=List.findIdx_le_length
  have hpe:posM m t=m.length:=by omega
  have hpush:(entsM 0 m).toArray.push {key:=tV t,val:= .slice none 0 0,born:=m.length}=(entsM 0 (m++[(t,.slice none 0 0)])).toArray:=by
   rw [entsM_append,Nat.zero_add,List.push_toArray]
  refine ⟨setBlock w B (.map (entsM 0 (m++[(t,Value.slice none 0 0)])).toArray (m++[(t,Value.slice none 0 0)]).length),?_,ChangeMaps.heap_setBlock_same h _,?_⟩
  ·rw [hpe,← hpush]
   simp [Instr.mapEntry,run_underlying Tryz.underlying192,MapKept.run_getObj_map h,run_check_tm,hf,Result.andThen,MapKept.run_setObj_map _ h,goInt,setBlock,Tryz.zeroValue22]
  ·exact ⟨rfl,rfl,rfl,by simp [setBlock],fun k _ hk=>ChangeMaps.heap_setBlock_other h _ (fun e=>hk (by rw [e]))⟩
theorem find_born:∀ (m:List Ent) (i k:Nat),k<m.length→(entsM i m).findIdx? (fun e=>((e.born:Nat):Int)==((i+k:Nat):Int))=some k
 |[],i,k,h=>by simp at h
 |e::m,i,0,_=>by rw [entsM,List.findIdx?_cons];simp
 |e::m,i,k+1,h=>by
  have ih:=find_born m (i+1) k (by simpa using h)
  rw [entsM,List.findIdx?_cons,if_neg (by simp;omega)]
  rw [show i+(k+1)=i+1+k by omega,ih]
  rfl
theorem run_stored_tm {w:World} {B:Nat} {m:List Ent} (h:MapAt w B m) {k:Nat} (hk:k<m.length) (v:Value):∃ w',(Instr.entryStore 192 (.map (some B)) (.int .i64 (k:Int)) v).run Tryz.prog w= .ok () w'∧MapAt w' B (m.set k (m[k].1,v))∧w.grownBy w' (some B):=by
 unfold MapAt at h
 have hb:=find_born m 0 k hk
 rw [Nat.zero_add] at hb
 have he:=entsM_at (i:=0) hk
 rw [Nat.zero_add] at he
 have hmod:(entsM 0 m).modify k (fun e=>{e with val:=v})=entsM 0 (m.set k (m[k].1,v)):=by
  rw [entsM_set,Nat.zero_add]
  apply List.ext_getElem?
  intro j
  rw [List.getElem?_modify,List.getElem?_set]
  by_cases hj:k=j
  ·subst hj
   have hkl:k<(entsM 0 m).length:=by rw [entsM_length];exact hk
   rw [he,if_pos rfl,if_pos hkl]
   simp
  ·simp [hj]
 refine ⟨setBlock w B (.map (entsM 0 (m.set k (m[k].1,v))).toArray (m.set k (m[k].1,v)).length),?_,ChangeMaps.heap_setBlock_same h _,?_⟩
 ·rw [← hmod]
  simp [Instr.entryStore,MapKept.run_getObj_map h,asInt,asIntOf,hb,MapKept.run_setObj_map _ h,Result.andThen,setBlock]
 ·exact ⟨rfl,rfl,rfl,by simp [setBlock],fun k _ hk=>ChangeMaps.heap_setBlock_other h _ (fun e=>hk (by rw [e]))⟩
section
variable {ops:Array Oper} {rest:List Oper} {o:Oper} {a:Act} {Q:Exit→Act→World→Prop}
theorem wpList_lookup_tm (w:World) (hg:o.guard=none) (x y:Operand) (hop:o.op=Op.lookup 192 x y false) (B:Nat) (m:List Ent) (t:Tm) (hx:a.eval x= .map (some B)) (hat:MapAt w B m) (hy:a.eval y=tV t)
  (hK:wpList Tryz.prog ops Q rest (a.put o.dst (valM m t)) w):wpList Tryz.prog ops Q (o::rest) a w:=by
 refine wpList_plain hg fun K' hK'=> ?_
 unfold Oper.wp
 simp [execOp,hop,hx,hy,run_lookup_tm hat,Result.andThen]
 exact hK' _ _ hK
theorem wpList_entry_tm (w:World) (hg:o.guard=none) (x y:Operand) (hop:o.op=Op.mapEntry 192 x y) (B:Nat) (m:List Ent) (t:Tm) (hx:a.eval x= .map (some B)) (hat:MapAt w B m) (hy:a.eval y=tV t)
  (hK:∀ w',MapAt w' B (entM m t)→w.grownBy w' (some B)→wpList Tryz.prog ops Q rest (a.put o.dst (.tuple #[valM m t,.int .i64 (posM m t:Int)])) w'):wpList Tryz.prog ops Q (o::rest) a w:=by
 refine wpList_plain hg fun K' hK'=> ?_
 obtain ⟨w',hrun,r1,r2⟩:=run_entry_tm hat t
 unfold Oper.wp
 simp [execOp,hop,hx,hy,hrun,Result.andThen]
 exact hK' _ _ (hK w' r1 r2)
theorem wpList_stored_tm (w:World) (hg:o.guard=none) (x y z:Operand) (hop:o.op=Op.entryStore 192 x y z) (B:Nat) (m:List Ent) (k:Nat) (hk:k<m.length) (v:Value) (hx:a.eval x= .map (some B)) (hat:MapAt w B m) (hy:a.eval y= .int .i64 (k:Int)) (hz:a.eval z=v)
  (hK:∀ w',MapAt w' B (m.set k (m[k].1,v))→w.grownBy w' (some B)→wpList Tryz.prog ops Q rest (a.put o.dst undef) w'):wpList Tryz.prog ops Q (o::rest) a w:=by
 refine wpList_plain hg fun K' hK'=> ?_
 obtain ⟨w',hrun,r1,r2⟩:=run_stored_tm hat hk v
 unfold Oper.wp
 simp [execOp,hop,hx,hy,hz,hrun,Result.andThen]
 exact hK' _ _ (hK w' r1 r2)
end
end Go.Proofs.YtmoomnpbiifedaaGreat
set_option linter.unusedVariables false
namespace Go.Proofs.YtmoomnpbiifedaaGreat
open Go Go.RowKit
open Go.ChangeMaps (setBlock)
def kV (t:Nm):Value:= .string ⟨t.toArray⟩
theorem run_check_ks (em:Bool) (t:Nm) (w:World):(Instr.checkKey em 10000 9 (kV t)).run Tryz.prog w= .ok () w:=by
 have h:∀ d:Nat,(Instr.checkKey em (d+1) 9 (kV t)).run Tryz.prog w= .ok () w:=fun d=>by
  simp [Instr.checkKey,run_underlying Tryz.underlying9,kV]
 exact h 9999
theorem run_stays_ks (t:Nm) (w:World):(Instr.keyThatStays (kV t) (kV t)).run Tryz.prog w= .ok (kV t) w:=by
 have h:∀ d:Nat,Instr.sameBits (d+2) (kV t) (kV t)=true:=fun d=>by simp [Instr.sameBits,kV,str_eq]
 simp [Instr.keyThatStays,h 9998]
abbrev EntK:=Nm × Value
def entsK:Nat→List EntK→List MapEntry
 |_,[]=>[]
 |i,e::m=>{key:=kV e.1,val:=e.2,born:=i}::entsK (i+1) m
theorem entsK_length:∀ (m:List EntK) (i:Nat),(entsK i m).length=m.length
 |[],_=>rfl
 |e::m,i=>by simp [entsK,entsK_length m (i+1)]
theorem entsK_at:∀ {m:List EntK} {i k:Nat} (hk:k<m.length),(entsK i m)[k]?=some {key:=kV m[k].1,val:=m[k].2,born:=i+k}
 |[],_,_,h=>by simp at h
 |e::m,i,0,_=>rfl
 |e::m,i,k+1,h=>by
  have :=entsK_at (m:=m) (i:=i+1) (k:=k) (by simpa using h)
  simp only [entsK,List.getElem?_cons_succ,zC]
  rw [this,Nat.add_assoc,Nat.add_comm 1 k]
theorem entsK_append:∀ (m:List EntK) (e:EntK) (i:Nat),entsK i (m++[e])=entsK i m++[{key:=kV e.1,val:=e.2,born:=i+m.length}]
 |[],e,i=>rfl
 |x::m,e,i=>by
  simp only [List.cons_append,entsK,entsK_append m e (i+1),List.length_cons]
  rw [Nat.add_assoc,Nat.add_comm 1 m.length]
theorem entsK_set:∀ (m:List EntK) (e:EntK) (i k:Nat),entsK i (m.set k e)=(entsK i m).set k {key:=kV e.1,val:=e.2,born:=i+k}
 |[],e,i,k=>by simp [entsK]
 |x::m,e,i,0=>by simp [entsK]
 |x::m,e,i,k+1=>by
  simp only [zF,entsK,entsK_set m e (i+1) k]
  rw [Nat.add_assoc,Nat.add_comm 1 k]
def MapK (w:World) (B c:Nat) (m:List EntK):Prop:=w.heap[B]?=some (.map (entsK c m).toArray (c+m.length))
def posK (m:List EntK) (t:Nm):Nat:=m.findIdx (fun e=>decide (e.1=t))
def valK (m:List EntK) (t:Nm):Value:=if h:posK m t<m.length then m[posK m t].2 else .slice none 0 0
def entK (m:List EntK) (t:Nm):List EntK:=if posK m t<m.length then m else m++[(t,.slice none 0 0)]
theorem posK_key {m:List EntK} {t:Nm} (h:posK m t<m.length):m[posK m t].1=t:=by
 have :=List.findIdx_getElem (p:=fun e:EntK=>decide (e.1=t)) (xs:=m) (w:=h)
 exact of_decide_eq_true this
theorem posK_entK (m:List EntK) (t:Nm):posK m t<(entK m t).length∧(entK m t)[posK m t]?=some (t,valK m t):=by
 unfold entK valK
 split
 ·rename_i h
  have e:=posK_key h
  refine ⟨h,?_⟩
  rw [List.getElem?_eq_getElem h]
  exact congrArg some (Prod.ext e rfl)
 ·rename_i h
  have hle:posK m t≤m.length:=List.findIdx_le_length
  have :posK m t=m.length:=by omega
  rw [this]
  simp
theorem find_now:∀ (m:List EntK) (t:Nm) (k i:Nat),Instr.findNow .string (kV t) (entsK k m) i=some (if h:posK m t<m.length then some (i+posK m t,m[posK m t].2) else none)
 |[],t,k,i=>by simp [entsK,Instr.findNow,posK]
 |e::m,t,k,i=>by
  have ih:=find_now m t (k+1) (i+1)
  have hs:Instr.sameNow .string (kV t) (kV e.1)=some (decide (t=e.1)):=by simp only [Instr.sameNow,kV,str_eq]
  rw [entsK,Instr.findNow]
  simp only [hs]
  by_cases he:t=e.1
  ·have hp:posK (e::m) t=0:=by unfold posK;rw [List.findIdx_cons];simp [he]
   simp only [hp]
   simp [he]
  ·have he':¬ e.1=t:=fun h=>he h.symm
   have hp:posK (e::m) t=posK m t+1:=by unfold posK;rw [List.findIdx_cons];simp [he']
   simp only [he,decide_false,ih]
   by_cases h:posK m t<m.length
   ·have h':posK (e::m) t<(e::m).length:=by rw [hp];simpa using h
    rw [dif_pos h,dif_pos h']
    simp only [hp,zC]
    rw [Nat.add_assoc,Nat.add_comm 1]
   ·have h':¬ posK (e::m) t<(e::m).length:=by rw [hp];simpa using h
    rw [dif_neg h,dif_neg h']
theorem run_find_ks (m:List EntK) (t:Nm) (w:World) (k:Nat):(Instr.findKey 9 (kV t) (entsK k m)).run Tryz.prog w= .ok (if h:posK m t<m.length then some (posK m t,m[posK m t].2) else none) w:=by
 have h:=find_now m t k 0
 simp only [Nat.zero_add] at h
 simp only [Instr.findKey,Sem.run_bind,run_underlying Tryz.underlying9,Result.andThen,h]
 simp [Sem.run_pure]
theorem run_lookup_ks {w:World} {B c:Nat} {m:List EntK} (h:MapK w B c m) (t:Nm):(Instr.lookup 142 (.map (some B)) (kV t) false).run Tryz.prog w= .ok (valK m t) w:=by
 unfold MapK at h
 have hf:=run_find_ks m t w c
 unfold valK
 by_cases hp:posK m t<m.length
 ·rw [dif_pos hp] at hf ⊢
  simp [Instr.lookup,run_underlying Tryz.underlying142,MapKept.run_getObj_map h,run_check_ks,hf,Result.andThen]
 ·rw [dif_neg hp] at hf ⊢
  simp [Instr.lookup,run_underlying Tryz.underlying142,MapKept.run_getObj_map h,run_check_ks,hf,Result.andThen,Tryz.zeroValue58]
theorem run_update_ks {w:World} {B c:Nat} {m:List EntK} (h:MapK w B c m) (t:Nm) (v:Value):∃ w',(Instr.mapUpdate 142 (.map (some B)) (kV t) v).run Tryz.prog w= .ok () w'∧MapK w' B c ((entK m t).set (posK m t) (t,v))∧w.grownBy w' (some B):=by
 unfold MapK at h
 have hf:=run_find_ks m t w c
 unfold entK
 by_cases hp:posK m t<m.length
 ·rw [dif_pos hp] at hf
  rw [if_pos hp]
  have hk:=posK_key hp
  have he:=entsK_at (i:=c) hp
  rw [hk] at he
  have hmod:(entsK c m).modify (posK m t) (fun e=>{e with key:=kV t,val:=v})=entsK c (m.set (posK m t) (t,v)):=by
   rw [entsK_set]
   apply List.ext_getElem?
   intro j
   rw [List.getElem?_modify,List.getElem?_set]
   by_cases hj:posK m t=j
   ·subst hj
    have hkl:posK m t<(entsK c m).length:=by rw [entsK_length];exact hp
    rw [he,if_pos rfl,if_pos hkl]
    simp
   ·simp [hj]
  refine ⟨setBlock w B (.map (entsK c (m.set (posK m t) (t,v))).toArray (c+(m.set (posK m t) (t,v)).length)),?_,ChangeMaps.heap_setBlock_same h _,?_⟩
  ·rw [← hmod]
   simp [Instr.mapUpdate,run_underlying Tryz.underlying142,MapKept.run_getObj_map h,run_check_ks,hf,Result.andThen,he,run_stays_ks,MapKept.run_setObj_map _ h,setBlock]
  ·exact ⟨rfl,rfl,rfl,by simp [setBlock],fun k _ hk=>ChangeMaps.heap_setBlock_other h _ (fun e=>hk (by rw [e]))⟩
 ·rw [dif_neg hp] at hf
  rw [if_neg hp]
  have hle:posK m t≤m.length:=List.findIdx_le_length
  have hpe:posK m t=m.length:=by omega
  have hset:(m++[(t,Value.slice none 0 0)]).set (posK m t) (t,v)=m++[(t,v)]:=by
   rw [hpe]
   simp
  have hpush:(entsK c m).toArray.push {key:=kV t,val:=v,born:=c+m.length}=(entsK c (m++[(t,v)])).toArray:=by
   rw [entsK_append,List.push_toArray]
  rw [hset]
  refine ⟨setBlock w B (.map (entsK c (m++[(t,v)])).toArray (c+(m++[(t,v)]).length)),?_,ChangeMaps.heap_setBlock_same h _,?_⟩
  ·rw [← hpush]
   simp [Instr.mapUpdate,run_underlying Tryz.underlying142,MapKept.run_getObj_map h,run_check_ks,hf,Result.andThen,MapKept.run_setObj_map _ h,setBlock,Nat.add_assoc]
  ·exact ⟨rfl,rfl,rfl,by simp [setBlock],fun k _ hk=>ChangeMaps.heap_setBlock_other h _ (fun e=>hk (by rw [e]))⟩
section
variable {ops:Array Oper} {rest:List Oper} {o:Oper} {a:Act} {Q:Exit→Act→World→Prop}
theorem wpList_lookup_ks (w:World) (hg:o.guard=none) (x y:Operand) (hop:o.op=Op.lookup 142 x y false) (B c:Nat) (m:List EntK) (t:Nm) (hx:a.eval x= .map (some B)) (hat:MapK w B c m) (hy:a.eval y=kV t)
  (hK:wpList Tryz.prog ops Q rest (a.put o.dst (valK m t)) w):wpList Tryz.prog ops Q (o::rest) a w:=by
 refine wpList_plain hg fun K' hK'=> ?_
 unfold Oper.wp
 simp [execOp,hop,hx,hy,run_lookup_ks hat,Result.andThen]
 exact hK' _ _ hK
end
end Go.Proofs.YtmoomnpbiifedaaGreat
namespace Go.Proofs.YtmoomnpbiifedaaGreat
open Go Go.RowKit
set_option linter.unusedVariables false
def OwnTm (base:Nat) (w:World) (v:Value) (l:List Tm):Prop:=w.ownsRow base 39 2 v l.length (flds l)
def OwnFd (base:Nat) (w:World) (v:Value) (l:List Fd):Prop:=w.ownsRow base 99 2 v l.length (flds l)
theorem OwnTm.below {base:Nat} {w w':World} {v:Value} {l:List Tm} (h:OwnTm base w v l) (hb:Below w.heap.size w w'):OwnTm base w' v l:=owned_below h hb
theorem OwnTm.low {base b:Nat} {w:World} {v:Value} {l:List Tm} (h:OwnTm base w v l) (hb:b≤base):OwnTm b w v l:=owned_low h hb
theorem OwnTm.row {base:Nat} {w:World} {v:Value} {l:List Tm} (h:OwnTm base w v l):∃ A c,v= .slice A l.length c∧l.length≤c∧FRow w w.heap.size A l:=owned_row h
theorem OwnTm.nil {base:Nat} {w:World}:OwnTm base w (.slice none 0 0) []:=World.ownsRow_nil _ _ _ _
theorem OwnFd.below {base:Nat} {w w':World} {v:Value} {l:List Fd} (h:OwnFd base w v l) (hb:Below w.heap.size w w'):OwnFd base w' v l:=owned_below h hb
theorem OwnFd.low {base b:Nat} {w:World} {v:Value} {l:List Fd} (h:OwnFd base w v l) (hb:b≤base):OwnFd b w v l:=owned_low h hb
theorem OwnFd.row {base:Nat} {w:World} {v:Value} {l:List Fd} (h:OwnFd base w v l):∃ A c,v= .slice A l.length c∧l.length≤c∧FRow w w.heap.size A l:=owned_row h
theorem OwnFd.nil {base:Nat} {w:World}:OwnFd base w (.slice none 0 0) []:=World.ownsRow_nil _ _ _ _
theorem FRow.cut {w:World} {B:Nat} {A:Option Addr} {l:List Fd} (h:FRow w B A l) (k:Nat):FRow w B A (l.take k):=by
 have :=Row.cut h (k*2)
 rwa [← flds_take] at this
theorem flds_drop:∀ (l:List Fd) (k:Nat),flds (l.drop k)=(flds l).drop (k*2)
 |l,0=>by simp
 |[],k+1=>by simp [flds]
 |f::l,k+1=>by rw [show (k+1)*2=k*2+1+1 by omega];simp [flds,flds_drop l k]
theorem FRow.dropped {w:World} {B b off:Nat} {l:List Fd} (h:FRow w B (some ⟨b,off,none⟩) l) (k:Nat):FRow w B (some ⟨b,off+k*2,none⟩) (l.drop k):=by
 unfold FRow at h ⊢
 rw [flds_drop]
 rcases h with h|⟨b',o',e,hb,hc⟩
 ·exact .inl (by rw [h];simp)
 ·injection e with e
  injection e with e1 e2
  subst e1 e2
  refine .inr ⟨b,off+k*2,rfl,hb,fun j u hu=> ?_⟩
  rw [List.getElem?_drop] at hu
  have :=hc (k*2+j) u hu
  rwa [← Nat.add_assoc] at this
theorem frow_new (w:World) (x:Fd) (t:TypeId):FRow (w.alloc (.cells #[.string ⟨x.1.toArray⟩,.string ⟨x.2.toArray⟩] t)) (w.alloc (.cells #[.string ⟨x.1.toArray⟩,.string ⟨x.2.toArray⟩] t)).heap.size (some ⟨w.heap.size,0,none⟩) [x]:=by
 refine .inr ⟨w.heap.size,0,rfl,by simp,fun j u hu=> ?_⟩
 have :=news_at w (flds [x]) t j u hu
 rw [Addr.add_lit] at this
 exact this
theorem info_term:(Tryz.prog.info? 39).map (fun i=>(i.zero,i.size,i.bytes))=some (some (.agg #[.string ByteArray.empty,.string ByteArray.empty]),2,32):=by kernel_rfl
theorem wpList_append_tm {ops:Array Oper} {rest:List Oper} {o:Oper} {a:Act} {Q:Exit→Act→World→Prop} (w:World) (hgd:o.guard=none) (s x:Operand)
  (ho:o.op= .call {callee:= .builtin .append,args:=#[s,x],argTypes:=#[136,136]})
  (base:Nat) (v:Value) (l:List Tm) (hs:a.eval s=v) (hown:OwnTm base w v l) (A:Option Addr) (m c:Nat) (news:List Tm) (hx:a.eval x= .slice A m c) (hl:news.length=m) (hr:FRow w w.heap.size A news)
  (hlen:l.length+m≤1073741824) (hbase:base≤w.heap.size)
  (h:∀ v' w',OwnTm base w' v' (l++news)→Below base w w'→wpList Tryz.prog ops Q rest (a.put o.dst v') w'):wpList Tryz.prog ops Q (o::rest) a w:=by
 obtain ⟨i0,hi0,hz0,hz1,hz2⟩:=info_parts info_term
 refine wpList_append_row w hgd s x 136 ho base 39 i0 _ 2 32 Tryz.underlying136 hi0 hz0 hz1 hz2 rfl (by decide) v l.length (flds l) hs hown w.heap.size A m c (flds news) hx (by rw [flds_length,hl]) hr (flds_oneCell _) (by unfold maxLen;omega) (by omega) hbase fun v' w' h1 h2=>h v' w' ?_ ?_
 ·unfold OwnTm
  rw [List.length_append,hl,flds_append]
  exact h1
 ·exact (Below.refl base w).grown h2 hbase fun k hk=>(hown.lt k hk).1
theorem wpList_append_fd {ops:Array Oper} {rest:List Oper} {o:Oper} {a:Act} {Q:Exit→Act→World→Prop} (w:World) (hgd:o.guard=none) (s x:Operand)
  (ho:o.op= .call {callee:= .builtin .append,args:=#[s,x],argTypes:=#[51,51]})
  (base:Nat) (v:Value) (l:List Fd) (hs:a.eval s=v) (hown:OwnFd base w v l) (A:Option Addr) (m c:Nat) (news:List Fd) (hx:a.eval x= .slice A m c) (hl:news.length=m) (hr:FRow w w.heap.size A news)
  (hlen:l.length+m≤1073741824) (hbase:base≤w.heap.size)
  (h:∀ v' w',OwnFd base w' v' (l++news)→Below base w w'→w.grownBy w' v.ownBlock→wpList Tryz.prog ops Q rest (a.put o.dst v') w'):wpList Tryz.prog ops Q (o::rest) a w:=by
 obtain ⟨i0,hi0,hz0,hz1,hz2⟩:=info_parts info_field
 refine wpList_append_row w hgd s x 51 ho base 99 i0 _ 2 32 Tryz.underlying51 hi0 hz0 hz1 hz2 rfl (by decide) v l.length (flds l) hs hown w.heap.size A m c (flds news) hx (by rw [flds_length,hl]) hr (flds_oneCell _) (by unfold maxLen;omega) (by omega) hbase fun v' w' h1 h2=>h v' w' ?_ ?_ h2
 ·unfold OwnFd
  rw [List.length_append,hl,flds_append]
  exact h1
 ·exact (Below.refl base w).grown h2 hbase fun k hk=>(hown.lt k hk).1
end Go.Proofs.YtmoomnpbiifedaaGreat
set_option linter.unusedVariables false
namespace Go.Proofs.YtmoomnpbiifedaaGreat
open Go Go.RowKit
def RowP (p:Nat→Prop) (w:World) (A:Option Addr) (xs:List Value):Prop:=xs=[]∨∃ b off,A=some ⟨b,off,none⟩∧p b∧∀ j u,xs[j]?=some u→w.cell? ⟨b,off+j,none⟩=some u
section
variable {p q:Nat→Prop} {w w':World} {A:Option Addr} {xs:List Value}
theorem RowP.keep (h:RowP p w A xs) (hb:∀ b,p b→w'.heap[b]?=w.heap[b]?):RowP p w' A xs:=by
 rcases h with h|⟨b,off,e,hp,hc⟩
 ·exact .inl h
 ·refine .inr ⟨b,off,e,hp,fun j u hu=> ?_⟩
  rw [World.cell?_of_block (a:=⟨b,off+j,none⟩) (hb b hp)]
  exact hc j u hu
theorem RowP.imp (h:RowP p w A xs) (hpq:∀ b,p b→q b):RowP q w A xs:=by
 rcases h with h|⟨b,off,e,hp,hc⟩
 ·exact .inl h
 ·exact .inr ⟨b,off,e,hpq b hp,hc⟩
theorem RowP.row {B:Nat} (h:RowP p w A xs) (hB:∀ b,p b→b<B):Row w B A xs:=h.imp hB
end
structure Shape (α:Type) where
 p:Nat
 r:Nat
 pre:α→List Value
 mid:α→List Fd
 post:α→List Value
 hp:∀ q,(pre q).length=p
 hr:∀ q,(post q).length=r
def Shape.size {α:Type} (s:Shape α):Nat:=s.p+1+s.r
section
variable {α:Type} {s:Shape α} {R R':Option Addr→List Value→Prop}
def NestC (s:Shape α) (R:Option Addr→List Value→Prop):List α→List Value→Prop
 |[],cs=>cs=[]
 |q::l,cs=>∃ A c cs',cs=s.pre q++(.slice A (s.mid q).length c::(s.post q++cs'))∧(s.mid q).length≤c∧c≤maxLen∧R A (flds (s.mid q))∧NestC s R l cs'
theorem NestC.imp:∀ {l:List α} {cs:List Value},NestC s R l cs→(∀ A xs,R A xs→R' A xs)→NestC s R' l cs
 |[],cs,h,_=>h
 |q::l,cs,h,hi=>by
  obtain ⟨A,c,cs',rfl,h1,h2,h3,h'⟩:=h
  exact ⟨A,c,cs',rfl,h1,h2,hi _ _ h3,NestC.imp h' hi⟩
theorem nest_skip {q:α} {A:Option Addr} {c:Nat} {cs':List Value} {k:Nat} (i:Nat):(s.pre q++(.slice A (s.mid q).length c::(s.post q++cs')))[(k+1)*s.size+i]?=cs'[k*s.size+i]?:=by
 have hp:=s.hp q
 have hr:=s.hr q
 have e:(k+1)*s.size+i=s.p+(1+(s.r+(k*s.size+i))):=by rw [Nat.add_mul,Nat.one_mul];unfold Shape.size;omega
 rw [e,List.getElem?_append_right (by omega),hp,Nat.add_sub_cancel_left,Nat.add_comm 1,List.getElem?_cons_succ,List.getElem?_append_right (by omega),hr,Nat.add_sub_cancel_left]
theorem NestC.at_:∀ {l:List α} {cs:List Value} {k:Nat},NestC s R l cs→(hk:k<l.length)→
  ∃ A c,cs[k*s.size+s.p]?=some (.slice A (s.mid l[k]).length c)∧(s.mid l[k]).length≤c∧c≤maxLen∧R A (flds (s.mid l[k]))∧
   (∀ i u,(s.pre l[k])[i]?=some u→cs[k*s.size+i]?=some u)∧(∀ i u,(s.post l[k])[i]?=some u→cs[k*s.size+s.p+1+i]?=some u)
 |[],_,k,_,h=>by simp at h
 |q::l,cs,0,h,_=>by
  obtain ⟨A,c,cs',rfl,h1,h2,h3,h'⟩:=h
  have hp:=s.hp q
  refine ⟨A,c,?_,h1,h2,h3,fun i u hu=> ?_,fun i u hu=> ?_⟩
  ·rw [List.getElem?_append_right (by omega)]
   simp [hp]
  ·have :i<(s.pre q).length:=by
    rcases Nat.lt_or_ge i (s.pre q).length with h|h
    ·exact h
    ·simp only [zB] at hu
     rw [List.getElem?_eq_none h] at hu;cases hu
   rw [Nat.zero_mul,Nat.zero_add,List.getElem?_append_left this]
   exact hu
  ·have :i<(s.post q).length:=by
    rcases Nat.lt_or_ge i (s.post q).length with h|h
    ·exact h
    ·simp only [zB] at hu
     rw [List.getElem?_eq_none h] at hu;cases hu
   rw [List.getElem?_append_right (by omega),show 0*s.size+s.p+1+i-(s.pre q).length=i+1 by omega,List.getElem?_cons_succ,List.getElem?_append_left this]
   exact hu
 |q::l,cs,k+1,h,hk=>by
  obtain ⟨A,c,cs',rfl,h1,h2,h3,h'⟩:=h
  have hp:=s.hp q
  have hr:=s.hr q
  have skip:=nest_skip (s:=s) (q:=q) (A:=A) (c:=c) (cs':=cs') (k:=k)
  obtain ⟨A',c',g1,g2,g3,g4,g5,g6⟩:=NestC.at_ (k:=k) h' (by simpa using hk)
  refine ⟨A',c',?_,g2,g3,g4,fun i u hu=> ?_,fun i u hu=> ?_⟩
  ·rw [skip];exact g1
  ·rw [skip];exact g5 i u hu
  ·rw [show (k+1)*s.size+s.p+1+i=(k+1)*s.size+(s.p+1+i) by omega,skip,show k*s.size+(s.p+1+i)=k*s.size+s.p+1+i by omega]
   exact g6 i u hu
theorem NestC.snoc:∀ {l:List α} {cs:List Value} {A:Option Addr} {c:Nat} {q:α},NestC s R l cs→(s.mid q).length≤c→c≤maxLen→R A (flds (s.mid q))→NestC s R (l++[q]) (cs++(s.pre q++(.slice A (s.mid q).length c::s.post q)))
 |[],cs,A,c,q,h,h1,h2,h3=>by
  simp only [NestC] at h
  subst h
  exact ⟨A,c,[],by simp,h1,h2,h3,rfl⟩
 |y::l,cs,A,c,q,h,h1,h2,h3=>by
  obtain ⟨A',c',cs',rfl,g1,g2,g3,h'⟩:=h
  exact ⟨A',c',_,by simp,g1,g2,g3,NestC.snoc h' h1 h2 h3⟩
def NestP (s:Shape α) (p:Nat→Prop) (w:World) (A:Option Addr) (l:List α):Prop:=∃ cs,NestC s (RowP p w) l cs∧RowP p w A cs
end
section
variable {α:Type} {s:Shape α} {p q:Nat→Prop} {w w':World} {A:Option Addr} {l:List α}
theorem NestP.nil:NestP s p w A []:=⟨[],rfl,.inl rfl⟩
theorem NestP.keep (h:NestP s p w A l) (hb:∀ b,p b→w'.heap[b]?=w.heap[b]?):NestP s p w' A l:=by
 obtain ⟨cs,h1,h2⟩:=h
 exact ⟨cs,h1.imp fun _ _ h=>h.keep hb,h2.keep hb⟩
theorem NestP.imp (h:NestP s p w A l) (hpq:∀ b,p b→q b):NestP s q w A l:=by
 obtain ⟨cs,h1,h2⟩:=h
 exact ⟨cs,h1.imp fun _ _ h=>h.imp hpq,h2.imp hpq⟩
theorem NestP.at_ (h:NestP s p w A l) {k:Nat} (hk:k<l.length):
  ∃ b off A' c',A=some ⟨b,off,none⟩∧p b∧w.cell? ⟨b,off+k*s.size+s.p,none⟩=some (.slice A' (s.mid l[k]).length c')∧(s.mid l[k]).length≤c'∧c'≤maxLen∧RowP p w A' (flds (s.mid l[k]))∧
   (∀ i u,(s.pre l[k])[i]?=some u→w.cell? ⟨b,off+k*s.size+i,none⟩=some u)∧(∀ i u,(s.post l[k])[i]?=some u→w.cell? ⟨b,off+k*s.size+s.p+1+i,none⟩=some u):=by
 obtain ⟨cs,h1,h2⟩:=h
 obtain ⟨A',c',g1,g2,g3,g4,g5,g6⟩:=h1.at_ hk
 rcases h2 with rfl|⟨b,off,rfl,hb,hc⟩
 ·simp at g1
 ·refine ⟨b,off,A',c',rfl,hb,by have :=hc _ _ g1;rwa [← Nat.add_assoc] at this,g2,g3,g4,fun i u hu=> ?_,fun i u hu=> ?_⟩
  ·have :=hc _ _ (g5 i u hu);rwa [← Nat.add_assoc] at this
  ·have :=hc _ _ (g6 i u hu)
   rwa [show off+(k*s.size+s.p+1+i)=off+k*s.size+s.p+1+i by omega] at this
abbrev Nest (s:Shape α) (w:World) (B:Nat) (A:Option Addr) (l:List α):Prop:=NestP s (fun b=>b<B) w A l
theorem Nest.below {B:Nat} (h:Nest s w B A l) (hb:Below B w w'):Nest s w' B A l:=h.keep fun b hb'=>hb.block b hb'
theorem Nest.more {B B':Nat} (h:Nest s w B A l) (hB:B≤B'):Nest s w B' A l:=h.imp fun b hb=>Nat.lt_of_lt_of_le hb hB
theorem Nest.later (h:Nest s w w.heap.size A l) (hb:Below w.heap.size w w'):Nest s w' w'.heap.size A l:=Nest.more (Nest.below h hb) hb.size
end
def docS:Shape Dc:=⟨1,0,fun q=>[.int .i64 q.1],fun q=>q.2,fun _=>[],fun _=>rfl,fun _=>rfl⟩
def enS:Shape En:=⟨1,1,fun q=>[.int .i64 q.1],fun q=>q.2.1,fun q=>[.int .i64 q.2.2],fun _=>rfl,fun _=>rfl⟩
theorem enS_at {p:Nat→Prop} {w:World} {A:Option Addr} {l:List En} (h:NestP enS p w A l) {k:Nat} (hk:k<l.length):
  ∃ b off A' c',A=some ⟨b,off,none⟩∧p b∧w.cell? ⟨b,off+k*3,none⟩=some (.int .i64 l[k].1)∧w.cell? ⟨b,off+k*3+1,none⟩=some (.slice A' l[k].2.1.length c')∧w.cell? ⟨b,off+k*3+2,none⟩=some (.int .i64 l[k].2.2)∧
   l[k].2.1.length≤c'∧c'≤maxLen∧RowP p w A' (flds l[k].2.1):=by
 obtain ⟨b,off,A',c',e,hb,g1,g2,g3,g4,g5,g6⟩:=h.at_ hk
 exact ⟨b,off,A',c',e,hb,g5 0 _ rfl,g1,g6 0 _ rfl,g2,g3,g4⟩
theorem docS_at {p:Nat→Prop} {w:World} {A:Option Addr} {l:List Dc} (h:NestP docS p w A l) {k:Nat} (hk:k<l.length):
  ∃ b off A' c',A=some ⟨b,off,none⟩∧p b∧w.cell? ⟨b,off+k*2,none⟩=some (.int .i64 l[k].1)∧w.cell? ⟨b,off+k*2+1,none⟩=some (.slice A' l[k].2.length c')∧l[k].2.length≤c'∧c'≤maxLen∧RowP p w A' (flds l[k].2):=by
 obtain ⟨b,off,A',c',e,hb,g1,g2,g3,g4,g5,_⟩:=h.at_ hk
 exact ⟨b,off,A',c',e,hb,g5 0 _ rfl,g1,g2,g3,g4⟩
section
variable {base:Nat} {w w':World} {v v':Value} {l:List En}
end
theorem info_entry:(Tryz.prog.info? 55).map (fun i=>(i.zero,i.size,i.bytes))=some (some (.agg #[.int .i64 0,.slice none 0 0,.int .i64 0]),3,40):=by kernel_rfl
end Go.Proofs.YtmoomnpbiifedaaGreat
set_option linter.unusedVariables false
namespace Go.Proofs.YtmoomnpbiifedaaGreat
open Go Go.RowKit
def Of (S:Nat→Prop) (t:TypeId) (w:World) (k:Nat):Prop:=S k∧∃ cs fr,w.heap[k]?=some (.cells cs t fr)∧fr=(0,0)
theorem Of.lt {S:Nat→Prop} {t:TypeId} {w:World} {k:Nat} (h:Of S t w k):k<w.heap.size:=by obtain ⟨_,cs,fr,h,_⟩:=h;exact (Array.getElem?_eq_some_iff.1 h).1
theorem Of.keep {S:Nat→Prop} {t:TypeId} {w w':World} {k:Nat} (h:Of S t w k) (hk:w'.heap[k]?=w.heap[k]?):Of S t w' k:=by obtain ⟨h1,cs,fr,h,h0⟩:=h;exact ⟨h1,cs,fr,hk.trans h,h0⟩
theorem Of.imp {S T:Nat→Prop} {t:TypeId} {w:World} {k:Nat} (h:Of S t w k) (hs:S k→T k):Of T t w k:=⟨hs h.1,h.2⟩
theorem RowP.keepO {S:Nat→Prop} {t:TypeId} {w w':World} {A:Option Addr} {xs:List Value} (h:RowP (Of S t w) w A xs) (hk:∀ k,Of S t w k→w'.heap[k]?=w.heap[k]?):RowP (Of S t w') w' A xs:=(h.keep hk).imp fun k hs=>hs.keep (hk k hs)
theorem owned_type9 {w:World} {base:Nat} {e:TypeId} {size:Nat} {v:Value} {n:Nat} {xs:List Value} (h:w.ownsRow base e size v n xs) {k:Nat} (hk:v.ownBlock=some k):∃ cs fr,w.heap[k]?=some (.cells cs e fr):=by
 rcases h.2 with ⟨rfl,_⟩|⟨g,cap,cur,rfl,_,hh,_⟩
 ·cases hk
 ·simp only [Value.ownBlock,Option.some.injEq] at hk
  subst hk
  exact ⟨_,_,hh⟩
theorem owned_type0 {w:World} {base:Nat} {e:TypeId} {size:Nat} {v:Value} {n:Nat} {xs:List Value} (h:w.ownsRow base e size v n xs) {k:Nat} (hk:v.ownBlock=some k):∃ cs,w.heap[k]?=some (.cells cs e (0,0)):=by
 rcases h.2 with ⟨rfl,_⟩|⟨g,cap,cur,rfl,_,hh,_⟩
 ·cases hk
 ·simp only [Value.ownBlock,Option.some.injEq] at hk
  subst hk
  exact ⟨_,hh⟩
def OwnPP (S:Nat→Prop) (w:World) (v:Value) (l:List Pn):Prop:=∃ cs,w.ownsRow 0 63 2 v l.length cs∧(∀ k,v.ownBlock=some k→S k)∧PoCells (RowP (Of S 3 w) w) l cs
theorem OwnPP.nil {S:Nat→Prop} {w:World}:OwnPP S w (.slice none 0 0) []:=⟨[],World.ownsRow_nil _ _ _ _,(fun k hk=>by cases hk),rfl⟩
theorem OwnPP.keep {S:Nat→Prop} {w w':World} {v:Value} {l:List Pn} (h:OwnPP S w v l) (hv:∀ k,v.ownBlock=some k→w'.heap[k]?=w.heap[k]?) (hk:∀ k,Of S 3 w k→w'.heap[k]?=w.heap[k]?):OwnPP S w' v l:=by
 obtain ⟨cs,h1,h2,h3⟩:=h
 exact ⟨cs,owned_keep h1 hv,h2,h3.imp fun _ _ h=>h.keepO hk⟩
theorem OwnPP.imp {S T:Nat→Prop} {w:World} {v:Value} {l:List Pn} (h:OwnPP S w v l) (hs:∀ k,S k→T k):OwnPP T w v l:=by
 obtain ⟨cs,h1,h2,h3⟩:=h
 exact ⟨cs,h1,fun k hk=>hs k (h2 k hk),h3.imp fun _ _ h=>h.imp fun k hk=>hk.imp (hs k)⟩
theorem OwnPP.push {S:Nat→Prop} {w w':World} {v v':Value} {l:List Pn} {cs:List Value} (h1:w.ownsRow 0 63 2 v l.length cs) (h3:PoCells (RowP (Of S 3 w) w) l cs) {A:Option Addr} {c:Nat} {d:Int} {ps:List Int} (hc:ps.length≤c) (hcx:c≤maxLen) (hr:RowP (Of S 3 w) w A (ints ps))
  (hown:w'.ownsRow 0 63 2 v' (l.length+1) (cs++[.int .i64 d,.slice A ps.length c])) (hg:w.grownBy w' v.ownBlock) (hS:∀ k,v'.ownBlock=some k→S k):OwnPP S w' v' (l++[(d,ps)]):=by
 have hk:∀ k,Of S 3 w k→w'.heap[k]?=w.heap[k]?:=fun k hk=>hg.block k hk.lt fun e=>by
  obtain ⟨_,cs',fr,hh,_⟩:=hk
  exact owned_apart h1 hh (by decide) e.symm
 refine ⟨_,?_,hS,(h3.imp fun _ _ h=>h.keepO hk).snoc hc hcx (hr.keepO hk)⟩
 rw [List.length_append,List.length_singleton]
 exact hown
def PmAt (S:Nat→Prop) (w:World) (M c:Nat) (g:List GP):Prop:=∃ m:List EntK,MapK w M c m∧S M∧m.length=g.length∧
 (∀ (i:Nat) (e:EntK) (p:GP),m[i]?=some e→g[i]?=some p→e.1=p.1∧OwnPP S w e.2 p.2)∧
 ∀ (i j:Nat) (e f:EntK) (k:Nat),i≠j→m[i]?=some e→m[j]?=some f→e.2.ownBlock=some k→f.2.ownBlock≠some k
def MapB (S:Nat→Prop) (w:World) (M k:Nat):Prop:=k=M∨Of S 63 w k
theorem OwnPP.not_map {S:Nat→Prop} {w:World} {v:Value} {l:List Pn} (h:OwnPP S w v l) {B:Nat} {es:Array MapEntry} {c:Nat} (hB:w.heap[B]?=some (.map es c)):v.ownBlock≠some B:=by
 intro he
 obtain ⟨cs,h1,_⟩:=h
 obtain ⟨cs',fr,hh⟩:=owned_type9 h1 he
 rw [hh] at hB
 cases hB
theorem PmAt.lt {S:Nat→Prop} {w:World} {M c:Nat} {g:List GP} (h:PmAt S w M c g):M<w.heap.size:=by obtain ⟨m,h1,_⟩:=h;exact (Array.getElem?_eq_some_iff.1 h1).1
theorem PmAt.map {S:Nat→Prop} {w:World} {M c:Nat} {g:List GP} (h:PmAt S w M c g):∃ es c',w.heap[M]?=some (.map es c'):=by obtain ⟨m,h1,_⟩:=h;exact ⟨_,_,h1⟩
theorem PmAt.keep {S:Nat→Prop} {w w':World} {M c:Nat} {g:List GP} (h:PmAt S w M c g) (hk:∀ k,S k→k<w.heap.size→w'.heap[k]?=w.heap[k]?):PmAt S w' M c g:=by
 have hlt:=h.lt
 obtain ⟨m,h1,h2,h3,h4,h5⟩:=h
 refine ⟨m,(hk M h2 hlt).trans h1,h2,h3,fun i e p he hp=> ?_,h5⟩
 obtain ⟨r1,r2⟩:=h4 i e p he hp
 refine ⟨r1,r2.keep (fun k hv=> ?_) fun k hs=>hk k hs.1 hs.lt⟩
 obtain ⟨cs,q1,q2,_⟩:=r2
 exact hk k (q2 k hv) (q1.lt k hv).2
theorem PmAt.imp {S T:Nat→Prop} {w:World} {M c:Nat} {g:List GP} (h:PmAt S w M c g) (hs:∀ k,S k→T k):PmAt T w M c g:=by
 obtain ⟨m,h1,h2,h3,h4,h5⟩:=h
 exact ⟨m,h1,hs M h2,h3,fun i e p he hp=>⟨(h4 i e p he hp).1,(h4 i e p he hp).2.imp hs⟩,h5⟩
theorem posK_getP {S:Nat→Prop} {w:World}:∀ {m:List EntK} {g:List GP} (t:Nm),m.length=g.length→(∀ (i:Nat) (e:EntK) (p:GP),m[i]?=some e→g[i]?=some p→e.1=p.1∧OwnPP S w e.2 p.2)→OwnPP S w (valK m t) (getP g t)
 |[],g,t,hl,h=>by
  cases g with
  |nil=>exact OwnPP.nil
  |cons p g=>cases hl
 |e::m,g,t,hl,h=>by
  cases g with
  |nil=>cases hl
  |cons p g=>
   obtain ⟨h1,h2⟩:=h 0 e p rfl rfl
   have ih:=posK_getP (m:=m) (g:=g) t (by simpa using hl) fun i e' p' he hp=>h (i+1) e' p' (by simpa using he) (by simpa using hp)
   rw [getP]
   by_cases ht:e.1=t
   ·have hp:posK (e::m) t=0:=by unfold posK;rw [List.findIdx_cons];simp [ht]
    have hv:valK (e::m) t=e.2:=by unfold valK;simp [hp]
    rw [if_pos (by rw [← h1];exact ht),hv]
    exact h2
   ·have hp:posK (e::m) t=posK m t+1:=by unfold posK;rw [List.findIdx_cons];simp [ht]
    have hv:valK (e::m) t=valK m t:=by unfold valK;simp [hp]
    rw [if_neg (by rw [← h1];exact ht),hv]
    exact ih
theorem PmAt.look {S:Nat→Prop} {w:World} {M c:Nat} {g:List GP} (h:PmAt S w M c g) (t:Nm):∃ v,(∃ m,MapK w M c m∧valK m t=v)∧OwnPP S w v (getP g t):=by
 obtain ⟨m,h1,h2,h3,h4,h5⟩:=h
 exact ⟨_,⟨m,h1,rfl⟩,posK_getP t h3 h4⟩
theorem PmAt.keys {S:Nat→Prop} {w:World} {M c:Nat} {g:List GP} (h:PmAt S w M c g):∃ m,MapK w M c m∧m.map (·.1)=g.map (·.1)∧m.length=g.length:=by
 obtain ⟨m,h1,_,h3,h4,_⟩:=h
 refine ⟨m,h1,List.ext_getElem (by simp [h3]) fun i hi hj=> ?_,h3⟩
 have hi':i<m.length:=by simpa using hi
 have hj':i<g.length:=by simpa using hj
 simpa using (h4 i _ _ (List.getElem?_eq_getElem hi') (List.getElem?_eq_getElem hj')).1
theorem addP_at:∀ {m:List EntK} {g:List GP} {t:Nm} {a:Pn},m.length=g.length→(∀ (i:Nat) (e:EntK) (p:GP),m[i]?=some e→g[i]?=some p→e.1=p.1)→
  (addP g t a).length=(entK m t).length∧(addP g t a)[posK m t]?=some (t,getP g t++[a])∧∀ i p,i≠posK m t→(addP g t a)[i]?=some p→g[i]?=some p
 |[],g,t,a,hl,h=>by
  cases g with
  |nil=>refine ⟨by simp [addP,entK,posK],by simp [addP,posK,getP],fun i p hi hp=> ?_⟩;cases i with|zero=>simp [posK] at hi|succ i=>simp [addP] at hp
  |cons p g=>cases hl
 |e::m,g,t,a,hl,h=>by
  cases g with
  |nil=>cases hl
  |cons p g=>
   have h1:=h 0 e p rfl rfl
   obtain ⟨i1,i2,i3⟩:=addP_at (m:=m) (g:=g) (t:=t) (a:=a) (by simpa using hl) fun i e' p' he hp=>h (i+1) e' p' (by simpa using he) (by simpa using hp)
   have hl':m.length=g.length:=by simpa using hl
   rw [addP]
   by_cases ht:e.1=t
   ·have hp:posK (e::m) t=0:=by unfold posK;rw [List.findIdx_cons];simp [ht]
    have ht':p.1=t:=by rw [← h1];exact ht
    rw [if_pos ht',hp]
    refine ⟨by simp [entK,hp,hl'],by simp [getP,ht'],fun i q hi hq=> ?_⟩
    cases i with
    |zero=>exact absurd rfl hi
    |succ i=>simpa using hq
   ·have hp:posK (e::m) t=posK m t+1:=by unfold posK;rw [List.findIdx_cons];simp [ht]
    have ht':¬ p.1=t:=by rw [← h1];exact ht
    have he:(entK (e::m) t).length=(entK m t).length+1:=by
     unfold entK
     rw [hp]
     by_cases hq:posK m t<m.length
     ·rw [if_pos hq,if_pos (by simpa using hq)];rfl
     ·rw [if_neg hq,if_neg (by simpa using hq)];simp
    rw [if_neg ht',hp]
    refine ⟨by rw [he,List.length_cons,i1],by rw [List.getElem?_cons_succ,i2,getP,if_neg ht'],fun i q hi hq=> ?_⟩
    cases i with
    |zero=>simpa using hq
    |succ i=>simpa using i3 i q (by omega) (by simpa using hq)
theorem PmAt.added {S T:Nat→Prop} {w w3:World} {M c:Nat} {g:List GP} {m:List EntK} {t:Nm} {a:Pn} {v':Value}
  (h1:MapK w M c m) (h2:S M) (h3:m.length=g.length) (h4:∀ (i:Nat) (e:EntK) (p:GP),m[i]?=some e→g[i]?=some p→e.1=p.1∧OwnPP S w e.2 p.2)
  (h5:∀ (i j:Nat) (e f:EntK) (k:Nat),i≠j→m[i]?=some e→m[j]?=some f→e.2.ownBlock=some k→f.2.ownBlock≠some k)
  (hST:∀ k,S k→T k) (hk:∀ (k:Nat),k<w.heap.size→k≠M→(valK m t).ownBlock≠some k→w3.heap[k]?=w.heap[k]?)
  (hm2:MapK w3 M c ((entK m t).set (posK m t) (t,v'))) (ho:OwnPP T w3 v' (getP g t++[a])) (hn:v'.ownBlock=(valK m t).ownBlock∨∀ k,v'.ownBlock=some k→w.heap.size≤k):PmAt T w3 M c (addP g t a):=by
 obtain ⟨p1,p2⟩:=posK_entK m t
 obtain ⟨q1,q2,q3⟩:=addP_at (a:=a) (t:=t) h3 fun i e p he hp=>(h4 i e p he hp).1
 have hB:M<w.heap.size:=(Array.getElem?_eq_some_iff.1 h1).1
 have hent:∀ (i:Nat) (e:EntK),i≠posK m t→(entK m t)[i]?=some e→m[i]?=some e:=fun i e hi he=>by
  unfold entK at he
  split at he
  ·exact he
  ·rename_i hlt
   have hle:posK m t≤m.length:=List.findIdx_le_length
   rw [List.getElem?_append] at he
   split at he
   ·exact he
   ·rename_i h6
    have :i≠m.length:=by omega
    rw [List.getElem?_eq_none (by simp;omega)] at he
    cases he
 have hval:∀ (i:Nat) (e:EntK) (k:Nat),i≠posK m t→m[i]?=some e→e.2.ownBlock=some k→(valK m t).ownBlock≠some k:=fun i e k hi he hk'=>by
  unfold valK
  split
  ·rename_i hlt
   exact h5 i (posK m t) e _ k hi he (List.getElem?_eq_getElem hlt) hk'
  ·intro hh;cases hh
 refine ⟨_,hm2,hST M h2,by rw [List.length_set,q1],fun i e p he hp=> ?_,fun i j e f k hij he hf hk'=> ?_⟩
 ·rw [List.getElem?_set] at he
  by_cases hi:posK m t=i
  ·subst hi
   rw [if_pos rfl,if_pos p1] at he
   rw [q2] at hp
   cases he
   cases hp
   exact ⟨rfl,ho⟩
  ·rw [if_neg hi] at he
   have he':=hent i e (fun h=>hi h.symm) he
   have hp':=q3 i p (fun h=>hi h.symm) hp
   obtain ⟨r1,r2⟩:=h4 i e p he' hp'
   have rv:=hval i e
   have rm:∀ k,e.2.ownBlock=some k→k≠M:=fun k hk' e'=>r2.not_map h1 (by rw [hk',e'])
   refine ⟨r1,OwnPP.imp (r2.keep (fun k hk'=> ?_) fun k hs=> ?_) hST⟩
   ·have hlt:k<w.heap.size:=by obtain ⟨cs,g1,_⟩:=r2;exact (g1.lt k hk').2
    exact hk k hlt (rm k hk') (rv k (fun h=>hi h.symm) he' hk')
   ·obtain ⟨_,cs',fr',hh,_⟩:=hs
    refine hk k (Array.getElem?_eq_some_iff.1 hh).1 (fun e'=> ?_) (fun e'=> ?_)
    ·subst e';rw [h1] at hh;cases hh
    ·obtain ⟨cs2,g1,_⟩:=posK_getP (S:=S) (w:=w) t h3 h4
     exact owned_apart g1 hh (by decide) e'
 ·rw [List.getElem?_set] at he hf
  have hother:∀ (x:Nat) (u:EntK),posK m t≠x→(entK m t)[x]?=some u→∀ k,u.2.ownBlock=some k→v'.ownBlock≠some k:=fun x u hx hu k hk2 hv=>by
   have hu':=hent x u (fun h=>hx h.symm) hu
   rcases hn with hn|hn
   ·rw [hn] at hv
    exact hval x u k (fun h=>hx h.symm) hu' hk2 hv
   ·have hlx:x<g.length:=by rw [← h3];exact (List.getElem?_eq_some_iff.1 hu').1
    obtain ⟨cs2,g1,_⟩:=(h4 x u _ hu' (List.getElem?_eq_getElem hlx)).2
    have :=(g1.lt k hk2).2
    have :=hn k hv
    omega
  by_cases hi:posK m t=i
  ·subst hi
   rw [if_pos rfl,if_pos p1] at he
   cases he
   rw [if_neg hij] at hf
   intro hf2
   exact hother j f hij hf k hf2 hk'
  ·rw [if_neg hi] at he
   by_cases hj:posK m t=j
   ·subst hj
    rw [if_pos rfl,if_pos p1] at hf
    cases hf
    exact hother i e hi he k hk'
   ·rw [if_neg hj] at hf
    exact h5 i j e f k hij (hent i e (fun h=>hi h.symm) he) (hent j f (fun h=>hj h.symm) hf) hk'
end Go.Proofs.YtmoomnpbiifedaaGreat
