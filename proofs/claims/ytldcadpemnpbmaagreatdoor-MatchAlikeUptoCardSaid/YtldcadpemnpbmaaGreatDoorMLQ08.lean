import Derived.Test.YtldcadpemnpbmaaGreatDoorMLZz
import Derived.Test.YtldcadpemnpbmaaGreatDoorMLQ07
import Derived.Test.YtldcadpemnpbmaaGreatDoorMLQ05
import Derived.Test.YtldcadpemnpbmaaGreatDoorMLQ04
import Derived.Test.YtldcadpemnpbmaaGreatDoorMLQ06
import Derived.RangeFuncNested
import Derived.RangeFuncBound
import Derived.RangeFuncCalls
import Derived.RangeFuncLeaves
import Derived.RangeFuncBox
import Derived.OwnWalkIn
import Derived.TacticsInMore
import Derived.LoopNIn
import Derived.LoopIn
import Derived.Maps.AppendAt
import Derived.Shelf.Abstract
import Derived.Shelf.RegionOpen
import Derived.Test.YtldcadpemnpbmaaGreatDoorMLQ01
import Derived.Sort.MapsRangeIn
set_option linter.unusedVariables false
namespace Go.Proofs.YtldcadpemnpbmaaGreatDoor
open Go Go.RowKit
open Go.ChangeMaps (setBlock)
def kV (t:Nm):Value:= .string ⟨t.toArray⟩
theorem run_check_ks (em:Bool) (t:Nm) (w:World):(Instr.checkKey em 10000 9 (kV t)).run Tryz.prog w= .ok () w:=by
 have h:∀ d:Nat,(Instr.checkKey em (d+1) 9 (kV t)).run Tryz.prog w= .ok () w:=fun d=>by
  simp [Instr.checkKey,run_underlying Tryz.underlying9,kV]
 exact h 9999
theorem run_stays_ks (t:Nm) (w:World):(Instr.keyThatStays (kV t) (kV t)).run Tryz.prog w= .ok (kV t) w:=by
 have h:∀ d:Nat,Instr.sameBits (d+2) (kV t) (kV t)=true:=fun d=>by simp [Instr.sameBits,kV,str_eq]
 simp [Instr.keyThatStays,h 9998]
abbrev EntK:=Nm × Value
def entsK:Nat→List EntK→List MapEntry
 |_,[]=>[]
 |i,e::m=>{key:=kV e.1,val:=e.2,born:=i}::entsK (i+1) m
theorem entsK_length:∀ (m:List EntK) (i:Nat),(entsK i m).length=m.length
 |[],_=>rfl
 |e::m,i=>by simp [entsK,entsK_length m (i+1)]
theorem entsK_at:∀ {m:List EntK} {i k:Nat} (hk:k<m.length),(entsK i m)[k]?=some {key:=kV m[k].1,val:=m[k].2,born:=i+k}
 |[],_,_,h=>by simp at h
 |e::m,i,0,_=>rfl
 |e::m,i,k+1,h=>by
  have :=entsK_at (m:=m) (i:=i+1) (k:=k) (by simpa using h)
  simp only [entsK,List.getElem?_cons_succ,zC]
  rw [this,Nat.add_assoc,Nat.add_comm 1 k]
theorem entsK_append:∀ (m:List EntK) (e:EntK) (i:Nat),entsK i (m++[e])=entsK i m++[{key:=kV e.1,val:=e.2,born:=i+m.length}]
 |[],e,i=>rfl
 |x::m,e,i=>by
  simp only [List.cons_append,entsK,entsK_append m e (i+1),List.length_cons]
  rw [Nat.add_assoc,Nat.add_comm 1 m.length]
theorem entsK_set:∀ (m:List EntK) (e:EntK) (i k:Nat),entsK i (m.set k e)=(entsK i m).set k {key:=kV e.1,val:=e.2,born:=i+k}
 |[],e,i,k=>by simp [entsK]
 |x::m,e,i,0=>by simp [entsK]
 |x::m,e,i,k+1=>by
  simp only [zF,entsK,entsK_set m e (i+1) k]
  rw [Nat.add_assoc,Nat.add_comm 1 k]
def MapK (w:World) (B c:Nat) (m:List EntK):Prop:=w.heap[B]?=some (.map (entsK c m).toArray (c+m.length))
def posK (m:List EntK) (t:Nm):Nat:=m.findIdx (fun e=>decide (e.1=t))
def valK (m:List EntK) (t:Nm):Value:=if h:posK m t<m.length then m[posK m t].2 else .slice none 0 0
def entK (m:List EntK) (t:Nm):List EntK:=if posK m t<m.length then m else m++[(t,.slice none 0 0)]
theorem posK_key {m:List EntK} {t:Nm} (h:posK m t<m.length):m[posK m t].1=t:=by
 have :=List.findIdx_getElem (p:=fun e:EntK=>decide (e.1=t)) (xs:=m) (w:=h)
 exact of_decide_eq_true this
theorem posK_entK (m:List EntK) (t:Nm):posK m t<(entK m t).length∧(entK m t)[posK m t]?=some (t,valK m t):=by
 unfold entK valK
 split
 ·rename_i h
  have e:=posK_key h
  refine ⟨h,?_⟩
  rw [List.getElem?_eq_getElem h]
  exact congrArg some (Prod.ext e rfl)
 ·rename_i h
  have hle:posK m t≤m.length:=List.findIdx_le_length
  have :posK m t=m.length:=by omega
  rw [this]
  simp
theorem find_now:∀ (m:List EntK) (t:Nm) (k i:Nat),Instr.findNow .string (kV t) (entsK k m) i=some (if h:posK m t<m.length then some (i+posK m t,m[posK m t].2) else none)
 |[],t,k,i=>by simp [entsK,Instr.findNow,posK]
 |e::m,t,k,i=>by
  have ih:=find_now m t (k+1) (i+1)
  have hs:Instr.sameNow .string (kV t) (kV e.1)=some (decide (t=e.1)):=by simp only [Instr.sameNow,kV,str_eq]
  rw [entsK,Instr.findNow]
  simp only [hs]
  by_cases he:t=e.1
  ·have hp:posK (e::m) t=0:=by unfold posK;rw [List.findIdx_cons];simp [he]
   simp only [hp]
   simp [he]
  ·have he':¬ e.1=t:=fun h=>he h.symm
   have hp:posK (e::m) t=posK m t+1:=by unfold posK;rw [List.findIdx_cons];simp [he']
   simp only [he,decide_false,ih]
   by_cases h:posK m t<m.length
   ·have h':posK (e::m) t<(e::m).length:=by rw [hp];simpa using h
    rw [dif_pos h,dif_pos h']
    simp only [hp,zC]
    rw [Nat.add_assoc,Nat.add_comm 1]
   ·have h':¬ posK (e::m) t<(e::m).length:=by rw [hp];simpa using h
    rw [dif_neg h,dif_neg h']
theorem run_find_ks (m:List EntK) (t:Nm) (w:World) (k:Nat):(Instr.findKey 9 (kV t) (entsK k m)).run Tryz.prog w= .ok (if h:posK m t<m.length then some (posK m t,m[posK m t].2) else none) w:=by
 have h:=find_now m t k 0
 simp only [Nat.zero_add] at h
 simp only [Instr.findKey,Sem.run_bind,run_underlying Tryz.underlying9,Result.andThen,h]
 simp [Sem.run_pure]
theorem run_lookup_ks {w:World} {B c:Nat} {m:List EntK} (h:MapK w B c m) (t:Nm):(Instr.lookup 141 (.map (some B)) (kV t) false).run Tryz.prog w= .ok (valK m t) w:=by
 unfold MapK at h
 have hf:=run_find_ks m t w c
 unfold valK
 by_cases hp:posK m t<m.length
 ·rw [dif_pos hp] at hf ⊢
  simp [Instr.lookup,run_underlying Tryz.underlying141,MapKept.run_getObj_map h,run_check_ks,hf,Result.andThen]
 ·rw [dif_neg hp] at hf ⊢
  simp [Instr.lookup,run_underlying Tryz.underlying141,MapKept.run_getObj_map h,run_check_ks,hf,Result.andThen,Tryz.zeroValue94]
theorem run_update_ks {w:World} {B c:Nat} {m:List EntK} (h:MapK w B c m) (t:Nm) (v:Value):∃ w',(Instr.mapUpdate 141 (.map (some B)) (kV t) v).run Tryz.prog w= .ok () w'∧MapK w' B c ((entK m t).set (posK m t) (t,v))∧w.grownBy w' (some B):=by
 unfold MapK at h
 have hf:=run_find_ks m t w c
 unfold entK
 by_cases hp:posK m t<m.length
 ·rw [dif_pos hp] at hf
  rw [if_pos hp]
  have hk:=posK_key hp
  have he:=entsK_at (i:=c) hp
  rw [hk] at he
  have hmod:(entsK c m).modify (posK m t) (fun e=>{e with key:=kV t,val:=v})=entsK c (m.set (posK m t) (t,v)):=by
   rw [entsK_set]
   apply List.ext_getElem?
   intro j
   rw [List.getElem?_modify,List.getElem?_set]
   by_cases hj:posK m t=j
   ·subst hj
    have hkl:posK m t<(entsK c m).length:=by rw [entsK_length];exact hp
    rw [he,if_pos rfl,if_pos hkl]
    simp
   ·simp [hj]
  refine ⟨setBlock w B (.map (entsK c (m.set (posK m t) (t,v))).toArray (c+(m.set (posK m t) (t,v)).length)),?_,ChangeMaps.heap_setBlock_same h _,?_⟩
  ·rw [← hmod]
   simp [Instr.mapUpdate,run_underlying Tryz.underlying141,MapKept.run_getObj_map h,run_check_ks,hf,Result.andThen,he,run_stays_ks,MapKept.run_setObj_map _ h,setBlock]
  ·exact ⟨rfl,rfl,rfl,by simp [setBlock],fun k _ hk=>ChangeMaps.heap_setBlock_other h _ (fun e=>hk (by rw [e]))⟩
 ·rw [dif_neg hp] at hf
  rw [if_neg hp]
  have hle:posK m t≤m.length:=List.findIdx_le_length
  have hpe:posK m t=m.length:=by omega
  have hset:(m++[(t,Value.slice none 0 0)]).set (posK m t) (t,v)=m++[(t,v)]:=by
   rw [hpe]
   simp
  have hpush:(entsK c m).toArray.push {key:=kV t,val:=v,born:=c+m.length}=(entsK c (m++[(t,v)])).toArray:=by
   rw [entsK_append,List.push_toArray]
  rw [hset]
  refine ⟨setBlock w B (.map (entsK c (m++[(t,v)])).toArray (c+(m++[(t,v)]).length)),?_,ChangeMaps.heap_setBlock_same h _,?_⟩
  ·rw [← hpush]
   simp [Instr.mapUpdate,run_underlying Tryz.underlying141,MapKept.run_getObj_map h,run_check_ks,hf,Result.andThen,MapKept.run_setObj_map _ h,setBlock,Nat.add_assoc]
  ·exact ⟨rfl,rfl,rfl,by simp [setBlock],fun k _ hk=>ChangeMaps.heap_setBlock_other h _ (fun e=>hk (by rw [e]))⟩
section
variable {ops:Array Oper} {rest:List Oper} {o:Oper} {a:Act} {Q:Exit→Act→World→Prop}
theorem wpList_lookup_ks (w:World) (hg:o.guard=none) (x y:Operand) (hop:o.op=Op.lookup 141 x y false) (B c:Nat) (m:List EntK) (t:Nm) (hx:a.eval x= .map (some B)) (hat:MapK w B c m) (hy:a.eval y=kV t)
  (hK:wpList Tryz.prog ops Q rest (a.put o.dst (valK m t)) w):wpList Tryz.prog ops Q (o::rest) a w:=by
 refine wpList_plain hg fun K' hK'=> ?_
 unfold Oper.wp
 simp [execOp,hop,hx,hy,run_lookup_ks hat,Result.andThen]
 exact hK' _ _ hK
end
end Go.Proofs.YtldcadpemnpbmaaGreatDoor
set_option linter.unusedVariables false
namespace Go.Proofs.YtldcadpemnpbmaaGreatDoor
open Go Go.RowKit
def Of (S:Nat→Prop) (t:TypeId) (w:World) (k:Nat):Prop:=S k∧∃ cs fr,w.heap[k]?=some (.cells cs t fr)∧fr=(0,0)
theorem Of.lt {S:Nat→Prop} {t:TypeId} {w:World} {k:Nat} (h:Of S t w k):k<w.heap.size:=by obtain ⟨_,cs,fr,h,_⟩:=h;exact (Array.getElem?_eq_some_iff.1 h).1
theorem Of.keep {S:Nat→Prop} {t:TypeId} {w w':World} {k:Nat} (h:Of S t w k) (hk:w'.heap[k]?=w.heap[k]?):Of S t w' k:=by obtain ⟨h1,cs,fr,h,h0⟩:=h;exact ⟨h1,cs,fr,hk.trans h,h0⟩
theorem Of.imp {S T:Nat→Prop} {t:TypeId} {w:World} {k:Nat} (h:Of S t w k) (hs:S k→T k):Of T t w k:=⟨hs h.1,h.2⟩
theorem RowP.keepO {S:Nat→Prop} {t:TypeId} {w w':World} {A:Option Addr} {xs:List Value} (h:RowP (Of S t w) w A xs) (hk:∀ k,Of S t w k→w'.heap[k]?=w.heap[k]?):RowP (Of S t w') w' A xs:=(h.keep hk).imp fun k hs=>hs.keep (hk k hs)
theorem owned_type9 {w:World} {base:Nat} {e:TypeId} {size:Nat} {v:Value} {n:Nat} {xs:List Value} (h:w.ownsRow base e size v n xs) {k:Nat} (hk:v.ownBlock=some k):∃ cs fr,w.heap[k]?=some (.cells cs e fr):=by
 rcases h.2 with ⟨rfl,_⟩|⟨g,cap,cur,rfl,_,hh,_⟩
 ·cases hk
 ·simp only [Value.ownBlock,Option.some.injEq] at hk
  subst hk
  exact ⟨_,_,hh⟩
theorem owned_type0 {w:World} {base:Nat} {e:TypeId} {size:Nat} {v:Value} {n:Nat} {xs:List Value} (h:w.ownsRow base e size v n xs) {k:Nat} (hk:v.ownBlock=some k):∃ cs,w.heap[k]?=some (.cells cs e (0,0)):=by
 rcases h.2 with ⟨rfl,_⟩|⟨g,cap,cur,rfl,_,hh,_⟩
 ·cases hk
 ·simp only [Value.ownBlock,Option.some.injEq] at hk
  subst hk
  exact ⟨_,hh⟩
def OwnPP (S:Nat→Prop) (w:World) (v:Value) (l:List Pn):Prop:=∃ cs,w.ownsRow 0 153 2 v l.length cs∧(∀ k,v.ownBlock=some k→S k)∧PoCells (RowP (Of S 3 w) w) l cs
theorem OwnPP.nil {S:Nat→Prop} {w:World}:OwnPP S w (.slice none 0 0) []:=⟨[],World.ownsRow_nil _ _ _ _,(fun k hk=>by cases hk),rfl⟩
theorem OwnPP.keep {S:Nat→Prop} {w w':World} {v:Value} {l:List Pn} (h:OwnPP S w v l) (hv:∀ k,v.ownBlock=some k→w'.heap[k]?=w.heap[k]?) (hk:∀ k,Of S 3 w k→w'.heap[k]?=w.heap[k]?):OwnPP S w' v l:=by
 obtain ⟨cs,h1,h2,h3⟩:=h
 exact ⟨cs,owned_keep h1 hv,h2,h3.imp fun _ _ h=>h.keepO hk⟩
theorem OwnPP.imp {S T:Nat→Prop} {w:World} {v:Value} {l:List Pn} (h:OwnPP S w v l) (hs:∀ k,S k→T k):OwnPP T w v l:=by
 obtain ⟨cs,h1,h2,h3⟩:=h
 exact ⟨cs,h1,fun k hk=>hs k (h2 k hk),h3.imp fun _ _ h=>h.imp fun k hk=>hk.imp (hs k)⟩
theorem OwnPP.push {S:Nat→Prop} {w w':World} {v v':Value} {l:List Pn} {cs:List Value} (h1:w.ownsRow 0 153 2 v l.length cs) (h3:PoCells (RowP (Of S 3 w) w) l cs) {A:Option Addr} {c:Nat} {d:Int} {ps:List Int} (hc:ps.length≤c) (hcx:c≤maxLen) (hr:RowP (Of S 3 w) w A (ints ps))
  (hown:w'.ownsRow 0 153 2 v' (l.length+1) (cs++[.int .i64 d,.slice A ps.length c])) (hg:w.grownBy w' v.ownBlock) (hS:∀ k,v'.ownBlock=some k→S k):OwnPP S w' v' (l++[(d,ps)]):=by
 have hk:∀ k,Of S 3 w k→w'.heap[k]?=w.heap[k]?:=fun k hk=>hg.block k hk.lt fun e=>by
  obtain ⟨_,cs',fr,hh,_⟩:=hk
  exact owned_apart h1 hh (by decide) e.symm
 refine ⟨_,?_,hS,(h3.imp fun _ _ h=>h.keepO hk).snoc hc hcx (hr.keepO hk)⟩
 rw [List.length_append,List.length_singleton]
 exact hown
def PmAt (S:Nat→Prop) (w:World) (M c:Nat) (g:List GP):Prop:=∃ m:List EntK,MapK w M c m∧S M∧m.length=g.length∧
 (∀ (i:Nat) (e:EntK) (p:GP),m[i]?=some e→g[i]?=some p→e.1=p.1∧OwnPP S w e.2 p.2)∧
 ∀ (i j:Nat) (e f:EntK) (k:Nat),i≠j→m[i]?=some e→m[j]?=some f→e.2.ownBlock=some k→f.2.ownBlock≠some k
def MapB (S:Nat→Prop) (w:World) (M k:Nat):Prop:=k=M∨Of S 153 w k
theorem OwnPP.not_map {S:Nat→Prop} {w:World} {v:Value} {l:List Pn} (h:OwnPP S w v l) {B:Nat} {es:Array MapEntry} {c:Nat} (hB:w.heap[B]?=some (.map es c)):v.ownBlock≠some B:=by
 intro he
 obtain ⟨cs,h1,_⟩:=h
 obtain ⟨cs',fr,hh⟩:=owned_type9 h1 he
 rw [hh] at hB
 cases hB
theorem PmAt.lt {S:Nat→Prop} {w:World} {M c:Nat} {g:List GP} (h:PmAt S w M c g):M<w.heap.size:=by obtain ⟨m,h1,_⟩:=h;exact (Array.getElem?_eq_some_iff.1 h1).1
theorem PmAt.map {S:Nat→Prop} {w:World} {M c:Nat} {g:List GP} (h:PmAt S w M c g):∃ es c',w.heap[M]?=some (.map es c'):=by obtain ⟨m,h1,_⟩:=h;exact ⟨_,_,h1⟩
theorem PmAt.keep {S:Nat→Prop} {w w':World} {M c:Nat} {g:List GP} (h:PmAt S w M c g) (hk:∀ k,S k→k<w.heap.size→w'.heap[k]?=w.heap[k]?):PmAt S w' M c g:=by
 have hlt:=h.lt
 obtain ⟨m,h1,h2,h3,h4,h5⟩:=h
 refine ⟨m,(hk M h2 hlt).trans h1,h2,h3,fun i e p he hp=> ?_,h5⟩
 obtain ⟨r1,r2⟩:=h4 i e p he hp
 refine ⟨r1,r2.keep (fun k hv=> ?_) fun k hs=>hk k hs.1 hs.lt⟩
 obtain ⟨cs,q1,q2,_⟩:=r2
 exact hk k (q2 k hv) (q1.lt k hv).2
theorem PmAt.imp {S T:Nat→Prop} {w:World} {M c:Nat} {g:List GP} (h:PmAt S w M c g) (hs:∀ k,S k→T k):PmAt T w M c g:=by
 obtain ⟨m,h1,h2,h3,h4,h5⟩:=h
 exact ⟨m,h1,hs M h2,h3,fun i e p he hp=>⟨(h4 i e p he hp).1,(h4 i e p he hp).2.imp hs⟩,h5⟩
theorem posK_getP {S:Nat→Prop} {w:World}:∀ {m:List EntK} {g:List GP} (t:Nm),m.length=g.length→(∀ (i:Nat) (e:EntK) (p:GP),m[i]?=some e→g[i]?=some p→e.1=p.1∧OwnPP S w e.2 p.2)→OwnPP S w (valK m t) (getP g t)
 |[],g,t,hl,h=>by
  cases g with
  |nil=>exact OwnPP.nil
  |cons p g=>cases hl
 |e::m,g,t,hl,h=>by
  cases g with
  |nil=>cases hl
  |cons p g=>
   obtain ⟨h1,h2⟩:=h 0 e p rfl rfl
   have ih:=posK_getP (m:=m) (g:=g) t (by simpa using hl) fun i e' p' he hp=>h (i+1) e' p' (by simpa using he) (by simpa using hp)
   rw [getP]
   by_cases ht:e.1=t
   ·have hp:posK (e::m) t=0:=by unfold posK;rw [List.findIdx_cons];simp [ht]
    have hv:valK (e::m) t=e.2:=by unfold valK;simp [hp]
    rw [if_pos (by rw [← h1];exact ht),hv]
    exact h2
   ·have hp:posK (e::m) t=posK m t+1:=by unfold posK;rw [List.findIdx_cons];simp [ht]
    have hv:valK (e::m) t=valK m t:=by unfold valK;simp [hp]
    rw [if_neg (by rw [← h1];exact ht),hv]
    exact ih
theorem PmAt.look {S:Nat→Prop} {w:World} {M c:Nat} {g:List GP} (h:PmAt S w M c g) (t:Nm):∃ v,(∃ m,MapK w M c m∧valK m t=v)∧OwnPP S w v (getP g t):=by
 obtain ⟨m,h1,h2,h3,h4,h5⟩:=h
 exact ⟨_,⟨m,h1,rfl⟩,posK_getP t h3 h4⟩
theorem PmAt.keys {S:Nat→Prop} {w:World} {M c:Nat} {g:List GP} (h:PmAt S w M c g):∃ m,MapK w M c m∧m.map (·.1)=g.map (·.1)∧m.length=g.length:=by
 obtain ⟨m,h1,_,h3,h4,_⟩:=h
 refine ⟨m,h1,List.ext_getElem (by simp [h3]) fun i hi hj=> ?_,h3⟩
 have hi':i<m.length:=by simpa using hi
 have hj':i<g.length:=by simpa using hj
 simpa using (h4 i _ _ (List.getElem?_eq_getElem hi') (List.getElem?_eq_getElem hj')).1
theorem addP_at:∀ {m:List EntK} {g:List GP} {t:Nm} {a:Pn},m.length=g.length→(∀ (i:Nat) (e:EntK) (p:GP),m[i]?=some e→g[i]?=some p→e.1=p.1)→
  (addP g t a).length=(entK m t).length∧(addP g t a)[posK m t]?=some (t,getP g t++[a])∧∀ i p,i≠posK m t→(addP g t a)[i]?=some p→g[i]?=some p
 |[],g,t,a,hl,h=>by
  cases g with
  |nil=>refine ⟨by simp [addP,entK,posK],by simp [addP,posK,getP],fun i p hi hp=> ?_⟩;cases i with|zero=>simp [posK] at hi|succ i=>simp [addP] at hp
  |cons p g=>cases hl
 |e::m,g,t,a,hl,h=>by
  cases g with
  |nil=>cases hl
  |cons p g=>
   have h1:=h 0 e p rfl rfl
   obtain ⟨i1,i2,i3⟩:=addP_at (m:=m) (g:=g) (t:=t) (a:=a) (by simpa using hl) fun i e' p' he hp=>h (i+1) e' p' (by simpa using he) (by simpa using hp)
   have hl':m.length=g.length:=by simpa using hl
   rw [addP]
   by_cases ht:e.1=t
   ·have hp:posK (e::m) t=0:=by unfold posK;rw [List.findIdx_cons];simp [ht]
    have ht':p.1=t:=by rw [← h1];exact ht
    rw [if_pos ht',hp]
    refine ⟨by simp [entK,hp,hl'],by simp [getP,ht'],fun i q hi hq=> ?_⟩
    cases i with
    |zero=>exact absurd rfl hi
    |succ i=>simpa using hq
   ·have hp:posK (e::m) t=posK m t+1:=by unfold posK;rw [List.findIdx_cons];simp [ht]
    have ht':¬ p.1=t:=by rw [← h1];exact ht
    have he:(entK (e::m) t).length=(entK m t).length+1:=by
     unfold entK
     rw [hp]
     by_cases hq:posK m t<m.length
     ·rw [if_pos hq,if_pos (by simpa using hq)];rfl
     ·rw [if_neg hq,if_neg (by simpa using hq)];simp
    rw [if_neg ht',hp]
    refine ⟨by rw [he,List.length_cons,i1],by rw [List.getElem?_cons_succ,i2,getP,if_neg ht'],fun i q hi hq=> ?_⟩
    cases i with
    |zero=>simpa using hq
    |succ i=>simpa using i3 i q (by omega) (by simpa using hq)
theorem PmAt.added {S T:Nat→Prop} {w w3:World} {M c:Nat} {g:List GP} {m:List EntK} {t:Nm} {a:Pn} {v':Value}
  (h1:MapK w M c m) (h2:S M) (h3:m.length=g.length) (h4:∀ (i:Nat) (e:EntK) (p:GP),m[i]?=some e→g[i]?=some p→e.1=p.1∧OwnPP S w e.2 p.2)
  (h5:∀ (i j:Nat) (e f:EntK) (k:Nat),i≠j→m[i]?=some e→m[j]?=some f→e.2.ownBlock=some k→f.2.ownBlock≠some k)
  (hST:∀ k,S k→T k) (hk:∀ (k:Nat),k<w.heap.size→k≠M→(valK m t).ownBlock≠some k→w3.heap[k]?=w.heap[k]?)
  (hm2:MapK w3 M c ((entK m t).set (posK m t) (t,v'))) (ho:OwnPP T w3 v' (getP g t++[a])) (hn:v'.ownBlock=(valK m t).ownBlock∨∀ k,v'.ownBlock=some k→w.heap.size≤k):PmAt T w3 M c (addP g t a):=by
 obtain ⟨p1,p2⟩:=posK_entK m t
 obtain ⟨q1,q2,q3⟩:=addP_at (a:=a) (t:=t) h3 fun i e p he hp=>(h4 i e p he hp).1
 have hB:M<w.heap.size:=(Array.getElem?_eq_some_iff.1 h1).1
 have hent:∀ (i:Nat) (e:EntK),i≠posK m t→(entK m t)[i]?=some e→m[i]?=some e:=fun i e hi he=>by
  unfold entK at he
  split at he
  ·exact he
  ·rename_i hlt
   have hle:posK m t≤m.length:=List.findIdx_le_length
   rw [List.getElem?_append] at he
   split at he
   ·exact he
   ·rename_i h6
    have :i≠m.length:=by omega
    rw [List.getElem?_eq_none (by simp;omega)] at he
    cases he
 have hval:∀ (i:Nat) (e:EntK) (k:Nat),i≠posK m t→m[i]?=some e→e.2.ownBlock=some k→(valK m t).ownBlock≠some k:=fun i e k hi he hk'=>by
  unfold valK
  split
  ·rename_i hlt
   exact h5 i (posK m t) e _ k hi he (List.getElem?_eq_getElem hlt) hk'
  ·intro hh;cases hh
 refine ⟨_,hm2,hST M h2,by rw [List.length_set,q1],fun i e p he hp=> ?_,fun i j e f k hij he hf hk'=> ?_⟩
 ·rw [List.getElem?_set] at he
  by_cases hi:posK m t=i
  ·subst hi
   rw [if_pos rfl,if_pos p1] at he
   rw [q2] at hp
   cases he
   cases hp
   exact ⟨rfl,ho⟩
  ·rw [if_neg hi] at he
   have he':=hent i e (fun h=>hi h.symm) he
   have hp':=q3 i p (fun h=>hi h.symm) hp
   obtain ⟨r1,r2⟩:=h4 i e p he' hp'
   have rv:=hval i e
   have rm:∀ k,e.2.ownBlock=some k→k≠M:=fun k hk' e'=>r2.not_map h1 (by rw [hk',e'])
   refine ⟨r1,OwnPP.imp (r2.keep (fun k hk'=> ?_) fun k hs=> ?_) hST⟩
   ·have hlt:k<w.heap.size:=by obtain ⟨cs,g1,_⟩:=r2;exact (g1.lt k hk').2
    exact hk k hlt (rm k hk') (rv k (fun h=>hi h.symm) he' hk')
   ·obtain ⟨_,cs',fr',hh,_⟩:=hs
    refine hk k (Array.getElem?_eq_some_iff.1 hh).1 (fun e'=> ?_) (fun e'=> ?_)
    ·subst e';rw [h1] at hh;cases hh
    ·obtain ⟨cs2,g1,_⟩:=posK_getP (S:=S) (w:=w) t h3 h4
     exact owned_apart g1 hh (by decide) e'
 ·rw [List.getElem?_set] at he hf
  have hother:∀ (x:Nat) (u:EntK),posK m t≠x→(entK m t)[x]?=some u→∀ k,u.2.ownBlock=some k→v'.ownBlock≠some k:=fun x u hx hu k hk2 hv=>by
   have hu':=hent x u (fun h=>hx h.symm) hu
   rcases hn with hn|hn
   ·rw [hn] at hv
    exact hval x u k (fun h=>hx h.symm) hu' hk2 hv
   ·have hlx:x<g.length:=by rw [← h3];exact (List.getElem?_eq_some_iff.1 hu').1
    obtain ⟨cs2,g1,_⟩:=(h4 x u _ hu' (List.getElem?_eq_getElem hlx)).2
    have :=(g1.lt k hk2).2
    have :=hn k hv
    omega
  by_cases hi:posK m t=i
  ·subst hi
   rw [if_pos rfl,if_pos p1] at he
   cases he
   rw [if_neg hij] at hf
   intro hf2
   exact hother j f hij hf k hf2 hk'
  ·rw [if_neg hi] at he
   by_cases hj:posK m t=j
   ·subst hj
    rw [if_pos rfl,if_pos p1] at hf
    cases hf
    exact hother i e hi he k hk'
   ·rw [if_neg hj] at hf
    exact h5 i j e f k hij (hent i e (fun h=>hi h.symm) he) (hent j f (fun h=>hj h.symm) hf) hk'
end Go.Proofs.YtldcadpemnpbmaaGreatDoor
set_option linter.unusedVariables false
namespace Go.Proofs.YtldcadpemnpbmaaGreatDoor
open Go Go.RowKit
theorem four_cells {w:World} {b:Nat} {x y z u:Value} {t:TypeId} (h:w.heap[b]?=some (.cells #[x,y,z,u] t (0,0))):
  w.cell? ⟨b,0,none⟩=some x∧w.cell? ⟨b,1,none⟩=some y∧w.cell? ⟨b,2,none⟩=some z∧w.cell? ⟨b,3,none⟩=some u∧
   w.frozen? ⟨b,0,none⟩=false∧w.frozen? ⟨b,1,none⟩=false∧w.frozen? ⟨b,2,none⟩=false∧w.frozen? ⟨b,3,none⟩=false:=by
 simp [World.cell?,World.frozen?,h]
def RowF (S:Nat→Prop) (w:World) (A:Option Addr) (xs:List Value):Prop:=RowP (Of S 77 w) w A xs∧(A=none∨∃ b o,A=some ⟨b,o,none⟩)
theorem RowF.keepO {S:Nat→Prop} {w w':World} {A:Option Addr} {xs:List Value} (h:RowF S w A xs) (hk:∀ k,Of S 77 w k→w'.heap[k]?=w.heap[k]?):RowF S w' A xs:=⟨RowP.keepO h.1 hk,h.2⟩
theorem RowF.impS {S T:Nat→Prop} {w:World} {A:Option Addr} {xs:List Value} (h:RowF S w A xs) (hs:∀ k,S k→T k):RowF T w A xs:=⟨RowP.imp h.1 fun k hk=>hk.imp (hs k),h.2⟩
def OwnES (S:Nat→Prop) (w:World) (v:Value) (l:List En):Prop:=∃ cs,w.ownsRow 0 85 3 v l.length cs∧(∀ k,v.ownBlock=some k→S k)∧NestC enS (RowF S w) l cs
section
variable {S T:Nat→Prop} {w w':World} {v v':Value} {l:List En}
theorem OwnES.nil:OwnES S w (.slice none 0 0) []:=⟨[],World.ownsRow_nil _ _ _ _,(fun k hk=>by cases hk),rfl⟩
theorem OwnES.keep (h:OwnES S w v l) (hv:∀ k,v.ownBlock=some k→w'.heap[k]?=w.heap[k]?) (hk:∀ k,Of S 77 w k→w'.heap[k]?=w.heap[k]?):OwnES S w' v l:=by
 obtain ⟨cs,h1,h2,h3⟩:=h
 exact ⟨cs,owned_keep h1 hv,h2,h3.imp fun _ _ h=>h.keepO hk⟩
theorem OwnES.keeps (h:OwnES S w v l) (hk:∀ k,S k→k<w.heap.size→w'.heap[k]?=w.heap[k]?):OwnES S w' v l:=by
 refine h.keep (fun k hv=> ?_) fun k hs=>hk k hs.1 hs.lt
 obtain ⟨cs,q1,q2,_⟩:=h
 exact hk k (q2 k hv) (q1.lt k hv).2
theorem OwnES.imp (h:OwnES S w v l) (hs:∀ k,S k→T k):OwnES T w v l:=by
 obtain ⟨cs,h1,h2,h3⟩:=h
 exact ⟨cs,h1,fun k hk=>hs k (h2 k hk),h3.imp fun _ _ h=>h.impS hs⟩
theorem OwnES.nestP {p:Nat→Prop} (h:OwnES S w v l) (hp:∀ k,S k→k<w.heap.size→(∃ cs t fr,w.heap[k]?=some (.cells cs t fr)∧(t=85∨t=77))→p k):∃ A c,v= .slice A l.length c∧(l.length≤c∧c≤maxLen)∧NestP enS p w A l:=by
 obtain ⟨cs,h1,h2,h3⟩:=h
 obtain ⟨A,c,rfl,hc,hr⟩:=owned_roomed h1
 refine ⟨A,c,rfl,hc,cs,h3.imp fun _ _ h=>h.1.imp fun k hk=>hp k hk.1 hk.lt ?_,?_⟩
 ·obtain ⟨_,cs',fr,hh,_⟩:=hk
  exact ⟨cs',_,fr,hh,.inr rfl⟩
 ·rcases h1.2 with ⟨hv,h0⟩|⟨g,cap,cur,hv,_,hh,_⟩
  ·refine .inl (List.eq_nil_of_length_eq_zero ?_)
   rw [h1.1,h0]
  ·injection hv with e1 e2 e3
   subst e1
   have hs:=h2 g rfl
   rcases hr with h0|⟨b,off,e,hb,hcc⟩
   ·exact .inl h0
   ·injection e with e
    injection e with e4 e5
    subst e4 e5
    exact .inr ⟨g,0,rfl,hp g hs hb ⟨_,_,_,hh,.inl rfl⟩,hcc⟩
theorem OwnES.nest (h:OwnES S w v l):∃ A c,v= .slice A l.length c∧(l.length≤c∧c≤maxLen)∧Nest enS w w.heap.size A l:=h.nestP fun k _ hk _=>hk
theorem OwnES.push {cs:List Value} (h1:w.ownsRow 0 85 3 v l.length cs) (h3:NestC enS (RowF S w) l cs) {A:Option Addr} {c:Nat} {q:En} (hc:q.2.1.length≤c) (hcx:c≤maxLen) (hr:RowF S w A (flds q.2.1))
  (hown:w'.ownsRow 0 85 3 v' (l.length+1) (cs++[.int .i64 q.1,.slice A q.2.1.length c,.int .i64 q.2.2])) (hg:w.grownBy w' v.ownBlock) (hS:∀ k,v'.ownBlock=some k→S k):OwnES S w' v' (l++[q]):=by
 have hk:∀ k,Of S 77 w k→w'.heap[k]?=w.heap[k]?:=fun k hk=>hg.block k hk.lt fun e=>by
  obtain ⟨_,cs',fr,hh,_⟩:=hk
  exact owned_apart h1 hh (by decide) e.symm
 refine ⟨_,?_,hS,(h3.imp fun _ _ h=>h.keepO hk).snoc (q:=q) hc hcx (hr.keepO hk)⟩
 rw [List.length_append,List.length_singleton]
 exact hown
theorem RowF.of_own {base:Nat} {A:Option Addr} {n c:Nat} {fs:List Fd} (h:w.ownsRow base 77 2 (.slice A n c) n (flds fs)) (hS:∀ k,base≤k→k<w.heap.size→S k):RowF S w A (flds fs):=by
 rcases h.2 with ⟨hv,hn⟩|⟨g,cap,cur,hv,hg,hh,hnc,hcp,hcs,htake⟩
 ·injection hv with h1 h2 h3
  refine ⟨.inl (List.eq_nil_of_length_eq_zero ?_),.inl h1⟩
  rw [h.1,hn]
 ·injection hv with h1 h2 h3
  subst h1
  refine ⟨?_,.inr ⟨g,0,rfl⟩⟩
  rcases owned_row_of h with h0|⟨b,off,e,hb,hc⟩
  ·exact .inl h0
  ·injection e with e
   injection e with e1 e2
   subst e1 e2
   exact .inr ⟨g,0,rfl,⟨hS g hg hb,_,_,hh,rfl⟩,hc⟩
theorem OwnES.at_ (h:OwnES S w v l) {k:Nat} (hk:k<l.length):∃ b c0 A c,v= .slice (some ⟨b,0,none⟩) l.length c0∧S b∧b<w.heap.size∧w.cell? ⟨b,k*3,none⟩=some (.int .i64 l[k].1)∧w.cell? ⟨b,k*3+1,none⟩=some (.slice A l[k].2.1.length c)∧w.cell? ⟨b,k*3+2,none⟩=some (.int .i64 l[k].2.2)∧l[k].2.1.length≤c∧c≤maxLen∧RowF S w A (flds l[k].2.1):=by
 obtain ⟨cs,h1,h2,h3⟩:=h
 obtain ⟨A,c,g1,g2,g3,g4,g5,g6⟩:=h3.at_ hk
 have e0:=g5 0 _ rfl
 have e2:=g6 0 _ rfl
 rcases h1.2 with ⟨hv,h0⟩|⟨g,cap,cur,hv,hg,hh,_⟩
 ·omega
 ·subst hv
  have hc:∀ {j u},cs[j]?=some u→w.cell? ⟨g,j,none⟩=some u:=fun {j u} hu=>by have :=h1.cells (g:=g) rfl _ _ hu;simpa [Addr.add_lit] using this
  exact ⟨g,cap,A,c,rfl,h2 g rfl,(Array.getElem?_eq_some_iff.1 hh).1,hc e0,hc g1,hc e2,g2,g3,g4⟩
end
structure BufIn (S:Nat→Prop) (w:World) (B:Nat) (l:List En) (up:Int) (v:Value) (M c:Nat) (g:List GP):Prop where
 cells:w.heap[B]?=some (.cells #[v,.map (some M),.int .i64 (weightE l:Int),.int .i64 up] 143 (0,0))
 mine:S B
 own:OwnES S w v l
 map:PmAt S w M c g
 stand:Stand g l
 good:GoodE l
 up1: -1≤up
 last:l≠[]→up=lastE l
 lt:∀ k,S k→k<w.heap.size
def BufAt (S:Nat→Prop) (w:World) (B:Nat) (l:List En) (up:Int):Prop:=∃ v M c g,BufIn S w B l up v M c g
section
variable {S T:Nat→Prop} {w w':World} {B:Nat} {l:List En} {up:Int}
theorem BufIn.keep {v:Value} {M c:Nat} {g:List GP} (h:BufIn S w B l up v M c g) (hk:∀ k,S k→w'.heap[k]?=w.heap[k]?) (hs:w.heap.size≤w'.heap.size):BufIn S w' B l up v M c g:=
 ⟨(hk B h.mine).trans h.cells,h.mine,h.own.keeps fun k hk' _=>hk k hk',h.map.keep fun k hk' _=>hk k hk',h.stand,h.good,h.up1,h.last,fun k hk'=>Nat.lt_of_lt_of_le (h.lt k hk') hs⟩
theorem BufAt.keep (h:BufAt S w B l up) (hk:∀ k,S k→w'.heap[k]?=w.heap[k]?) (hs:w.heap.size≤w'.heap.size):BufAt S w' B l up:=by
 obtain ⟨v,M,c,g,h⟩:=h
 exact ⟨v,M,c,g,h.keep hk hs⟩
theorem BufIn.below {v:Value} {M c:Nat} {g:List GP} (h:BufIn S w B l up v M c g) (hb:Below w.heap.size w w'):BufIn S w' B l up v M c g:=h.keep (fun k hk=>hb.block k (h.lt k hk)) hb.size
theorem BufAt.below (h:BufAt S w B l up) (hb:Below w.heap.size w w'):BufAt S w' B l up:=by
 obtain ⟨v,M,c,g,h⟩:=h
 exact ⟨v,M,c,g,h.below hb⟩
theorem BufAt.lt (h:BufAt S w B l up):∀ k,S k→k<w.heap.size:=by obtain ⟨v,M,c,g,h⟩:=h;exact h.lt
end
end Go.Proofs.YtldcadpemnpbmaaGreatDoor
set_option linter.unusedVariables false
namespace Go.Proofs.YtldcadpemnpbmaaGreatDoor
open Go Go.RowKit
def FirmM (B:Nat) (p:World→Prop):Prop:=∀ W l (o o':Obj),B≤l→W.heap[l]?=some o→o.isCells=false→p W→p (W.putObj l o')
def Moved {α:Type} (n:Nat) (P:Program) (g:Nat) (lb:Array Value) (encs:α→Array Value) (Mv Kp:World→World→Prop) (Ok:List α→α→World→Prop) (S:List α→Prop) (w:World):Prop:=
 ∀ (l:Nat) (J:List α→World→Prop) (W:World),Below w.heap.size w W→(∀ s A B,J s A→Mv A B→J s B)→
  (∀ pre x W1,J pre W1→Ok pre x W1→YieldAt Fence.wide (n-1) P l (encs x) W1 fun e W'=>e= .returned (.bool true)∧J (pre++[x]) W'∧Kp W1 W')→
  J [] W→CallsIn Fence.wide n P g (#[.func (.yield l) #[] #[]]++lb) W fun e W'=>(∃ v,e= .returned v)∧∃ xs,S xs∧J xs W'
variable {n:Nat} {P:Program}
theorem wpIn_range_moved {α:Type} {g:Operand} {ps:Array Tmp} {assign body:Code} {Q:Exit→Act→World→Prop} {a:Act} {w:World} (h1:1≤n) {gf:Nat} {lb:Array Value} (hg:a.eval g= .func (.func gf) #[] lb)
  (eg:∀ args w,(callFunc gf args).run P w= .ok (.enter gf args) w) {encs:α→Array Value} {Mv Kp:World→World→Prop} {Ok:List α→α→World→Prop} {S:List α→Prop} (hseq:Moved (n-1) P gf lb encs Mv Kp Ok S w)
  (hMb:∀ {B:World},Below w.heap.size w B→Mv w B) (hMk:∀ {A B:World} {k:Nat} {o:Obj},w.heap.size≤k→Mv A B→A.heap[k]?=some o→(∃ x,o= .loop x)∨(∃ x,o= .deferred x)→B.heap[k]?=some o)
  (hKt:∀ {A B C:World},Kp A B→Kp B C→Kp A C) (hKp:∀ (W:World) (l:Nat) (x:Loop) (o':Obj),w.heap.size≤l→W.heap[l]?=some (.loop x)→Kp W (W.putObj l o')) (hps:∀ x,(encs x).size=ps.size)
  (I:List α→World→Prop) (hIb:∀ s A B,I s A→Mv A B→I s B) (hIp:∀ s,FirmM w.heap.size (I s)) (hOk:∀ s x,FirmM w.heap.size (Ok s x)) (h0:I [] w) (Ax:α→Act→World→Prop) (hAx:∀ x a',FirmM w.heap.size (Ax x a'))
  (hassign:∀ (l:Nat) (pre:List α) (x:α) (W:World) (K:Act→World→Prop),I pre W→Ok pre x W→(∀ a' W',Ax x a' W'→I pre W'→Ok pre x W'→Below W.heap.size W W'→Kp W W'→K a' W')→assign.wpIn (Fence.wide.inRound l) (n-1-1) P (Exit.then K (fun _ _ _=>False)) {tmps:=(ps.zip (encs x)).foldl (fun t (p,v)=>t.setIfInBounds p v) a.tmps,defers:=[]} W)
  (hbody:∀ (l:Nat) (pre:List α) (x:α) (a':Act) (W:World),Ax x a' W→I pre W→Ok pre x W→body.wpIn (Fence.wide.inRound l) (n-1-1) P (ownPostK Kp I (fun _ _ _=>False) (pre++[x]) W) a' W)
  (hdone:∀ (D:Nat) (xs:List α) (W:World),w.heap.size≤D→S xs→I xs W→W.heap[D]?=some (.deferred (some []))→Q .normal {a with defers:={target:= .collected D,args:=#[]}::a.defers} W):
  (Code.rangeFunc g ps assign body).wpIn Fence.wide n P Q a w:=by
 refine wpIn_rangeFunc fun fn hfn=> ?_
 have enter:=run_enterLoop_outer (P:=P) (w:=w) fn a.tmps ps assign body
 obtain ⟨D,hD⟩:∃ D,D=w.heap.size:=⟨_,rfl⟩
 obtain ⟨st,hst⟩:∃ st:LoopState→Loop,st=fun s=>{state:=s,pending:=none,fn:=fn,tmps:=a.tmps,params:=ps,assign:=assign,body:=body,defers:=w.heap.size}:=⟨_,rfl⟩
 obtain ⟨V,hV⟩:∃ V,V=(w.alloc (.deferred (some []))).alloc (.loop (st .ready)):=⟨_,rfl⟩
 have enter':(Instr.enterLoop fn a.tmps ps assign body Fence.wide.round).run P w= .ok (D+1,[{target:= .collected D,args:=#[]}]) V:=by rw [hV,hst,hD];exact enter
 have bel:Below w.heap.size w V:=by rw [hV];exact ((Below.refl _ w).alloc (Nat.le_refl _) _).alloc (by simp) _
 have hdV:V.heap[D]?=some (.deferred (some [])):=by rw [hV,hD];exact (Below.heap_alloc _ _ _ (by simp)).trans (World.alloc_heap_new w _)
 have hlV:V.heap[D+1]?=some (.loop (st .ready)):=by
  have :=World.alloc_heap_new (w.alloc (.deferred (some []))) (.loop (st .ready))
  rwa [World.size_alloc,← hV,← hD] at this
 have stay:∀ (s:List α) (A B:World),(I s A∧A.heap[D+1]?=some (.loop (st .ready))∧A.heap[D]?=some (.deferred (some [])))→Mv A B→(I s B∧B.heap[D+1]?=some (.loop (st .ready))∧B.heap[D]?=some (.deferred (some []))):=by
  rintro s A B ⟨i1,i2,i3⟩ hb
  exact ⟨hIb s A B i1 hb,hMk (by omega) hb i2 (.inl ⟨_,rfl⟩),hMk (by omega) hb i3 (.inr ⟨_,rfl⟩)⟩
 have round:∀ (pre:List α) (x:α) (A:World),(I pre A∧A.heap[D+1]?=some (.loop (st .ready))∧A.heap[D]?=some (.deferred (some [])))→Ok pre x A→
   YieldAt Fence.wide (n-1-1) P (D+1) (encs x) A fun e B=>e= .returned (.bool true)∧(I (pre++[x]) B∧B.heap[D+1]?=some (.loop (st .ready))∧B.heap[D]?=some (.deferred (some [])))∧Kp A B:=by
  rintro pre x A ⟨i1,i2,i3⟩ hx
  have hl:D+1<A.heap.size:=(Array.getElem?_eq_some_iff.1 i2).1
  have y:=run_yield (P:=P) (args:=encs x) i2 (by rw [hst];exact hps x)
  rw [hst] at y
  refine ⟨fn,_,assign,body,y,roundIn_of_wpIn hfn (hassign _ pre x A _ i1 hx fun a' A0 hax j1 jx hbl hk0=> ?_)⟩
  have hl0:D+1<A0.heap.size:=Nat.lt_of_lt_of_le hl hbl.size
  have i2':A0.heap[D+1]?=some (.loop (st .ready)):=(hbl.block _ hl).trans i2
  have i3':A0.heap[D]?=some (.deferred (some [])):=(hbl.block _ (by omega)).trans i3
  have beg:=run_beginRound (P:=P) i2' (by rw [hst])
  refine ⟨_,beg,?_⟩
  obtain ⟨A1,hA1⟩:∃ A1,A1=A0.putObj (D+1) (.loop {st .ready with state:= .busy}):=⟨_,rfl⟩
  rw [← hA1]
  have l1:A1.heap[D+1]?=some (.loop {st .ready with state:= .busy}):=by rw [hA1];exact World.putObj_heap_same hl0
  have d1:A1.heap[D]?=some (.deferred (some [])):=by rw [hA1];exact (World.putObj_heap_other (by omega)).trans i3'
  have k1:Kp A A1:=hKt hk0 (by rw [hA1];exact hKp A0 _ _ _ (by omega) i2')
  have b1:=hbody (D+1) pre x a' A1 (by rw [hA1];exact hAx x a' A0 _ _ _ (by omega) i2' rfl hax) (by rw [hA1];exact hIp pre A0 _ _ _ (by omega) i2' rfl j1) (by rw [hA1];exact hOk pre x A0 _ _ _ (by omega) i2' rfl jx)
  refine wpIn_mono b1 ?_
  rintro ex a2 A2 hp
  cases ex with
  |normal=>
   obtain ⟨ko,k2,i4⟩:=hp
   have l2:=ko.same _ _ l1 rfl
   have d2:=ko.same _ _ d1 rfl
   have fin:=run_endRound (P:=P) none l2
   have hl2:D+1<A2.heap.size:=(Array.getElem?_eq_some_iff.1 l2).1
   refine ⟨_,_,fin,rfl,⟨hIp _ A2 _ _ _ (by omega) l2 rfl i4,?_,(World.putObj_heap_other (by omega)).trans d2⟩,hKt (hKt k1 k2) (hKp A2 _ _ _ (by omega) l2)⟩
   rw [World.putObj_heap_same hl2,hst]
   rfl
  |ret=>exact hp.2.elim
  |exit id=>exact hp.2.elim
  |goto t=>exact hp.2.elim
  |panic c=>exact hp.elim
  |outgrown=>exact hp.elim
 refine ⟨D+1,_,V,{target:= .fn (.func gf) lb,args:=#[.func (.yield (D+1)) #[] #[]]},V,gf,#[.func (.yield (D+1)) #[] #[]]++lb,V,enter',?_,?_,?_,fun _=>h1,?_⟩
 ·simp only [resolve,hg]
  simp [go_sem]
 ·intro f' _
  trivial
 ·simp [invoke,go_sem,eg]
 ·refine (hseq (D+1) _ V bel stay round ⟨hIb [] w V h0 (hMb bel),hlV,hdV⟩).mono ?_
  rintro e A ⟨⟨v,rfl⟩,xs,hS,i1,i2,i3⟩
  have fin:=run_endLoop (P:=P) i2 (by rw [hst];simp)
  rw [hst] at fin
  refine ⟨none,_,fin,hdone D xs _ (by omega) hS (hIp xs A _ _ _ (by omega) i2 rfl i1) ((World.putObj_heap_other (by omega)).trans i3)⟩
end Go.Proofs.YtldcadpemnpbmaaGreatDoor
set_option linter.unusedVariables false
namespace Go.Proofs.YtldcadpemnpbmaaGreatDoor
open Go Go.RowKit
open Go.ChangeMaps (setBlock)
attribute [local go_sem] Oper.semAt_some
def encT (x:Tm):Array Value:=#[tV x]
def ItAt (W:World) (r B:Nat) (m:List Ent) (pre:List Tm):Prop:=∃ seen:List Nat,W.heap[r]?=some (.mapIter (some B) m.length seen.toArray m.length)∧seen.Nodup∧(∀ b∈seen,b<m.length)∧pre=seen.map fun b=>(m.map (·.1)).getD b ([],[])
theorem entsM_mem {m:List Ent} {i:Nat} {e:MapEntry} (h:e∈entsM i m):∃ (k:Nat) (hk:k<m.length),e={key:=tV m[k].1,val:=m[k].2,born:=i+k}:=by
 obtain ⟨k,hk,rfl⟩:=List.getElem_of_mem h
 rw [entsM_length] at hk
 refine ⟨k,hk,?_⟩
 have :=entsM_at (i:=i) hk
 rw [List.getElem?_eq_getElem (by rw [entsM_length];exact hk)] at this
 exact Option.some.inj this
theorem entsM_borns:∀ (m:List Ent) (i:Nat),(entsM i m).map (·.born)=List.range' i m.length
 |[],i=>rfl
 |e::m,i=>by rw [entsM,List.map_cons,entsM_borns m (i+1),List.length_cons,List.range'_succ]
theorem nodup_lt:∀ (n:Nat) (l:List Nat),l.Nodup→(∀ b∈l,b<n)→l.length≤n
 |0,l,_,h=>by
  cases l with
  |nil=>exact Nat.le_refl _
  |cons x l=>exact absurd (h x (List.mem_cons_self ..)) (by omega)
 |n+1,l,hn,h=>by
  have h1:=nodup_lt n (l.erase n) (hn.erase n) fun b hb=>by
   obtain ⟨h2,h3⟩:=(hn.mem_erase_iff).1 hb
   have :=h b h3
   omega
  by_cases hm:n∈l
  ·rw [List.length_erase_of_mem hm] at h1
   omega
  ·rw [List.erase_of_not_mem hm] at h1
   omega
theorem ItAt.done {W:World} {r B:Nat} {m:List Ent} {seen:List Nat} (hn:seen.Nodup) (hs:∀ b∈seen,b<m.length) (h0:(leftOf (entsM 0 m).toArray seen.toArray).size=0):(seen.map fun b=>(m.map (·.1)).getD b ([],[])).Perm (m.map (·.1)):=by
 have hall:=all_seen _ _ h0
 have hp:seen.Perm (List.range m.length):=by
  refine (List.perm_ext_iff_of_nodup hn List.nodup_range).2 fun b=>⟨fun hb=>List.mem_range.2 (hs b hb),fun hb=> ?_⟩
  have hb:=List.mem_range.1 hb
  have he:=entsM_at (i:=0) hb
  have :=hall _ (List.mem_of_getElem? (by simpa using he))
  simpa using this
 have h1:=hp.map fun b=>(m.map (·.1)).getD b (([],[]):Tm)
 refine h1.trans (List.Perm.of_eq ?_)
 apply List.ext_getElem
 ·simp
 ·intro i h2 h3
  have hi:i<m.length:=by simpa using h3
  simp [List.getD_eq_getElem?_getD,hi]
structure MvIt (base:Nat) (w w':World):Prop where
 below:Below base w w'
 keep:∀ (k:Nat) (o:Obj),w.heap[k]?=some o→(∀ m s e c,o≠ .mapIter m s e c)→w'.heap[k]?=some o
theorem MvIt.of {base:Nat} {w w':World} (h:Below w.heap.size w w') (hb:base≤w.heap.size):MvIt base w w':=⟨h.mono hb,fun k o hk _=>(h.block k (Array.getElem?_eq_some_iff.1 hk).1).trans hk⟩
structure KpIt (base:Nat) (w w':World):Prop where
 below:Below base w w'
 keep:∀ (k:Nat) (o:Obj),w.heap[k]?=some o→((∃ m s e c,o= .mapIter m s e c)∨∃ es c,o= .map es c)→w'.heap[k]?=some o
theorem setBlock_moved {base:Nat} {w w1:World} {r:Nat} {m:Option Nat} {s:Nat} {e:Array Nat} {c:Nat} (h1:w1=w∨w1=w.drew) (hr:w.heap[r]?=some (.mapIter m s e c)) (hb:base≤r) (o:Obj):MvIt base w (setBlock w1 r o)∧(setBlock w1 r o).heap[r]?=some o:=by
 have hlt:=(Array.getElem?_eq_some_iff.1 hr).1
 have hh:w1.heap=w.heap:=by rcases h1 with rfl|rfl<;>rfl
 refine ⟨⟨⟨by rcases h1 with rfl|rfl<;>rfl,by rcases h1 with rfl|rfl<;>rfl,by rcases h1 with rfl|rfl<;>rfl,by simp [setBlock,hh],fun k hk=> ?_⟩,fun k o' hk hno=> ?_⟩,?_⟩
 ·show (w1.heap.setIfInBounds r o)[k]?=_
  rw [Array.getElem?_setIfInBounds_ne (by omega),hh]
 ·show (w1.heap.setIfInBounds r o)[k]?=_
  have hne:r≠k:=by rintro rfl;rw [hr] at hk;cases hk;exact hno _ _ _ _ rfl
  rw [Array.getElem?_setIfInBounds_ne hne,hh,hk]
 ·show (w1.heap.setIfInBounds r o)[r]?=_
  rw [Array.getElem?_setIfInBounds_self_of_lt (by rw [hh];exact hlt)]
section
variable {F:Fence} {n:Nat} (w:World) {ops:Array Oper} {rest:List Oper} {o:Oper} {a:Act} {Q:Exit→Act→World→Prop}
theorem wpListIn_range_tm (hg:o.guard=none) (x:Operand) (hop:o.op=Op.range 260 x) (B:Nat) (m:List Ent) (hx:a.eval x= .map (some B)) (hm:MapAt w B m)
  (hK:wpListIn F n Tryz.prog ops Q rest (a.put o.dst (.pointer (some ⟨w.heap.size,0,none⟩))) (w.alloc (.mapIter (some B) m.length #[] m.length))):
  wpListIn F n Tryz.prog ops Q (o::rest) a w:=by
 refine wpListIn_plain hg fun K' hK'=> ?_
 have hrun:=run_range_map (P:=Tryz.prog) w 260 _ _ B _ _ Tryz.underlying260 hm
 unfold Oper.wpIn
 refine ⟨by simp [Oper.about,hop],?_⟩
 rw [Oper.semAt_plain F _ _ (by rw [hop];intro c hc';cases hc')]
 simp [execOp,hop,hx,hrun,Result.andThen]
 exact hK' _ _ hK
theorem wpListIn_next_tm (hg:o.guard=none) (it:Operand) (hop:o.op=Op.next it false) (base r B:Nat) (m:List Ent) (pre:List Tm) (hit:a.eval it= .pointer (some ⟨r,0,none⟩)) (hm:MapAt w B m) (hi:ItAt w r B m pre) (hb:base≤r)
  (hDone:pre.Perm (m.map (·.1))→wpListIn F n Tryz.prog ops Q rest (a.put o.dst (.tuple #[.bool false])) w)
  (hMore:∀ (t:Tm) (v:Value) (w':World),pre.length<m.length→MvIt base w w'→ItAt w' r B m (pre++[t])→(Instr.entry (.pointer (some ⟨r,0,none⟩))).run Tryz.prog w'= .ok (.tuple #[tV t,v]) w'→wpListIn F n Tryz.prog ops Q rest (a.put o.dst (.tuple #[.bool true,tV t,v])) w'):
  wpListIn F n Tryz.prog ops Q (o::rest) a w:=by
 refine wpListIn_plain hg fun K' hK'=> ?_
 unfold Oper.wpIn
 refine ⟨by simp [Oper.about,hop],?_⟩
 rw [Oper.semAt_plain F _ _ (by rw [hop];intro c hc';cases hc')]
 obtain ⟨seen,hr,hn,hs,rfl⟩:=hi
 have hold:∀ x∈(entsM 0 m).toArray.toList,x.born<m.length:=fun x hx=>by
  obtain ⟨k,hk,rfl⟩:=entsM_mem (by simpa using hx)
  simpa using hk
 rcases run_next_at (P:=Tryz.prog) w o.type r B m.length m.length seen.toArray (entsM 0 m).toArray m.length hr hm hold (Nat.le_refl _) with ⟨h0,hrun⟩|⟨e,he,w1,hw1,hrun⟩
 ·simp [execOp,hop,hit,hrun,Result.andThen]
  exact hK' _ _ (hDone (ItAt.done (W:=w) (r:=r) (B:=B) hn hs h0))
 ·obtain ⟨he1,he2⟩:=mem_left he
  obtain ⟨k,hk,hek⟩:=entsM_mem (m:=m) (i:=0) (e:=e) (by simpa using he1)
  have hbk:e.born=k:=by rw [hek];simp
  have hkk:e.key=tV m[k].1:=by rw [hek]
  rw [hbk] at he2 hrun
  have hks:k∉seen:=by simpa using he2
  have hpush:seen.toArray.push k=(seen++[k]).toArray:=by simp
  rw [hpush] at hrun
  obtain ⟨hmv,hr2⟩:=setBlock_moved (base:=base) hw1 hr hb (.mapIter (some B) m.length (seen++[k]).toArray m.length)
  have hm2:MapAt (setBlock w1 r (.mapIter (some B) m.length (seen++[k]).toArray m.length)) B m:=hmv.keep _ _ hm (by simp)
  have hen:=run_entry_at (P:=Tryz.prog) _ r B m.length seen.toArray (entsM 0 m).toArray m.length e (by rw [hbk,hpush];exact hr2) hm2 he1 (by simp [entsM_borns,List.nodup_range'])
  rw [hkk] at hen hrun
  simp [execOp,hop,hit,hrun,Result.andThen]
  have hlen:seen.length<m.length:=by
   have h1:(seen++[k]).Nodup:=by rw [List.nodup_append];exact ⟨hn,by simp,fun x hx y hy e=>by rw [List.mem_singleton] at hy;subst hy;subst e;exact hks hx⟩
   have h2:(seen++[k]).length≤m.length:=by
    refine nodup_lt _ _ h1 fun b hb=> ?_
    rcases List.mem_append.1 hb with hb|hb
    ·exact hs b hb
    ·rw [List.mem_singleton.1 hb];exact hk
   rw [List.length_append,List.length_singleton] at h2
   omega
  refine hK' _ _ (hMore m[k].1 e.val _ (by simpa using hlen) hmv ⟨seen++[k],hr2,?_,?_,?_⟩ hen)
  ·rw [List.nodup_append]
   exact ⟨hn,by simp,fun x hx y hy e=>by rw [List.mem_singleton] at hy;subst hy;subst e;exact hks hx⟩
  ·intro b hb
   rcases List.mem_append.1 hb with hb|hb
   ·exact hs b hb
   ·rw [List.mem_singleton.1 hb];exact hk
  ·rw [List.map_append]
   congr 1
   simp [List.getD_eq_getElem?_getD,hk]
end
end Go.Proofs.YtldcadpemnpbmaaGreatDoor
set_option linter.unusedVariables false
namespace Go.Proofs.YtldcadpemnpbmaaGreatDoor
open Go Go.RowKit
open Go.ChangeMaps (setBlock)
attribute [local go_sem] Oper.semAt_some
def encK (x:Nm):Array Value:=#[kV x]
def ItK (W:World) (r B c:Nat) (m:List EntK) (pre:List Nm):Prop:=∃ seen:List Nat,W.heap[r]?=some (.mapIter (some B) (c+m.length) (seen.map (c+·)).toArray (c+m.length))∧seen.Nodup∧(∀ b∈seen,b<m.length)∧pre=seen.map fun b=>(m.map (·.1)).getD b []
theorem entsK_mem {m:List EntK} {i:Nat} {e:MapEntry} (h:e∈entsK i m):∃ (k:Nat) (hk:k<m.length),e={key:=kV m[k].1,val:=m[k].2,born:=i+k}:=by
 obtain ⟨k,hk,rfl⟩:=List.getElem_of_mem h
 rw [entsK_length] at hk
 refine ⟨k,hk,?_⟩
 have :=entsK_at (i:=i) hk
 rw [List.getElem?_eq_getElem (by rw [entsK_length];exact hk)] at this
 exact Option.some.inj this
theorem entsK_borns:∀ (m:List EntK) (i:Nat),(entsK i m).map (·.born)=List.range' i m.length
 |[],i=>rfl
 |e::m,i=>by rw [entsK,List.map_cons,entsK_borns m (i+1),List.length_cons,List.range'_succ]
theorem ItK.done {c:Nat} {m:List EntK} {seen:List Nat} (hn:seen.Nodup) (hs:∀ b∈seen,b<m.length) (h0:(leftOf (entsK c m).toArray (seen.map (c+·)).toArray).size=0):(seen.map fun b=>(m.map (·.1)).getD b []).Perm (m.map (·.1)):=by
 have hall:=all_seen _ _ h0
 have hp:seen.Perm (List.range m.length):=by
  refine (List.perm_ext_iff_of_nodup hn List.nodup_range).2 fun b=>⟨fun hb=>List.mem_range.2 (hs b hb),fun hb=> ?_⟩
  have hb:=List.mem_range.1 hb
  have he:=entsK_at (i:=c) hb
  have :=hall _ (List.mem_of_getElem? (by simpa using he))
  simpa using this
 have h1:=hp.map fun b=>(m.map (·.1)).getD b ([]:Nm)
 refine h1.trans (List.Perm.of_eq ?_)
 apply List.ext_getElem
 ·simp
 ·intro i h2 h3
  have hi:i<m.length:=by simpa using h3
  simp [List.getD_eq_getElem?_getD,hi]
section
variable {F:Fence} {n:Nat} (w:World) {ops:Array Oper} {rest:List Oper} {o:Oper} {a:Act} {Q:Exit→Act→World→Prop}
theorem wpListIn_range_ks (hg:o.guard=none) (x:Operand) (hop:o.op=Op.range 141 x) (B c:Nat) (m:List EntK) (hx:a.eval x= .map (some B)) (hm:MapK w B c m)
  (hK:wpListIn F n Tryz.prog ops Q rest (a.put o.dst (.pointer (some ⟨w.heap.size,0,none⟩))) (w.alloc (.mapIter (some B) (c+m.length) #[] (c+m.length)))):
  wpListIn F n Tryz.prog ops Q (o::rest) a w:=by
 refine wpListIn_plain hg fun K' hK'=> ?_
 have hrun:=run_range_map (P:=Tryz.prog) w 141 _ _ B _ _ Tryz.underlying141 hm
 unfold Oper.wpIn
 refine ⟨by simp [Oper.about,hop],?_⟩
 rw [Oper.semAt_plain F _ _ (by rw [hop];intro c hc';cases hc')]
 simp [execOp,hop,hx,hrun,Result.andThen]
 exact hK' _ _ hK
theorem wpListIn_next_ks (hg:o.guard=none) (it:Operand) (hop:o.op=Op.next it false) (base r B c:Nat) (m:List EntK) (pre:List Nm) (hit:a.eval it= .pointer (some ⟨r,0,none⟩)) (hm:MapK w B c m) (hi:ItK w r B c m pre) (hb:base≤r)
  (hDone:pre.Perm (m.map (·.1))→wpListIn F n Tryz.prog ops Q rest (a.put o.dst (.tuple #[.bool false])) w)
  (hMore:∀ (t:Nm) (v:Value) (w':World),pre.length<m.length→MvIt base w w'→ItK w' r B c m (pre++[t])→(Instr.entry (.pointer (some ⟨r,0,none⟩))).run Tryz.prog w'= .ok (.tuple #[kV t,v]) w'→wpListIn F n Tryz.prog ops Q rest (a.put o.dst (.tuple #[.bool true,kV t,v])) w'):
  wpListIn F n Tryz.prog ops Q (o::rest) a w:=by
 refine wpListIn_plain hg fun K' hK'=> ?_
 unfold Oper.wpIn
 refine ⟨by simp [Oper.about,hop],?_⟩
 rw [Oper.semAt_plain F _ _ (by rw [hop];intro c hc';cases hc')]
 obtain ⟨seen,hr,hn,hs,rfl⟩:=hi
 have hold:∀ x∈(entsK c m).toArray.toList,x.born<c+m.length:=fun x hx=>by
  obtain ⟨k,hk,rfl⟩:=entsK_mem (by simpa using hx)
  simpa using hk
 rcases run_next_at (P:=Tryz.prog) w o.type r B (c+m.length) (c+m.length) (seen.map (c+·)).toArray (entsK c m).toArray (c+m.length) hr hm hold (Nat.le_refl _) with ⟨h0,hrun⟩|⟨e,he,w1,hw1,hrun⟩
 ·simp [execOp,hop,hit,hrun,Result.andThen]
  exact hK' _ _ (hDone (ItK.done hn hs h0))
 ·obtain ⟨he1,he2⟩:=mem_left he
  obtain ⟨k,hk,hek⟩:=entsK_mem (m:=m) (i:=c) (e:=e) (by simpa using he1)
  have hbk:e.born=c+k:=by rw [hek]
  have hkk:e.key=kV m[k].1:=by rw [hek]
  rw [hbk] at he2 hrun
  have hks:k∉seen:=by simpa using he2
  have hpush:(seen.map (c+·)).toArray.push (c+k)=((seen++[k]).map (c+·)).toArray:=by simp
  rw [hpush] at hrun
  obtain ⟨hmv,hr2⟩:=setBlock_moved (base:=base) hw1 hr hb (.mapIter (some B) (c+m.length) ((seen++[k]).map (c+·)).toArray (c+m.length))
  have hm2:MapK (setBlock w1 r (.mapIter (some B) (c+m.length) ((seen++[k]).map (c+·)).toArray (c+m.length))) B c m:=hmv.keep _ _ hm (by simp)
  have hen:=run_entry_at (P:=Tryz.prog) _ r B (c+m.length) (seen.map (c+·)).toArray (entsK c m).toArray (c+m.length) e (by rw [hbk,hpush];exact hr2) hm2 he1 (by simp [entsK_borns,List.nodup_range'])
  rw [hkk] at hen hrun
  simp only [execOp,hop,hit,hrun,Sem.run_bind,Sem.run_pure,Result.andThen]
  have hlen:seen.length<m.length:=by
   have h1:(seen++[k]).Nodup:=by rw [List.nodup_append];exact ⟨hn,by simp,fun x hx y hy e=>by rw [List.mem_singleton] at hy;subst hy;subst e;exact hks hx⟩
   have h2:(seen++[k]).length≤m.length:=by
    refine nodup_lt _ _ h1 fun b hb=> ?_
    rcases List.mem_append.1 hb with hb|hb
    ·exact hs b hb
    ·rw [List.mem_singleton.1 hb];exact hk
   rw [List.length_append,List.length_singleton] at h2
   omega
  refine hK' _ _ (hMore m[k].1 e.val _ (by simpa using hlen) hmv ⟨seen++[k],hr2,?_,?_,?_⟩ hen)
  ·rw [List.nodup_append]
   exact ⟨hn,by simp,fun x hx y hy e=>by rw [List.mem_singleton] at hy;subst hy;subst e;exact hks hx⟩
  ·intro b hb
   rcases List.mem_append.1 hb with hb|hb
   ·exact hs b hb
   ·rw [List.mem_singleton.1 hb];exact hk
  ·rw [List.map_append]
   congr 1
   simp [List.getD_eq_getElem?_getD,hk]
end
end Go.Proofs.YtldcadpemnpbmaaGreatDoor
