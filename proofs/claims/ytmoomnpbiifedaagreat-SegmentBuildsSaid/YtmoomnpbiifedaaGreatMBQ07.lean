import Derived.Test.YtmoomnpbiifedaaGreatMBZz
import Derived.Test.YtmoomnpbiifedaaGreatMBQ06
import Derived.Deep.AppendLies
import Derived.Test.YtmoomnpbiifedaaGreatMBQ01
import Derived.Test.YtmoomnpbiifedaaGreatMBQ04
import Derived.Test.YtmoomnpbiifedaaGreatMBQ05
import Derived.Test.YtmoomnpbiifedaaGreatMBQ03
import Derived.RangeFuncNested
import Derived.RangeFuncBound
import Derived.RangeFuncCalls
import Derived.RangeFuncLeaves
import Derived.RangeFuncBox
import Derived.OwnWalkIn
import Derived.TacticsInMore
import Derived.LoopNIn
import Derived.LoopIn
import Derived.Maps.AppendAt
import Derived.Shelf.Abstract
import Derived.Shelf.RegionOpen
set_option linter.unusedVariables false
namespace Go.Proofs.YtmoomnpbiifedaaGreat
open Go Go.RowKit
open Go.ChangeMaps (setBlock)
def kV (t:Nm):Value:= .string ⟨t.toArray⟩
theorem run_check_ks (em:Bool) (t:Nm) (w:World):(Instr.checkKey em 10000 9 (kV t)).run Tryz.prog w= .ok () w:=by
 have h:∀ d:Nat,(Instr.checkKey em (d+1) 9 (kV t)).run Tryz.prog w= .ok () w:=fun d=>by
  simp [Instr.checkKey,run_underlying Tryz.underlying9,kV]
 exact h 9999
theorem run_stays_ks (t:Nm) (w:World):(Instr.keyThatStays (kV t) (kV t)).run Tryz.prog w= .ok (kV t) w:=by
 have h:∀ d:Nat,Instr.sameBits (d+2) (kV t) (kV t)=true:=fun d=>by simp [Instr.sameBits,kV,str_eq]
 simp [Instr.keyThatStays,h 9998]
abbrev EntK:=Nm × Value
def entsK:Nat→List EntK→List MapEntry
 |_,[]=>[]
 |i,e::m=>{key:=kV e.1,val:=e.2,born:=i}::entsK (i+1) m
theorem entsK_length:∀ (m:List EntK) (i:Nat),(entsK i m).length=m.length
 |[],_=>rfl
 |e::m,i=>by simp [entsK,entsK_length m (i+1)]
theorem entsK_at:∀ {m:List EntK} {i k:Nat} (hk:k<m.length),(entsK i m)[k]?=some {key:=kV m[k].1,val:=m[k].2,born:=i+k}
 |[],_,_,h=>by simp at h
 |e::m,i,0,_=>rfl
 |e::m,i,k+1,h=>by
  have :=entsK_at (m:=m) (i:=i+1) (k:=k) (by simpa using h)
  simp only [entsK,List.getElem?_cons_succ,zC]
  rw [this,Nat.add_assoc,Nat.add_comm 1 k]
theorem entsK_append:∀ (m:List EntK) (e:EntK) (i:Nat),entsK i (m++[e])=entsK i m++[{key:=kV e.1,val:=e.2,born:=i+m.length}]
 |[],e,i=>rfl
 |x::m,e,i=>by
  simp only [List.cons_append,entsK,entsK_append m e (i+1),List.length_cons]
  rw [Nat.add_assoc,Nat.add_comm 1 m.length]
theorem entsK_set:∀ (m:List EntK) (e:EntK) (i k:Nat),entsK i (m.set k e)=(entsK i m).set k {key:=kV e.1,val:=e.2,born:=i+k}
 |[],e,i,k=>by simp [entsK]
 |x::m,e,i,0=>by simp [entsK]
 |x::m,e,i,k+1=>by
  simp only [zF,entsK,entsK_set m e (i+1) k]
  rw [Nat.add_assoc,Nat.add_comm 1 k]
def MapK (w:World) (B c:Nat) (m:List EntK):Prop:=w.heap[B]?=some (.map (entsK c m).toArray (c+m.length))
def posK (m:List EntK) (t:Nm):Nat:=m.findIdx (fun e=>decide (e.1=t))
def valK (m:List EntK) (t:Nm):Value:=if h:posK m t<m.length then m[posK m t].2 else .slice none 0 0
def entK (m:List EntK) (t:Nm):List EntK:=if posK m t<m.length then m else m++[(t,.slice none 0 0)]
theorem posK_key {m:List EntK} {t:Nm} (h:posK m t<m.length):m[posK m t].1=t:=by
 have :=List.findIdx_getElem (p:=fun e:EntK=>decide (e.1=t)) (xs:=m) (w:=h)
 exact of_decide_eq_true this
theorem posK_entK (m:List EntK) (t:Nm):posK m t<(entK m t).length∧(entK m t)[posK m t]?=some (t,valK m t):=by
 unfold entK valK
 split
 ·rename_i h
  have e:=posK_key h
  refine ⟨h,?_⟩
  rw [List.getElem?_eq_getElem h]
  exact congrArg some (Prod.ext e rfl)
 ·rename_i h
  have hle:posK m t≤m.length:=List.findIdx_le_length
  have :posK m t=m.length:=by omega
  rw [this]
  simp
theorem find_now:∀ (m:List EntK) (t:Nm) (k i:Nat),Instr.findNow .string (kV t) (entsK k m) i=some (if h:posK m t<m.length then some (i+posK m t,m[posK m t].2) else none)
 |[],t,k,i=>by simp [entsK,Instr.findNow,posK]
 |e::m,t,k,i=>by
  have ih:=find_now m t (k+1) (i+1)
  have hs:Instr.sameNow .string (kV t) (kV e.1)=some (decide (t=e.1)):=by simp only [Instr.sameNow,kV,str_eq]
  rw [entsK,Instr.findNow]
  simp only [hs]
  by_cases he:t=e.1
  ·have hp:posK (e::m) t=0:=by unfold posK;rw [List.findIdx_cons];simp [he]
   simp only [hp]
   simp [he]
  ·have he':¬ e.1=t:=fun h=>he h.symm
   have hp:posK (e::m) t=posK m t+1:=by unfold posK;rw [List.findIdx_cons];simp [he']
   simp only [he,decide_false,ih]
   by_cases h:posK m t<m.length
   ·have h':posK (e::m) t<(e::m).length:=by rw [hp];simpa using h
    rw [dif_pos h,dif_pos h']
    simp only [hp,zC]
    rw [Nat.add_assoc,Nat.add_comm 1]
   ·have h':¬ posK (e::m) t<(e::m).length:=by rw [hp];simpa using h
    rw [dif_neg h,dif_neg h']
theorem run_find_ks (m:List EntK) (t:Nm) (w:World) (k:Nat):(Instr.findKey 9 (kV t) (entsK k m)).run Tryz.prog w= .ok (if h:posK m t<m.length then some (posK m t,m[posK m t].2) else none) w:=by
 have h:=find_now m t k 0
 simp only [Nat.zero_add] at h
 simp only [Instr.findKey,Sem.run_bind,run_underlying Tryz.underlying9,Result.andThen,h]
 simp [Sem.run_pure]
theorem run_lookup_ks {w:World} {B c:Nat} {m:List EntK} (h:MapK w B c m) (t:Nm):(Instr.lookup 142 (.map (some B)) (kV t) false).run Tryz.prog w= .ok (valK m t) w:=by
 unfold MapK at h
 have hf:=run_find_ks m t w c
 unfold valK
 by_cases hp:posK m t<m.length
 ·rw [dif_pos hp] at hf ⊢
  simp [Instr.lookup,run_underlying Tryz.underlying142,MapKept.run_getObj_map h,run_check_ks,hf,Result.andThen]
 ·rw [dif_neg hp] at hf ⊢
  simp [Instr.lookup,run_underlying Tryz.underlying142,MapKept.run_getObj_map h,run_check_ks,hf,Result.andThen,Tryz.zeroValue58]
theorem run_update_ks {w:World} {B c:Nat} {m:List EntK} (h:MapK w B c m) (t:Nm) (v:Value):∃ w',(Instr.mapUpdate 142 (.map (some B)) (kV t) v).run Tryz.prog w= .ok () w'∧MapK w' B c ((entK m t).set (posK m t) (t,v))∧w.grownBy w' (some B):=by
 unfold MapK at h
 have hf:=run_find_ks m t w c
 unfold entK
 by_cases hp:posK m t<m.length
 ·rw [dif_pos hp] at hf
  rw [if_pos hp]
  have hk:=posK_key hp
  have he:=entsK_at (i:=c) hp
  rw [hk] at he
  have hmod:(entsK c m).modify (posK m t) (fun e=>{e with key:=kV t,val:=v})=entsK c (m.set (posK m t) (t,v)):=by
   rw [entsK_set]
   apply List.ext_getElem?
   intro j
   rw [List.getElem?_modify,List.getElem?_set]
   by_cases hj:posK m t=j
   ·subst hj
    have hkl:posK m t<(entsK c m).length:=by rw [entsK_length];exact hp
    rw [he,if_pos rfl,if_pos hkl]
    simp
   ·simp [hj]
  refine ⟨setBlock w B (.map (entsK c (m.set (posK m t) (t,v))).toArray (c+(m.set (posK m t) (t,v)).length)),?_,ChangeMaps.heap_setBlock_same h _,?_⟩
  ·rw [← hmod]
   simp [Instr.mapUpdate,run_underlying Tryz.underlying142,MapKept.run_getObj_map h,run_check_ks,hf,Result.andThen,he,run_stays_ks,MapKept.run_setObj_map _ h,setBlock]
  ·exact ⟨rfl,rfl,rfl,by simp [setBlock],fun k _ hk=>ChangeMaps.heap_setBlock_other h _ (fun e=>hk (by rw [e]))⟩
 ·rw [dif_neg hp] at hf
  rw [if_neg hp]
  have hle:posK m t≤m.length:=List.findIdx_le_length
  have hpe:posK m t=m.length:=by omega
  have hset:(m++[(t,Value.slice none 0 0)]).set (posK m t) (t,v)=m++[(t,v)]:=by
   rw [hpe]
   simp
  have hpush:(entsK c m).toArray.push {key:=kV t,val:=v,born:=c+m.length}=(entsK c (m++[(t,v)])).toArray:=by
   rw [entsK_append,List.push_toArray]
  rw [hset]
  refine ⟨setBlock w B (.map (entsK c (m++[(t,v)])).toArray (c+(m++[(t,v)]).length)),?_,ChangeMaps.heap_setBlock_same h _,?_⟩
  ·rw [← hpush]
   simp [Instr.mapUpdate,run_underlying Tryz.underlying142,MapKept.run_getObj_map h,run_check_ks,hf,Result.andThen,MapKept.run_setObj_map _ h,setBlock,Nat.add_assoc]
  ·exact ⟨rfl,rfl,rfl,by simp [setBlock],fun k _ hk=>ChangeMaps.heap_setBlock_other h _ (fun e=>hk (by rw [e]))⟩
section
variable {ops:Array Oper} {rest:List Oper} {o:Oper} {a:Act} {Q:Exit→Act→World→Prop}
theorem wpList_lookup_ks (w:World) (hg:o.guard=none) (x y:Operand) (hop:o.op=Op.lookup 142 x y false) (B c:Nat) (m:List EntK) (t:Nm) (hx:a.eval x= .map (some B)) (hat:MapK w B c m) (hy:a.eval y=kV t)
  (hK:wpList Tryz.prog ops Q rest (a.put o.dst (valK m t)) w):wpList Tryz.prog ops Q (o::rest) a w:=by
 refine wpList_plain hg fun K' hK'=> ?_
 unfold Oper.wp
 simp [execOp,hop,hx,hy,run_lookup_ks hat,Result.andThen]
 exact hK' _ _ hK
end
end Go.Proofs.YtmoomnpbiifedaaGreat
namespace Go.Proofs.YtmoomnpbiifedaaGreat
open Go Go.RowKit
set_option linter.unusedVariables false
def OwnTm (base:Nat) (w:World) (v:Value) (l:List Tm):Prop:=w.ownsRow base 39 2 v l.length (flds l)
def OwnFd (base:Nat) (w:World) (v:Value) (l:List Fd):Prop:=w.ownsRow base 99 2 v l.length (flds l)
theorem OwnTm.below {base:Nat} {w w':World} {v:Value} {l:List Tm} (h:OwnTm base w v l) (hb:Below w.heap.size w w'):OwnTm base w' v l:=owned_below h hb
theorem OwnTm.low {base b:Nat} {w:World} {v:Value} {l:List Tm} (h:OwnTm base w v l) (hb:b≤base):OwnTm b w v l:=owned_low h hb
theorem OwnTm.row {base:Nat} {w:World} {v:Value} {l:List Tm} (h:OwnTm base w v l):∃ A c,v= .slice A l.length c∧l.length≤c∧FRow w w.heap.size A l:=owned_row h
theorem OwnTm.nil {base:Nat} {w:World}:OwnTm base w (.slice none 0 0) []:=World.ownsRow_nil _ _ _ _
theorem OwnFd.below {base:Nat} {w w':World} {v:Value} {l:List Fd} (h:OwnFd base w v l) (hb:Below w.heap.size w w'):OwnFd base w' v l:=owned_below h hb
theorem OwnFd.low {base b:Nat} {w:World} {v:Value} {l:List Fd} (h:OwnFd base w v l) (hb:b≤base):OwnFd b w v l:=owned_low h hb
theorem OwnFd.row {base:Nat} {w:World} {v:Value} {l:List Fd} (h:OwnFd base w v l):∃ A c,v= .slice A l.length c∧l.length≤c∧FRow w w.heap.size A l:=owned_row h
theorem OwnFd.nil {base:Nat} {w:World}:OwnFd base w (.slice none 0 0) []:=World.ownsRow_nil _ _ _ _
theorem FRow.cut {w:World} {B:Nat} {A:Option Addr} {l:List Fd} (h:FRow w B A l) (k:Nat):FRow w B A (l.take k):=by
 have :=Row.cut h (k*2)
 rwa [← flds_take] at this
theorem flds_drop:∀ (l:List Fd) (k:Nat),flds (l.drop k)=(flds l).drop (k*2)
 |l,0=>by simp
 |[],k+1=>by simp [flds]
 |f::l,k+1=>by rw [show (k+1)*2=k*2+1+1 by omega];simp [flds,flds_drop l k]
theorem FRow.dropped {w:World} {B b off:Nat} {l:List Fd} (h:FRow w B (some ⟨b,off,none⟩) l) (k:Nat):FRow w B (some ⟨b,off+k*2,none⟩) (l.drop k):=by
 unfold FRow at h ⊢
 rw [flds_drop]
 rcases h with h|⟨b',o',e,hb,hc⟩
 ·exact .inl (by rw [h];simp)
 ·injection e with e
  injection e with e1 e2
  subst e1 e2
  refine .inr ⟨b,off+k*2,rfl,hb,fun j u hu=> ?_⟩
  rw [List.getElem?_drop] at hu
  have :=hc (k*2+j) u hu
  rwa [← Nat.add_assoc] at this
theorem frow_new (w:World) (x:Fd) (t:TypeId):FRow (w.alloc (.cells #[.string ⟨x.1.toArray⟩,.string ⟨x.2.toArray⟩] t)) (w.alloc (.cells #[.string ⟨x.1.toArray⟩,.string ⟨x.2.toArray⟩] t)).heap.size (some ⟨w.heap.size,0,none⟩) [x]:=by
 refine .inr ⟨w.heap.size,0,rfl,by simp,fun j u hu=> ?_⟩
 have :=news_at w (flds [x]) t j u hu
 rw [Addr.add_lit] at this
 exact this
theorem info_term:(Tryz.prog.info? 39).map (fun i=>(i.zero,i.size,i.bytes))=some (some (.agg #[.string ByteArray.empty,.string ByteArray.empty]),2,32):=by kernel_rfl
theorem wpList_append_tm {ops:Array Oper} {rest:List Oper} {o:Oper} {a:Act} {Q:Exit→Act→World→Prop} (w:World) (hgd:o.guard=none) (s x:Operand)
  (ho:o.op= .call {callee:= .builtin .append,args:=#[s,x],argTypes:=#[136,136]})
  (base:Nat) (v:Value) (l:List Tm) (hs:a.eval s=v) (hown:OwnTm base w v l) (A:Option Addr) (m c:Nat) (news:List Tm) (hx:a.eval x= .slice A m c) (hl:news.length=m) (hr:FRow w w.heap.size A news)
  (hlen:l.length+m≤1073741824) (hbase:base≤w.heap.size)
  (h:∀ v' w',OwnTm base w' v' (l++news)→Below base w w'→wpList Tryz.prog ops Q rest (a.put o.dst v') w'):wpList Tryz.prog ops Q (o::rest) a w:=by
 obtain ⟨i0,hi0,hz0,hz1,hz2⟩:=info_parts info_term
 refine wpList_append_row w hgd s x 136 ho base 39 i0 _ 2 32 Tryz.underlying136 hi0 hz0 hz1 hz2 rfl (by decide) v l.length (flds l) hs hown w.heap.size A m c (flds news) hx (by rw [flds_length,hl]) hr (flds_oneCell _) (by unfold maxLen;omega) (by omega) hbase fun v' w' h1 h2=>h v' w' ?_ ?_
 ·unfold OwnTm
  rw [List.length_append,hl,flds_append]
  exact h1
 ·exact (Below.refl base w).grown h2 hbase fun k hk=>(hown.lt k hk).1
theorem wpList_append_fd {ops:Array Oper} {rest:List Oper} {o:Oper} {a:Act} {Q:Exit→Act→World→Prop} (w:World) (hgd:o.guard=none) (s x:Operand)
  (ho:o.op= .call {callee:= .builtin .append,args:=#[s,x],argTypes:=#[51,51]})
  (base:Nat) (v:Value) (l:List Fd) (hs:a.eval s=v) (hown:OwnFd base w v l) (A:Option Addr) (m c:Nat) (news:List Fd) (hx:a.eval x= .slice A m c) (hl:news.length=m) (hr:FRow w w.heap.size A news)
  (hlen:l.length+m≤1073741824) (hbase:base≤w.heap.size)
  (h:∀ v' w',OwnFd base w' v' (l++news)→Below base w w'→w.grownBy w' v.ownBlock→wpList Tryz.prog ops Q rest (a.put o.dst v') w'):wpList Tryz.prog ops Q (o::rest) a w:=by
 obtain ⟨i0,hi0,hz0,hz1,hz2⟩:=info_parts info_field
 refine wpList_append_row w hgd s x 51 ho base 99 i0 _ 2 32 Tryz.underlying51 hi0 hz0 hz1 hz2 rfl (by decide) v l.length (flds l) hs hown w.heap.size A m c (flds news) hx (by rw [flds_length,hl]) hr (flds_oneCell _) (by unfold maxLen;omega) (by omega) hbase fun v' w' h1 h2=>h v' w' ?_ ?_ h2
 ·unfold OwnFd
  rw [List.length_append,hl,flds_append]
  exact h1
 ·exact (Below.refl base w).grown h2 hbase fun k hk=>(hown.lt k hk).1
end Go.Proofs.YtmoomnpbiifedaaGreat
set_option linter.unusedVariables false
namespace Go.Proofs.YtmoomnpbiifedaaGreat
open Go Go.RowKit
structure OnlyIn (S:Nat→Prop) (w w':World):Prop where
 os:w'.os=w.os
 tape:w'.tape=w.tape
 output:w'.output=w.output
 size:w.heap.size≤w'.heap.size
 block:∀ k,k<w.heap.size→¬ S k→w'.heap[k]?=w.heap[k]?
theorem OnlyIn.of_below {S:Nat→Prop} {w w':World} (h:Below w.heap.size w w'):OnlyIn S w w':=⟨h.os,h.tape,h.output,h.size,fun k hk _=>h.block k hk⟩
theorem OnlyIn.trans {S:Nat→Prop} {w w' w'':World} (h:OnlyIn S w w') (k:OnlyIn S w' w''):OnlyIn S w w'':=
 ⟨k.os.trans h.os,k.tape.trans h.tape,k.output.trans h.output,Nat.le_trans h.size k.size,fun i hi hne=>(k.block i (Nat.lt_of_lt_of_le hi h.size) hne).trans (h.block i hi hne)⟩
theorem OnlyIn.below {S:Nat→Prop} {base:Nat} {w w':World} (h:OnlyIn S w w') (hb:∀ k,S k→base≤k) (hw:base≤w.heap.size):Below base w w':=
 ⟨h.os,h.tape,h.output,h.size,fun k hk=>h.block k (by omega) (fun hs=>by have :=hb k hs;omega)⟩
end Go.Proofs.YtmoomnpbiifedaaGreat
set_option linter.unusedVariables false
namespace Go.Proofs.YtmoomnpbiifedaaGreat
open Go Go.RowKit
def RowP (p:Nat→Prop) (w:World) (A:Option Addr) (xs:List Value):Prop:=xs=[]∨∃ b off,A=some ⟨b,off,none⟩∧p b∧∀ j u,xs[j]?=some u→w.cell? ⟨b,off+j,none⟩=some u
section
variable {p q:Nat→Prop} {w w':World} {A:Option Addr} {xs:List Value}
theorem RowP.keep (h:RowP p w A xs) (hb:∀ b,p b→w'.heap[b]?=w.heap[b]?):RowP p w' A xs:=by
 rcases h with h|⟨b,off,e,hp,hc⟩
 ·exact .inl h
 ·refine .inr ⟨b,off,e,hp,fun j u hu=> ?_⟩
  rw [World.cell?_of_block (a:=⟨b,off+j,none⟩) (hb b hp)]
  exact hc j u hu
theorem RowP.imp (h:RowP p w A xs) (hpq:∀ b,p b→q b):RowP q w A xs:=by
 rcases h with h|⟨b,off,e,hp,hc⟩
 ·exact .inl h
 ·exact .inr ⟨b,off,e,hpq b hp,hc⟩
theorem RowP.row {B:Nat} (h:RowP p w A xs) (hB:∀ b,p b→b<B):Row w B A xs:=h.imp hB
end
structure Shape (α:Type) where
 p:Nat
 r:Nat
 pre:α→List Value
 mid:α→List Fd
 post:α→List Value
 hp:∀ q,(pre q).length=p
 hr:∀ q,(post q).length=r
def Shape.size {α:Type} (s:Shape α):Nat:=s.p+1+s.r
section
variable {α:Type} {s:Shape α} {R R':Option Addr→List Value→Prop}
def NestC (s:Shape α) (R:Option Addr→List Value→Prop):List α→List Value→Prop
 |[],cs=>cs=[]
 |q::l,cs=>∃ A c cs',cs=s.pre q++(.slice A (s.mid q).length c::(s.post q++cs'))∧(s.mid q).length≤c∧c≤maxLen∧R A (flds (s.mid q))∧NestC s R l cs'
theorem NestC.imp:∀ {l:List α} {cs:List Value},NestC s R l cs→(∀ A xs,R A xs→R' A xs)→NestC s R' l cs
 |[],cs,h,_=>h
 |q::l,cs,h,hi=>by
  obtain ⟨A,c,cs',rfl,h1,h2,h3,h'⟩:=h
  exact ⟨A,c,cs',rfl,h1,h2,hi _ _ h3,NestC.imp h' hi⟩
theorem nest_skip {q:α} {A:Option Addr} {c:Nat} {cs':List Value} {k:Nat} (i:Nat):(s.pre q++(.slice A (s.mid q).length c::(s.post q++cs')))[(k+1)*s.size+i]?=cs'[k*s.size+i]?:=by
 have hp:=s.hp q
 have hr:=s.hr q
 have e:(k+1)*s.size+i=s.p+(1+(s.r+(k*s.size+i))):=by rw [Nat.add_mul,Nat.one_mul];unfold Shape.size;omega
 rw [e,List.getElem?_append_right (by omega),hp,Nat.add_sub_cancel_left,Nat.add_comm 1,List.getElem?_cons_succ,List.getElem?_append_right (by omega),hr,Nat.add_sub_cancel_left]
theorem NestC.at_:∀ {l:List α} {cs:List Value} {k:Nat},NestC s R l cs→(hk:k<l.length)→
  ∃ A c,cs[k*s.size+s.p]?=some (.slice A (s.mid l[k]).length c)∧(s.mid l[k]).length≤c∧c≤maxLen∧R A (flds (s.mid l[k]))∧
   (∀ i u,(s.pre l[k])[i]?=some u→cs[k*s.size+i]?=some u)∧(∀ i u,(s.post l[k])[i]?=some u→cs[k*s.size+s.p+1+i]?=some u)
 |[],_,k,_,h=>by simp at h
 |q::l,cs,0,h,_=>by
  obtain ⟨A,c,cs',rfl,h1,h2,h3,h'⟩:=h
  have hp:=s.hp q
  refine ⟨A,c,?_,h1,h2,h3,fun i u hu=> ?_,fun i u hu=> ?_⟩
  ·rw [List.getElem?_append_right (by omega)]
   simp [hp]
  ·have :i<(s.pre q).length:=by
    rcases Nat.lt_or_ge i (s.pre q).length with h|h
    ·exact h
    ·simp only [zB] at hu
     rw [List.getElem?_eq_none h] at hu;cases hu
   rw [Nat.zero_mul,Nat.zero_add,List.getElem?_append_left this]
   exact hu
  ·have :i<(s.post q).length:=by
    rcases Nat.lt_or_ge i (s.post q).length with h|h
    ·exact h
    ·simp only [zB] at hu
     rw [List.getElem?_eq_none h] at hu;cases hu
   rw [List.getElem?_append_right (by omega),show 0*s.size+s.p+1+i-(s.pre q).length=i+1 by omega,List.getElem?_cons_succ,List.getElem?_append_left this]
   exact hu
 |q::l,cs,k+1,h,hk=>by
  obtain ⟨A,c,cs',rfl,h1,h2,h3,h'⟩:=h
  have hp:=s.hp q
  have hr:=s.hr q
  have skip:=nest_skip (s:=s) (q:=q) (A:=A) (c:=c) (cs':=cs') (k:=k)
  obtain ⟨A',c',g1,g2,g3,g4,g5,g6⟩:=NestC.at_ (k:=k) h' (by simpa using hk)
  refine ⟨A',c',?_,g2,g3,g4,fun i u hu=> ?_,fun i u hu=> ?_⟩
  ·rw [skip];exact g1
  ·rw [skip];exact g5 i u hu
  ·rw [show (k+1)*s.size+s.p+1+i=(k+1)*s.size+(s.p+1+i) by omega,skip,show k*s.size+(s.p+1+i)=k*s.size+s.p+1+i by omega]
   exact g6 i u hu
theorem NestC.snoc:∀ {l:List α} {cs:List Value} {A:Option Addr} {c:Nat} {q:α},NestC s R l cs→(s.mid q).length≤c→c≤maxLen→R A (flds (s.mid q))→NestC s R (l++[q]) (cs++(s.pre q++(.slice A (s.mid q).length c::s.post q)))
 |[],cs,A,c,q,h,h1,h2,h3=>by
  simp only [NestC] at h
  subst h
  exact ⟨A,c,[],by simp,h1,h2,h3,rfl⟩
 |y::l,cs,A,c,q,h,h1,h2,h3=>by
  obtain ⟨A',c',cs',rfl,g1,g2,g3,h'⟩:=h
  exact ⟨A',c',_,by simp,g1,g2,g3,NestC.snoc h' h1 h2 h3⟩
def NestP (s:Shape α) (p:Nat→Prop) (w:World) (A:Option Addr) (l:List α):Prop:=∃ cs,NestC s (RowP p w) l cs∧RowP p w A cs
end
section
variable {α:Type} {s:Shape α} {p q:Nat→Prop} {w w':World} {A:Option Addr} {l:List α}
theorem NestP.nil:NestP s p w A []:=⟨[],rfl,.inl rfl⟩
theorem NestP.keep (h:NestP s p w A l) (hb:∀ b,p b→w'.heap[b]?=w.heap[b]?):NestP s p w' A l:=by
 obtain ⟨cs,h1,h2⟩:=h
 exact ⟨cs,h1.imp fun _ _ h=>h.keep hb,h2.keep hb⟩
theorem NestP.imp (h:NestP s p w A l) (hpq:∀ b,p b→q b):NestP s q w A l:=by
 obtain ⟨cs,h1,h2⟩:=h
 exact ⟨cs,h1.imp fun _ _ h=>h.imp hpq,h2.imp hpq⟩
theorem NestP.at_ (h:NestP s p w A l) {k:Nat} (hk:k<l.length):
  ∃ b off A' c',A=some ⟨b,off,none⟩∧p b∧w.cell? ⟨b,off+k*s.size+s.p,none⟩=some (.slice A' (s.mid l[k]).length c')∧(s.mid l[k]).length≤c'∧c'≤maxLen∧RowP p w A' (flds (s.mid l[k]))∧
   (∀ i u,(s.pre l[k])[i]?=some u→w.cell? ⟨b,off+k*s.size+i,none⟩=some u)∧(∀ i u,(s.post l[k])[i]?=some u→w.cell? ⟨b,off+k*s.size+s.p+1+i,none⟩=some u):=by
 obtain ⟨cs,h1,h2⟩:=h
 obtain ⟨A',c',g1,g2,g3,g4,g5,g6⟩:=h1.at_ hk
 rcases h2 with rfl|⟨b,off,rfl,hb,hc⟩
 ·simp at g1
 ·refine ⟨b,off,A',c',rfl,hb,by have :=hc _ _ g1;rwa [← Nat.add_assoc] at this,g2,g3,g4,fun i u hu=> ?_,fun i u hu=> ?_⟩
  ·have :=hc _ _ (g5 i u hu);rwa [← Nat.add_assoc] at this
  ·have :=hc _ _ (g6 i u hu)
   rwa [show off+(k*s.size+s.p+1+i)=off+k*s.size+s.p+1+i by omega] at this
abbrev Nest (s:Shape α) (w:World) (B:Nat) (A:Option Addr) (l:List α):Prop:=NestP s (fun b=>b<B) w A l
theorem Nest.below {B:Nat} (h:Nest s w B A l) (hb:Below B w w'):Nest s w' B A l:=h.keep fun b hb'=>hb.block b hb'
theorem Nest.more {B B':Nat} (h:Nest s w B A l) (hB:B≤B'):Nest s w B' A l:=h.imp fun b hb=>Nat.lt_of_lt_of_le hb hB
theorem Nest.later (h:Nest s w w.heap.size A l) (hb:Below w.heap.size w w'):Nest s w' w'.heap.size A l:=Nest.more (Nest.below h hb) hb.size
end
def docS:Shape Dc:=⟨1,0,fun q=>[.int .i64 q.1],fun q=>q.2,fun _=>[],fun _=>rfl,fun _=>rfl⟩
def enS:Shape En:=⟨1,1,fun q=>[.int .i64 q.1],fun q=>q.2.1,fun q=>[.int .i64 q.2.2],fun _=>rfl,fun _=>rfl⟩
theorem enS_at {p:Nat→Prop} {w:World} {A:Option Addr} {l:List En} (h:NestP enS p w A l) {k:Nat} (hk:k<l.length):
  ∃ b off A' c',A=some ⟨b,off,none⟩∧p b∧w.cell? ⟨b,off+k*3,none⟩=some (.int .i64 l[k].1)∧w.cell? ⟨b,off+k*3+1,none⟩=some (.slice A' l[k].2.1.length c')∧w.cell? ⟨b,off+k*3+2,none⟩=some (.int .i64 l[k].2.2)∧
   l[k].2.1.length≤c'∧c'≤maxLen∧RowP p w A' (flds l[k].2.1):=by
 obtain ⟨b,off,A',c',e,hb,g1,g2,g3,g4,g5,g6⟩:=h.at_ hk
 exact ⟨b,off,A',c',e,hb,g5 0 _ rfl,g1,g6 0 _ rfl,g2,g3,g4⟩
theorem docS_at {p:Nat→Prop} {w:World} {A:Option Addr} {l:List Dc} (h:NestP docS p w A l) {k:Nat} (hk:k<l.length):
  ∃ b off A' c',A=some ⟨b,off,none⟩∧p b∧w.cell? ⟨b,off+k*2,none⟩=some (.int .i64 l[k].1)∧w.cell? ⟨b,off+k*2+1,none⟩=some (.slice A' l[k].2.length c')∧l[k].2.length≤c'∧c'≤maxLen∧RowP p w A' (flds l[k].2):=by
 obtain ⟨b,off,A',c',e,hb,g1,g2,g3,g4,g5,_⟩:=h.at_ hk
 exact ⟨b,off,A',c',e,hb,g5 0 _ rfl,g1,g2,g3,g4⟩
section
variable {base:Nat} {w w':World} {v v':Value} {l:List En}
end
theorem info_entry:(Tryz.prog.info? 55).map (fun i=>(i.zero,i.size,i.bytes))=some (some (.agg #[.int .i64 0,.slice none 0 0,.int .i64 0]),3,40):=by kernel_rfl
end Go.Proofs.YtmoomnpbiifedaaGreat
set_option linter.unusedVariables false
namespace Go.Proofs.YtmoomnpbiifedaaGreat
open Go Go.RowKit
def Of (S:Nat→Prop) (t:TypeId) (w:World) (k:Nat):Prop:=S k∧∃ cs fr,w.heap[k]?=some (.cells cs t fr)∧fr=(0,0)
theorem Of.lt {S:Nat→Prop} {t:TypeId} {w:World} {k:Nat} (h:Of S t w k):k<w.heap.size:=by obtain ⟨_,cs,fr,h,_⟩:=h;exact (Array.getElem?_eq_some_iff.1 h).1
theorem Of.keep {S:Nat→Prop} {t:TypeId} {w w':World} {k:Nat} (h:Of S t w k) (hk:w'.heap[k]?=w.heap[k]?):Of S t w' k:=by obtain ⟨h1,cs,fr,h,h0⟩:=h;exact ⟨h1,cs,fr,hk.trans h,h0⟩
theorem Of.imp {S T:Nat→Prop} {t:TypeId} {w:World} {k:Nat} (h:Of S t w k) (hs:S k→T k):Of T t w k:=⟨hs h.1,h.2⟩
theorem RowP.keepO {S:Nat→Prop} {t:TypeId} {w w':World} {A:Option Addr} {xs:List Value} (h:RowP (Of S t w) w A xs) (hk:∀ k,Of S t w k→w'.heap[k]?=w.heap[k]?):RowP (Of S t w') w' A xs:=(h.keep hk).imp fun k hs=>hs.keep (hk k hs)
theorem owned_type9 {w:World} {base:Nat} {e:TypeId} {size:Nat} {v:Value} {n:Nat} {xs:List Value} (h:w.ownsRow base e size v n xs) {k:Nat} (hk:v.ownBlock=some k):∃ cs fr,w.heap[k]?=some (.cells cs e fr):=by
 rcases h.2 with ⟨rfl,_⟩|⟨g,cap,cur,rfl,_,hh,_⟩
 ·cases hk
 ·simp only [Value.ownBlock,Option.some.injEq] at hk
  subst hk
  exact ⟨_,_,hh⟩
theorem owned_type0 {w:World} {base:Nat} {e:TypeId} {size:Nat} {v:Value} {n:Nat} {xs:List Value} (h:w.ownsRow base e size v n xs) {k:Nat} (hk:v.ownBlock=some k):∃ cs,w.heap[k]?=some (.cells cs e (0,0)):=by
 rcases h.2 with ⟨rfl,_⟩|⟨g,cap,cur,rfl,_,hh,_⟩
 ·cases hk
 ·simp only [Value.ownBlock,Option.some.injEq] at hk
  subst hk
  exact ⟨_,hh⟩
def OwnPP (S:Nat→Prop) (w:World) (v:Value) (l:List Pn):Prop:=∃ cs,w.ownsRow 0 63 2 v l.length cs∧(∀ k,v.ownBlock=some k→S k)∧PoCells (RowP (Of S 3 w) w) l cs
theorem OwnPP.nil {S:Nat→Prop} {w:World}:OwnPP S w (.slice none 0 0) []:=⟨[],World.ownsRow_nil _ _ _ _,(fun k hk=>by cases hk),rfl⟩
theorem OwnPP.keep {S:Nat→Prop} {w w':World} {v:Value} {l:List Pn} (h:OwnPP S w v l) (hv:∀ k,v.ownBlock=some k→w'.heap[k]?=w.heap[k]?) (hk:∀ k,Of S 3 w k→w'.heap[k]?=w.heap[k]?):OwnPP S w' v l:=by
 obtain ⟨cs,h1,h2,h3⟩:=h
 exact ⟨cs,owned_keep h1 hv,h2,h3.imp fun _ _ h=>h.keepO hk⟩
theorem OwnPP.imp {S T:Nat→Prop} {w:World} {v:Value} {l:List Pn} (h:OwnPP S w v l) (hs:∀ k,S k→T k):OwnPP T w v l:=by
 obtain ⟨cs,h1,h2,h3⟩:=h
 exact ⟨cs,h1,fun k hk=>hs k (h2 k hk),h3.imp fun _ _ h=>h.imp fun k hk=>hk.imp (hs k)⟩
theorem OwnPP.push {S:Nat→Prop} {w w':World} {v v':Value} {l:List Pn} {cs:List Value} (h1:w.ownsRow 0 63 2 v l.length cs) (h3:PoCells (RowP (Of S 3 w) w) l cs) {A:Option Addr} {c:Nat} {d:Int} {ps:List Int} (hc:ps.length≤c) (hcx:c≤maxLen) (hr:RowP (Of S 3 w) w A (ints ps))
  (hown:w'.ownsRow 0 63 2 v' (l.length+1) (cs++[.int .i64 d,.slice A ps.length c])) (hg:w.grownBy w' v.ownBlock) (hS:∀ k,v'.ownBlock=some k→S k):OwnPP S w' v' (l++[(d,ps)]):=by
 have hk:∀ k,Of S 3 w k→w'.heap[k]?=w.heap[k]?:=fun k hk=>hg.block k hk.lt fun e=>by
  obtain ⟨_,cs',fr,hh,_⟩:=hk
  exact owned_apart h1 hh (by decide) e.symm
 refine ⟨_,?_,hS,(h3.imp fun _ _ h=>h.keepO hk).snoc hc hcx (hr.keepO hk)⟩
 rw [List.length_append,List.length_singleton]
 exact hown
def PmAt (S:Nat→Prop) (w:World) (M c:Nat) (g:List GP):Prop:=∃ m:List EntK,MapK w M c m∧S M∧m.length=g.length∧
 (∀ (i:Nat) (e:EntK) (p:GP),m[i]?=some e→g[i]?=some p→e.1=p.1∧OwnPP S w e.2 p.2)∧
 ∀ (i j:Nat) (e f:EntK) (k:Nat),i≠j→m[i]?=some e→m[j]?=some f→e.2.ownBlock=some k→f.2.ownBlock≠some k
def MapB (S:Nat→Prop) (w:World) (M k:Nat):Prop:=k=M∨Of S 63 w k
theorem OwnPP.not_map {S:Nat→Prop} {w:World} {v:Value} {l:List Pn} (h:OwnPP S w v l) {B:Nat} {es:Array MapEntry} {c:Nat} (hB:w.heap[B]?=some (.map es c)):v.ownBlock≠some B:=by
 intro he
 obtain ⟨cs,h1,_⟩:=h
 obtain ⟨cs',fr,hh⟩:=owned_type9 h1 he
 rw [hh] at hB
 cases hB
theorem PmAt.lt {S:Nat→Prop} {w:World} {M c:Nat} {g:List GP} (h:PmAt S w M c g):M<w.heap.size:=by obtain ⟨m,h1,_⟩:=h;exact (Array.getElem?_eq_some_iff.1 h1).1
theorem PmAt.map {S:Nat→Prop} {w:World} {M c:Nat} {g:List GP} (h:PmAt S w M c g):∃ es c',w.heap[M]?=some (.map es c'):=by obtain ⟨m,h1,_⟩:=h;exact ⟨_,_,h1⟩
theorem PmAt.keep {S:Nat→Prop} {w w':World} {M c:Nat} {g:List GP} (h:PmAt S w M c g) (hk:∀ k,S k→k<w.heap.size→w'.heap[k]?=w.heap[k]?):PmAt S w' M c g:=by
 have hlt:=h.lt
 obtain ⟨m,h1,h2,h3,h4,h5⟩:=h
 refine ⟨m,(hk M h2 hlt).trans h1,h2,h3,fun i e p he hp=> ?_,h5⟩
 obtain ⟨r1,r2⟩:=h4 i e p he hp
 refine ⟨r1,r2.keep (fun k hv=> ?_) fun k hs=>hk k hs.1 hs.lt⟩
 obtain ⟨cs,q1,q2,_⟩:=r2
 exact hk k (q2 k hv) (q1.lt k hv).2
theorem PmAt.imp {S T:Nat→Prop} {w:World} {M c:Nat} {g:List GP} (h:PmAt S w M c g) (hs:∀ k,S k→T k):PmAt T w M c g:=by
 obtain ⟨m,h1,h2,h3,h4,h5⟩:=h
 exact ⟨m,h1,hs M h2,h3,fun i e p he hp=>⟨(h4 i e p he hp).1,(h4 i e p he hp).2.imp hs⟩,h5⟩
theorem posK_getP {S:Nat→Prop} {w:World}:∀ {m:List EntK} {g:List GP} (t:Nm),m.length=g.length→(∀ (i:Nat) (e:EntK) (p:GP),m[i]?=some e→g[i]?=some p→e.1=p.1∧OwnPP S w e.2 p.2)→OwnPP S w (valK m t) (getP g t)
 |[],g,t,hl,h=>by
  cases g with
  |nil=>exact OwnPP.nil
  |cons p g=>cases hl
 |e::m,g,t,hl,h=>by
  cases g with
  |nil=>cases hl
  |cons p g=>
   obtain ⟨h1,h2⟩:=h 0 e p rfl rfl
   have ih:=posK_getP (m:=m) (g:=g) t (by simpa using hl) fun i e' p' he hp=>h (i+1) e' p' (by simpa using he) (by simpa using hp)
   rw [getP]
   by_cases ht:e.1=t
   ·have hp:posK (e::m) t=0:=by unfold posK;rw [List.findIdx_cons];simp [ht]
    have hv:valK (e::m) t=e.2:=by unfold valK;simp [hp]
    rw [if_pos (by rw [← h1];exact ht),hv]
    exact h2
   ·have hp:posK (e::m) t=posK m t+1:=by unfold posK;rw [List.findIdx_cons];simp [ht]
    have hv:valK (e::m) t=valK m t:=by unfold valK;simp [hp]
    rw [if_neg (by rw [← h1];exact ht),hv]
    exact ih
theorem PmAt.look {S:Nat→Prop} {w:World} {M c:Nat} {g:List GP} (h:PmAt S w M c g) (t:Nm):∃ v,(∃ m,MapK w M c m∧valK m t=v)∧OwnPP S w v (getP g t):=by
 obtain ⟨m,h1,h2,h3,h4,h5⟩:=h
 exact ⟨_,⟨m,h1,rfl⟩,posK_getP t h3 h4⟩
theorem PmAt.keys {S:Nat→Prop} {w:World} {M c:Nat} {g:List GP} (h:PmAt S w M c g):∃ m,MapK w M c m∧m.map (·.1)=g.map (·.1)∧m.length=g.length:=by
 obtain ⟨m,h1,_,h3,h4,_⟩:=h
 refine ⟨m,h1,List.ext_getElem (by simp [h3]) fun i hi hj=> ?_,h3⟩
 have hi':i<m.length:=by simpa using hi
 have hj':i<g.length:=by simpa using hj
 simpa using (h4 i _ _ (List.getElem?_eq_getElem hi') (List.getElem?_eq_getElem hj')).1
theorem addP_at:∀ {m:List EntK} {g:List GP} {t:Nm} {a:Pn},m.length=g.length→(∀ (i:Nat) (e:EntK) (p:GP),m[i]?=some e→g[i]?=some p→e.1=p.1)→
  (addP g t a).length=(entK m t).length∧(addP g t a)[posK m t]?=some (t,getP g t++[a])∧∀ i p,i≠posK m t→(addP g t a)[i]?=some p→g[i]?=some p
 |[],g,t,a,hl,h=>by
  cases g with
  |nil=>refine ⟨by simp [addP,entK,posK],by simp [addP,posK,getP],fun i p hi hp=> ?_⟩;cases i with|zero=>simp [posK] at hi|succ i=>simp [addP] at hp
  |cons p g=>cases hl
 |e::m,g,t,a,hl,h=>by
  cases g with
  |nil=>cases hl
  |cons p g=>
   have h1:=h 0 e p rfl rfl
   obtain ⟨i1,i2,i3⟩:=addP_at (m:=m) (g:=g) (t:=t) (a:=a) (by simpa using hl) fun i e' p' he hp=>h (i+1) e' p' (by simpa using he) (by simpa using hp)
   have hl':m.length=g.length:=by simpa using hl
   rw [addP]
   by_cases ht:e.1=t
   ·have hp:posK (e::m) t=0:=by unfold posK;rw [List.findIdx_cons];simp [ht]
    have ht':p.1=t:=by rw [← h1];exact ht
    rw [if_pos ht',hp]
    refine ⟨by simp [entK,hp,hl'],by simp [getP,ht'],fun i q hi hq=> ?_⟩
    cases i with
    |zero=>exact absurd rfl hi
    |succ i=>simpa using hq
   ·have hp:posK (e::m) t=posK m t+1:=by unfold posK;rw [List.findIdx_cons];simp [ht]
    have ht':¬ p.1=t:=by rw [← h1];exact ht
    have he:(entK (e::m) t).length=(entK m t).length+1:=by
     unfold entK
     rw [hp]
     by_cases hq:posK m t<m.length
     ·rw [if_pos hq,if_pos (by simpa using hq)];rfl
     ·rw [if_neg hq,if_neg (by simpa using hq)];simp
    rw [if_neg ht',hp]
    refine ⟨by rw [he,List.length_cons,i1],by rw [List.getElem?_cons_succ,i2,getP,if_neg ht'],fun i q hi hq=> ?_⟩
    cases i with
    |zero=>simpa using hq
    |succ i=>simpa using i3 i q (by omega) (by simpa using hq)
theorem PmAt.added {S T:Nat→Prop} {w w3:World} {M c:Nat} {g:List GP} {m:List EntK} {t:Nm} {a:Pn} {v':Value}
  (h1:MapK w M c m) (h2:S M) (h3:m.length=g.length) (h4:∀ (i:Nat) (e:EntK) (p:GP),m[i]?=some e→g[i]?=some p→e.1=p.1∧OwnPP S w e.2 p.2)
  (h5:∀ (i j:Nat) (e f:EntK) (k:Nat),i≠j→m[i]?=some e→m[j]?=some f→e.2.ownBlock=some k→f.2.ownBlock≠some k)
  (hST:∀ k,S k→T k) (hk:∀ (k:Nat),k<w.heap.size→k≠M→(valK m t).ownBlock≠some k→w3.heap[k]?=w.heap[k]?)
  (hm2:MapK w3 M c ((entK m t).set (posK m t) (t,v'))) (ho:OwnPP T w3 v' (getP g t++[a])) (hn:v'.ownBlock=(valK m t).ownBlock∨∀ k,v'.ownBlock=some k→w.heap.size≤k):PmAt T w3 M c (addP g t a):=by
 obtain ⟨p1,p2⟩:=posK_entK m t
 obtain ⟨q1,q2,q3⟩:=addP_at (a:=a) (t:=t) h3 fun i e p he hp=>(h4 i e p he hp).1
 have hB:M<w.heap.size:=(Array.getElem?_eq_some_iff.1 h1).1
 have hent:∀ (i:Nat) (e:EntK),i≠posK m t→(entK m t)[i]?=some e→m[i]?=some e:=fun i e hi he=>by
  unfold entK at he
  split at he
  ·exact he
  ·rename_i hlt
   have hle:posK m t≤m.length:=List.findIdx_le_length
   rw [List.getElem?_append] at he
   split at he
   ·exact he
   ·rename_i h6
    have :i≠m.length:=by omega
    rw [List.getElem?_eq_none (by simp;omega)] at he
    cases he
 have hval:∀ (i:Nat) (e:EntK) (k:Nat),i≠posK m t→m[i]?=some e→e.2.ownBlock=some k→(valK m t).ownBlock≠some k:=fun i e k hi he hk'=>by
  unfold valK
  split
  ·rename_i hlt
   exact h5 i (posK m t) e _ k hi he (List.getElem?_eq_getElem hlt) hk'
  ·intro hh;cases hh
 refine ⟨_,hm2,hST M h2,by rw [List.length_set,q1],fun i e p he hp=> ?_,fun i j e f k hij he hf hk'=> ?_⟩
 ·rw [List.getElem?_set] at he
  by_cases hi:posK m t=i
  ·subst hi
   rw [if_pos rfl,if_pos p1] at he
   rw [q2] at hp
   cases he
   cases hp
   exact ⟨rfl,ho⟩
  ·rw [if_neg hi] at he
   have he':=hent i e (fun h=>hi h.symm) he
   have hp':=q3 i p (fun h=>hi h.symm) hp
   obtain ⟨r1,r2⟩:=h4 i e p he' hp'
   have rv:=hval i e
   have rm:∀ k,e.2.ownBlock=some k→k≠M:=fun k hk' e'=>r2.not_map h1 (by rw [hk',e'])
   refine ⟨r1,OwnPP.imp (r2.keep (fun k hk'=> ?_) fun k hs=> ?_) hST⟩
   ·have hlt:k<w.heap.size:=by obtain ⟨cs,g1,_⟩:=r2;exact (g1.lt k hk').2
    exact hk k hlt (rm k hk') (rv k (fun h=>hi h.symm) he' hk')
   ·obtain ⟨_,cs',fr',hh,_⟩:=hs
    refine hk k (Array.getElem?_eq_some_iff.1 hh).1 (fun e'=> ?_) (fun e'=> ?_)
    ·subst e';rw [h1] at hh;cases hh
    ·obtain ⟨cs2,g1,_⟩:=posK_getP (S:=S) (w:=w) t h3 h4
     exact owned_apart g1 hh (by decide) e'
 ·rw [List.getElem?_set] at he hf
  have hother:∀ (x:Nat) (u:EntK),posK m t≠x→(entK m t)[x]?=some u→∀ k,u.2.ownBlock=some k→v'.ownBlock≠some k:=fun x u hx hu k hk2 hv=>by
   have hu':=hent x u (fun h=>hx h.symm) hu
   rcases hn with hn|hn
   ·rw [hn] at hv
    exact hval x u k (fun h=>hx h.symm) hu' hk2 hv
   ·have hlx:x<g.length:=by rw [← h3];exact (List.getElem?_eq_some_iff.1 hu').1
    obtain ⟨cs2,g1,_⟩:=(h4 x u _ hu' (List.getElem?_eq_getElem hlx)).2
    have :=(g1.lt k hk2).2
    have :=hn k hv
    omega
  by_cases hi:posK m t=i
  ·subst hi
   rw [if_pos rfl,if_pos p1] at he
   cases he
   rw [if_neg hij] at hf
   intro hf2
   exact hother j f hij hf k hf2 hk'
  ·rw [if_neg hi] at he
   by_cases hj:posK m t=j
   ·subst hj
    rw [if_pos rfl,if_pos p1] at hf
    cases hf
    exact hother i e hi he k hk'
   ·rw [if_neg hj] at hf
    exact h5 i j e f k hij (hent i e (fun h=>hi h.symm) he) (hent j f (fun h=>hj h.symm) hf) hk'
end Go.Proofs.YtmoomnpbiifedaaGreat
set_option linter.unusedVariables false
namespace Go.Proofs.YtmoomnpbiifedaaGreat
open Go Go.RowKit
theorem four_cells {w:World} {b:Nat} {x y z u:Value} {t:TypeId} (h:w.heap[b]?=some (.cells #[x,y,z,u] t (0,0))):
  w.cell? ⟨b,0,none⟩=some x∧w.cell? ⟨b,1,none⟩=some y∧w.cell? ⟨b,2,none⟩=some z∧w.cell? ⟨b,3,none⟩=some u∧
   w.frozen? ⟨b,0,none⟩=false∧w.frozen? ⟨b,1,none⟩=false∧w.frozen? ⟨b,2,none⟩=false∧w.frozen? ⟨b,3,none⟩=false:=by
 simp [World.cell?,World.frozen?,h]
def RowF (S:Nat→Prop) (w:World) (A:Option Addr) (xs:List Value):Prop:=RowP (Of S 99 w) w A xs∧(A=none∨∃ b o,A=some ⟨b,o,none⟩)
theorem RowF.keepO {S:Nat→Prop} {w w':World} {A:Option Addr} {xs:List Value} (h:RowF S w A xs) (hk:∀ k,Of S 99 w k→w'.heap[k]?=w.heap[k]?):RowF S w' A xs:=⟨RowP.keepO h.1 hk,h.2⟩
theorem RowF.impS {S T:Nat→Prop} {w:World} {A:Option Addr} {xs:List Value} (h:RowF S w A xs) (hs:∀ k,S k→T k):RowF T w A xs:=⟨RowP.imp h.1 fun k hk=>hk.imp (hs k),h.2⟩
def OwnES (S:Nat→Prop) (w:World) (v:Value) (l:List En):Prop:=∃ cs,w.ownsRow 0 55 3 v l.length cs∧(∀ k,v.ownBlock=some k→S k)∧NestC enS (RowF S w) l cs
section
variable {S T:Nat→Prop} {w w':World} {v v':Value} {l:List En}
theorem OwnES.nil:OwnES S w (.slice none 0 0) []:=⟨[],World.ownsRow_nil _ _ _ _,(fun k hk=>by cases hk),rfl⟩
theorem OwnES.keep (h:OwnES S w v l) (hv:∀ k,v.ownBlock=some k→w'.heap[k]?=w.heap[k]?) (hk:∀ k,Of S 99 w k→w'.heap[k]?=w.heap[k]?):OwnES S w' v l:=by
 obtain ⟨cs,h1,h2,h3⟩:=h
 exact ⟨cs,owned_keep h1 hv,h2,h3.imp fun _ _ h=>h.keepO hk⟩
theorem OwnES.keeps (h:OwnES S w v l) (hk:∀ k,S k→k<w.heap.size→w'.heap[k]?=w.heap[k]?):OwnES S w' v l:=by
 refine h.keep (fun k hv=> ?_) fun k hs=>hk k hs.1 hs.lt
 obtain ⟨cs,q1,q2,_⟩:=h
 exact hk k (q2 k hv) (q1.lt k hv).2
theorem OwnES.imp (h:OwnES S w v l) (hs:∀ k,S k→T k):OwnES T w v l:=by
 obtain ⟨cs,h1,h2,h3⟩:=h
 exact ⟨cs,h1,fun k hk=>hs k (h2 k hk),h3.imp fun _ _ h=>h.impS hs⟩
theorem OwnES.nestP {p:Nat→Prop} (h:OwnES S w v l) (hp:∀ k,S k→k<w.heap.size→(∃ cs t fr,w.heap[k]?=some (.cells cs t fr)∧(t=55∨t=99))→p k):∃ A c,v= .slice A l.length c∧(l.length≤c∧c≤maxLen)∧NestP enS p w A l:=by
 obtain ⟨cs,h1,h2,h3⟩:=h
 obtain ⟨A,c,rfl,hc,hr⟩:=owned_roomed h1
 refine ⟨A,c,rfl,hc,cs,h3.imp fun _ _ h=>h.1.imp fun k hk=>hp k hk.1 hk.lt ?_,?_⟩
 ·obtain ⟨_,cs',fr,hh,_⟩:=hk
  exact ⟨cs',_,fr,hh,.inr rfl⟩
 ·rcases h1.2 with ⟨hv,h0⟩|⟨g,cap,cur,hv,_,hh,_⟩
  ·refine .inl (List.eq_nil_of_length_eq_zero ?_)
   rw [h1.1,h0]
  ·injection hv with e1 e2 e3
   subst e1
   have hs:=h2 g rfl
   rcases hr with h0|⟨b,off,e,hb,hcc⟩
   ·exact .inl h0
   ·injection e with e
    injection e with e4 e5
    subst e4 e5
    exact .inr ⟨g,0,rfl,hp g hs hb ⟨_,_,_,hh,.inl rfl⟩,hcc⟩
theorem OwnES.nest (h:OwnES S w v l):∃ A c,v= .slice A l.length c∧(l.length≤c∧c≤maxLen)∧Nest enS w w.heap.size A l:=h.nestP fun k _ hk _=>hk
theorem OwnES.push {cs:List Value} (h1:w.ownsRow 0 55 3 v l.length cs) (h3:NestC enS (RowF S w) l cs) {A:Option Addr} {c:Nat} {q:En} (hc:q.2.1.length≤c) (hcx:c≤maxLen) (hr:RowF S w A (flds q.2.1))
  (hown:w'.ownsRow 0 55 3 v' (l.length+1) (cs++[.int .i64 q.1,.slice A q.2.1.length c,.int .i64 q.2.2])) (hg:w.grownBy w' v.ownBlock) (hS:∀ k,v'.ownBlock=some k→S k):OwnES S w' v' (l++[q]):=by
 have hk:∀ k,Of S 99 w k→w'.heap[k]?=w.heap[k]?:=fun k hk=>hg.block k hk.lt fun e=>by
  obtain ⟨_,cs',fr,hh,_⟩:=hk
  exact owned_apart h1 hh (by decide) e.symm
 refine ⟨_,?_,hS,(h3.imp fun _ _ h=>h.keepO hk).snoc (q:=q) hc hcx (hr.keepO hk)⟩
 rw [List.length_append,List.length_singleton]
 exact hown
theorem RowF.of_own {base:Nat} {A:Option Addr} {n c:Nat} {fs:List Fd} (h:w.ownsRow base 99 2 (.slice A n c) n (flds fs)) (hS:∀ k,base≤k→k<w.heap.size→S k):RowF S w A (flds fs):=by
 rcases h.2 with ⟨hv,hn⟩|⟨g,cap,cur,hv,hg,hh,hnc,hcp,hcs,htake⟩
 ·injection hv with h1 h2 h3
  refine ⟨.inl (List.eq_nil_of_length_eq_zero ?_),.inl h1⟩
  rw [h.1,hn]
 ·injection hv with h1 h2 h3
  subst h1
  refine ⟨?_,.inr ⟨g,0,rfl⟩⟩
  rcases owned_row_of h with h0|⟨b,off,e,hb,hc⟩
  ·exact .inl h0
  ·injection e with e
   injection e with e1 e2
   subst e1 e2
   exact .inr ⟨g,0,rfl,⟨hS g hg hb,_,_,hh,rfl⟩,hc⟩
theorem OwnES.at_ (h:OwnES S w v l) {k:Nat} (hk:k<l.length):∃ b c0 A c,v= .slice (some ⟨b,0,none⟩) l.length c0∧S b∧b<w.heap.size∧w.cell? ⟨b,k*3,none⟩=some (.int .i64 l[k].1)∧w.cell? ⟨b,k*3+1,none⟩=some (.slice A l[k].2.1.length c)∧w.cell? ⟨b,k*3+2,none⟩=some (.int .i64 l[k].2.2)∧l[k].2.1.length≤c∧c≤maxLen∧RowF S w A (flds l[k].2.1):=by
 obtain ⟨cs,h1,h2,h3⟩:=h
 obtain ⟨A,c,g1,g2,g3,g4,g5,g6⟩:=h3.at_ hk
 have e0:=g5 0 _ rfl
 have e2:=g6 0 _ rfl
 rcases h1.2 with ⟨hv,h0⟩|⟨g,cap,cur,hv,hg,hh,_⟩
 ·omega
 ·subst hv
  have hc:∀ {j u},cs[j]?=some u→w.cell? ⟨g,j,none⟩=some u:=fun {j u} hu=>by have :=h1.cells (g:=g) rfl _ _ hu;simpa [Addr.add_lit] using this
  exact ⟨g,cap,A,c,rfl,h2 g rfl,(Array.getElem?_eq_some_iff.1 hh).1,hc e0,hc g1,hc e2,g2,g3,g4⟩
end
structure BufIn (S:Nat→Prop) (w:World) (B:Nat) (l:List En) (up:Int) (v:Value) (M c:Nat) (g:List GP):Prop where
 cells:w.heap[B]?=some (.cells #[v,.map (some M),.int .i64 (weightE l:Int),.int .i64 up] 144 (0,0))
 mine:S B
 own:OwnES S w v l
 map:PmAt S w M c g
 stand:Stand g l
 good:GoodE l
 up1: -1≤up
 last:l≠[]→up=lastE l
 lt:∀ k,S k→k<w.heap.size
def BufAt (S:Nat→Prop) (w:World) (B:Nat) (l:List En) (up:Int):Prop:=∃ v M c g,BufIn S w B l up v M c g
section
variable {S T:Nat→Prop} {w w':World} {B:Nat} {l:List En} {up:Int}
theorem BufIn.keep {v:Value} {M c:Nat} {g:List GP} (h:BufIn S w B l up v M c g) (hk:∀ k,S k→w'.heap[k]?=w.heap[k]?) (hs:w.heap.size≤w'.heap.size):BufIn S w' B l up v M c g:=
 ⟨(hk B h.mine).trans h.cells,h.mine,h.own.keeps fun k hk' _=>hk k hk',h.map.keep fun k hk' _=>hk k hk',h.stand,h.good,h.up1,h.last,fun k hk'=>Nat.lt_of_lt_of_le (h.lt k hk') hs⟩
theorem BufAt.keep (h:BufAt S w B l up) (hk:∀ k,S k→w'.heap[k]?=w.heap[k]?) (hs:w.heap.size≤w'.heap.size):BufAt S w' B l up:=by
 obtain ⟨v,M,c,g,h⟩:=h
 exact ⟨v,M,c,g,h.keep hk hs⟩
theorem BufIn.below {v:Value} {M c:Nat} {g:List GP} (h:BufIn S w B l up v M c g) (hb:Below w.heap.size w w'):BufIn S w' B l up v M c g:=h.keep (fun k hk=>hb.block k (h.lt k hk)) hb.size
theorem BufAt.below (h:BufAt S w B l up) (hb:Below w.heap.size w w'):BufAt S w' B l up:=by
 obtain ⟨v,M,c,g,h⟩:=h
 exact ⟨v,M,c,g,h.below hb⟩
theorem BufAt.lt (h:BufAt S w B l up):∀ k,S k→k<w.heap.size:=by obtain ⟨v,M,c,g,h⟩:=h;exact h.lt
end
end Go.Proofs.YtmoomnpbiifedaaGreat
set_option linter.unusedVariables false
namespace Go.Proofs.YtmoomnpbiifedaaGreat
open Go Go.RowKit
def FirmM (B:Nat) (p:World→Prop):Prop:=∀ W l (o o':Obj),B≤l→W.heap[l]?=some o→o.isCells=false→p W→p (W.putObj l o')
def Moved {α:Type} (n:Nat) (P:Program) (g:Nat) (lb:Array Value) (encs:α→Array Value) (Mv Kp:World→World→Prop) (Ok:List α→α→World→Prop) (S:List α→Prop) (w:World):Prop:=
 ∀ (l:Nat) (J:List α→World→Prop) (W:World),Below w.heap.size w W→(∀ s A B,J s A→Mv A B→J s B)→
  (∀ pre x W1,J pre W1→Ok pre x W1→YieldAt Fence.wide (n-1) P l (encs x) W1 fun e W'=>e= .returned (.bool true)∧J (pre++[x]) W'∧Kp W1 W')→
  J [] W→CallsIn Fence.wide n P g (#[.func (.yield l) #[] #[]]++lb) W fun e W'=>(∃ v,e= .returned v)∧∃ xs,S xs∧J xs W'
variable {n:Nat} {P:Program}
theorem wpIn_range_moved {α:Type} {g:Operand} {ps:Array Tmp} {assign body:Code} {Q:Exit→Act→World→Prop} {a:Act} {w:World} (h1:1≤n) {gf:Nat} {lb:Array Value} (hg:a.eval g= .func (.func gf) #[] lb)
  (eg:∀ args w,(callFunc gf args).run P w= .ok (.enter gf args) w) {encs:α→Array Value} {Mv Kp:World→World→Prop} {Ok:List α→α→World→Prop} {S:List α→Prop} (hseq:Moved (n-1) P gf lb encs Mv Kp Ok S w)
  (hMb:∀ {B:World},Below w.heap.size w B→Mv w B) (hMk:∀ {A B:World} {k:Nat} {o:Obj},w.heap.size≤k→Mv A B→A.heap[k]?=some o→(∃ x,o= .loop x)∨(∃ x,o= .deferred x)→B.heap[k]?=some o)
  (hKt:∀ {A B C:World},Kp A B→Kp B C→Kp A C) (hKp:∀ (W:World) (l:Nat) (x:Loop) (o':Obj),w.heap.size≤l→W.heap[l]?=some (.loop x)→Kp W (W.putObj l o')) (hps:∀ x,(encs x).size=ps.size)
  (I:List α→World→Prop) (hIb:∀ s A B,I s A→Mv A B→I s B) (hIp:∀ s,FirmM w.heap.size (I s)) (hOk:∀ s x,FirmM w.heap.size (Ok s x)) (h0:I [] w) (Ax:α→Act→World→Prop) (hAx:∀ x a',FirmM w.heap.size (Ax x a'))
  (hassign:∀ (l:Nat) (pre:List α) (x:α) (W:World) (K:Act→World→Prop),I pre W→Ok pre x W→(∀ a' W',Ax x a' W'→I pre W'→Ok pre x W'→Below W.heap.size W W'→Kp W W'→K a' W')→assign.wpIn (Fence.wide.inRound l) (n-1-1) P (Exit.then K (fun _ _ _=>False)) {tmps:=(ps.zip (encs x)).foldl (fun t (p,v)=>t.setIfInBounds p v) a.tmps,defers:=[]} W)
  (hbody:∀ (l:Nat) (pre:List α) (x:α) (a':Act) (W:World),Ax x a' W→I pre W→Ok pre x W→body.wpIn (Fence.wide.inRound l) (n-1-1) P (ownPostK Kp I (fun _ _ _=>False) (pre++[x]) W) a' W)
  (hdone:∀ (D:Nat) (xs:List α) (W:World),w.heap.size≤D→S xs→I xs W→W.heap[D]?=some (.deferred (some []))→Q .normal {a with defers:={target:= .collected D,args:=#[]}::a.defers} W):
  (Code.rangeFunc g ps assign body).wpIn Fence.wide n P Q a w:=by
 refine wpIn_rangeFunc fun fn hfn=> ?_
 have enter:=run_enterLoop_outer (P:=P) (w:=w) fn a.tmps ps assign body
 obtain ⟨D,hD⟩:∃ D,D=w.heap.size:=⟨_,rfl⟩
 obtain ⟨st,hst⟩:∃ st:LoopState→Loop,st=fun s=>{state:=s,pending:=none,fn:=fn,tmps:=a.tmps,params:=ps,assign:=assign,body:=body,defers:=w.heap.size}:=⟨_,rfl⟩
 obtain ⟨V,hV⟩:∃ V,V=(w.alloc (.deferred (some []))).alloc (.loop (st .ready)):=⟨_,rfl⟩
 have enter':(Instr.enterLoop fn a.tmps ps assign body Fence.wide.round).run P w= .ok (D+1,[{target:= .collected D,args:=#[]}]) V:=by rw [hV,hst,hD];exact enter
 have bel:Below w.heap.size w V:=by rw [hV];exact ((Below.refl _ w).alloc (Nat.le_refl _) _).alloc (by simp) _
 have hdV:V.heap[D]?=some (.deferred (some [])):=by rw [hV,hD];exact (Below.heap_alloc _ _ _ (by simp)).trans (World.alloc_heap_new w _)
 have hlV:V.heap[D+1]?=some (.loop (st .ready)):=by
  have :=World.alloc_heap_new (w.alloc (.deferred (some []))) (.loop (st .ready))
  rwa [World.size_alloc,← hV,← hD] at this
 have stay:∀ (s:List α) (A B:World),(I s A∧A.heap[D+1]?=some (.loop (st .ready))∧A.heap[D]?=some (.deferred (some [])))→Mv A B→(I s B∧B.heap[D+1]?=some (.loop (st .ready))∧B.heap[D]?=some (.deferred (some []))):=by
  rintro s A B ⟨i1,i2,i3⟩ hb
  exact ⟨hIb s A B i1 hb,hMk (by omega) hb i2 (.inl ⟨_,rfl⟩),hMk (by omega) hb i3 (.inr ⟨_,rfl⟩)⟩
 have round:∀ (pre:List α) (x:α) (A:World),(I pre A∧A.heap[D+1]?=some (.loop (st .ready))∧A.heap[D]?=some (.deferred (some [])))→Ok pre x A→
   YieldAt Fence.wide (n-1-1) P (D+1) (encs x) A fun e B=>e= .returned (.bool true)∧(I (pre++[x]) B∧B.heap[D+1]?=some (.loop (st .ready))∧B.heap[D]?=some (.deferred (some [])))∧Kp A B:=by
  rintro pre x A ⟨i1,i2,i3⟩ hx
  have hl:D+1<A.heap.size:=(Array.getElem?_eq_some_iff.1 i2).1
  have y:=run_yield (P:=P) (args:=encs x) i2 (by rw [hst];exact hps x)
  rw [hst] at y
  refine ⟨fn,_,assign,body,y,roundIn_of_wpIn hfn (hassign _ pre x A _ i1 hx fun a' A0 hax j1 jx hbl hk0=> ?_)⟩
  have hl0:D+1<A0.heap.size:=Nat.lt_of_lt_of_le hl hbl.size
  have i2':A0.heap[D+1]?=some (.loop (st .ready)):=(hbl.block _ hl).trans i2
  have i3':A0.heap[D]?=some (.deferred (some [])):=(hbl.block _ (by omega)).trans i3
  have beg:=run_beginRound (P:=P) i2' (by rw [hst])
  refine ⟨_,beg,?_⟩
  obtain ⟨A1,hA1⟩:∃ A1,A1=A0.putObj (D+1) (.loop {st .ready with state:= .busy}):=⟨_,rfl⟩
  rw [← hA1]
  have l1:A1.heap[D+1]?=some (.loop {st .ready with state:= .busy}):=by rw [hA1];exact World.putObj_heap_same hl0
  have d1:A1.heap[D]?=some (.deferred (some [])):=by rw [hA1];exact (World.putObj_heap_other (by omega)).trans i3'
  have k1:Kp A A1:=hKt hk0 (by rw [hA1];exact hKp A0 _ _ _ (by omega) i2')
  have b1:=hbody (D+1) pre x a' A1 (by rw [hA1];exact hAx x a' A0 _ _ _ (by omega) i2' rfl hax) (by rw [hA1];exact hIp pre A0 _ _ _ (by omega) i2' rfl j1) (by rw [hA1];exact hOk pre x A0 _ _ _ (by omega) i2' rfl jx)
  refine wpIn_mono b1 ?_
  rintro ex a2 A2 hp
  cases ex with
  |normal=>
   obtain ⟨ko,k2,i4⟩:=hp
   have l2:=ko.same _ _ l1 rfl
   have d2:=ko.same _ _ d1 rfl
   have fin:=run_endRound (P:=P) none l2
   have hl2:D+1<A2.heap.size:=(Array.getElem?_eq_some_iff.1 l2).1
   refine ⟨_,_,fin,rfl,⟨hIp _ A2 _ _ _ (by omega) l2 rfl i4,?_,(World.putObj_heap_other (by omega)).trans d2⟩,hKt (hKt k1 k2) (hKp A2 _ _ _ (by omega) l2)⟩
   rw [World.putObj_heap_same hl2,hst]
   rfl
  |ret=>exact hp.2.elim
  |exit id=>exact hp.2.elim
  |goto t=>exact hp.2.elim
  |panic c=>exact hp.elim
  |outgrown=>exact hp.elim
 refine ⟨D+1,_,V,{target:= .fn (.func gf) lb,args:=#[.func (.yield (D+1)) #[] #[]]},V,gf,#[.func (.yield (D+1)) #[] #[]]++lb,V,enter',?_,?_,?_,fun _=>h1,?_⟩
 ·simp only [resolve,hg]
  simp [go_sem]
 ·intro f' _
  trivial
 ·simp [invoke,go_sem,eg]
 ·refine (hseq (D+1) _ V bel stay round ⟨hIb [] w V h0 (hMb bel),hlV,hdV⟩).mono ?_
  rintro e A ⟨⟨v,rfl⟩,xs,hS,i1,i2,i3⟩
  have fin:=run_endLoop (P:=P) i2 (by rw [hst];simp)
  rw [hst] at fin
  refine ⟨none,_,fin,hdone D xs _ (by omega) hS (hIp xs A _ _ _ (by omega) i2 rfl i1) ((World.putObj_heap_other (by omega)).trans i3)⟩
end Go.Proofs.YtmoomnpbiifedaaGreat
