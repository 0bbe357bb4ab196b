import Derived.Test.YtmoomnpbiifedaaGreatMVZz
import Derived.Test.YtmoomnpbiifedaaGreatMVQ03
import Derived.Deep.AppendLies
import Derived.Test.YtmoomnpbiifedaaGreatMVQ01
import Derived.Below
set_option linter.unusedVariables false
namespace Go.Proofs.YtmoomnpbiifedaaGreat
open Go Go.RowKit
open Go.ChangeMaps (setBlock)
def kV (t:Nm):Value:= .string ⟨t.toArray⟩
theorem run_check_ks (em:Bool) (t:Nm) (w:World):(Instr.checkKey em 10000 9 (kV t)).run Tryz.prog w= .ok () w:=by
 have h:∀ d:Nat,(Instr.checkKey em (d+1) 9 (kV t)).run Tryz.prog w= .ok () w:=fun d=>by
  simp [Instr.checkKey,run_underlying Tryz.underlying9,kV]
 exact h 9999
theorem run_stays_ks (t:Nm) (w:World):(Instr.keyThatStays (kV t) (kV t)).run Tryz.prog w= .ok (kV t) w:=by
 have h:∀ d:Nat,Instr.sameBits (d+2) (kV t) (kV t)=true:=fun d=>by simp [Instr.sameBits,kV,str_eq]
 simp [Instr.keyThatStays,h 9998]
abbrev EntK:=Nm × Value
def entsK:Nat→List EntK→List MapEntry
 |_,[]=>[]
 |i,e::m=>{key:=kV e.1,val:=e.2,born:=i}::entsK (i+1) m
theorem entsK_length:∀ (m:List EntK) (i:Nat),(entsK i m).length=m.length
 |[],_=>rfl
 |e::m,i=>by simp [entsK,entsK_length m (i+1)]
theorem entsK_at:∀ {m:List EntK} {i k:Nat} (hk:k<m.length),(entsK i m)[k]?=some {key:=kV m[k].1,val:=m[k].2,born:=i+k}
 |[],_,_,h=>by simp at h
 |e::m,i,0,_=>rfl
 |e::m,i,k+1,h=>by
  have :=entsK_at (m:=m) (i:=i+1) (k:=k) (by simpa using h)
  simp only [entsK,List.getElem?_cons_succ,zC]
  rw [this,Nat.add_assoc,Nat.add_comm 1 k]
theorem entsK_append:∀ (m:List EntK) (e:EntK) (i:Nat),entsK i (m++[e])=entsK i m++[{key:=kV e.1,val:=e.2,born:=i+m.length}]
 |[],e,i=>rfl
 |x::m,e,i=>by
  simp only [List.cons_append,entsK,entsK_append m e (i+1),List.length_cons]
  rw [Nat.add_assoc,Nat.add_comm 1 m.length]
theorem entsK_set:∀ (m:List EntK) (e:EntK) (i k:Nat),entsK i (m.set k e)=(entsK i m).set k {key:=kV e.1,val:=e.2,born:=i+k}
 |[],e,i,k=>by simp [entsK]
 |x::m,e,i,0=>by simp [entsK]
 |x::m,e,i,k+1=>by
  simp only [zF,entsK,entsK_set m e (i+1) k]
  rw [Nat.add_assoc,Nat.add_comm 1 k]
def MapK (w:World) (B c:Nat) (m:List EntK):Prop:=w.heap[B]?=some (.map (entsK c m).toArray (c+m.length))
def posK (m:List EntK) (t:Nm):Nat:=m.findIdx (fun e=>decide (e.1=t))
def valK (m:List EntK) (t:Nm):Value:=if h:posK m t<m.length then m[posK m t].2 else .slice none 0 0
def entK (m:List EntK) (t:Nm):List EntK:=if posK m t<m.length then m else m++[(t,.slice none 0 0)]
theorem posK_key {m:List EntK} {t:Nm} (h:posK m t<m.length):m[posK m t].1=t:=by
 have :=List.findIdx_getElem (p:=fun e:EntK=>decide (e.1=t)) (xs:=m) (w:=h)
 exact of_decide_eq_true this
theorem posK_entK (m:List EntK) (t:Nm):posK m t<(entK m t).length∧(entK m t)[posK m t]?=some (t,valK m t):=by
 unfold entK valK
 split
 ·rename_i h
  have e:=posK_key h
  refine ⟨h,?_⟩
  rw [List.getElem?_eq_getElem h]
  exact congrArg some (Prod.ext e rfl)
 ·rename_i h
  have hle:posK m t≤m.length:=List.findIdx_le_length
  have :posK m t=m.length:=by omega
  rw [this]
  simp
theorem find_now:∀ (m:List EntK) (t:Nm) (k i:Nat),Instr.findNow .string (kV t) (entsK k m) i=some (if h:posK m t<m.length then some (i+posK m t,m[posK m t].2) else none)
 |[],t,k,i=>by simp [entsK,Instr.findNow,posK]
 |e::m,t,k,i=>by
  have ih:=find_now m t (k+1) (i+1)
  have hs:Instr.sameNow .string (kV t) (kV e.1)=some (decide (t=e.1)):=by simp only [Instr.sameNow,kV,str_eq]
  rw [entsK,Instr.findNow]
  simp only [hs]
  by_cases he:t=e.1
  ·have hp:posK (e::m) t=0:=by unfold posK;rw [List.findIdx_cons];simp [he]
   simp only [hp]
   simp [he]
  ·have he':¬ e.1=t:=fun h=>he h.symm
   have hp:posK (e::m) t=posK m t+1:=by unfold posK;rw [List.findIdx_cons];simp [he']
   simp only [he,decide_false,ih]
   by_cases h:posK m t<m.length
   ·have h':posK (e::m) t<(e::m).length:=by rw [hp];simpa using h
    rw [dif_pos h,dif_pos h']
    simp only [hp,zC]
    rw [Nat.add_assoc,Nat.add_comm 1]
   ·have h':¬ posK (e::m) t<(e::m).length:=by rw [hp];simpa using h
    rw [dif_neg h,dif_neg h']
theorem run_find_ks (m:List EntK) (t:Nm) (w:World) (k:Nat):(Instr.findKey 9 (kV t) (entsK k m)).run Tryz.prog w= .ok (if h:posK m t<m.length then some (posK m t,m[posK m t].2) else none) w:=by
 have h:=find_now m t k 0
 simp only [Nat.zero_add] at h
 simp only [Instr.findKey,Sem.run_bind,run_underlying Tryz.underlying9,Result.andThen,h]
 simp [Sem.run_pure]
theorem run_lookup_ks {w:World} {B c:Nat} {m:List EntK} (h:MapK w B c m) (t:Nm):(Instr.lookup 142 (.map (some B)) (kV t) false).run Tryz.prog w= .ok (valK m t) w:=by
 unfold MapK at h
 have hf:=run_find_ks m t w c
 unfold valK
 by_cases hp:posK m t<m.length
 ·rw [dif_pos hp] at hf ⊢
  simp [Instr.lookup,run_underlying Tryz.underlying142,MapKept.run_getObj_map h,run_check_ks,hf,Result.andThen]
 ·rw [dif_neg hp] at hf ⊢
  simp [Instr.lookup,run_underlying Tryz.underlying142,MapKept.run_getObj_map h,run_check_ks,hf,Result.andThen,Tryz.zeroValue58]
theorem run_update_ks {w:World} {B c:Nat} {m:List EntK} (h:MapK w B c m) (t:Nm) (v:Value):∃ w',(Instr.mapUpdate 142 (.map (some B)) (kV t) v).run Tryz.prog w= .ok () w'∧MapK w' B c ((entK m t).set (posK m t) (t,v))∧w.grownBy w' (some B):=by
 unfold MapK at h
 have hf:=run_find_ks m t w c
 unfold entK
 by_cases hp:posK m t<m.length
 ·rw [dif_pos hp] at hf
  rw [if_pos hp]
  have hk:=posK_key hp
  have he:=entsK_at (i:=c) hp
  rw [hk] at he
  have hmod:(entsK c m).modify (posK m t) (fun e=>{e with key:=kV t,val:=v})=entsK c (m.set (posK m t) (t,v)):=by
   rw [entsK_set]
   apply List.ext_getElem?
   intro j
   rw [List.getElem?_modify,List.getElem?_set]
   by_cases hj:posK m t=j
   ·subst hj
    have hkl:posK m t<(entsK c m).length:=by rw [entsK_length];exact hp
    rw [he,if_pos rfl,if_pos hkl]
    simp
   ·simp [hj]
  refine ⟨setBlock w B (.map (entsK c (m.set (posK m t) (t,v))).toArray (c+(m.set (posK m t) (t,v)).length)),?_,ChangeMaps.heap_setBlock_same h _,?_⟩
  ·rw [← hmod]
   simp [Instr.mapUpdate,run_underlying Tryz.underlying142,MapKept.run_getObj_map h,run_check_ks,hf,Result.andThen,he,run_stays_ks,MapKept.run_setObj_map _ h,setBlock]
  ·exact ⟨rfl,rfl,rfl,by simp [setBlock],fun k _ hk=>ChangeMaps.heap_setBlock_other h _ (fun e=>hk (by rw [e]))⟩
 ·rw [dif_neg hp] at hf
  rw [if_neg hp]
  have hle:posK m t≤m.length:=List.findIdx_le_length
  have hpe:posK m t=m.length:=by omega
  have hset:(m++[(t,Value.slice none 0 0)]).set (posK m t) (t,v)=m++[(t,v)]:=by
   rw [hpe]
   simp
  have hpush:(entsK c m).toArray.push {key:=kV t,val:=v,born:=c+m.length}=(entsK c (m++[(t,v)])).toArray:=by
   rw [entsK_append,List.push_toArray]
  rw [hset]
  refine ⟨setBlock w B (.map (entsK c (m++[(t,v)])).toArray (c+(m++[(t,v)]).length)),?_,ChangeMaps.heap_setBlock_same h _,?_⟩
  ·rw [← hpush]
   simp [Instr.mapUpdate,run_underlying Tryz.underlying142,MapKept.run_getObj_map h,run_check_ks,hf,Result.andThen,MapKept.run_setObj_map _ h,setBlock,Nat.add_assoc]
  ·exact ⟨rfl,rfl,rfl,by simp [setBlock],fun k _ hk=>ChangeMaps.heap_setBlock_other h _ (fun e=>hk (by rw [e]))⟩
section
variable {ops:Array Oper} {rest:List Oper} {o:Oper} {a:Act} {Q:Exit→Act→World→Prop}
theorem wpList_lookup_ks (w:World) (hg:o.guard=none) (x y:Operand) (hop:o.op=Op.lookup 142 x y false) (B c:Nat) (m:List EntK) (t:Nm) (hx:a.eval x= .map (some B)) (hat:MapK w B c m) (hy:a.eval y=kV t)
  (hK:wpList Tryz.prog ops Q rest (a.put o.dst (valK m t)) w):wpList Tryz.prog ops Q (o::rest) a w:=by
 refine wpList_plain hg fun K' hK'=> ?_
 unfold Oper.wp
 simp [execOp,hop,hx,hy,run_lookup_ks hat,Result.andThen]
 exact hK' _ _ hK
end
end Go.Proofs.YtmoomnpbiifedaaGreat
set_option linter.unusedVariables false
namespace Go.Proofs.YtmoomnpbiifedaaGreat
open Go
def tellF (s:Nm):Nat→List Nm→List (Tm × Int)
 |_,[]=>[]
 |i,x::l=>((s,x),(i:Int))::tellF s (i+1) l
theorem tellF_append (s:Nm):∀ (l:List Nm) (i:Nat) (x:Nm),tellF s i (l++[x])=tellF s i l++[((s,x),((i+l.length:Nat):Int))]
 |[],i,x=>rfl
 |y::l,i,x=>by
  rw [List.cons_append,tellF,tellF,tellF_append s l (i+1) x,List.cons_append,List.length_cons,Nat.add_assoc,Nat.add_comm 1]
theorem tellF_succ (s:Nm) {l:List Nm} {k:Nat} (hk:k<l.length):tellF s 0 (l.take (k+1))=tellF s 0 (l.take k)++[((s,l[k]),(k:Int))]:=by
 rw [List.take_succ_eq_append_getElem hk,tellF_append,List.length_take,Nat.zero_add,Nat.min_eq_left (by omega)]
theorem tellF_length (s:Nm):∀ (l:List Nm) (i:Nat),(tellF s i l).length=l.length
 |[],_=>rfl
 |x::l,i=>by rw [tellF,List.length_cons,tellF_length s l,List.length_cons]
def tellD:List Fd→List (Tm × Int)
 |[]=>[]
 |f::l=>tellF f.1 0 (words f.2)++tellD l
theorem tellD_append:∀ (l:List Fd) (f:Fd),tellD (l++[f])=tellD l++tellF f.1 0 (words f.2)
 |[],f=>by simp [tellD]
 |g::l,f=>by rw [List.cons_append,tellD,tellD,tellD_append l f,List.append_assoc]
theorem tellD_succ {l:List Fd} {k:Nat} (hk:k<l.length):tellD (l.take (k+1))=tellD (l.take k)++tellF l[k].1 0 (words l[k].2):=by
 rw [List.take_succ_eq_append_getElem hk,tellD_append]
abbrev Gr:=Tm × List Int
def addG:List Gr→Tm→Int→List Gr
 |[],t,a=>[(t,[a])]
 |p::g,t,a=>if p.1=t then (p.1,p.2++[a])::g else p::addG g t a
def groupsT (s:List (Tm × Int)):List Gr:=s.foldl (fun g p=>addG g p.1 p.2) []
theorem groupsT_snoc (s:List (Tm × Int)) (t:Tm) (a:Int):groupsT (s++[(t,a)])=addG (groupsT s) t a:=by
 unfold groupsT
 rw [List.foldl_append]
 rfl
def getG:List Gr→Tm→List Int
 |[],_=>[]
 |p::g,t=>if p.1=t then p.2 else getG g t
theorem getG_add (t u:Tm) (a:Int):∀ g:List Gr,getG (addG g t a) u=if t=u then getG g u++[a] else getG g u
 |[]=>by by_cases h:t=u<;>simp [addG,getG,h]
 |p::g=>by
  rw [addG]
  by_cases h1:p.1=t
  ·rw [if_pos h1,getG,getG]
   by_cases h2:t=u
   ·rw [if_pos h2,if_pos (h1.trans h2),if_pos (h1.trans h2)]
   ·rw [if_neg h2,if_neg (fun e=>h2 (h1.symm.trans e)),if_neg (fun e=>h2 (h1.symm.trans e))]
  ·rw [if_neg h1,getG,getG,getG_add t u a g]
   by_cases h2:p.1=u
   ·rw [if_pos h2,if_pos h2,if_neg (fun e=>h1 (h2.trans e.symm))]
   ·rw [if_neg h2,if_neg h2]
def placesS (s:List (Tm × Int)) (t:Tm):List Int:=(s.filter fun p=>decide (p.1=t)).map (·.2)
theorem getG_fold (t:Tm):∀ (s:List (Tm × Int)) (g:List Gr),getG (s.foldl (fun g p=>addG g p.1 p.2) g) t=getG g t++placesS s t
 |[],g=>by simp [placesS]
 |p::s,g=>by
  rw [List.foldl_cons,getG_fold t s,getG_add]
  unfold placesS
  by_cases h:p.1=t<;>simp [h]
theorem getG_groups (s:List (Tm × Int)) (t:Tm):getG (groupsT s) t=placesS s t:=by
 rw [groupsT,getG_fold]
 rfl
theorem keys_add (t:Tm) (a:Int):∀ g:List Gr,(addG g t a).map (·.1)=if t∈g.map (·.1) then g.map (·.1) else g.map (·.1)++[t]
 |[]=>rfl
 |p::g=>by
  have ih:=keys_add t a g
  rw [addG]
  by_cases h:p.1=t
  ·rw [if_pos h,if_pos (by simp [h])]
   rfl
  ·rw [if_neg h,List.map_cons,ih,List.map_cons]
   by_cases h2:t∈g.map (·.1)
   ·rw [if_pos h2,if_pos (List.mem_cons_of_mem _ h2)]
   ·rw [if_neg h2,if_neg]
    ·rfl
    ·intro h3
     rcases List.mem_cons.1 h3 with h3|h3
     ·exact h h3.symm
     ·exact h2 h3
theorem keys_nodup_add {g:List Gr} (h:(g.map (·.1)).Nodup) (t:Tm) (a:Int):((addG g t a).map (·.1)).Nodup:=by
 rw [keys_add]
 split
 ·exact h
 ·rename_i hn
  rw [List.nodup_append]
  exact ⟨h,by simp,fun x hx y hy e=>hn (by rw [List.mem_singleton] at hy;rw [← hy,← e];exact hx)⟩
theorem keys_fold:∀ (s:List (Tm × Int)) (g:List Gr),(g.map (·.1)).Nodup→((s.foldl (fun g p=>addG g p.1 p.2) g).map (·.1)).Nodup∧∀ t,t∈(s.foldl (fun g p=>addG g p.1 p.2) g).map (·.1)↔t∈g.map (·.1)∨t∈s.map (·.1)
 |[],g,h=>⟨h,by simp⟩
 |p::s,g,h=>by
  obtain ⟨h1,h2⟩:=keys_fold s (addG g p.1 p.2) (keys_nodup_add h _ _)
  refine ⟨h1,fun t=> ?_⟩
  rw [List.foldl_cons,h2,keys_add,List.map_cons,List.mem_cons]
  split
  ·rename_i hp
   constructor
   ·rintro (h|h)
    ·exact .inl h
    ·exact .inr (.inr h)
   ·rintro (h|rfl|h)
    ·exact .inl h
    ·exact .inl hp
    ·exact .inr h
  ·rw [List.mem_append,List.mem_singleton,or_assoc]
theorem groups_nodup (s:List (Tm × Int)):((groupsT s).map (·.1)).Nodup:=(keys_fold s [] (by simp)).1
theorem groups_mem (s:List (Tm × Int)) (t:Tm):t∈(groupsT s).map (·.1)↔t∈s.map (·.1):=by
 rw [groupsT,(keys_fold s [] (by simp)).2]
 simp
def ApartF (l:List Fd):Prop:=l.Pairwise fun f g=>f.1≠g.1
theorem wordsD_of {l:List Fd} (h:ApartF l) {f:Fd} (hf:f∈l):wordsD l f.1=words f.2:=by
 induction l with
 |nil=>cases hf
 |cons g l ih=>
  rw [ApartF,List.pairwise_cons] at h
  rw [wordsD]
  rcases List.mem_cons.1 hf with rfl|hf
  ·exact if_pos rfl
  ·rw [if_neg (h.1 f hf)]
   exact ih h.2 hf
theorem wordsD_other {l:List Fd} {s:Nm} (h:∀ f∈l,f.1≠s):wordsD l s=[]:=by
 induction l with
 |nil=>rfl
 |cons g l ih=>
  rw [wordsD,if_neg (h g (List.mem_cons_self ..))]
  exact ih fun f hf=>h f (List.mem_cons_of_mem _ hf)
theorem placesS_append (a b:List (Tm × Int)) (t:Tm):placesS (a++b) t=placesS a t++placesS b t:=by simp [placesS]
theorem placesS_F (s:Nm) (t:Tm):∀ (l:List Nm) (i:Nat),placesS (tellF s i l) t=if s=t.1 then placesW i l t.2 else []
 |[],i=>by simp [tellF,placesS,placesW]
 |x::l,i=>by
  have ih:=placesS_F s t l (i+1)
  rw [tellF]
  unfold placesS at ih ⊢
  rw [List.filter_cons]
  obtain ⟨t1,t2⟩:=t
  simp only [Prod.mk.injEq] at ih ⊢
  by_cases h1:s=t1
  ·rw [if_pos h1] at ih ⊢
   rw [placesW]
   by_cases h2:x=t2
   ·rw [if_pos h2,if_pos (by simp [h1,h2]),List.map_cons,ih]
   ·rw [if_neg h2,if_neg (by simp [h2]),ih]
  ·rw [if_neg h1] at ih ⊢
   rw [if_neg (by simp [h1]),ih]
theorem placesS_D {l:List Fd} (h:ApartF l) (t:Tm):placesS (tellD l) t=placesD l t:=by
 induction l with
 |nil=>rfl
 |cons f l ih=>
  rw [ApartF,List.pairwise_cons] at h
  rw [tellD,placesS_append,placesS_F,ih h.2]
  unfold placesD
  rw [wordsD]
  by_cases h1:f.1=t.1
  ·rw [if_pos h1,if_pos h1,wordsD_other (fun g hg e=>h.1 g hg (h1.trans e.symm)),placesW,List.append_nil]
  ·rw [if_neg h1,if_neg h1,List.nil_append]
theorem tellF_mem (s:Nm) (t:Tm):∀ (l:List Nm) (i:Nat),t∈(tellF s i l).map (·.1)↔t.1=s∧t.2∈l
 |[],i=>by simp [tellF]
 |x::l,i=>by
  rw [tellF,List.map_cons,List.mem_cons,tellF_mem s t l,List.mem_cons]
  obtain ⟨t1,t2⟩:=t
  simp only [Prod.mk.injEq]
  constructor
  ·rintro (⟨h1,h2⟩|⟨h1,h2⟩)
   ·exact ⟨h1,.inl h2⟩
   ·exact ⟨h1,.inr h2⟩
  ·rintro ⟨h1,h2|h2⟩
   ·exact .inl ⟨h1,h2⟩
   ·exact .inr ⟨h1,h2⟩
theorem tellD_mem (t:Tm):∀ l:List Fd,t∈(tellD l).map (·.1)↔∃ f∈l,t.1=f.1∧t.2∈words f.2
 |[]=>by simp [tellD]
 |f::l=>by rw [tellD,List.map_append,List.mem_append,tellF_mem,tellD_mem t l];simp
theorem putAll_mem (s:Nm) (t:Tm):∀ (ws:List Nm) (a:List Tm),t∈ws.foldl (fun b x=>putT b (s,x)) a↔t∈a∨(t.1=s∧t.2∈ws)
 |[],a=>by simp
 |x::ws,a=>by
  rw [List.foldl_cons,putAll_mem s t ws,mem_putT,List.mem_cons]
  obtain ⟨t1,t2⟩:=t
  simp only [Prod.mk.injEq]
  constructor
  ·rintro ((h|⟨h1,h2⟩)|⟨h1,h2⟩)
   ·exact .inl h
   ·exact .inr ⟨h1,.inl h2⟩
   ·exact .inr ⟨h1,.inr h2⟩
  ·rintro (h|⟨h1,h2|h2⟩)
   ·exact .inl (.inl h)
   ·exact .inl (.inr ⟨h1,h2⟩)
   ·exact .inr ⟨h1,h2⟩
theorem termsFold_mem (l:List Fd) (t:Tm):∀ (m:List Fd) (a:List Tm),t∈m.foldl (fun a f=>(wordsD l f.1).foldl (fun b x=>putT b (f.1,x)) a) a↔t∈a∨∃ f∈m,t.1=f.1∧t.2∈wordsD l f.1
 |[],a=>by simp
 |f::m,a=>by
  rw [List.foldl_cons,termsFold_mem l t m,putAll_mem]
  simp [or_assoc]
theorem termsD_mem {l:List Fd} (h:ApartF l) (t:Tm):t∈termsD l↔t∈(tellD l).map (·.1):=by
 rw [termsD,termsFold_mem,tellD_mem]
 simp only [List.not_mem_nil,false_or]
 constructor
 ·rintro ⟨f,hf,h1,h2⟩;exact ⟨f,hf,h1,by rwa [wordsD_of h hf] at h2⟩
 ·rintro ⟨f,hf,h1,h2⟩;exact ⟨f,hf,h1,by rwa [wordsD_of h hf]⟩
def NoZero (l:List Fd):Prop:=∀ f∈l,(0:UInt8)∉f.1
theorem putAll_rise {s:Nm} (h0:(0:UInt8)∉s):∀ (ws:List Nm) (a:List Tm),RiseT a→(∀ t∈a,(0:UInt8)∉t.1)→RiseT (ws.foldl (fun b x=>putT b (s,x)) a)
 |[],a,h,_=>h
 |x::ws,a,h,hz=>putAll_rise h0 ws _ (riseT_put h hz h0) fun t ht=>by
  rcases mem_putT.1 ht with ht|rfl
  ·exact hz t ht
  ·exact h0
theorem termsFold_rise (l:List Fd):∀ (m:List Fd) (a:List Tm),NoZero m→RiseT a→(∀ t∈a,(0:UInt8)∉t.1)→RiseT (m.foldl (fun a f=>(wordsD l f.1).foldl (fun b x=>putT b (f.1,x)) a) a)
 |[],a,_,h,_=>h
 |f::m,a,hm,h,hz=>termsFold_rise l m _ (fun g hg=>hm g (List.mem_cons_of_mem _ hg)) (putAll_rise (hm f (List.mem_cons_self ..)) _ _ h hz) fun t ht=>by
  rcases (putAll_mem f.1 t _ _).1 ht with ht|⟨ht,_⟩
  ·exact hz t ht
  ·rw [ht];exact hm f (List.mem_cons_self ..)
theorem termsD_rise {l:List Fd} (h:NoZero l):RiseT (termsD l):=termsFold_rise l l [] h (by simp [RiseT,Rise]) (by simp)
theorem termsD_zero {l:List Fd} (ha:ApartF l) (h:NoZero l) {t:Tm} (ht:t∈termsD l):(0:UInt8)∉t.1:=by
 obtain ⟨f,hf,h1,_⟩:=(tellD_mem t l).1 ((termsD_mem ha t).1 ht)
 rw [h1]
 exact h f hf
theorem terms_sorted {l:List Fd} (ha:ApartF l) (h0:NoZero l) {ts:List Tm} (hp:ts.Perm ((groupsT (tellD l)).map (·.1))) (hs:ts.Pairwise fun s t=>¬ keyT t<keyT s):ts=termsD l:=by
 have hmem:∀ t,t∈ts↔t∈termsD l:=fun t=>by rw [hp.mem_iff,groups_mem,termsD_mem ha]
 have hz:∀ t∈ts,(0:UInt8)∉t.1:=fun t ht=>termsD_zero ha h0 ((hmem t).1 ht)
 have hnd:ts.Nodup:=hp.nodup_iff.2 (groups_nodup _)
 have hr:RiseT ts:=by
  unfold RiseT Rise
  rw [List.pairwise_map]
  have h1:ts.Pairwise fun s t=>s∈ts∧t∈ts∧s≠t:=by
   rw [List.pairwise_iff_getElem]
   intro i j hi hj hij
   exact ⟨List.getElem_mem hi,List.getElem_mem hj,fun e=>by have :=(List.getElem_inj hnd).1 e;omega⟩
  refine (hs.and h1).imp fun {s t} h=> ?_
  obtain ⟨h2,h3,h4,h5⟩:=h
  rcases nm_tri (keyT s) (keyT t) with e|e|e
  ·exact e
  ·exact absurd (keyT_inj e (hz s h3) (hz t h4)) h5
  ·exact absurd e h2
 have h2:ts.map keyT=(termsD l).map keyT:=rise_ext hr (termsD_rise h0) fun k=>by
  simp only [List.mem_map]
  constructor
  ·rintro ⟨t,ht,rfl⟩;exact ⟨t,(hmem t).1 ht,rfl⟩
  ·rintro ⟨t,ht,rfl⟩;exact ⟨t,(hmem t).2 ht,rfl⟩
 have hlen:ts.length=(termsD l).length:=by simpa using congrArg List.length h2
 refine List.ext_getElem hlen fun i h3 h4=> ?_
 refine keyT_inj ?_ (hz _ (List.getElem_mem h3)) (termsD_zero ha h0 (List.getElem_mem h4))
 have h5:=List.getElem_of_eq h2 (i:=i) (by simpa using h3)
 simpa using h5
theorem tellD_weight {l:List Fd} (h:ApartF l):(tellD l).length=weightD l:=by
 have h1:∀ m:List Fd,(∀ f∈m,f∈l)→(tellD m).length=(m.map fun f=>(wordsD l f.1).length).sum:=by
  intro m
  induction m with
  |nil=>intro _;rfl
  |cons f m ih=>
   intro hm
   rw [tellD,List.length_append,tellF_length,ih fun g hg=>hm g (List.mem_cons_of_mem _ hg),List.map_cons,List.sum_cons,wordsD_of h (hm f (List.mem_cons_self ..))]
 exact h1 l fun f hf=>hf
theorem mayF_of:∀ {l:List Fd} {seen:List Nm} {n:Nat},mayF seen n l=0→(∀ f∈l,nameB f.1=true∧f.1∉seen)∧ApartF l∧n+(l.map fun f=>(words f.2).length).sum≤500
 |[],seen,n,h=>by
  rw [mayF] at h
  split at h
  ·cases h
  ·exact ⟨by simp,List.Pairwise.nil,by simp;omega⟩
 |f::l,seen,n,h=>by
  rw [mayF] at h
  split at h
  ·cases h
  ·rename_i h1
   split at h
   ·cases h
   ·rename_i h2
    split at h
    ·rename_i h3;exact absurd h h3
    ·obtain ⟨g1,g2,g3⟩:=mayF_of h
     refine ⟨fun g hg=> ?_,List.pairwise_cons.2 ⟨fun g hg e=>(g1 g hg).2 (by rw [← e];simp),g2⟩,by rw [List.map_cons,List.sum_cons];omega⟩
     rcases List.mem_cons.1 hg with rfl|hg
     ·exact ⟨by simpa using h1,h2⟩
     ·exact ⟨(g1 g hg).1,fun e=>(g1 g hg).2 (List.mem_append_left _ e)⟩
theorem mayD_of {l:List Fd} (h:mayD l=0):l.length≤8∧(∀ f∈l,nameB f.1=true)∧ApartF l∧NoZero l∧weightD l≤500:=by
 unfold mayD at h
 split at h
 ·cases h
 ·rename_i h8
  obtain ⟨g1,g2,g3⟩:=mayF_of h
  refine ⟨by omega,fun f hf=>(g1 f hf).1,g2,fun f hf=>nameB_zero (g1 f hf).1,?_⟩
  rw [← tellD_weight g2]
  have :∀ m:List Fd,(tellD m).length=(m.map fun f=>(words f.2).length).sum:=by
   intro m
   induction m with
   |nil=>rfl
   |cons f m ih=>rw [tellD,List.length_append,tellF_length,ih,List.map_cons,List.sum_cons]
  rw [this]
  omega
theorem placesW_ge (x:Nm):∀ (l:List Nm) (i:Nat),∀ a∈placesW i l x,(i:Int)≤a
 |[],i,a,h=>by cases h
 |y::l,i,a,h=>by
  rw [placesW] at h
  split at h
  ·rcases List.mem_cons.1 h with rfl|h
   ·exact Int.le_refl _
   ·have :=placesW_ge x l (i+1) a h;omega
  ·have :=placesW_ge x l (i+1) a h;omega
theorem placesW_rise (x:Nm):∀ (l:List Nm) (i:Nat),(placesW i l x).Pairwise (· <·)
 |[],i=>List.Pairwise.nil
 |y::l,i=>by
  rw [placesW]
  split
  ·exact List.pairwise_cons.2 ⟨fun a ha=>by have :=placesW_ge x l (i+1) a ha;omega,placesW_rise x l (i+1)⟩
  ·exact placesW_rise x l (i+1)
theorem placesW_mem (x:Nm) (a:Int):∀ (l:List Nm) (i:Nat),a∈placesW i l x↔∃ k:Nat,a=((i+k:Nat):Int)∧l[k]?=some x
 |[],i=>by simp [placesW]
 |y::l,i=>by
  rw [placesW]
  have ih:=placesW_mem x a l (i+1)
  constructor
  ·intro h
   split at h
   ·rename_i hy
    rcases List.mem_cons.1 h with rfl|h
    ·exact ⟨0,by simp,by simp [hy]⟩
    ·obtain ⟨k,h1,h2⟩:=ih.1 h
     exact ⟨k+1,by rw [h1];congr 1;omega,by simpa using h2⟩
   ·obtain ⟨k,h1,h2⟩:=ih.1 h
    exact ⟨k+1,by rw [h1];congr 1;omega,by simpa using h2⟩
  ·rintro ⟨k,h1,h2⟩
   cases k with
   |zero=>
    have :y=x:=by simpa using h2
    rw [if_pos this]
    exact List.mem_cons.2 (.inl (by simpa using h1))
   |succ k=>
    have :=ih.2 ⟨k,by rw [h1];congr 1;omega,by simpa using h2⟩
    split
    ·exact List.mem_cons_of_mem _ this
    ·exact this
end Go.Proofs.YtmoomnpbiifedaaGreat
set_option linter.unusedVariables false
namespace Go.Proofs.YtmoomnpbiifedaaGreat
open Go
structure GoodF (l:List Fd):Prop where
 len:l.length≤8
 names:∀ f∈l,f.1.length≤12
 texts:∀ f∈l,f.2.length≤1024
 apart:ApartF l
 zero:NoZero l
 wordsF:∀ f∈l,(words f.2).length≤500
 wordsS:∀ s,(wordsD l s).length≤500
 weight:weightD l≤500
theorem le_sum:∀ {l:List Nat} {a:Nat},a∈l→a≤l.sum
 |x::l,a,h=>by
  rw [List.sum_cons]
  rcases List.mem_cons.1 h with rfl|h
  ·omega
  ·have :=le_sum h;omega
theorem wordsD_le {l:List Fd} (ha:ApartF l) (s:Nm):(wordsD l s).length≤weightD l:=by
 by_cases h:∃ f∈l,f.1=s
 ·obtain ⟨f,hf,rfl⟩:=h
  unfold weightD
  exact le_sum (List.mem_map.2 ⟨f,hf,rfl⟩)
 ·rw [wordsD_other fun f hf e=>h ⟨f,hf,e⟩]
  exact Nat.zero_le _
theorem goodF_of {l:List Fd} (hm:mayD l=0) (ht:∀ f∈l,f.2.length≤1024):GoodF l:=by
 obtain ⟨g1,g2,g3,g4,g5⟩:=mayD_of hm
 refine ⟨g1,fun f hf=> ?_,ht,g3,g4,fun f hf=> ?_,fun s=>Nat.le_trans (wordsD_le g3 s) g5,g5⟩
 ·have :=g2 f hf
  rw [nameB,Bool.and_eq_true,Bool.and_eq_true,decide_eq_true_iff,decide_eq_true_iff] at this
  exact this.2.2
 ·rw [← wordsD_of g3 hf]
  exact Nat.le_trans (wordsD_le g3 _) g5
end Go.Proofs.YtmoomnpbiifedaaGreat
set_option linter.unusedVariables false
namespace Go.Proofs.YtmoomnpbiifedaaGreat
open Go
abbrev Dc:=Int × List Fd
abbrev En:=Int × List Fd × Int
abbrev Pn:=Int × List Int
def mayE (last:Int) (q:En):Int:=if mayD q.2.1≠0 then mayD q.2.1 else if q.2.2<0∨q.2.2≤last then 12 else 0
def weightE (l:List En):Nat:=(l.map fun q=>weightD q.2.1).sum
def keysIn (a:List Nm) (ts:List Tm):List Nm:=(ts.map keyT).foldl putN a
def keysE (l:List En):List Nm:=l.foldl (fun a q=>keysIn a (termsD q.2.1)) []
def postIn (i:Nat) (d:List Fd) (ts:List Tm) (key:Nm):List Pn:=(ts.filter fun t=>decide (keyT t=key)).map fun t=>((i:Int),placesD d t)
def postsE:Nat→List En→Nm→List Pn
 |_,[],_=>[]
 |i,q::l,key=>postIn i q.2.1 (termsD q.2.1) key++postsE (i+1) l key
def lastE (l:List En):Int:=match l.getLast? with|none=> -1|some q=>q.2.2
def GoodE (l:List En):Prop:=∀ q∈l,GoodF q.2.1
theorem weightE_le {l:List En} (hg:GoodE l):weightE l≤l.length*500:=by
 unfold weightE
 induction l with
 |nil=>simp
 |cons q l ih=>
  have h1:=(hg q (List.mem_cons_self ..)).weight
  have h2:=ih fun x hx=>hg x (List.mem_cons_of_mem _ hx)
  simp only [List.map_cons,List.sum_cons,List.length_cons]
  omega
theorem GoodE.snoc {l:List En} {q:En} (h:GoodE l) (hq:GoodF q.2.1):GoodE (l++[q]):=fun x hx=>by
 rcases List.mem_append.1 hx with hx|hx
 ·exact h x hx
 ·rw [List.mem_singleton.1 hx];exact hq
theorem keysIn_length (a:List Nm) (ts:List Tm):(keysIn a ts).length≤ts.length+a.length:=by
 have :=foldl_putN_length (ts.map keyT) a
 rwa [List.length_map] at this
theorem rise_keysIn {a:List Nm} (h:Rise a) (ts:List Tm):Rise (keysIn a ts):=rise_foldl_putN _ _ h
theorem mem_keysIn {a:List Nm} {ts:List Tm} {x:Nm}:x∈keysIn a ts↔(∃ t∈ts,keyT t=x)∨x∈a:=by
 rw [keysIn,mem_foldl_putN,List.mem_map]
theorem rise_keysE_from:∀ (l:List En) {a:List Nm},Rise a→Rise (l.foldl (fun a q=>keysIn a (termsD q.2.1)) a)
 |[],a,h=>h
 |q::l,a,h=>rise_keysE_from l (rise_keysIn h _)
theorem rise_keysE (l:List En):Rise (keysE l):=rise_keysE_from l List.Pairwise.nil
theorem mem_keysE_from:∀ (l:List En) {a:List Nm} {x:Nm},x∈l.foldl (fun a q=>keysIn a (termsD q.2.1)) a↔(∃ q∈l,∃ t∈termsD q.2.1,keyT t=x)∨x∈a
 |[],a,x=>by simp
 |q::l,a,x=>by
  rw [List.foldl_cons,mem_keysE_from l,mem_keysIn]
  constructor
  ·rintro (⟨q',hq',h⟩|h|h)
   ·exact .inl ⟨q',List.mem_cons_of_mem _ hq',h⟩
   ·exact .inl ⟨q,List.mem_cons_self ..,h⟩
   ·exact .inr h
  ·rintro (⟨q',hq',h⟩|h)
   ·rcases List.mem_cons.1 hq' with rfl|hq'
    ·exact .inr (.inl h)
    ·exact .inl ⟨q',hq',h⟩
   ·exact .inr (.inr h)
theorem mem_keysE {l:List En} {x:Nm}:x∈keysE l↔∃ q∈l,∃ t∈termsD q.2.1,keyT t=x:=by
 have :=mem_keysE_from l (a:=[]) (x:=x)
 simpa [keysE] using this
theorem keysE_length {M:Nat}:∀ {l:List En} {a:List Nm},(∀ q∈l,(termsD q.2.1).length≤M)→(l.foldl (fun a q=>keysIn a (termsD q.2.1)) a).length≤l.length*M+a.length
 |[],a,_=>by simp
 |q::l,a,h=>by
  have h1:=keysE_length (l:=l) (a:=keysIn a (termsD q.2.1)) fun x hx=>h x (List.mem_cons_of_mem _ hx)
  have h2:=keysIn_length a (termsD q.2.1)
  have h3:=h q (List.mem_cons_self ..)
  simp only [List.foldl_cons,List.length_cons,Nat.add_mul,Nat.one_mul]
  omega
theorem postsE_snoc:∀ (l:List En) (i:Nat) (q:En) (key:Nm),postsE i (l++[q]) key=postsE i l key++postIn (i+l.length) q.2.1 (termsD q.2.1) key
 |[],i,q,key=>by simp [postsE]
 |x::l,i,q,key=>by
  rw [List.cons_append,postsE,postsE,postsE_snoc l (i+1) q key,List.append_assoc,List.length_cons,show i+1+l.length=i+(l.length+1) by omega]
theorem lastE_nil:lastE []= -1:=rfl
theorem lastE_snoc (l:List En) (q:En):lastE (l++[q])=q.2.2:=by simp [lastE]
theorem lastE_at {l:List En} (h:0<l.length):lastE l=(l[l.length-1]'(by omega)).2.2:=by
 have h0:l≠[]:=fun e=>by rw [e] at h;simp at h
 rw [lastE,List.getLast?_eq_some_getLast h0,List.getLast_eq_getElem h0]
def goodsE (l:List Dc) (most:Nat) (start step:Int):List En:=(l.take most).zipIdx.map fun p=>(p.1.1,goodD p.1.2,start+step*(p.2:Int))
theorem goodsE_length (l:List Dc) (most:Nat) (start step:Int):(goodsE l most start step).length=min most l.length:=by simp [goodsE]
theorem goodsE_take {l:List Dc} {k:Nat} {start step:Int} (hk:k<l.length):goodsE l (k+1) start step=goodsE l k start step++[(l[k].1,goodD l[k].2,start+step*(k:Int))]:=by
 unfold goodsE
 rw [List.take_succ_eq_append_getElem hk,List.zipIdx_append,List.map_append,List.length_take,Nat.zero_add,Nat.min_eq_left (by omega)]
 rfl
theorem goodsE_good (l:List Dc) (most:Nat) (start step:Int):∀ q∈goodsE l most start step,∃ d,q.2.1=goodD d:=fun q hq=>by
 obtain ⟨p,_,rfl⟩:=List.mem_map.1 hq
 exact ⟨p.1.2,rfl⟩
end Go.Proofs.YtmoomnpbiifedaaGreat
set_option linter.unusedVariables false
namespace Go.Proofs.YtmoomnpbiifedaaGreat
open Go
abbrev GP:=Nm × List Pn
def addP:List GP→Nm→Pn→List GP
 |[],t,a=>[(t,[a])]
 |p::g,t,a=>if p.1=t then (p.1,p.2++[a])::g else p::addP g t a
def getP:List GP→Nm→List Pn
 |[],_=>[]
 |p::g,t=>if p.1=t then p.2 else getP g t
theorem getP_add (t u:Nm) (a:Pn):∀ g:List GP,getP (addP g t a) u=if t=u then getP g u++[a] else getP g u
 |[]=>by by_cases h:t=u<;>simp [addP,getP,h]
 |p::g=>by
  rw [addP]
  by_cases h1:p.1=t
  ·rw [if_pos h1,getP,getP]
   by_cases h2:t=u
   ·rw [if_pos h2,if_pos (h1.trans h2),if_pos (h1.trans h2)]
   ·rw [if_neg h2,if_neg (fun e=>h2 (h1.symm.trans e)),if_neg (fun e=>h2 (h1.symm.trans e))]
  ·rw [if_neg h1,getP,getP,getP_add t u a g]
   by_cases h2:p.1=u
   ·rw [if_pos h2,if_pos h2,if_neg (fun e=>h1 (h2.trans e.symm))]
   ·rw [if_neg h2,if_neg h2]
theorem addP_keys (t:Nm) (a:Pn):∀ g:List GP,(addP g t a).map (·.1)=if t∈g.map (·.1) then g.map (·.1) else g.map (·.1)++[t]
 |[]=>by simp [addP]
 |p::g=>by
  rw [addP]
  by_cases h1:p.1=t
  ·rw [if_pos h1,if_pos (by simp [h1])]
   simp
  ·rw [if_neg h1,List.map_cons,addP_keys t a g]
   by_cases h2:t∈g.map (·.1)
   ·rw [if_pos h2,if_pos (show t∈(p::g).map (·.1) from List.mem_cons_of_mem _ h2)]
    simp
   ·rw [if_neg h2,if_neg (by rw [List.map_cons,List.mem_cons];exact fun h=>h.elim (fun e=>h1 e.symm) h2)]
    simp
theorem addP_mem {t:Nm} {a:Pn} {g:List GP} {x:Nm}:x∈(addP g t a).map (·.1)↔x∈g.map (·.1)∨x=t:=by
 rw [addP_keys]
 split
 ·rename_i h
  exact ⟨.inl,fun h'=>h'.elim id fun e=>e▸h⟩
 ·rw [List.mem_append,List.mem_singleton]
theorem addP_nodup {t:Nm} {a:Pn} {g:List GP} (h:(g.map (·.1)).Nodup):((addP g t a).map (·.1)).Nodup:=by
 rw [addP_keys]
 split
 ·exact h
 ·rename_i hn
  rw [List.nodup_append]
  exact ⟨h,by simp,fun x hx y hy e=>by rw [List.mem_singleton] at hy;subst hy;subst e;exact hn hx⟩
def turnP (i:Nat) (d:List Fd) (g:List GP) (ts:List Tm):List GP:=ts.foldl (fun g t=>addP g (keyT t) ((i:Int),placesD d t)) g
theorem turnP_take {i:Nat} {d:List Fd} {g:List GP} {ts:List Tm} {k:Nat} (hk:k<ts.length):turnP i d g (ts.take (k+1))=addP (turnP i d g (ts.take k)) (keyT ts[k]) ((i:Int),placesD d ts[k]):=by
 unfold turnP
 rw [List.take_succ_eq_append_getElem hk,List.foldl_append]
 rfl
theorem getP_turn (i:Nat) (d:List Fd) (key:Nm):∀ (ts:List Tm) (g:List GP),getP (turnP i d g ts) key=getP g key++postIn i d ts key
 |[],g=>by simp [turnP,postIn]
 |t::ts,g=>by
  rw [show turnP i d g (t::ts)=turnP i d (addP g (keyT t) ((i:Int),placesD d t)) ts from rfl,getP_turn i d key ts,getP_add]
  unfold postIn
  by_cases h:keyT t=key
  ·rw [if_pos h,List.filter_cons_of_pos (by simpa using h),List.map_cons,List.append_assoc]
   rfl
  ·rw [if_neg h,List.filter_cons_of_neg (by simpa using h)]
theorem turnP_nodup (i:Nat) (d:List Fd):∀ (ts:List Tm) (g:List GP),(g.map (·.1)).Nodup→((turnP i d g ts).map (·.1)).Nodup
 |[],g,h=>h
 |t::ts,g,h=>turnP_nodup i d ts _ (addP_nodup h)
theorem turnP_mem (i:Nat) (d:List Fd) {x:Nm}:∀ (ts:List Tm) (g:List GP),x∈(turnP i d g ts).map (·.1)↔x∈g.map (·.1)∨∃ t∈ts,keyT t=x
 |[],g=>by simp [turnP]
 |t::ts,g=>by
  rw [show turnP i d g (t::ts)=turnP i d (addP g (keyT t) ((i:Int),placesD d t)) ts from rfl,turnP_mem i d ts,addP_mem]
  constructor
  ·rintro ((h|h)|⟨t',h1,h2⟩)
   ·exact .inl h
   ·exact .inr ⟨t,List.mem_cons_self ..,h.symm⟩
   ·exact .inr ⟨t',List.mem_cons_of_mem _ h1,h2⟩
  ·rintro (h|⟨t',h1,h2⟩)
   ·exact .inl (.inl h)
   ·rcases List.mem_cons.1 h1 with rfl|h1
    ·exact .inl (.inr h2.symm)
    ·exact .inr ⟨t',h1,h2⟩
structure Stand (g:List GP) (l:List En):Prop where
 posts:∀ key,getP g key=postsE 0 l key
 nodup:(g.map (·.1)).Nodup
 keys:∀ x,x∈g.map (·.1)↔x∈keysE l
theorem Stand.nil:Stand [] []:=⟨fun _=>rfl,List.nodup_nil,fun x=>by simp [keysE]⟩
theorem Stand.turned {g:List GP} {l:List En} (h:Stand g l) (q:En):Stand (turnP l.length q.2.1 g (termsD q.2.1)) (l++[q]):=by
 refine ⟨fun key=> ?_,turnP_nodup _ _ _ _ h.nodup,fun x=> ?_⟩
 ·rw [getP_turn,h.posts,postsE_snoc,Nat.zero_add]
 ·rw [turnP_mem,h.keys,mem_keysE,mem_keysE]
  constructor
  ·rintro (⟨q',hq',h'⟩|h')
   ·exact ⟨q',List.mem_append_left _ hq',h'⟩
   ·exact ⟨q,by simp,h'⟩
  ·rintro ⟨q',hq',h'⟩
   rcases List.mem_append.1 hq' with hq'|hq'
   ·exact .inl ⟨q',hq',h'⟩
   ·rw [List.mem_singleton.1 hq'] at h';exact .inr h'
theorem keysE_nodup (l:List En):(keysE l).Nodup:=List.Pairwise.imp (fun h e=>by subst e;exact absurd h (List.lt_irrefl _)) (rise_keysE l)
theorem Stand.perm {g:List GP} {l:List En} (h:Stand g l):(g.map (·.1)).Perm (keysE l):=(List.perm_ext_iff_of_nodup h.nodup (keysE_nodup l)).2 h.keys
theorem Stand.length {g:List GP} {l:List En} (h:Stand g l):g.length=(keysE l).length:=by have :=h.perm.length_eq;rwa [List.length_map] at this
theorem sorted_keys {ks:List Nm} {l:List En} (h:ks.Perm (keysE l)):ks.mergeSort (fun x y=>decide (x≤y))=keysE l:=by
 have hp:=(List.mergeSort_perm ks (fun x y=>decide (x≤y))).trans h
 have hs:(ks.mergeSort fun x y=>decide (x≤y)).Pairwise (fun x y:Nm=>x≤y):=by
  have :=List.pairwise_mergeSort (le:=fun x y:Nm=>decide (x≤y)) (fun a b c h1 h2=>by
   simp only [decide_eq_true_eq] at*
   exact List.le_trans h1 h2) (fun a b=>by
   simp only [Bool.or_eq_true,decide_eq_true_eq]
   exact List.le_total a b) ks
  exact this.imp fun h=>by simpa using h
 refine hp.eq_of_pairwise (le:=fun x y:Nm=>x≤y) (fun a b _ _ h1 h2=>List.le_antisymm h1 h2) hs ((rise_keysE l).imp fun h=>Std.le_of_lt h)
end Go.Proofs.YtmoomnpbiifedaaGreat
namespace Go.Proofs.YtmoomnpbiifedaaGreat
open Go Go.RowKit
set_option linter.unusedVariables false
def OwnTm (base:Nat) (w:World) (v:Value) (l:List Tm):Prop:=w.ownsRow base 39 2 v l.length (flds l)
def OwnFd (base:Nat) (w:World) (v:Value) (l:List Fd):Prop:=w.ownsRow base 99 2 v l.length (flds l)
theorem OwnTm.below {base:Nat} {w w':World} {v:Value} {l:List Tm} (h:OwnTm base w v l) (hb:Below w.heap.size w w'):OwnTm base w' v l:=owned_below h hb
theorem OwnTm.low {base b:Nat} {w:World} {v:Value} {l:List Tm} (h:OwnTm base w v l) (hb:b≤base):OwnTm b w v l:=owned_low h hb
theorem OwnTm.row {base:Nat} {w:World} {v:Value} {l:List Tm} (h:OwnTm base w v l):∃ A c,v= .slice A l.length c∧l.length≤c∧FRow w w.heap.size A l:=owned_row h
theorem OwnTm.nil {base:Nat} {w:World}:OwnTm base w (.slice none 0 0) []:=World.ownsRow_nil _ _ _ _
theorem OwnFd.below {base:Nat} {w w':World} {v:Value} {l:List Fd} (h:OwnFd base w v l) (hb:Below w.heap.size w w'):OwnFd base w' v l:=owned_below h hb
theorem OwnFd.low {base b:Nat} {w:World} {v:Value} {l:List Fd} (h:OwnFd base w v l) (hb:b≤base):OwnFd b w v l:=owned_low h hb
theorem OwnFd.row {base:Nat} {w:World} {v:Value} {l:List Fd} (h:OwnFd base w v l):∃ A c,v= .slice A l.length c∧l.length≤c∧FRow w w.heap.size A l:=owned_row h
theorem OwnFd.nil {base:Nat} {w:World}:OwnFd base w (.slice none 0 0) []:=World.ownsRow_nil _ _ _ _
theorem FRow.cut {w:World} {B:Nat} {A:Option Addr} {l:List Fd} (h:FRow w B A l) (k:Nat):FRow w B A (l.take k):=by
 have :=Row.cut h (k*2)
 rwa [← flds_take] at this
theorem frow_new (w:World) (x:Fd) (t:TypeId):FRow (w.alloc (.cells #[.string ⟨x.1.toArray⟩,.string ⟨x.2.toArray⟩] t)) (w.alloc (.cells #[.string ⟨x.1.toArray⟩,.string ⟨x.2.toArray⟩] t)).heap.size (some ⟨w.heap.size,0,none⟩) [x]:=by
 refine .inr ⟨w.heap.size,0,rfl,by simp,fun j u hu=> ?_⟩
 have :=news_at w (flds [x]) t j u hu
 rw [Addr.add_lit] at this
 exact this
theorem info_term:(Tryz.prog.info? 39).map (fun i=>(i.zero,i.size,i.bytes))=some (some (.agg #[.string ByteArray.empty,.string ByteArray.empty]),2,32):=by kernel_rfl
theorem wpList_append_fd {ops:Array Oper} {rest:List Oper} {o:Oper} {a:Act} {Q:Exit→Act→World→Prop} (w:World) (hgd:o.guard=none) (s x:Operand)
  (ho:o.op= .call {callee:= .builtin .append,args:=#[s,x],argTypes:=#[51,51]})
  (base:Nat) (v:Value) (l:List Fd) (hs:a.eval s=v) (hown:OwnFd base w v l) (A:Option Addr) (m c:Nat) (news:List Fd) (hx:a.eval x= .slice A m c) (hl:news.length=m) (hr:FRow w w.heap.size A news)
  (hlen:l.length+m≤1073741824) (hbase:base≤w.heap.size)
  (h:∀ v' w',OwnFd base w' v' (l++news)→Below base w w'→w.grownBy w' v.ownBlock→wpList Tryz.prog ops Q rest (a.put o.dst v') w'):wpList Tryz.prog ops Q (o::rest) a w:=by
 obtain ⟨i0,hi0,hz0,hz1,hz2⟩:=info_parts info_field
 refine wpList_append_row w hgd s x 51 ho base 99 i0 _ 2 32 Tryz.underlying51 hi0 hz0 hz1 hz2 rfl (by decide) v l.length (flds l) hs hown w.heap.size A m c (flds news) hx (by rw [flds_length,hl]) hr (flds_oneCell _) (by unfold maxLen;omega) (by omega) hbase fun v' w' h1 h2=>h v' w' ?_ ?_ h2
 ·unfold OwnFd
  rw [List.length_append,hl,flds_append]
  exact h1
 ·exact (Below.refl base w).grown h2 hbase fun k hk=>(hown.lt k hk).1
end Go.Proofs.YtmoomnpbiifedaaGreat
set_option linter.unusedVariables false
namespace Go.Proofs.YtmoomnpbiifedaaGreat
open Go Go.RowKit
structure OnlyIn (S:Nat→Prop) (w w':World):Prop where
 os:w'.os=w.os
 tape:w'.tape=w.tape
 output:w'.output=w.output
 size:w.heap.size≤w'.heap.size
 block:∀ k,k<w.heap.size→¬ S k→w'.heap[k]?=w.heap[k]?
theorem OnlyIn.of_below {S:Nat→Prop} {w w':World} (h:Below w.heap.size w w'):OnlyIn S w w':=⟨h.os,h.tape,h.output,h.size,fun k hk _=>h.block k hk⟩
theorem OnlyIn.trans {S:Nat→Prop} {w w' w'':World} (h:OnlyIn S w w') (k:OnlyIn S w' w''):OnlyIn S w w'':=
 ⟨k.os.trans h.os,k.tape.trans h.tape,k.output.trans h.output,Nat.le_trans h.size k.size,fun i hi hne=>(k.block i (Nat.lt_of_lt_of_le hi h.size) hne).trans (h.block i hi hne)⟩
theorem OnlyIn.below {S:Nat→Prop} {base:Nat} {w w':World} (h:OnlyIn S w w') (hb:∀ k,S k→base≤k) (hw:base≤w.heap.size):Below base w w':=
 ⟨h.os,h.tape,h.output,h.size,fun k hk=>h.block k (by omega) (fun hs=>by have :=hb k hs;omega)⟩
end Go.Proofs.YtmoomnpbiifedaaGreat
set_option linter.unusedVariables false
namespace Go.Proofs.YtmoomnpbiifedaaGreat
open Go Go.RowKit
def RowP (p:Nat→Prop) (w:World) (A:Option Addr) (xs:List Value):Prop:=xs=[]∨∃ b off,A=some ⟨b,off,none⟩∧p b∧∀ j u,xs[j]?=some u→w.cell? ⟨b,off+j,none⟩=some u
section
variable {p q:Nat→Prop} {w w':World} {A:Option Addr} {xs:List Value}
theorem RowP.keep (h:RowP p w A xs) (hb:∀ b,p b→w'.heap[b]?=w.heap[b]?):RowP p w' A xs:=by
 rcases h with h|⟨b,off,e,hp,hc⟩
 ·exact .inl h
 ·refine .inr ⟨b,off,e,hp,fun j u hu=> ?_⟩
  rw [World.cell?_of_block (a:=⟨b,off+j,none⟩) (hb b hp)]
  exact hc j u hu
theorem RowP.imp (h:RowP p w A xs) (hpq:∀ b,p b→q b):RowP q w A xs:=by
 rcases h with h|⟨b,off,e,hp,hc⟩
 ·exact .inl h
 ·exact .inr ⟨b,off,e,hpq b hp,hc⟩
theorem RowP.row {B:Nat} (h:RowP p w A xs) (hB:∀ b,p b→b<B):Row w B A xs:=h.imp hB
end
structure Shape (α:Type) where
 p:Nat
 r:Nat
 pre:α→List Value
 mid:α→List Fd
 post:α→List Value
 hp:∀ q,(pre q).length=p
 hr:∀ q,(post q).length=r
def Shape.size {α:Type} (s:Shape α):Nat:=s.p+1+s.r
section
variable {α:Type} {s:Shape α} {R R':Option Addr→List Value→Prop}
def NestC (s:Shape α) (R:Option Addr→List Value→Prop):List α→List Value→Prop
 |[],cs=>cs=[]
 |q::l,cs=>∃ A c cs',cs=s.pre q++(.slice A (s.mid q).length c::(s.post q++cs'))∧(s.mid q).length≤c∧c≤maxLen∧R A (flds (s.mid q))∧NestC s R l cs'
theorem NestC.imp:∀ {l:List α} {cs:List Value},NestC s R l cs→(∀ A xs,R A xs→R' A xs)→NestC s R' l cs
 |[],cs,h,_=>h
 |q::l,cs,h,hi=>by
  obtain ⟨A,c,cs',rfl,h1,h2,h3,h'⟩:=h
  exact ⟨A,c,cs',rfl,h1,h2,hi _ _ h3,NestC.imp h' hi⟩
theorem nest_skip {q:α} {A:Option Addr} {c:Nat} {cs':List Value} {k:Nat} (i:Nat):(s.pre q++(.slice A (s.mid q).length c::(s.post q++cs')))[(k+1)*s.size+i]?=cs'[k*s.size+i]?:=by
 have hp:=s.hp q
 have hr:=s.hr q
 have e:(k+1)*s.size+i=s.p+(1+(s.r+(k*s.size+i))):=by rw [Nat.add_mul,Nat.one_mul];unfold Shape.size;omega
 rw [e,List.getElem?_append_right (by omega),hp,Nat.add_sub_cancel_left,Nat.add_comm 1,List.getElem?_cons_succ,List.getElem?_append_right (by omega),hr,Nat.add_sub_cancel_left]
theorem NestC.at_:∀ {l:List α} {cs:List Value} {k:Nat},NestC s R l cs→(hk:k<l.length)→
  ∃ A c,cs[k*s.size+s.p]?=some (.slice A (s.mid l[k]).length c)∧(s.mid l[k]).length≤c∧c≤maxLen∧R A (flds (s.mid l[k]))∧
   (∀ i u,(s.pre l[k])[i]?=some u→cs[k*s.size+i]?=some u)∧(∀ i u,(s.post l[k])[i]?=some u→cs[k*s.size+s.p+1+i]?=some u)
 |[],_,k,_,h=>by simp at h
 |q::l,cs,0,h,_=>by
  obtain ⟨A,c,cs',rfl,h1,h2,h3,h'⟩:=h
  have hp:=s.hp q
  refine ⟨A,c,?_,h1,h2,h3,fun i u hu=> ?_,fun i u hu=> ?_⟩
  ·rw [List.getElem?_append_right (by omega)]
   simp [hp]
  ·have :i<(s.pre q).length:=by
    rcases Nat.lt_or_ge i (s.pre q).length with h|h
    ·exact h
    ·simp only [zB] at hu
     rw [List.getElem?_eq_none h] at hu;cases hu
   rw [Nat.zero_mul,Nat.zero_add,List.getElem?_append_left this]
   exact hu
  ·have :i<(s.post q).length:=by
    rcases Nat.lt_or_ge i (s.post q).length with h|h
    ·exact h
    ·simp only [zB] at hu
     rw [List.getElem?_eq_none h] at hu;cases hu
   rw [List.getElem?_append_right (by omega),show 0*s.size+s.p+1+i-(s.pre q).length=i+1 by omega,List.getElem?_cons_succ,List.getElem?_append_left this]
   exact hu
 |q::l,cs,k+1,h,hk=>by
  obtain ⟨A,c,cs',rfl,h1,h2,h3,h'⟩:=h
  have hp:=s.hp q
  have hr:=s.hr q
  have skip:=nest_skip (s:=s) (q:=q) (A:=A) (c:=c) (cs':=cs') (k:=k)
  obtain ⟨A',c',g1,g2,g3,g4,g5,g6⟩:=NestC.at_ (k:=k) h' (by simpa using hk)
  refine ⟨A',c',?_,g2,g3,g4,fun i u hu=> ?_,fun i u hu=> ?_⟩
  ·rw [skip];exact g1
  ·rw [skip];exact g5 i u hu
  ·rw [show (k+1)*s.size+s.p+1+i=(k+1)*s.size+(s.p+1+i) by omega,skip,show k*s.size+(s.p+1+i)=k*s.size+s.p+1+i by omega]
   exact g6 i u hu
theorem NestC.snoc:∀ {l:List α} {cs:List Value} {A:Option Addr} {c:Nat} {q:α},NestC s R l cs→(s.mid q).length≤c→c≤maxLen→R A (flds (s.mid q))→NestC s R (l++[q]) (cs++(s.pre q++(.slice A (s.mid q).length c::s.post q)))
 |[],cs,A,c,q,h,h1,h2,h3=>by
  simp only [NestC] at h
  subst h
  exact ⟨A,c,[],by simp,h1,h2,h3,rfl⟩
 |y::l,cs,A,c,q,h,h1,h2,h3=>by
  obtain ⟨A',c',cs',rfl,g1,g2,g3,h'⟩:=h
  exact ⟨A',c',_,by simp,g1,g2,g3,NestC.snoc h' h1 h2 h3⟩
def NestP (s:Shape α) (p:Nat→Prop) (w:World) (A:Option Addr) (l:List α):Prop:=∃ cs,NestC s (RowP p w) l cs∧RowP p w A cs
end
section
variable {α:Type} {s:Shape α} {p q:Nat→Prop} {w w':World} {A:Option Addr} {l:List α}
theorem NestP.nil:NestP s p w A []:=⟨[],rfl,.inl rfl⟩
theorem NestP.keep (h:NestP s p w A l) (hb:∀ b,p b→w'.heap[b]?=w.heap[b]?):NestP s p w' A l:=by
 obtain ⟨cs,h1,h2⟩:=h
 exact ⟨cs,h1.imp fun _ _ h=>h.keep hb,h2.keep hb⟩
theorem NestP.imp (h:NestP s p w A l) (hpq:∀ b,p b→q b):NestP s q w A l:=by
 obtain ⟨cs,h1,h2⟩:=h
 exact ⟨cs,h1.imp fun _ _ h=>h.imp hpq,h2.imp hpq⟩
theorem NestP.at_ (h:NestP s p w A l) {k:Nat} (hk:k<l.length):
  ∃ b off A' c',A=some ⟨b,off,none⟩∧p b∧w.cell? ⟨b,off+k*s.size+s.p,none⟩=some (.slice A' (s.mid l[k]).length c')∧(s.mid l[k]).length≤c'∧c'≤maxLen∧RowP p w A' (flds (s.mid l[k]))∧
   (∀ i u,(s.pre l[k])[i]?=some u→w.cell? ⟨b,off+k*s.size+i,none⟩=some u)∧(∀ i u,(s.post l[k])[i]?=some u→w.cell? ⟨b,off+k*s.size+s.p+1+i,none⟩=some u):=by
 obtain ⟨cs,h1,h2⟩:=h
 obtain ⟨A',c',g1,g2,g3,g4,g5,g6⟩:=h1.at_ hk
 rcases h2 with rfl|⟨b,off,rfl,hb,hc⟩
 ·simp at g1
 ·refine ⟨b,off,A',c',rfl,hb,by have :=hc _ _ g1;rwa [← Nat.add_assoc] at this,g2,g3,g4,fun i u hu=> ?_,fun i u hu=> ?_⟩
  ·have :=hc _ _ (g5 i u hu);rwa [← Nat.add_assoc] at this
  ·have :=hc _ _ (g6 i u hu)
   rwa [show off+(k*s.size+s.p+1+i)=off+k*s.size+s.p+1+i by omega] at this
abbrev Nest (s:Shape α) (w:World) (B:Nat) (A:Option Addr) (l:List α):Prop:=NestP s (fun b=>b<B) w A l
theorem Nest.below {B:Nat} (h:Nest s w B A l) (hb:Below B w w'):Nest s w' B A l:=h.keep fun b hb'=>hb.block b hb'
theorem Nest.more {B B':Nat} (h:Nest s w B A l) (hB:B≤B'):Nest s w B' A l:=h.imp fun b hb=>Nat.lt_of_lt_of_le hb hB
theorem Nest.later (h:Nest s w w.heap.size A l) (hb:Below w.heap.size w w'):Nest s w' w'.heap.size A l:=Nest.more (Nest.below h hb) hb.size
end
def docS:Shape Dc:=⟨1,0,fun q=>[.int .i64 q.1],fun q=>q.2,fun _=>[],fun _=>rfl,fun _=>rfl⟩
def enS:Shape En:=⟨1,1,fun q=>[.int .i64 q.1],fun q=>q.2.1,fun q=>[.int .i64 q.2.2],fun _=>rfl,fun _=>rfl⟩
theorem docS_at {p:Nat→Prop} {w:World} {A:Option Addr} {l:List Dc} (h:NestP docS p w A l) {k:Nat} (hk:k<l.length):
  ∃ b off A' c',A=some ⟨b,off,none⟩∧p b∧w.cell? ⟨b,off+k*2,none⟩=some (.int .i64 l[k].1)∧w.cell? ⟨b,off+k*2+1,none⟩=some (.slice A' l[k].2.length c')∧l[k].2.length≤c'∧c'≤maxLen∧RowP p w A' (flds l[k].2):=by
 obtain ⟨b,off,A',c',e,hb,g1,g2,g3,g4,g5,_⟩:=h.at_ hk
 exact ⟨b,off,A',c',e,hb,g5 0 _ rfl,g1,g2,g3,g4⟩
section
variable {base:Nat} {w w':World} {v v':Value} {l:List En}
end
theorem info_entry:(Tryz.prog.info? 55).map (fun i=>(i.zero,i.size,i.bytes))=some (some (.agg #[.int .i64 0,.slice none 0 0,.int .i64 0]),3,40):=by kernel_rfl
end Go.Proofs.YtmoomnpbiifedaaGreat
set_option linter.unusedVariables false
namespace Go.Proofs.YtmoomnpbiifedaaGreat
def putB (n:Nat):List UInt8:=if n<128 then [UInt8.ofNat n] else UInt8.ofNat (128+n%128)::putB (n/128)
termination_by n
decreasing_by omega
theorem putB_small {n:Nat} (h:n<128):putB n=[UInt8.ofNat n]:=by rw [putB,if_pos h]
theorem putB_big {n:Nat} (h:128≤n):putB n=UInt8.ofNat (128+n%128)::putB (n/128):=by rw [putB,if_neg (by omega)]
theorem byte_nat {n:Nat} (h:n<256):(UInt8.ofNat n).toNat=n:=by simp;omega
theorem putB_pos (n:Nat):0<(putB n).length:=by
 by_cases h:n<128
 ·rw [putB_small h];simp
 ·rw [putB_big (by omega)];simp
theorem putB_le {k:Nat}:∀ {n:Nat},n<128^(k+1)→(putB n).length≤k+1:=by
 induction k with
 |zero=>intro n h;rw [putB_small (by simpa using h)];simp
 |succ k ih=>
  intro n h
  by_cases h1:n<128
  ·rw [putB_small h1];simp
  ·rw [putB_big (by omega),List.length_cons]
   have :=ih (n:=n/128) (by rw [Nat.pow_succ] at h;exact Nat.div_lt_of_lt_mul (by rw [Nat.mul_comm];exact h))
   omega
theorem putB_nine {n:Nat} (h:n<9223372036854775808):(putB n).length≤9:=putB_le (k:=8) (by simpa using h)
def risesZ:Int→List Int→Bool
 |_,[]=>true
 |last,n::r=>decide (last<n)&&risesZ n r
def dB:Int→List Int→List UInt8
 |_,[]=>[]
 |last,n::r=>putB (n-(last+1)).toNat++dB n r
def putR (l:List Int):List UInt8:=putB l.length++dB (-1) l
theorem dB_length:∀ (l:List Int) (last:Int), -1≤last→risesZ last l=true→(∀ x∈l,x≤9223372036854775807)→(dB last l).length≤9*l.length
 |[],_,_,_,_=>by simp [dB]
 |n::r,last,h,hr,hb=>by
  rw [risesZ,Bool.and_eq_true,decide_eq_true_iff] at hr
  have hn:=hb n (by simp)
  rw [dB,List.length_append,List.length_cons]
  have h1:=putB_nine (n:=(n-(last+1)).toNat) (by omega)
  have h2:=dB_length r n (by omega) hr.2 fun x hx=>hb x (by simp [hx])
  omega
end Go.Proofs.YtmoomnpbiifedaaGreat
