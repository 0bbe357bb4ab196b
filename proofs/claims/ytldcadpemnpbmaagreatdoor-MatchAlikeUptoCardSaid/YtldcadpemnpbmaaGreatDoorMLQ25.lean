import Derived.Test.YtldcadpemnpbmaaGreatDoorMLQ24
import Derived.Test.YtldcadpemnpbmaaGreatDoorMLQ04
import Derived.Test.YtldcadpemnpbmaaGreatDoorMLQ09
import Derived.Test.YtldcadpemnpbmaaGreatDoorMLQ07
import Derived.Test.YtldcadpemnpbmaaGreatDoorMLQ01
import Derived.Test.YtldcadpemnpbmaaGreatDoorMLQ02
import Derived.Deep.AppendLies
import Derived.Maps.AppendAt
import Derived.Test.YtldcadpemnpbmaaGreatDoorMLQ05
import Derived.Test.YtldcadpemnpbmaaGreatDoorMLQ03
set_option linter.unusedVariables false
namespace Go.Proofs.YtldcadpemnpbmaaGreatDoor
open Go Go.RowKit Go.Sort Go.Shelf
abbrev Tm':={t:Tm//t.1.length≤536870912∧t.2.length≤536870912}
instance:Inhabited Tm':=⟨⟨([],[]),by simp,by simp⟩⟩
def encS (x:Tm'):List Value:=[.string ⟨x.1.1.toArray⟩,.string ⟨x.1.2.toArray⟩]
def cfS (x y:Tm'):Int:=cmpN (keyT x.1) (keyT y.1)
theorem cmpN_neg {x y:Nm}:cmpN x y<0↔x<y:=by
 unfold cmpN
 by_cases h:x<y
 ·simp [h]
 ·rw [if_neg h]
  split<;>simp [h]
theorem ltS_iff (x y:Tm'):ltOf cfS x y=decide (keyT x.1<keyT y.1):=by
 unfold ltOf cfS
 rw [Bool.eq_iff_iff,decide_eq_true_iff,decide_eq_true_iff]
 exact cmpN_neg
theorem swoS:SWO (ltOf cfS):=by
 refine ⟨fun x=> ?_,fun x y z h1 h2=> ?_,fun x y z h1 h2=> ?_⟩
 ·rw [ltS_iff];simp
 ·rw [ltS_iff,decide_eq_true_iff] at*;exact nm_trans h1 h2
 ·rw [ltS_iff,decide_eq_false_iff_not] at*
  intro h3
  rcases nm_tri (keyT x.1) (keyT y.1) with e|e|e
  ·exact h1 e
  ·rw [e] at h3;exact h2 h3
  ·exact h2 (nm_trans e h3)
theorem cmp_lays (blk off size:Nat) (w:World):CmpLays Tryz.prog 218 #[] encS 2 cfS blk off size w:=by
 intro m os dk hs x y
 obtain ⟨⟨x1,x2⟩,hx1,hx2⟩:=x
 obtain ⟨⟨y1,y2⟩,hy1,hy2⟩:=y
 have sz:∀ l:Nm,(⟨l.toArray⟩:ByteArray).size=l.length:=fun l=>by simp [ByteArray.size]
 have h:=invert_cmp ⟨x1.toArray⟩ ⟨x2.toArray⟩ ⟨y1.toArray⟩ ⟨y2.toArray⟩ (sortWorldK encS 2 w blk off m dk os) (by rw [sz];simp at hx1;omega) (by rw [sz];simp at hx2;omega) (by rw [sz];simp at hy1;omega) (by rw [sz];simp at hy2;omega)
 exact h
theorem flatK_list (ts:List Tm'):(flatK encS 2 ts.toArray).toList=flds (ts.map (·.1)):=by
 apply List.ext_getElem?
 intro j
 have hsz:(flatK encS 2 ts.toArray).toList.length=ts.length*2:=by rw [Array.length_toList,size_flatK];simp
 have hf:(flds (ts.map (·.1))).length=ts.length*2:=by rw [flds_length,List.length_map]
 by_cases hj:j<ts.length*2
 ·have h1:=get_flatK encS 2 ts.toArray j (by simpa using hj)
  have hk:j/2<ts.length:=by omega
  obtain ⟨g1,g2⟩:=flds_at (l:=ts.map (·.1)) (k:=j/2) (by simpa using hk)
  have hgd:ts.toArray[j/2]! =ts[j/2]:=by rw [getElem!_pos _ _ (by simpa using hk)];simp
  rw [hgd] at h1
  rw [List.getElem?_eq_getElem (by omega)]
  have h2:(flatK encS 2 ts.toArray).toList[j]'(by omega)=(flatK encS 2 ts.toArray)[j]! :=by
   rw [getElem!_pos _ _ (by rw [size_flatK];simpa using hj)];simp
  rw [h2,h1]
  rcases Nat.mod_two_eq_zero_or_one j with e|e
  ·have e3:(flds (ts.map (·.1)))[j]?=(flds (ts.map (·.1)))[j/2*2]?:=congrArg (fun k=>(flds (ts.map (·.1)))[k]?) (by omega)
   rw [e3,g1,e]
   simp [encS]
  ·have e3:(flds (ts.map (·.1)))[j]?=(flds (ts.map (·.1)))[j/2*2+1]?:=congrArg (fun k=>(flds (ts.map (·.1)))[k]?) (by omega)
   rw [e3,g2,e]
   simp [encS]
 ·rw [List.getElem?_eq_none (by omega),List.getElem?_eq_none (by omega)]
theorem heap_rowK {w:World} {g n:Nat} {os:Array Obj} {cur:Array Value} {e:TypeId} {fr:Nat × Nat} (F:Array Value) (hb:w.heap[g]?=some (.cells cur e fr)):
  (grow (putRow id (Sort.ahead w n) g 0 F) os).heap[g]?=some (.cells (putCells id 0 F cur) e fr):=by
 have hg:g<w.heap.size:=(Array.getElem?_eq_some_iff.1 hb).1
 rw [heap_grow_old _ _ (by simpa using hg)]
 simp [putRow,mapBlock,Sort.ahead,Array.getElem?_modify,hb,onCells]
theorem grown_rowK {w:World} {g n:Nat} {os:Array Obj} (F:Array Value):w.grownBy (grow (putRow id (Sort.ahead w n) g 0 F) os) (some g):=by
 refine ⟨rfl,rfl,rfl,by simp,fun k hk hne=> ?_⟩
 rw [heap_grow_old _ _ (by simpa using hk)]
 have :g≠k:=fun e=>hne (by rw [e])
 simp [putRow,mapBlock,Sort.ahead,Array.getElem?_modify,this]
theorem take_rowK (cur F:Array Value) (h:F.size≤cur.size):(putCells id 0 F cur).toList.take F.size=F.toList:=by
 apply List.ext_getElem?
 intro j
 by_cases hj:j<F.size
 ·rw [List.getElem?_take_of_lt hj,Array.getElem?_toList]
  simp [putCells,hj,show j<cur.size by omega]
 ·rw [List.getElem?_take_eq_none (by omega),List.getElem?_eq_none (by simp;omega)]
theorem sort_tm (base:Nat) (v:Value) (ts:List Tm) (w:World) (ho:OwnTm base w v ts) (hb:base≤w.heap.size) (hf:∀ t∈ts,t.1.length≤536870912∧t.2.length≤536870912) (hbig:ts.length≤1073741824):
  Calls Tryz.prog 259 #[v,.func (.func 218) #[] #[]] w fun e w'=>e= .returned (.tuple #[])∧∃ ts':List Tm,ts'.Perm ts∧(ts'.Pairwise fun s t=>¬ keyT t<keyT s)∧OwnTm base w' v ts'∧Below base w w':=by
 rcases ho.2 with ⟨rfl,h0⟩|⟨g,cap,cur,rfl,hbase,hh,h1,h2,h3,h4⟩
 ·obtain rfl:ts=[]:=List.eq_nil_of_length_eq_zero h0
  exact (AnyF.slices_SortFunc_none (ρ:=laySortTm_ren) laySortTm none 0 _ w).mono fun e w' ⟨he,hw⟩=>⟨he,[],List.Perm.refl _,List.Pairwise.nil,by rw [hw];exact OwnTm.nil,by rw [hw];exact Below.refl _ _⟩
 ·obtain ⟨us,hus⟩:∃ us:List Tm',us.map (·.1)=ts:=⟨ts.attach.map fun x=>⟨x.1,hf x.1 x.2⟩,by rw [List.map_map];exact List.attach_map_subtype_val ts⟩
  have hul:us.length=ts.length:=by rw [← hus,List.length_map]
  have hH:HoldsK encS 2 w g 0 us.toArray:=by
   unfold HoldsK
   intro j hj
   rw [size_flatK] at hj
   have hj':j<ts.length*2:=by simpa [hul] using hj
   refine ⟨?_,by simp [World.frozen?,hh]⟩
   have e1:(flatK encS 2 us.toArray)[j]?=(flds ts)[j]?:=by rw [← Array.getElem?_toList,flatK_list,hus]
   have e2:(flds ts)[j]?=cur[j]?:=by
    rw [← h4,List.getElem?_take_of_lt hj',Array.getElem?_toList]
   have e3:(flatK encS 2 us.toArray)[j]?=some (flatK encS 2 us.toArray)[j]! :=by rw [getElem!_pos _ _ (by rw [size_flatK];exact hj),Array.getElem?_eq_getElem]
   simp only [World.cell?,hh,Nat.zero_add,Option.isSome_none,Bool.false_eq_true,if_false,id]
   rw [← e3,e1,e2]
  have hsort:=AnyQ.slices_SortFunc (ρ:=laySortTm_ren) laySortTm 2 Tryz.isAgg23 Tryz.sizeOf23 encS (fun _=>rfl) (fun x u hu=>by simp [encS] at hu;rcases hu with rfl|rfl<;>rfl) cfS swoS 218 #[] g 0 cap us.toArray w (enters_of Tryz.func218 (by kernel_rfl) rfl) (cmp_lays _ _ _ _) hH (Array.getElem?_eq_some_iff.1 hh).1 (by simp [hul];omega)
  rw [show us.toArray.size=ts.length by simp [hul]] at hsort
  refine hsort.mono fun e w' ⟨he,d',n,os,hp,hs,hw⟩=>⟨he,d'.toList.map (·.1),?_,?_,?_,?_⟩
  ·obtain ⟨p1,p2,p3⟩:=hp
   have q1:d'.size=ts.length:=by rw [p1];simp [hul]
   rw [show d'.extract 0 ts.length=d' by rw [← q1];simp,show us.toArray.extract 0 ts.length=us.toArray by rw [← hul];simp] at p3
   rw [← hus]
   exact p3.map _
  ·have q1:d'.size=ts.length:=by rw [hp.1];simp [hul]
   rw [List.pairwise_map,List.pairwise_iff_getElem]
   intro i j hi hj hij
   have :=hs i j (Nat.zero_le _) hij (by rw [← q1];simpa using hj)
   rw [ltS_iff,decide_eq_false_iff_not,getElem!_pos d' j (by simpa using hj),getElem!_pos d' i (by simpa using hi)] at this
   simpa using this
  ·have q1:d'.size=ts.length:=by rw [hp.1];simp [hul]
   have q2:(flatK encS 2 d').toList=flds (d'.toList.map (·.1)):=by have :=flatK_list d'.toList;simpa using this
   have q3:(flatK encS 2 d').size=ts.length*2:=by rw [size_flatK,q1]
   rw [hw]
   have hlen:(d'.toList.map (·.1)).length=ts.length:=by simp [q1]
   refine ⟨by rw [flds_length],.inr ⟨g,cap,putCells id 0 (flatK encS 2 d') cur,by rw [hlen],hbase,heap_rowK _ hh,by rw [hlen];exact h1,h2,by simp [putCells,h3],?_⟩⟩
   rw [hlen,← q3,take_rowK _ _ (by rw [q3,h3];exact Nat.mul_le_mul_right _ h1),q2]
  ·rw [hw]
   exact (Below.refl base w).grown (grown_rowK _) hb (fun j hj=>by cases hj;exact hbase)
end Go.Proofs.YtldcadpemnpbmaaGreatDoor
set_option linter.unusedVariables false
namespace Go.Proofs.YtldcadpemnpbmaaGreatDoor
open Go Go.RowKit
set_option maxHeartbeats 1000000 in
theorem keys_collect (Bx B:Nat) (m:List Ent) (w:World) (hm:MapAt w B m) (hc:w.cell? ⟨Bx,0,none⟩=some (.map (some B))) (hl:m.length≤134217727):
  Calls Tryz.prog 258 #[.func (.func 260) #[] #[.pointer (some ⟨Bx,0,none⟩)]] w (GotKeys (m.map (·.1)) w):=by
 have HA:=Lib.hid (keys_append Bx B m w hm hc hl)
 clear hm hc
 go_enter Tryz.func258,Tryz.ntmps258
 go_wp2_with (go_at_call 289;(with_reducible refine HA.out.mono ?_);rintro e w' ⟨v,ts,rfl,hp,ho,hb⟩)
 go_ret
 exact ⟨v,ts,rfl,hp,ho,hb⟩
def GotSorted (ks:List Tm) (w:World) (e:Ending) (w':World):Prop:=∃ v ts,e= .returned v∧ts.Perm ks∧(ts.Pairwise fun s t=>¬ keyT t<keyT s)∧OwnTm w.heap.size w' v ts∧Below w.heap.size w w'
set_option maxHeartbeats 2000000 in
theorem keys_sorted (Bx B:Nat) (m:List Ent) (w:World) (hm:MapAt w B m) (hc:w.cell? ⟨Bx,0,none⟩=some (.map (some B))) (hl:m.length≤134217727) (hf:∀ t∈m.map (·.1),t.1.length≤536870912∧t.2.length≤536870912):
    Calls Tryz.prog 216 #[.func (.func 260) #[] #[.pointer (some ⟨Bx,0,none⟩)],.func (.func 218) #[] #[]] w (GotSorted (m.map (·.1)) w):=by
  have HA:=Lib.hid (keys_collect Bx B m w hm hc hl)
  have HF:=Lib.hid hf
  have hks:(m.map (·.1)).length≤134217727:=by simpa using hl
  obtain ⟨ks,hk⟩:∃ ks,ks=m.map (·.1):=⟨_,rfl⟩
  rw [← hk] at hks HA HF ⊢
  clear hm hc hf hk
  go_enter Tryz.func216,Tryz.ntmps216
  go_wp2_with (first
    | (go_at_call 258; (with_reducible refine HA.out.mono ?_); rintro e w1 ⟨v, ts, rfl, hp, ho, hb⟩
       have hlt:ts.length≤134217727:=by rw [hp.length_eq];exact hks
       have HS:=Lib.hid (sort_tm w.heap.size v ts w1 ho hb.size (fun t ht=>HF.out t (hp.mem_iff.1 ht)) (by omega))
       have HP:=Lib.hid hp
       have HB:=Lib.hid hb
       clear hp ho hb)
    |(go_at_call 259;(with_reducible refine HS.out.mono ?_);rintro e w2 ⟨rfl,ts2,hp2,hs2,ho2,hb2⟩))
  go_ret
  exact ⟨v,ts2,rfl,hp2.trans HP.out,hs2,ho2,HB.out.trans hb2⟩
end Go.Proofs.YtldcadpemnpbmaaGreatDoor
set_option linter.unusedVariables false
namespace Go.Proofs.YtldcadpemnpbmaaGreatDoor
open Go Go.RowKit
def OwnI (base:Nat) (w:World) (v:Value) (l:List Int):Prop:=w.ownsRow base 3 1 v l.length (ints l)
theorem OwnI.nil {base:Nat} {w:World}:OwnI base w (.slice none 0 0) []:=World.ownsRow_nil _ _ _ _
def GrAt (base:Nat) (w:World) (B:Nat) (g:List Gr):Prop:=∃ m:List Ent,MapAt w B m∧base≤B∧m.length=g.length∧
 (∀ (i:Nat) (e:Ent) (p:Gr),m[i]?=some e→g[i]?=some p→e.1=p.1∧OwnI base w e.2 p.2)∧
 ∀ (i j:Nat) (e f:Ent) (k:Nat),i≠j→m[i]?=some e→m[j]?=some f→e.2.ownBlock=some k→f.2.ownBlock≠some k
theorem owned_not_map {base:Nat} {w:World} {v:Value} {l:List Int} (h:OwnI base w v l) {B:Nat} {es:Array MapEntry} {c:Nat} (hB:w.heap[B]?=some (.map es c)):v.ownBlock≠some B:=by
 intro he
 rcases h.2 with ⟨rfl,_⟩|⟨g,cap,cur,rfl,_,hh,_⟩
 ·cases he
 ·simp only [Value.ownBlock,Option.some.injEq] at he
  subst he
  rw [hh] at hB
  cases hB
theorem GrAt.lt {base:Nat} {w:World} {B:Nat} {g:List Gr} (h:GrAt base w B g):B<w.heap.size:=by obtain ⟨m,h1,_⟩:=h;exact (Array.getElem?_eq_some_iff.1 h1).1
theorem GrAt.made (w:World):GrAt w.heap.size (w.alloc (.map #[] 0)) w.heap.size []:=⟨[],heap_alloc_new w _,Nat.le_refl _,rfl,by simp,by simp⟩
theorem GrAt.below {base:Nat} {w w':World} {B:Nat} {g:List Gr} (h:GrAt base w B g) (hb:Below w.heap.size w w'):GrAt base w' B g:=by
 have hlt:=h.lt
 obtain ⟨m,h1,h2,h3,h4,h5⟩:=h
 exact ⟨m,(hb.block B hlt).trans h1,h2,h3,fun i e p he hp=>⟨(h4 i e p he hp).1,owned_below (h4 i e p he hp).2 hb⟩,h5⟩
theorem posM_getG {base:Nat} {w:World}:∀ {m:List Ent} {g:List Gr} (t:Tm),m.length=g.length→(∀ (i:Nat) (e:Ent) (p:Gr),m[i]?=some e→g[i]?=some p→e.1=p.1∧OwnI base w e.2 p.2)→OwnI base w (valM m t) (getG g t)
 |[],g,t,hl,h=>by
  cases g with
  |nil=>exact OwnI.nil
  |cons p g=>cases hl
 |e::m,g,t,hl,h=>by
  cases g with
  |nil=>cases hl
  |cons p g=>
   obtain ⟨h1,h2⟩:=h 0 e p rfl rfl
   have ih:=posM_getG (m:=m) (g:=g) t (by simpa using hl) fun i e' p' he hp=>h (i+1) e' p' (by simpa using he) (by simpa using hp)
   rw [getG]
   by_cases ht:e.1=t
   ·have hp:posM (e::m) t=0:=by unfold posM;rw [List.findIdx_cons];simp [ht]
    have hv:valM (e::m) t=e.2:=by unfold valM;simp [hp]
    rw [if_pos (by rw [← h1];exact ht),hv]
    exact h2
   ·have hp:posM (e::m) t=posM m t+1:=by unfold posM;rw [List.findIdx_cons];simp [ht]
    have hv:valM (e::m) t=valM m t:=by unfold valM;simp [hp]
    rw [if_neg (by rw [← h1];exact ht),hv]
    exact ih
theorem GrAt.look {base:Nat} {w:World} {B:Nat} {g:List Gr} (h:GrAt base w B g) (t:Tm):∃ v,(∃ m,MapAt w B m∧valM m t=v)∧OwnI base w v (getG g t):=by
 obtain ⟨m,h1,h2,h3,h4,h5⟩:=h
 exact ⟨_,⟨m,h1,rfl⟩,posM_getG t h3 h4⟩
theorem addG_at:∀ {m:List Ent} {g:List Gr} {t:Tm} {a:Int},m.length=g.length→(∀ (i:Nat) (e:Ent) (p:Gr),m[i]?=some e→g[i]?=some p→e.1=p.1)→
  (addG g t a).length=(entM m t).length∧(addG g t a)[posM m t]?=some (t,getG g t++[a])∧∀ i p,i≠posM m t→(addG g t a)[i]?=some p→g[i]?=some p
 |[],g,t,a,hl,h=>by
  cases g with
  |nil=>refine ⟨by simp [addG,entM,posM],by simp [addG,posM,getG],fun i p hi hp=> ?_⟩;cases i with|zero=>simp [posM] at hi|succ i=>simp [addG] at hp
  |cons p g=>cases hl
 |e::m,g,t,a,hl,h=>by
  cases g with
  |nil=>cases hl
  |cons p g=>
   have h1:=h 0 e p rfl rfl
   obtain ⟨i1,i2,i3⟩:=addG_at (m:=m) (g:=g) (t:=t) (a:=a) (by simpa using hl) fun i e' p' he hp=>h (i+1) e' p' (by simpa using he) (by simpa using hp)
   have hl':m.length=g.length:=by simpa using hl
   rw [addG]
   by_cases ht:e.1=t
   ·have hp:posM (e::m) t=0:=by unfold posM;rw [List.findIdx_cons];simp [ht]
    have ht':p.1=t:=by rw [← h1];exact ht
    rw [if_pos ht',hp]
    refine ⟨by simp [entM,hp,hl'],by simp [getG,ht'],fun i q hi hq=> ?_⟩
    cases i with
    |zero=>exact absurd rfl hi
    |succ i=>simpa using hq
   ·have hp:posM (e::m) t=posM m t+1:=by unfold posM;rw [List.findIdx_cons];simp [ht]
    have ht':¬ p.1=t:=by rw [← h1];exact ht
    have he:(entM (e::m) t).length=(entM m t).length+1:=by
     unfold entM
     rw [hp]
     by_cases hq:posM m t<m.length
     ·rw [if_pos hq,if_pos (by simpa using hq)];rfl
     ·rw [if_neg hq,if_neg (by simpa using hq)];simp
    rw [if_neg ht',hp]
    refine ⟨by rw [he,List.length_cons,i1],by rw [List.getElem?_cons_succ,i2,getG,if_neg ht'],fun i q hi hq=> ?_⟩
    cases i with
    |zero=>simpa using hq
    |succ i=>simpa using i3 i q (by omega) (by simpa using hq)
theorem GrAt.added {base:Nat} {w w3:World} {B:Nat} {g:List Gr} {m:List Ent} {t:Tm} {a:Int} {v':Value}
  (h1:MapAt w B m) (h2:base≤B) (h3:m.length=g.length) (h4:∀ (i:Nat) (e:Ent) (p:Gr),m[i]?=some e→g[i]?=some p→e.1=p.1∧OwnI base w e.2 p.2)
  (h5:∀ (i j:Nat) (e f:Ent) (k:Nat),i≠j→m[i]?=some e→m[j]?=some f→e.2.ownBlock=some k→f.2.ownBlock≠some k)
  (hk:∀ (k:Nat),k<w.heap.size→k≠B→(valM m t).ownBlock≠some k→w3.heap[k]?=w.heap[k]?)
  (hm:∀ hp:posM m t<(entM m t).length,MapAt w3 B ((entM m t).set (posM m t) ((entM m t)[posM m t].1,v'))) (ho:OwnI base w3 v' (getG g t++[a])) (hn:v'.ownBlock=(valM m t).ownBlock∨∀ k,v'.ownBlock=some k→w.heap.size≤k):GrAt base w3 B (addG g t a):=by
 obtain ⟨p1,p2⟩:=posM_entM m t
 obtain ⟨q1,q2,q3⟩:=addG_at (a:=a) (t:=t) h3 fun i e p he hp=>(h4 i e p he hp).1
 have hB:B<w.heap.size:=(Array.getElem?_eq_some_iff.1 h1).1
 have hp2:(entM m t)[posM m t]=(t,valM m t):=by rw [List.getElem?_eq_getElem p1] at p2;exact Option.some.inj p2
 have hm':=hm p1
 rw [hp2] at hm'
 have hm2:MapAt w3 B ((entM m t).set (posM m t) (t,v')):=hm'
 have hent:∀ (i:Nat) (e:Ent),i≠posM m t→(entM m t)[i]?=some e→m[i]?=some e:=fun i e hi he=>by
  unfold entM at he
  split at he
  ·exact he
  ·rename_i hlt
   have hle:posM m t≤m.length:=List.findIdx_le_length
   rw [List.getElem?_append] at he
   split at he
   ·exact he
   ·rename_i h6
    have :i≠m.length:=by omega
    rw [List.getElem?_eq_none (by simp;omega)] at he
    cases he
 have hval:∀ (i:Nat) (e:Ent) (k:Nat),i≠posM m t→m[i]?=some e→e.2.ownBlock=some k→(valM m t).ownBlock≠some k:=fun i e k hi he hk'=>by
  unfold valM
  split
  ·rename_i hlt
   exact h5 i (posM m t) e _ k hi he (List.getElem?_eq_getElem hlt) hk'
  ·intro hh;cases hh
 refine ⟨_,hm2,h2,by rw [List.length_set,q1],fun i e p he hp=> ?_,fun i j e f k hij he hf hk'=> ?_⟩
 ·rw [List.getElem?_set] at he
  by_cases hi:posM m t=i
  ·subst hi
   rw [if_pos rfl,if_pos p1] at he
   rw [q2] at hp
   cases he
   cases hp
   exact ⟨rfl,ho⟩
  ·rw [if_neg hi] at he
   have he':=hent i e (fun h=>hi h.symm) he
   have hp':=q3 i p (fun h=>hi h.symm) hp
   obtain ⟨r1,r2⟩:=h4 i e p he' hp'
   refine ⟨r1,owned_keep r2 fun k hk'=> ?_⟩
   exact hk k (r2.lt k hk').2 (fun e=>owned_not_map r2 h1 (by rw [hk',e])) (hval i e k (fun h=>hi h.symm) he' hk')
 ·rw [List.getElem?_set] at he hf
  have hother:∀ (x:Nat) (u:Ent),posM m t≠x→(entM m t)[x]?=some u→∀ k,u.2.ownBlock=some k→v'.ownBlock≠some k:=fun x u hx hu k hk2 hv=>by
   have hu':=hent x u (fun h=>hx h.symm) hu
   rcases hn with hn|hn
   ·rw [hn] at hv
    exact hval x u k (fun h=>hx h.symm) hu' hk2 hv
   ·have hlx:x<g.length:=by rw [← h3];exact (List.getElem?_eq_some_iff.1 hu').1
    have :=((h4 x u _ hu' (List.getElem?_eq_getElem hlx)).2.lt k hk2).2
    have :=hn k hv
    omega
  by_cases hi:posM m t=i
  ·subst hi
   rw [if_pos rfl,if_pos p1] at he
   cases he
   rw [if_neg hij] at hf
   intro hf2
   exact hother j f hij hf k hf2 hk'
  ·rw [if_neg hi] at he
   by_cases hj:posM m t=j
   ·subst hj
    rw [if_pos rfl,if_pos p1] at hf
    cases hf
    exact hother i e hi he k hk'
   ·rw [if_neg hj] at hf
    exact h5 i j e f k hij (hent i e (fun h=>hi h.symm) he) (hent j f (fun h=>hj h.symm) hf) hk'
end Go.Proofs.YtldcadpemnpbmaaGreatDoor
namespace Go.Proofs.YtldcadpemnpbmaaGreatDoor
open Go Go.RowKit
set_option linter.unusedVariables false
structure Softly (base:Nat) (w w':World):Prop where
 below:Below base w w'
 keep:∀ (k:Nat) (cs:Array Value) (t:TypeId) (fr:Nat × Nat),w.heap[k]?=some (.cells cs t fr)→t≠3→w'.heap[k]?=some (.cells cs t fr)
theorem Softly.refl (base:Nat) (w:World):Softly base w w:=⟨Below.refl _ _,fun _ _ _ _ h _=>h⟩
theorem Softly.trans {base:Nat} {w w1 w2:World} (h:Softly base w w1) (k:Softly base w1 w2):Softly base w w2:=⟨h.below.trans k.below,fun i cs t fr hi ht=>k.keep i cs t fr (h.keep i cs t fr hi ht) ht⟩
theorem Softly.of {base:Nat} {w w1:World} (h:Below w.heap.size w w1) (hb:base≤w.heap.size):Softly base w w1:=⟨h.mono hb,fun k cs t fr hk _=>(h.block k (Array.getElem?_eq_some_iff.1 hk).1).trans hk⟩
theorem Softly.owned {base base':Nat} {w w1:World} {e:TypeId} {size:Nat} {v:Value} {n:Nat} {xs:List Value} (h:Softly base w w1) (ho:w.ownsRow base' e size v n xs) (he:e≠3):w1.ownsRow base' e size v n xs:=by
 refine ⟨ho.1,?_⟩
 rcases ho.2 with h1|⟨g,cap,cur,h1,h2,h3,h4⟩
 ·exact .inl h1
 ·exact .inr ⟨g,cap,cur,h1,h2,h.keep g _ _ _ h3 he,h4⟩
theorem grown_cell {w w':World} {row:Option Nat} (hg:w.grownBy w' row) {p:Addr} {v:Value} (h:w.cell? p=some v) (hne:row≠some p.block):w'.cell? p=some v:=by
 have hb:=hg.block p.block (World.block_lt_of_cell? w _ h) (fun e=>hne e.symm)
 rw [← h]
 simp [World.cell?,hb]
def ToldS (base B:Nat) (g:List Gr) (w:World) (e:Ending) (w':World):Prop:=e= .returned (.tuple #[])∧GrAt base w' B g∧Softly base w w'
set_option maxHeartbeats 2000000 in
set_option maxRecDepth 100000 in
theorem stands_tell (base B Bm:Nat) (g:List Gr) (x y:ByteArray) (a:Int) (w:World) (h:GrAt base w B g) (hc:w.cell? ⟨Bm,0,none⟩=some (.map (some B))) (hbase:base≤w.heap.size) (hlen:(getG g (x.data.toList,y.data.toList)).length≤1073741824):
    Calls Tryz.prog 246 #[.agg #[.string x,.string y],.int .i64 a,.pointer (some ⟨Bm,0,none⟩)] w (ToldS base B (addG g (x.data.toList,y.data.toList) a) w):=by
  obtain ⟨i0,hi0,hz0,hz1,hz2⟩:=info_parts info_int
  have hB:=h.lt
  obtain ⟨m,h1,h2,h3,h4,h5⟩:=h
  obtain ⟨t,ht⟩:∃ t:Tm,t=(x.data.toList,y.data.toList):=⟨_,rfl⟩
  rw [← ht] at hlen ⊢
  have hown:OwnI base w (valM m t) (getG g t):=posM_getG t h3 h4
  obtain ⟨p1,p2⟩:=posM_entM m t
  have hadd:=fun (w3:World) (v':Value)=>GrAt.added (w3:=w3) (a:=a) (v':=v') (t:=t) h1 h2 h3 h4 h5
  obtain ⟨p,hp⟩:∃ p,p=posM m t:=⟨_,rfl⟩
  obtain ⟨l,hl⟩:∃ l,l=getG g t:=⟨_,rfl⟩
  obtain ⟨v,hv⟩:∃ v,v=valM m t:=⟨_,rfl⟩
  have HADD:=Lib.hid hadd
  have HT:=Lib.hid ht
  have HM:=Lib.hid h1
  have HP:=Lib.hid hp
  have HL:=Lib.hid hl
  have HV:=Lib.hid hv
  have hapart:=owned_not_map hown h1
  rw [← hv,← hl] at hown
  rw [← hv] at hapart
  rw [← hl] at hlen
  rw [← hp] at p1
  clear hadd ht h1 h3 h4 h5 hp hl hv p2
  have hcm:=Lib.hid (fun w' (hb:Below w.heap.size w w')=>(hb.cell (p:=⟨Bm,0,none⟩) (World.block_lt_of_cell? w _ hc)).trans hc)
  go_enter Tryz.func246,Tryz.ntmps246
  have b0:Below w.heap.size w ((w.alloc (.cells #[.string x,.string y] 23)).alloc (.cells #[.int .i64 a] 3)):=((Below.refl _ w).alloc (Nat.le_refl _) _).alloc (by simp) _
  obtain ⟨W1,hW1⟩:∃ W1,W1=(w.alloc (.cells #[.string x,.string y] 23)).alloc (.cells #[.int .i64 a] 3):=⟨_,rfl⟩
  rw [← hW1] at b0
  have hM1:MapAt W1 B m:=(b0.block B hB).trans HM.out
  have hs1:W1.heap.size=w.heap.size+2:=by rw [hW1];simp
  have hn1:W1.cell? ⟨w.heap.size+1,0,none⟩=some (.int .i64 a):=by
    rw [hW1]
    simp
  have hown1:OwnI base W1 v l:=owned_below hown b0
  have hk1:∀ k,k<w.heap.size→W1.heap[k]?=w.heap[k]?:=fun k hk=>b0.block k hk
  have HCB:=hcm.out _ ((Below.refl _ w).alloc (Nat.le_refl _) (.cells #[.string x,.string y] 23))
  have hy:Value.agg #[.string x,.string y]=tV t:=by rw [HT.out];rfl
  have HW1:=Lib.hid hW1
  have HY:=Lib.hid hy
  clear hW1 hy
  go_wp2_with (first
    | (refine wpList_entry_tm _ (by rfl) _ _ (by rfl) B m t (by rfl) (by rw [← HW1.out]; exact hM1) (by rw [← HY.out]; rfl) ?_
       rw [← HW1.out,← HV.out,← HP.out]
       intro w2 hM2 hg2
       have hown2:OwnI base w2 v l:=hown1.kept hg2 (.inr hapart)
       have hs2:W1.heap.size≤w2.heap.size:=hg2.size
       have hn2:w2.cell? ⟨w.heap.size+1,0,none⟩=some (.int .i64 a):=grown_cell hg2 hn1 (by simp;omega))
    | (at_builtin; refine wpList_append_own_at _ rfl _ _ 88 rfl base 3 i0 _ 1 8 Tryz.underlying88 hi0 hz0 hz1 hz2 rfl (by omega) v l.length (ints l) (by rfl) hown2 ⟨w.heap.size + 1, 0, none⟩ 1 1 [.int .i64 a] (by rfl) rfl (by intro j u hj; match j, hj with | 0, hj => (simp at hj; subst hj; simpa [Addr.add] using hn2)) (by intro u hu; simp at hu; subst hu; rfl) (by unfold maxLen; omega) (by omega) (by omega) ?_
       intro v' w3 hown3 hg3 _ hat3
       have hM3:MapAt w3 B (entM m t):=(hg3.block B (by omega) (fun e=>hapart e.symm)).trans hM2)
    | (refine wpList_stored_tm _ (by rfl) _ _ _ (by rfl) B (entM m t) p p1 v' (by rfl) hM3 (by rfl) (by rfl) ?_
       intro w4 hM4 hg4))
  have hsz3:w2.heap.size≤w3.heap.size:=hg3.size
  have hB1:B<W1.heap.size:=by omega
  have hk4:∀ (k:Nat),k<W1.heap.size→k≠B→v.ownBlock≠some k→w4.heap[k]?=W1.heap[k]?:=fun k h6 h7 h8=>by
    rw [hg4.block k (by omega) (fun e=>h7 (by cases e;rfl)),hg3.block k (by omega) (fun e=>h8 e.symm),hg2.block k h6 (fun e=>h7 (by cases e;rfl))]
  have hbl:Below base w w4:=⟨hg4.os.trans (hg3.os.trans (hg2.os.trans b0.os)),hg4.tape.trans (hg3.tape.trans (hg2.tape.trans b0.tape)),hg4.output.trans (hg3.output.trans (hg2.output.trans b0.output)),by have :=hg4.size;omega,fun k hk=>by
    rw [hk4 k (by omega) (by omega) (fun e=>by have :=(hown.lt k e).1;omega),hk1 k (by omega)]⟩
  have hnb:v'.ownBlock≠some B:=fun e=>by
    rcases hat3 with h6|h6
    · exact hapart (h6.symm.trans e)
    · rw [h6] at e;cases e;omega
  have hown4:OwnI base w4 v' (l++[a]):=by
    have h6:=hown3.kept hg4 (.inr hnb)
    unfold OwnI
    rw [List.length_append]
    simpa [ints] using h6
  go_end0
  refine ⟨rfl,HADD.out w4 v' (fun k h6 h7 h8=>by rw [← HV.out] at h8;rw [hk4 k (by omega) h7 h8,hk1 k h6]) (fun hp=> ?_) (by rw [← HL.out];exact hown4) ?_,hbl,fun k cs ty fr hk hty=> ?_⟩
  · simp only [← HP.out]
    exact hM4
  · rw [← HV.out]
    rcases hat3 with h6|h6
    · exact .inl h6
    · refine .inr fun k h7=> ?_
      rw [h6] at h7
      cases h7
      omega
  · have hlt:=(Array.getElem?_eq_some_iff.1 hk).1
    rw [hk4 k (by omega) (fun e=> ?_) (fun e=> ?_),hk1 k hlt,hk]
    · subst e
      have :=HM.out
      unfold MapAt at this
      rw [hk] at this
      cases this
    · exact owned_apart hown hk hty e
end Go.Proofs.YtldcadpemnpbmaaGreatDoor
namespace Go.Proofs.YtldcadpemnpbmaaGreatDoor
open Go Go.RowKit
set_option linter.unusedVariables false
theorem tellD_len {M:Nat}:∀ l:List Fd,(∀ f∈l,(words f.2).length≤M)→(tellD l).length≤l.length*M
 |[],_=>by simp [tellD]
 |f::l,h=>by
  have h1:=h f (List.mem_cons_self ..)
  have h2:=tellD_len l fun g hg=>h g (List.mem_cons_of_mem _ hg)
  rw [tellD,List.length_append,tellF_length,List.length_cons,Nat.succ_mul]
  omega
theorem pair_cells {w:World} {B:Nat} {u v:Value} {t:TypeId} (h:w.heap[B]?=some (.cells #[u,v] t (0,0))):w.cell? ⟨B,0,none⟩=some u∧w.cell? ⟨B,1,none⟩=some v:=⟨by simp [World.cell?,h],by simp [World.cell?,h]⟩
def TellsOf (base:Nat) (g:Nat) (Bm:Nat) (J:List (Tm × Int)→World→Prop):Prop:=
 (∀ args w,(callFunc g args).run Tryz.prog w= .ok (.enter g args) w)∧(∀ s W W',J s W→Below W.heap.size W W'→J s W')∧
 ∀ (s:List (Tm × Int)) (x y:ByteArray) (a:Int) (W:World),J s W→base≤W.heap.size→s.length≤104857600→
  Calls Tryz.prog g #[.agg #[.string x,.string y],.int .i64 a,.pointer (some ⟨Bm,0,none⟩)] W fun e W'=>e= .returned (.tuple #[])∧J (s++[((x.data.toList,y.data.toList),a)]) W'∧Softly base W W'
def EachRel (l:List Fd) (base:Nat) (J:List (Tm × Int)→World→Prop) (w1:World) (i:Value) (wr:World):Prop:=∃ k:Nat,k≤l.length∧i= .int .i64 (k:Int)∧J (tellD (l.take k)) wr∧Softly base w1 wr
def EachIn (s:List (Tm × Int)) (f:Nm) (ws:List Nm) (base:Nat) (J:List (Tm × Int)→World→Prop) (w4:World) (i:Value) (wr:World):Prop:=∃ m:Nat,m≤ws.length∧i= .int .i64 (m:Int)∧J (s++tellF f 0 (ws.take m)) wr∧Softly base w4 wr
set_option maxHeartbeats 4000000 in
set_option maxRecDepth 100000 in
theorem doc_each (base g Bm:Nat) (J:List (Tm × Int)→World→Prop) (id:Int) (A:Option Addr) (n c:Nat) (l:List Fd) (w:World) (hl:l.length=n) (hr:FRow w base A l) (hbase:base≤w.heap.size) (hn:n≤100)
  (ht:∀ f∈l,f.2.length≤268435456) (hw:∀ f∈l,(words f.2).length≤1048576) (hT:TellsOf base g Bm J) (h0:J [] w):
  Calls Tryz.prog 165 #[docV id A n c,.func (.func g) #[] #[.pointer (some ⟨Bm,0,none⟩)]] w fun e w'=>e= .returned (.tuple #[])∧J (tellD l) w'∧Softly base w w':=by
 subst hl
 obtain ⟨eg,hJ,hT⟩:=hT
 have HR:=Lib.hid hr
 have HT:=Lib.hid ht
 have HW:=Lib.hid hw
 have HJ:=Lib.hid hJ
 have HTT:=Lib.hid hT
 have HLEN:=Lib.hid (tellD_len (M:=1048576))
 obtain ⟨all,hall⟩:∃ all,all=tellD l:=⟨_,rfl⟩
 rw [← hall]
 have HALL:=Lib.hid hall
 obtain ⟨w1,hw1⟩:∃ w1,w1=boxD w id A l.length c:=⟨_,rfl⟩
 have hb1:Below w.heap.size w w1:=by rw [hw1];exact boxD_below _ _ _ _ _
 have hj1:J [] w1:=hJ _ _ _ h0 hb1
 have hc1:w1.cell? ⟨w.heap.size,1,none⟩=some (.slice A l.length c):=by rw [hw1];exact (boxD_cells (Below.refl _ _)).2
 have hs1:=hb1.size
 have HB1:=Lib.hid hb1
 have HJ1:=Lib.hid hj1
 have HW1:=Lib.hid hw1
 clear hr ht hw hJ hT hall hb1 hj1 hw1 h0
 have hsoft0:Softly base w w1:=Softly.of HB1.out hbase
 have HS0:=Lib.hid hsoft0
 clear hsoft0
 have hc1':(boxD w id A l.length c).cell? ⟨w.heap.size,1,none⟩=some (.slice A l.length c):=by rw [← HW1.out];exact hc1
 go_enter Tryz.func165,Tryz.ntmps165
 go_wp2
 rw [show w.alloc _=w1 from HW1.out.symm]
 clear hc1'
 go_loopw [11] (fun i wr=>EachRel l base J w1 i wr) (fun i _=>l.length-(intOf i).toNat)
 case atStart=>exact ⟨0,by omega,rfl,by rw [List.take_zero];exact HJ1.out,Softly.refl _ _⟩
 case round=>
  obtain ⟨k,hk,rfl,hj,hso⟩:=hrel
  by_cases hlt:k<l.length
  ·have hbw:Below base w wr:=HS0.out.below.trans hso.below
   have hszr:=hso.below.size
   obtain ⟨b1,o1,e1,hb1,hf1,hf2⟩:=(HR.out.below hbw).at_ hlt
   subst e1
   obtain ⟨x,hx,hx2⟩:=as_text l[k].1
   obtain ⟨y,hy,hy2⟩:=as_text l[k].2
   rw [← hx] at hf1
   rw [← hy] at hf2
   have i0:(0:Int)≤k:=by omega
   have i1:(k:Int)<l.length:=by omega
   have hsy:y.size≤268435456:=by rw [hy,size_nm];exact HT.out _ (List.getElem_mem hlt)
   have hwl:=HW.out _ (List.getElem_mem hlt)
   have hsu:=tellD_succ hlt
   have hlen:=HLEN.out (l.take k) fun f hf=>HW.out f (List.mem_of_mem_take hf)
   rw [List.length_take,Nat.min_eq_left (by omega)] at hlen
   have hlen2:(tellD (l.take k)).length≤99*1048576:=Nat.le_trans hlen (Nat.mul_le_mul_right _ (by omega))
   obtain ⟨s,hs⟩:∃ s,s=tellD (l.take k):=⟨_,rfl⟩
   obtain ⟨ws,hws⟩:∃ ws,ws=words l[k].2:=⟨_,rfl⟩
   rw [← hs] at hj hsu hlen2
   rw [← hws] at hsu hwl
   have C1:Hid (∀ w',Calls Tryz.prog 221 #[.string y] w' (GaveStrs ws w')):=Lib.hid fun w'=>by have :=word_Words y w' (by omega);rwa [hy2,← hws] at this
   obtain ⟨fn,hfn⟩:∃ fn,fn=l[k].1:=⟨_,rfl⟩
   rw [← hfn] at hsu hx2
   have HX2:=Lib.hid hx2
   have HSU:=Lib.hid hsu
   have HJK:=Lib.hid hj
   have HSO:=Lib.hid hso
   obtain ⟨w2,hw2⟩:∃ w2,w2=wr.alloc (.cells #[.string x,.string y] 77):=⟨_,rfl⟩
   have hf0:w2.heap[wr.heap.size]?=some (.cells #[.string x,.string y] 77 (0,0)):=by rw [hw2];exact heap_alloc_new _ _
   have hb2:Below wr.heap.size wr w2:=by rw [hw2];exact (Below.refl _ _).alloc (Nat.le_refl _) _
   have hb3:=hb2.size
   have HF0:=Lib.hid hf0
   have HB2:=Lib.hid hb2
   have HW2:=Lib.hid hw2
   clear hx hx2 hy hy2 hs hws hfn hsu hj hso hbw hlen hf0 hb2 hw2
   go_wp2_with (go_at_call 221;refine (C1.out _).mono ?_)
   rw [show wr.alloc _=w2 from HW2.out.symm]
   rintro e w4 ⟨v4,rfl,hown4,hb4⟩
   obtain ⟨A4,c4,rfl,hlc4,_⟩:=owned_row hown4
   have hs4:=hb4.size
   have hj4:J s w4:=HJ.out _ _ _ HJK.out (HB2.out.trans (hb4.mono (by omega)))
   have hf4:w4.heap[wr.heap.size]?=some (.cells #[.string x,.string y] 77 (0,0)):=(hb4.block _ (by have :=(Array.getElem?_eq_some_iff.1 HF0.out).1;omega)).trans HF0.out
   have hso4:Softly base wr w4:=Softly.of (HB2.out.trans (hb4.mono (by omega))) (by omega)
   have HJ4:=Lib.hid hj4
   have HF4:=Lib.hid hf4
   have HO4:=Lib.hid hown4
   have HSO4:=Lib.hid hso4
   clear hj4 hf4 hown4 hso4 hb4
   go_wp2
   go_loopw [19] (fun i wx=>EachIn s fn ws base J w4 i wx) (fun i _=>ws.length-(intOf i).toNat)
   case atStart=>exact ⟨0,by omega,rfl,by rw [List.take_zero];simpa [tellF] using HJ4.out,Softly.refl _ _⟩
   case round=>
    obtain ⟨m,hm,rfl,hj5,hso5⟩:=hrel
    by_cases hmt:m<ws.length
    ·obtain ⟨b2,o2,e2,hb2,hg1⟩:=row_nm (owned_row_of (hso5.owned HO4.out (by decide))) hmt
     subst e2
     obtain ⟨z,hz,hz2⟩:=as_text ws[m]
     rw [← hz] at hg1
     obtain ⟨hx5,_⟩:=pair_cells (hso5.keep _ _ _ _ HF4.out (by decide))
     have hsz5:=hso5.below.size
     have hsu2:=tellF_succ fn hmt
     rw [← hz2,← HX2.out] at hsu2
     have hl5:(s++tellF fn 0 (ws.take m)).length≤104857600:=by rw [List.length_append,tellF_length,List.length_take];omega
     have C2:Hid (Calls Tryz.prog g #[.agg #[.string x,.string z],.int .i64 (m:Int),.pointer (some ⟨Bm,0,none⟩)] wr fun e W'=>e= .returned (.tuple #[])∧J (s++tellF fn 0 (ws.take (m+1))) W'∧Softly base wr W'):=Lib.hid (by
      have :=HTT.out _ x z (m:Int) wr hj5 (by omega) hl5
      rw [List.append_assoc,← HX2.out,← hsu2] at this
      rwa [← HX2.out])
     have j0:(0:Int)≤m:=by omega
     have j1:(m:Int)<ws.length:=by omega
     have HSO5:=Lib.hid hso5
     clear hz hz2 hsu2 hj5 hso5
     go_wp2_with (go_at_fn g;refine C2.out.mono ?_;rintro e w6 ⟨rfl,hj6,hso6⟩)
     exact ⟨⟨m+1,by omega,by go_num,hj6,HSO5.out.trans hso6⟩,by simp [intOf];omega⟩
    ·have hml:m=ws.length:=by omega
     subst hml
     rw [List.take_length,← HSU.out] at hj5
     go_wp2
     exact ⟨⟨k+1,by omega,by go_num,hj5,HSO.out.trans (HSO4.out.trans hso5)⟩,by simp [intOf];omega⟩
  ·have hkl:k=l.length:=by omega
   subst hkl
   rw [List.take_length,← HALL.out] at hj
   have HSO:=Lib.hid hso
   clear hso
   go_wp2
   go_end0
   exact ⟨rfl,hj,HS0.out.trans HSO.out⟩
end Go.Proofs.YtldcadpemnpbmaaGreatDoor
namespace Go.Proofs.YtldcadpemnpbmaaGreatDoor
open Go Go.RowKit
set_option linter.unusedVariables false
theorem placesS_length (s:List (Tm × Int)) (t:Tm):(placesS s t).length≤s.length:=by
 unfold placesS
 rw [List.length_map]
 exact List.length_filter_le _ _
def GrVar (base B Bm:Nat) (s:List (Tm × Int)) (w:World):Prop:=GrAt base w B (groupsT s)∧w.heap[Bm]?=some (.cells #[.map (some B)] 260 (0,0))
theorem grVar_tells (base B Bm:Nat):TellsOf base 246 Bm (GrVar base B Bm):=by
 refine ⟨enters_of Tryz.func246 (by kernel_rfl) rfl,fun s W W' h hb=>⟨h.1.below hb,(hb.block _ (Array.getElem?_eq_some_iff.1 h.2).1).trans h.2⟩,fun s x y a W h hbase hs=> ?_⟩
 refine (stands_tell base B Bm (groupsT s) x y a W h.1 (by simp [World.cell?,h.2]) hbase (by rw [getG_groups];have :=placesS_length s (x.data.toList,y.data.toList);omega)).mono ?_
 rintro e w' ⟨rfl,h1,h2⟩
 exact ⟨rfl,⟨by rw [groupsT_snoc];exact h1,h2.keep _ _ _ _ h.2 (by decide)⟩,h2⟩
def GotM (l:List Fd) (w:World) (e:Ending) (w':World):Prop:=∃ B,e= .returned (.map (some B))∧GrAt w.heap.size w' B (groupsT (tellD l))∧Below w.heap.size w w'
set_option maxHeartbeats 2000000 in
set_option maxRecDepth 100000 in
theorem doc_stands (id:Int) (A:Option Addr) (n c:Nat) (l:List Fd) (w:World) (hl:l.length=n) (hr:FRow w w.heap.size A l) (hn:n≤100) (ht:∀ f∈l,f.2.length≤268435456) (hw:∀ f∈l,(words f.2).length≤1048576):
    Calls Tryz.prog 196 #[docV id A n c] w (GotM l w):=by
  have hmm:=@run_makeMap Tryz.prog
  obtain ⟨w3,hw3⟩:∃ w3,w3=((boxD w id A n c).alloc (.map #[] 0)).alloc (.cells #[.map (some (w.heap.size+1))] 260):=⟨_,rfl⟩
  have hb0:=boxD_below w id A n c
  have hsz:=boxD_size w id A n c
  have hm0:GrAt (boxD w id A n c).heap.size ((boxD w id A n c).alloc (.map #[] 0)) (boxD w id A n c).heap.size []:=GrAt.made _
  have hb3:Below w.heap.size w w3:=by rw [hw3];exact (hb0.alloc (by omega) _).alloc (by simp;omega) _
  have hj3:GrVar w.heap.size (w.heap.size+1) (w.heap.size+2) [] w3:=by
    have h1:GrAt (boxD w id A n c).heap.size w3 (boxD w id A n c).heap.size []:=hm0.below (by rw [hw3];exact (Below.refl _ _).alloc (Nat.le_refl _) _)
    obtain ⟨m,g1,g2,g3,g4,g5⟩:=h1
    rw [hsz] at g1
    refine ⟨⟨m,g1,by omega,g3,?_,g5⟩,?_⟩
    · intro i e p he hp
      cases hp
    · rw [hw3]
      have :=heap_alloc_new ((boxD w id A n c).alloc (.map #[] 0)) (.cells #[.map (some (w.heap.size+1))] 260)
      rw [World.size_alloc,hsz] at this
      exact this
  have hc3:w3.cell? ⟨w.heap.size,0,none⟩=some (.int .i64 id)∧w3.cell? ⟨w.heap.size,1,none⟩=some (.slice A n c):=boxD_cells (by rw [hw3];exact ((Below.refl _ _).alloc (Nat.le_refl _) _).alloc (by simp) _)
  have hE:=doc_each w.heap.size 246 (w.heap.size+2) (GrVar w.heap.size (w.heap.size+1) (w.heap.size+2)) id A n c l w3 hl (hr.below hb3) hb3.size hn ht hw (grVar_tells _ _ _) hj3
  have HE:=Lib.hid hE
  have HB3:=Lib.hid hb3
  have HW3:=Lib.hid hw3
  obtain ⟨hc30,hc31⟩:=hc3
  clear hE hb3 hw3 hj3 hr ht hw hm0 hb0
  go_enter Tryz.func196,Tryz.ntmps196
  go_wp2_with (go_at_call 165
               rw [show ((w.alloc _).alloc _).alloc _=w3 from HW3.out.symm]
               refine HE.out.mono ?_
               rintro e w4 ⟨rfl,hj4,hso4⟩
               have hcv:w4.cell? ⟨w.heap.size+1+1,0,none⟩=some (.map (some (w.heap.size+1))):=by have :=hj4.2;simp [World.cell?,this])
  go_ret
  exact ⟨_,rfl,hj4.1,HB3.out.trans hso4.below⟩
def NumVar (Bm:Nat) (s:List (Tm × Int)) (w:World):Prop:=w.heap[Bm]?=some (.cells #[.int .i64 (s.length:Int)] 3 (0,0))
set_option maxHeartbeats 1000000 in
theorem weight_tell (base Bm:Nat) (s:List (Tm × Int)) (x y:ByteArray) (a:Int) (w:World) (h:NumVar Bm s w) (hb:base≤Bm) (hs:s.length≤104857600):
  Calls Tryz.prog 166 #[.agg #[.string x,.string y],.int .i64 a,.pointer (some ⟨Bm,0,none⟩)] w fun e w'=>e= .returned (.tuple #[])∧NumVar Bm (s++[((x.data.toList,y.data.toList),a)]) w'∧Softly base w w':=by
 have hlt:Bm<w.heap.size:=(Array.getElem?_eq_some_iff.1 h).1
 have h1:(w.alloc (.cells #[.string x,.string y] 23)).heap[Bm]?=some (.cells #[.int .i64 (s.length:Int)] 3 (0,0)):=(Below.heap_alloc w _ _ hlt).trans h
 have c1:=cell_of_one h1
 have f1:=free_of_one h1
 obtain ⟨N,hN⟩:∃ N,N=s.length:=⟨_,rfl⟩
 rw [← hN] at h1 c1 hs
 have HN:=Lib.hid hN
 clear hN
 go_enter Tryz.func166,Tryz.ntmps166
 go_wp2
 go_end0
 have hw:w.heap[Bm]?=some (.cells #[.int .i64 (N:Int)] 3 (0,0)):=by rw [HN.out];exact h
 refine ⟨rfl,?_,?_,fun k cs t fr hk ht=> ?_⟩
 ·unfold NumVar
  rw [Below.heap_alloc _ _ _ (by simpa using hlt),List.length_append,← HN.out,List.length_singleton]
  exact one_setCell hw
 ·exact ((Below.refl base w).setCell (p:=⟨Bm,0,none⟩) hb _).alloc (by simp;omega) _
 ·have hlk:=(Array.getElem?_eq_some_iff.1 hk).1
  have hne:k≠Bm:=by
   rintro rfl
   unfold NumVar at h
   rw [hk] at h
   simp at h
   exact ht h.2.1
  rw [Below.heap_alloc _ _ _ (by simpa using hlk),Below.heap_setCell _ _ _ _ hne,hk]
theorem numVar_tells (base Bm:Nat) (hb:base≤Bm):TellsOf base 166 Bm (NumVar Bm):=
 ⟨enters_of Tryz.func166 (by kernel_rfl) rfl,fun s W W' h hb=>(hb.block _ (Array.getElem?_eq_some_iff.1 h).1).trans h,fun s x y a W h hbase hs=>weight_tell base Bm s x y a W h hb hs⟩
set_option maxHeartbeats 2000000 in
set_option maxRecDepth 100000 in
theorem doc_Weight (id:Int) (A:Option Addr) (n c:Nat) (l:List Fd) (w:World) (hl:l.length=n) (hr:FRow w w.heap.size A l) (hn:n≤100) (ht:∀ f∈l,f.2.length≤268435456) (hw:∀ f∈l,(words f.2).length≤1048576):
    Calls Tryz.prog 95 #[docV id A n c] w fun e w'=>e= .returned (.int .i64 ((tellD l).length:Int))∧Below w.heap.size w w':=by
  obtain ⟨w3,hw3⟩:∃ w3,w3=(boxD w id A n c).alloc (.cells #[.int .i64 0] 3):=⟨_,rfl⟩
  have hb0:=boxD_below w id A n c
  have hsz:=boxD_size w id A n c
  have hb3:Below w.heap.size w w3:=by rw [hw3];exact hb0.alloc (by omega) _
  have hj3:NumVar (w.heap.size+1) [] w3:=by
    rw [hw3]
    have :=heap_alloc_new (boxD w id A n c) (.cells #[.int .i64 0] 3)
    rw [hsz] at this
    exact this
  have hc3:w3.cell? ⟨w.heap.size,0,none⟩=some (.int .i64 id)∧w3.cell? ⟨w.heap.size,1,none⟩=some (.slice A n c):=boxD_cells (by rw [hw3];exact (Below.refl _ _).alloc (Nat.le_refl _) _)
  have hE:=doc_each w.heap.size 166 (w.heap.size+1) (NumVar (w.heap.size+1)) id A n c l w3 hl (hr.below hb3) hb3.size hn ht hw (numVar_tells _ _ (by omega)) hj3
  have HE:=Lib.hid hE
  have HB3:=Lib.hid hb3
  have HW3:=Lib.hid hw3
  obtain ⟨hc30,hc31⟩:=hc3
  clear hE hb3 hw3 hj3 hr ht hw hb0
  go_enter Tryz.func95,Tryz.ntmps95
  go_wp2_with (go_at_call 165
               rw [show (w.alloc _).alloc _=w3 from HW3.out.symm]
               refine HE.out.mono ?_
               rintro e w4 ⟨rfl,hj4,hso4⟩
               have hcv:w4.cell? ⟨w.heap.size+1,0,none⟩=some (.int .i64 ((tellD l).length:Int)):=by unfold NumVar at hj4;simp [World.cell?,hj4])
  go_ret
  exact ⟨rfl,HB3.out.trans hso4.below⟩
end Go.Proofs.YtldcadpemnpbmaaGreatDoor
