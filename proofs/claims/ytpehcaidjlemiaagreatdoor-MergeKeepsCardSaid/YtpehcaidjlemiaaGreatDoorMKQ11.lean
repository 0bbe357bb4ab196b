import Derived.Test.YtpehcaidjlemiaaGreatDoorMKZz
import Derived.Test.YtpehcaidjlemiaaGreatDoorMKQ10
import Derived.Test.YtpehcaidjlemiaaGreatDoorMKQ07
import Derived.Test.YtpehcaidjlemiaaGreatDoorMKQ09
import Derived.BigCall
import Derived.BigQuiet
import Derived.Deep.QuietTactic
import Derived.Test.YtpehcaidjlemiaaGreatDoorMKQ02
import Derived.Deep.RegionHeld3
import Derived.Test.YtpehcaidjlemiaaGreatDoorMKQ05
import Derived.Maps.RangeRun
import Derived.MapKept
import Derived.Test.YtpehcaidjlemiaaGreatDoorMKQ06
set_option maxHeartbeats 1000000
set_option maxRecDepth 100000
set_option linter.unusedVariables false
namespace Go.Proofs.YtpehcaidjlemiaaGreatDoor
open Go Go.RowKit
theorem qfA {w:World} {b:Nat} {x y z:Value} {t:TypeId} (h:w.heap[b]?=some (.cells #[x,y,z] t (0,0))):w.cell? ⟨b,0,none⟩=some x/\w.cell? ⟨b,1,none⟩=some y/\w.cell? ⟨b,2,none⟩=some z:=by
 simp [World.cell?,h]
def qdz (t:TypeId) (w:World) (A:Option Addr):Prop:=A=none∨∃ b off cs fr,A=some ⟨b,off,none⟩/\w.heap[b]?=some (.cells cs t fr)
section
variable {t:TypeId} {w w':World} {A:Option Addr}
theorem qdz.keep (h:qdz t w A) (hk:∀ (k:Nat) (cs:Array Value) (fr:Nat × Nat),w.heap[k]?=some (.cells cs t fr)->w'.heap[k]?=some (.cells cs t fr)):qdz t w' A:=by
 rcases h with h|⟨b,off,cs,fr,e,hb⟩
 ·exact .inl h
 ·exact .inr ⟨b,off,cs,fr,e,hk _ _ _ hb⟩
theorem qdz.below (h:qdz t w A) (hb:Below w.heap.size w w'):qdz t w' A:=h.keep fun k _ _ hk=>(hb.block k (Array.getElem?_eq_some_iff.1 hk).1).trans hk
theorem qjE {base size n m c:Nat} {xs:List Value} (h:w.ownsRow base t size (.slice A n c) m xs):qdz t w A:=by
 rcases h.2 with ⟨hv,_⟩|⟨g,cap,cur,hv,_,hh,_⟩
 ·injection hv with hv;exact .inl hv
 ·injection hv with hv;exact .inr ⟨g,0,_,_,hv,hh⟩
end
def quy (w:World) (S:Nat):Prop:=∀ (A1 A2 A3:Option Addr) (n1 c1 n2 c2 n3 c3:Nat),w.heap[S]?=some (.cells #[.slice A1 n1 c1,.slice A2 n2 c2,.slice A3 n3 c3] 110 (0,0))->qdz 3 w A1/\qdz 3 w A2/\qdz 177 w A3
structure qf8 (x:qbj):Prop where
 ids:x.ids.length<=1048576
 keys:x.keys.length<=1048576
 lists:∀ l∈x.lists,l.length<=1000/\qav l<=40000000000
structure qb6 (w:World) (S:Nat) (x:qbj):Prop where
 cells:∃ A1 c1 A2 c2 A3 c3,w.heap[S]?=some (.cells #[.slice A1 x.ids.length c1,.slice A2 x.seqs.length c2,.slice A3 x.keys.length c3] 110 (0,0))/\x.ids.length<=c1/\x.seqs.length<=c2/\Row w w.heap.size A1 (qab x.ids)/\Row w w.heap.size A2 (qab x.seqs)
 dict:∃ bl:List Nat,qbP w S 2 x.keys bl/\∀ i (h:i<x.lists.length),∃ base,LAt w base (bl.getD i 0) (qac (-1) x.lists[i]) x.lists[i]
 may:qd0 x=true
 small:qf8 x
 typ:quy w S
section
variable {w w':World} {S:Nat} {x:qbj}
theorem qb6.lt (h:qb6 w S x):S<w.heap.size:=by obtain ⟨bl,h,_⟩:=h.dict;exact h.lt
theorem qb6.below (h:qb6 w S x) (hb:Below w.heap.size w w'):qb6 w' S x:=by
 have hlt:=h.lt;obtain ⟨⟨A1,c1,A2,c2,A3,c3,h1,h2,h3,h4,h5⟩,⟨bl,h6,h7⟩,h8,h9,h10⟩:=h;refine ⟨⟨A1,c1,A2,c2,A3,c3,(hb.block S hlt).trans h1,h2,h3,Row.later h4 hb,Row.later h5 hb⟩,⟨bl,h6.below hb,fun i hi=> ?_⟩,h8,h9,fun B1 B2 B3 n1 d1 n2 d2 n3 d3 hB=> ?_⟩
 ·obtain ⟨base,h⟩:=h7 i hi
  exact ⟨base,h.below hb⟩
 ·obtain ⟨k1,k2,k3⟩:=h10 B1 B2 B3 n1 d1 n2 d2 n3 d3 ((hb.block S hlt).symm.trans hB)
  exact ⟨k1.below hb,k2.below hb,k3.below hb⟩
theorem qfc {x:qbj}:qd0 x=true↔x.ids.length=x.seqs.length/\x.keys.length=x.lists.length/\qak (-1) x.seqs=true/\qc8 x.keys=true/\∀ l∈x.lists,qcz x.ids.length l=true:=by
 simp [qd0]
theorem qjF {n:Nat} {l:List Pn} (h:qcz n l=true):qaS (-1) l=true/\l≠[]:=by
 simp only [qcz,Bool.and_eq_true,decide_eq_true_eq] at h;exact ⟨h.1,fun e=>h.2.1 (by rw [e];rfl)⟩
theorem qb6.seqs (h:qb6 w S x):x.ids.length=x.seqs.length:=(qfc.1 h.may).1
theorem qb6.keys (h:qb6 w S x):x.keys.length=x.lists.length:=(qfc.1 h.may).2.1
end
def qdA (l:List Int) (i:Int):Int:=if 0<=i/\i<(l.length:Int) then l.getD i.toNat 0 else-1
theorem qnM (A:Option Addr) (n c:Nat) (i:Int) (l:List Int) (w:World) (hr:Row w w.heap.size A (qab l)) (hn:l.length=n):
  Calls Tryz.prog 82 #[.slice A n c,.int .i64 i] w fun e w'=>e= .returned (.int .i64 (qdA l i))/\Below w.heap.size w w':=by
 by_cases h0:i<0
 ·have hv:qdA l i= -1:=if_neg (by omega)
  have e0:decide (i<0)=true:=decide_eq_true h0;rw [hv];clear hv hr hn
  go_enter Tryz.func82,Tryz.ntmps82
  go_wp2;go_ret;exact ⟨rfl,Below.refl _ _⟩
 ·have e0:decide (i<0)=false:=decide_eq_false h0
  by_cases h1:(n:Int)<=i
  ·have hv:qdA l i= -1:=if_neg (by omega)
   have e1:decide ((n:Int)<=i)=true:=decide_eq_true h1;rw [hv];clear hv hr hn
   go_enter Tryz.func82,Tryz.ntmps82
   go_wp2;go_ret;exact ⟨rfl,Below.refl _ _⟩
  ·have e1:decide ((n:Int)<=i)=false:=decide_eq_false h1
   obtain ⟨k,rfl⟩:∃ k:Nat,i=(k:Int):=⟨i.toNat,by omega⟩;have hk:k<l.length:=by omega
   obtain ⟨b,off,rfl,hb,hc⟩:=qcF hr hk;have hv:qdA l (k:Int)=l[k]:=by
    unfold qdA;rw [if_pos ⟨by omega,by omega⟩];simp [List.getD_eq_getElem?_getD,hk]
   rw [hv];obtain ⟨y,hy⟩:∃ y,y=l[k]:=⟨_,rfl⟩;rw [<- hy] at hc ⊢;have hi0:(0:Int)<=k:=by omega
   have hi1:(k:Int)<n:=by omega
   clear hv hy hr h0 h1 hk hn
   go_enter Tryz.func82,Tryz.ntmps82
   go_wp2;go_ret;exact ⟨rfl,Below.refl _ _⟩
def quz (l:List Int) (w:World) (r last i:Value) (wr:World):Prop:=r= .bool false/\∃ (k:Nat) (x:Int),k<=l.length/\i= .int .i64 (k:Int)/\last= .int .i64 x/\qak x (l.drop k)=qak (-1) l/\Below w.heap.size w wr
theorem quA (A:Option Addr) (n c:Nat) (l:List Int) (w:World) (hr:Row w w.heap.size A (qab l)) (hn:l.length=n) (hl:n<=9223372036854775807):
  Calls Tryz.prog 111 #[.slice A n c] w fun e w'=>e= .returned (.bool (qak (-1) l))/\Below w.heap.size w w':=by
 have HR:=qH hr;clear hr;obtain ⟨ans,hans⟩:∃ ans,ans=qak (-1) l:=⟨_,rfl⟩;rw [<- hans];have HA:=qH hans;have HN:=qH hn;clear hans hn
 go_enter Tryz.func111,Tryz.ntmps111
 go_wp2
 go_loopw [2,3,8] (fun r last i wr=>quz l w r last i wr) (fun _ _ i _=>n-(intOf i).toNat)
 case atStart=>exact ⟨rfl,0, -1,Nat.zero_le _,rfl,rfl,rfl,Below.refl _ _⟩
 case round=>
  obtain ⟨rfl,k,x,hk,rfl,rfl,hx,hbw⟩:=hrel;rw [HN.out] at hk;by_cases hlt:k<n
  ·have hkl:k<l.length:=by rw [HN.out];exact hlt
   obtain ⟨b1,o1,rfl,_,hc1⟩:=qcF (HR.out.below hbw) hkl;have hdr:l.drop k=l[k]::l.drop (k+1):=List.drop_eq_getElem_cons hkl;rw [hdr,qak] at hx;obtain ⟨y,hy⟩:∃ y,y=l[k]:=⟨_,rfl⟩;rw [<- hy] at hc1 hx;have hi0:(0:Int)<=k:=by omega
   have hi1:(k:Int)<n:=by omega
   clear hy hdr;by_cases hxy:y<=x
   ·have hv:ans=false:=by rw [HA.out,<- hx,decide_eq_false (by omega)];rfl
    have d1:decide (y<=x)=true:=decide_eq_true hxy;subst hv;clear hx hkl hxy;go_wp2;go_ret;exact ⟨rfl,hbw⟩
   ·have d1:decide (y<=x)=false:=decide_eq_false hxy
    rw [decide_eq_true (by omega),Bool.true_and] at hx;have HX:=qH hx;clear hx hkl hxy;go_wp2;go_roundw
    case rel=>exact ⟨rfl,k+1,y,by rw [HN.out];omega,by go_num,rfl,HX.out,hbw⟩
    case measure=>simp [intOf];omega
  ·have hv:ans=true:=by
    rw [HA.out,<- hx,List.drop_of_length_le (by rw [HN.out];omega)];rfl
   subst hv;clear hx;go_wp2;go_ret;exact ⟨rfl,hbw⟩
section
variable {w:World} {S:Nat} {x:qbj}
theorem qjG (h:qb6 w S x):Calls Tryz.prog 20 #[.pointer (some ⟨S,0,none⟩)] w fun e w'=>e= .returned (.int .i64 (x.ids.length:Int))/\Below w.heap.size w w':=by
 obtain ⟨A1,c1,A2,c2,A3,c3,h1,_⟩:=h.cells;obtain ⟨q0,q1,q2⟩:=qfA h1;clear h h1
 go_enter Tryz.func20,Tryz.ntmps20
 go_wp2;go_ret;exact ⟨rfl,Below.refl _ _⟩
theorem quB (h:qb6 w S x) (i:Int):Calls Tryz.prog 39 #[.pointer (some ⟨S,0,none⟩),.int .i64 i] w fun e w'=>e= .returned (.int .i64 (qdA x.ids i))/\Below w.heap.size w w':=by
 obtain ⟨A1,c1,A2,c2,A3,c3,h1,h2,h3,h4,h5⟩:=h.cells;obtain ⟨q0,q1,q2⟩:=qfA h1;have C1:=qH (qnM A1 _ c1 i x.ids w h4 rfl);clear h h1 h2 h3 h4 h5
 go_enter Tryz.func39,Tryz.ntmps39
 go_wp2_with (go_at_call 82;refine C1.out.mono ?_;rintro e w' ⟨rfl,hb⟩)
 go_ret;exact ⟨rfl,hb⟩
theorem qnN (h:qb6 w S x) (i:Int):Calls Tryz.prog 40 #[.pointer (some ⟨S,0,none⟩),.int .i64 i] w fun e w'=>e= .returned (.int .i64 (qdA x.seqs i))/\Below w.heap.size w w':=by
 obtain ⟨A1,c1,A2,c2,A3,c3,h1,h2,h3,h4,h5⟩:=h.cells;obtain ⟨q0,q1,q2⟩:=qfA h1;have C1:=qH (qnM A2 _ c2 i x.seqs w h5 rfl);clear h h1 h2 h3 h4 h5
 go_enter Tryz.func40,Tryz.ntmps40
 go_wp2_with (go_at_call 82;refine C1.out.mono ?_;rintro e w' ⟨rfl,hb⟩)
 go_ret;exact ⟨rfl,hb⟩
end
theorem qnO {w:World} {b:Nat} {x y z u:Value} {t:TypeId} (h:w.heap[b]?=some (.cells #[x,y,z,u] t (0,0))):w.cell? ⟨b,0,none⟩=some x/\w.cell? ⟨b,1,none⟩=some y/\w.cell? ⟨b,2,none⟩=some z/\w.cell? ⟨b,3,none⟩=some u:=by
 simp [World.cell?,h]
def qjH (x:qbj):Prop:=x.ids.length<=9223372036854775807/\x.seqs.length<=9223372036854775807/\x.keys.length<=9223372036854775807/\x.lists.length<=9223372036854775807/\∀ l∈x.lists,l.length<=9223372036854775807/\∀ p∈l,p.2.length<=9223372036854775807
structure PAt (w:World) (B:Nat) (A1 A2 A3 A4:Option Addr) (x:qbj):Prop where
 ids:Row w B A1 (qab x.ids)
 seqs:Row w B A2 (qab x.seqs)
 keys:Row w B A3 (qae x.keys)
 lists:qcC w B A4 x.lists
theorem PAt.later {w w':World} {A1 A2 A3 A4:Option Addr} {x:qbj} (h:PAt w w.heap.size A1 A2 A3 A4 x) (hb:Below w.heap.size w w'):PAt w' w'.heap.size A1 A2 A3 A4 x:=
 ⟨Row.later h.ids hb,Row.later h.seqs hb,Row.later h.keys hb,h.lists.later hb⟩
open Go.ChangeMaps (setBlock)
def tV (t:Tm):Value:= .agg #[.string ⟨t.1.toArray⟩,.string ⟨t.2.toArray⟩]
theorem qhy (a b:Nm):((⟨a.toArray⟩:ByteArray)==⟨b.toArray⟩)=decide (a=b):=by
 have h:((⟨a.toArray⟩:ByteArray)==⟨b.toArray⟩)=(a.toArray==b.toArray):=rfl;rw [h,Bool.eq_iff_iff];simp
theorem quC (s t:Tm) (w:World):(Op.equal 69 (tV s) (tV t)).run Tryz.prog w= .ok (decide (s=t)) w:=by
 have h:∀ d:Nat,(Op.equalIn (d+2) 69 (tV s) (tV t)).run Tryz.prog w= .ok (decide (s=t)) w:=fun d=>by
  simp only [Op.equalIn,tV,part];simp [run_underlying Tryz.underlying69,run_underlying Tryz.underlying9,Tryz.sizeOf9,Tryz.isAgg9,qhy];obtain ⟨s1,s2⟩:=s;obtain ⟨t1,t2⟩:=t;by_cases h1:s1=t1<;>by_cases h2:s2=t2<;>simp [h1,h2]
 exact h 9998
theorem qhz (em:Bool) (t:Tm) (w:World):(Instr.checkKey em 10000 69 (tV t)).run Tryz.prog w= .ok () w:=by
 have h:∀ d:Nat,(Instr.checkKey em (d+2) 69 (tV t)).run Tryz.prog w= .ok () w:=fun d=>by
  simp [Instr.checkKey,run_underlying Tryz.underlying69,run_underlying Tryz.underlying9,tV,part,Tryz.sizeOf9,Tryz.isAgg9]
 exact h 9998
theorem quD (t:Tm) (w:World):(Instr.keyThatStays (tV t) (tV t)).run Tryz.prog w= .ok (tV t) w:=by
 have h:∀ d:Nat,Instr.sameBits (d+2) (tV t) (tV t)=true:=fun d=>by simp [Instr.sameBits,tV,qhy]
 simp [Instr.keyThatStays,h 9998]
abbrev Ent:=Tm × Value
def qaQ:Nat->List Ent->List MapEntry
 |_,[]=>[]
 |i,e::m=>{key:=tV e.1,val:=e.2,born:=i}::qaQ (i+1) m
theorem qhA:∀ (m:List Ent) (i:Nat),(qaQ i m).length=m.length
 |[],_=>rfl
 |e::m,i=>by simp [qaQ,qhA m (i+1)]
theorem qgM:∀ {m:List Ent} {i k:Nat} (hk:k<m.length),(qaQ i m)[k]?=some {key:=tV m[k].1,val:=m[k].2,born:=i+k}
 |[],_,_,h=>by simp at h
 |e::m,i,0,_=>rfl
 |e::m,i,k+1,h=>by
  have :=qgM (m:=m) (i:=i+1) (k:=k) (by simpa using h);simp only [qaQ,List.getElem?_cons_succ,zC];rw [this,Nat.add_assoc,Nat.add_comm 1 k]
theorem qnP:∀ (m:List Ent) (e:Ent) (i:Nat),qaQ i (m++[e])=qaQ i m++[{key:=tV e.1,val:=e.2,born:=i+m.length}]
 |[],e,i=>rfl
 |x::m,e,i=>by
  simp only [List.cons_append,qaQ,qnP m e (i+1),List.length_cons];rw [Nat.add_assoc,Nat.add_comm 1 m.length]
theorem qnQ:∀ (m:List Ent) (e:Ent) (i k:Nat),qaQ i (m.set k e)=(qaQ i m).set k {key:=tV e.1,val:=e.2,born:=i+k}
 |[],e,i,k=>by simp [qaQ]
 |x::m,e,i,0=>by simp [qaQ]
 |x::m,e,i,k+1=>by
  simp only [zF,qaQ,qnQ m e (i+1) k];rw [Nat.add_assoc,Nat.add_comm 1 k]
def qa7 (w:World) (B:Nat) (m:List Ent):Prop:=w.heap[B]?=some (.map (qaQ 0 m).toArray m.length)
def qap (m:List Ent) (t:Tm):Nat:=m.findIdx (fun e=>decide (e.1=t))
def qb7 (m:List Ent) (t:Tm):Value:=if h:qap m t<m.length then m[qap m t].2 else .slice none 0 0
def qb8 (m:List Ent) (t:Tm):List Ent:=if qap m t<m.length then m else m++[(t,.slice none 0 0)]
theorem qnR {m:List Ent} {t:Tm} (h:qap m t<m.length):m[qap m t].1=t:=by
 have :=List.findIdx_getElem (p:=fun e:Ent=>decide (e.1=t)) (xs:=m) (w:=h);exact of_decide_eq_true this
theorem qnS (m:List Ent) (t:Tm):qap m t<(qb8 m t).length/\(qb8 m t)[qap m t]?=some (t,qb7 m t):=by
 unfold qb8 qb7;split
 ·rename_i h
  have e:=qnR h;refine ⟨h,?_⟩;rw [List.getElem?_eq_getElem h];exact congrArg some (Prod.ext e rfl)
 ·rename_i h
  have hle:qap m t<=m.length:=List.findIdx_le_length;have :qap m t=m.length:=by omega
  rw [this];simp
theorem qnT:∀ (m:List Ent) (t:Tm) (w:World) (k i:Nat),(Instr.findAsking 69 (tV t) (qaQ k m) i).run Tryz.prog w= .ok (if h:qap m t<m.length then some (i+qap m t,m[qap m t].2) else none) w
 |[],t,w,k,i=>by simp [qaQ,Instr.findAsking,qap]
 |e::m,t,w,k,i=>by
  have ih:=qnT m t w (k+1) (i+1);rw [qaQ,Instr.findAsking];simp only [Sem.run_bind,quC,Result.andThen];by_cases he:t=e.1
  ·have hp:qap (e::m) t=0:=by unfold qap;rw [List.findIdx_cons];simp [he]
   simp only [hp];simp [he]
  ·have he':¬ e.1=t:=fun h=>he h.symm
   have hp:qap (e::m) t=qap m t+1:=by unfold qap;rw [List.findIdx_cons];simp [he']
   simp only [he,decide_false,Bool.false_eq_true,if_false,ih];rw [Result.ok.injEq];refine ⟨?_,rfl⟩;by_cases h:qap m t<m.length
   ·have h':qap (e::m) t<(e::m).length:=by rw [hp];simpa using h
    rw [dif_pos h,dif_pos h'];simp only [hp,zC];rw [Nat.add_assoc,Nat.add_comm 1]
   ·have h':¬ qap (e::m) t<(e::m).length:=by rw [hp];simpa using h
    rw [dif_neg h,dif_neg h']
theorem qnU (m:List Ent) (t:Tm) (w:World) (k:Nat):(Instr.findKey 69 (tV t) (qaQ k m)).run Tryz.prog w= .ok (if h:qap m t<m.length then some (qap m t,m[qap m t].2) else none) w:=by
 have h1:=qnT m t w k 0;rw [Nat.zero_add] at h1;cases m with
 |nil=>simp [Instr.findKey,run_underlying Tryz.underlying69,qaQ,Instr.findNow,qap]
 |cons e m=>
  rw [<- h1];simp [Instr.findKey,run_underlying Tryz.underlying69,qaQ,Instr.findNow,Instr.sameNow]
theorem quE {w:World} {B:Nat} {m:List Ent} (h:qa7 w B m) (t:Tm):(Instr.lookup 248 (.map (some B)) (tV t) false).run Tryz.prog w= .ok (qb7 m t) w:=by
 unfold qa7 at h;have hf:=qnU m t w 0;unfold qb7;by_cases hp:qap m t<m.length
 ·rw [dif_pos hp] at hf ⊢
  simp [Instr.lookup,run_underlying Tryz.underlying248,MapKept.run_getObj_map h,qhz,hf,Result.andThen]
 ·rw [dif_neg hp] at hf ⊢
  simp [Instr.lookup,run_underlying Tryz.underlying248,MapKept.run_getObj_map h,qhz,hf,Result.andThen,Tryz.zeroValue23]
theorem quF {w:World} {B:Nat} {m:List Ent} (h:qa7 w B m) (t:Tm):∃ w',(Instr.mapEntry 248 (.map (some B)) (tV t)).run Tryz.prog w= .ok (.tuple #[qb7 m t,.int .i64 (qap m t:Int)]) w'/\qa7 w' B (qb8 m t)/\w.grownBy w' (some B):=by
 unfold qa7 at h;have hf:=qnU m t w 0;unfold qb7 qb8;by_cases hp:qap m t<m.length
 ·rw [dif_pos hp] at hf ⊢
  rw [if_pos hp];have hk:=qnR hp;have he:=qgM (i:=0) hp;rw [hk,Nat.zero_add] at he;have hmod:(qaQ 0 m).modify (qap m t) (fun e=>{e with key:=tV t})=qaQ 0 m:=by
   apply List.ext_getElem?;intro j;rw [List.getElem?_modify];by_cases hj:qap m t=j
   ·subst hj;simp [he]
   ·simp [hj]
  refine ⟨setBlock w B (.map (qaQ 0 m).toArray m.length),?_,ChangeMaps.heap_setBlock_same h _,?_⟩
  ·simp [Instr.mapEntry,run_underlying Tryz.underlying248,MapKept.run_getObj_map h,qhz,hf,Result.andThen,he,quD,MapKept.run_setObj_map _ h,hmod,goInt,setBlock]
  ·exact ⟨rfl,rfl,rfl,by simp [setBlock],fun k _ hk=>ChangeMaps.heap_setBlock_other h _ (fun e=>hk (by rw [e]))⟩
 ·rw [dif_neg hp] at hf ⊢
  rw [if_neg hp];have hle:qap m t<=m.length:=List.findIdx_le_length;have hpe:qap m t=m.length:=by omega
  have hpush:(qaQ 0 m).toArray.push {key:=tV t,val:= .slice none 0 0,born:=m.length}=(qaQ 0 (m++[(t,.slice none 0 0)])).toArray:=by
   rw [qnP,Nat.zero_add,List.push_toArray]
  refine ⟨setBlock w B (.map (qaQ 0 (m++[(t,Value.slice none 0 0)])).toArray (m++[(t,Value.slice none 0 0)]).length),?_,ChangeMaps.heap_setBlock_same h _,?_⟩
  ·rw [hpe,<- hpush]
   simp [Instr.mapEntry,run_underlying Tryz.underlying248,MapKept.run_getObj_map h,qhz,hf,Result.andThen,MapKept.run_setObj_map _ h,goInt,setBlock,Tryz.zeroValue23]
  ·exact ⟨rfl,rfl,rfl,by simp [setBlock],fun k _ hk=>ChangeMaps.heap_setBlock_other h _ (fun e=>hk (by rw [e]))⟩
theorem qnV:∀ (m:List Ent) (i k:Nat),k<m.length->(qaQ i m).findIdx? (fun e=>((e.born:Nat):Int)==((i+k:Nat):Int))=some k
 |[],i,k,h=>by simp at h
 |e::m,i,0,_=>by rw [qaQ,List.findIdx?_cons];simp
 |e::m,i,k+1,h=>by
  have ih:=qnV m (i+1) k (by simpa using h);rw [qaQ,List.findIdx?_cons,if_neg (by simp;omega)];rw [show i+(k+1)=i+1+k by omega,ih];rfl
theorem quG {w:World} {B:Nat} {m:List Ent} (h:qa7 w B m) {k:Nat} (hk:k<m.length) (v:Value):∃ w',(Instr.entryStore 248 (.map (some B)) (.int .i64 (k:Int)) v).run Tryz.prog w= .ok () w'/\qa7 w' B (m.set k (m[k].1,v))/\w.grownBy w' (some B):=by
 unfold qa7 at h;have hb:=qnV m 0 k hk;rw [Nat.zero_add] at hb;have he:=qgM (i:=0) hk;rw [Nat.zero_add] at he;have hmod:(qaQ 0 m).modify k (fun e=>{e with val:=v})=qaQ 0 (m.set k (m[k].1,v)):=by
  rw [qnQ,Nat.zero_add];apply List.ext_getElem?;intro j;rw [List.getElem?_modify,List.getElem?_set];by_cases hj:k=j
  ·subst hj
   have hkl:k<(qaQ 0 m).length:=by rw [qhA];exact hk
   rw [he,if_pos rfl,if_pos hkl];simp
  ·simp [hj]
 refine ⟨setBlock w B (.map (qaQ 0 (m.set k (m[k].1,v))).toArray (m.set k (m[k].1,v)).length),?_,ChangeMaps.heap_setBlock_same h _,?_⟩
 ·rw [<- hmod]
  simp [Instr.entryStore,MapKept.run_getObj_map h,asInt,asIntOf,hb,MapKept.run_setObj_map _ h,Result.andThen,setBlock]
 ·exact ⟨rfl,rfl,rfl,by simp [setBlock],fun k _ hk=>ChangeMaps.heap_setBlock_other h _ (fun e=>hk (by rw [e]))⟩
section
variable {ops:Array Oper} {rest:List Oper} {o:Oper} {a:Act} {Q:Exit->Act->World->Prop}
theorem quH (w:World) (hg:o.guard=none) (x y:Operand) (hop:o.op=Op.lookup 248 x y false) (B:Nat) (m:List Ent) (t:Tm) (hx:a.eval x= .map (some B)) (hat:qa7 w B m) (hy:a.eval y=tV t)
  (hK:wpList Tryz.prog ops Q rest (a.put o.dst (qb7 m t)) w):wpList Tryz.prog ops Q (o::rest) a w:=by
 refine wpList_plain hg fun K' hK'=> ?_
 unfold Oper.wp;simp [execOp,hop,hx,hy,quE hat,Result.andThen];exact hK' _ _ hK
theorem quI (w:World) (hg:o.guard=none) (x y:Operand) (hop:o.op=Op.mapEntry 248 x y) (B:Nat) (m:List Ent) (t:Tm) (hx:a.eval x= .map (some B)) (hat:qa7 w B m) (hy:a.eval y=tV t)
  (hK:∀ w',qa7 w' B (qb8 m t)->w.grownBy w' (some B)->wpList Tryz.prog ops Q rest (a.put o.dst (.tuple #[qb7 m t,.int .i64 (qap m t:Int)])) w'):wpList Tryz.prog ops Q (o::rest) a w:=by
 refine wpList_plain hg fun K' hK'=> ?_
 obtain ⟨w',hrun,r1,r2⟩:=quF hat t;unfold Oper.wp;simp [execOp,hop,hx,hy,hrun,Result.andThen];exact hK' _ _ (hK w' r1 r2)
theorem quJ (w:World) (hg:o.guard=none) (x y z:Operand) (hop:o.op=Op.entryStore 248 x y z) (B:Nat) (m:List Ent) (k:Nat) (hk:k<m.length) (v:Value) (hx:a.eval x= .map (some B)) (hat:qa7 w B m) (hy:a.eval y= .int .i64 (k:Int)) (hz:a.eval z=v)
  (hK:∀ w',qa7 w' B (m.set k (m[k].1,v))->w.grownBy w' (some B)->wpList Tryz.prog ops Q rest (a.put o.dst undef) w'):wpList Tryz.prog ops Q (o::rest) a w:=by
 refine wpList_plain hg fun K' hK'=> ?_
 obtain ⟨w',hrun,r1,r2⟩:=quG hat hk v;unfold Oper.wp;simp [execOp,hop,hx,hy,hz,hrun,Result.andThen];exact hK' _ _ (hK w' r1 r2)
end
open Go.ChangeMaps (setBlock)
def kV (t:Nm):Value:= .string ⟨t.toArray⟩
theorem qhB (em:Bool) (t:Nm) (w:World):(Instr.checkKey em 10000 9 (kV t)).run Tryz.prog w= .ok () w:=by
 have h:∀ d:Nat,(Instr.checkKey em (d+1) 9 (kV t)).run Tryz.prog w= .ok () w:=fun d=>by
  simp [Instr.checkKey,run_underlying Tryz.underlying9,kV]
 exact h 9999
theorem quK (t:Nm) (w:World):(Instr.keyThatStays (kV t) (kV t)).run Tryz.prog w= .ok (kV t) w:=by
 have h:∀ d:Nat,Instr.sameBits (d+2) (kV t) (kV t)=true:=fun d=>by simp [Instr.sameBits,kV,qhy]
 simp [Instr.keyThatStays,h 9998]
abbrev qaF:=Nm × Value
def qbe:Nat->List qaF->List MapEntry
 |_,[]=>[]
 |i,e::m=>{key:=kV e.1,val:=e.2,born:=i}::qbe (i+1) m
theorem qhC:∀ (m:List qaF) (i:Nat),(qbe i m).length=m.length
 |[],_=>rfl
 |e::m,i=>by simp [qbe,qhC m (i+1)]
theorem qhD:∀ {m:List qaF} {i k:Nat} (hk:k<m.length),(qbe i m)[k]?=some {key:=kV m[k].1,val:=m[k].2,born:=i+k}
 |[],_,_,h=>by simp at h
 |e::m,i,0,_=>rfl
 |e::m,i,k+1,h=>by
  have :=qhD (m:=m) (i:=i+1) (k:=k) (by simpa using h);simp only [qbe,List.getElem?_cons_succ,zC];rw [this,Nat.add_assoc,Nat.add_comm 1 k]
theorem qnW:∀ (m:List qaF) (e:qaF) (i:Nat),qbe i (m++[e])=qbe i m++[{key:=kV e.1,val:=e.2,born:=i+m.length}]
 |[],e,i=>rfl
 |x::m,e,i=>by
  simp only [List.cons_append,qbe,qnW m e (i+1),List.length_cons];rw [Nat.add_assoc,Nat.add_comm 1 m.length]
theorem qnX:∀ (m:List qaF) (e:qaF) (i k:Nat),qbe i (m.set k e)=(qbe i m).set k {key:=kV e.1,val:=e.2,born:=i+k}
 |[],e,i,k=>by simp [qbe]
 |x::m,e,i,0=>by simp [qbe]
 |x::m,e,i,k+1=>by
  simp only [zF,qbe,qnX m e (i+1) k];rw [Nat.add_assoc,Nat.add_comm 1 k]
def qa8 (w:World) (B c:Nat) (m:List qaF):Prop:=w.heap[B]?=some (.map (qbe c m).toArray (c+m.length))
def qaq (m:List qaF) (t:Nm):Nat:=m.findIdx (fun e=>decide (e.1=t))
def qcK (m:List qaF) (t:Nm):Value:=if h:qaq m t<m.length then m[qaq m t].2 else .slice none 0 0
def qc1 (m:List qaF) (t:Nm):List qaF:=if qaq m t<m.length then m else m++[(t,.slice none 0 0)]
theorem qnY {m:List qaF} {t:Nm} (h:qaq m t<m.length):m[qaq m t].1=t:=by
 have :=List.findIdx_getElem (p:=fun e:qaF=>decide (e.1=t)) (xs:=m) (w:=h);exact of_decide_eq_true this
theorem quL (m:List qaF) (t:Nm):qaq m t<(qc1 m t).length/\(qc1 m t)[qaq m t]?=some (t,qcK m t):=by
 unfold qc1 qcK;split
 ·rename_i h
  have e:=qnY h;refine ⟨h,?_⟩;rw [List.getElem?_eq_getElem h];exact congrArg some (Prod.ext e rfl)
 ·rename_i h
  have hle:qaq m t<=m.length:=List.findIdx_le_length;have :qaq m t=m.length:=by omega
  rw [this];simp
theorem qnZ:∀ (m:List qaF) (t:Nm) (k i:Nat),Instr.findNow .string (kV t) (qbe k m) i=some (if h:qaq m t<m.length then some (i+qaq m t,m[qaq m t].2) else none)
 |[],t,k,i=>by simp [qbe,Instr.findNow,qaq]
 |e::m,t,k,i=>by
  have ih:=qnZ m t (k+1) (i+1);have hs:Instr.sameNow .string (kV t) (kV e.1)=some (decide (t=e.1)):=by simp only [Instr.sameNow,kV,qhy]
  rw [qbe,Instr.findNow];simp only [hs];by_cases he:t=e.1
  ·have hp:qaq (e::m) t=0:=by unfold qaq;rw [List.findIdx_cons];simp [he]
   simp only [hp];simp [he]
  ·have he':¬ e.1=t:=fun h=>he h.symm
   have hp:qaq (e::m) t=qaq m t+1:=by unfold qaq;rw [List.findIdx_cons];simp [he']
   simp only [he,decide_false,ih];by_cases h:qaq m t<m.length
   ·have h':qaq (e::m) t<(e::m).length:=by rw [hp];simpa using h
    rw [dif_pos h,dif_pos h'];simp only [hp,zC];rw [Nat.add_assoc,Nat.add_comm 1]
   ·have h':¬ qaq (e::m) t<(e::m).length:=by rw [hp];simpa using h
    rw [dif_neg h,dif_neg h']
theorem qn0 (m:List qaF) (t:Nm) (w:World) (k:Nat):(Instr.findKey 9 (kV t) (qbe k m)).run Tryz.prog w= .ok (if h:qaq m t<m.length then some (qaq m t,m[qaq m t].2) else none) w:=by
 have h:=qnZ m t k 0;simp only [Nat.zero_add] at h;simp only [Instr.findKey,Sem.run_bind,run_underlying Tryz.underlying9,Result.andThen,h];simp [Sem.run_pure]
theorem qn1 {w:World} {B c:Nat} {m:List qaF} (h:qa8 w B c m) (t:Nm):(Instr.lookup 124 (.map (some B)) (kV t) false).run Tryz.prog w= .ok (qcK m t) w:=by
 unfold qa8 at h;have hf:=qn0 m t w c;unfold qcK;by_cases hp:qaq m t<m.length
 ·rw [dif_pos hp] at hf ⊢
  simp [Instr.lookup,run_underlying Tryz.underlying124,MapKept.run_getObj_map h,qhB,hf,Result.andThen]
 ·rw [dif_neg hp] at hf ⊢
  simp [Instr.lookup,run_underlying Tryz.underlying124,MapKept.run_getObj_map h,qhB,hf,Result.andThen,Tryz.zeroValue71]
theorem quM {w:World} {B c:Nat} {m:List qaF} (h:qa8 w B c m) (t:Nm) (v:Value):∃ w',(Instr.mapUpdate 124 (.map (some B)) (kV t) v).run Tryz.prog w= .ok () w'/\qa8 w' B c ((qc1 m t).set (qaq m t) (t,v))/\w.grownBy w' (some B):=by
 unfold qa8 at h;have hf:=qn0 m t w c;unfold qc1;by_cases hp:qaq m t<m.length
 ·rw [dif_pos hp] at hf
  rw [if_pos hp];have hk:=qnY hp;have he:=qhD (i:=c) hp;rw [hk] at he;have hmod:(qbe c m).modify (qaq m t) (fun e=>{e with key:=kV t,val:=v})=qbe c (m.set (qaq m t) (t,v)):=by
   rw [qnX];apply List.ext_getElem?;intro j;rw [List.getElem?_modify,List.getElem?_set];by_cases hj:qaq m t=j
   ·subst hj
    have hkl:qaq m t<(qbe c m).length:=by rw [qhC];exact hp
    rw [he,if_pos rfl,if_pos hkl];simp
   ·simp [hj]
  refine ⟨setBlock w B (.map (qbe c (m.set (qaq m t) (t,v))).toArray (c+(m.set (qaq m t) (t,v)).length)),?_,ChangeMaps.heap_setBlock_same h _,?_⟩
  ·rw [<- hmod]
   simp [Instr.mapUpdate,run_underlying Tryz.underlying124,MapKept.run_getObj_map h,qhB,hf,Result.andThen,he,quK,MapKept.run_setObj_map _ h,setBlock]
  ·exact ⟨rfl,rfl,rfl,by simp [setBlock],fun k _ hk=>ChangeMaps.heap_setBlock_other h _ (fun e=>hk (by rw [e]))⟩
 ·rw [dif_neg hp] at hf
  rw [if_neg hp];have hle:qaq m t<=m.length:=List.findIdx_le_length;have hpe:qaq m t=m.length:=by omega
  have hset:(m++[(t,Value.slice none 0 0)]).set (qaq m t) (t,v)=m++[(t,v)]:=by
   rw [hpe];simp
  have hpush:(qbe c m).toArray.push {key:=kV t,val:=v,born:=c+m.length}=(qbe c (m++[(t,v)])).toArray:=by
   rw [qnW,List.push_toArray]
  rw [hset];refine ⟨setBlock w B (.map (qbe c (m++[(t,v)])).toArray (c+(m++[(t,v)]).length)),?_,ChangeMaps.heap_setBlock_same h _,?_⟩
  ·rw [<- hpush]
   simp [Instr.mapUpdate,run_underlying Tryz.underlying124,MapKept.run_getObj_map h,qhB,hf,Result.andThen,MapKept.run_setObj_map _ h,setBlock,Nat.add_assoc]
  ·exact ⟨rfl,rfl,rfl,by simp [setBlock],fun k _ hk=>ChangeMaps.heap_setBlock_other h _ (fun e=>hk (by rw [e]))⟩
section
variable {ops:Array Oper} {rest:List Oper} {o:Oper} {a:Act} {Q:Exit->Act->World->Prop}
theorem quN (w:World) (hg:o.guard=none) (x y:Operand) (hop:o.op=Op.lookup 124 x y false) (B c:Nat) (m:List qaF) (t:Nm) (hx:a.eval x= .map (some B)) (hat:qa8 w B c m) (hy:a.eval y=kV t)
  (hK:wpList Tryz.prog ops Q rest (a.put o.dst (qcK m t)) w):wpList Tryz.prog ops Q (o::rest) a w:=by
 refine wpList_plain hg fun K' hK'=> ?_
 unfold Oper.wp;simp [execOp,hop,hx,hy,qn1 hat,Result.andThen];exact hK' _ _ hK
end
def Of (S:Nat->Prop) (t:TypeId) (w:World) (k:Nat):Prop:=S k/\∃ cs fr,w.heap[k]?=some (.cells cs t fr)/\fr=(0,0)
theorem Of.lt {S:Nat->Prop} {t:TypeId} {w:World} {k:Nat} (h:Of S t w k):k<w.heap.size:=by obtain ⟨_,cs,fr,h,_⟩:=h;exact (Array.getElem?_eq_some_iff.1 h).1
theorem Of.keep {S:Nat->Prop} {t:TypeId} {w w':World} {k:Nat} (h:Of S t w k) (hk:w'.heap[k]?=w.heap[k]?):Of S t w' k:=by obtain ⟨h1,cs,fr,h,h0⟩:=h;exact ⟨h1,cs,fr,hk.trans h,h0⟩
theorem Of.imp {S T:Nat->Prop} {t:TypeId} {w:World} {k:Nat} (h:Of S t w k) (hs:S k->T k):Of T t w k:=⟨hs h.1,h.2⟩
theorem qaO.keepO {S:Nat->Prop} {t:TypeId} {w w':World} {A:Option Addr} {xs:List Value} (h:qaO (Of S t w) w A xs) (hk:∀ k,Of S t w k->w'.heap[k]?=w.heap[k]?):qaO (Of S t w') w' A xs:=(h.keep hk).imp fun k hs=>hs.keep (hk k hs)
theorem qeJ {w:World} {base:Nat} {e:TypeId} {size:Nat} {v:Value} {n:Nat} {xs:List Value} (h:w.ownsRow base e size v n xs) {k:Nat} (hk:v.ownBlock=some k):∃ cs fr,w.heap[k]?=some (.cells cs e fr):=by
 rcases h.2 with ⟨rfl,_⟩|⟨g,cap,cur,rfl,_,hh,_⟩
 ·cases hk
 ·simp only [Value.ownBlock,Option.some.injEq] at hk
  subst hk;exact ⟨_,_,hh⟩
theorem quO {w:World} {base:Nat} {e:TypeId} {size:Nat} {v:Value} {n:Nat} {xs:List Value} (h:w.ownsRow base e size v n xs) {k:Nat} (hk:v.ownBlock=some k):∃ cs,w.heap[k]?=some (.cells cs e (0,0)):=by
 rcases h.2 with ⟨rfl,_⟩|⟨g,cap,cur,rfl,_,hh,_⟩
 ·cases hk
 ·simp only [Value.ownBlock,Option.some.injEq] at hk
  subst hk;exact ⟨_,hh⟩
def qbA (S:Nat->Prop) (w:World) (v:Value) (l:List Pn):Prop:=∃ cs,w.ownsRow 0 74 2 v l.length cs/\(∀ k,v.ownBlock=some k->S k)/\qam (qaO (Of S 3 w) w) l cs
theorem qbA.nil {S:Nat->Prop} {w:World}:qbA S w (.slice none 0 0) []:=⟨[],World.ownsRow_nil _ _ _ _,(fun k hk=>by cases hk),rfl⟩
theorem qbA.keep {S:Nat->Prop} {w w':World} {v:Value} {l:List Pn} (h:qbA S w v l) (hv:∀ k,v.ownBlock=some k->w'.heap[k]?=w.heap[k]?) (hk:∀ k,Of S 3 w k->w'.heap[k]?=w.heap[k]?):qbA S w' v l:=by
 obtain ⟨cs,h1,h2,h3⟩:=h;exact ⟨cs,qat h1 hv,h2,h3.imp fun _ _ h=>h.keepO hk⟩
theorem qbA.imp {S T:Nat->Prop} {w:World} {v:Value} {l:List Pn} (h:qbA S w v l) (hs:∀ k,S k->T k):qbA T w v l:=by
 obtain ⟨cs,h1,h2,h3⟩:=h;exact ⟨cs,h1,fun k hk=>hs k (h2 k hk),h3.imp fun _ _ h=>h.imp fun k hk=>hk.imp (hs k)⟩
theorem qbA.push {S:Nat->Prop} {w w':World} {v v':Value} {l:List Pn} {cs:List Value} (h1:w.ownsRow 0 74 2 v l.length cs) (h3:qam (qaO (Of S 3 w) w) l cs) {A:Option Addr} {c:Nat} {d:Int} {ps:List Int} (hc:ps.length<=c) (hcx:c<=maxLen) (hr:qaO (Of S 3 w) w A (qab ps))
  (hown:w'.ownsRow 0 74 2 v' (l.length+1) (cs++[.int .i64 d,.slice A ps.length c])) (hg:w.grownBy w' v.ownBlock) (hS:∀ k,v'.ownBlock=some k->S k):qbA S w' v' (l++[(d,ps)]):=by
 have hk:∀ k,Of S 3 w k->w'.heap[k]?=w.heap[k]?:=fun k hk=>hg.block k hk.lt fun e=>by
  obtain ⟨_,cs',fr,hh,_⟩:=hk;exact qai h1 hh (by decide) e.symm
 refine ⟨_,?_,hS,(h3.imp fun _ _ h=>h.keepO hk).snoc hc hcx (hr.keepO hk)⟩;rw [List.length_append,List.length_singleton];exact hown
def qbt (S:Nat->Prop) (w:World) (M c:Nat) (g:List GP):Prop:=∃ m:List qaF,qa8 w M c m/\S M/\m.length=g.length/\
 (∀ (i:Nat) (e:qaF) (p:GP),m[i]?=some e->g[i]?=some p->e.1=p.1/\qbA S w e.2 p.2)/\
 ∀ (i j:Nat) (e f:qaF) (k:Nat),i≠j->m[i]?=some e->m[j]?=some f->e.2.ownBlock=some k->f.2.ownBlock≠some k
def qfB (S:Nat->Prop) (w:World) (M k:Nat):Prop:=k=M∨Of S 74 w k
theorem qbA.not_map {S:Nat->Prop} {w:World} {v:Value} {l:List Pn} (h:qbA S w v l) {B:Nat} {es:Array MapEntry} {c:Nat} (hB:w.heap[B]?=some (.map es c)):v.ownBlock≠some B:=by
 intro he;obtain ⟨cs,h1,_⟩:=h;obtain ⟨cs',fr,hh⟩:=qeJ h1 he;rw [hh] at hB;cases hB
theorem qbt.lt {S:Nat->Prop} {w:World} {M c:Nat} {g:List GP} (h:qbt S w M c g):M<w.heap.size:=by obtain ⟨m,h1,_⟩:=h;exact (Array.getElem?_eq_some_iff.1 h1).1
theorem qbt.map {S:Nat->Prop} {w:World} {M c:Nat} {g:List GP} (h:qbt S w M c g):∃ es c',w.heap[M]?=some (.map es c'):=by obtain ⟨m,h1,_⟩:=h;exact ⟨_,_,h1⟩
theorem qbt.keep {S:Nat->Prop} {w w':World} {M c:Nat} {g:List GP} (h:qbt S w M c g) (hk:∀ k,S k->k<w.heap.size->w'.heap[k]?=w.heap[k]?):qbt S w' M c g:=by
 have hlt:=h.lt;obtain ⟨m,h1,h2,h3,h4,h5⟩:=h;refine ⟨m,(hk M h2 hlt).trans h1,h2,h3,fun i e p he hp=> ?_,h5⟩;obtain ⟨r1,r2⟩:=h4 i e p he hp;refine ⟨r1,r2.keep (fun k hv=> ?_) fun k hs=>hk k hs.1 hs.lt⟩;obtain ⟨cs,q1,q2,_⟩:=r2;exact hk k (q2 k hv) (q1.lt k hv).2
theorem qbt.imp {S T:Nat->Prop} {w:World} {M c:Nat} {g:List GP} (h:qbt S w M c g) (hs:∀ k,S k->T k):qbt T w M c g:=by
 obtain ⟨m,h1,h2,h3,h4,h5⟩:=h;exact ⟨m,h1,hs M h2,h3,fun i e p he hp=>⟨(h4 i e p he hp).1,(h4 i e p he hp).2.imp hs⟩,h5⟩
theorem qhE {S:Nat->Prop} {w:World}:∀ {m:List qaF} {g:List GP} (t:Nm),m.length=g.length->(∀ (i:Nat) (e:qaF) (p:GP),m[i]?=some e->g[i]?=some p->e.1=p.1/\qbA S w e.2 p.2)->qbA S w (qcK m t) (qbF g t)
 |[],g,t,hl,h=>by
  cases g with
  |nil=>exact qbA.nil
  |cons p g=>cases hl
 |e::m,g,t,hl,h=>by
  cases g with
  |nil=>cases hl
  |cons p g=>
   obtain ⟨h1,h2⟩:=h 0 e p rfl rfl;have ih:=qhE (m:=m) (g:=g) t (by simpa using hl) fun i e' p' he hp=>h (i+1) e' p' (by simpa using he) (by simpa using hp)
   rw [qbF];by_cases ht:e.1=t
   ·have hp:qaq (e::m) t=0:=by unfold qaq;rw [List.findIdx_cons];simp [ht]
    have hv:qcK (e::m) t=e.2:=by unfold qcK;simp [hp]
    rw [if_pos (by rw [<- h1];exact ht),hv];exact h2
   ·have hp:qaq (e::m) t=qaq m t+1:=by unfold qaq;rw [List.findIdx_cons];simp [ht]
    have hv:qcK (e::m) t=qcK m t:=by unfold qcK;simp [hp]
    rw [if_neg (by rw [<- h1];exact ht),hv];exact ih
theorem qbt.look {S:Nat->Prop} {w:World} {M c:Nat} {g:List GP} (h:qbt S w M c g) (t:Nm):∃ v,(∃ m,qa8 w M c m/\qcK m t=v)/\qbA S w v (qbF g t):=by
 obtain ⟨m,h1,h2,h3,h4,h5⟩:=h;exact ⟨_,⟨m,h1,rfl⟩,qhE t h3 h4⟩
theorem qbt.keys {S:Nat->Prop} {w:World} {M c:Nat} {g:List GP} (h:qbt S w M c g):∃ m,qa8 w M c m/\m.map (·.1)=g.map (·.1)/\m.length=g.length:=by
 obtain ⟨m,h1,_,h3,h4,_⟩:=h;refine ⟨m,h1,List.ext_getElem (by simp [h3]) fun i hi hj=> ?_,h3⟩;have hi':i<m.length:=by simpa using hi
 have hj':i<g.length:=by simpa using hj
 simpa using (h4 i _ _ (List.getElem?_eq_getElem hi') (List.getElem?_eq_getElem hj')).1
theorem qn2:∀ {m:List qaF} {g:List GP} {t:Nm} {a:Pn},m.length=g.length->(∀ (i:Nat) (e:qaF) (p:GP),m[i]?=some e->g[i]?=some p->e.1=p.1)->
  (qce g t a).length=(qc1 m t).length/\(qce g t a)[qaq m t]?=some (t,qbF g t++[a])/\∀ i p,i≠qaq m t->(qce g t a)[i]?=some p->g[i]?=some p
 |[],g,t,a,hl,h=>by
  cases g with
  |nil=>refine ⟨by simp [qce,qc1,qaq],by simp [qce,qaq,qbF],fun i p hi hp=> ?_⟩;cases i with|zero=>simp [qaq] at hi|succ i=>simp [qce] at hp
  |cons p g=>cases hl
 |e::m,g,t,a,hl,h=>by
  cases g with
  |nil=>cases hl
  |cons p g=>
   have h1:=h 0 e p rfl rfl;obtain ⟨i1,i2,i3⟩:=qn2 (m:=m) (g:=g) (t:=t) (a:=a) (by simpa using hl) fun i e' p' he hp=>h (i+1) e' p' (by simpa using he) (by simpa using hp)
   have hl':m.length=g.length:=by simpa using hl
   rw [qce];by_cases ht:e.1=t
   ·have hp:qaq (e::m) t=0:=by unfold qaq;rw [List.findIdx_cons];simp [ht]
    have ht':p.1=t:=by rw [<- h1];exact ht
    rw [if_pos ht',hp];refine ⟨by simp [qc1,hp,hl'],by simp [qbF,ht'],fun i q hi hq=> ?_⟩;cases i with
    |zero=>exact absurd rfl hi
    |succ i=>simpa using hq
   ·have hp:qaq (e::m) t=qaq m t+1:=by unfold qaq;rw [List.findIdx_cons];simp [ht]
    have ht':¬ p.1=t:=by rw [<- h1];exact ht
    have he:(qc1 (e::m) t).length=(qc1 m t).length+1:=by
     unfold qc1;rw [hp];by_cases hq:qaq m t<m.length
     ·rw [if_pos hq,if_pos (by simpa using hq)];rfl
     ·rw [if_neg hq,if_neg (by simpa using hq)];simp
    rw [if_neg ht',hp];refine ⟨by rw [he,List.length_cons,i1],by rw [List.getElem?_cons_succ,i2,qbF,if_neg ht'],fun i q hi hq=> ?_⟩;cases i with
    |zero=>simpa using hq
    |succ i=>simpa using i3 i q (by omega) (by simpa using hq)
theorem qbt.added {S T:Nat->Prop} {w w3:World} {M c:Nat} {g:List GP} {m:List qaF} {t:Nm} {a:Pn} {v':Value}
  (h1:qa8 w M c m) (h2:S M) (h3:m.length=g.length) (h4:∀ (i:Nat) (e:qaF) (p:GP),m[i]?=some e->g[i]?=some p->e.1=p.1/\qbA S w e.2 p.2)
  (h5:∀ (i j:Nat) (e f:qaF) (k:Nat),i≠j->m[i]?=some e->m[j]?=some f->e.2.ownBlock=some k->f.2.ownBlock≠some k)
  (hST:∀ k,S k->T k) (hk:∀ (k:Nat),k<w.heap.size->k≠M->(qcK m t).ownBlock≠some k->w3.heap[k]?=w.heap[k]?)
  (hm2:qa8 w3 M c ((qc1 m t).set (qaq m t) (t,v'))) (ho:qbA T w3 v' (qbF g t++[a])) (hn:v'.ownBlock=(qcK m t).ownBlock∨∀ k,v'.ownBlock=some k->w.heap.size<=k):qbt T w3 M c (qce g t a):=by
 obtain ⟨p1,p2⟩:=quL m t;obtain ⟨q1,q2,q3⟩:=qn2 (a:=a) (t:=t) h3 fun i e p he hp=>(h4 i e p he hp).1
 have hB:M<w.heap.size:=(Array.getElem?_eq_some_iff.1 h1).1;have hent:∀ (i:Nat) (e:qaF),i≠qaq m t->(qc1 m t)[i]?=some e->m[i]?=some e:=fun i e hi he=>by
  unfold qc1 at he;split at he
  ·exact he
  ·rename_i hlt
   have hle:qaq m t<=m.length:=List.findIdx_le_length;rw [List.getElem?_append] at he;split at he
   ·exact he
   ·rename_i h6
    have :i≠m.length:=by omega
    rw [List.getElem?_eq_none (by simp;omega)] at he;cases he
 have hval:∀ (i:Nat) (e:qaF) (k:Nat),i≠qaq m t->m[i]?=some e->e.2.ownBlock=some k->(qcK m t).ownBlock≠some k:=fun i e k hi he hk'=>by
  unfold qcK;split
  ·rename_i hlt
   exact h5 i (qaq m t) e _ k hi he (List.getElem?_eq_getElem hlt) hk'
  ·intro hh;cases hh
 refine ⟨_,hm2,hST M h2,by rw [List.length_set,q1],fun i e p he hp=> ?_,fun i j e f k hij he hf hk'=> ?_⟩
 ·rw [List.getElem?_set] at he
  by_cases hi:qaq m t=i
  ·subst hi
   rw [if_pos rfl,if_pos p1] at he;rw [q2] at hp;cases he;cases hp;exact ⟨rfl,ho⟩
  ·rw [if_neg hi] at he
   have he':=hent i e (fun h=>hi h.symm) he;have hp':=q3 i p (fun h=>hi h.symm) hp;obtain ⟨r1,r2⟩:=h4 i e p he' hp';have rv:=hval i e;have rm:∀ k,e.2.ownBlock=some k->k≠M:=fun k hk' e'=>r2.not_map h1 (by rw [hk',e'])
   refine ⟨r1,qbA.imp (r2.keep (fun k hk'=> ?_) fun k hs=> ?_) hST⟩
   ·have hlt:k<w.heap.size:=by obtain ⟨cs,g1,_⟩:=r2;exact (g1.lt k hk').2
    exact hk k hlt (rm k hk') (rv k (fun h=>hi h.symm) he' hk')
   ·obtain ⟨_,cs',fr',hh,_⟩:=hs
    refine hk k (Array.getElem?_eq_some_iff.1 hh).1 (fun e'=> ?_) (fun e'=> ?_)
    ·subst e';rw [h1] at hh;cases hh
    ·obtain ⟨cs2,g1,_⟩:=qhE (S:=S) (w:=w) t h3 h4
     exact qai g1 hh (by decide) e'
 ·rw [List.getElem?_set] at he hf
  have hother:∀ (x:Nat) (u:qaF),qaq m t≠x->(qc1 m t)[x]?=some u->∀ k,u.2.ownBlock=some k->v'.ownBlock≠some k:=fun x u hx hu k hk2 hv=>by
   have hu':=hent x u (fun h=>hx h.symm) hu;rcases hn with hn|hn
   ·rw [hn] at hv
    exact hval x u k (fun h=>hx h.symm) hu' hk2 hv
   ·have hlx:x<g.length:=by rw [<- h3];exact (List.getElem?_eq_some_iff.1 hu').1
    obtain ⟨cs2,g1,_⟩:=(h4 x u _ hu' (List.getElem?_eq_getElem hlx)).2;have :=(g1.lt k hk2).2;have :=hn k hv;omega
  by_cases hi:qaq m t=i
  ·subst hi
   rw [if_pos rfl,if_pos p1] at he;cases he;rw [if_neg hij] at hf;intro hf2;exact hother j f hij hf k hf2 hk'
  ·rw [if_neg hi] at he
   by_cases hj:qaq m t=j
   ·subst hj
    rw [if_pos rfl,if_pos p1] at hf;cases hf;exact hother i e hi he k hk'
   ·rw [if_neg hj] at hf
    exact h5 i j e f k hij (hent i e (fun h=>hi h.symm) he) (hent j f (fun h=>hj h.symm) hf) hk'
theorem qcg {w:World} {b:Nat} {x y z u:Value} {t:TypeId} (h:w.heap[b]?=some (.cells #[x,y,z,u] t (0,0))):
  w.cell? ⟨b,0,none⟩=some x/\w.cell? ⟨b,1,none⟩=some y/\w.cell? ⟨b,2,none⟩=some z/\w.cell? ⟨b,3,none⟩=some u/\
   w.frozen? ⟨b,0,none⟩=false/\w.frozen? ⟨b,1,none⟩=false/\w.frozen? ⟨b,2,none⟩=false/\w.frozen? ⟨b,3,none⟩=false:=by
 simp [World.cell?,World.frozen?,h]
def qc2 (S:Nat->Prop) (w:World) (A:Option Addr) (xs:List Value):Prop:=qaO (Of S 121 w) w A xs/\(A=none∨∃ b o,A=some ⟨b,o,none⟩)
theorem qc2.keepO {S:Nat->Prop} {w w':World} {A:Option Addr} {xs:List Value} (h:qc2 S w A xs) (hk:∀ k,Of S 121 w k->w'.heap[k]?=w.heap[k]?):qc2 S w' A xs:=⟨qaO.keepO h.1 hk,h.2⟩
theorem qc2.impS {S T:Nat->Prop} {w:World} {A:Option Addr} {xs:List Value} (h:qc2 S w A xs) (hs:∀ k,S k->T k):qc2 T w A xs:=⟨qaO.imp h.1 fun k hk=>hk.imp (hs k),h.2⟩
def qa0 (S:Nat->Prop) (w:World) (v:Value) (l:List En):Prop:=∃ cs,w.ownsRow 0 61 3 v l.length cs/\(∀ k,v.ownBlock=some k->S k)/\qcQ enS (qc2 S w) l cs
section
variable {S T:Nat->Prop} {w w':World} {v v':Value} {l:List En}
theorem qa0.nil:qa0 S w (.slice none 0 0) []:=⟨[],World.ownsRow_nil _ _ _ _,(fun k hk=>by cases hk),rfl⟩
theorem qa0.keep (h:qa0 S w v l) (hv:∀ k,v.ownBlock=some k->w'.heap[k]?=w.heap[k]?) (hk:∀ k,Of S 121 w k->w'.heap[k]?=w.heap[k]?):qa0 S w' v l:=by
 obtain ⟨cs,h1,h2,h3⟩:=h;exact ⟨cs,qat h1 hv,h2,h3.imp fun _ _ h=>h.keepO hk⟩
theorem qa0.keeps (h:qa0 S w v l) (hk:∀ k,S k->k<w.heap.size->w'.heap[k]?=w.heap[k]?):qa0 S w' v l:=by
 refine h.keep (fun k hv=> ?_) fun k hs=>hk k hs.1 hs.lt
 obtain ⟨cs,q1,q2,_⟩:=h;exact hk k (q2 k hv) (q1.lt k hv).2
theorem qa0.imp (h:qa0 S w v l) (hs:∀ k,S k->T k):qa0 T w v l:=by
 obtain ⟨cs,h1,h2,h3⟩:=h;exact ⟨cs,h1,fun k hk=>hs k (h2 k hk),h3.imp fun _ _ h=>h.impS hs⟩
theorem qa0.nestP {p:Nat->Prop} (h:qa0 S w v l) (hp:∀ k,S k->k<w.heap.size->(∃ cs t fr,w.heap[k]?=some (.cells cs t fr)/\(t=61∨t=121))->p k):∃ A c,v= .slice A l.length c/\(l.length<=c/\c<=maxLen)/\qdc enS p w A l:=by
 obtain ⟨cs,h1,h2,h3⟩:=h;obtain ⟨A,c,rfl,hc,hr⟩:=qeH h1;refine ⟨A,c,rfl,hc,cs,h3.imp fun _ _ h=>h.1.imp fun k hk=>hp k hk.1 hk.lt ?_,?_⟩
 ·obtain ⟨_,cs',fr,hh,_⟩:=hk
  exact ⟨cs',_,fr,hh,.inr rfl⟩
 ·rcases h1.2 with ⟨hv,h0⟩|⟨g,cap,cur,hv,_,hh,_⟩
  ·refine .inl (List.eq_nil_of_length_eq_zero ?_)
   rw [h1.1,h0]
  ·injection hv with e1 e2 e3
   subst e1;have hs:=h2 g rfl;rcases hr with h0|⟨b,off,e,hb,hcc⟩
   ·exact .inl h0
   ·injection e with e
    injection e with e4 e5
    subst e4 e5;exact .inr ⟨g,0,rfl,hp g hs hb ⟨_,_,_,hh,.inl rfl⟩,hcc⟩
theorem qa0.nest (h:qa0 S w v l):∃ A c,v= .slice A l.length c/\(l.length<=c/\c<=maxLen)/\qdd enS w w.heap.size A l:=h.nestP fun k _ hk _=>hk
theorem qa0.push {cs:List Value} (h1:w.ownsRow 0 61 3 v l.length cs) (h3:qcQ enS (qc2 S w) l cs) {A:Option Addr} {c:Nat} {q:En} (hc:q.2.1.length<=c) (hcx:c<=maxLen) (hr:qc2 S w A (flds q.2.1))
  (hown:w'.ownsRow 0 61 3 v' (l.length+1) (cs++[.int .i64 q.1,.slice A q.2.1.length c,.int .i64 q.2.2])) (hg:w.grownBy w' v.ownBlock) (hS:∀ k,v'.ownBlock=some k->S k):qa0 S w' v' (l++[q]):=by
 have hk:∀ k,Of S 121 w k->w'.heap[k]?=w.heap[k]?:=fun k hk=>hg.block k hk.lt fun e=>by
  obtain ⟨_,cs',fr,hh,_⟩:=hk;exact qai h1 hh (by decide) e.symm
 refine ⟨_,?_,hS,(h3.imp fun _ _ h=>h.keepO hk).snoc (q:=q) hc hcx (hr.keepO hk)⟩;rw [List.length_append,List.length_singleton];exact hown
theorem qc2.of_own {base:Nat} {A:Option Addr} {n c:Nat} {fs:List Fd} (h:w.ownsRow base 121 2 (.slice A n c) n (flds fs)) (hS:∀ k,base<=k->k<w.heap.size->S k):qc2 S w A (flds fs):=by
 rcases h.2 with ⟨hv,hn⟩|⟨g,cap,cur,hv,hg,hh,hnc,hcp,hcs,htake⟩
 ·injection hv with h1 h2 h3
  refine ⟨.inl (List.eq_nil_of_length_eq_zero ?_),.inl h1⟩;rw [h.1,hn]
 ·injection hv with h1 h2 h3
  subst h1;refine ⟨?_,.inr ⟨g,0,rfl⟩⟩;rcases qbv h with h0|⟨b,off,e,hb,hc⟩
  ·exact .inl h0
  ·injection e with e
   injection e with e1 e2
   subst e1 e2;exact .inr ⟨g,0,rfl,⟨hS g hg hb,_,_,hh,rfl⟩,hc⟩
theorem qa0.at_ (h:qa0 S w v l) {k:Nat} (hk:k<l.length):∃ b c0 A c,v= .slice (some ⟨b,0,none⟩) l.length c0/\S b/\b<w.heap.size/\w.cell? ⟨b,k*3,none⟩=some (.int .i64 l[k].1)/\w.cell? ⟨b,k*3+1,none⟩=some (.slice A l[k].2.1.length c)/\w.cell? ⟨b,k*3+2,none⟩=some (.int .i64 l[k].2.2)/\l[k].2.1.length<=c/\c<=maxLen/\qc2 S w A (flds l[k].2.1):=by
 obtain ⟨cs,h1,h2,h3⟩:=h;obtain ⟨A,c,g1,g2,g3,g4,g5,g6⟩:=h3.at_ hk;have e0:=g5 0 _ rfl;have e2:=g6 0 _ rfl;rcases h1.2 with ⟨hv,h0⟩|⟨g,cap,cur,hv,hg,hh,_⟩
 ·omega
 ·subst hv
  have hc:∀ {j u},cs[j]?=some u->w.cell? ⟨g,j,none⟩=some u:=fun {j u} hu=>by have :=h1.cells (g:=g) rfl _ _ hu;simpa [Addr.add_lit] using this
  exact ⟨g,cap,A,c,rfl,h2 g rfl,(Array.getElem?_eq_some_iff.1 hh).1,hc e0,hc g1,hc e2,g2,g3,g4⟩
end
structure qfC (S:Nat->Prop) (w:World) (B:Nat) (l:List En) (up:Int) (v:Value) (M c:Nat) (g:List GP):Prop where
 cells:w.heap[B]?=some (.cells #[v,.map (some M),.int .i64 (qdb l:Int),.int .i64 up] 126 (0,0))
 mine:S B
 own:qa0 S w v l
 map:qbt S w M c g
 stand:qdS g l
 good:qcP l
 up1: -1<=up
 last:l≠[]->up=qeD l
 lt:∀ k,S k->k<w.heap.size
def qcL (S:Nat->Prop) (w:World) (B:Nat) (l:List En) (up:Int):Prop:=∃ v M c g,qfC S w B l up v M c g
section
variable {S T:Nat->Prop} {w w':World} {B:Nat} {l:List En} {up:Int}
theorem qfC.keep {v:Value} {M c:Nat} {g:List GP} (h:qfC S w B l up v M c g) (hk:∀ k,S k->w'.heap[k]?=w.heap[k]?) (hs:w.heap.size<=w'.heap.size):qfC S w' B l up v M c g:=
 ⟨(hk B h.mine).trans h.cells,h.mine,h.own.keeps fun k hk' _=>hk k hk',h.map.keep fun k hk' _=>hk k hk',h.stand,h.good,h.up1,h.last,fun k hk'=>Nat.lt_of_lt_of_le (h.lt k hk') hs⟩
theorem qcL.keep (h:qcL S w B l up) (hk:∀ k,S k->w'.heap[k]?=w.heap[k]?) (hs:w.heap.size<=w'.heap.size):qcL S w' B l up:=by
 obtain ⟨v,M,c,g,h⟩:=h;exact ⟨v,M,c,g,h.keep hk hs⟩
theorem qfC.below {v:Value} {M c:Nat} {g:List GP} (h:qfC S w B l up v M c g) (hb:Below w.heap.size w w'):qfC S w' B l up v M c g:=h.keep (fun k hk=>hb.block k (h.lt k hk)) hb.size
theorem qcL.below (h:qcL S w B l up) (hb:Below w.heap.size w w'):qcL S w' B l up:=by
 obtain ⟨v,M,c,g,h⟩:=h;exact ⟨v,M,c,g,h.below hb⟩
theorem qcL.lt (h:qcL S w B l up):∀ k,S k->k<w.heap.size:=by obtain ⟨v,M,c,g,h⟩:=h;exact h.lt
end
end Go.Proofs.YtpehcaidjlemiaaGreatDoor
