import Derived.Test.YtpehcaidjlemiaaGreatDoorMCQ03
import Derived.Test.YtpehcaidjlemiaaGreatDoorProg
import Derived.Test.YtpehcaidjlemiaaGreatDoorMCQ01
import Derived.Lib.Hide
import Derived.BigQuiet
import Derived.Deep.QuietTactic
import Derived.Sort.Walk0
import Derived.Lib.RowBridge
import Derived.Lib.SlicesCompact
import Derived.Lib.BitFns
import Derived.Lib.Strings
import Derived.Sort.OwnSorted
import Derived.Deep.AppendLies
set_option linter.unusedVariables false
namespace Go.Proofs.YtpehcaidjlemiaaGreatDoor
open Go Go.RowKit
def qbz:Nat->List (List UInt8)->Int
 |_,[]=>0
 |i,w::ws=>if 30<w.length then 3 else if 500<=i then 7 else qbz (i+1) ws
def qdN:Nat->List (List UInt8)->List Value
 |_,[]=>[]
 |i,w::ws=> .string ⟨w.toArray⟩:: .int .i64 i::qdN (i+1) ws
theorem qlC:∀ (a:List (List UInt8)) (i:Nat) (b:List (List UInt8)),qdN i (a++b)=qdN i a++qdN (i+a.length) b
 |[],i,b=>by simp [qdN]
 |w::a,i,b=>by
  simp only [List.cons_append,qdN,qlC a,List.length_cons];rw [show i+1+a.length=i+(a.length+1) by omega]
theorem qlD {ws:List (List UInt8)} {k:Nat} (hk:k<ws.length):qdN 0 (ws.take (k+1))=qdN 0 (ws.take k)++[.string ⟨ws[k].toArray⟩,.int .i64 k]:=by
 rw [List.take_succ_eq_append_getElem hk,qlC,List.length_take,Nat.zero_add,Nat.min_eq_left (by omega)];rfl
theorem qlE {ws:List (List UInt8)} {k:Nat} (hk:k<ws.length):qbz k (ws.drop k)=if 30<ws[k].length then 3 else if 500<=k then 7 else qbz (k+1) (ws.drop (k+1)):=by
 rw [List.drop_eq_getElem_cons hk,qbz]
theorem qlF:(Tryz.prog.info? 245).map (fun i=>(i.zero,i.size,i.bytes))=some (some (.agg #[.string ByteArray.empty,.int .i64 0]),2,24):=by kernel_rfl
def qeR (ws:List (List UInt8)) (w:World) (e:Ending) (w':World):Prop:=
 ∃ v,e= .returned (.tuple #[v,.int .i64 (qbz 0 ws)])/\(qbz 0 ws=0->w'.ownsRow w.heap.size 245 2 v ws.length (qdN 0 ws))/\(qbz 0 ws≠0->v= .slice none 0 0)/\Below w.heap.size w w'
def qlG (ws:List (List UInt8)) (w1:World) (a b o i:Value) (wr:World):Prop:=
 ∃ (k:Nat) (vo:Value),vo=o/\a= .slice none 0 0/\b= .int .i64 0/\k<=ws.length/\k<=500/\i= .int .i64 k/\wr.ownsRow w1.heap.size 245 2 o k (qdN 0 (ws.take k))/\Below w1.heap.size w1 wr/\qbz k (ws.drop k)=qbz 0 ws
def qcX (f g:List UInt8):List UInt8:=f++0::g
theorem qsf {f g f' g':List UInt8} (h:qcX f g=qcX f' g') (h0:(0:UInt8)∉f) (h1:(0:UInt8)∉f'):f=f'/\g=g':=by
 induction f generalizing f' with
 |nil=>
  cases f' with
  |nil=>simp [qcX] at h;exact ⟨rfl,h⟩
  |cons b f'=>simp [qcX] at h;exact absurd (by rw [<- h.1];exact List.mem_cons_self ..) h1
 |cons a f ih=>
  cases f' with
  |nil=>simp [qcX] at h;exact absurd (by rw [h.1];exact List.mem_cons_self ..) h0
  |cons b f'=>
   simp only [qcX,List.cons_append,List.cons.injEq] at h;obtain ⟨h2,h3⟩:=ih (f':=f') h.2 (fun e=>h0 (List.mem_cons_of_mem _ e)) (fun e=>h1 (List.mem_cons_of_mem _ e));exact ⟨by rw [h.1,h2],h3⟩
def qcP (f g:ByteArray):ByteArray:=f++⟨#[0]⟩++g
theorem qgh (f g:ByteArray):(qcP f g).data.toList=qcX f.data.toList g.data.toList:=by simp [qcP,qcX]
abbrev Nm:=List UInt8
theorem qiu {a:UInt8} {x:Nm}:([]:Nm)<a::x:=by simp
theorem qiv {x:Nm}:¬ x<([]:Nm):=by simp
theorem qg3 {a b:UInt8} {x y:Nm}:a::x<b::y↔a<b∨a=b/\x<y:=List.cons_lt_cons_iff
theorem qsg (a:UInt8):¬ a<a:=by rw [UInt8.lt_iff_toNat_lt];omega
theorem qev:∀ x:Nm,¬ x<x
 |[]=>qiv
 |a::x=>by
  rw [qg3];rintro (h|⟨_,h⟩)
  ·exact qsg a h
  ·exact qev x h
theorem qcY:∀ {x y z:Nm},x<y->y<z->x<z
 |_,[],_,h,_=>absurd h qiv
 |_,_::_,[],_,h=>absurd h qiv
 |[],_::_,_::_,_,_=>qiu
 |a::x,b::y,c::z,h,k=>by
  rw [qg3] at h k ⊢;rcases h with h|⟨rfl,h⟩
  ·rcases k with k|⟨rfl,k⟩
   ·left;rw [UInt8.lt_iff_toNat_lt] at*;omega
   ·exact .inl h
  ·rcases k with k|⟨rfl,k⟩
   ·exact .inl k
   ·exact .inr ⟨rfl,qcY h k⟩
theorem qdY:∀ x y:Nm,x<y∨x=y∨y<x
 |[],[]=> .inr (.inl rfl)
 |[],_::_=> .inl qiu
 |_::_,[]=> .inr (.inr qiu)
 |a::x,b::y=>by
  rw [qg3,qg3];by_cases h1:a<b
  ·exact .inl (.inl h1)
  ·by_cases h2:b<a
   ·exact .inr (.inr (.inl h2))
   ·have e:a=b:=by
     rw [UInt8.lt_iff_toNat_lt] at h1 h2;exact UInt8.toNat_inj.1 (by omega)
    subst e;rcases qdY x y with h|rfl|h
    ·exact .inl (.inr ⟨rfl,h⟩)
    ·exact .inr (.inl rfl)
    ·exact .inr (.inr (.inr ⟨rfl,h⟩))
theorem qgi {x y:Nm} (h:x<y):¬ y<x:=fun k=>qev x (qcY h k)
theorem qiw {x y:Nm} (h:x<y):x≠y:=fun e=>qev y (e▸h)
theorem qsh {x y z:Nm} (h:¬ y<x) (k:y<z):x<z:=by
 rcases qdY x y with h1|rfl|h1
 ·exact qcY h1 k
 ·exact k
 ·exact absurd h1 h
theorem qsi {x y z:Nm} (h:x<y) (k:¬ z<y):x<z:=by
 rcases qdY y z with h1|rfl|h1
 ·exact qcY h h1
 ·exact h
 ·exact absurd h1 k
def qaH (l:List Nm):Prop:=l.Pairwise (· <·)
instance (l:List Nm):Decidable (qaH l):=inferInstanceAs (Decidable (l.Pairwise (· <·)))
def qda (l:List Nm):Bool:=decide (qaH l)
theorem qfK {l:List Nm}:qda l=true↔qaH l:=by simp [qda]
theorem qed {l:List Nm} (h:qaH l) {i j:Nat} (hj:j<l.length) (hij:i<j):l[i]<l[j]:=List.pairwise_iff_getElem.1 h i j (by omega) hj hij
theorem qsj {l:List Nm} (h:∀ i,(hi:i+1<l.length)->l[i]<l[i+1]):qaH l:=by
 refine List.pairwise_iff_getElem.2 fun i j hi hj hij=> ?_
 induction j with
 |zero=>omega
 |succ j ih=>
  by_cases e:i=j
  ·subst e;exact h i hj
  ·exact qcY (ih (by omega) (by omega)) (h j hj)
theorem qsk {l:List Nm} {k:Nat} (hk:k<l.length) (h0:0<k) (h:¬ l[k-1]<l[k]):qda l=false:=by
 rw [<- Bool.not_eq_true,qfK];exact fun hr=>h (qed hr hk (by omega))
theorem qsl {l:List Nm} (h:∀ i,(hi:i<l.length)->0<i->l[i-1]<l[i]):qda l=true:=by
 rw [qfK];exact qsj fun i hi=>by have :=h (i+1) hi (by omega);simpa using this
def qau:List Nm->Nm->Nat
 |[],_=>0
 |x::l,s=>if x<s then qau l s+1 else 0
def isN:List Nm->Nm->Bool
 |[],_=>false
 |x::l,s=>if x<s then isN l s else x==s
def qbV:List Nm->Nm->List Nm
 |[],s=>[s]
 |x::l,s=>if x<s then x::qbV l s else if x=s then x::l else s::x::l
theorem qgj:∀ (l:List Nm) (s:Nm),qau l s<=l.length
 |[],_=>Nat.le_refl _
 |x::l,s=>by
  have :=qgj l s;simp only [qau,List.length_cons];split<;>omega
theorem qlH:∀ {l:List Nm} {s:Nm} {j:Nat} (hj:j<l.length),j<qau l s->l[j]<s
 |[],_,_,h,_=>by simp at h
 |x::l,s,j,hj,h=>by
  simp only [qau] at h;split at h
  ·rename_i hx
   cases j with
   |zero=>exact hx
   |succ j=>exact qlH (l:=l) (by simpa using hj) (by omega)
  ·omega
theorem qlI:∀ {l:List Nm} {s:Nm} (h:qau l s<l.length),¬ l[qau l s]<s
 |[],_,h=>by simp at h
 |x::l,s,h=>by
  by_cases hx:x<s
  ·have e:qau (x::l) s=qau l s+1:=by simp [qau,hx]
   have :=qlI (l:=l) (s:=s) (by rw [e] at h;simpa using h);simpa [e] using this
  ·have e:qau (x::l) s=0:=by simp [qau,hx]
   simpa [e] using hx
theorem qlJ {l:List Nm} {s:Nm} {k:Nat} (hk:k<=l.length) (h1:∀ j (hj:j<l.length),j<k->l[j]<s) (h2:∀ h:k<l.length,¬ l[k]<s):qau l s=k:=by
 have a:=qgj l s;rcases Nat.lt_trichotomy (qau l s) k with h|h|h
 ·exact absurd (h1 _ (by omega) h) (qlI (by omega))
 ·exact h
 ·exact absurd (qlH (by omega) h) (h2 (by omega))
theorem qg4:∀ {l:List Nm} {s:Nm} (h:qau l s<l.length),isN l s=(l[qau l s]==s)
 |[],_,h=>by simp at h
 |x::l,s,h=>by
  by_cases hx:x<s
  ·have e:qau (x::l) s=qau l s+1:=by simp [qau,hx]
   have e2:isN (x::l) s=isN l s:=by simp [isN,hx]
   have :=qg4 (l:=l) (s:=s) (by rw [e] at h;simpa using h);rw [e2,this];simp [e]
  ·have e:qau (x::l) s=0:=by simp [qau,hx]
   simp [e,isN,hx]
theorem qix:∀ {l:List Nm} {s:Nm},qau l s=l.length->isN l s=false
 |[],_,_=>rfl
 |x::l,s,h=>by
  by_cases hx:x<s
  ·have e:qau (x::l) s=qau l s+1:=by simp [qau,hx]
   rw [e] at h;simpa [isN,hx] using qix (l:=l) (s:=s) (by simpa using h)
  ·have e:qau (x::l) s=0:=by simp [qau,hx]
   rw [e] at h;simp at h
theorem qiy {l:List Nm} {s:Nm} {k:Nat} (hk:k<l.length) (h1:∀ j (hj:j<l.length),j<k->l[j]<s) (h2:l[k]=s):qau l s=k/\isN l s=true:=by
 have e:=qlJ (s:=s) (by omega) h1 (fun _=>by rw [h2];exact qev s);subst e;exact ⟨rfl,by rw [qg4 hk,h2];simp⟩
theorem qlK {l:List Nm} {s:Nm} {k:Nat} (hk:k<=l.length) (h1:∀ j (hj:j<l.length),j<k->l[j]<s) (h2:∀ h:k<l.length,s<l[k]):qau l s=k/\isN l s=false:=by
 have e:=qlJ (s:=s) hk h1 (fun h=>qgi (h2 h));subst e;refine ⟨rfl,?_⟩;by_cases h:qau l s<l.length
 ·rw [qg4 h]
  simpa using (qiw (h2 h)).symm
 ·exact qix (by have :=qgj l s;omega)
theorem qiz {l:List Nm} {s:Nm} (h:isN l s=true):∃ hk:qau l s<l.length,l[qau l s]=s:=by
 by_cases hk:qau l s<l.length
 ·rw [qg4 hk] at h
  exact ⟨hk,by simpa using h⟩
 ·rw [qix (by have :=qgj l s;omega)] at h
  cases h
theorem qlL {l:List Nm} (hr:qaH l) {i:Nat} (hi:i<l.length):qau l l[i]=i/\isN l l[i]=true:=
 qiy hi (fun j hj hji=>qed hr hi hji) rfl
def qaz (x s:Nm):Int:=if x<s then-1 else if x=s then 0 else 1
theorem qlM:∀ {l:List Nm} {s:Nm},isN l s=true->qbV l s=l
 |[],_,h=>by cases h
 |x::l,s,h=>by
  by_cases hx:x<s
  ·rw [isN,if_pos hx] at h
   rw [qbV,if_pos hx,qlM h]
  ·rw [isN,if_neg hx] at h
   rw [qbV,if_neg hx,if_pos (by simpa using h)]
theorem qlN:∀ {l:List Nm} {s:Nm},isN l s=false->qbV l s=l.take (qau l s)++[s]++l.drop (qau l s)
 |[],_,h=>rfl
 |x::l,s,h=>by
  by_cases hx:x<s
  ·rw [isN,if_pos hx] at h
   rw [qbV,if_pos hx,qlN h,qau,if_pos hx];simp
  ·rw [isN,if_neg hx] at h
   rw [qbV,if_neg hx,if_neg (by simpa using h),qau,if_neg hx];simp
theorem qg5:∀ {l:List Nm} {s x:Nm},x∈qbV l s↔x=s∨x∈l
 |[],s,x=>by simp [qbV]
 |y::l,s,x=>by
  rw [qbV];split
  ·rw [List.mem_cons,qg5,List.mem_cons];exact or_left_comm
  ·split
   ·rename_i e
    subst e;rw [List.mem_cons];exact ⟨fun h=> .inr h,fun h=>h.elim .inl id⟩
   ·rw [List.mem_cons,List.mem_cons]
theorem qiA:∀ {l:List Nm} {s:Nm},qaH l->qaH (qbV l s)
 |[],s,_=>by simp [qbV,qaH]
 |y::l,s,h=>by
  have h':=List.pairwise_cons.1 h;rw [qbV];split
  ·rename_i hy
   refine List.pairwise_cons.2 ⟨fun a ha=> ?_,qiA h'.2⟩;rcases qg5.1 ha with rfl|ha
   ·exact hy
   ·exact h'.1 a ha
  ·rename_i hy
   split
   ·exact h
   ·rename_i hne
    have hs:s<y:=((qdY y s).resolve_left hy).resolve_left hne;refine List.pairwise_cons.2 ⟨fun a ha=> ?_,h⟩;rcases List.mem_cons.1 ha with rfl|ha
    ·exact hs
    ·exact qcY hs (h'.1 a ha)
theorem qlO (l:List Nm) (s:Nm):(qbV l s).length<=l.length+1:=by
 cases h:isN l s with
 |true=>rw [qlM h];omega
 |false=>rw [qlN h];have :=qgj l s;simp;omega
theorem qg6:∀ {a b:List Nm},qaH a->qaH b->(∀ x,x∈a↔x∈b)->a=b
 |[],[],_,_,_=>rfl
 |[],y::b,_,_,h=>absurd ((h y).2 (List.mem_cons_self ..)) (by simp)
 |x::a,[],_,_,h=>absurd ((h x).1 (List.mem_cons_self ..)) (by simp)
 |x::a,y::b,ha,hb,h=>by
  have ha':=List.pairwise_cons.1 ha;have hb':=List.pairwise_cons.1 hb;have e:x=y:=by
   rcases List.mem_cons.1 ((h x).1 (List.mem_cons_self ..)) with e|h1
   ·exact e
   ·rcases List.mem_cons.1 ((h y).2 (List.mem_cons_self ..)) with e|h2
    ·exact e.symm
    ·exact absurd (ha'.1 y h2) (qgi (hb'.1 x h1))
  subst e;congr 1;refine qg6 ha'.2 hb'.2 fun z=>⟨fun hz=> ?_,fun hz=> ?_⟩
  ·rcases List.mem_cons.1 ((h z).1 (List.mem_cons_of_mem _ hz)) with rfl|h1
   ·exact absurd (ha'.1 z hz) (qev z)
   ·exact h1
  ·rcases List.mem_cons.1 ((h z).2 (List.mem_cons_of_mem _ hz)) with rfl|h1
   ·exact absurd (hb'.1 z hz) (qev z)
   ·exact h1
def qdv (l:List Nm) (n:Nat):List Nm:=(l.take n).foldl (fun a x=>qbV a (x.take 8)) []
theorem qsm {l:List Nm} {k:Nat} (hk:k<l.length):qdv l (k+1)=qbV (qdv l k) (l[k].take 8):=by
 rw [qdv,List.take_succ_eq_append_getElem hk,List.foldl_append];rfl
theorem qsn {l:List Nm} {k n:Nat} (hk:l.length<=k) (hn:k<=n):qdv l k=qdv l n:=by
 rw [qdv,qdv,List.take_of_length_le hk,List.take_of_length_le (by omega)]
theorem qso (l:List Nm) (n:Nat):qdv l (min n l.length)=qdv l n:=by
 rcases Nat.le_total n l.length with h|h
 ·rw [Nat.min_eq_left h]
 ·rw [Nat.min_eq_right h];exact qsn (Nat.le_refl _) h
structure qlP (g:List Nm):Prop where
 rise:qaH g
 eight:∀ x∈g,x.length<=8
theorem qzL (l:List Nm) (n:Nat):qlP (qdv l n)/\(qdv l n).length<=n:=by
 have :∀ k,k<=l.length->qlP (qdv l k)/\(qdv l k).length<=k:=by
  intro k
  induction k with
  |zero=>intro _;exact ⟨⟨List.Pairwise.nil,fun x hx=>by cases hx⟩,Nat.le_refl _⟩
  |succ k ih=>
   intro hk;obtain ⟨h1,h2⟩:=ih (by omega);rw [qsm (by omega)];refine ⟨⟨qiA h1.rise,fun x hx=> ?_⟩,by have :=qlO (qdv l k) (l[k].take 8);omega⟩;rcases qg5.1 hx with rfl|hx
   ·rw [List.length_take];omega
   ·exact h1.eight x hx
 have h:=this (min n l.length) (by omega);rw [qso] at h;exact ⟨h.1,by omega⟩
def qbt (ls:List (List Nm)):List Nm:=ls.flatten.foldl qbV []
theorem qiB:∀ (xs:List Nm) (a:List Nm) (x:Nm),x∈xs.foldl qbV a↔x∈xs∨x∈a
 |[],a,x=>by simp
 |y::xs,a,x=>by
  rw [List.foldl_cons,qiB xs,qg5,List.mem_cons];constructor
  ·rintro (h|h|h)
   ·exact .inl (.inr h)
   ·exact .inl (.inl h)
   ·exact .inr h
  ·rintro ((h|h)|h)
   ·exact .inr (.inl h)
   ·exact .inl h
   ·exact .inr (.inr h)
theorem qiC:∀ (xs:List Nm) (a:List Nm),qaH a->qaH (xs.foldl qbV a)
 |[],a,h=>h
 |y::xs,a,h=>qiC xs _ (qiA h)
theorem qfL (ls:List (List Nm)):qaH (qbt ls):=qiC _ _ List.Pairwise.nil
theorem qgk {ls:List (List Nm)} {x:Nm}:x∈qbt ls↔∃ a∈ls,x∈a:=by
 rw [qbt,qiB];simp [List.mem_flatten]
theorem qlQ {ls:List (List Nm)} {r:List Nm} (h:qaH r) (hm:∀ x,x∈r↔∃ a∈ls,x∈a):r=qbt ls:=
 qg6 h (qfL ls) fun x=>by rw [hm,qgk]
theorem qgl:∀ (xs a:List Nm),(xs.foldl qbV a).length<=xs.length+a.length
 |[],a=>by simp
 |y::xs,a=>by
  rw [List.foldl_cons,List.length_cons];have :=qgl xs (qbV a y);have :=qlO a y;omega
def qgm (l:List Nm):List Nm:=Lib.compact (l.mergeSort fun x y=>decide (x<=y))
theorem qsp (l:List Nm):(l.mergeSort fun x y=>decide (x<=y)).Pairwise (fun x y=>¬ y<x):=by
 have h:=List.pairwise_mergeSort (le:=fun x y:Nm=>decide (x<=y)) (fun a b c h1 h2=>decide_eq_true (show ¬ c<a from fun h=>(of_decide_eq_true h2:¬ c<b) (qsi h (of_decide_eq_true h1:¬ b<a)))) (fun a b=>by
  by_cases h:b<a
  ·rw [Bool.or_eq_true];exact .inr (decide_eq_true (show ¬ a<b from qgi h))
  ·rw [Bool.or_eq_true];exact .inl (decide_eq_true (show ¬ b<a from h))) l
 exact h.imp fun {a b} hab=>(of_decide_eq_true hab:¬ b<a)
theorem qsq {l:List Nm} (x:Nm):x∈Lib.compact l↔x∈l:=by
 unfold Lib.compact;have :∀ m,m<=l.length->(x∈Lib.compactUpTo l.toArray m↔x∈l.take m):=by
  intro m
  induction m with
  |zero=>intro _;simp [Lib.compactUpTo]
  |succ m ih=>
   intro hm;have hg:l.toArray[m]! =l[m]:=by rw [getElem!_pos l.toArray m (by simp;omega)];simp
   rw [Lib.compactUpTo_succ,List.mem_append,ih (by omega),List.take_succ_eq_append_getElem (by omega),List.mem_append,hg];by_cases hk:Lib.keeps l.toArray m=true
   ·rw [if_pos hk]
   ·rw [if_neg hk]
    have hk':m≠0/\l.toArray[m]! =l.toArray[m-1]! :=by
     simp only [Lib.keeps,decide_eq_true_eq,not_or,Decidable.not_not] at hk;exact hk
    have hg1:l.toArray[m-1]! =l[m-1]:=by rw [getElem!_pos l.toArray (m-1) (by simp;omega)];simp
    rw [hg,hg1] at hk';constructor
    ·rintro (h|h)
     ·exact .inl h
     ·cases h
    ·rintro (h|h)
     ·exact .inl h
     ·rw [List.mem_singleton] at h
      left;rw [h,hk'.2];exact List.mem_take_iff_getElem.2 ⟨m-1,by omega,rfl⟩
 have h:=this l.length (Nat.le_refl _);rwa [List.take_length] at h
theorem qsr {l:List Nm} (hl:l.Pairwise (fun x y=>¬ y<x)):qaH (Lib.compact l):=by
 unfold Lib.compact;have :∀ m,m<=l.length->qaH (Lib.compactUpTo l.toArray m)/\∀ x∈Lib.compactUpTo l.toArray m,∃ j,j<m/\l[j]?=some x:=by
  intro m
  induction m with
  |zero=>intro _;simp [Lib.compactUpTo,qaH]
  |succ m ih=>
   intro hm;obtain ⟨h1,h2⟩:=ih (by omega);have hg:l.toArray[m]! =l[m]:=by rw [getElem!_pos l.toArray m (by simp;omega)];simp
   rw [Lib.compactUpTo_succ,hg];by_cases hk:Lib.keeps l.toArray m=true
   ·rw [if_pos hk]
    refine ⟨List.pairwise_append.2 ⟨h1,List.pairwise_singleton _ _,fun a ha b hb=> ?_⟩,fun x hx=> ?_⟩
    ·rw [List.mem_singleton] at hb
     subst hb;obtain ⟨j,hj,hja⟩:=h2 a ha;obtain ⟨hjl,rfl⟩:=List.getElem?_eq_some_iff.1 hja;have hm0:m≠0:=by omega
     have hg1:l.toArray[m-1]! =l[m-1]:=by rw [getElem!_pos l.toArray (m-1) (by simp;omega)];simp
     have hne:l[m]≠l[m-1]:=by
      simp only [Lib.keeps,decide_eq_true_eq] at hk;have :=hk.resolve_left hm0;rwa [hg,hg1] at this
     have hlt:l[m-1]<l[m]:=by
      have h3:=List.pairwise_iff_getElem.1 hl (m-1) m (by omega) (by omega) (by omega);rcases qdY l[m-1] l[m] with h|h|h
      ·exact h
      ·exact absurd h.symm hne
      ·exact absurd h h3
     by_cases e:j=m-1
     ·subst e;exact hlt
     ·exact qsh (List.pairwise_iff_getElem.1 hl j (m-1) (by omega) (by omega) (by omega)) hlt
    ·rcases List.mem_append.1 hx with hx|hx
     ·obtain ⟨j,hj,hja⟩:=h2 x hx
      exact ⟨j,by omega,hja⟩
     ·rw [List.mem_singleton] at hx
      subst hx;exact ⟨m,by omega,by simp⟩
   ·rw [if_neg hk,List.append_nil]
    exact ⟨h1,fun x hx=>by obtain ⟨j,hj,hja⟩:=h2 x hx;exact ⟨j,by omega,hja⟩⟩
 exact (this l.length (Nat.le_refl _)).1
theorem qss (l:List Nm):qaH (qgm l):=qsr (qsp l)
theorem qst {l:List Nm} (x:Nm):x∈qgm l↔x∈l:=by rw [qgm,qsq,List.mem_mergeSort]
def qck:List Nm->List Nm->List Nm
 |[],b=>b
 |a,[]=>a
 |x::a,y::b=>if x<y then x::qck a (y::b) else if x=y then qck a (y::b) else y::qck (x::a) b
termination_by a b=>a.length+b.length
theorem qlR (a:List Nm):qck a []=a:=by cases a<;>simp [qck]
theorem qlS (b:List Nm):qck [] b=b:=by simp [qck]
theorem qfM:∀ (a b:List Nm) (x:Nm),x∈qck a b↔x∈a∨x∈b
 |[],b,x=>by simp [qck]
 |y::a,[],x=>by simp [qck]
 |y::a,z::b,x=>by
  rw [qck];split
  ·rw [List.mem_cons,qfM a (z::b),List.mem_cons (a:=x) (b:=y),or_assoc]
  ·split
   ·rename_i e
    subst e;rw [qfM a (y::b)];simp only [List.mem_cons];exact ⟨fun h=>h.elim (fun h=> .inl (.inr h)) .inr,fun h=>h.elim (fun h=>h.elim (fun h=> .inr (.inl h)) .inl) .inr⟩
   ·rw [List.mem_cons,qfM (y::a) b,List.mem_cons (a:=x) (b:=z)]
    exact or_left_comm
termination_by a b=>a.length+b.length
theorem qg7:∀ {a b:List Nm},qaH a->qaH b->qaH (qck a b)
 |[],b,_,h=>by rw [qlS];exact h
 |y::a,[],h,_=>by rw [qlR];exact h
 |y::a,z::b,ha,hb=>by
  have ha':=List.pairwise_cons.1 ha;have hb':=List.pairwise_cons.1 hb;rw [qck];split
  ·rename_i h
   refine List.pairwise_cons.2 ⟨fun x hx=> ?_,qg7 ha'.2 hb⟩;rcases (qfM _ _ _).1 hx with hx|hx
   ·exact ha'.1 x hx
   ·rcases List.mem_cons.1 hx with rfl|hx
    ·exact h
    ·exact qcY h (hb'.1 x hx)
  ·rename_i h
   split
   ·exact qg7 ha'.2 hb
   ·rename_i hne
    have hz:z<y:=((qdY y z).resolve_left h).resolve_left hne;refine List.pairwise_cons.2 ⟨fun x hx=> ?_,qg7 ha hb'.2⟩;rcases (qfM _ _ _).1 hx with hx|hx
    ·rcases List.mem_cons.1 hx with rfl|hx
     ·exact hz
     ·exact qcY hz (ha'.1 x hx)
    ·exact hb'.1 x hx
termination_by a b=>a.length+b.length
abbrev Fd:=Nm × Nm
abbrev Tm:=Nm × Nm
def qdO (c:UInt8):Bool:=decide (97<=c.toNat)&&decide (c.toNat<=122)
def qbl (s:Nm):Bool:=s.all qdO&&(decide (1<=s.length)&&decide (s.length<=12))
theorem qlT {s:Nm} {k:Nat} (hk:k<s.length) (h:qdO s[k]=false):qbl s=false:=by
 rw [<- Bool.not_eq_true,qbl,Bool.and_eq_true];intro hh;rw [List.all_eq_true.1 hh.1 _ (List.getElem_mem hk)] at h;cases h
theorem qlU {s:Nm} (h:∀ k (hk:k<s.length),qdO s[k]=true):qbl s=(decide (1<=s.length)&&decide (s.length<=12)):=by
 rw [qbl,List.all_eq_true.2 fun c hc=>by obtain ⟨k,hk,rfl⟩:=List.getElem_of_mem hc;exact h k hk,Bool.true_and]
theorem qsu {s:Nm} (h:qbl s=true):(0:UInt8)∉s:=fun h0=>by
 rw [qbl,Bool.and_eq_true] at h;exact absurd (List.all_eq_true.1 h.1 _ h0) (by decide)
def qdb:List Nm->Nat->List Fd->Int
 |_,n,[]=>if 500<n then 7 else 0
 |seen,n,f::fs=>if qbl f.1=false then 4 else if f.1∈seen then 5 else if qbz 0 (qaL f.2)≠0 then qbz 0 (qaL f.2) else qdb (seen++[f.1]) (n+(qaL f.2).length) fs
def qa9 (l:List Fd):Int:=if 8<l.length then 7 else qdb [] 0 l
def qcv:List Fd->Nm->List Nm
 |[],_=>[]
 |f::fs,s=>if f.1=s then qaL f.2 else qcv fs s
def qcZ:Nat->List Nm->Nm->List Int
 |_,[],_=>[]
 |i,y::l,x=>if y=x then (i:Int)::qcZ (i+1) l x else qcZ (i+1) l x
def qaX (l:List Fd) (t:Tm):List Int:=qcZ 0 (qcv l t.1) t.2
theorem qiD (x:Nm):∀ (l:List Nm) (i:Nat),(qcZ i l x).length<=l.length
 |[],_=>Nat.le_refl _
 |y::l,i=>by
  have :=qiD x l (i+1);rw [qcZ];split<;>simp <;>omega
def qae (t:Tm):Nm:=qcX t.1 t.2
def atT (l:List Tm) (k:Nat):Tm:=l.getD k ([],[])
def qbI (l:List Tm) (t:Tm):Nat->Nat
 |0=>0
 |k+1=>if qae t<qae (atT l k) then qbI l t k else k+1
theorem qg8 (l:List Tm) (t:Tm):∀ k,qbI l t k<=k
 |0=>Nat.le_refl _
 |k+1=>by
  have :=qg8 l t k;rw [qbI];split<;>omega
theorem qlV {l:List Tm} {t:Tm}:∀ {k:Nat},0<qbI l t k->¬ qae t<qae (atT l (qbI l t k-1))
 |0,h=>by simp [qbI] at h
 |k+1,h=>by
  by_cases hk:qae t<qae (atT l k)
  ·have e:qbI l t (k+1)=qbI l t k:=by rw [qbI,if_pos hk]
   rw [e] at h ⊢;exact qlV h
  ·have e:qbI l t (k+1)=k+1:=by rw [qbI,if_neg hk]
   rw [e];exact hk
theorem qlW {l:List Tm} {t:Tm}:∀ {k j:Nat},qbI l t k<=j->j<k->qae t<qae (atT l j)
 |0,j,_,h=>by omega
 |k+1,j,h1,h2=>by
  by_cases hk:qae t<qae (atT l k)
  ·have e:qbI l t (k+1)=qbI l t k:=by rw [qbI,if_pos hk]
   rw [e] at h1;by_cases e:j=k
   ·subst e;exact hk
   ·exact qlW h1 (by omega)
  ·have e:qbI l t (k+1)=k+1:=by rw [qbI,if_neg hk]
   omega
def qiE (l:List Tm) (t:Tm) (k:Nat):Bool:=decide (0<k)&&decide (atT l (k-1)=t)
def qdw (l:List Tm) (t:Tm):List Tm:=if qiE l t (qbI l t l.length)=true then l else l.take (qbI l t l.length)++t::l.drop (qbI l t l.length)
def qas (l:List Fd):List Tm:=l.foldl (fun a f=>(qcv l f.1).foldl (fun b x=>qdw b (f.1,x)) a) []
def qdH (l:List Tm):Prop:=qaH (l.map qae)
theorem qfm {l:List Tm} {k:Nat} (hk:k<l.length):atT l k=l[k]:=by rw [atT,List.getD_eq_getElem?_getD,List.getElem?_eq_getElem hk];rfl
theorem qiF {s t:Tm} (h:qae s=qae t) (h0:(0:UInt8)∉s.1) (h1:(0:UInt8)∉t.1):s=t:=by
 obtain ⟨e1,e2⟩:=qsf h h0 h1;exact Prod.ext e1 e2
theorem qlX {l:List Tm} {s t:Tm}:s∈qdw l t↔s∈l∨s=t:=by
 unfold qdw;split
 ·rename_i h
  rw [qiE,Bool.and_eq_true,decide_eq_true_iff,decide_eq_true_iff] at h;have :=qg8 l t l.length;have hk:qbI l t l.length-1<l.length:=by omega
  rw [qfm hk] at h;constructor
  ·exact .inl
  ·rintro (h1|rfl)
   ·exact h1
   ·rw [<- h.2];exact List.getElem_mem hk
 ·rw [List.mem_append,List.mem_cons]
  conv=>rhs;rw [<- List.take_append_drop (qbI l t l.length) l,List.mem_append]
  constructor
  ·rintro (h|h|h)
   ·exact .inl (.inl h)
   ·exact .inr h
   ·exact .inl (.inr h)
  ·rintro ((h|h)|h)
   ·exact .inl h
   ·exact .inr (.inr h)
   ·exact .inr (.inl h)
theorem qsv {l:List Tm} (h:qdH l) {i j:Nat} (hj:j<l.length) (hij:i<j):qae (atT l i)<qae (atT l j):=by
 have :=qed h (i:=i) (j:=j) (by simpa using hj) hij;rwa [qfm hj,qfm (by omega),<- List.getElem_map qae,<- List.getElem_map qae]
 all_goals simp <;>omega
theorem qsw {l:List Tm} {t:Tm} (h:qdH l) (h0:∀ s∈l,(0:UInt8)∉s.1) (h1:(0:UInt8)∉t.1):qdH (qdw l t):=by
 unfold qdw;split
 ·exact h
 ·rename_i hh
  obtain ⟨k,hk⟩:∃ k,k=qbI l t l.length:=⟨_,rfl⟩;have hle:=qg8 l t l.length;have habove:∀ j,k<=j->j<l.length->qae t<qae (atT l j):=fun j a b=>qlW (k:=l.length) (by omega) b
  have hstop:0<k->¬ qae t<qae (atT l (k-1)):=fun a=>by rw [hk];exact qlV (by omega)
  rw [<- hk] at hh hle;rw [<- hk];have hlow:0<k->qae (atT l (k-1))<qae t:=fun a=>by
   rcases qdY (qae (atT l (k-1))) (qae t) with e|e|e
   ·exact e
   ·refine absurd ?_ hh
    rw [qiE,Bool.and_eq_true,decide_eq_true_iff,decide_eq_true_iff];have hk1:k-1<l.length:=by omega
    exact ⟨a,qiF e (by rw [qfm hk1];exact h0 _ (List.getElem_mem hk1)) h1⟩
   ·exact absurd e (hstop a)
  unfold qdH qaH;rw [List.map_append,List.map_cons];have hp:List.Pairwise (· <·) (l.map qae):=h;refine List.pairwise_append.2 ⟨?_,List.pairwise_cons.2 ⟨?_,?_⟩,?_⟩
  ·exact hp.sublist ((List.take_sublist k l).map qae)
  ·intro x hx
   obtain ⟨s,hs,rfl⟩:=List.mem_map.1 hx;obtain ⟨j,hj,rfl⟩:=List.getElem_of_mem hs;rw [List.length_drop] at hj;have :=habove (k+j) (by omega) (by omega);rw [qfm (by omega)] at this;rwa [List.getElem_drop]
  ·exact hp.sublist ((List.drop_sublist k l).map qae)
  ·intro x hx y hy
   obtain ⟨s,hs,rfl⟩:=List.mem_map.1 hx;obtain ⟨i,hi,rfl⟩:=List.getElem_of_mem hs;rw [List.length_take] at hi;have hx:qae (atT l i)<qae t:=by
    by_cases e:i=k-1
    ·subst e;exact hlow (by omega)
    ·exact qcY (qsv h (i:=i) (j:=k-1) (by omega) (by omega)) (hlow (by omega))
   rw [qfm (by omega)] at hx;rw [List.getElem_take];rcases List.mem_cons.1 hy with rfl|hy
   ·exact hx
   ·obtain ⟨s,hs,rfl⟩:=List.mem_map.1 hy
    obtain ⟨j,hj,rfl⟩:=List.getElem_of_mem hs;rw [List.length_drop] at hj;have :=habove (k+j) (by omega) (by omega);rw [qfm (by omega)] at this;rw [List.getElem_drop];exact qcY hx this
def qew (l:List Fd):Nat:=(l.map fun f=>(qcv l f.1).length).sum
def qgn (i:Nat):Nm:=[116+UInt8.ofNat i]
def qeS (i:Nat) (f:Fd):Fd:=(if qbl f.1=true then f.1 else qgn i,f.2.take 40)
def qcE (l:List Fd):Nat->List Fd
 |0=>[]
 |k+1=>if qa9 (qcE l k++[qeS k (l.getD k ([],[]))])=0 then qcE l k++[qeS k (l.getD k ([],[]))] else qcE l k
def qeT (l:List Fd):List Fd:=qcE l (min l.length 4)
theorem qlY (l:List Fd):∀ k,qa9 (qcE l k)=0
 |0=>rfl
 |k+1=>by
  rw [qcE];split
  ·rename_i h;exact h
  ·exact qlY l k
theorem qsx (l:List Fd):qa9 (qeT l)=0:=qlY _ _
theorem qiG (l:List Fd):∀ k,(qcE l k).length<=k
 |0=>Nat.le_refl _
 |k+1=>by
  have :=qiG l k;rw [qcE];split
  ·simp;omega
  ·omega
theorem qlZ (i:Nat) (f:Fd):(qeS i f).2.length<=40:=by simp [qeS];omega
theorem qg9 (l:List Fd):∀ k,∀ f∈qcE l k,f.2.length<=40
 |0,f,h=>by cases h
 |k+1,f,h=>by
  rw [qcE] at h;split at h
  ·rcases List.mem_append.1 h with h|h
   ·exact qg9 l k f h
   ·rw [List.mem_singleton.1 h];exact qlZ _ _
  ·exact qg9 l k f h
open Go.Sort
def qaI (base:Nat) (w:World) (v:Value) (l:List Nm):Prop:=w.ownsRow base 9 1 v l.length (qad l)
theorem qaI.below {base:Nat} {w w':World} {v:Value} {l:List Nm} (h:qaI base w v l) (hb:Below w.heap.size w w'):qaI base w' v l:=qan h hb
theorem qaI.low {base b:Nat} {w:World} {v:Value} {l:List Nm} (h:qaI base w v l) (hb:b<=base):qaI b w v l:=qbc h hb
theorem qaI.row {base:Nat} {w:World} {v:Value} {l:List Nm} (h:qaI base w v l):∃ A c,v= .slice A l.length c/\l.length<=c/\Row w w.heap.size A (qad l):=qaM h
theorem qaI.nil {base:Nat} {w:World}:qaI base w (.slice none 0 0) []:=World.ownsRow_nil _ _ _ _
def qeU (l:List Nm) (w:World) (e:Ending) (w':World):Prop:=∃ v,e= .returned v/\qaI w.heap.size w' v l/\Below w.heap.size w w'
theorem qgo {x y:Nm}:Op.bytesLess x y=decide (x<y):=bytesLess_eq x y
theorem qfn {w:World} {B:Nat} {A:Option Addr} {xs:List Nm} (h:Row w B A (qad xs)) {k:Nat} (hk:k<xs.length):
  ∃ b off,A=some ⟨b,off,none⟩/\b<B/\w.cell? ⟨b,off+k,none⟩=some (.string ⟨xs[k].toArray⟩):=qio h hk
theorem qbW (x:Nm):∃ t:ByteArray,t=⟨x.toArray⟩/\t.data.toList=x:=⟨_,rfl,rfl⟩
theorem qeV (x:Nm):(⟨x.toArray⟩:ByteArray).size=x.length:=List.size_toArray
theorem qsy {s t:ByteArray} (h:s.data.toList<t.data.toList):Op.bytesLess s.toList t.toList=true:=by rw [Lib.toList_data,Lib.toList_data,qgo];exact decide_eq_true h
theorem qsz {s t:ByteArray} (h:¬ s.data.toList<t.data.toList):Op.bytesLess s.toList t.toList=false:=by rw [Lib.toList_data,Lib.toList_data,qgo];exact decide_eq_false h
theorem ql0 {s t:ByteArray} (h:s.data.toList=t.data.toList):(s.toList==t.toList)=true:=by rw [Lib.toList_data,Lib.toList_data,h];exact beq_self_eq_true _
theorem ql1 {s t:ByteArray} (h:s.data.toList≠t.data.toList):(s.toList==t.toList)=false:=by rw [Lib.toList_data,Lib.toList_data];simpa using h
theorem qiH (a b:List Nm):qad (a++b)=qad a++qad b:=by simp [qad]
theorem Row.dropped {w:World} {B b off:Nat} {l:List Nm} (h:Row w B (some ⟨b,off,none⟩) (qad l)) (k:Nat):Row w B (some ⟨b,off+k,none⟩) (qad (l.drop k)):=by
 rcases h with h|⟨b',o',e,hb,hc⟩
 ·refine .inl ?_
  have :l=[]:=by simpa [qad] using h
  simp [this,qad]
 ·injection e with e
  injection e with e1 e2
  subst e1 e2;refine .inr ⟨b,off+k,rfl,hb,fun j u hu=> ?_⟩;have :=hc (k+j) u (by rw [<- hu];simp [qad]);rwa [<- Nat.add_assoc] at this
theorem qsA (l:List Nm):∀ u∈qad l,u.oneCell'=true:=by
 intro u hu;obtain ⟨x,_,rfl⟩:=List.mem_map.1 hu;rfl
theorem Row.later {w w':World} {A:Option Addr} {xs:List Value} (h:Row w w.heap.size A xs) (hb:Below w.heap.size w w'):Row w' w'.heap.size A xs:=(h.below hb).more hb.size
def flds:List Fd->List Value
 |[]=>[]
 |f::l=> .string ⟨f.1.toArray⟩:: .string ⟨f.2.toArray⟩::flds l
theorem qfo:∀ l:List Fd,(flds l).length=l.length*2
 |[]=>rfl
 |f::l=>by simp only [flds,List.length_cons,qfo l];omega
theorem qha:∀ a b:List Fd,flds (a++b)=flds a++flds b
 |[],_=>rfl
 |f::a,b=>by simp [flds,qha a b]
theorem qiI:∀ {l:List Fd} {k:Nat} (hk:k<l.length),(flds l)[k*2]?=some (.string ⟨l[k].1.toArray⟩)/\(flds l)[k*2+1]?=some (.string ⟨l[k].2.toArray⟩)
 |[],_,h=>by simp at h
 |f::l,0,_=>⟨rfl,rfl⟩
 |f::l,k+1,h=>by
  have :=qiI (l:=l) (k:=k) (by simpa using h);rw [show (k+1)*2=k*2+1+1 by omega];simpa [flds] using this
theorem ql2:∀ (l:List Fd) (k:Nat),flds (l.take k)=(flds l).take (k*2)
 |l,0=>by simp [flds]
 |[],k+1=>by simp [flds]
 |f::l,k+1=>by rw [show (k+1)*2=k*2+1+1 by omega];simp [flds,ql2 l k]
theorem qiJ:∀ (l:List Fd),∀ u∈flds l,u.oneCell'=true
 |[],u,h=>by cases h
 |f::l,u,h=>by
  simp only [flds,List.mem_cons] at h;rcases h with rfl|rfl|h
  ·rfl
  ·rfl
  ·exact qiJ l u h
def qaA (w:World) (B:Nat) (A:Option Addr) (l:List Fd):Prop:=Row w B A (flds l)
theorem qaA.below {w w':World} {B:Nat} {A:Option Addr} {l:List Fd} (h:qaA w B A l) (hb:Below B w w'):qaA w' B A l:=Row.below h hb
theorem qaA.more {w:World} {B B':Nat} {A:Option Addr} {l:List Fd} (h:qaA w B A l) (hB:B<=B'):qaA w B' A l:=Row.more h hB
theorem qaA.nil {w:World} {B:Nat} {A:Option Addr}:qaA w B A []:=Row.nil
theorem qaA.later {w w':World} {A:Option Addr} {l:List Fd} (h:qaA w w.heap.size A l) (hb:Below w.heap.size w w'):qaA w' w'.heap.size A l:=(h.below hb).more hb.size
theorem qaA.at_ {w:World} {B:Nat} {A:Option Addr} {l:List Fd} (h:qaA w B A l) {k:Nat} (hk:k<l.length):
  ∃ b off,A=some ⟨b,off,none⟩/\b<B/\w.cell? ⟨b,off+k*2,none⟩=some (.string ⟨l[k].1.toArray⟩)/\w.cell? ⟨b,off+k*2+1,none⟩=some (.string ⟨l[k].2.toArray⟩):=by
 obtain ⟨b,off,rfl,hb,hc⟩:=Row.at_ h (by rw [qfo];omega);obtain ⟨g1,g2⟩:=qiI hk;exact ⟨b,off,rfl,hb,hc _ _ g1,by have :=hc _ _ g2;rwa [<- Nat.add_assoc] at this⟩
abbrev qc0 (id:Int) (A:Option Addr) (n c:Nat):Value:= .agg #[.int .i64 id,.slice A n c]
theorem ql3:(Tryz.prog.info? 121).map (fun i=>(i.zero,i.size,i.bytes))=some (some (.agg #[.string ByteArray.empty,.string ByteArray.empty]),2,32):=by kernel_rfl
def qbJ (base:Nat) (w:World) (v:Value) (l:List Tm):Prop:=w.ownsRow base 69 2 v l.length (flds l)
def qaG (base:Nat) (w:World) (v:Value) (l:List Fd):Prop:=w.ownsRow base 121 2 v l.length (flds l)
theorem qbJ.below {base:Nat} {w w':World} {v:Value} {l:List Tm} (h:qbJ base w v l) (hb:Below w.heap.size w w'):qbJ base w' v l:=qan h hb
theorem qbJ.low {base b:Nat} {w:World} {v:Value} {l:List Tm} (h:qbJ base w v l) (hb:b<=base):qbJ b w v l:=qbc h hb
theorem qbJ.row {base:Nat} {w:World} {v:Value} {l:List Tm} (h:qbJ base w v l):∃ A c,v= .slice A l.length c/\l.length<=c/\qaA w w.heap.size A l:=qaM h
theorem qbJ.nil {base:Nat} {w:World}:qbJ base w (.slice none 0 0) []:=World.ownsRow_nil _ _ _ _
theorem qaG.below {base:Nat} {w w':World} {v:Value} {l:List Fd} (h:qaG base w v l) (hb:Below w.heap.size w w'):qaG base w' v l:=qan h hb
theorem qaG.low {base b:Nat} {w:World} {v:Value} {l:List Fd} (h:qaG base w v l) (hb:b<=base):qaG b w v l:=qbc h hb
theorem qaG.row {base:Nat} {w:World} {v:Value} {l:List Fd} (h:qaG base w v l):∃ A c,v= .slice A l.length c/\l.length<=c/\qaA w w.heap.size A l:=qaM h
theorem qaG.nil {base:Nat} {w:World}:qaG base w (.slice none 0 0) []:=World.ownsRow_nil _ _ _ _
theorem qaA.cut {w:World} {B:Nat} {A:Option Addr} {l:List Fd} (h:qaA w B A l) (k:Nat):qaA w B A (l.take k):=by
 have :=Row.cut h (k*2);rwa [<- ql2] at this
theorem qsB (w:World) (x:Fd) (t:TypeId):qaA (w.alloc (.cells #[.string ⟨x.1.toArray⟩,.string ⟨x.2.toArray⟩] t)) (w.alloc (.cells #[.string ⟨x.1.toArray⟩,.string ⟨x.2.toArray⟩] t)).heap.size (some ⟨w.heap.size,0,none⟩) [x]:=by
 refine .inr ⟨w.heap.size,0,rfl,by simp,fun j u hu=> ?_⟩;have :=qaQ w (flds [x]) t j u hu;rw [Addr.add_lit] at this;exact this
theorem qsC:(Tryz.prog.info? 69).map (fun i=>(i.zero,i.size,i.bytes))=some (some (.agg #[.string ByteArray.empty,.string ByteArray.empty]),2,32):=by kernel_rfl
theorem ql4 {ops:Array Oper} {rest:List Oper} {o:Oper} {a:Act} {Q:Exit->Act->World->Prop} (w:World) (hgd:o.guard=none) (s x:Operand)
  (ho:o.op= .call {callee:= .builtin .append,args:=#[s,x],argTypes:=#[57,57]})
  (base:Nat) (v:Value) (l:List Fd) (hs:a.eval s=v) (hown:qaG base w v l) (A:Option Addr) (m c:Nat) (news:List Fd) (hx:a.eval x= .slice A m c) (hl:news.length=m) (hr:qaA w w.heap.size A news)
  (hlen:l.length+m<=1073741824) (hbase:base<=w.heap.size)
  (h:∀ v' w',qaG base w' v' (l++news)->Below base w w'->w.grownBy w' v.ownBlock->wpList Tryz.prog ops Q rest (a.put o.dst v') w'):wpList Tryz.prog ops Q (o::rest) a w:=by
 obtain ⟨i0,hi0,hz0,hz1,hz2⟩:=info_parts ql3;refine qfG w hgd s x 57 ho base 121 i0 _ 2 32 Tryz.underlying57 hi0 hz0 hz1 hz2 rfl (by decide) v l.length (flds l) hs hown w.heap.size A m c (flds news) hx (by rw [qfo,hl]) hr (qiJ _) (by unfold maxLen;omega) (by omega) hbase fun v' w' h1 h2=>h v' w' ?_ ?_ h2
 ·unfold qaG
  rw [List.length_append,hl,qha];exact h1
 ·exact (Below.refl base w).grown h2 hbase fun k hk=>(hown.lt k hk).1
def qbX (s:Nm):Nat->List Nm->List (Tm × Int)
 |_,[]=>[]
 |i,x::l=>((s,x),(i:Int))::qbX s (i+1) l
theorem ql5 (s:Nm):∀ (l:List Nm) (i:Nat) (x:Nm),qbX s i (l++[x])=qbX s i l++[((s,x),((i+l.length:Nat):Int))]
 |[],i,x=>rfl
 |y::l,i,x=>by
  rw [List.cons_append,qbX,qbX,ql5 s l (i+1) x,List.cons_append,List.length_cons,Nat.add_assoc,Nat.add_comm 1]
theorem qsD (s:Nm) {l:List Nm} {k:Nat} (hk:k<l.length):qbX s 0 (l.take (k+1))=qbX s 0 (l.take k)++[((s,l[k]),(k:Int))]:=by
 rw [List.take_succ_eq_append_getElem hk,ql5,List.length_take,Nat.zero_add,Nat.min_eq_left (by omega)]
theorem qgp (s:Nm):∀ (l:List Nm) (i:Nat),(qbX s i l).length=l.length
 |[],_=>rfl
 |x::l,i=>by rw [qbX,List.length_cons,qgp s l,List.length_cons]
def qaS:List Fd->List (Tm × Int)
 |[]=>[]
 |f::l=>qbX f.1 0 (qaL f.2)++qaS l
theorem ql6:∀ (l:List Fd) (f:Fd),qaS (l++[f])=qaS l++qbX f.1 0 (qaL f.2)
 |[],f=>by simp [qaS]
 |g::l,f=>by rw [List.cons_append,qaS,qaS,ql6 l f,List.append_assoc]
theorem qsE {l:List Fd} {k:Nat} (hk:k<l.length):qaS (l.take (k+1))=qaS (l.take k)++qbX l[k].1 0 (qaL l[k].2):=by
 rw [List.take_succ_eq_append_getElem hk,ql6]
abbrev Gr:=Tm × List Int
def qbu:List Gr->Tm->Int->List Gr
 |[],t,a=>[(t,[a])]
 |p::g,t,a=>if p.1=t then (p.1,p.2++[a])::g else p::qbu g t a
def qcF (s:List (Tm × Int)):List Gr:=s.foldl (fun g p=>qbu g p.1 p.2) []
theorem qsF (s:List (Tm × Int)) (t:Tm) (a:Int):qcF (s++[(t,a)])=qbu (qcF s) t a:=by
 unfold qcF;rw [List.foldl_append];rfl
def qa4:List Gr->Tm->List Int
 |[],_=>[]
 |p::g,t=>if p.1=t then p.2 else qa4 g t
theorem ql7 (t u:Tm) (a:Int):∀ g:List Gr,qa4 (qbu g t a) u=if t=u then qa4 g u++[a] else qa4 g u
 |[]=>by by_cases h:t=u<;>simp [qbu,qa4,h]
 |p::g=>by
  rw [qbu];by_cases h1:p.1=t
  ·rw [if_pos h1,qa4,qa4]
   by_cases h2:t=u
   ·rw [if_pos h2,if_pos (h1.trans h2),if_pos (h1.trans h2)]
   ·rw [if_neg h2,if_neg (fun e=>h2 (h1.symm.trans e)),if_neg (fun e=>h2 (h1.symm.trans e))]
  ·rw [if_neg h1,qa4,qa4,ql7 t u a g]
   by_cases h2:p.1=u
   ·rw [if_pos h2,if_pos h2,if_neg (fun e=>h1 (h2.trans e.symm))]
   ·rw [if_neg h2,if_neg h2]
def qdc (s:List (Tm × Int)) (t:Tm):List Int:=(s.filter fun p=>decide (p.1=t)).map (·.2)
theorem ql8 (t:Tm):∀ (s:List (Tm × Int)) (g:List Gr),qa4 (s.foldl (fun g p=>qbu g p.1 p.2) g) t=qa4 g t++qdc s t
 |[],g=>by simp [qdc]
 |p::s,g=>by
  rw [List.foldl_cons,ql8 t s,ql7];unfold qdc;by_cases h:p.1=t<;>simp [h]
theorem ql9 (s:List (Tm × Int)) (t:Tm):qa4 (qcF s) t=qdc s t:=by
 rw [qcF,ql8];rfl
theorem qiK (t:Tm) (a:Int):∀ g:List Gr,(qbu g t a).map (·.1)=if t∈g.map (·.1) then g.map (·.1) else g.map (·.1)++[t]
 |[]=>rfl
 |p::g=>by
  have ih:=qiK t a g;rw [qbu];by_cases h:p.1=t
  ·rw [if_pos h,if_pos (by simp [h])]
   rfl
  ·rw [if_neg h,List.map_cons,ih,List.map_cons]
   by_cases h2:t∈g.map (·.1)
   ·rw [if_pos h2,if_pos (List.mem_cons_of_mem _ h2)]
   ·rw [if_neg h2,if_neg]
    ·rfl
    ·intro h3
     rcases List.mem_cons.1 h3 with h3|h3
     ·exact h h3.symm
     ·exact h2 h3
theorem qsG {g:List Gr} (h:(g.map (·.1)).Nodup) (t:Tm) (a:Int):((qbu g t a).map (·.1)).Nodup:=by
 rw [qiK];split
 ·exact h
 ·rename_i hn
  rw [List.nodup_append];exact ⟨h,by simp,fun x hx y hy e=>hn (by rw [List.mem_singleton] at hy;rw [<- hy,<- e];exact hx)⟩
theorem qiL:∀ (s:List (Tm × Int)) (g:List Gr),(g.map (·.1)).Nodup->((s.foldl (fun g p=>qbu g p.1 p.2) g).map (·.1)).Nodup/\∀ t,t∈(s.foldl (fun g p=>qbu g p.1 p.2) g).map (·.1)↔t∈g.map (·.1)∨t∈s.map (·.1)
 |[],g,h=>⟨h,by simp⟩
 |p::s,g,h=>by
  obtain ⟨h1,h2⟩:=qiL s (qbu g p.1 p.2) (qsG h _ _);refine ⟨h1,fun t=> ?_⟩;rw [List.foldl_cons,h2,qiK,List.map_cons,List.mem_cons];split
  ·rename_i hp
   constructor
   ·rintro (h|h)
    ·exact .inl h
    ·exact .inr (.inr h)
   ·rintro (h|rfl|h)
    ·exact .inl h
    ·exact .inl hp
    ·exact .inr h
  ·rw [List.mem_append,List.mem_singleton,or_assoc]
theorem qsH (s:List (Tm × Int)):((qcF s).map (·.1)).Nodup:=(qiL s [] (by simp)).1
theorem qma (s:List (Tm × Int)) (t:Tm):t∈(qcF s).map (·.1)↔t∈s.map (·.1):=by
 rw [qcF,(qiL s [] (by simp)).2];simp
def qdx (l:List Fd):Prop:=l.Pairwise fun f g=>f.1≠g.1
theorem qhb {l:List Fd} (h:qdx l) {f:Fd} (hf:f∈l):qcv l f.1=qaL f.2:=by
 induction l with
 |nil=>cases hf
 |cons g l ih=>
  rw [qdx,List.pairwise_cons] at h;rw [qcv];rcases List.mem_cons.1 hf with rfl|hf
  ·exact if_pos rfl
  ·rw [if_neg (h.1 f hf)]
   exact ih h.2 hf
theorem qmb {l:List Fd} {s:Nm} (h:∀ f∈l,f.1≠s):qcv l s=[]:=by
 induction l with
 |nil=>rfl
 |cons g l ih=>
  rw [qcv,if_neg (h g (List.mem_cons_self ..))];exact ih fun f hf=>h f (List.mem_cons_of_mem _ hf)
theorem qsI (a b:List (Tm × Int)) (t:Tm):qdc (a++b) t=qdc a t++qdc b t:=by simp [qdc]
theorem qmc (s:Nm) (t:Tm):∀ (l:List Nm) (i:Nat),qdc (qbX s i l) t=if s=t.1 then qcZ i l t.2 else []
 |[],i=>by simp [qbX,qdc,qcZ]
 |x::l,i=>by
  have ih:=qmc s t l (i+1);rw [qbX];unfold qdc at ih ⊢;rw [List.filter_cons];obtain ⟨t1,t2⟩:=t;simp only [Prod.mk.injEq] at ih ⊢;by_cases h1:s=t1
  ·rw [if_pos h1] at ih ⊢
   rw [qcZ];by_cases h2:x=t2
   ·rw [if_pos h2,if_pos (by simp [h1,h2]),List.map_cons,ih]
   ·rw [if_neg h2,if_neg (by simp [h2]),ih]
  ·rw [if_neg h1] at ih ⊢
   rw [if_neg (by simp [h1]),ih]
theorem qmd {l:List Fd} (h:qdx l) (t:Tm):qdc (qaS l) t=qaX l t:=by
 induction l with
 |nil=>rfl
 |cons f l ih=>
  rw [qdx,List.pairwise_cons] at h;rw [qaS,qsI,qmc,ih h.2];unfold qaX;rw [qcv];by_cases h1:f.1=t.1
  ·rw [if_pos h1,if_pos h1,qmb (fun g hg e=>h.1 g hg (h1.trans e.symm)),qcZ,List.append_nil]
  ·rw [if_neg h1,if_neg h1,List.nil_append]
theorem qme (s:Nm) (t:Tm):∀ (l:List Nm) (i:Nat),t∈(qbX s i l).map (·.1)↔t.1=s/\t.2∈l
 |[],i=>by simp [qbX]
 |x::l,i=>by
  rw [qbX,List.map_cons,List.mem_cons,qme s t l,List.mem_cons];obtain ⟨t1,t2⟩:=t;simp only [Prod.mk.injEq];constructor
  ·rintro (⟨h1,h2⟩|⟨h1,h2⟩)
   ·exact ⟨h1,.inl h2⟩
   ·exact ⟨h1,.inr h2⟩
  ·rintro ⟨h1,h2|h2⟩
   ·exact .inl ⟨h1,h2⟩
   ·exact .inr ⟨h1,h2⟩
theorem qgq (t:Tm):∀ l:List Fd,t∈(qaS l).map (·.1)↔∃ f∈l,t.1=f.1/\t.2∈qaL f.2
 |[]=>by simp [qaS]
 |f::l=>by rw [qaS,List.map_append,List.mem_append,qme,qgq t l];simp
theorem qiM (s:Nm) (t:Tm):∀ (ws:List Nm) (a:List Tm),t∈ws.foldl (fun b x=>qdw b (s,x)) a↔t∈a∨(t.1=s/\t.2∈ws)
 |[],a=>by simp
 |x::ws,a=>by
  rw [List.foldl_cons,qiM s t ws,qlX,List.mem_cons];obtain ⟨t1,t2⟩:=t;simp only [Prod.mk.injEq];constructor
  ·rintro ((h|⟨h1,h2⟩)|⟨h1,h2⟩)
   ·exact .inl h
   ·exact .inr ⟨h1,.inl h2⟩
   ·exact .inr ⟨h1,.inr h2⟩
  ·rintro (h|⟨h1,h2|h2⟩)
   ·exact .inl (.inl h)
   ·exact .inl (.inr ⟨h1,h2⟩)
   ·exact .inr ⟨h1,h2⟩
theorem qmf (l:List Fd) (t:Tm):∀ (m:List Fd) (a:List Tm),t∈m.foldl (fun a f=>(qcv l f.1).foldl (fun b x=>qdw b (f.1,x)) a) a↔t∈a∨∃ f∈m,t.1=f.1/\t.2∈qcv l f.1
 |[],a=>by simp
 |f::m,a=>by
  rw [List.foldl_cons,qmf l t m,qiM];simp [or_assoc]
theorem qhc {l:List Fd} (h:qdx l) (t:Tm):t∈qas l↔t∈(qaS l).map (·.1):=by
 rw [qas,qmf,qgq];simp only [List.not_mem_nil,false_or];constructor
 ·rintro ⟨f,hf,h1,h2⟩;exact ⟨f,hf,h1,by rwa [qhb h hf] at h2⟩
 ·rintro ⟨f,hf,h1,h2⟩;exact ⟨f,hf,h1,by rwa [qhb h hf]⟩
def qeW (l:List Fd):Prop:=∀ f∈l,(0:UInt8)∉f.1
theorem qmg {s:Nm} (h0:(0:UInt8)∉s):∀ (ws:List Nm) (a:List Tm),qdH a->(∀ t∈a,(0:UInt8)∉t.1)->qdH (ws.foldl (fun b x=>qdw b (s,x)) a)
 |[],a,h,_=>h
 |x::ws,a,h,hz=>qmg h0 ws _ (qsw h hz h0) fun t ht=>by
  rcases qlX.1 ht with ht|rfl
  ·exact hz t ht
  ·exact h0
theorem qmh (l:List Fd):∀ (m:List Fd) (a:List Tm),qeW m->qdH a->(∀ t∈a,(0:UInt8)∉t.1)->qdH (m.foldl (fun a f=>(qcv l f.1).foldl (fun b x=>qdw b (f.1,x)) a) a)
 |[],a,_,h,_=>h
 |f::m,a,hm,h,hz=>qmh l m _ (fun g hg=>hm g (List.mem_cons_of_mem _ hg)) (qmg (hm f (List.mem_cons_self ..)) _ _ h hz) fun t ht=>by
  rcases (qiM f.1 t _ _).1 ht with ht|⟨ht,_⟩
  ·exact hz t ht
  ·rw [ht];exact hm f (List.mem_cons_self ..)
theorem qmi {l:List Fd} (h:qeW l):qdH (qas l):=qmh l l [] h (by simp [qdH,qaH]) (by simp)
theorem qmj {l:List Fd} (ha:qdx l) (h:qeW l) {t:Tm} (ht:t∈qas l):(0:UInt8)∉t.1:=by
 obtain ⟨f,hf,h1,_⟩:=(qgq t l).1 ((qhc ha t).1 ht);rw [h1];exact h f hf
theorem qsJ {l:List Fd} (ha:qdx l) (h0:qeW l) {ts:List Tm} (hp:ts.Perm ((qcF (qaS l)).map (·.1))) (hs:ts.Pairwise fun s t=>¬ qae t<qae s):ts=qas l:=by
 have hmem:∀ t,t∈ts↔t∈qas l:=fun t=>by rw [hp.mem_iff,qma,qhc ha]
 have hz:∀ t∈ts,(0:UInt8)∉t.1:=fun t ht=>qmj ha h0 ((hmem t).1 ht)
 have hnd:ts.Nodup:=hp.nodup_iff.2 (qsH _);have hr:qdH ts:=by
  unfold qdH qaH;rw [List.pairwise_map];have h1:ts.Pairwise fun s t=>s∈ts/\t∈ts/\s≠t:=by
   rw [List.pairwise_iff_getElem];intro i j hi hj hij;exact ⟨List.getElem_mem hi,List.getElem_mem hj,fun e=>by have :=(List.getElem_inj hnd).1 e;omega⟩
  refine (hs.and h1).imp fun {s t} h=> ?_
  obtain ⟨h2,h3,h4,h5⟩:=h;rcases qdY (qae s) (qae t) with e|e|e
  ·exact e
  ·exact absurd (qiF e (hz s h3) (hz t h4)) h5
  ·exact absurd e h2
 have h2:ts.map qae=(qas l).map qae:=qg6 hr (qmi h0) fun k=>by
  simp only [List.mem_map];constructor
  ·rintro ⟨t,ht,rfl⟩;exact ⟨t,(hmem t).1 ht,rfl⟩
  ·rintro ⟨t,ht,rfl⟩;exact ⟨t,(hmem t).2 ht,rfl⟩
 have hlen:ts.length=(qas l).length:=by simpa using congrArg List.length h2
 refine List.ext_getElem hlen fun i h3 h4=> ?_
 refine qiF ?_ (hz _ (List.getElem_mem h3)) (qmj ha h0 (List.getElem_mem h4));have h5:=List.getElem_of_eq h2 (i:=i) (by simpa using h3);simpa using h5
theorem qmk {l:List Fd} (h:qdx l):(qaS l).length=qew l:=by
 have h1:∀ m:List Fd,(∀ f∈m,f∈l)->(qaS m).length=(m.map fun f=>(qcv l f.1).length).sum:=by
  intro m
  induction m with
  |nil=>intro _;rfl
  |cons f m ih=>
   intro hm;rw [qaS,List.length_append,qgp,ih fun g hg=>hm g (List.mem_cons_of_mem _ hg),List.map_cons,List.sum_cons,qhb h (hm f (List.mem_cons_self ..))]
 exact h1 l fun f hf=>hf
theorem qml:∀ {l:List Fd} {seen:List Nm} {n:Nat},qdb seen n l=0->(∀ f∈l,qbl f.1=true/\f.1∉seen)/\qdx l/\n+(l.map fun f=>(qaL f.2).length).sum<=500
 |[],seen,n,h=>by
  rw [qdb] at h;split at h
  ·cases h
  ·exact ⟨by simp,List.Pairwise.nil,by simp;omega⟩
 |f::l,seen,n,h=>by
  rw [qdb] at h;split at h
  ·cases h
  ·rename_i h1
   split at h
   ·cases h
   ·rename_i h2
    split at h
    ·rename_i h3;exact absurd h h3
    ·obtain ⟨g1,g2,g3⟩:=qml h
     refine ⟨fun g hg=> ?_,List.pairwise_cons.2 ⟨fun g hg e=>(g1 g hg).2 (by rw [<- e];simp),g2⟩,by rw [List.map_cons,List.sum_cons];omega⟩;rcases List.mem_cons.1 hg with rfl|hg
     ·exact ⟨by simpa using h1,h2⟩
     ·exact ⟨(g1 g hg).1,fun e=>(g1 g hg).2 (List.mem_append_left _ e)⟩
theorem qsK {l:List Fd} (h:qa9 l=0):l.length<=8/\(∀ f∈l,qbl f.1=true)/\qdx l/\qeW l/\qew l<=500:=by
 unfold qa9 at h;split at h
 ·cases h
 ·rename_i h8
  obtain ⟨g1,g2,g3⟩:=qml h;refine ⟨by omega,fun f hf=>(g1 f hf).1,g2,fun f hf=>qsu (g1 f hf).1,?_⟩;rw [<- qmk g2];have :∀ m:List Fd,(qaS m).length=(m.map fun f=>(qaL f.2).length).sum:=by
   intro m
   induction m with
   |nil=>rfl
   |cons f m ih=>rw [qaS,List.length_append,qgp,ih,List.map_cons,List.sum_cons]
  rw [this];omega
theorem qhd (x:Nm):∀ (l:List Nm) (i:Nat),∀ a∈qcZ i l x,(i:Int)<=a
 |[],i,a,h=>by cases h
 |y::l,i,a,h=>by
  rw [qcZ] at h;split at h
  ·rcases List.mem_cons.1 h with rfl|h
   ·exact Int.le_refl _
   ·have :=qhd x l (i+1) a h;omega
  ·have :=qhd x l (i+1) a h;omega
theorem qiN (x:Nm):∀ (l:List Nm) (i:Nat),(qcZ i l x).Pairwise (· <·)
 |[],i=>List.Pairwise.nil
 |y::l,i=>by
  rw [qcZ];split
  ·exact List.pairwise_cons.2 ⟨fun a ha=>by have :=qhd x l (i+1) a ha;omega,qiN x l (i+1)⟩
  ·exact qiN x l (i+1)
theorem qmm (x:Nm) (a:Int):∀ (l:List Nm) (i:Nat),a∈qcZ i l x↔∃ k:Nat,a=((i+k:Nat):Int)/\l[k]?=some x
 |[],i=>by simp [qcZ]
 |y::l,i=>by
  rw [qcZ];have ih:=qmm x a l (i+1);constructor
  ·intro h
   split at h
   ·rename_i hy
    rcases List.mem_cons.1 h with rfl|h
    ·exact ⟨0,by simp,by simp [hy]⟩
    ·obtain ⟨k,h1,h2⟩:=ih.1 h
     exact ⟨k+1,by rw [h1];congr 1;omega,by simpa using h2⟩
   ·obtain ⟨k,h1,h2⟩:=ih.1 h
    exact ⟨k+1,by rw [h1];congr 1;omega,by simpa using h2⟩
  ·rintro ⟨k,h1,h2⟩
   cases k with
   |zero=>
    have :y=x:=by simpa using h2
    rw [if_pos this];exact List.mem_cons.2 (.inl (by simpa using h1))
   |succ k=>
    have :=ih.2 ⟨k,by rw [h1];congr 1;omega,by simpa using h2⟩;split
    ·exact List.mem_cons_of_mem _ this
    ·exact this
end Go.Proofs.YtpehcaidjlemiaaGreatDoor
