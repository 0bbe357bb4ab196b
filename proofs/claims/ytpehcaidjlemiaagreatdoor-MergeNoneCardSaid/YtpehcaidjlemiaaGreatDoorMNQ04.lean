import Derived.Test.YtpehcaidjlemiaaGreatDoorMNQ03
import Derived.Test.YtpehcaidjlemiaaGreatDoorProg
import Derived.Test.YtpehcaidjlemiaaGreatDoorMNQ01
import Derived.Lib.Hide
import Derived.BigQuiet
import Derived.Deep.QuietTactic
import Derived.Sort.Walk0
import Derived.Lib.RowBridge
import Derived.Lib.SlicesCompact
import Derived.Lib.BitFns
import Derived.Lib.Strings
import Derived.Sort.OwnSorted
import Derived.Deep.AppendLies
set_option linter.unusedVariables false
namespace Go.Proofs.YtpehcaidjlemiaaGreatDoor
open Go Go.RowKit
def qbz:Nat->List (List UInt8)->Int
 |_,[]=>0
 |i,w::ws=>if 30<w.length then 3 else if 500<=i then 7 else qbz (i+1) ws
def qdG:Nat->List (List UInt8)->List Value
 |_,[]=>[]
 |i,w::ws=> .string ⟨w.toArray⟩:: .int .i64 i::qdG (i+1) ws
theorem qln:∀ (a:List (List UInt8)) (i:Nat) (b:List (List UInt8)),qdG i (a++b)=qdG i a++qdG (i+a.length) b
 |[],i,b=>by simp [qdG]
 |w::a,i,b=>by
  simp only [List.cons_append,qdG,qln a,List.length_cons];rw [show i+1+a.length=i+(a.length+1) by omega]
theorem qlo {ws:List (List UInt8)} {k:Nat} (hk:k<ws.length):qdG 0 (ws.take (k+1))=qdG 0 (ws.take k)++[.string ⟨ws[k].toArray⟩,.int .i64 k]:=by
 rw [List.take_succ_eq_append_getElem hk,qln,List.length_take,Nat.zero_add,Nat.min_eq_left (by omega)];rfl
theorem qlp {ws:List (List UInt8)} {k:Nat} (hk:k<ws.length):qbz k (ws.drop k)=if 30<ws[k].length then 3 else if 500<=k then 7 else qbz (k+1) (ws.drop (k+1)):=by
 rw [List.drop_eq_getElem_cons hk,qbz]
theorem qlq:(Tryz.prog.info? 245).map (fun i=>(i.zero,i.size,i.bytes))=some (some (.agg #[.string ByteArray.empty,.int .i64 0]),2,24):=by kernel_rfl
def qeN (ws:List (List UInt8)) (w:World) (e:Ending) (w':World):Prop:=
 ∃ v,e= .returned (.tuple #[v,.int .i64 (qbz 0 ws)])/\(qbz 0 ws=0->w'.ownsRow w.heap.size 245 2 v ws.length (qdG 0 ws))/\(qbz 0 ws≠0->v= .slice none 0 0)/\Below w.heap.size w w'
def qlr (ws:List (List UInt8)) (w1:World) (a b o i:Value) (wr:World):Prop:=
 ∃ (k:Nat) (vo:Value),vo=o/\a= .slice none 0 0/\b= .int .i64 0/\k<=ws.length/\k<=500/\i= .int .i64 k/\wr.ownsRow w1.heap.size 245 2 o k (qdG 0 (ws.take k))/\Below w1.heap.size w1 wr/\qbz k (ws.drop k)=qbz 0 ws
def qdx (f g:List UInt8):List UInt8:=f++0::g
theorem qrO {f g f' g':List UInt8} (h:qdx f g=qdx f' g') (h0:(0:UInt8)∉f) (h1:(0:UInt8)∉f'):f=f'/\g=g':=by
 induction f generalizing f' with
 |nil=>
  cases f' with
  |nil=>simp [qdx] at h;exact ⟨rfl,h⟩
  |cons b f'=>simp [qdx] at h;exact absurd (by rw [<- h.1];exact List.mem_cons_self ..) h1
 |cons a f ih=>
  cases f' with
  |nil=>simp [qdx] at h;exact absurd (by rw [h.1];exact List.mem_cons_self ..) h0
  |cons b f'=>
   simp only [qdx,List.cons_append,List.cons.injEq] at h;obtain ⟨h2,h3⟩:=ih (f':=f') h.2 (fun e=>h0 (List.mem_cons_of_mem _ e)) (fun e=>h1 (List.mem_cons_of_mem _ e));exact ⟨by rw [h.1,h2],h3⟩
def qeo (f g:ByteArray):ByteArray:=f++⟨#[0]⟩++g
theorem qih (f g:ByteArray):(qeo f g).data.toList=qdx f.data.toList g.data.toList:=by simp [qeo,qdx]
abbrev Nm:=List UInt8
theorem qii {a:UInt8} {x:Nm}:([]:Nm)<a::x:=by simp
theorem qij {x:Nm}:¬ x<([]:Nm):=by simp
theorem qgX {a b:UInt8} {x y:Nm}:a::x<b::y↔a<b∨a=b/\x<y:=List.cons_lt_cons_iff
theorem qrP (a:UInt8):¬ a<a:=by rw [UInt8.lt_iff_toNat_lt];omega
theorem qep:∀ x:Nm,¬ x<x
 |[]=>qij
 |a::x=>by
  rw [qgX];rintro (h|⟨_,h⟩)
  ·exact qrP a h
  ·exact qep x h
theorem qcS:∀ {x y z:Nm},x<y->y<z->x<z
 |_,[],_,h,_=>absurd h qij
 |_,_::_,[],_,h=>absurd h qij
 |[],_::_,_::_,_,_=>qii
 |a::x,b::y,c::z,h,k=>by
  rw [qgX] at h k ⊢;rcases h with h|⟨rfl,h⟩
  ·rcases k with k|⟨rfl,k⟩
   ·left;rw [UInt8.lt_iff_toNat_lt] at*;omega
   ·exact .inl h
  ·rcases k with k|⟨rfl,k⟩
   ·exact .inl k
   ·exact .inr ⟨rfl,qcS h k⟩
theorem qdQ:∀ x y:Nm,x<y∨x=y∨y<x
 |[],[]=> .inr (.inl rfl)
 |[],_::_=> .inl qii
 |_::_,[]=> .inr (.inr qii)
 |a::x,b::y=>by
  rw [qgX,qgX];by_cases h1:a<b
  ·exact .inl (.inl h1)
  ·by_cases h2:b<a
   ·exact .inr (.inr (.inl h2))
   ·have e:a=b:=by
     rw [UInt8.lt_iff_toNat_lt] at h1 h2;exact UInt8.toNat_inj.1 (by omega)
    subst e;rcases qdQ x y with h|rfl|h
    ·exact .inl (.inr ⟨rfl,h⟩)
    ·exact .inr (.inl rfl)
    ·exact .inr (.inr (.inr ⟨rfl,h⟩))
theorem qf9 {x y:Nm} (h:x<y):¬ y<x:=fun k=>qep x (qcS h k)
theorem qik {x y:Nm} (h:x<y):x≠y:=fun e=>qep y (e▸h)
theorem qrQ {x y z:Nm} (h:¬ y<x) (k:y<z):x<z:=by
 rcases qdQ x y with h1|rfl|h1
 ·exact qcS h1 k
 ·exact k
 ·exact absurd h1 h
theorem qrR {x y z:Nm} (h:x<y) (k:¬ z<y):x<z:=by
 rcases qdQ y z with h1|rfl|h1
 ·exact qcS h h1
 ·exact h
 ·exact absurd h1 k
def qaH (l:List Nm):Prop:=l.Pairwise (· <·)
instance (l:List Nm):Decidable (qaH l):=inferInstanceAs (Decidable (l.Pairwise (· <·)))
def qc2 (l:List Nm):Bool:=decide (qaH l)
theorem qfD {l:List Nm}:qc2 l=true↔qaH l:=by simp [qc2]
theorem qd6 {l:List Nm} (h:qaH l) {i j:Nat} (hj:j<l.length) (hij:i<j):l[i]<l[j]:=List.pairwise_iff_getElem.1 h i j (by omega) hj hij
theorem qrS {l:List Nm} (h:∀ i,(hi:i+1<l.length)->l[i]<l[i+1]):qaH l:=by
 refine List.pairwise_iff_getElem.2 fun i j hi hj hij=> ?_
 induction j with
 |zero=>omega
 |succ j ih=>
  by_cases e:i=j
  ·subst e;exact h i hj
  ·exact qcS (ih (by omega) (by omega)) (h j hj)
theorem qrT {l:List Nm} {k:Nat} (hk:k<l.length) (h0:0<k) (h:¬ l[k-1]<l[k]):qc2 l=false:=by
 rw [<- Bool.not_eq_true,qfD];exact fun hr=>h (qd6 hr hk (by omega))
theorem qrU {l:List Nm} (h:∀ i,(hi:i<l.length)->0<i->l[i-1]<l[i]):qc2 l=true:=by
 rw [qfD];exact qrS fun i hi=>by have :=h (i+1) hi (by omega);simpa using this
def qaw:List Nm->Nm->Nat
 |[],_=>0
 |x::l,s=>if x<s then qaw l s+1 else 0
def isN:List Nm->Nm->Bool
 |[],_=>false
 |x::l,s=>if x<s then isN l s else x==s
def qbX:List Nm->Nm->List Nm
 |[],s=>[s]
 |x::l,s=>if x<s then x::qbX l s else if x=s then x::l else s::x::l
theorem qga:∀ (l:List Nm) (s:Nm),qaw l s<=l.length
 |[],_=>Nat.le_refl _
 |x::l,s=>by
  have :=qga l s;simp only [qaw,List.length_cons];split<;>omega
theorem qls:∀ {l:List Nm} {s:Nm} {j:Nat} (hj:j<l.length),j<qaw l s->l[j]<s
 |[],_,_,h,_=>by simp at h
 |x::l,s,j,hj,h=>by
  simp only [qaw] at h;split at h
  ·rename_i hx
   cases j with
   |zero=>exact hx
   |succ j=>exact qls (l:=l) (by simpa using hj) (by omega)
  ·omega
theorem qlt:∀ {l:List Nm} {s:Nm} (h:qaw l s<l.length),¬ l[qaw l s]<s
 |[],_,h=>by simp at h
 |x::l,s,h=>by
  by_cases hx:x<s
  ·have e:qaw (x::l) s=qaw l s+1:=by simp [qaw,hx]
   have :=qlt (l:=l) (s:=s) (by rw [e] at h;simpa using h);simpa [e] using this
  ·have e:qaw (x::l) s=0:=by simp [qaw,hx]
   simpa [e] using hx
theorem qlu {l:List Nm} {s:Nm} {k:Nat} (hk:k<=l.length) (h1:∀ j (hj:j<l.length),j<k->l[j]<s) (h2:∀ h:k<l.length,¬ l[k]<s):qaw l s=k:=by
 have a:=qga l s;rcases Nat.lt_trichotomy (qaw l s) k with h|h|h
 ·exact absurd (h1 _ (by omega) h) (qlt (by omega))
 ·exact h
 ·exact absurd (qls (by omega) h) (h2 (by omega))
theorem qgY:∀ {l:List Nm} {s:Nm} (h:qaw l s<l.length),isN l s=(l[qaw l s]==s)
 |[],_,h=>by simp at h
 |x::l,s,h=>by
  by_cases hx:x<s
  ·have e:qaw (x::l) s=qaw l s+1:=by simp [qaw,hx]
   have e2:isN (x::l) s=isN l s:=by simp [isN,hx]
   have :=qgY (l:=l) (s:=s) (by rw [e] at h;simpa using h);rw [e2,this];simp [e]
  ·have e:qaw (x::l) s=0:=by simp [qaw,hx]
   simp [e,isN,hx]
theorem qil:∀ {l:List Nm} {s:Nm},qaw l s=l.length->isN l s=false
 |[],_,_=>rfl
 |x::l,s,h=>by
  by_cases hx:x<s
  ·have e:qaw (x::l) s=qaw l s+1:=by simp [qaw,hx]
   rw [e] at h;simpa [isN,hx] using qil (l:=l) (s:=s) (by simpa using h)
  ·have e:qaw (x::l) s=0:=by simp [qaw,hx]
   rw [e] at h;simp at h
theorem qim {l:List Nm} {s:Nm} {k:Nat} (hk:k<l.length) (h1:∀ j (hj:j<l.length),j<k->l[j]<s) (h2:l[k]=s):qaw l s=k/\isN l s=true:=by
 have e:=qlu (s:=s) (by omega) h1 (fun _=>by rw [h2];exact qep s);subst e;exact ⟨rfl,by rw [qgY hk,h2];simp⟩
theorem qlv {l:List Nm} {s:Nm} {k:Nat} (hk:k<=l.length) (h1:∀ j (hj:j<l.length),j<k->l[j]<s) (h2:∀ h:k<l.length,s<l[k]):qaw l s=k/\isN l s=false:=by
 have e:=qlu (s:=s) hk h1 (fun h=>qf9 (h2 h));subst e;refine ⟨rfl,?_⟩;by_cases h:qaw l s<l.length
 ·rw [qgY h]
  simpa using (qik (h2 h)).symm
 ·exact qil (by have :=qga l s;omega)
theorem qin {l:List Nm} {s:Nm} (h:isN l s=true):∃ hk:qaw l s<l.length,l[qaw l s]=s:=by
 by_cases hk:qaw l s<l.length
 ·rw [qgY hk] at h
  exact ⟨hk,by simpa using h⟩
 ·rw [qil (by have :=qga l s;omega)] at h
  cases h
theorem qlw {l:List Nm} (hr:qaH l) {i:Nat} (hi:i<l.length):qaw l l[i]=i/\isN l l[i]=true:=
 qim hi (fun j hj hji=>qd6 hr hi hji) rfl
def qaA (x s:Nm):Int:=if x<s then-1 else if x=s then 0 else 1
theorem qlx:∀ {l:List Nm} {s:Nm},isN l s=true->qbX l s=l
 |[],_,h=>by cases h
 |x::l,s,h=>by
  by_cases hx:x<s
  ·rw [isN,if_pos hx] at h
   rw [qbX,if_pos hx,qlx h]
  ·rw [isN,if_neg hx] at h
   rw [qbX,if_neg hx,if_pos (by simpa using h)]
theorem qly:∀ {l:List Nm} {s:Nm},isN l s=false->qbX l s=l.take (qaw l s)++[s]++l.drop (qaw l s)
 |[],_,h=>rfl
 |x::l,s,h=>by
  by_cases hx:x<s
  ·rw [isN,if_pos hx] at h
   rw [qbX,if_pos hx,qly h,qaw,if_pos hx];simp
  ·rw [isN,if_neg hx] at h
   rw [qbX,if_neg hx,if_neg (by simpa using h),qaw,if_neg hx];simp
theorem qgZ:∀ {l:List Nm} {s x:Nm},x∈qbX l s↔x=s∨x∈l
 |[],s,x=>by simp [qbX]
 |y::l,s,x=>by
  rw [qbX];split
  ·rw [List.mem_cons,qgZ,List.mem_cons];exact or_left_comm
  ·split
   ·rename_i e
    subst e;rw [List.mem_cons];exact ⟨fun h=> .inr h,fun h=>h.elim .inl id⟩
   ·rw [List.mem_cons,List.mem_cons]
theorem qio:∀ {l:List Nm} {s:Nm},qaH l->qaH (qbX l s)
 |[],s,_=>by simp [qbX,qaH]
 |y::l,s,h=>by
  have h':=List.pairwise_cons.1 h;rw [qbX];split
  ·rename_i hy
   refine List.pairwise_cons.2 ⟨fun a ha=> ?_,qio h'.2⟩;rcases qgZ.1 ha with rfl|ha
   ·exact hy
   ·exact h'.1 a ha
  ·rename_i hy
   split
   ·exact h
   ·rename_i hne
    have hs:s<y:=((qdQ y s).resolve_left hy).resolve_left hne;refine List.pairwise_cons.2 ⟨fun a ha=> ?_,h⟩;rcases List.mem_cons.1 ha with rfl|ha
    ·exact hs
    ·exact qcS hs (h'.1 a ha)
theorem qlz (l:List Nm) (s:Nm):(qbX l s).length<=l.length+1:=by
 cases h:isN l s with
 |true=>rw [qlx h];omega
 |false=>rw [qly h];have :=qga l s;simp;omega
theorem qg0:∀ {a b:List Nm},qaH a->qaH b->(∀ x,x∈a↔x∈b)->a=b
 |[],[],_,_,_=>rfl
 |[],y::b,_,_,h=>absurd ((h y).2 (List.mem_cons_self ..)) (by simp)
 |x::a,[],_,_,h=>absurd ((h x).1 (List.mem_cons_self ..)) (by simp)
 |x::a,y::b,ha,hb,h=>by
  have ha':=List.pairwise_cons.1 ha;have hb':=List.pairwise_cons.1 hb;have e:x=y:=by
   rcases List.mem_cons.1 ((h x).1 (List.mem_cons_self ..)) with e|h1
   ·exact e
   ·rcases List.mem_cons.1 ((h y).2 (List.mem_cons_self ..)) with e|h2
    ·exact e.symm
    ·exact absurd (ha'.1 y h2) (qf9 (hb'.1 x h1))
  subst e;congr 1;refine qg0 ha'.2 hb'.2 fun z=>⟨fun hz=> ?_,fun hz=> ?_⟩
  ·rcases List.mem_cons.1 ((h z).1 (List.mem_cons_of_mem _ hz)) with rfl|h1
   ·exact absurd (ha'.1 z hz) (qep z)
   ·exact h1
  ·rcases List.mem_cons.1 ((h z).2 (List.mem_cons_of_mem _ hz)) with rfl|h1
   ·exact absurd (hb'.1 z hz) (qep z)
   ·exact h1
def qdl (l:List Nm) (n:Nat):List Nm:=(l.take n).foldl (fun a x=>qbX a (x.take 8)) []
theorem qrV {l:List Nm} {k:Nat} (hk:k<l.length):qdl l (k+1)=qbX (qdl l k) (l[k].take 8):=by
 rw [qdl,List.take_succ_eq_append_getElem hk,List.foldl_append];rfl
theorem qrW {l:List Nm} {k n:Nat} (hk:l.length<=k) (hn:k<=n):qdl l k=qdl l n:=by
 rw [qdl,qdl,List.take_of_length_le hk,List.take_of_length_le (by omega)]
theorem qrX (l:List Nm) (n:Nat):qdl l (min n l.length)=qdl l n:=by
 rcases Nat.le_total n l.length with h|h
 ·rw [Nat.min_eq_left h]
 ·rw [Nat.min_eq_right h];exact qrW (Nat.le_refl _) h
structure qlA (g:List Nm):Prop where
 rise:qaH g
 eight:∀ x∈g,x.length<=8
theorem qzg (l:List Nm) (n:Nat):qlA (qdl l n)/\(qdl l n).length<=n:=by
 have :∀ k,k<=l.length->qlA (qdl l k)/\(qdl l k).length<=k:=by
  intro k
  induction k with
  |zero=>intro _;exact ⟨⟨List.Pairwise.nil,fun x hx=>by cases hx⟩,Nat.le_refl _⟩
  |succ k ih=>
   intro hk;obtain ⟨h1,h2⟩:=ih (by omega);rw [qrV (by omega)];refine ⟨⟨qio h1.rise,fun x hx=> ?_⟩,by have :=qlz (qdl l k) (l[k].take 8);omega⟩;rcases qgZ.1 hx with rfl|hx
   ·rw [List.length_take];omega
   ·exact h1.eight x hx
 have h:=this (min n l.length) (by omega);rw [qrX] at h;exact ⟨h.1,by omega⟩
def qbr (ls:List (List Nm)):List Nm:=ls.flatten.foldl qbX []
theorem qip:∀ (xs:List Nm) (a:List Nm) (x:Nm),x∈xs.foldl qbX a↔x∈xs∨x∈a
 |[],a,x=>by simp
 |y::xs,a,x=>by
  rw [List.foldl_cons,qip xs,qgZ,List.mem_cons];constructor
  ·rintro (h|h|h)
   ·exact .inl (.inr h)
   ·exact .inl (.inl h)
   ·exact .inr h
  ·rintro ((h|h)|h)
   ·exact .inr (.inl h)
   ·exact .inl h
   ·exact .inr (.inr h)
theorem qiq:∀ (xs:List Nm) (a:List Nm),qaH a->qaH (xs.foldl qbX a)
 |[],a,h=>h
 |y::xs,a,h=>qiq xs _ (qio h)
theorem qfE (ls:List (List Nm)):qaH (qbr ls):=qiq _ _ List.Pairwise.nil
theorem qgb {ls:List (List Nm)} {x:Nm}:x∈qbr ls↔∃ a∈ls,x∈a:=by
 rw [qbr,qip];simp [List.mem_flatten]
theorem qlB {ls:List (List Nm)} {r:List Nm} (h:qaH r) (hm:∀ x,x∈r↔∃ a∈ls,x∈a):r=qbr ls:=
 qg0 h (qfE ls) fun x=>by rw [hm,qgb]
theorem qgc:∀ (xs a:List Nm),(xs.foldl qbX a).length<=xs.length+a.length
 |[],a=>by simp
 |y::xs,a=>by
  rw [List.foldl_cons,List.length_cons];have :=qgc xs (qbX a y);have :=qlz a y;omega
def qgd (l:List Nm):List Nm:=Lib.compact (l.mergeSort fun x y=>decide (x<=y))
theorem qrY (l:List Nm):(l.mergeSort fun x y=>decide (x<=y)).Pairwise (fun x y=>¬ y<x):=by
 have h:=List.pairwise_mergeSort (le:=fun x y:Nm=>decide (x<=y)) (fun a b c h1 h2=>decide_eq_true (show ¬ c<a from fun h=>(of_decide_eq_true h2:¬ c<b) (qrR h (of_decide_eq_true h1:¬ b<a)))) (fun a b=>by
  by_cases h:b<a
  ·rw [Bool.or_eq_true];exact .inr (decide_eq_true (show ¬ a<b from qf9 h))
  ·rw [Bool.or_eq_true];exact .inl (decide_eq_true (show ¬ b<a from h))) l
 exact h.imp fun {a b} hab=>(of_decide_eq_true hab:¬ b<a)
theorem qrZ {l:List Nm} (x:Nm):x∈Lib.compact l↔x∈l:=by
 unfold Lib.compact;have :∀ m,m<=l.length->(x∈Lib.compactUpTo l.toArray m↔x∈l.take m):=by
  intro m
  induction m with
  |zero=>intro _;simp [Lib.compactUpTo]
  |succ m ih=>
   intro hm;have hg:l.toArray[m]! =l[m]:=by rw [getElem!_pos l.toArray m (by simp;omega)];simp
   rw [Lib.compactUpTo_succ,List.mem_append,ih (by omega),List.take_succ_eq_append_getElem (by omega),List.mem_append,hg];by_cases hk:Lib.keeps l.toArray m=true
   ·rw [if_pos hk]
   ·rw [if_neg hk]
    have hk':m≠0/\l.toArray[m]! =l.toArray[m-1]! :=by
     simp only [Lib.keeps,decide_eq_true_eq,not_or,Decidable.not_not] at hk;exact hk
    have hg1:l.toArray[m-1]! =l[m-1]:=by rw [getElem!_pos l.toArray (m-1) (by simp;omega)];simp
    rw [hg,hg1] at hk';constructor
    ·rintro (h|h)
     ·exact .inl h
     ·cases h
    ·rintro (h|h)
     ·exact .inl h
     ·rw [List.mem_singleton] at h
      left;rw [h,hk'.2];exact List.mem_take_iff_getElem.2 ⟨m-1,by omega,rfl⟩
 have h:=this l.length (Nat.le_refl _);rwa [List.take_length] at h
theorem qr0 {l:List Nm} (hl:l.Pairwise (fun x y=>¬ y<x)):qaH (Lib.compact l):=by
 unfold Lib.compact;have :∀ m,m<=l.length->qaH (Lib.compactUpTo l.toArray m)/\∀ x∈Lib.compactUpTo l.toArray m,∃ j,j<m/\l[j]?=some x:=by
  intro m
  induction m with
  |zero=>intro _;simp [Lib.compactUpTo,qaH]
  |succ m ih=>
   intro hm;obtain ⟨h1,h2⟩:=ih (by omega);have hg:l.toArray[m]! =l[m]:=by rw [getElem!_pos l.toArray m (by simp;omega)];simp
   rw [Lib.compactUpTo_succ,hg];by_cases hk:Lib.keeps l.toArray m=true
   ·rw [if_pos hk]
    refine ⟨List.pairwise_append.2 ⟨h1,List.pairwise_singleton _ _,fun a ha b hb=> ?_⟩,fun x hx=> ?_⟩
    ·rw [List.mem_singleton] at hb
     subst hb;obtain ⟨j,hj,hja⟩:=h2 a ha;obtain ⟨hjl,rfl⟩:=List.getElem?_eq_some_iff.1 hja;have hm0:m≠0:=by omega
     have hg1:l.toArray[m-1]! =l[m-1]:=by rw [getElem!_pos l.toArray (m-1) (by simp;omega)];simp
     have hne:l[m]≠l[m-1]:=by
      simp only [Lib.keeps,decide_eq_true_eq] at hk;have :=hk.resolve_left hm0;rwa [hg,hg1] at this
     have hlt:l[m-1]<l[m]:=by
      have h3:=List.pairwise_iff_getElem.1 hl (m-1) m (by omega) (by omega) (by omega);rcases qdQ l[m-1] l[m] with h|h|h
      ·exact h
      ·exact absurd h.symm hne
      ·exact absurd h h3
     by_cases e:j=m-1
     ·subst e;exact hlt
     ·exact qrQ (List.pairwise_iff_getElem.1 hl j (m-1) (by omega) (by omega) (by omega)) hlt
    ·rcases List.mem_append.1 hx with hx|hx
     ·obtain ⟨j,hj,hja⟩:=h2 x hx
      exact ⟨j,by omega,hja⟩
     ·rw [List.mem_singleton] at hx
      subst hx;exact ⟨m,by omega,by simp⟩
   ·rw [if_neg hk,List.append_nil]
    exact ⟨h1,fun x hx=>by obtain ⟨j,hj,hja⟩:=h2 x hx;exact ⟨j,by omega,hja⟩⟩
 exact (this l.length (Nat.le_refl _)).1
theorem qr1 (l:List Nm):qaH (qgd l):=qr0 (qrY l)
theorem qr2 {l:List Nm} (x:Nm):x∈qgd l↔x∈l:=by rw [qgd,qrZ,List.mem_mergeSort]
def qcj:List Nm->List Nm->List Nm
 |[],b=>b
 |a,[]=>a
 |x::a,y::b=>if x<y then x::qcj a (y::b) else if x=y then qcj a (y::b) else y::qcj (x::a) b
termination_by a b=>a.length+b.length
theorem qlC (a:List Nm):qcj a []=a:=by cases a<;>simp [qcj]
theorem qlD (b:List Nm):qcj [] b=b:=by simp [qcj]
theorem qfF:∀ (a b:List Nm) (x:Nm),x∈qcj a b↔x∈a∨x∈b
 |[],b,x=>by simp [qcj]
 |y::a,[],x=>by simp [qcj]
 |y::a,z::b,x=>by
  rw [qcj];split
  ·rw [List.mem_cons,qfF a (z::b),List.mem_cons (a:=x) (b:=y),or_assoc]
  ·split
   ·rename_i e
    subst e;rw [qfF a (y::b)];simp only [List.mem_cons];exact ⟨fun h=>h.elim (fun h=> .inl (.inr h)) .inr,fun h=>h.elim (fun h=>h.elim (fun h=> .inr (.inl h)) .inl) .inr⟩
   ·rw [List.mem_cons,qfF (y::a) b,List.mem_cons (a:=x) (b:=z)]
    exact or_left_comm
termination_by a b=>a.length+b.length
theorem qg1:∀ {a b:List Nm},qaH a->qaH b->qaH (qcj a b)
 |[],b,_,h=>by rw [qlD];exact h
 |y::a,[],h,_=>by rw [qlC];exact h
 |y::a,z::b,ha,hb=>by
  have ha':=List.pairwise_cons.1 ha;have hb':=List.pairwise_cons.1 hb;rw [qcj];split
  ·rename_i h
   refine List.pairwise_cons.2 ⟨fun x hx=> ?_,qg1 ha'.2 hb⟩;rcases (qfF _ _ _).1 hx with hx|hx
   ·exact ha'.1 x hx
   ·rcases List.mem_cons.1 hx with rfl|hx
    ·exact h
    ·exact qcS h (hb'.1 x hx)
  ·rename_i h
   split
   ·exact qg1 ha'.2 hb
   ·rename_i hne
    have hz:z<y:=((qdQ y z).resolve_left h).resolve_left hne;refine List.pairwise_cons.2 ⟨fun x hx=> ?_,qg1 ha hb'.2⟩;rcases (qfF _ _ _).1 hx with hx|hx
    ·rcases List.mem_cons.1 hx with rfl|hx
     ·exact hz
     ·exact qcS hz (ha'.1 x hx)
    ·exact hb'.1 x hx
termination_by a b=>a.length+b.length
abbrev Fd:=Nm × Nm
abbrev Tm:=Nm × Nm
def qdH (c:UInt8):Bool:=decide (97<=c.toNat)&&decide (c.toNat<=122)
def qbm (s:Nm):Bool:=s.all qdH&&(decide (1<=s.length)&&decide (s.length<=12))
theorem qlE {s:Nm} {k:Nat} (hk:k<s.length) (h:qdH s[k]=false):qbm s=false:=by
 rw [<- Bool.not_eq_true,qbm,Bool.and_eq_true];intro hh;rw [List.all_eq_true.1 hh.1 _ (List.getElem_mem hk)] at h;cases h
theorem qlF {s:Nm} (h:∀ k (hk:k<s.length),qdH s[k]=true):qbm s=(decide (1<=s.length)&&decide (s.length<=12)):=by
 rw [qbm,List.all_eq_true.2 fun c hc=>by obtain ⟨k,hk,rfl⟩:=List.getElem_of_mem hc;exact h k hk,Bool.true_and]
theorem qr3 {s:Nm} (h:qbm s=true):(0:UInt8)∉s:=fun h0=>by
 rw [qbm,Bool.and_eq_true] at h;exact absurd (List.all_eq_true.1 h.1 _ h0) (by decide)
def qc3:List Nm->Nat->List Fd->Int
 |_,n,[]=>if 500<n then 7 else 0
 |seen,n,f::fs=>if qbm f.1=false then 4 else if f.1∈seen then 5 else if qbz 0 (qaL f.2)≠0 then qbz 0 (qaL f.2) else qc3 (seen++[f.1]) (n+(qaL f.2).length) fs
def qbd (l:List Fd):Int:=if 8<l.length then 7 else qc3 [] 0 l
def qcv:List Fd->Nm->List Nm
 |[],_=>[]
 |f::fs,s=>if f.1=s then qaL f.2 else qcv fs s
def qcT:Nat->List Nm->Nm->List Int
 |_,[],_=>[]
 |i,y::l,x=>if y=x then (i:Int)::qcT (i+1) l x else qcT (i+1) l x
def qaZ (l:List Fd) (t:Tm):List Int:=qcT 0 (qcv l t.1) t.2
theorem qir (x:Nm):∀ (l:List Nm) (i:Nat),(qcT i l x).length<=l.length
 |[],_=>Nat.le_refl _
 |y::l,i=>by
  have :=qir x l (i+1);rw [qcT];split<;>simp <;>omega
def qae (t:Tm):Nm:=qdx t.1 t.2
def atT (l:List Tm) (k:Nat):Tm:=l.getD k ([],[])
def qbK (l:List Tm) (t:Tm):Nat->Nat
 |0=>0
 |k+1=>if qae t<qae (atT l k) then qbK l t k else k+1
theorem qg2 (l:List Tm) (t:Tm):∀ k,qbK l t k<=k
 |0=>Nat.le_refl _
 |k+1=>by
  have :=qg2 l t k;rw [qbK];split<;>omega
theorem qlG {l:List Tm} {t:Tm}:∀ {k:Nat},0<qbK l t k->¬ qae t<qae (atT l (qbK l t k-1))
 |0,h=>by simp [qbK] at h
 |k+1,h=>by
  by_cases hk:qae t<qae (atT l k)
  ·have e:qbK l t (k+1)=qbK l t k:=by rw [qbK,if_pos hk]
   rw [e] at h ⊢;exact qlG h
  ·have e:qbK l t (k+1)=k+1:=by rw [qbK,if_neg hk]
   rw [e];exact hk
theorem qlH {l:List Tm} {t:Tm}:∀ {k j:Nat},qbK l t k<=j->j<k->qae t<qae (atT l j)
 |0,j,_,h=>by omega
 |k+1,j,h1,h2=>by
  by_cases hk:qae t<qae (atT l k)
  ·have e:qbK l t (k+1)=qbK l t k:=by rw [qbK,if_pos hk]
   rw [e] at h1;by_cases e:j=k
   ·subst e;exact hk
   ·exact qlH h1 (by omega)
  ·have e:qbK l t (k+1)=k+1:=by rw [qbK,if_neg hk]
   omega
def qis (l:List Tm) (t:Tm) (k:Nat):Bool:=decide (0<k)&&decide (atT l (k-1)=t)
def qdm (l:List Tm) (t:Tm):List Tm:=if qis l t (qbK l t l.length)=true then l else l.take (qbK l t l.length)++t::l.drop (qbK l t l.length)
def qax (l:List Fd):List Tm:=l.foldl (fun a f=>(qcv l f.1).foldl (fun b x=>qdm b (f.1,x)) a) []
def qdy (l:List Tm):Prop:=qaH (l.map qae)
theorem qfg {l:List Tm} {k:Nat} (hk:k<l.length):atT l k=l[k]:=by rw [atT,List.getD_eq_getElem?_getD,List.getElem?_eq_getElem hk];rfl
theorem qit {s t:Tm} (h:qae s=qae t) (h0:(0:UInt8)∉s.1) (h1:(0:UInt8)∉t.1):s=t:=by
 obtain ⟨e1,e2⟩:=qrO h h0 h1;exact Prod.ext e1 e2
theorem qlI {l:List Tm} {s t:Tm}:s∈qdm l t↔s∈l∨s=t:=by
 unfold qdm;split
 ·rename_i h
  rw [qis,Bool.and_eq_true,decide_eq_true_iff,decide_eq_true_iff] at h;have :=qg2 l t l.length;have hk:qbK l t l.length-1<l.length:=by omega
  rw [qfg hk] at h;constructor
  ·exact .inl
  ·rintro (h1|rfl)
   ·exact h1
   ·rw [<- h.2];exact List.getElem_mem hk
 ·rw [List.mem_append,List.mem_cons]
  conv=>rhs;rw [<- List.take_append_drop (qbK l t l.length) l,List.mem_append]
  constructor
  ·rintro (h|h|h)
   ·exact .inl (.inl h)
   ·exact .inr h
   ·exact .inl (.inr h)
  ·rintro ((h|h)|h)
   ·exact .inl h
   ·exact .inr (.inr h)
   ·exact .inr (.inl h)
theorem qr4 {l:List Tm} (h:qdy l) {i j:Nat} (hj:j<l.length) (hij:i<j):qae (atT l i)<qae (atT l j):=by
 have :=qd6 h (i:=i) (j:=j) (by simpa using hj) hij;rwa [qfg hj,qfg (by omega),<- List.getElem_map qae,<- List.getElem_map qae]
 all_goals simp <;>omega
theorem qr5 {l:List Tm} {t:Tm} (h:qdy l) (h0:∀ s∈l,(0:UInt8)∉s.1) (h1:(0:UInt8)∉t.1):qdy (qdm l t):=by
 unfold qdm;split
 ·exact h
 ·rename_i hh
  obtain ⟨k,hk⟩:∃ k,k=qbK l t l.length:=⟨_,rfl⟩;have hle:=qg2 l t l.length;have habove:∀ j,k<=j->j<l.length->qae t<qae (atT l j):=fun j a b=>qlH (k:=l.length) (by omega) b
  have hstop:0<k->¬ qae t<qae (atT l (k-1)):=fun a=>by rw [hk];exact qlG (by omega)
  rw [<- hk] at hh hle;rw [<- hk];have hlow:0<k->qae (atT l (k-1))<qae t:=fun a=>by
   rcases qdQ (qae (atT l (k-1))) (qae t) with e|e|e
   ·exact e
   ·refine absurd ?_ hh
    rw [qis,Bool.and_eq_true,decide_eq_true_iff,decide_eq_true_iff];have hk1:k-1<l.length:=by omega
    exact ⟨a,qit e (by rw [qfg hk1];exact h0 _ (List.getElem_mem hk1)) h1⟩
   ·exact absurd e (hstop a)
  unfold qdy qaH;rw [List.map_append,List.map_cons];have hp:List.Pairwise (· <·) (l.map qae):=h;refine List.pairwise_append.2 ⟨?_,List.pairwise_cons.2 ⟨?_,?_⟩,?_⟩
  ·exact hp.sublist ((List.take_sublist k l).map qae)
  ·intro x hx
   obtain ⟨s,hs,rfl⟩:=List.mem_map.1 hx;obtain ⟨j,hj,rfl⟩:=List.getElem_of_mem hs;rw [List.length_drop] at hj;have :=habove (k+j) (by omega) (by omega);rw [qfg (by omega)] at this;rwa [List.getElem_drop]
  ·exact hp.sublist ((List.drop_sublist k l).map qae)
  ·intro x hx y hy
   obtain ⟨s,hs,rfl⟩:=List.mem_map.1 hx;obtain ⟨i,hi,rfl⟩:=List.getElem_of_mem hs;rw [List.length_take] at hi;have hx:qae (atT l i)<qae t:=by
    by_cases e:i=k-1
    ·subst e;exact hlow (by omega)
    ·exact qcS (qr4 h (i:=i) (j:=k-1) (by omega) (by omega)) (hlow (by omega))
   rw [qfg (by omega)] at hx;rw [List.getElem_take];rcases List.mem_cons.1 hy with rfl|hy
   ·exact hx
   ·obtain ⟨s,hs,rfl⟩:=List.mem_map.1 hy
    obtain ⟨j,hj,rfl⟩:=List.getElem_of_mem hs;rw [List.length_drop] at hj;have :=habove (k+j) (by omega) (by omega);rw [qfg (by omega)] at this;rw [List.getElem_drop];exact qcS hx this
def qeq (l:List Fd):Nat:=(l.map fun f=>(qcv l f.1).length).sum
def qge (i:Nat):Nm:=[116+UInt8.ofNat i]
def qeO (i:Nat) (f:Fd):Fd:=(if qbm f.1=true then f.1 else qge i,f.2.take 40)
def qcB (l:List Fd):Nat->List Fd
 |0=>[]
 |k+1=>if qbd (qcB l k++[qeO k (l.getD k ([],[]))])=0 then qcB l k++[qeO k (l.getD k ([],[]))] else qcB l k
def qeP (l:List Fd):List Fd:=qcB l (min l.length 4)
theorem qlJ (l:List Fd):∀ k,qbd (qcB l k)=0
 |0=>rfl
 |k+1=>by
  rw [qcB];split
  ·rename_i h;exact h
  ·exact qlJ l k
theorem qr6 (l:List Fd):qbd (qeP l)=0:=qlJ _ _
theorem qiu (l:List Fd):∀ k,(qcB l k).length<=k
 |0=>Nat.le_refl _
 |k+1=>by
  have :=qiu l k;rw [qcB];split
  ·simp;omega
  ·omega
theorem qlK (i:Nat) (f:Fd):(qeO i f).2.length<=40:=by simp [qeO];omega
theorem qg3 (l:List Fd):∀ k,∀ f∈qcB l k,f.2.length<=40
 |0,f,h=>by cases h
 |k+1,f,h=>by
  rw [qcB] at h;split at h
  ·rcases List.mem_append.1 h with h|h
   ·exact qg3 l k f h
   ·rw [List.mem_singleton.1 h];exact qlK _ _
  ·exact qg3 l k f h
open Go.Sort
def qaI (base:Nat) (w:World) (v:Value) (l:List Nm):Prop:=w.ownsRow base 9 1 v l.length (qac l)
theorem qaI.below {base:Nat} {w w':World} {v:Value} {l:List Nm} (h:qaI base w v l) (hb:Below w.heap.size w w'):qaI base w' v l:=qao h hb
theorem qaI.low {base b:Nat} {w:World} {v:Value} {l:List Nm} (h:qaI base w v l) (hb:b<=base):qaI b w v l:=qbg h hb
theorem qaI.row {base:Nat} {w:World} {v:Value} {l:List Nm} (h:qaI base w v l):∃ A c,v= .slice A l.length c/\l.length<=c/\Row w w.heap.size A (qac l):=qaR h
theorem qaI.nil {base:Nat} {w:World}:qaI base w (.slice none 0 0) []:=World.ownsRow_nil _ _ _ _
def qeQ (l:List Nm) (w:World) (e:Ending) (w':World):Prop:=∃ v,e= .returned v/\qaI w.heap.size w' v l/\Below w.heap.size w w'
theorem qgf {x y:Nm}:Op.bytesLess x y=decide (x<y):=bytesLess_eq x y
theorem qer {w:World} {B:Nat} {A:Option Addr} {xs:List Nm} (h:Row w B A (qac xs)) {k:Nat} (hk:k<xs.length):
  ∃ b off,A=some ⟨b,off,none⟩/\b<B/\w.cell? ⟨b,off+k,none⟩=some (.string ⟨xs[k].toArray⟩):=qib h hk
theorem qbF (x:Nm):∃ t:ByteArray,t=⟨x.toArray⟩/\t.data.toList=x:=⟨_,rfl,rfl⟩
theorem qeR (x:Nm):(⟨x.toArray⟩:ByteArray).size=x.length:=List.size_toArray
theorem qr7 {s t:ByteArray} (h:s.data.toList<t.data.toList):Op.bytesLess s.toList t.toList=true:=by rw [Lib.toList_data,Lib.toList_data,qgf];exact decide_eq_true h
theorem qr8 {s t:ByteArray} (h:¬ s.data.toList<t.data.toList):Op.bytesLess s.toList t.toList=false:=by rw [Lib.toList_data,Lib.toList_data,qgf];exact decide_eq_false h
theorem qiv {s t:ByteArray} (h:s.data.toList=t.data.toList):(s.toList==t.toList)=true:=by rw [Lib.toList_data,Lib.toList_data,h];exact beq_self_eq_true _
theorem qiw {s t:ByteArray} (h:s.data.toList≠t.data.toList):(s.toList==t.toList)=false:=by rw [Lib.toList_data,Lib.toList_data];simpa using h
theorem qix (a b:List Nm):qac (a++b)=qac a++qac b:=by simp [qac]
theorem Row.dropped {w:World} {B b off:Nat} {l:List Nm} (h:Row w B (some ⟨b,off,none⟩) (qac l)) (k:Nat):Row w B (some ⟨b,off+k,none⟩) (qac (l.drop k)):=by
 rcases h with h|⟨b',o',e,hb,hc⟩
 ·refine .inl ?_
  have :l=[]:=by simpa [qac] using h
  simp [this,qac]
 ·injection e with e
  injection e with e1 e2
  subst e1 e2;refine .inr ⟨b,off+k,rfl,hb,fun j u hu=> ?_⟩;have :=hc (k+j) u (by rw [<- hu];simp [qac]);rwa [<- Nat.add_assoc] at this
theorem qr9 (l:List Nm):∀ u∈qac l,u.oneCell'=true:=by
 intro u hu;obtain ⟨x,_,rfl⟩:=List.mem_map.1 hu;rfl
theorem Row.later {w w':World} {A:Option Addr} {xs:List Value} (h:Row w w.heap.size A xs) (hb:Below w.heap.size w w'):Row w' w'.heap.size A xs:=(h.below hb).more hb.size
def flds:List Fd->List Value
 |[]=>[]
 |f::l=> .string ⟨f.1.toArray⟩:: .string ⟨f.2.toArray⟩::flds l
theorem qfh:∀ l:List Fd,(flds l).length=l.length*2
 |[]=>rfl
 |f::l=>by simp only [flds,List.length_cons,qfh l];omega
theorem qg4:∀ a b:List Fd,flds (a++b)=flds a++flds b
 |[],_=>rfl
 |f::a,b=>by simp [flds,qg4 a b]
theorem qiy:∀ {l:List Fd} {k:Nat} (hk:k<l.length),(flds l)[k*2]?=some (.string ⟨l[k].1.toArray⟩)/\(flds l)[k*2+1]?=some (.string ⟨l[k].2.toArray⟩)
 |[],_,h=>by simp at h
 |f::l,0,_=>⟨rfl,rfl⟩
 |f::l,k+1,h=>by
  have :=qiy (l:=l) (k:=k) (by simpa using h);rw [show (k+1)*2=k*2+1+1 by omega];simpa [flds] using this
theorem qlL:∀ (l:List Fd) (k:Nat),flds (l.take k)=(flds l).take (k*2)
 |l,0=>by simp [flds]
 |[],k+1=>by simp [flds]
 |f::l,k+1=>by rw [show (k+1)*2=k*2+1+1 by omega];simp [flds,qlL l k]
theorem qiz:∀ (l:List Fd),∀ u∈flds l,u.oneCell'=true
 |[],u,h=>by cases h
 |f::l,u,h=>by
  simp only [flds,List.mem_cons] at h;rcases h with rfl|rfl|h
  ·rfl
  ·rfl
  ·exact qiz l u h
def qaB (w:World) (B:Nat) (A:Option Addr) (l:List Fd):Prop:=Row w B A (flds l)
theorem qaB.below {w w':World} {B:Nat} {A:Option Addr} {l:List Fd} (h:qaB w B A l) (hb:Below B w w'):qaB w' B A l:=Row.below h hb
theorem qaB.more {w:World} {B B':Nat} {A:Option Addr} {l:List Fd} (h:qaB w B A l) (hB:B<=B'):qaB w B' A l:=Row.more h hB
theorem qaB.nil {w:World} {B:Nat} {A:Option Addr}:qaB w B A []:=Row.nil
theorem qaB.later {w w':World} {A:Option Addr} {l:List Fd} (h:qaB w w.heap.size A l) (hb:Below w.heap.size w w'):qaB w' w'.heap.size A l:=(h.below hb).more hb.size
theorem qaB.at_ {w:World} {B:Nat} {A:Option Addr} {l:List Fd} (h:qaB w B A l) {k:Nat} (hk:k<l.length):
  ∃ b off,A=some ⟨b,off,none⟩/\b<B/\w.cell? ⟨b,off+k*2,none⟩=some (.string ⟨l[k].1.toArray⟩)/\w.cell? ⟨b,off+k*2+1,none⟩=some (.string ⟨l[k].2.toArray⟩):=by
 obtain ⟨b,off,rfl,hb,hc⟩:=Row.at_ h (by rw [qfh];omega);obtain ⟨g1,g2⟩:=qiy hk;exact ⟨b,off,rfl,hb,hc _ _ g1,by have :=hc _ _ g2;rwa [<- Nat.add_assoc] at this⟩
abbrev qcU (id:Int) (A:Option Addr) (n c:Nat):Value:= .agg #[.int .i64 id,.slice A n c]
theorem qlM:(Tryz.prog.info? 121).map (fun i=>(i.zero,i.size,i.bytes))=some (some (.agg #[.string ByteArray.empty,.string ByteArray.empty]),2,32):=by kernel_rfl
def qbL (base:Nat) (w:World) (v:Value) (l:List Tm):Prop:=w.ownsRow base 69 2 v l.length (flds l)
def qaG (base:Nat) (w:World) (v:Value) (l:List Fd):Prop:=w.ownsRow base 121 2 v l.length (flds l)
theorem qbL.below {base:Nat} {w w':World} {v:Value} {l:List Tm} (h:qbL base w v l) (hb:Below w.heap.size w w'):qbL base w' v l:=qao h hb
theorem qbL.low {base b:Nat} {w:World} {v:Value} {l:List Tm} (h:qbL base w v l) (hb:b<=base):qbL b w v l:=qbg h hb
theorem qbL.row {base:Nat} {w:World} {v:Value} {l:List Tm} (h:qbL base w v l):∃ A c,v= .slice A l.length c/\l.length<=c/\qaB w w.heap.size A l:=qaR h
theorem qbL.nil {base:Nat} {w:World}:qbL base w (.slice none 0 0) []:=World.ownsRow_nil _ _ _ _
theorem qaG.below {base:Nat} {w w':World} {v:Value} {l:List Fd} (h:qaG base w v l) (hb:Below w.heap.size w w'):qaG base w' v l:=qao h hb
theorem qaG.low {base b:Nat} {w:World} {v:Value} {l:List Fd} (h:qaG base w v l) (hb:b<=base):qaG b w v l:=qbg h hb
theorem qaG.row {base:Nat} {w:World} {v:Value} {l:List Fd} (h:qaG base w v l):∃ A c,v= .slice A l.length c/\l.length<=c/\qaB w w.heap.size A l:=qaR h
theorem qaG.nil {base:Nat} {w:World}:qaG base w (.slice none 0 0) []:=World.ownsRow_nil _ _ _ _
theorem qaB.cut {w:World} {B:Nat} {A:Option Addr} {l:List Fd} (h:qaB w B A l) (k:Nat):qaB w B A (l.take k):=by
 have :=Row.cut h (k*2);rwa [<- qlL] at this
theorem qsa (w:World) (x:Fd) (t:TypeId):qaB (w.alloc (.cells #[.string ⟨x.1.toArray⟩,.string ⟨x.2.toArray⟩] t)) (w.alloc (.cells #[.string ⟨x.1.toArray⟩,.string ⟨x.2.toArray⟩] t)).heap.size (some ⟨w.heap.size,0,none⟩) [x]:=by
 refine .inr ⟨w.heap.size,0,rfl,by simp,fun j u hu=> ?_⟩;have :=qaO w (flds [x]) t j u hu;rw [Addr.add_lit] at this;exact this
theorem qsb:(Tryz.prog.info? 69).map (fun i=>(i.zero,i.size,i.bytes))=some (some (.agg #[.string ByteArray.empty,.string ByteArray.empty]),2,32):=by kernel_rfl
theorem qlN {ops:Array Oper} {rest:List Oper} {o:Oper} {a:Act} {Q:Exit->Act->World->Prop} (w:World) (hgd:o.guard=none) (s x:Operand)
  (ho:o.op= .call {callee:= .builtin .append,args:=#[s,x],argTypes:=#[57,57]})
  (base:Nat) (v:Value) (l:List Fd) (hs:a.eval s=v) (hown:qaG base w v l) (A:Option Addr) (m c:Nat) (news:List Fd) (hx:a.eval x= .slice A m c) (hl:news.length=m) (hr:qaB w w.heap.size A news)
  (hlen:l.length+m<=1073741824) (hbase:base<=w.heap.size)
  (h:∀ v' w',qaG base w' v' (l++news)->Below base w w'->w.grownBy w' v.ownBlock->wpList Tryz.prog ops Q rest (a.put o.dst v') w'):wpList Tryz.prog ops Q (o::rest) a w:=by
 obtain ⟨i0,hi0,hz0,hz1,hz2⟩:=info_parts qlM;refine qfz w hgd s x 57 ho base 121 i0 _ 2 32 Tryz.underlying57 hi0 hz0 hz1 hz2 rfl (by decide) v l.length (flds l) hs hown w.heap.size A m c (flds news) hx (by rw [qfh,hl]) hr (qiz _) (by unfold maxLen;omega) (by omega) hbase fun v' w' h1 h2=>h v' w' ?_ ?_ h2
 ·unfold qaG
  rw [List.length_append,hl,qg4];exact h1
 ·exact (Below.refl base w).grown h2 hbase fun k hk=>(hown.lt k hk).1
def qbY (s:Nm):Nat->List Nm->List (Tm × Int)
 |_,[]=>[]
 |i,x::l=>((s,x),(i:Int))::qbY s (i+1) l
theorem qlO (s:Nm):∀ (l:List Nm) (i:Nat) (x:Nm),qbY s i (l++[x])=qbY s i l++[((s,x),((i+l.length:Nat):Int))]
 |[],i,x=>rfl
 |y::l,i,x=>by
  rw [List.cons_append,qbY,qbY,qlO s l (i+1) x,List.cons_append,List.length_cons,Nat.add_assoc,Nat.add_comm 1]
theorem qsc (s:Nm) {l:List Nm} {k:Nat} (hk:k<l.length):qbY s 0 (l.take (k+1))=qbY s 0 (l.take k)++[((s,l[k]),(k:Int))]:=by
 rw [List.take_succ_eq_append_getElem hk,qlO,List.length_take,Nat.zero_add,Nat.min_eq_left (by omega)]
theorem qgg (s:Nm):∀ (l:List Nm) (i:Nat),(qbY s i l).length=l.length
 |[],_=>rfl
 |x::l,i=>by rw [qbY,List.length_cons,qgg s l,List.length_cons]
def qaT:List Fd->List (Tm × Int)
 |[]=>[]
 |f::l=>qbY f.1 0 (qaL f.2)++qaT l
theorem qlP:∀ (l:List Fd) (f:Fd),qaT (l++[f])=qaT l++qbY f.1 0 (qaL f.2)
 |[],f=>by simp [qaT]
 |g::l,f=>by rw [List.cons_append,qaT,qaT,qlP l f,List.append_assoc]
theorem qsd {l:List Fd} {k:Nat} (hk:k<l.length):qaT (l.take (k+1))=qaT (l.take k)++qbY l[k].1 0 (qaL l[k].2):=by
 rw [List.take_succ_eq_append_getElem hk,qlP]
abbrev Gr:=Tm × List Int
def qbs:List Gr->Tm->Int->List Gr
 |[],t,a=>[(t,[a])]
 |p::g,t,a=>if p.1=t then (p.1,p.2++[a])::g else p::qbs g t a
def qcC (s:List (Tm × Int)):List Gr:=s.foldl (fun g p=>qbs g p.1 p.2) []
theorem qse (s:List (Tm × Int)) (t:Tm) (a:Int):qcC (s++[(t,a)])=qbs (qcC s) t a:=by
 unfold qcC;rw [List.foldl_append];rfl
def qa8:List Gr->Tm->List Int
 |[],_=>[]
 |p::g,t=>if p.1=t then p.2 else qa8 g t
theorem qlQ (t u:Tm) (a:Int):∀ g:List Gr,qa8 (qbs g t a) u=if t=u then qa8 g u++[a] else qa8 g u
 |[]=>by by_cases h:t=u<;>simp [qbs,qa8,h]
 |p::g=>by
  rw [qbs];by_cases h1:p.1=t
  ·rw [if_pos h1,qa8,qa8]
   by_cases h2:t=u
   ·rw [if_pos h2,if_pos (h1.trans h2),if_pos (h1.trans h2)]
   ·rw [if_neg h2,if_neg (fun e=>h2 (h1.symm.trans e)),if_neg (fun e=>h2 (h1.symm.trans e))]
  ·rw [if_neg h1,qa8,qa8,qlQ t u a g]
   by_cases h2:p.1=u
   ·rw [if_pos h2,if_pos h2,if_neg (fun e=>h1 (h2.trans e.symm))]
   ·rw [if_neg h2,if_neg h2]
def qc4 (s:List (Tm × Int)) (t:Tm):List Int:=(s.filter fun p=>decide (p.1=t)).map (·.2)
theorem qlR (t:Tm):∀ (s:List (Tm × Int)) (g:List Gr),qa8 (s.foldl (fun g p=>qbs g p.1 p.2) g) t=qa8 g t++qc4 s t
 |[],g=>by simp [qc4]
 |p::s,g=>by
  rw [List.foldl_cons,qlR t s,qlQ];unfold qc4;by_cases h:p.1=t<;>simp [h]
theorem qlS (s:List (Tm × Int)) (t:Tm):qa8 (qcC s) t=qc4 s t:=by
 rw [qcC,qlR];rfl
theorem qiA (t:Tm) (a:Int):∀ g:List Gr,(qbs g t a).map (·.1)=if t∈g.map (·.1) then g.map (·.1) else g.map (·.1)++[t]
 |[]=>rfl
 |p::g=>by
  have ih:=qiA t a g;rw [qbs];by_cases h:p.1=t
  ·rw [if_pos h,if_pos (by simp [h])]
   rfl
  ·rw [if_neg h,List.map_cons,ih,List.map_cons]
   by_cases h2:t∈g.map (·.1)
   ·rw [if_pos h2,if_pos (List.mem_cons_of_mem _ h2)]
   ·rw [if_neg h2,if_neg]
    ·rfl
    ·intro h3
     rcases List.mem_cons.1 h3 with h3|h3
     ·exact h h3.symm
     ·exact h2 h3
theorem qsf {g:List Gr} (h:(g.map (·.1)).Nodup) (t:Tm) (a:Int):((qbs g t a).map (·.1)).Nodup:=by
 rw [qiA];split
 ·exact h
 ·rename_i hn
  rw [List.nodup_append];exact ⟨h,by simp,fun x hx y hy e=>hn (by rw [List.mem_singleton] at hy;rw [<- hy,<- e];exact hx)⟩
theorem qiB:∀ (s:List (Tm × Int)) (g:List Gr),(g.map (·.1)).Nodup->((s.foldl (fun g p=>qbs g p.1 p.2) g).map (·.1)).Nodup/\∀ t,t∈(s.foldl (fun g p=>qbs g p.1 p.2) g).map (·.1)↔t∈g.map (·.1)∨t∈s.map (·.1)
 |[],g,h=>⟨h,by simp⟩
 |p::s,g,h=>by
  obtain ⟨h1,h2⟩:=qiB s (qbs g p.1 p.2) (qsf h _ _);refine ⟨h1,fun t=> ?_⟩;rw [List.foldl_cons,h2,qiA,List.map_cons,List.mem_cons];split
  ·rename_i hp
   constructor
   ·rintro (h|h)
    ·exact .inl h
    ·exact .inr (.inr h)
   ·rintro (h|rfl|h)
    ·exact .inl h
    ·exact .inl hp
    ·exact .inr h
  ·rw [List.mem_append,List.mem_singleton,or_assoc]
theorem qsg (s:List (Tm × Int)):((qcC s).map (·.1)).Nodup:=(qiB s [] (by simp)).1
theorem qlT (s:List (Tm × Int)) (t:Tm):t∈(qcC s).map (·.1)↔t∈s.map (·.1):=by
 rw [qcC,(qiB s [] (by simp)).2];simp
def qdn (l:List Fd):Prop:=l.Pairwise fun f g=>f.1≠g.1
theorem qg5 {l:List Fd} (h:qdn l) {f:Fd} (hf:f∈l):qcv l f.1=qaL f.2:=by
 induction l with
 |nil=>cases hf
 |cons g l ih=>
  rw [qdn,List.pairwise_cons] at h;rw [qcv];rcases List.mem_cons.1 hf with rfl|hf
  ·exact if_pos rfl
  ·rw [if_neg (h.1 f hf)]
   exact ih h.2 hf
theorem qlU {l:List Fd} {s:Nm} (h:∀ f∈l,f.1≠s):qcv l s=[]:=by
 induction l with
 |nil=>rfl
 |cons g l ih=>
  rw [qcv,if_neg (h g (List.mem_cons_self ..))];exact ih fun f hf=>h f (List.mem_cons_of_mem _ hf)
theorem qsh (a b:List (Tm × Int)) (t:Tm):qc4 (a++b) t=qc4 a t++qc4 b t:=by simp [qc4]
theorem qlV (s:Nm) (t:Tm):∀ (l:List Nm) (i:Nat),qc4 (qbY s i l) t=if s=t.1 then qcT i l t.2 else []
 |[],i=>by simp [qbY,qc4,qcT]
 |x::l,i=>by
  have ih:=qlV s t l (i+1);rw [qbY];unfold qc4 at ih ⊢;rw [List.filter_cons];obtain ⟨t1,t2⟩:=t;simp only [Prod.mk.injEq] at ih ⊢;by_cases h1:s=t1
  ·rw [if_pos h1] at ih ⊢
   rw [qcT];by_cases h2:x=t2
   ·rw [if_pos h2,if_pos (by simp [h1,h2]),List.map_cons,ih]
   ·rw [if_neg h2,if_neg (by simp [h2]),ih]
  ·rw [if_neg h1] at ih ⊢
   rw [if_neg (by simp [h1]),ih]
theorem qlW {l:List Fd} (h:qdn l) (t:Tm):qc4 (qaT l) t=qaZ l t:=by
 induction l with
 |nil=>rfl
 |cons f l ih=>
  rw [qdn,List.pairwise_cons] at h;rw [qaT,qsh,qlV,ih h.2];unfold qaZ;rw [qcv];by_cases h1:f.1=t.1
  ·rw [if_pos h1,if_pos h1,qlU (fun g hg e=>h.1 g hg (h1.trans e.symm)),qcT,List.append_nil]
  ·rw [if_neg h1,if_neg h1,List.nil_append]
theorem qlX (s:Nm) (t:Tm):∀ (l:List Nm) (i:Nat),t∈(qbY s i l).map (·.1)↔t.1=s/\t.2∈l
 |[],i=>by simp [qbY]
 |x::l,i=>by
  rw [qbY,List.map_cons,List.mem_cons,qlX s t l,List.mem_cons];obtain ⟨t1,t2⟩:=t;simp only [Prod.mk.injEq];constructor
  ·rintro (⟨h1,h2⟩|⟨h1,h2⟩)
   ·exact ⟨h1,.inl h2⟩
   ·exact ⟨h1,.inr h2⟩
  ·rintro ⟨h1,h2|h2⟩
   ·exact .inl ⟨h1,h2⟩
   ·exact .inr ⟨h1,h2⟩
theorem qgh (t:Tm):∀ l:List Fd,t∈(qaT l).map (·.1)↔∃ f∈l,t.1=f.1/\t.2∈qaL f.2
 |[]=>by simp [qaT]
 |f::l=>by rw [qaT,List.map_append,List.mem_append,qlX,qgh t l];simp
theorem qiC (s:Nm) (t:Tm):∀ (ws:List Nm) (a:List Tm),t∈ws.foldl (fun b x=>qdm b (s,x)) a↔t∈a∨(t.1=s/\t.2∈ws)
 |[],a=>by simp
 |x::ws,a=>by
  rw [List.foldl_cons,qiC s t ws,qlI,List.mem_cons];obtain ⟨t1,t2⟩:=t;simp only [Prod.mk.injEq];constructor
  ·rintro ((h|⟨h1,h2⟩)|⟨h1,h2⟩)
   ·exact .inl h
   ·exact .inr ⟨h1,.inl h2⟩
   ·exact .inr ⟨h1,.inr h2⟩
  ·rintro (h|⟨h1,h2|h2⟩)
   ·exact .inl (.inl h)
   ·exact .inl (.inr ⟨h1,h2⟩)
   ·exact .inr ⟨h1,h2⟩
theorem qlY (l:List Fd) (t:Tm):∀ (m:List Fd) (a:List Tm),t∈m.foldl (fun a f=>(qcv l f.1).foldl (fun b x=>qdm b (f.1,x)) a) a↔t∈a∨∃ f∈m,t.1=f.1/\t.2∈qcv l f.1
 |[],a=>by simp
 |f::m,a=>by
  rw [List.foldl_cons,qlY l t m,qiC];simp [or_assoc]
theorem qg6 {l:List Fd} (h:qdn l) (t:Tm):t∈qax l↔t∈(qaT l).map (·.1):=by
 rw [qax,qlY,qgh];simp only [List.not_mem_nil,false_or];constructor
 ·rintro ⟨f,hf,h1,h2⟩;exact ⟨f,hf,h1,by rwa [qg5 h hf] at h2⟩
 ·rintro ⟨f,hf,h1,h2⟩;exact ⟨f,hf,h1,by rwa [qg5 h hf]⟩
def qeS (l:List Fd):Prop:=∀ f∈l,(0:UInt8)∉f.1
theorem qlZ {s:Nm} (h0:(0:UInt8)∉s):∀ (ws:List Nm) (a:List Tm),qdy a->(∀ t∈a,(0:UInt8)∉t.1)->qdy (ws.foldl (fun b x=>qdm b (s,x)) a)
 |[],a,h,_=>h
 |x::ws,a,h,hz=>qlZ h0 ws _ (qr5 h hz h0) fun t ht=>by
  rcases qlI.1 ht with ht|rfl
  ·exact hz t ht
  ·exact h0
theorem ql0 (l:List Fd):∀ (m:List Fd) (a:List Tm),qeS m->qdy a->(∀ t∈a,(0:UInt8)∉t.1)->qdy (m.foldl (fun a f=>(qcv l f.1).foldl (fun b x=>qdm b (f.1,x)) a) a)
 |[],a,_,h,_=>h
 |f::m,a,hm,h,hz=>ql0 l m _ (fun g hg=>hm g (List.mem_cons_of_mem _ hg)) (qlZ (hm f (List.mem_cons_self ..)) _ _ h hz) fun t ht=>by
  rcases (qiC f.1 t _ _).1 ht with ht|⟨ht,_⟩
  ·exact hz t ht
  ·rw [ht];exact hm f (List.mem_cons_self ..)
theorem ql1 {l:List Fd} (h:qeS l):qdy (qax l):=ql0 l l [] h (by simp [qdy,qaH]) (by simp)
theorem ql2 {l:List Fd} (ha:qdn l) (h:qeS l) {t:Tm} (ht:t∈qax l):(0:UInt8)∉t.1:=by
 obtain ⟨f,hf,h1,_⟩:=(qgh t l).1 ((qg6 ha t).1 ht);rw [h1];exact h f hf
theorem qsi {l:List Fd} (ha:qdn l) (h0:qeS l) {ts:List Tm} (hp:ts.Perm ((qcC (qaT l)).map (·.1))) (hs:ts.Pairwise fun s t=>¬ qae t<qae s):ts=qax l:=by
 have hmem:∀ t,t∈ts↔t∈qax l:=fun t=>by rw [hp.mem_iff,qlT,qg6 ha]
 have hz:∀ t∈ts,(0:UInt8)∉t.1:=fun t ht=>ql2 ha h0 ((hmem t).1 ht)
 have hnd:ts.Nodup:=hp.nodup_iff.2 (qsg _);have hr:qdy ts:=by
  unfold qdy qaH;rw [List.pairwise_map];have h1:ts.Pairwise fun s t=>s∈ts/\t∈ts/\s≠t:=by
   rw [List.pairwise_iff_getElem];intro i j hi hj hij;exact ⟨List.getElem_mem hi,List.getElem_mem hj,fun e=>by have :=(List.getElem_inj hnd).1 e;omega⟩
  refine (hs.and h1).imp fun {s t} h=> ?_
  obtain ⟨h2,h3,h4,h5⟩:=h;rcases qdQ (qae s) (qae t) with e|e|e
  ·exact e
  ·exact absurd (qit e (hz s h3) (hz t h4)) h5
  ·exact absurd e h2
 have h2:ts.map qae=(qax l).map qae:=qg0 hr (ql1 h0) fun k=>by
  simp only [List.mem_map];constructor
  ·rintro ⟨t,ht,rfl⟩;exact ⟨t,(hmem t).1 ht,rfl⟩
  ·rintro ⟨t,ht,rfl⟩;exact ⟨t,(hmem t).2 ht,rfl⟩
 have hlen:ts.length=(qax l).length:=by simpa using congrArg List.length h2
 refine List.ext_getElem hlen fun i h3 h4=> ?_
 refine qit ?_ (hz _ (List.getElem_mem h3)) (ql2 ha h0 (List.getElem_mem h4));have h5:=List.getElem_of_eq h2 (i:=i) (by simpa using h3);simpa using h5
theorem ql3 {l:List Fd} (h:qdn l):(qaT l).length=qeq l:=by
 have h1:∀ m:List Fd,(∀ f∈m,f∈l)->(qaT m).length=(m.map fun f=>(qcv l f.1).length).sum:=by
  intro m
  induction m with
  |nil=>intro _;rfl
  |cons f m ih=>
   intro hm;rw [qaT,List.length_append,qgg,ih fun g hg=>hm g (List.mem_cons_of_mem _ hg),List.map_cons,List.sum_cons,qg5 h (hm f (List.mem_cons_self ..))]
 exact h1 l fun f hf=>hf
theorem ql4:∀ {l:List Fd} {seen:List Nm} {n:Nat},qc3 seen n l=0->(∀ f∈l,qbm f.1=true/\f.1∉seen)/\qdn l/\n+(l.map fun f=>(qaL f.2).length).sum<=500
 |[],seen,n,h=>by
  rw [qc3] at h;split at h
  ·cases h
  ·exact ⟨by simp,List.Pairwise.nil,by simp;omega⟩
 |f::l,seen,n,h=>by
  rw [qc3] at h;split at h
  ·cases h
  ·rename_i h1
   split at h
   ·cases h
   ·rename_i h2
    split at h
    ·rename_i h3;exact absurd h h3
    ·obtain ⟨g1,g2,g3⟩:=ql4 h
     refine ⟨fun g hg=> ?_,List.pairwise_cons.2 ⟨fun g hg e=>(g1 g hg).2 (by rw [<- e];simp),g2⟩,by rw [List.map_cons,List.sum_cons];omega⟩;rcases List.mem_cons.1 hg with rfl|hg
     ·exact ⟨by simpa using h1,h2⟩
     ·exact ⟨(g1 g hg).1,fun e=>(g1 g hg).2 (List.mem_append_left _ e)⟩
theorem qsj {l:List Fd} (h:qbd l=0):l.length<=8/\(∀ f∈l,qbm f.1=true)/\qdn l/\qeS l/\qeq l<=500:=by
 unfold qbd at h;split at h
 ·cases h
 ·rename_i h8
  obtain ⟨g1,g2,g3⟩:=ql4 h;refine ⟨by omega,fun f hf=>(g1 f hf).1,g2,fun f hf=>qr3 (g1 f hf).1,?_⟩;rw [<- ql3 g2];have :∀ m:List Fd,(qaT m).length=(m.map fun f=>(qaL f.2).length).sum:=by
   intro m
   induction m with
   |nil=>rfl
   |cons f m ih=>rw [qaT,List.length_append,qgg,ih,List.map_cons,List.sum_cons]
  rw [this];omega
theorem qg7 (x:Nm):∀ (l:List Nm) (i:Nat),∀ a∈qcT i l x,(i:Int)<=a
 |[],i,a,h=>by cases h
 |y::l,i,a,h=>by
  rw [qcT] at h;split at h
  ·rcases List.mem_cons.1 h with rfl|h
   ·exact Int.le_refl _
   ·have :=qg7 x l (i+1) a h;omega
  ·have :=qg7 x l (i+1) a h;omega
theorem qiD (x:Nm):∀ (l:List Nm) (i:Nat),(qcT i l x).Pairwise (· <·)
 |[],i=>List.Pairwise.nil
 |y::l,i=>by
  rw [qcT];split
  ·exact List.pairwise_cons.2 ⟨fun a ha=>by have :=qg7 x l (i+1) a ha;omega,qiD x l (i+1)⟩
  ·exact qiD x l (i+1)
theorem ql5 (x:Nm) (a:Int):∀ (l:List Nm) (i:Nat),a∈qcT i l x↔∃ k:Nat,a=((i+k:Nat):Int)/\l[k]?=some x
 |[],i=>by simp [qcT]
 |y::l,i=>by
  rw [qcT];have ih:=ql5 x a l (i+1);constructor
  ·intro h
   split at h
   ·rename_i hy
    rcases List.mem_cons.1 h with rfl|h
    ·exact ⟨0,by simp,by simp [hy]⟩
    ·obtain ⟨k,h1,h2⟩:=ih.1 h
     exact ⟨k+1,by rw [h1];congr 1;omega,by simpa using h2⟩
   ·obtain ⟨k,h1,h2⟩:=ih.1 h
    exact ⟨k+1,by rw [h1];congr 1;omega,by simpa using h2⟩
  ·rintro ⟨k,h1,h2⟩
   cases k with
   |zero=>
    have :y=x:=by simpa using h2
    rw [if_pos this];exact List.mem_cons.2 (.inl (by simpa using h1))
   |succ k=>
    have :=ih.2 ⟨k,by rw [h1];congr 1;omega,by simpa using h2⟩;split
    ·exact List.mem_cons_of_mem _ this
    ·exact this
end Go.Proofs.YtpehcaidjlemiaaGreatDoor
