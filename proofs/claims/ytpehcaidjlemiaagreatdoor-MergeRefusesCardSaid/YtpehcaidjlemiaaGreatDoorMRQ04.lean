import Derived.Test.YtpehcaidjlemiaaGreatDoorMRQ03
import Derived.Test.YtpehcaidjlemiaaGreatDoorProg
import Derived.Test.YtpehcaidjlemiaaGreatDoorMRQ01
import Derived.Lib.Hide
import Derived.BigQuiet
import Derived.Deep.QuietTactic
import Derived.Sort.Walk0
import Derived.Lib.RowBridge
import Derived.Lib.SlicesCompact
import Derived.Lib.BitFns
import Derived.Lib.Strings
import Derived.Sort.OwnSorted
import Derived.Deep.AppendLies
set_option linter.unusedVariables false
namespace Go.Proofs.YtpehcaidjlemiaaGreatDoor
open Go Go.RowKit
def qby:Nat->List (List UInt8)->Int
 |_,[]=>0
 |i,w::ws=>if 30<w.length then 3 else if 500<=i then 7 else qby (i+1) ws
def qdH:Nat->List (List UInt8)->List Value
 |_,[]=>[]
 |i,w::ws=> .string ⟨w.toArray⟩:: .int .i64 i::qdH (i+1) ws
theorem qlq:∀ (a:List (List UInt8)) (i:Nat) (b:List (List UInt8)),qdH i (a++b)=qdH i a++qdH (i+a.length) b
 |[],i,b=>by simp [qdH]
 |w::a,i,b=>by
  simp only [List.cons_append,qdH,qlq a,List.length_cons];rw [show i+1+a.length=i+(a.length+1) by omega]
theorem qlr {ws:List (List UInt8)} {k:Nat} (hk:k<ws.length):qdH 0 (ws.take (k+1))=qdH 0 (ws.take k)++[.string ⟨ws[k].toArray⟩,.int .i64 k]:=by
 rw [List.take_succ_eq_append_getElem hk,qlq,List.length_take,Nat.zero_add,Nat.min_eq_left (by omega)];rfl
theorem qls {ws:List (List UInt8)} {k:Nat} (hk:k<ws.length):qby k (ws.drop k)=if 30<ws[k].length then 3 else if 500<=k then 7 else qby (k+1) (ws.drop (k+1)):=by
 rw [List.drop_eq_getElem_cons hk,qby]
theorem qlt:(Tryz.prog.info? 245).map (fun i=>(i.zero,i.size,i.bytes))=some (some (.agg #[.string ByteArray.empty,.int .i64 0]),2,24):=by kernel_rfl
def qeI (ws:List (List UInt8)) (w:World) (e:Ending) (w':World):Prop:=
 ∃ v,e= .returned (.tuple #[v,.int .i64 (qby 0 ws)])/\(qby 0 ws=0->w'.ownsRow w.heap.size 245 2 v ws.length (qdH 0 ws))/\(qby 0 ws≠0->v= .slice none 0 0)/\Below w.heap.size w w'
def qlu (ws:List (List UInt8)) (w1:World) (a b o i:Value) (wr:World):Prop:=
 ∃ (k:Nat) (vo:Value),vo=o/\a= .slice none 0 0/\b= .int .i64 0/\k<=ws.length/\k<=500/\i= .int .i64 k/\wr.ownsRow w1.heap.size 245 2 o k (qdH 0 (ws.take k))/\Below w1.heap.size w1 wr/\qby k (ws.drop k)=qby 0 ws
def qdy (f g:List UInt8):List UInt8:=f++0::g
theorem qrY {f g f' g':List UInt8} (h:qdy f g=qdy f' g') (h0:(0:UInt8)∉f) (h1:(0:UInt8)∉f'):f=f'/\g=g':=by
 induction f generalizing f' with
 |nil=>
  cases f' with
  |nil=>simp [qdy] at h;exact ⟨rfl,h⟩
  |cons b f'=>simp [qdy] at h;exact absurd (by rw [<- h.1];exact List.mem_cons_self ..) h1
 |cons a f ih=>
  cases f' with
  |nil=>simp [qdy] at h;exact absurd (by rw [h.1];exact List.mem_cons_self ..) h0
  |cons b f'=>
   simp only [qdy,List.cons_append,List.cons.injEq] at h;obtain ⟨h2,h3⟩:=ih (f':=f') h.2 (fun e=>h0 (List.mem_cons_of_mem _ e)) (fun e=>h1 (List.mem_cons_of_mem _ e));exact ⟨by rw [h.1,h2],h3⟩
def qen (f g:ByteArray):ByteArray:=f++⟨#[0]⟩++g
theorem qil (f g:ByteArray):(qen f g).data.toList=qdy f.data.toList g.data.toList:=by simp [qen,qdy]
abbrev Nm:=List UInt8
theorem qim {a:UInt8} {x:Nm}:([]:Nm)<a::x:=by simp
theorem qin {x:Nm}:¬ x<([]:Nm):=by simp
theorem qgU {a b:UInt8} {x y:Nm}:a::x<b::y↔a<b∨a=b/\x<y:=List.cons_lt_cons_iff
theorem qrZ (a:UInt8):¬ a<a:=by rw [UInt8.lt_iff_toNat_lt];omega
theorem qeo:∀ x:Nm,¬ x<x
 |[]=>qin
 |a::x=>by
  rw [qgU];rintro (h|⟨_,h⟩)
  ·exact qrZ a h
  ·exact qeo x h
theorem qcR:∀ {x y z:Nm},x<y->y<z->x<z
 |_,[],_,h,_=>absurd h qin
 |_,_::_,[],_,h=>absurd h qin
 |[],_::_,_::_,_,_=>qim
 |a::x,b::y,c::z,h,k=>by
  rw [qgU] at h k ⊢;rcases h with h|⟨rfl,h⟩
  ·rcases k with k|⟨rfl,k⟩
   ·left;rw [UInt8.lt_iff_toNat_lt] at*;omega
   ·exact .inl h
  ·rcases k with k|⟨rfl,k⟩
   ·exact .inl k
   ·exact .inr ⟨rfl,qcR h k⟩
theorem qdR:∀ x y:Nm,x<y∨x=y∨y<x
 |[],[]=> .inr (.inl rfl)
 |[],_::_=> .inl qim
 |_::_,[]=> .inr (.inr qim)
 |a::x,b::y=>by
  rw [qgU,qgU];by_cases h1:a<b
  ·exact .inl (.inl h1)
  ·by_cases h2:b<a
   ·exact .inr (.inr (.inl h2))
   ·have e:a=b:=by
     rw [UInt8.lt_iff_toNat_lt] at h1 h2;exact UInt8.toNat_inj.1 (by omega)
    subst e;rcases qdR x y with h|rfl|h
    ·exact .inl (.inr ⟨rfl,h⟩)
    ·exact .inr (.inl rfl)
    ·exact .inr (.inr (.inr ⟨rfl,h⟩))
theorem qf6 {x y:Nm} (h:x<y):¬ y<x:=fun k=>qeo x (qcR h k)
theorem qio {x y:Nm} (h:x<y):x≠y:=fun e=>qeo y (e▸h)
theorem qr0 {x y z:Nm} (h:¬ y<x) (k:y<z):x<z:=by
 rcases qdR x y with h1|rfl|h1
 ·exact qcR h1 k
 ·exact k
 ·exact absurd h1 h
theorem qr1 {x y z:Nm} (h:x<y) (k:¬ z<y):x<z:=by
 rcases qdR y z with h1|rfl|h1
 ·exact qcR h h1
 ·exact h
 ·exact absurd h1 k
def qaG (l:List Nm):Prop:=l.Pairwise (· <·)
instance (l:List Nm):Decidable (qaG l):=inferInstanceAs (Decidable (l.Pairwise (· <·)))
def qc1 (l:List Nm):Bool:=decide (qaG l)
theorem qfx {l:List Nm}:qc1 l=true↔qaG l:=by simp [qc1]
theorem qd6 {l:List Nm} (h:qaG l) {i j:Nat} (hj:j<l.length) (hij:i<j):l[i]<l[j]:=List.pairwise_iff_getElem.1 h i j (by omega) hj hij
theorem qr2 {l:List Nm} (h:∀ i,(hi:i+1<l.length)->l[i]<l[i+1]):qaG l:=by
 refine List.pairwise_iff_getElem.2 fun i j hi hj hij=> ?_
 induction j with
 |zero=>omega
 |succ j ih=>
  by_cases e:i=j
  ·subst e;exact h i hj
  ·exact qcR (ih (by omega) (by omega)) (h j hj)
theorem qr3 {l:List Nm} {k:Nat} (hk:k<l.length) (h0:0<k) (h:¬ l[k-1]<l[k]):qc1 l=false:=by
 rw [<- Bool.not_eq_true,qfx];exact fun hr=>h (qd6 hr hk (by omega))
theorem qr4 {l:List Nm} (h:∀ i,(hi:i<l.length)->0<i->l[i-1]<l[i]):qc1 l=true:=by
 rw [qfx];exact qr2 fun i hi=>by have :=h (i+1) hi (by omega);simpa using this
def qau:List Nm->Nm->Nat
 |[],_=>0
 |x::l,s=>if x<s then qau l s+1 else 0
def isN:List Nm->Nm->Bool
 |[],_=>false
 |x::l,s=>if x<s then isN l s else x==s
def qbU:List Nm->Nm->List Nm
 |[],s=>[s]
 |x::l,s=>if x<s then x::qbU l s else if x=s then x::l else s::x::l
theorem qf7:∀ (l:List Nm) (s:Nm),qau l s<=l.length
 |[],_=>Nat.le_refl _
 |x::l,s=>by
  have :=qf7 l s;simp only [qau,List.length_cons];split<;>omega
theorem qlv:∀ {l:List Nm} {s:Nm} {j:Nat} (hj:j<l.length),j<qau l s->l[j]<s
 |[],_,_,h,_=>by simp at h
 |x::l,s,j,hj,h=>by
  simp only [qau] at h;split at h
  ·rename_i hx
   cases j with
   |zero=>exact hx
   |succ j=>exact qlv (l:=l) (by simpa using hj) (by omega)
  ·omega
theorem qlw:∀ {l:List Nm} {s:Nm} (h:qau l s<l.length),¬ l[qau l s]<s
 |[],_,h=>by simp at h
 |x::l,s,h=>by
  by_cases hx:x<s
  ·have e:qau (x::l) s=qau l s+1:=by simp [qau,hx]
   have :=qlw (l:=l) (s:=s) (by rw [e] at h;simpa using h);simpa [e] using this
  ·have e:qau (x::l) s=0:=by simp [qau,hx]
   simpa [e] using hx
theorem qlx {l:List Nm} {s:Nm} {k:Nat} (hk:k<=l.length) (h1:∀ j (hj:j<l.length),j<k->l[j]<s) (h2:∀ h:k<l.length,¬ l[k]<s):qau l s=k:=by
 have a:=qf7 l s;rcases Nat.lt_trichotomy (qau l s) k with h|h|h
 ·exact absurd (h1 _ (by omega) h) (qlw (by omega))
 ·exact h
 ·exact absurd (qlv (by omega) h) (h2 (by omega))
theorem qgV:∀ {l:List Nm} {s:Nm} (h:qau l s<l.length),isN l s=(l[qau l s]==s)
 |[],_,h=>by simp at h
 |x::l,s,h=>by
  by_cases hx:x<s
  ·have e:qau (x::l) s=qau l s+1:=by simp [qau,hx]
   have e2:isN (x::l) s=isN l s:=by simp [isN,hx]
   have :=qgV (l:=l) (s:=s) (by rw [e] at h;simpa using h);rw [e2,this];simp [e]
  ·have e:qau (x::l) s=0:=by simp [qau,hx]
   simp [e,isN,hx]
theorem qip:∀ {l:List Nm} {s:Nm},qau l s=l.length->isN l s=false
 |[],_,_=>rfl
 |x::l,s,h=>by
  by_cases hx:x<s
  ·have e:qau (x::l) s=qau l s+1:=by simp [qau,hx]
   rw [e] at h;simpa [isN,hx] using qip (l:=l) (s:=s) (by simpa using h)
  ·have e:qau (x::l) s=0:=by simp [qau,hx]
   rw [e] at h;simp at h
theorem qiq {l:List Nm} {s:Nm} {k:Nat} (hk:k<l.length) (h1:∀ j (hj:j<l.length),j<k->l[j]<s) (h2:l[k]=s):qau l s=k/\isN l s=true:=by
 have e:=qlx (s:=s) (by omega) h1 (fun _=>by rw [h2];exact qeo s);subst e;exact ⟨rfl,by rw [qgV hk,h2];simp⟩
theorem qly {l:List Nm} {s:Nm} {k:Nat} (hk:k<=l.length) (h1:∀ j (hj:j<l.length),j<k->l[j]<s) (h2:∀ h:k<l.length,s<l[k]):qau l s=k/\isN l s=false:=by
 have e:=qlx (s:=s) hk h1 (fun h=>qf6 (h2 h));subst e;refine ⟨rfl,?_⟩;by_cases h:qau l s<l.length
 ·rw [qgV h]
  simpa using (qio (h2 h)).symm
 ·exact qip (by have :=qf7 l s;omega)
theorem qir {l:List Nm} {s:Nm} (h:isN l s=true):∃ hk:qau l s<l.length,l[qau l s]=s:=by
 by_cases hk:qau l s<l.length
 ·rw [qgV hk] at h
  exact ⟨hk,by simpa using h⟩
 ·rw [qip (by have :=qf7 l s;omega)] at h
  cases h
theorem qlz {l:List Nm} (hr:qaG l) {i:Nat} (hi:i<l.length):qau l l[i]=i/\isN l l[i]=true:=
 qiq hi (fun j hj hji=>qd6 hr hi hji) rfl
def qaz (x s:Nm):Int:=if x<s then-1 else if x=s then 0 else 1
theorem qlA:∀ {l:List Nm} {s:Nm},isN l s=true->qbU l s=l
 |[],_,h=>by cases h
 |x::l,s,h=>by
  by_cases hx:x<s
  ·rw [isN,if_pos hx] at h
   rw [qbU,if_pos hx,qlA h]
  ·rw [isN,if_neg hx] at h
   rw [qbU,if_neg hx,if_pos (by simpa using h)]
theorem qlB:∀ {l:List Nm} {s:Nm},isN l s=false->qbU l s=l.take (qau l s)++[s]++l.drop (qau l s)
 |[],_,h=>rfl
 |x::l,s,h=>by
  by_cases hx:x<s
  ·rw [isN,if_pos hx] at h
   rw [qbU,if_pos hx,qlB h,qau,if_pos hx];simp
  ·rw [isN,if_neg hx] at h
   rw [qbU,if_neg hx,if_neg (by simpa using h),qau,if_neg hx];simp
theorem qgW:∀ {l:List Nm} {s x:Nm},x∈qbU l s↔x=s∨x∈l
 |[],s,x=>by simp [qbU]
 |y::l,s,x=>by
  rw [qbU];split
  ·rw [List.mem_cons,qgW,List.mem_cons];exact or_left_comm
  ·split
   ·rename_i e
    subst e;rw [List.mem_cons];exact ⟨fun h=> .inr h,fun h=>h.elim .inl id⟩
   ·rw [List.mem_cons,List.mem_cons]
theorem qis:∀ {l:List Nm} {s:Nm},qaG l->qaG (qbU l s)
 |[],s,_=>by simp [qbU,qaG]
 |y::l,s,h=>by
  have h':=List.pairwise_cons.1 h;rw [qbU];split
  ·rename_i hy
   refine List.pairwise_cons.2 ⟨fun a ha=> ?_,qis h'.2⟩;rcases qgW.1 ha with rfl|ha
   ·exact hy
   ·exact h'.1 a ha
  ·rename_i hy
   split
   ·exact h
   ·rename_i hne
    have hs:s<y:=((qdR y s).resolve_left hy).resolve_left hne;refine List.pairwise_cons.2 ⟨fun a ha=> ?_,h⟩;rcases List.mem_cons.1 ha with rfl|ha
    ·exact hs
    ·exact qcR hs (h'.1 a ha)
theorem qlC (l:List Nm) (s:Nm):(qbU l s).length<=l.length+1:=by
 cases h:isN l s with
 |true=>rw [qlA h];omega
 |false=>rw [qlB h];have :=qf7 l s;simp;omega
theorem qgX:∀ {a b:List Nm},qaG a->qaG b->(∀ x,x∈a↔x∈b)->a=b
 |[],[],_,_,_=>rfl
 |[],y::b,_,_,h=>absurd ((h y).2 (List.mem_cons_self ..)) (by simp)
 |x::a,[],_,_,h=>absurd ((h x).1 (List.mem_cons_self ..)) (by simp)
 |x::a,y::b,ha,hb,h=>by
  have ha':=List.pairwise_cons.1 ha;have hb':=List.pairwise_cons.1 hb;have e:x=y:=by
   rcases List.mem_cons.1 ((h x).1 (List.mem_cons_self ..)) with e|h1
   ·exact e
   ·rcases List.mem_cons.1 ((h y).2 (List.mem_cons_self ..)) with e|h2
    ·exact e.symm
    ·exact absurd (ha'.1 y h2) (qf6 (hb'.1 x h1))
  subst e;congr 1;refine qgX ha'.2 hb'.2 fun z=>⟨fun hz=> ?_,fun hz=> ?_⟩
  ·rcases List.mem_cons.1 ((h z).1 (List.mem_cons_of_mem _ hz)) with rfl|h1
   ·exact absurd (ha'.1 z hz) (qeo z)
   ·exact h1
  ·rcases List.mem_cons.1 ((h z).2 (List.mem_cons_of_mem _ hz)) with rfl|h1
   ·exact absurd (hb'.1 z hz) (qeo z)
   ·exact h1
def qdk (l:List Nm) (n:Nat):List Nm:=(l.take n).foldl (fun a x=>qbU a (x.take 8)) []
theorem qr5 {l:List Nm} {k:Nat} (hk:k<l.length):qdk l (k+1)=qbU (qdk l k) (l[k].take 8):=by
 rw [qdk,List.take_succ_eq_append_getElem hk,List.foldl_append];rfl
theorem qr6 {l:List Nm} {k n:Nat} (hk:l.length<=k) (hn:k<=n):qdk l k=qdk l n:=by
 rw [qdk,qdk,List.take_of_length_le hk,List.take_of_length_le (by omega)]
theorem qr7 (l:List Nm) (n:Nat):qdk l (min n l.length)=qdk l n:=by
 rcases Nat.le_total n l.length with h|h
 ·rw [Nat.min_eq_left h]
 ·rw [Nat.min_eq_right h];exact qr6 (Nat.le_refl _) h
structure qlD (g:List Nm):Prop where
 rise:qaG g
 eight:∀ x∈g,x.length<=8
theorem qzd (l:List Nm) (n:Nat):qlD (qdk l n)/\(qdk l n).length<=n:=by
 have :∀ k,k<=l.length->qlD (qdk l k)/\(qdk l k).length<=k:=by
  intro k
  induction k with
  |zero=>intro _;exact ⟨⟨List.Pairwise.nil,fun x hx=>by cases hx⟩,Nat.le_refl _⟩
  |succ k ih=>
   intro hk;obtain ⟨h1,h2⟩:=ih (by omega);rw [qr5 (by omega)];refine ⟨⟨qis h1.rise,fun x hx=> ?_⟩,by have :=qlC (qdk l k) (l[k].take 8);omega⟩;rcases qgW.1 hx with rfl|hx
   ·rw [List.length_take];omega
   ·exact h1.eight x hx
 have h:=this (min n l.length) (by omega);rw [qr7] at h;exact ⟨h.1,by omega⟩
def qbq (ls:List (List Nm)):List Nm:=ls.flatten.foldl qbU []
theorem qit:∀ (xs:List Nm) (a:List Nm) (x:Nm),x∈xs.foldl qbU a↔x∈xs∨x∈a
 |[],a,x=>by simp
 |y::xs,a,x=>by
  rw [List.foldl_cons,qit xs,qgW,List.mem_cons];constructor
  ·rintro (h|h|h)
   ·exact .inl (.inr h)
   ·exact .inl (.inl h)
   ·exact .inr h
  ·rintro ((h|h)|h)
   ·exact .inr (.inl h)
   ·exact .inl h
   ·exact .inr (.inr h)
theorem qiu:∀ (xs:List Nm) (a:List Nm),qaG a->qaG (xs.foldl qbU a)
 |[],a,h=>h
 |y::xs,a,h=>qiu xs _ (qis h)
theorem qfy (ls:List (List Nm)):qaG (qbq ls):=qiu _ _ List.Pairwise.nil
theorem qf8 {ls:List (List Nm)} {x:Nm}:x∈qbq ls↔∃ a∈ls,x∈a:=by
 rw [qbq,qit];simp [List.mem_flatten]
theorem qlE {ls:List (List Nm)} {r:List Nm} (h:qaG r) (hm:∀ x,x∈r↔∃ a∈ls,x∈a):r=qbq ls:=
 qgX h (qfy ls) fun x=>by rw [hm,qf8]
theorem qf9:∀ (xs a:List Nm),(xs.foldl qbU a).length<=xs.length+a.length
 |[],a=>by simp
 |y::xs,a=>by
  rw [List.foldl_cons,List.length_cons];have :=qf9 xs (qbU a y);have :=qlC a y;omega
def qga (l:List Nm):List Nm:=Lib.compact (l.mergeSort fun x y=>decide (x<=y))
theorem qr8 (l:List Nm):(l.mergeSort fun x y=>decide (x<=y)).Pairwise (fun x y=>¬ y<x):=by
 have h:=List.pairwise_mergeSort (le:=fun x y:Nm=>decide (x<=y)) (fun a b c h1 h2=>decide_eq_true (show ¬ c<a from fun h=>(of_decide_eq_true h2:¬ c<b) (qr1 h (of_decide_eq_true h1:¬ b<a)))) (fun a b=>by
  by_cases h:b<a
  ·rw [Bool.or_eq_true];exact .inr (decide_eq_true (show ¬ a<b from qf6 h))
  ·rw [Bool.or_eq_true];exact .inl (decide_eq_true (show ¬ b<a from h))) l
 exact h.imp fun {a b} hab=>(of_decide_eq_true hab:¬ b<a)
theorem qr9 {l:List Nm} (x:Nm):x∈Lib.compact l↔x∈l:=by
 unfold Lib.compact;have :∀ m,m<=l.length->(x∈Lib.compactUpTo l.toArray m↔x∈l.take m):=by
  intro m
  induction m with
  |zero=>intro _;simp [Lib.compactUpTo]
  |succ m ih=>
   intro hm;have hg:l.toArray[m]! =l[m]:=by rw [getElem!_pos l.toArray m (by simp;omega)];simp
   rw [Lib.compactUpTo_succ,List.mem_append,ih (by omega),List.take_succ_eq_append_getElem (by omega),List.mem_append,hg];by_cases hk:Lib.keeps l.toArray m=true
   ·rw [if_pos hk]
   ·rw [if_neg hk]
    have hk':m≠0/\l.toArray[m]! =l.toArray[m-1]! :=by
     simp only [Lib.keeps,decide_eq_true_eq,not_or,Decidable.not_not] at hk;exact hk
    have hg1:l.toArray[m-1]! =l[m-1]:=by rw [getElem!_pos l.toArray (m-1) (by simp;omega)];simp
    rw [hg,hg1] at hk';constructor
    ·rintro (h|h)
     ·exact .inl h
     ·cases h
    ·rintro (h|h)
     ·exact .inl h
     ·rw [List.mem_singleton] at h
      left;rw [h,hk'.2];exact List.mem_take_iff_getElem.2 ⟨m-1,by omega,rfl⟩
 have h:=this l.length (Nat.le_refl _);rwa [List.take_length] at h
theorem qsa {l:List Nm} (hl:l.Pairwise (fun x y=>¬ y<x)):qaG (Lib.compact l):=by
 unfold Lib.compact;have :∀ m,m<=l.length->qaG (Lib.compactUpTo l.toArray m)/\∀ x∈Lib.compactUpTo l.toArray m,∃ j,j<m/\l[j]?=some x:=by
  intro m
  induction m with
  |zero=>intro _;simp [Lib.compactUpTo,qaG]
  |succ m ih=>
   intro hm;obtain ⟨h1,h2⟩:=ih (by omega);have hg:l.toArray[m]! =l[m]:=by rw [getElem!_pos l.toArray m (by simp;omega)];simp
   rw [Lib.compactUpTo_succ,hg];by_cases hk:Lib.keeps l.toArray m=true
   ·rw [if_pos hk]
    refine ⟨List.pairwise_append.2 ⟨h1,List.pairwise_singleton _ _,fun a ha b hb=> ?_⟩,fun x hx=> ?_⟩
    ·rw [List.mem_singleton] at hb
     subst hb;obtain ⟨j,hj,hja⟩:=h2 a ha;obtain ⟨hjl,rfl⟩:=List.getElem?_eq_some_iff.1 hja;have hm0:m≠0:=by omega
     have hg1:l.toArray[m-1]! =l[m-1]:=by rw [getElem!_pos l.toArray (m-1) (by simp;omega)];simp
     have hne:l[m]≠l[m-1]:=by
      simp only [Lib.keeps,decide_eq_true_eq] at hk;have :=hk.resolve_left hm0;rwa [hg,hg1] at this
     have hlt:l[m-1]<l[m]:=by
      have h3:=List.pairwise_iff_getElem.1 hl (m-1) m (by omega) (by omega) (by omega);rcases qdR l[m-1] l[m] with h|h|h
      ·exact h
      ·exact absurd h.symm hne
      ·exact absurd h h3
     by_cases e:j=m-1
     ·subst e;exact hlt
     ·exact qr0 (List.pairwise_iff_getElem.1 hl j (m-1) (by omega) (by omega) (by omega)) hlt
    ·rcases List.mem_append.1 hx with hx|hx
     ·obtain ⟨j,hj,hja⟩:=h2 x hx
      exact ⟨j,by omega,hja⟩
     ·rw [List.mem_singleton] at hx
      subst hx;exact ⟨m,by omega,by simp⟩
   ·rw [if_neg hk,List.append_nil]
    exact ⟨h1,fun x hx=>by obtain ⟨j,hj,hja⟩:=h2 x hx;exact ⟨j,by omega,hja⟩⟩
 exact (this l.length (Nat.le_refl _)).1
theorem qsb (l:List Nm):qaG (qga l):=qsa (qr8 l)
theorem qsc {l:List Nm} (x:Nm):x∈qga l↔x∈l:=by rw [qga,qr9,List.mem_mergeSort]
def qcg:List Nm->List Nm->List Nm
 |[],b=>b
 |a,[]=>a
 |x::a,y::b=>if x<y then x::qcg a (y::b) else if x=y then qcg a (y::b) else y::qcg (x::a) b
termination_by a b=>a.length+b.length
theorem qlF (a:List Nm):qcg a []=a:=by cases a<;>simp [qcg]
theorem qlG (b:List Nm):qcg [] b=b:=by simp [qcg]
theorem qfz:∀ (a b:List Nm) (x:Nm),x∈qcg a b↔x∈a∨x∈b
 |[],b,x=>by simp [qcg]
 |y::a,[],x=>by simp [qcg]
 |y::a,z::b,x=>by
  rw [qcg];split
  ·rw [List.mem_cons,qfz a (z::b),List.mem_cons (a:=x) (b:=y),or_assoc]
  ·split
   ·rename_i e
    subst e;rw [qfz a (y::b)];simp only [List.mem_cons];exact ⟨fun h=>h.elim (fun h=> .inl (.inr h)) .inr,fun h=>h.elim (fun h=>h.elim (fun h=> .inr (.inl h)) .inl) .inr⟩
   ·rw [List.mem_cons,qfz (y::a) b,List.mem_cons (a:=x) (b:=z)]
    exact or_left_comm
termination_by a b=>a.length+b.length
theorem qgY:∀ {a b:List Nm},qaG a->qaG b->qaG (qcg a b)
 |[],b,_,h=>by rw [qlG];exact h
 |y::a,[],h,_=>by rw [qlF];exact h
 |y::a,z::b,ha,hb=>by
  have ha':=List.pairwise_cons.1 ha;have hb':=List.pairwise_cons.1 hb;rw [qcg];split
  ·rename_i h
   refine List.pairwise_cons.2 ⟨fun x hx=> ?_,qgY ha'.2 hb⟩;rcases (qfz _ _ _).1 hx with hx|hx
   ·exact ha'.1 x hx
   ·rcases List.mem_cons.1 hx with rfl|hx
    ·exact h
    ·exact qcR h (hb'.1 x hx)
  ·rename_i h
   split
   ·exact qgY ha'.2 hb
   ·rename_i hne
    have hz:z<y:=((qdR y z).resolve_left h).resolve_left hne;refine List.pairwise_cons.2 ⟨fun x hx=> ?_,qgY ha hb'.2⟩;rcases (qfz _ _ _).1 hx with hx|hx
    ·rcases List.mem_cons.1 hx with rfl|hx
     ·exact hz
     ·exact qcR hz (ha'.1 x hx)
    ·exact hb'.1 x hx
termination_by a b=>a.length+b.length
abbrev Fd:=Nm × Nm
abbrev Tm:=Nm × Nm
def qdI (c:UInt8):Bool:=decide (97<=c.toNat)&&decide (c.toNat<=122)
def qbk (s:Nm):Bool:=s.all qdI&&(decide (1<=s.length)&&decide (s.length<=12))
theorem qlH {s:Nm} {k:Nat} (hk:k<s.length) (h:qdI s[k]=false):qbk s=false:=by
 rw [<- Bool.not_eq_true,qbk,Bool.and_eq_true];intro hh;rw [List.all_eq_true.1 hh.1 _ (List.getElem_mem hk)] at h;cases h
theorem qlI {s:Nm} (h:∀ k (hk:k<s.length),qdI s[k]=true):qbk s=(decide (1<=s.length)&&decide (s.length<=12)):=by
 rw [qbk,List.all_eq_true.2 fun c hc=>by obtain ⟨k,hk,rfl⟩:=List.getElem_of_mem hc;exact h k hk,Bool.true_and]
theorem qsd {s:Nm} (h:qbk s=true):(0:UInt8)∉s:=fun h0=>by
 rw [qbk,Bool.and_eq_true] at h;exact absurd (List.all_eq_true.1 h.1 _ h0) (by decide)
def qc2:List Nm->Nat->List Fd->Int
 |_,n,[]=>if 500<n then 7 else 0
 |seen,n,f::fs=>if qbk f.1=false then 4 else if f.1∈seen then 5 else if qby 0 (qaK f.2)≠0 then qby 0 (qaK f.2) else qc2 (seen++[f.1]) (n+(qaK f.2).length) fs
def qbb (l:List Fd):Int:=if 8<l.length then 7 else qc2 [] 0 l
def qcr:List Fd->Nm->List Nm
 |[],_=>[]
 |f::fs,s=>if f.1=s then qaK f.2 else qcr fs s
def qcS:Nat->List Nm->Nm->List Int
 |_,[],_=>[]
 |i,y::l,x=>if y=x then (i:Int)::qcS (i+1) l x else qcS (i+1) l x
def qaW (l:List Fd) (t:Tm):List Int:=qcS 0 (qcr l t.1) t.2
theorem qiv (x:Nm):∀ (l:List Nm) (i:Nat),(qcS i l x).length<=l.length
 |[],_=>Nat.le_refl _
 |y::l,i=>by
  have :=qiv x l (i+1);rw [qcS];split<;>simp <;>omega
def qae (t:Tm):Nm:=qdy t.1 t.2
def atT (l:List Tm) (k:Nat):Tm:=l.getD k ([],[])
def qbH (l:List Tm) (t:Tm):Nat->Nat
 |0=>0
 |k+1=>if qae t<qae (atT l k) then qbH l t k else k+1
theorem qgZ (l:List Tm) (t:Tm):∀ k,qbH l t k<=k
 |0=>Nat.le_refl _
 |k+1=>by
  have :=qgZ l t k;rw [qbH];split<;>omega
theorem qlJ {l:List Tm} {t:Tm}:∀ {k:Nat},0<qbH l t k->¬ qae t<qae (atT l (qbH l t k-1))
 |0,h=>by simp [qbH] at h
 |k+1,h=>by
  by_cases hk:qae t<qae (atT l k)
  ·have e:qbH l t (k+1)=qbH l t k:=by rw [qbH,if_pos hk]
   rw [e] at h ⊢;exact qlJ h
  ·have e:qbH l t (k+1)=k+1:=by rw [qbH,if_neg hk]
   rw [e];exact hk
theorem qlK {l:List Tm} {t:Tm}:∀ {k j:Nat},qbH l t k<=j->j<k->qae t<qae (atT l j)
 |0,j,_,h=>by omega
 |k+1,j,h1,h2=>by
  by_cases hk:qae t<qae (atT l k)
  ·have e:qbH l t (k+1)=qbH l t k:=by rw [qbH,if_pos hk]
   rw [e] at h1;by_cases e:j=k
   ·subst e;exact hk
   ·exact qlK h1 (by omega)
  ·have e:qbH l t (k+1)=k+1:=by rw [qbH,if_neg hk]
   omega
def qiw (l:List Tm) (t:Tm) (k:Nat):Bool:=decide (0<k)&&decide (atT l (k-1)=t)
def qdl (l:List Tm) (t:Tm):List Tm:=if qiw l t (qbH l t l.length)=true then l else l.take (qbH l t l.length)++t::l.drop (qbH l t l.length)
def qav (l:List Fd):List Tm:=l.foldl (fun a f=>(qcr l f.1).foldl (fun b x=>qdl b (f.1,x)) a) []
def qdz (l:List Tm):Prop:=qaG (l.map qae)
theorem qfa {l:List Tm} {k:Nat} (hk:k<l.length):atT l k=l[k]:=by rw [atT,List.getD_eq_getElem?_getD,List.getElem?_eq_getElem hk];rfl
theorem qix {s t:Tm} (h:qae s=qae t) (h0:(0:UInt8)∉s.1) (h1:(0:UInt8)∉t.1):s=t:=by
 obtain ⟨e1,e2⟩:=qrY h h0 h1;exact Prod.ext e1 e2
theorem qlL {l:List Tm} {s t:Tm}:s∈qdl l t↔s∈l∨s=t:=by
 unfold qdl;split
 ·rename_i h
  rw [qiw,Bool.and_eq_true,decide_eq_true_iff,decide_eq_true_iff] at h;have :=qgZ l t l.length;have hk:qbH l t l.length-1<l.length:=by omega
  rw [qfa hk] at h;constructor
  ·exact .inl
  ·rintro (h1|rfl)
   ·exact h1
   ·rw [<- h.2];exact List.getElem_mem hk
 ·rw [List.mem_append,List.mem_cons]
  conv=>rhs;rw [<- List.take_append_drop (qbH l t l.length) l,List.mem_append]
  constructor
  ·rintro (h|h|h)
   ·exact .inl (.inl h)
   ·exact .inr h
   ·exact .inl (.inr h)
  ·rintro ((h|h)|h)
   ·exact .inl h
   ·exact .inr (.inr h)
   ·exact .inr (.inl h)
theorem qse {l:List Tm} (h:qdz l) {i j:Nat} (hj:j<l.length) (hij:i<j):qae (atT l i)<qae (atT l j):=by
 have :=qd6 h (i:=i) (j:=j) (by simpa using hj) hij;rwa [qfa hj,qfa (by omega),<- List.getElem_map qae,<- List.getElem_map qae]
 all_goals simp <;>omega
theorem qsf {l:List Tm} {t:Tm} (h:qdz l) (h0:∀ s∈l,(0:UInt8)∉s.1) (h1:(0:UInt8)∉t.1):qdz (qdl l t):=by
 unfold qdl;split
 ·exact h
 ·rename_i hh
  obtain ⟨k,hk⟩:∃ k,k=qbH l t l.length:=⟨_,rfl⟩;have hle:=qgZ l t l.length;have habove:∀ j,k<=j->j<l.length->qae t<qae (atT l j):=fun j a b=>qlK (k:=l.length) (by omega) b
  have hstop:0<k->¬ qae t<qae (atT l (k-1)):=fun a=>by rw [hk];exact qlJ (by omega)
  rw [<- hk] at hh hle;rw [<- hk];have hlow:0<k->qae (atT l (k-1))<qae t:=fun a=>by
   rcases qdR (qae (atT l (k-1))) (qae t) with e|e|e
   ·exact e
   ·refine absurd ?_ hh
    rw [qiw,Bool.and_eq_true,decide_eq_true_iff,decide_eq_true_iff];have hk1:k-1<l.length:=by omega
    exact ⟨a,qix e (by rw [qfa hk1];exact h0 _ (List.getElem_mem hk1)) h1⟩
   ·exact absurd e (hstop a)
  unfold qdz qaG;rw [List.map_append,List.map_cons];have hp:List.Pairwise (· <·) (l.map qae):=h;refine List.pairwise_append.2 ⟨?_,List.pairwise_cons.2 ⟨?_,?_⟩,?_⟩
  ·exact hp.sublist ((List.take_sublist k l).map qae)
  ·intro x hx
   obtain ⟨s,hs,rfl⟩:=List.mem_map.1 hx;obtain ⟨j,hj,rfl⟩:=List.getElem_of_mem hs;rw [List.length_drop] at hj;have :=habove (k+j) (by omega) (by omega);rw [qfa (by omega)] at this;rwa [List.getElem_drop]
  ·exact hp.sublist ((List.drop_sublist k l).map qae)
  ·intro x hx y hy
   obtain ⟨s,hs,rfl⟩:=List.mem_map.1 hx;obtain ⟨i,hi,rfl⟩:=List.getElem_of_mem hs;rw [List.length_take] at hi;have hx:qae (atT l i)<qae t:=by
    by_cases e:i=k-1
    ·subst e;exact hlow (by omega)
    ·exact qcR (qse h (i:=i) (j:=k-1) (by omega) (by omega)) (hlow (by omega))
   rw [qfa (by omega)] at hx;rw [List.getElem_take];rcases List.mem_cons.1 hy with rfl|hy
   ·exact hx
   ·obtain ⟨s,hs,rfl⟩:=List.mem_map.1 hy
    obtain ⟨j,hj,rfl⟩:=List.getElem_of_mem hs;rw [List.length_drop] at hj;have :=habove (k+j) (by omega) (by omega);rw [qfa (by omega)] at this;rw [List.getElem_drop];exact qcR hx this
def qep (l:List Fd):Nat:=(l.map fun f=>(qcr l f.1).length).sum
def qgb (i:Nat):Nm:=[116+UInt8.ofNat i]
def qeJ (i:Nat) (f:Fd):Fd:=(if qbk f.1=true then f.1 else qgb i,f.2.take 40)
def qcy (l:List Fd):Nat->List Fd
 |0=>[]
 |k+1=>if qbb (qcy l k++[qeJ k (l.getD k ([],[]))])=0 then qcy l k++[qeJ k (l.getD k ([],[]))] else qcy l k
def qeK (l:List Fd):List Fd:=qcy l (min l.length 4)
theorem qlM (l:List Fd):∀ k,qbb (qcy l k)=0
 |0=>rfl
 |k+1=>by
  rw [qcy];split
  ·rename_i h;exact h
  ·exact qlM l k
theorem qsg (l:List Fd):qbb (qeK l)=0:=qlM _ _
theorem qiy (l:List Fd):∀ k,(qcy l k).length<=k
 |0=>Nat.le_refl _
 |k+1=>by
  have :=qiy l k;rw [qcy];split
  ·simp;omega
  ·omega
theorem qlN (i:Nat) (f:Fd):(qeJ i f).2.length<=40:=by simp [qeJ];omega
theorem qg0 (l:List Fd):∀ k,∀ f∈qcy l k,f.2.length<=40
 |0,f,h=>by cases h
 |k+1,f,h=>by
  rw [qcy] at h;split at h
  ·rcases List.mem_append.1 h with h|h
   ·exact qg0 l k f h
   ·rw [List.mem_singleton.1 h];exact qlN _ _
  ·exact qg0 l k f h
open Go.Sort
def qaH (base:Nat) (w:World) (v:Value) (l:List Nm):Prop:=w.ownsRow base 9 1 v l.length (qad l)
theorem qaH.below {base:Nat} {w w':World} {v:Value} {l:List Nm} (h:qaH base w v l) (hb:Below w.heap.size w w'):qaH base w' v l:=qap h hb
theorem qaH.low {base b:Nat} {w:World} {v:Value} {l:List Nm} (h:qaH base w v l) (hb:b<=base):qaH b w v l:=qbf h hb
theorem qaH.row {base:Nat} {w:World} {v:Value} {l:List Nm} (h:qaH base w v l):∃ A c,v= .slice A l.length c/\l.length<=c/\Row w w.heap.size A (qad l):=qaT h
theorem qaH.nil {base:Nat} {w:World}:qaH base w (.slice none 0 0) []:=World.ownsRow_nil _ _ _ _
def qeL (l:List Nm) (w:World) (e:Ending) (w':World):Prop:=∃ v,e= .returned v/\qaH w.heap.size w' v l/\Below w.heap.size w w'
theorem qgc {x y:Nm}:Op.bytesLess x y=decide (x<y):=bytesLess_eq x y
theorem qfb {w:World} {B:Nat} {A:Option Addr} {xs:List Nm} (h:Row w B A (qad xs)) {k:Nat} (hk:k<xs.length):
  ∃ b off,A=some ⟨b,off,none⟩/\b<B/\w.cell? ⟨b,off+k,none⟩=some (.string ⟨xs[k].toArray⟩):=qif h hk
theorem qbV (x:Nm):∃ t:ByteArray,t=⟨x.toArray⟩/\t.data.toList=x:=⟨_,rfl,rfl⟩
theorem qeM (x:Nm):(⟨x.toArray⟩:ByteArray).size=x.length:=List.size_toArray
theorem qsh {s t:ByteArray} (h:s.data.toList<t.data.toList):Op.bytesLess s.toList t.toList=true:=by rw [Lib.toList_data,Lib.toList_data,qgc];exact decide_eq_true h
theorem qsi {s t:ByteArray} (h:¬ s.data.toList<t.data.toList):Op.bytesLess s.toList t.toList=false:=by rw [Lib.toList_data,Lib.toList_data,qgc];exact decide_eq_false h
theorem qlO {s t:ByteArray} (h:s.data.toList=t.data.toList):(s.toList==t.toList)=true:=by rw [Lib.toList_data,Lib.toList_data,h];exact beq_self_eq_true _
theorem qlP {s t:ByteArray} (h:s.data.toList≠t.data.toList):(s.toList==t.toList)=false:=by rw [Lib.toList_data,Lib.toList_data];simpa using h
theorem qiz (a b:List Nm):qad (a++b)=qad a++qad b:=by simp [qad]
theorem Row.dropped {w:World} {B b off:Nat} {l:List Nm} (h:Row w B (some ⟨b,off,none⟩) (qad l)) (k:Nat):Row w B (some ⟨b,off+k,none⟩) (qad (l.drop k)):=by
 rcases h with h|⟨b',o',e,hb,hc⟩
 ·refine .inl ?_
  have :l=[]:=by simpa [qad] using h
  simp [this,qad]
 ·injection e with e
  injection e with e1 e2
  subst e1 e2;refine .inr ⟨b,off+k,rfl,hb,fun j u hu=> ?_⟩;have :=hc (k+j) u (by rw [<- hu];simp [qad]);rwa [<- Nat.add_assoc] at this
theorem qsj (l:List Nm):∀ u∈qad l,u.oneCell'=true:=by
 intro u hu;obtain ⟨x,_,rfl⟩:=List.mem_map.1 hu;rfl
theorem Row.later {w w':World} {A:Option Addr} {xs:List Value} (h:Row w w.heap.size A xs) (hb:Below w.heap.size w w'):Row w' w'.heap.size A xs:=(h.below hb).more hb.size
def flds:List Fd->List Value
 |[]=>[]
 |f::l=> .string ⟨f.1.toArray⟩:: .string ⟨f.2.toArray⟩::flds l
theorem qfc:∀ l:List Fd,(flds l).length=l.length*2
 |[]=>rfl
 |f::l=>by simp only [flds,List.length_cons,qfc l];omega
theorem qg1:∀ a b:List Fd,flds (a++b)=flds a++flds b
 |[],_=>rfl
 |f::a,b=>by simp [flds,qg1 a b]
theorem qiA:∀ {l:List Fd} {k:Nat} (hk:k<l.length),(flds l)[k*2]?=some (.string ⟨l[k].1.toArray⟩)/\(flds l)[k*2+1]?=some (.string ⟨l[k].2.toArray⟩)
 |[],_,h=>by simp at h
 |f::l,0,_=>⟨rfl,rfl⟩
 |f::l,k+1,h=>by
  have :=qiA (l:=l) (k:=k) (by simpa using h);rw [show (k+1)*2=k*2+1+1 by omega];simpa [flds] using this
theorem qlQ:∀ (l:List Fd) (k:Nat),flds (l.take k)=(flds l).take (k*2)
 |l,0=>by simp [flds]
 |[],k+1=>by simp [flds]
 |f::l,k+1=>by rw [show (k+1)*2=k*2+1+1 by omega];simp [flds,qlQ l k]
theorem qiB:∀ (l:List Fd),∀ u∈flds l,u.oneCell'=true
 |[],u,h=>by cases h
 |f::l,u,h=>by
  simp only [flds,List.mem_cons] at h;rcases h with rfl|rfl|h
  ·rfl
  ·rfl
  ·exact qiB l u h
def qaA (w:World) (B:Nat) (A:Option Addr) (l:List Fd):Prop:=Row w B A (flds l)
theorem qaA.below {w w':World} {B:Nat} {A:Option Addr} {l:List Fd} (h:qaA w B A l) (hb:Below B w w'):qaA w' B A l:=Row.below h hb
theorem qaA.more {w:World} {B B':Nat} {A:Option Addr} {l:List Fd} (h:qaA w B A l) (hB:B<=B'):qaA w B' A l:=Row.more h hB
theorem qaA.nil {w:World} {B:Nat} {A:Option Addr}:qaA w B A []:=Row.nil
theorem qaA.later {w w':World} {A:Option Addr} {l:List Fd} (h:qaA w w.heap.size A l) (hb:Below w.heap.size w w'):qaA w' w'.heap.size A l:=(h.below hb).more hb.size
theorem qaA.at_ {w:World} {B:Nat} {A:Option Addr} {l:List Fd} (h:qaA w B A l) {k:Nat} (hk:k<l.length):
  ∃ b off,A=some ⟨b,off,none⟩/\b<B/\w.cell? ⟨b,off+k*2,none⟩=some (.string ⟨l[k].1.toArray⟩)/\w.cell? ⟨b,off+k*2+1,none⟩=some (.string ⟨l[k].2.toArray⟩):=by
 obtain ⟨b,off,rfl,hb,hc⟩:=Row.at_ h (by rw [qfc];omega);obtain ⟨g1,g2⟩:=qiA hk;exact ⟨b,off,rfl,hb,hc _ _ g1,by have :=hc _ _ g2;rwa [<- Nat.add_assoc] at this⟩
abbrev qcT (id:Int) (A:Option Addr) (n c:Nat):Value:= .agg #[.int .i64 id,.slice A n c]
theorem qlR:(Tryz.prog.info? 121).map (fun i=>(i.zero,i.size,i.bytes))=some (some (.agg #[.string ByteArray.empty,.string ByteArray.empty]),2,32):=by kernel_rfl
def qbI (base:Nat) (w:World) (v:Value) (l:List Tm):Prop:=w.ownsRow base 69 2 v l.length (flds l)
def qaF (base:Nat) (w:World) (v:Value) (l:List Fd):Prop:=w.ownsRow base 121 2 v l.length (flds l)
theorem qbI.below {base:Nat} {w w':World} {v:Value} {l:List Tm} (h:qbI base w v l) (hb:Below w.heap.size w w'):qbI base w' v l:=qap h hb
theorem qbI.low {base b:Nat} {w:World} {v:Value} {l:List Tm} (h:qbI base w v l) (hb:b<=base):qbI b w v l:=qbf h hb
theorem qbI.row {base:Nat} {w:World} {v:Value} {l:List Tm} (h:qbI base w v l):∃ A c,v= .slice A l.length c/\l.length<=c/\qaA w w.heap.size A l:=qaT h
theorem qbI.nil {base:Nat} {w:World}:qbI base w (.slice none 0 0) []:=World.ownsRow_nil _ _ _ _
theorem qaF.below {base:Nat} {w w':World} {v:Value} {l:List Fd} (h:qaF base w v l) (hb:Below w.heap.size w w'):qaF base w' v l:=qap h hb
theorem qaF.low {base b:Nat} {w:World} {v:Value} {l:List Fd} (h:qaF base w v l) (hb:b<=base):qaF b w v l:=qbf h hb
theorem qaF.row {base:Nat} {w:World} {v:Value} {l:List Fd} (h:qaF base w v l):∃ A c,v= .slice A l.length c/\l.length<=c/\qaA w w.heap.size A l:=qaT h
theorem qaF.nil {base:Nat} {w:World}:qaF base w (.slice none 0 0) []:=World.ownsRow_nil _ _ _ _
theorem qaA.cut {w:World} {B:Nat} {A:Option Addr} {l:List Fd} (h:qaA w B A l) (k:Nat):qaA w B A (l.take k):=by
 have :=Row.cut h (k*2);rwa [<- qlQ] at this
theorem qsk (w:World) (x:Fd) (t:TypeId):qaA (w.alloc (.cells #[.string ⟨x.1.toArray⟩,.string ⟨x.2.toArray⟩] t)) (w.alloc (.cells #[.string ⟨x.1.toArray⟩,.string ⟨x.2.toArray⟩] t)).heap.size (some ⟨w.heap.size,0,none⟩) [x]:=by
 refine .inr ⟨w.heap.size,0,rfl,by simp,fun j u hu=> ?_⟩;have :=qaU w (flds [x]) t j u hu;rw [Addr.add_lit] at this;exact this
theorem qsl:(Tryz.prog.info? 69).map (fun i=>(i.zero,i.size,i.bytes))=some (some (.agg #[.string ByteArray.empty,.string ByteArray.empty]),2,32):=by kernel_rfl
theorem qlS {ops:Array Oper} {rest:List Oper} {o:Oper} {a:Act} {Q:Exit->Act->World->Prop} (w:World) (hgd:o.guard=none) (s x:Operand)
  (ho:o.op= .call {callee:= .builtin .append,args:=#[s,x],argTypes:=#[57,57]})
  (base:Nat) (v:Value) (l:List Fd) (hs:a.eval s=v) (hown:qaF base w v l) (A:Option Addr) (m c:Nat) (news:List Fd) (hx:a.eval x= .slice A m c) (hl:news.length=m) (hr:qaA w w.heap.size A news)
  (hlen:l.length+m<=1073741824) (hbase:base<=w.heap.size)
  (h:∀ v' w',qaF base w' v' (l++news)->Below base w w'->w.grownBy w' v.ownBlock->wpList Tryz.prog ops Q rest (a.put o.dst v') w'):wpList Tryz.prog ops Q (o::rest) a w:=by
 obtain ⟨i0,hi0,hz0,hz1,hz2⟩:=info_parts qlR;refine qft w hgd s x 57 ho base 121 i0 _ 2 32 Tryz.underlying57 hi0 hz0 hz1 hz2 rfl (by decide) v l.length (flds l) hs hown w.heap.size A m c (flds news) hx (by rw [qfc,hl]) hr (qiB _) (by unfold maxLen;omega) (by omega) hbase fun v' w' h1 h2=>h v' w' ?_ ?_ h2
 ·unfold qaF
  rw [List.length_append,hl,qg1];exact h1
 ·exact (Below.refl base w).grown h2 hbase fun k hk=>(hown.lt k hk).1
def qbW (s:Nm):Nat->List Nm->List (Tm × Int)
 |_,[]=>[]
 |i,x::l=>((s,x),(i:Int))::qbW s (i+1) l
theorem qlT (s:Nm):∀ (l:List Nm) (i:Nat) (x:Nm),qbW s i (l++[x])=qbW s i l++[((s,x),((i+l.length:Nat):Int))]
 |[],i,x=>rfl
 |y::l,i,x=>by
  rw [List.cons_append,qbW,qbW,qlT s l (i+1) x,List.cons_append,List.length_cons,Nat.add_assoc,Nat.add_comm 1]
theorem qsm (s:Nm) {l:List Nm} {k:Nat} (hk:k<l.length):qbW s 0 (l.take (k+1))=qbW s 0 (l.take k)++[((s,l[k]),(k:Int))]:=by
 rw [List.take_succ_eq_append_getElem hk,qlT,List.length_take,Nat.zero_add,Nat.min_eq_left (by omega)]
theorem qgd (s:Nm):∀ (l:List Nm) (i:Nat),(qbW s i l).length=l.length
 |[],_=>rfl
 |x::l,i=>by rw [qbW,List.length_cons,qgd s l,List.length_cons]
def qaP:List Fd->List (Tm × Int)
 |[]=>[]
 |f::l=>qbW f.1 0 (qaK f.2)++qaP l
theorem qlU:∀ (l:List Fd) (f:Fd),qaP (l++[f])=qaP l++qbW f.1 0 (qaK f.2)
 |[],f=>by simp [qaP]
 |g::l,f=>by rw [List.cons_append,qaP,qaP,qlU l f,List.append_assoc]
theorem qsn {l:List Fd} {k:Nat} (hk:k<l.length):qaP (l.take (k+1))=qaP (l.take k)++qbW l[k].1 0 (qaK l[k].2):=by
 rw [List.take_succ_eq_append_getElem hk,qlU]
abbrev Gr:=Tm × List Int
def qbr:List Gr->Tm->Int->List Gr
 |[],t,a=>[(t,[a])]
 |p::g,t,a=>if p.1=t then (p.1,p.2++[a])::g else p::qbr g t a
def qcz (s:List (Tm × Int)):List Gr:=s.foldl (fun g p=>qbr g p.1 p.2) []
theorem qso (s:List (Tm × Int)) (t:Tm) (a:Int):qcz (s++[(t,a)])=qbr (qcz s) t a:=by
 unfold qcz;rw [List.foldl_append];rfl
def qa4:List Gr->Tm->List Int
 |[],_=>[]
 |p::g,t=>if p.1=t then p.2 else qa4 g t
theorem qlV (t u:Tm) (a:Int):∀ g:List Gr,qa4 (qbr g t a) u=if t=u then qa4 g u++[a] else qa4 g u
 |[]=>by by_cases h:t=u<;>simp [qbr,qa4,h]
 |p::g=>by
  rw [qbr];by_cases h1:p.1=t
  ·rw [if_pos h1,qa4,qa4]
   by_cases h2:t=u
   ·rw [if_pos h2,if_pos (h1.trans h2),if_pos (h1.trans h2)]
   ·rw [if_neg h2,if_neg (fun e=>h2 (h1.symm.trans e)),if_neg (fun e=>h2 (h1.symm.trans e))]
  ·rw [if_neg h1,qa4,qa4,qlV t u a g]
   by_cases h2:p.1=u
   ·rw [if_pos h2,if_pos h2,if_neg (fun e=>h1 (h2.trans e.symm))]
   ·rw [if_neg h2,if_neg h2]
def qc3 (s:List (Tm × Int)) (t:Tm):List Int:=(s.filter fun p=>decide (p.1=t)).map (·.2)
theorem qlW (t:Tm):∀ (s:List (Tm × Int)) (g:List Gr),qa4 (s.foldl (fun g p=>qbr g p.1 p.2) g) t=qa4 g t++qc3 s t
 |[],g=>by simp [qc3]
 |p::s,g=>by
  rw [List.foldl_cons,qlW t s,qlV];unfold qc3;by_cases h:p.1=t<;>simp [h]
theorem qlX (s:List (Tm × Int)) (t:Tm):qa4 (qcz s) t=qc3 s t:=by
 rw [qcz,qlW];rfl
theorem qiC (t:Tm) (a:Int):∀ g:List Gr,(qbr g t a).map (·.1)=if t∈g.map (·.1) then g.map (·.1) else g.map (·.1)++[t]
 |[]=>rfl
 |p::g=>by
  have ih:=qiC t a g;rw [qbr];by_cases h:p.1=t
  ·rw [if_pos h,if_pos (by simp [h])]
   rfl
  ·rw [if_neg h,List.map_cons,ih,List.map_cons]
   by_cases h2:t∈g.map (·.1)
   ·rw [if_pos h2,if_pos (List.mem_cons_of_mem _ h2)]
   ·rw [if_neg h2,if_neg]
    ·rfl
    ·intro h3
     rcases List.mem_cons.1 h3 with h3|h3
     ·exact h h3.symm
     ·exact h2 h3
theorem qsp {g:List Gr} (h:(g.map (·.1)).Nodup) (t:Tm) (a:Int):((qbr g t a).map (·.1)).Nodup:=by
 rw [qiC];split
 ·exact h
 ·rename_i hn
  rw [List.nodup_append];exact ⟨h,by simp,fun x hx y hy e=>hn (by rw [List.mem_singleton] at hy;rw [<- hy,<- e];exact hx)⟩
theorem qiD:∀ (s:List (Tm × Int)) (g:List Gr),(g.map (·.1)).Nodup->((s.foldl (fun g p=>qbr g p.1 p.2) g).map (·.1)).Nodup/\∀ t,t∈(s.foldl (fun g p=>qbr g p.1 p.2) g).map (·.1)↔t∈g.map (·.1)∨t∈s.map (·.1)
 |[],g,h=>⟨h,by simp⟩
 |p::s,g,h=>by
  obtain ⟨h1,h2⟩:=qiD s (qbr g p.1 p.2) (qsp h _ _);refine ⟨h1,fun t=> ?_⟩;rw [List.foldl_cons,h2,qiC,List.map_cons,List.mem_cons];split
  ·rename_i hp
   constructor
   ·rintro (h|h)
    ·exact .inl h
    ·exact .inr (.inr h)
   ·rintro (h|rfl|h)
    ·exact .inl h
    ·exact .inl hp
    ·exact .inr h
  ·rw [List.mem_append,List.mem_singleton,or_assoc]
theorem qsq (s:List (Tm × Int)):((qcz s).map (·.1)).Nodup:=(qiD s [] (by simp)).1
theorem qlY (s:List (Tm × Int)) (t:Tm):t∈(qcz s).map (·.1)↔t∈s.map (·.1):=by
 rw [qcz,(qiD s [] (by simp)).2];simp
def qdm (l:List Fd):Prop:=l.Pairwise fun f g=>f.1≠g.1
theorem qg2 {l:List Fd} (h:qdm l) {f:Fd} (hf:f∈l):qcr l f.1=qaK f.2:=by
 induction l with
 |nil=>cases hf
 |cons g l ih=>
  rw [qdm,List.pairwise_cons] at h;rw [qcr];rcases List.mem_cons.1 hf with rfl|hf
  ·exact if_pos rfl
  ·rw [if_neg (h.1 f hf)]
   exact ih h.2 hf
theorem qlZ {l:List Fd} {s:Nm} (h:∀ f∈l,f.1≠s):qcr l s=[]:=by
 induction l with
 |nil=>rfl
 |cons g l ih=>
  rw [qcr,if_neg (h g (List.mem_cons_self ..))];exact ih fun f hf=>h f (List.mem_cons_of_mem _ hf)
theorem qsr (a b:List (Tm × Int)) (t:Tm):qc3 (a++b) t=qc3 a t++qc3 b t:=by simp [qc3]
theorem ql0 (s:Nm) (t:Tm):∀ (l:List Nm) (i:Nat),qc3 (qbW s i l) t=if s=t.1 then qcS i l t.2 else []
 |[],i=>by simp [qbW,qc3,qcS]
 |x::l,i=>by
  have ih:=ql0 s t l (i+1);rw [qbW];unfold qc3 at ih ⊢;rw [List.filter_cons];obtain ⟨t1,t2⟩:=t;simp only [Prod.mk.injEq] at ih ⊢;by_cases h1:s=t1
  ·rw [if_pos h1] at ih ⊢
   rw [qcS];by_cases h2:x=t2
   ·rw [if_pos h2,if_pos (by simp [h1,h2]),List.map_cons,ih]
   ·rw [if_neg h2,if_neg (by simp [h2]),ih]
  ·rw [if_neg h1] at ih ⊢
   rw [if_neg (by simp [h1]),ih]
theorem ql1 {l:List Fd} (h:qdm l) (t:Tm):qc3 (qaP l) t=qaW l t:=by
 induction l with
 |nil=>rfl
 |cons f l ih=>
  rw [qdm,List.pairwise_cons] at h;rw [qaP,qsr,ql0,ih h.2];unfold qaW;rw [qcr];by_cases h1:f.1=t.1
  ·rw [if_pos h1,if_pos h1,qlZ (fun g hg e=>h.1 g hg (h1.trans e.symm)),qcS,List.append_nil]
  ·rw [if_neg h1,if_neg h1,List.nil_append]
theorem ql2 (s:Nm) (t:Tm):∀ (l:List Nm) (i:Nat),t∈(qbW s i l).map (·.1)↔t.1=s/\t.2∈l
 |[],i=>by simp [qbW]
 |x::l,i=>by
  rw [qbW,List.map_cons,List.mem_cons,ql2 s t l,List.mem_cons];obtain ⟨t1,t2⟩:=t;simp only [Prod.mk.injEq];constructor
  ·rintro (⟨h1,h2⟩|⟨h1,h2⟩)
   ·exact ⟨h1,.inl h2⟩
   ·exact ⟨h1,.inr h2⟩
  ·rintro ⟨h1,h2|h2⟩
   ·exact .inl ⟨h1,h2⟩
   ·exact .inr ⟨h1,h2⟩
theorem qge (t:Tm):∀ l:List Fd,t∈(qaP l).map (·.1)↔∃ f∈l,t.1=f.1/\t.2∈qaK f.2
 |[]=>by simp [qaP]
 |f::l=>by rw [qaP,List.map_append,List.mem_append,ql2,qge t l];simp
theorem qiE (s:Nm) (t:Tm):∀ (ws:List Nm) (a:List Tm),t∈ws.foldl (fun b x=>qdl b (s,x)) a↔t∈a∨(t.1=s/\t.2∈ws)
 |[],a=>by simp
 |x::ws,a=>by
  rw [List.foldl_cons,qiE s t ws,qlL,List.mem_cons];obtain ⟨t1,t2⟩:=t;simp only [Prod.mk.injEq];constructor
  ·rintro ((h|⟨h1,h2⟩)|⟨h1,h2⟩)
   ·exact .inl h
   ·exact .inr ⟨h1,.inl h2⟩
   ·exact .inr ⟨h1,.inr h2⟩
  ·rintro (h|⟨h1,h2|h2⟩)
   ·exact .inl (.inl h)
   ·exact .inl (.inr ⟨h1,h2⟩)
   ·exact .inr ⟨h1,h2⟩
theorem ql3 (l:List Fd) (t:Tm):∀ (m:List Fd) (a:List Tm),t∈m.foldl (fun a f=>(qcr l f.1).foldl (fun b x=>qdl b (f.1,x)) a) a↔t∈a∨∃ f∈m,t.1=f.1/\t.2∈qcr l f.1
 |[],a=>by simp
 |f::m,a=>by
  rw [List.foldl_cons,ql3 l t m,qiE];simp [or_assoc]
theorem qg3 {l:List Fd} (h:qdm l) (t:Tm):t∈qav l↔t∈(qaP l).map (·.1):=by
 rw [qav,ql3,qge];simp only [List.not_mem_nil,false_or];constructor
 ·rintro ⟨f,hf,h1,h2⟩;exact ⟨f,hf,h1,by rwa [qg2 h hf] at h2⟩
 ·rintro ⟨f,hf,h1,h2⟩;exact ⟨f,hf,h1,by rwa [qg2 h hf]⟩
def qeN (l:List Fd):Prop:=∀ f∈l,(0:UInt8)∉f.1
theorem ql4 {s:Nm} (h0:(0:UInt8)∉s):∀ (ws:List Nm) (a:List Tm),qdz a->(∀ t∈a,(0:UInt8)∉t.1)->qdz (ws.foldl (fun b x=>qdl b (s,x)) a)
 |[],a,h,_=>h
 |x::ws,a,h,hz=>ql4 h0 ws _ (qsf h hz h0) fun t ht=>by
  rcases qlL.1 ht with ht|rfl
  ·exact hz t ht
  ·exact h0
theorem ql5 (l:List Fd):∀ (m:List Fd) (a:List Tm),qeN m->qdz a->(∀ t∈a,(0:UInt8)∉t.1)->qdz (m.foldl (fun a f=>(qcr l f.1).foldl (fun b x=>qdl b (f.1,x)) a) a)
 |[],a,_,h,_=>h
 |f::m,a,hm,h,hz=>ql5 l m _ (fun g hg=>hm g (List.mem_cons_of_mem _ hg)) (ql4 (hm f (List.mem_cons_self ..)) _ _ h hz) fun t ht=>by
  rcases (qiE f.1 t _ _).1 ht with ht|⟨ht,_⟩
  ·exact hz t ht
  ·rw [ht];exact hm f (List.mem_cons_self ..)
theorem ql6 {l:List Fd} (h:qeN l):qdz (qav l):=ql5 l l [] h (by simp [qdz,qaG]) (by simp)
theorem ql7 {l:List Fd} (ha:qdm l) (h:qeN l) {t:Tm} (ht:t∈qav l):(0:UInt8)∉t.1:=by
 obtain ⟨f,hf,h1,_⟩:=(qge t l).1 ((qg3 ha t).1 ht);rw [h1];exact h f hf
theorem qss {l:List Fd} (ha:qdm l) (h0:qeN l) {ts:List Tm} (hp:ts.Perm ((qcz (qaP l)).map (·.1))) (hs:ts.Pairwise fun s t=>¬ qae t<qae s):ts=qav l:=by
 have hmem:∀ t,t∈ts↔t∈qav l:=fun t=>by rw [hp.mem_iff,qlY,qg3 ha]
 have hz:∀ t∈ts,(0:UInt8)∉t.1:=fun t ht=>ql7 ha h0 ((hmem t).1 ht)
 have hnd:ts.Nodup:=hp.nodup_iff.2 (qsq _);have hr:qdz ts:=by
  unfold qdz qaG;rw [List.pairwise_map];have h1:ts.Pairwise fun s t=>s∈ts/\t∈ts/\s≠t:=by
   rw [List.pairwise_iff_getElem];intro i j hi hj hij;exact ⟨List.getElem_mem hi,List.getElem_mem hj,fun e=>by have :=(List.getElem_inj hnd).1 e;omega⟩
  refine (hs.and h1).imp fun {s t} h=> ?_
  obtain ⟨h2,h3,h4,h5⟩:=h;rcases qdR (qae s) (qae t) with e|e|e
  ·exact e
  ·exact absurd (qix e (hz s h3) (hz t h4)) h5
  ·exact absurd e h2
 have h2:ts.map qae=(qav l).map qae:=qgX hr (ql6 h0) fun k=>by
  simp only [List.mem_map];constructor
  ·rintro ⟨t,ht,rfl⟩;exact ⟨t,(hmem t).1 ht,rfl⟩
  ·rintro ⟨t,ht,rfl⟩;exact ⟨t,(hmem t).2 ht,rfl⟩
 have hlen:ts.length=(qav l).length:=by simpa using congrArg List.length h2
 refine List.ext_getElem hlen fun i h3 h4=> ?_
 refine qix ?_ (hz _ (List.getElem_mem h3)) (ql7 ha h0 (List.getElem_mem h4));have h5:=List.getElem_of_eq h2 (i:=i) (by simpa using h3);simpa using h5
theorem ql8 {l:List Fd} (h:qdm l):(qaP l).length=qep l:=by
 have h1:∀ m:List Fd,(∀ f∈m,f∈l)->(qaP m).length=(m.map fun f=>(qcr l f.1).length).sum:=by
  intro m
  induction m with
  |nil=>intro _;rfl
  |cons f m ih=>
   intro hm;rw [qaP,List.length_append,qgd,ih fun g hg=>hm g (List.mem_cons_of_mem _ hg),List.map_cons,List.sum_cons,qg2 h (hm f (List.mem_cons_self ..))]
 exact h1 l fun f hf=>hf
theorem ql9:∀ {l:List Fd} {seen:List Nm} {n:Nat},qc2 seen n l=0->(∀ f∈l,qbk f.1=true/\f.1∉seen)/\qdm l/\n+(l.map fun f=>(qaK f.2).length).sum<=500
 |[],seen,n,h=>by
  rw [qc2] at h;split at h
  ·cases h
  ·exact ⟨by simp,List.Pairwise.nil,by simp;omega⟩
 |f::l,seen,n,h=>by
  rw [qc2] at h;split at h
  ·cases h
  ·rename_i h1
   split at h
   ·cases h
   ·rename_i h2
    split at h
    ·rename_i h3;exact absurd h h3
    ·obtain ⟨g1,g2,g3⟩:=ql9 h
     refine ⟨fun g hg=> ?_,List.pairwise_cons.2 ⟨fun g hg e=>(g1 g hg).2 (by rw [<- e];simp),g2⟩,by rw [List.map_cons,List.sum_cons];omega⟩;rcases List.mem_cons.1 hg with rfl|hg
     ·exact ⟨by simpa using h1,h2⟩
     ·exact ⟨(g1 g hg).1,fun e=>(g1 g hg).2 (List.mem_append_left _ e)⟩
theorem qst {l:List Fd} (h:qbb l=0):l.length<=8/\(∀ f∈l,qbk f.1=true)/\qdm l/\qeN l/\qep l<=500:=by
 unfold qbb at h;split at h
 ·cases h
 ·rename_i h8
  obtain ⟨g1,g2,g3⟩:=ql9 h;refine ⟨by omega,fun f hf=>(g1 f hf).1,g2,fun f hf=>qsd (g1 f hf).1,?_⟩;rw [<- ql8 g2];have :∀ m:List Fd,(qaP m).length=(m.map fun f=>(qaK f.2).length).sum:=by
   intro m
   induction m with
   |nil=>rfl
   |cons f m ih=>rw [qaP,List.length_append,qgd,ih,List.map_cons,List.sum_cons]
  rw [this];omega
theorem qg4 (x:Nm):∀ (l:List Nm) (i:Nat),∀ a∈qcS i l x,(i:Int)<=a
 |[],i,a,h=>by cases h
 |y::l,i,a,h=>by
  rw [qcS] at h;split at h
  ·rcases List.mem_cons.1 h with rfl|h
   ·exact Int.le_refl _
   ·have :=qg4 x l (i+1) a h;omega
  ·have :=qg4 x l (i+1) a h;omega
theorem qiF (x:Nm):∀ (l:List Nm) (i:Nat),(qcS i l x).Pairwise (· <·)
 |[],i=>List.Pairwise.nil
 |y::l,i=>by
  rw [qcS];split
  ·exact List.pairwise_cons.2 ⟨fun a ha=>by have :=qg4 x l (i+1) a ha;omega,qiF x l (i+1)⟩
  ·exact qiF x l (i+1)
theorem qma (x:Nm) (a:Int):∀ (l:List Nm) (i:Nat),a∈qcS i l x↔∃ k:Nat,a=((i+k:Nat):Int)/\l[k]?=some x
 |[],i=>by simp [qcS]
 |y::l,i=>by
  rw [qcS];have ih:=qma x a l (i+1);constructor
  ·intro h
   split at h
   ·rename_i hy
    rcases List.mem_cons.1 h with rfl|h
    ·exact ⟨0,by simp,by simp [hy]⟩
    ·obtain ⟨k,h1,h2⟩:=ih.1 h
     exact ⟨k+1,by rw [h1];congr 1;omega,by simpa using h2⟩
   ·obtain ⟨k,h1,h2⟩:=ih.1 h
    exact ⟨k+1,by rw [h1];congr 1;omega,by simpa using h2⟩
  ·rintro ⟨k,h1,h2⟩
   cases k with
   |zero=>
    have :y=x:=by simpa using h2
    rw [if_pos this];exact List.mem_cons.2 (.inl (by simpa using h1))
   |succ k=>
    have :=ih.2 ⟨k,by rw [h1];congr 1;omega,by simpa using h2⟩;split
    ·exact List.mem_cons_of_mem _ this
    ·exact this
end Go.Proofs.YtpehcaidjlemiaaGreatDoor
