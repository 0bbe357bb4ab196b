import Derived.Test.YtpehcaidjlemiaaGreatDoorMCZz
import Derived.Test.YtpehcaidjlemiaaGreatDoorMCQ05
import Derived.Test.YtpehcaidjlemiaaGreatDoorMCQ04
import Derived.Test.YtpehcaidjlemiaaGreatDoorMCQ01
import Derived.Shelf.SlSorted.Search
import Derived.BigCall
import Derived.BigQuiet
import Derived.Deep.QuietTactic
import Derived.Test.YtpehcaidjlemiaaGreatDoorMCQ02
import Derived.Deep.RegionLaw
import Derived.Deep.RegionHeld3
import Derived.Deep.AppendLies
set_option maxHeartbeats 4000000
set_option maxRecDepth 100000
set_option linter.unusedVariables false
namespace Go.Proofs.YtpehcaidjlemiaaGreatDoor
open Go
abbrev GP:=Nm × List Pn
def qb8:List GP->Nm->Pn->List GP
 |[],t,a=>[(t,[a])]
 |p::g,t,a=>if p.1=t then (p.1,p.2++[a])::g else p::qb8 g t a
def qbB:List GP->Nm->List Pn
 |[],_=>[]
 |p::g,t=>if p.1=t then p.2 else qbB g t
theorem qmO (t u:Nm) (a:Pn):∀ g:List GP,qbB (qb8 g t a) u=if t=u then qbB g u++[a] else qbB g u
 |[]=>by by_cases h:t=u<;>simp [qb8,qbB,h]
 |p::g=>by
  rw [qb8];by_cases h1:p.1=t
  ·rw [if_pos h1,qbB,qbB]
   by_cases h2:t=u
   ·rw [if_pos h2,if_pos (h1.trans h2),if_pos (h1.trans h2)]
   ·rw [if_neg h2,if_neg (fun e=>h2 (h1.symm.trans e)),if_neg (fun e=>h2 (h1.symm.trans e))]
  ·rw [if_neg h1,qbB,qbB,qmO t u a g]
   by_cases h2:p.1=u
   ·rw [if_pos h2,if_pos h2,if_neg (fun e=>h1 (h2.trans e.symm))]
   ·rw [if_neg h2,if_neg h2]
theorem qiX (t:Nm) (a:Pn):∀ g:List GP,(qb8 g t a).map (·.1)=if t∈g.map (·.1) then g.map (·.1) else g.map (·.1)++[t]
 |[]=>by simp [qb8]
 |p::g=>by
  rw [qb8];by_cases h1:p.1=t
  ·rw [if_pos h1,if_pos (by simp [h1])]
   simp
  ·rw [if_neg h1,List.map_cons,qiX t a g]
   by_cases h2:t∈g.map (·.1)
   ·rw [if_pos h2,if_pos (show t∈(p::g).map (·.1) from List.mem_cons_of_mem _ h2)]
    simp
   ·rw [if_neg h2,if_neg (by rw [List.map_cons,List.mem_cons];exact fun h=>h.elim (fun e=>h1 e.symm) h2)]
    simp
theorem qtb {t:Nm} {a:Pn} {g:List GP} {x:Nm}:x∈(qb8 g t a).map (·.1)↔x∈g.map (·.1)∨x=t:=by
 rw [qiX];split
 ·rename_i h
  exact ⟨.inl,fun h'=>h'.elim id fun e=>e▸h⟩
 ·rw [List.mem_append,List.mem_singleton]
theorem qtc {t:Nm} {a:Pn} {g:List GP} (h:(g.map (·.1)).Nodup):((qb8 g t a).map (·.1)).Nodup:=by
 rw [qiX];split
 ·exact h
 ·rename_i hn
  rw [List.nodup_append];exact ⟨h,by simp,fun x hx y hy e=>by rw [List.mem_singleton] at hy;subst hy;subst e;exact hn hx⟩
def qbY (i:Nat) (d:List Fd) (g:List GP) (ts:List Tm):List GP:=ts.foldl (fun g t=>qb8 g (qae t) ((i:Int),qaX d t)) g
theorem qtd {i:Nat} {d:List Fd} {g:List GP} {ts:List Tm} {k:Nat} (hk:k<ts.length):qbY i d g (ts.take (k+1))=qb8 (qbY i d g (ts.take k)) (qae ts[k]) ((i:Int),qaX d ts[k]):=by
 unfold qbY;rw [List.take_succ_eq_append_getElem hk,List.foldl_append];rfl
theorem qiY (i:Nat) (d:List Fd) (key:Nm):∀ (ts:List Tm) (g:List GP),qbB (qbY i d g ts) key=qbB g key++qbe i d ts key
 |[],g=>by simp [qbY,qbe]
 |t::ts,g=>by
  rw [show qbY i d g (t::ts)=qbY i d (qb8 g (qae t) ((i:Int),qaX d t)) ts from rfl,qiY i d key ts,qmO]
  unfold qbe;by_cases h:qae t=key
  ·rw [if_pos h,List.filter_cons_of_pos (by simpa using h),List.map_cons,List.append_assoc]
   rfl
  ·rw [if_neg h,List.filter_cons_of_neg (by simpa using h)]
theorem qmP (i:Nat) (d:List Fd):∀ (ts:List Tm) (g:List GP),(g.map (·.1)).Nodup->((qbY i d g ts).map (·.1)).Nodup
 |[],g,h=>h
 |t::ts,g,h=>qmP i d ts _ (qtc h)
theorem qmQ (i:Nat) (d:List Fd) {x:Nm}:∀ (ts:List Tm) (g:List GP),x∈(qbY i d g ts).map (·.1)↔x∈g.map (·.1)∨∃ t∈ts,qae t=x
 |[],g=>by simp [qbY]
 |t::ts,g=>by
  rw [show qbY i d g (t::ts)=qbY i d (qb8 g (qae t) ((i:Int),qaX d t)) ts from rfl,qmQ i d ts,qtb]
  constructor
  ·rintro ((h|h)|⟨t',h1,h2⟩)
   ·exact .inl h
   ·exact .inr ⟨t,List.mem_cons_self ..,h.symm⟩
   ·exact .inr ⟨t',List.mem_cons_of_mem _ h1,h2⟩
  ·rintro (h|⟨t',h1,h2⟩)
   ·exact .inl (.inl h)
   ·rcases List.mem_cons.1 h1 with rfl|h1
    ·exact .inl (.inr h2.symm)
    ·exact .inr ⟨t',h1,h2⟩
structure qdR (g:List GP) (l:List En):Prop where
 posts:∀ key,qbB g key=qag 0 l key
 nodup:(g.map (·.1)).Nodup
 keys:∀ x,x∈g.map (·.1)↔x∈qaf l
theorem qdR.nil:qdR [] []:=⟨fun _=>rfl,List.nodup_nil,fun x=>by simp [qaf]⟩
theorem qdR.turned {g:List GP} {l:List En} (h:qdR g l) (q:En):qdR (qbY l.length q.2.1 g (qas q.2.1)) (l++[q]):=by
 refine ⟨fun key=> ?_,qmP _ _ _ _ h.nodup,fun x=> ?_⟩
 ·rw [qiY,h.posts,qhf,Nat.zero_add]
 ·rw [qmQ,h.keys,qez,qez]
  constructor
  ·rintro (⟨q',hq',h'⟩|h')
   ·exact ⟨q',List.mem_append_left _ hq',h'⟩
   ·exact ⟨q,by simp,h'⟩
  ·rintro ⟨q',hq',h'⟩
   rcases List.mem_append.1 hq' with hq'|hq'
   ·exact .inl ⟨q',hq',h'⟩
   ·rw [List.mem_singleton.1 hq'] at h';exact .inr h'
theorem qte (l:List En):(qaf l).Nodup:=List.Pairwise.imp (fun h e=>by subst e;exact absurd h (List.lt_irrefl _)) (qgs l)
theorem qdR.perm {g:List GP} {l:List En} (h:qdR g l):(g.map (·.1)).Perm (qaf l):=(List.perm_ext_iff_of_nodup h.nodup (qte l)).2 h.keys
theorem qdR.length {g:List GP} {l:List En} (h:qdR g l):g.length=(qaf l).length:=by have :=h.perm.length_eq;rwa [List.length_map] at this
theorem qtf {ks:List Nm} {l:List En} (h:ks.Perm (qaf l)):ks.mergeSort (fun x y=>decide (x<=y))=qaf l:=by
 have hp:=(List.mergeSort_perm ks (fun x y=>decide (x<=y))).trans h;have hs:(ks.mergeSort fun x y=>decide (x<=y)).Pairwise (fun x y:Nm=>x<=y):=by
  have :=List.pairwise_mergeSort (le:=fun x y:Nm=>decide (x<=y)) (fun a b c h1 h2=>by
   simp only [decide_eq_true_eq] at*;exact List.le_trans h1 h2) (fun a b=>by
   simp only [Bool.or_eq_true,decide_eq_true_eq];exact List.le_total a b) ks
  exact this.imp fun h=>by simpa using h
 refine hp.eq_of_pairwise (le:=fun x y:Nm=>x<=y) (fun a b _ _ h1 h2=>List.le_antisymm h1 h2) hs ((qgs l).imp fun h=>Std.le_of_lt h)
abbrev Po:=Int × List Int
def qcS (ps:List Int):Bool:=qaj (-1) ps&&(!ps.isEmpty)&&decide (ps.getLastD 0<2147483648)
def qaT:Int->List Po->Bool
 |_,[]=>true
 |last,p::r=>decide (last<p.1)&&decide (p.1<2147483648)&&qcS p.2&&qaT p.1 r
theorem qfN {ps:List Int}:qcS ps=true↔qaj (-1) ps=true/\ps≠[]/\ps.getLastD 0<2147483648:=by
 simp [qcS,and_assoc]
theorem qeA {last:Int} {p:Po} {r:List Po}:qaT last (p::r)=true↔last<p.1/\p.1<2147483648/\qcS p.2=true/\qaT p.1 r=true:=by
 simp [qaT,and_assoc]
theorem qiZ:∀ {ps:List Int} {x:Int},qaj x ps=true->∀ y∈ps,x<y/\y<=ps.getLastD 0
 |[],_,_=>by simp
 |n::r,x,h=>by
  rw [qaj,Bool.and_eq_true,decide_eq_true_iff] at h;have ih:=qiZ h.2;intro y hy;rcases List.mem_cons.1 hy with rfl|hy
  ·refine ⟨h.1,?_⟩
   cases r with
   |nil=>simp
   |cons m r'=>
    have :=ih m (by simp);have e:(y::m::r').getLastD 0=(m::r').getLastD 0:=by simp [List.getLastD]
    rw [e];omega
  ·have :=ih y hy
   refine ⟨by omega,?_⟩;cases r with
   |nil=>cases hy
   |cons m r'=>
    have e:(n::m::r').getLastD 0=(m::r').getLastD 0:=by simp [List.getLastD]
    rw [e];exact this.2
theorem qmR:∀ {l:List Int},l≠[]->l.getLastD 0∈l
 |[],h=>absurd rfl h
 |[a],_=>by simp
 |a::b::r,_=>by
  have e:(a::b::r).getLastD 0=(b::r).getLastD 0:=by simp [List.getLastD]
  rw [e];exact List.mem_cons_of_mem _ (qmR (l:=b::r) (by simp))
theorem qhj {ps:List Int} (h:qcS ps=true):∀ y∈ps,0<=y/\y<2147483648:=by
 obtain ⟨h1,_,h3⟩:=qfN.1 h;intro y hy;have :=qiZ h1 y hy;omega
def qab:Int->List Po->List UInt8
 |_,[]=>[]
 |last,p::r=>qah (p.1-(last+1)).toNat++(qbv p.2++qab p.1 r)
def qaC:Int->List Po->Int
 |last,[]=>last
 |_,p::r=>qaC p.1 r
theorem qeZ:∀ (a b:List Po) (last:Int),qab last (a++b)=qab last a++qab (qaC last a) b
 |[],b,last=>rfl
 |p::r,b,last=>by simp [qab,qaC,qeZ r b p.1,List.append_assoc]
theorem qi0:∀ (a b:List Po) (last:Int),qaC last (a++b)=qaC (qaC last a) b
 |[],_,_=>rfl
 |p::r,b,_=>by simp [qaC,qi0 r b p.1]
theorem qei:∀ (a b:List Po) (last:Int),qaT last (a++b)=(qaT last a&&qaT (qaC last a) b)
 |[],b,last=>by simp [qaT,qaC]
 |p::r,b,last=>by simp [qaT,qaC,qei r b p.1,Bool.and_assoc]
theorem qhk:∀ (l:List Po) (last:Int),qaT last l=true->last<=qaC last l
 |[],_,_=>Int.le_refl _
 |p::r,last,h=>by
  have :=qeA.1 h;have ih:=qhk r p.1 this.2.2.2;rw [qaC];omega
theorem qmS:∀ (l:List Po) (last:Int),qaT last l=true->last<2147483648->qaC last l<2147483648
 |[],_,_,h=>h
 |p::r,last,h,_=>by
  have :=qeA.1 h;exact qmS r p.1 this.2.2.2 this.2.1
def qai:List Po->Nat
 |[]=>0
 |p::r=>p.2.length+qai r
theorem qmT {ps:List Int} (h:qcS ps=true) (hl:ps.length<9223372036854775808):(qbv ps).length<=9+9*ps.length:=by
 have hb:=qhj h;have h1:=qiW ps (-1) (by omega) (qfN.1 h).1 fun x hx=>by have :=hb x hx;omega
 have h2:=qeX hl;rw [qbv,List.length_append];omega
theorem qi1:∀ (l:List Po) (last:Int), -1<=last->qaT last l=true->(∀ p∈l,p.2.length<9223372036854775808)->(qab last l).length<=18*l.length+9*qai l
 |[],_,_,_,_=>by simp [qab]
 |p::r,last,h0,h,hl=>by
  obtain ⟨h1,h2,h3,h4⟩:=qeA.1 h;have ih:=qi1 r p.1 (by omega) h4 fun q hq=>hl q (by simp [hq])
  have e1:=qeX (n:=(p.1-(last+1)).toNat) (by omega);have e2:=qmT h3 (hl p (by simp));rw [qab,List.length_append,List.length_append,List.length_cons,qai];omega
theorem qtg {pre post:List UInt8} {last d:Int} {ps:List Int} {r:List Po} (h0: -1<=last) (hd:last<d) (hd2:d<2147483648) (hp:qcS ps=true) (hl:ps.length<9223372036854775808):
  qbA (pre++(qab last ((d,ps)::r)++post)) (pre.length:Int)=(d-(last+1),((pre.length+(qah (d-(last+1)).toNat).length:Nat):Int),0)/\
  qcR (pre++(qab last ((d,ps)::r)++post)) ((pre.length+(qah (d-(last+1)).toNat).length:Nat):Int)=(ps,((pre.length+((qah (d-(last+1)).toNat).length+(qbv ps).length):Nat):Int),0):=by
 have hb:=qhj hp;have e1:pre++(qab last ((d,ps)::r)++post)=pre++(qah (d-(last+1)).toNat++(qbv ps++(qab d r++post))):=by simp [qab,List.append_assoc]
 have e2:pre++(qab last ((d,ps)::r)++post)=(pre++qah (d-(last+1)).toNat)++(qbv ps++(qab d r++post)):=by simp [qab,List.append_assoc]
 refine ⟨?_,?_⟩
 ·rw [e1,qmK (by omega)]
  simp only [Prod.mk.injEq,and_true];omega
 ·have :=qs9 (g:=ps) (qfN.1 hp).1 (fun x hx=>by have :=hb x hx;omega) hl (pre++qah (d-(last+1)).toNat) (qab d r++post)
  rw [List.length_append] at this;rw [e2,this];simp [Nat.add_assoc]
def qay (n:Nat):Nat:=(n+7)/8
def qbL (l:List Po) (k:Int):List Po:=if k<0 then [] else (l.drop (8*k.toNat)).take 8
theorem qth {l:List Po} {k:Int} (h:k<0):qbL l k=[]:=by unfold qbL;rw [if_pos h]
theorem qgu {l:List Po} (k:Nat):qbL l (k:Int)=(l.drop (8*k)).take 8:=by unfold qbL;rw [if_neg (by omega),Int.toNat_natCast]
theorem qti {l:List Po} {k:Nat} (h:qay l.length<=k):qbL l (k:Int)=[]:=by
 rw [qgu,List.drop_eq_nil_of_le (by unfold qay at h;omega)];rfl
theorem qi2 {l:List Po} (k:Nat):(qbL l (k:Int)).length=min 8 (l.length-8*k):=by rw [qgu,List.length_take,List.length_drop]
theorem qi3 (l:List Po) (k:Nat):l.take (8*(k+1))=l.take (8*k)++qbL l (k:Int):=by
 rw [qgu,Nat.mul_add,Nat.mul_one,List.take_add]
theorem qtj {d:List Fd} (h:qdx d) (t:Tm):(qaX d t).length=((qaS d).filter fun p=>decide (p.1=t)).length:=by
 rw [<- qmd h t];simp [qdc]
theorem qmU {d:List Fd} (h:qdy d) {t:Tm} (ht:t∈qas d):0<(qaX d t).length:=by
 obtain ⟨p,hp,e⟩:=List.mem_map.1 ((qhc h.apart t).1 ht);rw [qtj h.apart];exact List.length_pos_of_mem (List.mem_filter.2 ⟨hp,by simpa using e⟩)
theorem qtk {d:List Fd} (h:qdy d) (t:Tm):(qaX d t).length<=500:=Nat.le_trans (qiD _ _ _) (h.wordsS _)
theorem qi4 {key:Nm}:∀ {l:List En} {i:Nat},(∃ q∈l,∃ t∈qas q.2.1,qae t=key)->0<(qag i l key).length
 |[],i,⟨q,hq,_⟩=>by cases hq
 |q::l,i,⟨x,hx,t,ht,e⟩=>by
  rw [qag,List.length_append];rcases List.mem_cons.1 hx with rfl|hx
  ·have :0<(qbe i x.2.1 (qas x.2.1) key).length:=by
    unfold qbe;rw [List.length_map];exact List.length_pos_of_mem (List.mem_filter.2 ⟨ht,by simpa using e⟩)
   omega
  ·have :=qi4 (i:=i+1) ⟨x,hx,t,ht,e⟩
   omega
theorem qmV {key:Nm} {p:Pn}:∀ {l:List En} {i:Nat},p∈qag i l key->∃ q∈l,∃ t∈qas q.2.1,p.2=qaX q.2.1 t
 |[],i,h=>by cases h
 |q::l,i,h=>by
  rw [qag] at h;rcases List.mem_append.1 h with h|h
  ·unfold qbe at h
   obtain ⟨t,ht,rfl⟩:=List.mem_map.1 h;exact ⟨q,List.mem_cons_self ..,t,(List.mem_filter.1 ht).1,rfl⟩
  ·obtain ⟨x,hx,t,ht,e⟩:=qmV h
   exact ⟨x,List.mem_cons_of_mem _ hx,t,ht,e⟩
theorem qhl {l:List En} (hg:qcQ l) {key:Nm}:∀ p∈qag 0 l key,0<p.2.length/\p.2.length<=500:=fun p hp=>by
 obtain ⟨q,hq,t,ht,e⟩:=qmV hp;rw [e];exact ⟨qmU (hg q hq) ht,qtk (hg q hq) t⟩
theorem qi5 {i:Nat} {d:List Fd} (h:qeW d) (key:Nm):qbe i d (qas d) key=[]∨∃ t∈qas d,qbe i d (qas d) key=[((i:Int),qaX d t)]:=by
 have h1:=qmi h;unfold qdH qaH at h1;rw [List.pairwise_map] at h1;have h2:=h1.filter (fun t=>decide (qae t=key));unfold qbe
 match hs:(qas d).filter fun t=>decide (qae t=key) with
 |[]=>exact .inl rfl
 |[t]=>exact .inr ⟨t,(List.mem_filter.1 (hs▸List.mem_singleton_self t)).1,rfl⟩
 |t::u::s=>
  rw [hs] at h2;have h3:=(List.pairwise_cons.1 h2).1 u (List.mem_cons_self ..);have mt:t∈(qas d).filter fun t=>decide (qae t=key):=by rw [hs];exact List.mem_cons_self ..
  have mu:u∈(qas d).filter fun t=>decide (qae t=key):=by rw [hs];exact List.mem_cons_of_mem _ (List.mem_cons_self ..)
  have ht:qae t=key:=by simpa using (List.mem_filter.1 mt).2
  have hu:qae u=key:=by simpa using (List.mem_filter.1 mu).2
  rw [ht,hu] at h3;exact absurd h3 (List.lt_irrefl _)
theorem qfO {l:List En} (hg:qcQ l) {key:Nm}:∀ (m:List En) (i:Nat),(∀ q∈m,q∈l)->(qag i m key).length<=m.length
 |[],i,_=>by simp [qag]
 |q::m,i,h=>by
  have ih:=qfO hg (key:=key) m (i+1) fun x hx=>h x (List.mem_cons_of_mem _ hx)
  rw [qag,List.length_append,List.length_cons];rcases qi5 (i:=i) (hg q (h q (List.mem_cons_self ..))).zero key with e|⟨t,_,e⟩<;>rw [e]<;>simp <;>omega
theorem qfr:∀ {ps:List Int} {x:Int},ps.Pairwise (· <·)->(∀ a∈ps,x<a)->qaj x ps=true
 |[],x,_,_=>rfl
 |p::ps,x,h,hx=>by
  rw [List.pairwise_cons] at h;rw [qaj,qfr h.2 h.1,Bool.and_true];exact decide_eq_true (hx p (List.mem_cons_self ..))
theorem qtl {d:List Fd} (h:qdy d) {t:Tm} (ht:t∈qas d):qcS (qaX d t)=true:=by
 have h0:=qmU h ht;have hne:qaX d t≠[]:=fun e=>by rw [e] at h0;cases h0
 rw [qfN];refine ⟨qfr (qiN _ _ _) fun a ha=> ?_,hne,?_⟩
 ·have :=qhd _ _ _ a ha
  omega
 ·have hm:(qaX d t).getLastD 0∈qaX d t:=by
   rw [List.getLastD_eq_getLast?,List.getLast?_eq_some_getLast hne];exact List.getLast_mem hne
  obtain ⟨k,hk,hk2⟩:=(qmm _ _ _ _).1 hm;have hl:=(List.getElem?_eq_some_iff.1 hk2).1;have :=h.wordsS t.1;rw [hk];omega
theorem qi6 {key:Nm}:∀ {l:List En} {i:Nat} {last:Int},qcQ l->last<i->i+l.length<=2147483648->qaT last (qag i l key)=true
 |[],i,last,_,_,_=>rfl
 |q::l,i,last,hg,hl,hi=>by
  have hq:=hg q (List.mem_cons_self ..);rw [List.length_cons] at hi;have ih:=fun (last:Int) (h:last<((i+1:Nat):Int))=>qi6 (key:=key) (l:=l) (i:=i+1) (last:=last) (fun x hx=>hg x (List.mem_cons_of_mem _ hx)) h (by omega)
  rw [qag];rcases qi5 (i:=i) hq.zero key with e|⟨t,ht,e⟩
  ·rw [e,List.nil_append]
   exact ih last (by push_cast;omega)
  ·rw [e,List.singleton_append,qeA]
   exact ⟨hl,by show (i:Int)<2147483648;omega,qtl hq ht,ih _ (by push_cast;omega)⟩
structure qbM where
 ids:List Int
 seqs:List Int
 keys:List Nm
 lists:List (List Pn)
deriving DecidableEq
def qcx (n:Nat) (l:List Pn):Bool:=qaT (-1) l&&(decide (l.length≠0)&&decide (∀ p,l.getLast?=some p->p.1<(n:Int)))
def qd0 (x:qbM):Bool:=decide (x.ids.length=x.seqs.length)&&(decide (x.keys.length=x.lists.length)&&(qaj (-1) x.seqs&&(qda x.keys&&x.lists.all (qcx x.ids.length))))
def qac (l:List En):qbM:=⟨l.map (·.1),l.map (·.2.2),qaf l,(qaf l).map fun k=>qag 0 l k⟩
def atP:List Nm->List (List Pn)->Nm->List Pn
 |k::ks,l::ls,key=>if k=key then l else atP ks ls key
 |_,_,_=>[]
theorem qmW {key:Nm}:∀ {ks:List Nm} {ls:List (List Pn)},(∀ k∈ks,k≠key)->atP ks ls key=[]
 |[],_,_=>by simp [atP]
 |k::ks,[],_=>by simp [atP]
 |k::ks,l::ls,h=>by rw [atP,if_neg (h k (List.mem_cons_self ..)),qmW fun x hx=>h x (List.mem_cons_of_mem _ hx)]
theorem qmX {key:Nm}:∀ {ks:List Nm} {ls:List (List Pn)} {i:Nat} (hi:i<ks.length) (hl:i<ls.length),ks[i]=key->(∀ j (hj:j<ks.length),j<i->ks[j]≠key)->atP ks ls key=ls[i]
 |[],_,i,hi,_,_,_=>by simp at hi
 |k::ks,[],i,_,hl,_,_=>by simp at hl
 |k::ks,l::ls,0,_,_,h,_=>by simp at h;simp [atP,h]
 |k::ks,l::ls,i+1,hi,hl,h,hn=>by
  have h0:=hn 0 (by simp) (by omega);simp at h0;rw [atP,if_neg h0];simpa using qmX (ks:=ks) (ls:=ls) (i:=i) (by simpa using hi) (by simpa using hl) (by simpa using h) fun j hj hji=>by
   have :=hn (j+1) (by simpa using hj) (by omega);rw [zC] at this;exact this
def qdB (x:qbM) (key:Nm):List Pn:=atP x.keys x.lists key
theorem qmY (f:Nm->List Pn) (key:Nm):∀ ks:List Nm,atP ks (ks.map f) key=if key∈ks then f key else []
 |[]=>by simp [atP]
 |k::ks=>by
  rw [List.map_cons,atP,qmY f key ks];by_cases h:k=key
  ·rw [if_pos h,if_pos (by rw [h];exact List.mem_cons_self ..),h]
  ·rw [if_neg h]
   by_cases h2:key∈ks
   ·rw [if_pos h2,if_pos (List.mem_cons_of_mem _ h2)]
   ·rw [if_neg h2,if_neg (fun e=>(List.mem_cons.1 e).elim (fun e=>h e.symm) h2)]
theorem qi7 {key:Nm}:∀ {l:List En} {i:Nat},(∀ q∈l,∀ t∈qas q.2.1,qae t≠key)->qag i l key=[]
 |[],i,_=>rfl
 |q::l,i,h=>by
  rw [qag,qi7 fun x hx=>h x (List.mem_cons_of_mem _ hx),List.append_nil];unfold qbe;rw [List.filter_eq_nil_iff.2 fun t ht=>by simpa using h q (List.mem_cons_self ..) t ht];rfl
theorem qi8 (l:List En) (key:Nm):qdB (qac l) key=qag 0 l key:=by
 unfold qdB qac;rw [qmY];split
 ·rfl
 ·rename_i h
  exact (qi7 fun q hq t ht e=>h (qez.2 ⟨q,hq,t,ht,e⟩)).symm
def qbf (r:List Bool):List Nat:=(List.range r.length).filter fun k=>r.getD k false
def qi9 (x:qbM) (r:List Bool):List Int:=(qbf r).map fun k=>x.seqs.getD k 0
def qaY (Ls:List (List En)) (p:Pl):En:=(Ls.getD p.1 []).getD p.2 (0,[],0)
theorem qtm (i j:Nat) (d:List Fd) (ts:List Tm) (key:Nm):(qbe i d ts key).map (fun q=>((j:Int),q.2))=qbe j d ts key:=by
 simp [qbe]
def InE (Ls:List (List En)) (p:Pl):Prop:=p.1<Ls.length/\p.2<(Ls.getD p.1 []).length
theorem qja {key:Nm} {l:List En} {i:Nat}:qag i l key≠[]↔∃ q∈l,∃ t∈qas q.2.1,qae t=key:=by
 constructor
 ·intro h
  apply Classical.byContradiction;intro hn;exact h (qi7 fun q hq t ht e=>hn ⟨q,hq,t,ht,e⟩)
 ·intro h e
  have :=qi4 (i:=i) h;rw [e] at this;simp at this
abbrev qdg (g:List En):Prop:=g.Pairwise fun p q=>p.2.2<q.2.2
def qaq (L:List En):List Int:=L.map (·.2.2)
theorem qtn {a b:List En} (ha:qdg a) (hb:qdg b) (h:∀ x,x∈a↔x∈b):a=b:=
 qhi (R:=fun p q:En=>p.2.2<q.2.2) (fun _ h=>Int.lt_irrefl _ h) (fun _ _ h k=>Int.lt_irrefl _ (Int.lt_trans h k)) ha hb h
theorem qgv {Ls:List (List En)} {p:Pl}:InO (Ls.map qaq) p↔InE Ls p:=by
 unfold InO InE;rw [List.length_map];refine and_congr_right fun h=> ?_
 rw [List.getD_eq_getElem?_getD,List.getElem?_map,List.getElem?_eq_getElem h,List.getD_eq_getElem?_getD,List.getElem?_eq_getElem h];simp [qaq]
theorem qmZ {Ls:List (List En)} {p:Pl} (h:InE Ls p):qaK (Ls.map qaq) p=(qaY Ls p).2.2:=by
 obtain ⟨h1,h2⟩:=h;have e:Ls.getD p.1 []=Ls[p.1]:=by rw [List.getD_eq_getElem?_getD,List.getElem?_eq_getElem h1];rfl
 rw [e] at h2;rw [qaK,qaY,e,List.getD_eq_getElem?_getD (l:=Ls.map qaq),List.getElem?_map,List.getElem?_eq_getElem h1];simp [qaq,List.getD_eq_getElem?_getD,List.getElem?_eq_getElem h2]
theorem qto {Ls:List (List En)} {x:En}:(∃ p,InE Ls p/\qaY Ls p=x)↔∃ L∈Ls,x∈L:=by
 constructor
 ·rintro ⟨p,⟨h1,h2⟩,rfl⟩
  have e:Ls.getD p.1 []=Ls[p.1]:=by rw [List.getD_eq_getElem?_getD,List.getElem?_eq_getElem h1];rfl
  rw [e] at h2;refine ⟨Ls[p.1],List.getElem_mem _,?_⟩;rw [qaY,e,List.getD_eq_getElem?_getD,List.getElem?_eq_getElem h2];exact List.getElem_mem _
 ·rintro ⟨L,hL,hx⟩
  obtain ⟨i,hi,rfl⟩:=List.getElem_of_mem hL;obtain ⟨k,hk,rfl⟩:=List.getElem_of_mem hx;refine ⟨(i,k),⟨hi,?_⟩,?_⟩
  ·simpa [List.getD_eq_getElem?_getD,List.getElem?_eq_getElem hi] using hk
  ·simp [qaY,List.getD_eq_getElem?_getD,List.getElem?_eq_getElem hi,List.getElem?_eq_getElem hk]
theorem qjb {Ls:List (List En)} {o:List Pl} (h:qb7 (Ls.map qaq) o):qdg (o.map (qaY Ls))/\∀ x,x∈o.map (qaY Ls)↔∃ L∈Ls,x∈L:=by
 constructor
 ·refine List.pairwise_map.2 (h.rise.imp_of_mem fun {p q} hp hq hpq=> ?_)
  rwa [qmZ (qgv.1 ((h.mem p).1 hp)),qmZ (qgv.1 ((h.mem q).1 hq))] at hpq
 ·intro x
  rw [<- qto,List.mem_map];exact exists_congr fun p=>and_congr_left fun _=>(h.mem p).trans qgv
theorem qtp {Ls:List (List En)} {o:List Pl} {g:List En} (h:qb7 (Ls.map qaq) o) (hg:qdg g) (hm:∀ x,x∈g↔∃ L∈Ls,x∈L):o.map (qaY Ls)=g:=
 qtn (qjb h).1 hg fun x=>((qjb h).2 x).trans (hm x).symm
theorem qm0 {l:List (List Int)} (h:l.flatten.Nodup):¬ qdP l:=by
 obtain ⟨h1,h2⟩:=List.pairwise_flatten.1 h;rintro ⟨⟨i,k⟩,⟨j,m⟩,hp,hq,e,hn⟩;obtain ⟨hi,hk⟩:=qdf.1 hp;obtain ⟨hj,hm⟩:=qdf.1 hq;rw [qfq hi hk,qfq hj hm] at e;rcases Nat.lt_trichotomy i j with hij|hij|hij
 ·exact List.pairwise_iff_getElem.1 h2 i j hi hj hij _ (List.getElem_mem hk) _ (List.getElem_mem hm) e
 ·subst hij
  have hnd:=h1 _ (List.getElem_mem hi);rcases Nat.lt_trichotomy k m with hkm|hkm|hkm
  ·exact List.pairwise_iff_getElem.1 hnd k m hk hm hkm e
  ·exact hn (by rw [hkm])
  ·exact List.pairwise_iff_getElem.1 hnd m k hm hk hkm e.symm
 ·exact List.pairwise_iff_getElem.1 h2 j i hj hi hij _ (List.getElem_mem hm) _ (List.getElem_mem hk) e.symm
def qb9 (L:List En) (r:List Bool):List En:=(qbf r).map fun k=>L.getD k (0,[],0)
def qaw:List (List En)->List (List Bool)->List (List En)
 |L::Ls,r::rs=>qb9 L r::qaw Ls rs
 |_,_=>[]
theorem qjc {r:List Bool} {k:Nat} (h:k∈qbf r):k<r.length:=List.mem_range.1 (List.mem_filter.1 h).1
theorem qm1 {α:Type} (d:α):∀ (L:List α),(List.range L.length).map (fun k=>L.getD k d)=L:=fun L=>by
 apply List.ext_getElem (by simp);intro i h1 h2;simp [List.getD_eq_getElem?_getD,List.getElem?_eq_getElem h2]
theorem qm2 {L:List En} {r:List Bool} (h:r.length=L.length):(qb9 L r).Sublist L:=by
 have h1:((List.range r.length).filter fun k=>r.getD k false).Sublist (List.range r.length):=List.filter_sublist;have h2:=h1.map fun k=>L.getD k (0,[],0)
 rw [h,qm1] at h2;unfold qb9 qbf;rw [h];exact h2
theorem qtq {L:List En} {r:List Bool} (h:r.length=L.length):qi9 (qac L) r=qaq (qb9 L r):=by
 unfold qi9 qaq qb9 qac;rw [List.map_map];refine List.map_congr_left fun k hk=> ?_
 have hk2:k<L.length:=by have :=qjc hk;omega
 simp [List.getD_eq_getElem?_getD,List.getElem?_eq_getElem hk2]
def qhm:List qbM->List (List Bool)->List (List Int)
 |x::xs,r::rs=>qi9 x r::qhm xs rs
 |_,_=>[]
inductive qbg:List (List En)->List (List Bool)->Prop
 |nil:qbg [] []
 |cons {L:List En} {r:List Bool} {Ls:List (List En)} {rs:List (List Bool)}:r.length=L.length->qbg Ls rs->qbg (L::Ls) (r::rs)
theorem qjd:∀ {Ls:List (List En)} {rs:List (List Bool)},qbg Ls rs->qhm (Ls.map qac) rs=(qaw Ls rs).map qaq
 |_,_,.nil=>rfl
 |_,_,.cons h hs=>by rw [List.map_cons,qhm,qaw,List.map_cons,qtq h,qjd hs]
theorem qm3:∀ {Ls:List (List En)} {rs:List (List Bool)},qbg Ls rs->(qaw Ls rs).flatten.Sublist Ls.flatten
 |_,_,.nil=>List.Sublist.refl _
 |_,_,.cons h hs=>by
  rw [qaw,List.flatten_cons,List.flatten_cons];exact (qm2 h).append (qm3 hs)
theorem qje {x:En}:∀ {Ls:List (List En)} {rs:List (List Bool)},qbg Ls rs->∀ L∈qaw Ls rs,∃ K∈Ls,L.Sublist K
 |_,_,.nil,L,h=>by simp [qaw] at h
 |_,_,.cons h hs,L,hL=>by
  rcases List.mem_cons.1 hL with rfl|hL
  ·exact ⟨_,List.mem_cons_self ..,qm2 h⟩
  ·obtain ⟨K,hK,hs⟩:=qje (x:=x) hs L hL
   exact ⟨K,List.mem_cons_of_mem _ hK,hs⟩
def qbZ (rs:List (List Bool)) (o:List Pl):List Pl:=o.map fun p=>(p.1,(qbf (rs.getD p.1 [])).getD p.2 0)
theorem qm4 {p:Pl}:∀ {Ls:List (List En)} {rs:List (List Bool)},qbg Ls rs->InE (qaw Ls rs) p->
  InE Ls (p.1,(qbf (rs.getD p.1 [])).getD p.2 0)/\qaY Ls (p.1,(qbf (rs.getD p.1 [])).getD p.2 0)=qaY (qaw Ls rs) p:=by
 obtain ⟨i,k⟩:=p;intro Ls rs h
 induction h generalizing i with
 |nil=>rintro ⟨h,_⟩;simp [qaw] at h
 |@cons L r Ls rs h hs ih=>
  rintro ⟨h1,h2⟩;cases i with
  |succ i=>
   have :=ih i ⟨by simpa [qaw] using h1,by simpa [qaw] using h2⟩;obtain ⟨⟨g1,g2⟩,g3⟩:=this;exact ⟨⟨by simpa using g1,by simpa using g2⟩,by simpa [qaY,qaw] using g3⟩
  |zero=>
   have hk:k<(qbf r).length:=by simpa [qaw,qb9] using h2
   have hm:(qbf r)[k]<L.length:=by have :=qjc (List.getElem_mem hk);omega
   refine ⟨⟨by simp,?_⟩,?_⟩
   ·simpa [List.getD_eq_getElem?_getD,List.getElem?_eq_getElem hk] using hm
   ·simp [qaY,qaw,qb9,List.getD_eq_getElem?_getD,List.getElem?_eq_getElem hk,List.getElem?_eq_getElem hm]
def qca (to:List Int) (many i:Nat):Nat:=((if to.getD i 0<0 then-(to.getD i 0+1) else to.getD i 0)%(many:Int)).toNat
def qdC (to:List Int) (many j:Nat) (g:List En):List En:=(g.zipIdx.filter fun p=>decide (qca to many p.2=j)).map (·.1)
def qbm (g:List En) (to:List Int) (many:Nat):List (List En):=(List.range many).map fun j=>qdC to many j g
theorem qtr (to:List Int) (many j:Nat) (g:List En) (q:En):qdC to many j (g++[q])=if qca to many g.length=j then qdC to many j g++[q] else qdC to many j g:=by
 unfold qdC;rw [List.zipIdx_append,List.filter_append,List.map_append];by_cases h:qca to many g.length=j
 ·simp [h]
 ·simp [h]
theorem qhn (to:List Int) {many:Nat} (h:0<many) (i:Nat):qca to many i<many:=by
 unfold qca;have h1:=Int.emod_nonneg (if to.getD i 0<0 then-(to.getD i 0+1) else to.getD i 0) (b:=(many:Int)) (by omega)
 have h2:=Int.emod_lt_of_pos (if to.getD i 0<0 then-(to.getD i 0+1) else to.getD i 0) (b:=(many:Int)) (by omega)
 omega
theorem qgw (to:List Int) (many j:Nat) (g:List En):(qdC to many j g).Sublist g:=by
 have h:((g.zipIdx.filter fun p=>decide (qca to many p.2=j)).map (·.1)).Sublist (g.zipIdx.map (·.1)):=List.filter_sublist.map _;rwa [List.zipIdx_map_fst] at h
theorem qjf {to:List Int} {many j:Nat} {g:List En} {x:En}:x∈qdC to many j g↔∃ i,∃ hi:i<g.length,g[i]=x/\qca to many i=j:=by
 unfold qdC;rw [List.mem_map];constructor
 ·rintro ⟨⟨y,i⟩,hp,rfl⟩
  obtain ⟨h1,h2⟩:=List.mem_filter.1 hp;have h3:=List.mem_zipIdx h1;simp only [Nat.zero_add,Nat.sub_zero] at h3;exact ⟨i,h3.2.1,h3.2.2.symm,by simpa using h2⟩
 ·rintro ⟨i,hi,rfl,h⟩
  refine ⟨(g[i],i),List.mem_filter.2 ⟨?_,by simpa using h⟩,rfl⟩;exact List.mem_iff_getElem.2 ⟨i,by simpa using hi,by simp⟩
theorem qts {to:List Int} {many:Nat} (hm:0<many) {g:List En} {x:En}:x∈g↔∃ L∈qbm g to many,x∈L:=by
 constructor
 ·intro h
  obtain ⟨i,hi,rfl⟩:=List.getElem_of_mem h;exact ⟨_,List.mem_map.2 ⟨qca to many i,List.mem_range.2 (qhn to hm i),rfl⟩,qjf.2 ⟨i,hi,rfl,rfl⟩⟩
 ·rintro ⟨L,hL,hx⟩
  obtain ⟨j,_,rfl⟩:=List.mem_map.1 hL;exact (qgw to many j g).subset hx
theorem qtt {g:List En} (h:qdg g):(qaq g).Nodup:=List.pairwise_map.2 (h.imp fun h e=>by omega)
theorem qm5 (Ls:List (List En)):(Ls.map qaq).flatten=qaq Ls.flatten:=by
 unfold qaq;rw [List.map_flatten]
theorem qtu {to:List Int} {many:Nat} {g:List En} (hg:qdg g):(qaq (qbm g to many).flatten).Nodup:=by
 rw [<- qm5];refine List.pairwise_flatten.2 ⟨fun l hl=> ?_,?_⟩
 ·obtain ⟨L,hL,rfl⟩:=List.mem_map.1 hl
  obtain ⟨j,_,rfl⟩:=List.mem_map.1 hL;exact qtt (hg.sublist (qgw to many j g))
 ·refine List.pairwise_map.2 (List.pairwise_map.2 (List.pairwise_lt_range.imp fun {i j} hij=> ?_))
  intro a ha b hb e;obtain ⟨x,hx,rfl⟩:=List.mem_map.1 ha;obtain ⟨y,hy,rfl⟩:=List.mem_map.1 hb;obtain ⟨k,hk,rfl,h1⟩:=qjf.1 hx;obtain ⟨m,hm,rfl,h2⟩:=qjf.1 hy;rcases Nat.lt_trichotomy k m with hkm|hkm|hkm
  ·have :=List.pairwise_iff_getElem.1 hg k m hk hm hkm;omega
  ·subst hkm;omega
  ·have :=List.pairwise_iff_getElem.1 hg m k hm hk hkm;omega
theorem qtv {Ls:List (List En)} {rs:List (List Bool)} (hf:qbg Ls rs) (h:(qaq Ls.flatten).Nodup):¬ qdP (qhm (Ls.map qac) rs):=by
 rw [qjd hf];refine qm0 ?_;rw [qm5];exact h.sublist ((qm3 hf).map _)
open Go.RowKit
def qaJ:List Nm->List Nat->List Value
 |x::l,v::vs=> .string ⟨x.toArray⟩:: .pointer (some ⟨v,0,none⟩)::qaJ l vs
 |_,_=>[]
theorem qe0 (vs:List Nat):qaJ [] vs=[]:=by cases vs<;>rfl
theorem qgx:∀ {l:List Nm} {vs:List Nat},vs.length=l.length->(qaJ l vs).length=l.length*2
 |[],vs,_=>by rw [qe0];rfl
 |x::l,[],h=>by simp at h
 |x::l,v::vs,h=>by
  have :=qgx (l:=l) (vs:=vs) (by simpa using h);simp only [qaJ,List.length_cons,this];omega
theorem qgy:∀ {l:List Nm} {vs:List Nat} {k:Nat} (hv:vs.length=l.length) (hk:k<l.length),(qaJ l vs)[k*2]?=some (.string ⟨l[k].toArray⟩)/\(qaJ l vs)[k*2+1]?=some (.pointer (some ⟨vs.getD k 0,0,none⟩))
 |[],_,_,_,h=>by simp at h
 |x::l,[],_,h,_=>by simp at h
 |x::l,v::vs,0,_,_=>⟨rfl,rfl⟩
 |x::l,v::vs,k+1,h,hk=>by
  have :=qgy (l:=l) (vs:=vs) (k:=k) (by simpa using h) (by simpa using hk);rw [show (k+1)*2=k*2+1+1 by omega];simpa [qaJ] using this
theorem qjg:∀ {l:List Nm} {vs:List Nat} {x:Nm} {v:Nat},vs.length=l.length->qaJ (l++[x]) (vs++[v])=qaJ l vs++[.string ⟨x.toArray⟩,.pointer (some ⟨v,0,none⟩)]
 |[],[],x,v,_=>rfl
 |[],_::_,_,_,h=>by simp at h
 |_::_,[],_,_,h=>by simp at h
 |y::l,u::vs,x,v,h=>by
  have :=qjg (l:=l) (vs:=vs) (x:=x) (v:=v) (by simpa using h);simp only [List.cons_append,qaJ,this]
theorem qjh:∀ {l:List Nm} {vs:List Nat} (k:Nat),vs.length=l.length->(qaJ l vs).drop (k*2)=qaJ (l.drop k) (vs.drop k)
 |l,vs,0,_=>by simp
 |[],vs,k+1,_=>by simp [qe0]
 |x::l,[],k+1,h=>by simp at h
 |x::l,v::vs,k+1,h=>by
  rw [show (k+1)*2=k*2+1+1 by omega,List.drop_succ_cons,List.drop_succ_cons,qaJ,List.drop_succ_cons,List.drop_succ_cons];exact qjh k (by simpa using h)
theorem qtw:(Tryz.prog.info? 177).map (fun i=>(i.zero,i.size,i.bytes))=some (some (.agg #[.string ByteArray.empty,.pointer none]),2,24):=by kernel_rfl
def qbN (w:World) (B o:Nat) (l:List Nm) (vs:List Nat):Prop:=
 B<w.heap.size/\vs.length=l.length/\∃ A c,w.cell? ⟨B,o,none⟩=some (.slice A l.length c)/\l.length<=c/\c<=maxLen/\Row w w.heap.size A (qaJ l vs)/\(A=none/\l=[]/\c=0∨∃ g,A=some ⟨g,0,none⟩)
theorem qbN.below {w w':World} {B o:Nat} {l:List Nm} {vs:List Nat} (h:qbN w B o l vs) (hb:Below w.heap.size w w'):qbN w' B o l vs:=by
 obtain ⟨h1,h2,A,c,h3,h4,h5,h6,h7⟩:=h;exact ⟨Nat.lt_of_lt_of_le h1 hb.size,h2,A,c,(hb.cell (p:=⟨B,o,none⟩) h1).trans h3,h4,h5,Row.later h6 hb,h7⟩
theorem qbN.lt {w:World} {B o:Nat} {l:List Nm} {vs:List Nat} (h:qbN w B o l vs):B<w.heap.size:=h.1
theorem qbN.read {w:World} {B o:Nat} {l:List Nm} {vs:List Nat} (h:qbN w B o l vs):
  ∃ A c,w.cell? ⟨B,o,none⟩=some (.slice A l.length c)/\l.length<=c/\c<=maxLen/\Row w w.heap.size A (qaJ l vs)/\(A=none/\l=[]/\c=0∨∃ g,A=some ⟨g,0,none⟩):=h.2.2
theorem qbN.ent {w:World} {B o:Nat} {l:List Nm} {vs:List Nat} (h:qbN w B o l vs) {k:Nat} (hk:k<l.length):
  ∃ b off c,w.cell? ⟨B,o,none⟩=some (.slice (some ⟨b,off,none⟩) l.length c)/\l.length<=c/\c<=maxLen/\b<w.heap.size/\w.cell? ⟨b,off+k*2,none⟩=some (.string ⟨l[k].toArray⟩)/\w.cell? ⟨b,off+k*2+1,none⟩=some (.pointer (some ⟨vs.getD k 0,0,none⟩)):=by
 obtain ⟨_,hv,A,c,h1,h2,h3,h4,_⟩:=h;obtain ⟨b,off,rfl,hb,hc⟩:=h4.at_ (by rw [qgx hv];omega);obtain ⟨g1,g2⟩:=qgy hv hk;exact ⟨b,off,c,h1,h2,h3,hb,hc _ _ g1,by have :=hc _ _ g2;rwa [<- Nat.add_assoc] at this⟩
theorem qji (B o:Nat) (l:List Nm) (vs:List Nat) (w:World) (h:qbN w B o l vs):
  Calls Tryz.prog 98 #[.pointer (some ⟨B,o,none⟩)] w fun e w'=>e= .returned (.int .i64 (l.length:Int))/\w=w':=by
 obtain ⟨_,_,A,c,hc,_⟩:=h
 go_enter Tryz.func98,Tryz.ntmps98
 go_wp2;go_ret;exact ⟨rfl,rfl⟩
def qtx (l:List Nm) (w:World) (r i:Value) (wr:World):Prop:=r= .bool false/\∃ k:Nat,1<=k/\i= .int .i64 (k:Int)/\Below w.heap.size w wr/\∀ j (hj:j<l.length),0<j->j<k->l[j-1]<l[j]
theorem qho (A:Option Addr) (m c:Nat) (l:List Nm) (w:World) (hr:Row w w.heap.size A (qad l)) (hm:l.length=m) (hl:m<=1073741824):
  Calls Tryz.prog 120 #[.slice A m c] w fun e w'=>e= .returned (.bool (qda l))/\Below w.heap.size w w':=by
 have HR:=qH hr;clear hr;subst hm;obtain ⟨ans,hans⟩:∃ ans,ans=qda l:=⟨_,rfl⟩;rw [<- hans];have HA:=qH hans;clear hans
 go_enter Tryz.func120,Tryz.ntmps120
 go_wp2
 go_loopw [2,3] (fun r i wr=>qtx l w r i wr) (fun _ i _=>l.length-(intOf i).toNat)
 case atStart=>exact ⟨rfl,1,by omega,rfl,Below.refl _ _,fun j _ _ _=>by omega⟩
 case round=>
  obtain ⟨rfl,k,hk,rfl,hbw,hall⟩:=hrel;by_cases hlt:k<l.length
  ·obtain ⟨b1,o1,e1,_,hc1⟩:=qfn (HR.out.below hbw) hlt
   subst e1;have hc0:wr.cell? ⟨b1,o1+(k-1),none⟩=some (.string ⟨l[k-1].toArray⟩):=by
    obtain ⟨b2,o2,e2,_,hc2⟩:=qfn (HR.out.below hbw) (k:=k-1) (by omega);injection e2 with e2
    injection e2 with e3 e4
    subst e3 e4;exact hc2
   obtain ⟨x,hx,hx2⟩:=qbW l[k];obtain ⟨y,hy,hy2⟩:=qbW l[k-1];rw [<- hx] at hc1;rw [<- hy] at hc0;obtain ⟨j,hj⟩:∃ j,j=k-1:=⟨_,rfl⟩;have hw:IntKind.i64.wrap ((k:Int)-1)=(j:Int):=by rw [IntWalk.i64_in _ (by omega)];omega
   have hjl:j<l.length:=by omega
   rw [<- hj] at hc0;by_cases hxy:l[k-1]<l[k]
   ·have t1:=qsy (s:=y) (t:=x) (by rw [hx2,hy2];exact hxy)
    have HN:Hid (∀ j (hj:j<l.length),0<j->j<k+1->l[j-1]<l[j]):=qH fun j hj h0 hjk=>by
     by_cases e:j=k
     ·subst e;exact hxy
     ·exact hall j hj h0 (by omega)
    clear hx hx2 hy hy2 hj hall hxy;go_wp2
    go_quiet (fail)
    go_wp2;go_roundw
    case rel=>exact ⟨rfl,k+1,by omega,by go_num,hbw.trans ⟨rfl,rfl,rfl,Nat.le_refl _,fun _ _=>rfl⟩,HN.out⟩
    case measure=>simp [intOf];omega
   ·have hbad:ans=false:=by rw [HA.out];exact qsk hlt (by omega) hxy
    subst hbad;have t1:=qsz (s:=y) (t:=x) (by rw [hx2,hy2];exact hxy);clear hx hx2 hy hy2 hj hall hxy;go_wp2
    go_quiet (fail)
    go_wp2;go_ret;exact ⟨rfl,hbw.trans ⟨rfl,rfl,rfl,Nat.le_refl _,fun _ _=>rfl⟩⟩
  ·have hgood:ans=true:=by rw [HA.out];exact qsl fun i hi h0=>hall i hi h0 (by omega)
   subst hgood;clear hall;go_wp2;go_ret;exact ⟨rfl,hbw⟩
def qbn (vs:List Nat):List Value:=vs.map fun v=> .pointer (some ⟨v,0,none⟩)
theorem qhp {w:World} {B:Nat} {A:Option Addr} {l:List Nat} {k:Nat} (h:Row w B A (qbn l)) (hk:k<l.length):∃ b off,A=some ⟨b,off,none⟩/\b<B/\w.cell? ⟨b,off+k,none⟩=some (.pointer (some ⟨l[k],0,none⟩)):=by
 obtain ⟨b,off,rfl,hb,hc⟩:=Row.at_ h (by simp [qbn];omega);exact ⟨b,off,rfl,hb,hc _ _ (by simp [qbn,hk])⟩
def qgz (w:World) (base B:Nat) (l:List Nm) (vs:List Nat):Prop:=
 base<=B/\vs.length=l.length/\∃ v,w.heap[B]?=some (.cells #[v] 108 (0,0))/\w.ownsRow base 177 2 v l.length (qaJ l vs)
theorem qgz.read {w:World} {base B:Nat} {l:List Nm} {vs:List Nat} (h:qgz w base B l vs):
  ∃ A c,w.cell? ⟨B,0,none⟩=some (.slice A l.length c)/\l.length<=c/\c<=maxLen/\Row w w.heap.size A (qaJ l vs)/\(A=none/\l=[]/\c=0∨∃ g,A=some ⟨g,0,none⟩):=by
 obtain ⟨h1,h2,v,h3,h4⟩:=h;have hc:=cell_of_one h3;obtain ⟨A,c,rfl,hn,hr⟩:=qaM h4;refine ⟨A,c,hc,hn,?_,hr,?_⟩
 ·rcases h4.2 with ⟨h0,_⟩|⟨g,cap,cur,hv,_,_,_,h5,_⟩
  ·injection h0 with _ _ h0;omega
  ·injection hv with _ _ hv;omega
 ·rcases h4.2 with ⟨h0,h5⟩|⟨g,cap,cur,hv,_⟩
  ·injection h0 with a1 _ a3
   exact .inl ⟨a1,List.eq_nil_of_length_eq_zero h5,a3⟩
  ·injection hv with a1
   exact .inr ⟨g,a1⟩
def qm6 (l:List Nm) (vs:List Nat) (w:World) (e:Ending) (w':World):Prop:=∃ B,e= .returned (.tuple #[.pointer (some ⟨B,0,none⟩),.int .i64 0])/\qgz w' w.heap.size B l vs/\Below w.heap.size w w'
def qjj (B:Nat) (l:List Nm) (vs:List Nat) (w:World) (i:Value) (wr:World):Prop:=
 ∃ (k:Nat) (v:Value),k<=l.length/\i= .int .i64 (k:Int)/\wr.heap[B]?=some (.cells #[v] 108 (0,0))/\wr.ownsRow w.heap.size 177 2 v k (qaJ (l.take k) (vs.take k))/\Below w.heap.size w wr
theorem qm7 {w:World} {base B:Nat} {e:TypeId} {size:Nat} {v:Value} {n:Nat} {xs:List Value} {cs:Array Value} {t:TypeId} {fr:Nat × Nat} (h:w.ownsRow base e size v n xs) (hB:w.heap[B]?=some (.cells cs t fr)) (ht:t≠e) (o:Nat) (u:Value):(w.setCell ⟨B,o,none⟩ u).ownsRow base e size v n xs:=
 qav h fun g hg=>Below.heap_setCell _ _ _ _ (fun e1=>qap h hB ht (by rw [hg,e1]))
theorem qty {w0 w1:World} {base B n:Nat} {v v':Value} {xs ys:List Value} (hv:w0.heap[B]?=some (.cells #[v] 108 (0,0))) (hown:w0.ownsRow base 177 2 v n xs) (hg:w0.grownBy w1 v.ownBlock) (hown1:w1.ownsRow base 177 2 v' (n+1) ys) (hbase:base<=w0.heap.size) (hB:base<=B):
  w1.heap[B]?=some (.cells #[v] 108 (0,0))/\(w1.setCell ⟨B,0,none⟩ v').heap[B]?=some (.cells #[v'] 108 (0,0))/\(w1.setCell ⟨B,0,none⟩ v').ownsRow base 177 2 v' (n+1) ys/\Below base w0 (w1.setCell ⟨B,0,none⟩ v'):=by
 have h1:w1.heap[B]?=some (.cells #[v] 108 (0,0)):=(hg.block B (lt_of_block hv) (fun e=>qap hown hv (by decide) e.symm)).trans hv;refine ⟨h1,by simpa using one_setCell h1,qm7 hown1 h1 (by decide) _ _,?_⟩;exact (((Below.refl base w0).grown hg hbase fun k hk=>(hown.lt k hk).1)).setCell hB _
theorem qtz (A A2:Option Addr) (n c c2:Nat) (l:List Nm) (vs:List Nat) (w:World) (hr:Row w w.heap.size A (qad l)) (hn:l.length=n) (hl:n<=1048576) (hv:Row w w.heap.size A2 (qbn vs)) (hvn:vs.length=n) (hg:qda l=true):
    Calls Tryz.prog 71 #[.slice A n c,.slice A2 n c2] w (qm6 l vs w):=by
  obtain ⟨i0,hi0,hz0,hz1,hz2⟩:=info_parts qtw;have c1:=qho A n c l w hr hn (by omega);rw [hg] at c1;have C1:=qH c1;have HR:=qH hr;have HV:=qH hv;have HN:=qH hn;have HVN:=qH hvn;clear c1 hr hv hn hvn hg
  go_enter Tryz.func71,Tryz.ntmps71
  go_wp2_with (go_at_call 120;refine (C1.out).mono ?_)
  rintro e w1 ⟨rfl,hb1⟩;obtain ⟨w2,hrun,hown2,hgrow2⟩:=run_make_own (P:=Tryz.prog) w1 w.heap.size 106 177 i0 _ 2 Tryz.underlying106 hi0 hz0 hz1 .i64 .i64 n (by rw [hz2];omega) (by unfold maxLen;omega) hb1.size;have hb2:Below w.heap.size w w2:=hb1.grown hgrow2 hb1.size (fun k hk=>by cases hk);obtain ⟨B,hB⟩:∃ B,B=w2.heap.size:=⟨_,rfl⟩;obtain ⟨w3,hw3⟩:∃ w3,w3=w2.alloc (.cells #[.slice (some ⟨w1.heap.size,0,none⟩) 0 n] 108):=⟨_,rfl⟩;have hrel:qjj B l vs w (.int .i64 ((0:Nat):Int)) w3:=by
    refine ⟨0,.slice (some ⟨w1.heap.size,0,none⟩) 0 n,Nat.zero_le _,rfl,?_,?_,?_⟩
    · rw [hw3,hB];exact heap_alloc_new w2 _
    · rw [hw3];simpa [qe0] using hown2.alloc _
    · rw [hw3];exact hb2.alloc hb2.size _
  have HREL:=qH hrel;have HW3:=qH hw3;have HB:=qH hB;have HBW:Hid (w.heap.size<=B):=qH (by rw [hB];exact hb2.size);clear hrel hown2 hgrow2 hb2 hb1 hw3 hB;go_wp2;rw [<- HW3.out,<- HB.out];clear hrun
  go_loopw [26] (qjj B l vs w) (fun i _=>n-(intOf i).toNat)
  case atStart=>exact HREL.out
  case round=>
    obtain ⟨k,v,hk,rfl,hblk,hown,hbw⟩:=hrel;rw [HN.out] at hk;have hsz:=hbw.size;by_cases hlt:k<n
    · have hkl:k<l.length:=by rw [HN.out];exact hlt
      have hkv:k<vs.length:=by rw [HVN.out];exact hlt
      obtain ⟨b1,o1,e1,hb1,hc1⟩:=qfn (HR.out.below hbw) hkl;obtain ⟨b2,o2,e2,hb2,hc2⟩:=qhp (HV.out.below hbw) hkv;subst e1 e2;obtain ⟨x,hx⟩:∃ x:ByteArray,x=⟨l[k].toArray⟩:=⟨_,rfl⟩;obtain ⟨y,hy⟩:∃ y,y=vs[k]:=⟨_,rfl⟩;rw [<- hx] at hc1;rw [<- hy] at hc2;have hsn:qaJ (l.take (k+1)) (vs.take (k+1))=qaJ (l.take k) (vs.take k)++[.string x,.pointer (some ⟨y,0,none⟩)]:=by
        rw [List.take_succ_eq_append_getElem hkl,List.take_succ_eq_append_getElem hkv,qjg (by simp only [List.length_take];rw [HN.out,HVN.out]),<- hx,<- hy]
      obtain ⟨cs,hcs⟩:∃ cs,cs=qaJ (l.take k) (vs.take k):=⟨_,rfl⟩;rw [<- hcs] at hown hsn;have cB:=cell_of_one hblk;have fB:=free_of_one hblk;have k2:(0:Int)<=(k:Int):=by omega
      have k3:(k:Int)<(n:Int):=by omega
      have hBlt:=lt_of_block hblk;have hal:∀ o,((wr.alloc o).drew).cell? ⟨B,0,none⟩=some v:=fun o=>(((Below.refl _ wr).alloc (Nat.le_refl _) o).cell (p:=⟨B,0,none⟩) hBlt).trans cB
      have HOWN:=qH hown;have HBLK:=qH hblk;have HSN:=qH hsn;clear hx hy hcs hown hblk hsn hkl hkv;go_wp2
      go_region_law (first
        | (refine step_append_lies _ (by rfl) _ _ _ (by rfl) w.heap.size 177 i0 _ 2 24 Tryz.underlying106 hi0 hz0 hz1 hz2 rfl (by omega) v k cs (by rfl) ((HOWN.out.alloc _).drew)
            ⟨wr.heap.size,0,none⟩ 1 1 [.string x,.pointer (some ⟨y,0,none⟩)] (by rfl) (by rfl) (World.news_of_block (cs:=#[.string x,.pointer (some ⟨y,0,none⟩)]) (t:=177) (fr:=(0,0)) (heap_alloc_new wr.drew _)) (by intro u hu;simp at hu;rcases hu with hu|hu<;>(subst hu;rfl))
            (by omega) (by unfold maxLen;omega) (by omega) (by simp;omega) (wr.heap.size+1) (by simp) ?_
           intro gg cap w5 hown5 hg5 hat hlt5;obtain ⟨hB5,hB6,hown6,hb6⟩:=qty (((Below.refl _ wr).alloc (Nat.le_refl _) _).drew.block B hBlt |>.trans HBLK.out) ((HOWN.out.alloc _).drew) hg5 hown5 (by simp;omega) HBW.out
           have cB5:=cell_of_one hB5;have fB5:=free_of_one hB5))
      all_goals
        have hrel:qjj B l vs w (.int .i64 ((k:Int)+1)) (w5.setCell ⟨B,0,none⟩ (.slice (some ⟨gg,0,none⟩) (k+1) cap)):=by
          refine ⟨k+1,_,by rw [HN.out];omega,by go_num,hB6,?_,?_⟩
          · rw [HSN.out];exact hown6
          · exact hbw.trans ((((Below.refl _ wr).alloc hsz _).drew).trans hb6)
        have HREL:=qH hrel;clear hrel hB6 hown6 hb6 hB5;go_wp2;go_roundw
        case rel=>exact HREL.out
        case measure=>simp [intOf];omega
    · have hkn:k=n:=by omega
      have HFIN:Hid (qm6 l vs w (.returned (.tuple #[.pointer (some ⟨B,0,none⟩),.int .i64 0])) wr):=qH ⟨B,rfl,⟨HBW.out,by rw [HN.out,HVN.out],v,hblk,by
        rw [hkn,List.take_of_length_le (by rw [HN.out];omega),List.take_of_length_le (by rw [HVN.out];omega)] at hown;rw [HN.out];exact hown⟩,hbw⟩
      clear hown hblk hbw;go_wp2;go_ret2;exact HFIN.out
theorem qtA:(Tryz.prog.info? 232).map (fun i=>(i.zero,i.size,i.bytes))=some (some (.agg #[.string ByteArray.empty,.pointer none]),2,24):=by kernel_rfl
theorem qm8 (B o:Nat) (l:List Nm) (vs:List Nat) (w:World) (h:qbN w B o l vs):
  Calls Tryz.prog 135 #[.pointer (some ⟨B,o,none⟩)] w fun e w'=>e= .returned (.int .i64 (l.length:Int))/\w=w':=by
 obtain ⟨_,_,A,c,hc,_⟩:=h
 go_enter Tryz.func135,Tryz.ntmps135
 go_wp2;go_ret;exact ⟨rfl,rfl⟩
end Go.Proofs.YtpehcaidjlemiaaGreatDoor
