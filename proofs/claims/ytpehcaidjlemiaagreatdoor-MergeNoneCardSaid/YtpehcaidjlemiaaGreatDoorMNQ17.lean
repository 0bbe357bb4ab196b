import Derived.Test.YtpehcaidjlemiaaGreatDoorMNZz
import Derived.Test.YtpehcaidjlemiaaGreatDoorMNQ09
import Derived.Test.YtpehcaidjlemiaaGreatDoorMNQ10
import Derived.Test.YtpehcaidjlemiaaGreatDoorMNQ16
import Derived.RangeFuncOwn
import Derived.Test.YtpehcaidjlemiaaGreatDoorMNQ15
import Derived.Test.YtpehcaidjlemiaaGreatDoorMNQ07
import Derived.Test.YtpehcaidjlemiaaGreatDoorMNQ08
import Derived.Deep.AppendLies
import Derived.Deep.RegionLaw
import Derived.Test.YtpehcaidjlemiaaGreatDoorMNQ06
import Derived.Test.YtpehcaidjlemiaaGreatDoorMNQ02
import Derived.Deep.RegionHeld3
import Derived.BigCall
set_option maxHeartbeats 4000000
set_option maxRecDepth 100000
set_option linter.unusedVariables false
namespace Go.Proofs.YtpehcaidjlemiaaGreatDoor
open Go Go.RowKit
def PoK (t:TypeId):Prop:=t=74∨t=3
structure qap (b0:Nat) (w w':World):Prop where
 size:w.heap.size<=w'.heap.size
 low:∀ k,k<b0->w'.heap[k]?=w.heap[k]?
 kinds:∀ (k:Nat) (cs:Array Value) (t:TypeId) (fr:Nat × Nat),w.heap[k]?=some (.cells cs t fr)->PoK t->w'.heap[k]?=some (.cells cs t fr)
section
variable {b0 base:Nat} {w w' w'':World} {A:Option Addr} {xs:List Value} {t:TypeId}
theorem qap.trans (h:qap b0 w w') (k:qap b0 w' w''):qap b0 w w'':=⟨Nat.le_trans h.size k.size,fun i hi=>(k.low i hi).trans (h.low i hi),fun i cs t fr hi ht=>k.kinds i cs t fr (h.kinds i cs t fr hi ht) ht⟩
theorem qap.of_below (hb:Below w.heap.size w w') (h0:b0<=w.heap.size):qap b0 w w':=⟨hb.size,fun k hk=>hb.block k (by omega),fun k cs t fr hk _=>(hb.block k (Array.getElem?_eq_some_iff.1 hk).1).trans hk⟩
theorem qap.setCell {P o:Nat} {cs:Array Value} {fr:Nat × Nat} (hP:w.heap[P]?=some (.cells cs t fr)) (h0:b0<=P) (ht:¬ PoK t) (v:Value):qap b0 w (w.setCell ⟨P,o,none⟩ v):=
 ⟨by simp,fun k hk=>Below.heap_setCell _ _ _ _ (by show k≠P;omega),fun k cs' t' fr' hk ht'=>(Below.heap_setCell _ _ _ _ (by rintro rfl;rw [hP] at hk;injection hk with hk;injection hk with _ e _;subst e;exact ht ht')).trans hk⟩
theorem qap.grown {E:TypeId} {size n:Nat} {v:Value} (hv:w.ownsRow base E size v n xs) (h0:b0<=base) (hE:¬ PoK E) (hg:w.grownBy w' v.ownBlock) (hs:base<=w.heap.size):qap b0 w w':=
 ⟨hg.size,fun k hk=>hg.block k (by omega) (fun e=>by have :=(hv.lt k e.symm).1;omega),fun k cs t fr hk ht=>(hg.block k (Array.getElem?_eq_some_iff.1 hk).1 (fun e=>qah hv hk (fun e=>hE (e▸ht)) e.symm)).trans hk⟩
def qaV (b0:Nat) (t:TypeId) (w:World) (A:Option Addr) (xs:List Value):Prop:=xs=[]∨∃ b off,A=some ⟨b,off,none⟩/\b<w.heap.size/\(b<b0∨∃ cs fr,w.heap[b]?=some (.cells cs t fr))/\∀ j u,xs[j]?=some u->w.cell? ⟨b,off+j,none⟩=some u
theorem qaV.keep (h:qaV b0 t w A xs) (ht:PoK t) (hk:qap b0 w w'):qaV b0 t w' A xs:=by
 rcases h with h|⟨b,off,e,hb,hc,hx⟩
 ·exact .inl h
 ·have hblk:w'.heap[b]?=w.heap[b]?:=by
   rcases hc with hc|⟨cs,fr,hc⟩
   ·exact hk.low b hc
   ·rw [hk.kinds b cs t fr hc ht,hc]
  exact .inr ⟨b,off,e,Nat.lt_of_lt_of_le hb hk.size,hc.imp id fun ⟨cs,fr,hc⟩=>⟨cs,fr,by rw [hblk,hc]⟩,fun j u hu=>by rw [World.cell?_of_block (a:=⟨b,off+j,none⟩) hblk];exact hx j u hu⟩
theorem qaV.row (h:qaV b0 t w A xs):Row w w.heap.size A xs:=by
 rcases h with h|⟨b,off,e,hb,_,hx⟩
 ·exact .inl h
 ·exact .inr ⟨b,off,e,hb,hx⟩
theorem qaV.of_own {size n c:Nat} (h:w.ownsRow base t size (.slice A n c) n xs):qaV b0 t w A xs:=by
 rcases h.2 with ⟨hv,hn⟩|⟨g,cap,cur,hv,hg,hh,_⟩
 ·exact .inl (List.eq_nil_of_length_eq_zero (by rw [h.1,hn];simp))
 ·injection hv with h1 h2 h3
  subst h1;rcases qbI h with h0|⟨b,off,e,hb,hc⟩
  ·exact .inl h0
  ·injection e with e
   injection e with e1 e2
   subst e1 e2;exact .inr ⟨g,0,rfl,hb,.inr ⟨_,_,hh⟩,hc⟩
theorem qaV.of_safe (h:qdr 0 w A xs):qaV b0 3 w A xs:=by
 rcases h with h|⟨b,off,e,⟨h1,h2⟩,hc⟩
 ·exact .inl h
 ·exact .inr ⟨b,off,e,h1,.inr (h2.resolve_left (Nat.not_lt_zero _)),hc⟩
def qb7 (b0:Nat) (w:World) (A:Option Addr) (l:List Pn):Prop:=∃ cs,qak (qaV b0 3 w) l cs/\qaV b0 74 w A cs
theorem qb7.keep {l:List Pn} (h:qb7 b0 w A l) (hk:qap b0 w w'):qb7 b0 w' A l:=by
 obtain ⟨cs,h1,h2⟩:=h;exact ⟨cs,h1.imp fun _ _ h=>h.keep (.inr rfl) hk,h2.keep (.inl rfl) hk⟩
theorem qb7.posts {l:List Pn} (h:qb7 b0 w A l):qaX w w.heap.size A l:=by
 obtain ⟨cs,h1,h2⟩:=h;exact ⟨cs,h1.imp fun _ _ h=>h.row,h2.row⟩
theorem qb7.of_new {b:Nat} {v:Value} {l:List Pn} (h:qbk b w v l):∃ A c,v= .slice A l.length c/\(l.length<=c/\c<=maxLen)/\qb7 b0 w A l:=by
 obtain ⟨cs,h1,h2⟩:=h;obtain ⟨A,c,rfl,hc,hr⟩:=qex h1;exact ⟨A,c,rfl,hc,cs,h2.imp fun _ _ h=> .of_safe h.1,.of_own h1⟩
def LG (b0:Nat) (w:World) (ls:List (List Pn)) (cs:List Value):Prop:=cs.length=ls.length/\∀ i (h:i<ls.length),∃ A c,cs[i]?=some (.slice A ls[i].length c)/\(ls[i].length<=c/\c<=maxLen)/\qb7 b0 w A ls[i]
theorem LG.nil:LG b0 w [] []:=⟨rfl,fun i h=>by simp at h⟩
theorem LG.keep {ls:List (List Pn)} {cs:List Value} (h:LG b0 w ls cs) (hk:qap b0 w w'):LG b0 w' ls cs:=⟨h.1,fun i hi=>by obtain ⟨A,c,h1,h2,h3⟩:=h.2 i hi;exact ⟨A,c,h1,h2,h3.keep hk⟩⟩
theorem LG.cells {ls:List (List Pn)} {cs:List Value} (h:LG b0 w ls cs):qe0 w w.heap.size ls cs:=⟨h.1,fun i hi=>by obtain ⟨A,c,h1,h2,h3⟩:=h.2 i hi;exact ⟨A,c,h1,h2,h3.posts⟩⟩
theorem LG.snoc {ls:List (List Pn)} {cs:List Value} (h:LG b0 w ls cs) {l:List Pn} {A:Option Addr} {c:Nat} (hc:l.length<=c/\c<=maxLen) (hp:qb7 b0 w A l):LG b0 w (ls++[l]) (cs++[.slice A l.length c]):=by
 refine ⟨by simp [h.1],fun i hi=> ?_⟩;by_cases hlt:i<ls.length
 ·obtain ⟨A',c',h1,h2,h3⟩:=h.2 i hlt
  rw [List.getElem_append_left hlt,List.getElem?_append_left (by rw [h.1];exact hlt)];exact ⟨A',c',h1,h2,h3⟩
 ·have hi':i<ls.length+1:=by simpa using hi
  have e:i=ls.length:=by omega
  subst e;have e1:(ls++[l])[ls.length]'(by simp)=l:=by simp
  have e2:(cs++[Value.slice A l.length c])[ls.length]?=some (.slice A l.length c):=by rw [<- h.1];simp
  rw [e1];exact ⟨A,c,e2,hc,hp⟩
theorem qgD {b1 b2:Nat} {E1 E2:TypeId} {s1 s2 n1 n2:Nat} {v1 v2:Value} {xs1 xs2:List Value} (h1:w.ownsRow b1 E1 s1 v1 n1 xs1) (h2:w.ownsRow b2 E2 s2 v2 n2 xs2) (hE:E2≠E1) (hg:w.grownBy w' v2.ownBlock):w'.ownsRow b1 E1 s1 v1 n1 xs1:=
 qas h1 fun g hu=>hg.block g (h1.lt g hu).2 fun e=>qfd h2 h1 hE hu e.symm
end
theorem qjX:(Tryz.prog.info? 71).map (fun i=>(i.zero,i.size,i.bytes))=some (some (.slice none 0 0),1,24):=by kernel_rfl
structure qbx (T:TypeId) (b0 base:Nat) (P:Nat) (v1 v2 v3 v4:Value) (ks:List Nm) (ls:List (List Pn)) (w:World):Prop where
 cells:w.heap[P]?=some (.cells #[v1,v2,v3,v4] T (0,0))
 le:b0<=P
 hbase:b0<=base
 size:base<=w.heap.size
 keys:w.ownsRow base 9 1 v3 ks.length (qac ks)
 lists:∃ cs,w.ownsRow base 71 1 v4 ls.length cs/\LG b0 w ls cs
section
variable {T:TypeId} {b0 base P:Nat} {v1 v2 v3 v4:Value} {ks:List Nm} {ls:List (List Pn)} {w w':World}
theorem qa4 {x y z u:Value} {t:TypeId} {b:Nat} (h:w.heap[b]?=some (.cells #[x,y,z,u] t (0,0))):
  (w.cell? ⟨b,0,none⟩=some x/\w.cell? ⟨b,1,none⟩=some y/\w.cell? ⟨b,2,none⟩=some z/\w.cell? ⟨b,3,none⟩=some u)/\
   w.frozen? ⟨b,0,none⟩=false/\w.frozen? ⟨b,1,none⟩=false/\w.frozen? ⟨b,2,none⟩=false/\w.frozen? ⟨b,3,none⟩=false:=by
 simp [World.cell?,World.frozen?,h]
theorem qbx.lt (h:qbx T b0 base P v1 v2 v3 v4 ks ls w):P<w.heap.size:=(Array.getElem?_eq_some_iff.1 h.cells).1
theorem qbx.below (h:qbx T b0 base P v1 v2 v3 v4 ks ls w) (hb:Below w.heap.size w w'):qbx T b0 base P v1 v2 v3 v4 ks ls w':=by
 have hlt:=h.lt;obtain ⟨h1,h2,h3,h4,h5,cs,h6,h7⟩:=h;exact ⟨(hb.block P hlt).trans h1,h2,h3,Nat.le_trans h4 hb.size,qao h5 hb,cs,qao h6 hb,h7.keep (.of_below hb (by omega))⟩
theorem qbx.key (h:qbx T b0 base P v1 v2 v3 v4 ks ls w) (hT:¬ PoK T) (hT1:T≠9) (hT2:T≠71) {v':Value} {k:Nm} (hown:w'.ownsRow base 9 1 v' (ks.length+1) (qac ks++[.string ⟨k.toArray⟩])) (hg:w.grownBy w' v3.ownBlock):
  w'.heap[P]?=some (.cells #[v1,v2,v3,v4] T (0,0))/\qbx T b0 base P v1 v2 v' v4 (ks++[k]) ls (w'.setCell ⟨P,2,none⟩ v')/\Below b0 w (w'.setCell ⟨P,2,none⟩ v')/\KeepsOthers w (w'.setCell ⟨P,2,none⟩ v')/\∀ (k:Nat) (cs:Array Value) (t:TypeId) (fr:Nat × Nat),k≠P->w.heap[k]?=some (.cells cs t fr)->t≠9->(w'.setCell ⟨P,2,none⟩ v').heap[k]?=some (.cells cs t fr):=by
 have hlt:=h.lt;obtain ⟨h1,h2,h3,h4,h5,cs,h6,h7⟩:=h;have hP:w'.heap[P]?=some (.cells #[v1,v2,v3,v4] T (0,0)):=(hg.block P hlt (fun e=>qah h5 h1 hT1 e.symm)).trans h1;have hk1:qap b0 w w':=qap.grown h5 h3 (by unfold PoK;decide) hg h4;have hk2:qap b0 w' (w'.setCell ⟨P,2,none⟩ v'):=qap.setCell hP h2 hT v';refine ⟨hP,⟨by simpa using heap_setCell_same w' P 2 _ _ v' hP,h2,h3,by have :=hk1.size;simp;omega,?_,cs,?_,h7.keep (hk1.trans hk2)⟩,(((Below.refl b0 w).grown hg (Nat.le_trans h3 h4) fun k hk=>by have :=(h5.lt k hk).1;omega).setCell (p:=⟨P,2,none⟩) h2 v'),(KeepsOthers.of_grownBy hg fun j o ej hj=>by
   obtain ⟨cs',fr',hh⟩:=qeB h5 ej;rw [hh] at hj;injection hj with hj;rw [<- hj];rfl).trans (KeepsOthers.setCell _ _ _),fun k cs' t fr hkP hk ht=>(Below.heap_setCell _ _ _ _ (show k≠P from hkP)).trans ((hg.block k (Array.getElem?_eq_some_iff.1 hk).1 (fun e=>qah h5 hk ht e.symm)).trans hk)⟩
 ·rw [List.length_append,List.length_singleton]
  have :=qas (w':=w'.setCell ⟨P,2,none⟩ v') hown fun g hg'=>Below.heap_setCell _ _ _ _ (fun e=>qah hown hP hT1 (by rw [hg',e]))
  simpa [qac] using this
 ·have h6':=qgD h6 h5 (by decide) hg
  exact qas h6' fun g hg'=>Below.heap_setCell _ _ _ _ (fun e=>qah h6' hP hT2 (by rw [hg',e]))
theorem qbx.list (h:qbx T b0 base P v1 v2 v3 v4 ks ls w) (hT:¬ PoK T) (hT1:T≠9) (hT2:T≠71) {v':Value} {l:List Pn} {A:Option Addr} {c:Nat} (hc:l.length<=c/\c<=maxLen) (hp:qb7 b0 w A l) {cs:List Value} (h6:w.ownsRow base 71 1 v4 ls.length cs) (h7:LG b0 w ls cs)
  (hown:w'.ownsRow base 71 1 v' (ls.length+1) (cs++[.slice A l.length c])) (hg:w.grownBy w' v4.ownBlock):
  w'.heap[P]?=some (.cells #[v1,v2,v3,v4] T (0,0))/\qbx T b0 base P v1 v2 v3 v' ks (ls++[l]) (w'.setCell ⟨P,3,none⟩ v')/\Below b0 w (w'.setCell ⟨P,3,none⟩ v')/\KeepsOthers w (w'.setCell ⟨P,3,none⟩ v')/\∀ (k:Nat) (cs:Array Value) (t:TypeId) (fr:Nat × Nat),k≠P->w.heap[k]?=some (.cells cs t fr)->t≠71->(w'.setCell ⟨P,3,none⟩ v').heap[k]?=some (.cells cs t fr):=by
 have hlt:=h.lt;obtain ⟨h1,h2,h3,h4,h5,_⟩:=h;have hP:w'.heap[P]?=some (.cells #[v1,v2,v3,v4] T (0,0)):=(hg.block P hlt (fun e=>qah h6 h1 hT2 e.symm)).trans h1;have hk1:qap b0 w w':=qap.grown h6 h3 (by unfold PoK;decide) hg h4;have hk2:qap b0 w' (w'.setCell ⟨P,3,none⟩ v'):=qap.setCell hP h2 hT v';refine ⟨hP,⟨by simpa using heap_setCell_same w' P 3 _ _ v' hP,h2,h3,by have :=hk1.size;simp;omega,?_,cs++[.slice A l.length c],?_,(h7.snoc hc hp).keep (hk1.trans hk2)⟩,(((Below.refl b0 w).grown hg (Nat.le_trans h3 h4) fun k hk=>by have :=(h6.lt k hk).1;omega).setCell (p:=⟨P,3,none⟩) h2 v'),(KeepsOthers.of_grownBy hg fun j o ej hj=>by
   obtain ⟨cs',fr',hh⟩:=qeB h6 ej;rw [hh] at hj;injection hj with hj;rw [<- hj];rfl).trans (KeepsOthers.setCell _ _ _),fun k cs' t fr hkP hk ht=>(Below.heap_setCell _ _ _ _ (show k≠P from hkP)).trans ((hg.block k (Array.getElem?_eq_some_iff.1 hk).1 (fun e=>qah h6 hk ht e.symm)).trans hk)⟩
 ·have h5':=qgD h5 h6 (by decide) hg
  exact qas h5' fun g hg'=>Below.heap_setCell _ _ _ _ (fun e=>qah h5' hP hT1 (by rw [hg',e]))
 ·rw [List.length_append,List.length_singleton]
  exact qas hown fun g hg'=>Below.heap_setCell _ _ _ _ (fun e=>qah hown hP hT2 (by rw [hg',e]))
theorem qbx.firm {N:Nat} (hN:b0<=N):qat N (fun W=>qbx T b0 base P v1 v2 v3 v4 ks ls W):=fun W l o o' hl ho hc h=>by
 obtain ⟨h1,h2,h3,h4,h5,cs,h6,h7⟩:=h;have hk:∀ (k:Nat) (cs:Array Value) (t:TypeId) (fr:Nat × Nat),W.heap[k]?=some (.cells cs t fr)->(W.putObj l o').heap[k]?=some (.cells cs t fr):=fun k cs t fr hk=>(World.putObj_heap_other (by rintro rfl;rw [ho] at hk;injection hk with hk;rw [hk] at hc;cases hc)).trans hk
 have hkg:qap b0 W (W.putObj l o'):=⟨by simp,fun k hk=>World.putObj_heap_other (by omega),fun k cs t fr h _=>hk k cs t fr h⟩;have hown:∀ {E:TypeId} {s n:Nat} {v:Value} {xs:List Value},W.ownsRow base E s v n xs->(W.putObj l o').ownsRow base E s v n xs:=fun h=>qas h fun g hg=>by
  obtain ⟨cs',fr',hh⟩:=qeB h hg;rw [hh,hk _ _ _ _ hh]
 exact ⟨hk _ _ _ _ h1,h2,h3,by simpa using h4,hown h5,cs,hown h6,h7.keep hkg⟩
theorem qbx.rows {A3 A4:Option Addr} {n3 c3 n4 c4:Nat} (h:qbx T b0 base P v1 v2 (.slice A3 n3 c3) (.slice A4 n4 c4) ks ls w):Row w w.heap.size A3 (qac ks)/\qbR w w.heap.size A4 ls:=by
 obtain ⟨_,_,_,_,h5,cs,h6,h7⟩:=h;exact ⟨qbI h5,cs,h7.cells,qbI h6⟩
theorem qbx.setOther (h:qbx T b0 base P v1 v2 v3 v4 ks ls w) {R o:Nat} {cs:Array Value} {t:TypeId} {fr:Nat × Nat} (hR:w.heap[R]?=some (.cells cs t fr)) (h0:b0<=R) (hne:R≠P) (ht:¬ PoK t) (ht1:t≠9) (ht2:t≠71) (v:Value):qbx T b0 base P v1 v2 v3 v4 ks ls (w.setCell ⟨R,o,none⟩ v):=by
 obtain ⟨h1,h2,h3,h4,h5,cs',h6,h7⟩:=h;exact ⟨(Below.heap_setCell _ _ _ _ (show P≠R from Ne.symm hne)).trans h1,h2,h3,by simpa using h4,qas h5 fun g hg=>Below.heap_setCell _ _ _ _ (fun e=>qah h5 hR ht1 (by rw [hg,e])),cs',
  qas h6 fun g hg=>Below.heap_setCell _ _ _ _ (fun e=>qah h6 hR ht2 (by rw [hg,e])),h7.keep (qap.setCell hR h0 ht v)⟩
theorem qbx.read (h:qbx T b0 base P v1 v2 v3 v4 ks ls w):∃ A3 c3 A4 c4,v3= .slice A3 ks.length c3/\v4= .slice A4 ls.length c4/\ks.length<=c3/\ls.length<=c4/\Row w w.heap.size A3 (qac ks)/\qbR w w.heap.size A4 ls:=by
 obtain ⟨_,_,_,_,h5,cs,h6,h7⟩:=h;obtain ⟨A3,c3,rfl,hc3,hr3⟩:=qaR h5;obtain ⟨A4,c4,rfl,hc4,hr4⟩:=qaR h6;exact ⟨A3,c3,A4,c4,rfl,rfl,hc3,hc4,hr3,cs,h7.cells,hr4⟩
end
def qhN (R:Option Addr->List Value->Prop) (w:World) (A:Option Addr) (ls:List (List Po)):Prop:=∃ cs:List Value,(cs.length=ls.length/\∀ i (h:i<ls.length),∃ A' c',cs[i]?=some (.slice A' ls[i].length c')/\(ls[i].length<=c'/\c'<=maxLen)/\∃ pcs,qak R ls[i] pcs/\Row w w.heap.size A' pcs)/\Row w w.heap.size A cs
theorem qhN.at_ {R:Option Addr->List Value->Prop} {w:World} {A:Option Addr} {ls:List (List Po)} (h:qhN R w A ls) {i:Nat} (hi:i<ls.length):∃ b off A' c',A=some ⟨b,off,none⟩/\b<w.heap.size/\w.cell? ⟨b,off+i,none⟩=some (.slice A' ls[i].length c')/\(ls[i].length<=c'/\c'<=maxLen)/\∃ pcs,qak R ls[i] pcs/\Row w w.heap.size A' pcs:=by
 obtain ⟨cs,⟨h1,h2⟩,h3⟩:=h;obtain ⟨A',c',g1,g2,g3⟩:=h2 i hi;obtain ⟨b,off,rfl,hb,hc⟩:=h3.at_ (by rw [h1];omega);exact ⟨b,off,A',c',rfl,hb,hc _ _ g1,g2,g3⟩
def qoB (R:Option Addr->List Value->Prop) (ls:List (List Po)) (w:World) (e:Ending) (w':World):Prop:=∃ o,qcb (qbn ls) o/\qfR R (o.map fun p=>(ls.getD p.1 []).getD p.2 (0,[])) w e w'
def qoC (ls:List (List Po)) (w:World) (D m:Nat) (idx:Value) (wr:World):Prop:=∃ k:Nat,idx= .int .i64 (k:Int)/\qa2 (qbn ls) w D m (D+1) k wr
def qoD (ls:List (List Po)) (s:List Int) (w:World) (D m k Bk:Nat) (cs0:List Value) (idx:Value) (wx:World):Prop:=∃ (j:Nat) (v:Value),idx= .int .i64 (j:Int)/\qc9 (qbn ls) w D m (D+1) k Bk j s v cs0 wx
def qjY (R:Option Addr->List Value->Prop) (lp:List Po) (w w2:World) (v10 idx:Value) (wr:World):Prop:=∃ (k:Nat) (cs:List Value),k<=lp.length/\idx= .int .i64 (k:Int)/\wr.ownsRow w2.heap.size 74 2 v10 k cs/\qak R (lp.take k) cs/\Below w2.heap.size w2 wr
theorem qhO {w:World} {b:Nat} {x y:Value} {t:TypeId} (h:w.heap[b]?=some (.cells #[x,y] t (0,0))):w.cell? ⟨b,0,none⟩=some x/\w.cell? ⟨b,1,none⟩=some y:=by
 simp [World.cell?,h]
theorem qvO (R:Option Addr->List Value->Prop) (A:Option Addr) (m c:Nat) (ls:List (List Po)) (w:World) (hp:qhN R w A ls) (hm:ls.length=m) (hmx:m<=1000) (hlen:∀ l∈ls,l.length<=1000) (hr:∀ s∈qbn ls,qai (-1) s=true) (ht:¬ qdI (qbn ls)):
    Calls Tryz.prog 87 #[.slice A m c] w (qoB R ls w):=by
  obtain ⟨t0,hi0,hz0,hz1,hz2⟩:=info_parts qfQ;obtain ⟨i0,ii0,iz0,iz1,iz2⟩:=info_parts qjf;obtain ⟨j0,ji0,jz0,jz1,jz2⟩:=info_parts qdi;have hdl:(qbn ls).length=m:=by simp [qbn,hm]
  obtain ⟨w1,hrun,hown1,hgrow1⟩:=run_make_full (P:=Tryz.prog) w w.heap.size 92 23 i0 _ 1 Tryz.underlying92 ii0 iz0 iz1 .i64 .i64 m (by rw [iz2];omega) (by unfold maxLen;omega) (Nat.le_refl _);have hrep:(madeCells (Value.slice none 0 0).cells (m*1)).toList=List.replicate m qa1:=by
    rw [show (Value.slice none 0 0).cells=#[.slice none 0 0] from rfl,toList_madeCells_one,Nat.mul_one]
  rw [hrep] at hown1;have hst:qoC ls w w.heap.size m (.int .i64 0) w1:=⟨0,rfl,qa2.begin ⟨Nat.lt_succ_self _,(hown1.lt _ rfl).2⟩ hdl (Below.refl _ _) hown1 hgrow1⟩;obtain ⟨D,hD⟩:∃ D,D=w.heap.size:=⟨_,rfl⟩;rw [<- hD] at hrun hst;have HST:=qH hst;have HP:=qH hp;have HM:=qH hm;have HLE:=qH hlen;have HR:=qH hr;have HT:=qH ht;have HDL:=qH hdl;clear hst hown1 hgrow1 hrep hp hm hlen hr ht hdl;have HD:=qH hD;clear hD
  go_enter Tryz.func87,Tryz.ntmps87
  go_wp2;clear hrun
  go_loopw [4,5,7,18,23,24,25] (fun u4 u5 u7 idx u23 u24 u25 wr=>qoC ls w D m idx wr) (fun _ _ _ idx _ _ _ _=>m-(intOf idx).toNat)
  case atStart=>exact HST.out
  case round=>
    clear HST;obtain ⟨k,rfl,hup⟩:=hrel;obtain ⟨wo,hwo⟩:∃ wo,wo=wr:=⟨_,rfl⟩;subst hwo;by_cases hkm:k<m
    · have hkl:k<ls.length:=by rw [HM.out];exact hkm
      have hbw:Below w.heap.size w wo:=by obtain ⟨_,_,_,_,_,h⟩:=hup;exact h
      obtain ⟨b,off,A',c',rfl,hb,q0,⟨hc1,hc2⟩,hps⟩:=(HP.out).at_ hkl;have q1:=(hbw.cell (p:=⟨b,off+k,none⟩) hb).trans q0;obtain ⟨pcs,hpc,hpr⟩:=hps;obtain ⟨s,hs⟩:∃ s,s=ls[k].map (·.1):=⟨_,rfl⟩;have hsk:∀ hk:k<(qbn ls).length,(qbn ls)[k]=s:=fun hk=>by rw [hs];simp [qbn]
      have hsl:s.length=ls[k].length:=by rw [hs];simp
      have hln:=(HLE.out) _ (List.getElem_mem hkl);have hsd:∀ j (hj:j<ls[k].length) (hj2:j<s.length),s[j]=(ls[k][j]).1:=fun j hj hj2=>by simp [hs]
      obtain ⟨l,hl⟩:∃ l,l=ls[k]:=⟨_,rfl⟩;rw [<- hl] at q0 q1 hc1 hpc hsl hln hsd;obtain ⟨n,hn⟩:∃ n,n=l.length:=⟨_,rfl⟩;rw [<- hn] at q0 q1 hc1 hsl hln;obtain ⟨cs0,hcs0,hmid⟩:=hup.mid (s:=s) hkm (by obtain ⟨_,_,_,_,h,_⟩:=hup;exact (h.own.lt _ rfl).2);have HMID:=qH (show qoD ls s w D m k wo.heap.size cs0 (.int .i64 0) wo from ⟨0,_,rfl,hmid⟩)
      have HSK:=qH hsk;have HSL:=qH hsl;have HSD:=qH hsd;have HPC:=qH hpc;have HPR:=qH hpr;have HN:=qH hn;have HC0:=qH hcs0;have hi1:(k:Int)<(m:Int):=by omega
      unfold maxLen at hc2;clear hup hmid hsk hsl hsd hpc hpr hs hl hn hcs0 q0 hbw hkl;go_wp2
      go_loopw [7,25] (fun u7 idx wx=>qoD ls s w D m k wo.heap.size cs0 idx wx) (fun _ idx _=>n-(intOf idx).toNat)
      case atStart=>exact HMID.out
      case round=>
        clear HMID;obtain ⟨j,v,rfl,hmid⟩:=hrel;have hjl:=hmid.le;rw [HSL.out] at hjl;by_cases hjn:j<n
        · have hjl2:j<l.length:=by rw [<- HN.out];exact hjn
          have hjs:j<s.length:=by rw [HSL.out];exact hjn
          obtain ⟨g1,A2,c2,g2,hd1,hd3,_⟩:=(HPC.out).at_ hjl2;have hgd:l.getD j (0,[])=l[j]:=by rw [List.getD_eq_getElem?_getD,List.getElem?_eq_getElem hjl2];rfl
          rw [hgd] at g1 g2;have hsj:=(HSD.out) j hjl2 hjs;obtain ⟨b2,o2,rfl,hb2,hcl⟩:=Row.at_ ((HPR.out).below hmid.below) (by rw [(HPC.out).len];omega);have p1:=hcl _ _ g1;have p2:=hcl _ _ g2;rw [<- Nat.add_assoc] at p2;rw [<- hsj] at p1;obtain ⟨d,hd⟩:∃ d,d=s[j]:=⟨_,rfl⟩;rw [<- hd] at p1;obtain ⟨N2,hN2⟩:∃ N2,N2=l[j].2.length:=⟨_,rfl⟩;rw [<- hN2] at p2;obtain ⟨Av,cv,rfl,_,_,_⟩:=qbu hmid.mine;have hj1:(j:Int)<(n:Int):=by omega
          clear g1 g2 hgd hcl hsj hN2 hd1 hjl2;have HMD:=qH hmid;have HD2:=qH hd;clear hmid hd;go_wp2;obtain ⟨wy,hwy⟩:∃ wy,wy=wr.alloc (.cells #[.int .i64 d,.slice A2 N2 c2] 74):=⟨_,rfl⟩;have hby:Below wr.heap.size wr wy:=by rw [hwy];exact (Below.refl _ wr).alloc (Nat.le_refl _) _
          have hbx:wy.cell? ⟨wr.heap.size,0,none⟩=some (.int .i64 d):=by
            rw [hwy];exact (qhO (heap_alloc_new wr (.cells #[.int .i64 d,.slice A2 N2 c2] 74))).1
          have hmy:=(HMD.out).later hby;obtain ⟨cy,fy⟩:=hmy.cell HC0.out hkm;have hDy:=(hmy.own.lt _ rfl).2;have hXy:wr.heap.size<wy.heap.size:=by rw [hwy];simp
          have cya:∀ o,(wy.alloc o).cell? ⟨D,k,none⟩=some (.slice Av j cv):=fun o=>(((Below.refl wy.heap.size wy).alloc (Nat.le_refl _) o).cell (p:=⟨D,k,none⟩) hDy).trans cy
          have bxa:∀ o,(wy.alloc o).cell? ⟨wr.heap.size,0,none⟩=some (.int .i64 d):=fun o=>(((Below.refl wy.heap.size wy).alloc (Nat.le_refl _) o).cell (p:=⟨wr.heap.size,0,none⟩) hXy).trans hbx
          have HMY:=qH hmy;have HTOP:=qH hmy.top;obtain ⟨X,hX⟩:∃ X,X=wr.heap.size:=⟨_,rfl⟩;rw [<- hX] at hbx bxa hXy;rw [<- hwy,<- hX];have hkm2:(k:Int)<(m:Int):=by omega
          clear hwy hby hmy HMD hX p1 p2 fy
          go_region_law (first
            | (refine step_append_lies _ (by rfl) _ _ _ (by rfl) wo.heap.size 3 j0 _ 1 8 Tryz.underlying23 ji0 jz0 jz1 jz2 rfl (by omega) (.slice Av j cv) j (qaa (s.take j)) (by rfl) ((HMY.out.mine.alloc _).drew)
                ⟨wy.heap.size,0,none⟩ 1 1 [.int .i64 d] (by rfl) (by rfl) (World.news_of_block (cs:=#[.int .i64 d]) (t:=3) (fr:=(0,0)) (heap_alloc_new wy _)) (by intro u hu;simp at hu;subst hu;rfl)
                (by omega) (by unfold maxLen;omega) (by omega) (by have :=HTOP.out;simp;omega) (wy.heap.size+1) (by simp) ?_
               intro gg cap w6 hown6 hgrow hat hlt1;rw [HD2.out] at hown6 hgrow;obtain ⟨c6,f6,hm6⟩:=((HMY.out).later (((Below.refl wy.heap.size wy).alloc (Nat.le_refl _) (.cells #[.int .i64 s[j]] 3)).drew)).grow HC0.out hkm hjs hown6 hgrow))
          all_goals
            have HM6:=qH hm6;clear hm6 hown6 hgrow hat hlt1;go_wp2;go_roundw
            case rel=>exact ⟨j+1,_,by go_num,HM6.out⟩
            case measure=>simp [intOf];omega
        · have hjn2:j=s.length:=by have :=HSL.out;omega
          have hup:=hmid.done HC0.out hkm HDL.out hjn2 (HSK.out);have HUP:=qH hup;clear hmid hup hjl;go_wp2;go_roundw
          case rel=>exact ⟨k+1,by go_num,HUP.out⟩
          case measure=>simp [intOf];omega
    · have hkm2:k=m:=by obtain ⟨_,_,h,_⟩:=hup;omega
      subst hkm2;have hbw:Below w.heap.size w wo:=by obtain ⟨_,_,_,_,_,h⟩:=hup;exact h
      have hdl:∀ s∈qbn ls,s.length<=1000:=fun s hs=>by
        obtain ⟨l,hl,rfl⟩:=List.mem_map.1 hs;simpa using (HLE.out) l hl
      have C1:=qH (qon (some ⟨D,0,none⟩) k k (qbn ls) wo hup.all HDL.out hmx hdl);have HBW:=qH hbw;have HDLL:=qH hdl;clear hup hbw hdl
      go_wp2_with (go_at_call 47; refine (C1.out).mono ?_; rintro e w2 ⟨err, o, Ao, co, hord, rfl, hcc, hro, hb2, hol⟩
                   have h0:err=0/\qcb (qbn ls) o:=(by
                     cases hord with
                     |bad h=>exact absurd HR.out h
                     |twice _ h=>exact absurd h HT.out
                     |ok _ h=>exact ⟨rfl,h⟩)
                   obtain ⟨rfl,hio⟩:=h0;have HIO:=qH hio;have HRO:=qH hro;have HB2:=qH ((HBW.out).trans (hb2.mono (HBW.out).size));clear hord hio hro hb2 hcc)
      obtain ⟨lp,hlp⟩:∃ lp,lp=o.map (fun p=>(ls.getD p.1 []).getD p.2 (0,[])):=⟨_,rfl⟩;obtain ⟨M,hM⟩:∃ M,M=o.length:=⟨_,rfl⟩;have hll:lp.length=M:=by rw [hlp,hM];simp
      have hst3:qjY R lp w w2 (.slice none 0 0) (.int .i64 0) w2:=⟨0,[],Nat.zero_le _,rfl,World.ownsRow_nil _ _ _ _,by simp [qak],Below.refl _ _⟩;rw [<- hM] at hol;have hat0:∀ i (hi:i<o.length) (hi2:i<lp.length),∃ x y,o[i]=(x,y)/\∃ (h1:x<ls.length) (h2:y<ls[x].length),lp[i]=ls[x][y]:=fun i hi hi2=>by
        obtain ⟨g1,g2⟩:=(HIO.out.mem _).1 (List.getElem_mem hi);have h1:o[i].1<ls.length:=by simpa [qbn] using g1
        have h2:o[i].2<ls[o[i].1].length:=by
          rw [qav g1] at g2;simpa [qbn] using g2
        refine ⟨o[i].1,o[i].2,rfl,h1,h2,?_⟩;subst hlp;rw [List.getElem_map,qav h1,qav h2]
      have HAT0:=qH hat0;have HST3:=qH hst3;have HLL:=qH hll;have HMM:=qH hM;have HLP:=qH hlp
      try rw [<- hM]
      clear hst3 hat0 hll hM hlp C1
      go_loopw [10,12,49] (fun v10 u12 idx wr=>qjY R lp w w2 v10 idx wr) (fun _ _ idx _=>M-(intOf idx).toNat)
      case atStart=>exact HST3.out
      case round=>
        clear HST3;obtain ⟨q,cs,hq,rfl,hown,hcs,hbw⟩:=hrel;rw [HLL.out] at hq;by_cases hqm:q<M
        · have hqo:q<o.length:=by rw [<- HMM.out];exact hqm
          have hql:q<lp.length:=by rw [HLL.out];exact hqm
          obtain ⟨x,y,hxy,h1,h2,hlq⟩:=(HAT0.out) q hqo hql;obtain ⟨b0,off0,rfl,hb0,r1,r2⟩:=qfN ((HRO.out).below hbw) hqo;rw [hxy] at r1 r2;obtain ⟨b,off,A1,c1,rfl,hb,q0,⟨hc1,hc2⟩,pcs,hpc,hpr⟩:=(HP.out).at_ h1;obtain ⟨g1,A2,c2,g2,hd1,hd3,hd4⟩:=hpc.at_ h2;have hgd:ls[x].getD y (0,[])=lp[q]:=by rw [hlq,List.getD_eq_getElem?_getD,List.getElem?_eq_getElem h2];rfl
          rw [hgd] at g1 g2 hd1 hd4;obtain ⟨b2,o2,rfl,hb2',hcl⟩:=Row.at_ hpr (by rw [hpc.len];omega);have htk:lp.take (q+1)=lp.take q++[(lp[q].1,lp[q].2)]:=List.take_succ_eq_append_getElem hql;have hxm:x<k:=by rw [<- HM.out];exact h1
          obtain ⟨n1,hn1⟩:∃ n1,n1=ls[x].length:=⟨_,rfl⟩;rw [<- hn1] at q0 h2 hc1;obtain ⟨d,hd⟩:∃ d,d=lp[q].1:=⟨_,rfl⟩;obtain ⟨N2,hN2⟩:∃ N2,N2=lp[q].2.length:=⟨_,rfl⟩;rw [<- hd] at g1;rw [<- hN2] at g2 hd1;have hbW:∀ W,Below w2.heap.size w2 W->Below w.heap.size w W:=fun W hW=>(HB2.out).trans (hW.mono (HB2.out).size)
          have hlW:∀ W,Below w2.heap.size w2 W->W.cell? ⟨b,off+x,none⟩=some (.slice (some ⟨b2,o2,none⟩) n1 c1)/\W.cell? ⟨b2,o2+y*2,none⟩=some (.int .i64 d)/\W.cell? ⟨b2,o2+y*2+1,none⟩=some (.slice A2 N2 c2):=fun W hW=>
            ⟨((hbW W hW).cell (p:=⟨b,off+x,none⟩) hb).trans q0,((hbW W hW).cell (p:=⟨b2,o2+y*2,none⟩) hb2').trans (hcl _ _ g1),((hbW W hW).cell (p:=⟨b2,o2+y*2+1,none⟩) hb2').trans (by have :=hcl _ _ g2;rwa [<- Nat.add_assoc] at this)⟩
          obtain ⟨wy,hwy⟩:∃ wy,wy=wr.alloc (.cells #[.int .i64 (x:Int),.int .i64 (y:Int)] 88):=⟨_,rfl⟩;have hbwy:Below w2.heap.size w2 wy:=by rw [hwy];exact hbw.alloc hbw.size _
          have hownY:wy.ownsRow w2.heap.size 74 2 u10 q cs:=by rw [hwy];exact hown.alloc _
          obtain ⟨t1,t2⟩:wy.cell? ⟨wr.heap.size,0,none⟩=some (.int .i64 (x:Int))/\wy.cell? ⟨wr.heap.size,1,none⟩=some (.int .i64 (y:Int)):=by rw [hwy];exact qhO (heap_alloc_new wr _)
          obtain ⟨s1,s2,s3⟩:=hlW wy hbwy;have hq1:(q:Int)<(M:Int):=by omega
          have hx1:(x:Int)<(k:Int):=by omega
          have hy1:(y:Int)<(n1:Int):=by omega
          have hM6:q<=1000000:=by omega
          have HTK:=qH htk;have HD:=qH hd;have HN2:=qH hN2;have HCS:=qH hcs;have HOY:=qH hownY;have HBY:=qH hbwy;have HD4:=qH hd4;have HWY:=qH hwy;have HSZ:Hid (w2.heap.size<=wy.heap.size):=qH hbwy.size;have HSB:Hid (w.heap.size<=w2.heap.size):=qH (HB2.out).size;unfold maxLen at hc2;clear hxy hlq hpc hpr hgd g1 g2 hcl htk hn1 hd hN2 hlW hbW hwy hbwy hownY hcs hown hbw hd4 q0 hqo;go_wp2;rw [<- HWY.out]
          go_region_law (first
            | (refine step_append_lies _ (by rfl) _ _ _ (by rfl) w2.heap.size 74 t0 _ 2 32 Tryz.underlying71 hi0 hz0 hz1 hz2 rfl (by omega) u10 q cs (by rfl) ((HOY.out.alloc _).drew)
                ⟨wy.heap.size,0,none⟩ 1 1 [.int .i64 d,.slice A2 N2 c2] (by rfl) (by rfl) (World.news_of_block (cs:=#[.int .i64 d,.slice A2 N2 c2]) (t:=74) (fr:=(0,0)) (heap_alloc_new wy _)) (by intro u hu;simp at hu;rcases hu with hu|hu<;>(subst hu;rfl))
                (by omega) (by unfold maxLen;omega) (by omega) (by have :=HSZ.out;simp;omega) (wy.heap.size+1) (by simp) ?_
               intro gg cap w6 hown6 hgrow hat hlt1))
          all_goals
            have hfin:qjY R lp w w2 (.slice (some ⟨gg,0,none⟩) (q+1) cap) (.int .i64 ((q:Int)+1)) w6:=by
              refine ⟨q+1,cs++[.int .i64 d,.slice A2 N2 c2],by rw [HLL.out];omega,rfl,hown6,?_,?_⟩
              · rw [HTK.out,HD.out,HN2.out]
                exact (HCS.out).snoc (by rw [<- HN2.out];exact hd1) hd3 HD4.out
              · exact ((HBY.out).alloc HSZ.out _).drew.grown hgrow (by have :=HSZ.out;simp;omega) fun z hz=>((HOY.out).lt z hz).1
            have HFIN:=qH hfin;clear hfin hown6 hgrow hat hlt1;go_wp2;go_roundw
            case rel=>exact HFIN.out
            case measure=>simp [intOf];omega
        · have hqe:q=lp.length:=by have :=HLL.out;omega
          have hfin:qoB R ls w (.returned u10) wr:=by
            refine ⟨o,HIO.out,u10,cs,rfl,?_,?_,(HB2.out).trans (hbw.mono (HB2.out).size)⟩
            · rw [List.length_map,<- HMM.out,<- HLL.out,<- hqe]
              exact qbg hown (HB2.out).size
            · rw [<- HLP.out]
              rwa [hqe,List.take_length] at hcs
          have HFIN:=qH hfin;clear hfin hown hcs hbw;go_wp2;go_ret;exact HFIN.out
structure qco (b0 base:Nat) (v3 v4:Value) (ks:List Nm) (cs:List Value) (ls:List (List Pn)) (w:World):Prop where
 hbase:b0<=base
 size:base<=w.heap.size
 keys:w.ownsRow base 9 1 v3 ks.length (qac ks)
 lists:w.ownsRow base 71 1 v4 ls.length cs
 lg:LG b0 w ls cs
section
variable {b0 base:Nat} {v3 v4:Value} {ks:List Nm} {ls:List (List Pn)} {cs:List Value} {w w':World}
theorem qco.below (h:qco b0 base v3 v4 ks cs ls w) (hb:Below w.heap.size w w'):qco b0 base v3 v4 ks cs ls w':=by
 obtain ⟨c,d,e,f,g⟩:=h;exact ⟨c,Nat.le_trans d hb.size,qao e hb,qao f hb,g.keep (.of_below hb (by omega))⟩
structure qe8 (b0:Nat) (w w':World):Prop where
 size:w.heap.size<=w'.heap.size
 low:∀ k,k<b0->w'.heap[k]?=w.heap[k]?
 kinds:∀ (k:Nat) (cs:Array Value) (t:TypeId) (fr:Nat × Nat),w.heap[k]?=some (.cells cs t fr)->t≠9->t≠71->w'.heap[k]?=some (.cells cs t fr)
 others:KeepsOthers w w'
 below:Below b0 w w'
theorem qe8.grown {E:TypeId} {size n:Nat} {v:Value} {xs:List Value} (hv:w.ownsRow base E size v n xs) (h0:b0<=base) (hE:E=9∨E=71) (hg:w.grownBy w' v.ownBlock) (hs:base<=w.heap.size):qe8 b0 w w':=
  ⟨hg.size, fun k hk => hg.block k (by omega) (fun e => by have := (hv.lt k e.symm).1; omega), fun k c t fr hk h1 h2 => (hg.block k (Array.getElem?_eq_some_iff.1 hk).1 (fun e => qah hv hk (by rcases hE with rfl | rfl <;> assumption) e.symm)).trans hk,
   KeepsOthers.of_grownBy hg fun j o ej hj=>by
      obtain ⟨cs',fr',hh⟩:=qeB hv ej;rw [hh] at hj;injection hj with hj;rw [<- hj];rfl,(Below.refl b0 w).grown hg (Nat.le_trans h0 hs) fun k hk=>by have :=(hv.lt k hk).1;omega⟩
theorem qe8.kept (h:qe8 b0 w w'):qap b0 w w':=⟨h.size,h.low,fun k c t fr hk ht=>h.kinds k c t fr hk (by rintro rfl;exact absurd ht (by unfold PoK;decide)) (by rintro rfl;exact absurd ht (by unfold PoK;decide))⟩
theorem qco.key (h:qco b0 base v3 v4 ks cs ls w) {v':Value} {k:Nm} (hown:w'.ownsRow base 9 1 v' (ks.length+1) (qac ks++[.string ⟨k.toArray⟩])) (hg:w.grownBy w' v3.ownBlock):qco b0 base v' v4 (ks++[k]) cs ls w'/\qe8 b0 w w':=by
 obtain ⟨c,d,e,f,g⟩:=h;have hk:=qe8.grown e c (.inl rfl) hg d;refine ⟨⟨c,Nat.le_trans d hk.size,?_,qgD f e (by decide) hg,g.keep hk.kept⟩,hk⟩;rw [List.length_append,List.length_singleton];simpa [qac] using hown
theorem qco.list (h:qco b0 base v3 v4 ks cs ls w) {v':Value} {l:List Pn} {A:Option Addr} {c:Nat} (hc:l.length<=c/\c<=maxLen) (hp:qb7 b0 w A l) (hown:w'.ownsRow base 71 1 v' (ls.length+1) (cs++[.slice A l.length c])) (hg:w.grownBy w' v4.ownBlock):
  qco b0 base v3 v' ks (cs++[.slice A l.length c]) (ls++[l]) w'/\qe8 b0 w w':=by
 obtain ⟨c1,d,e,f,g⟩:=h;have hk:=qe8.grown f c1 (.inr rfl) hg d;refine ⟨⟨c1,Nat.le_trans d hk.size,qgD e f (by decide) hg,?_,(g.snoc hc hp).keep hk.kept⟩,hk⟩;rw [List.length_append,List.length_singleton];exact hown
theorem qco.set (h:qco b0 base v3 v4 ks cs ls w) {R o:Nat} {xs:Array Value} {t:TypeId} {fr:Nat × Nat} (hR:w.heap[R]?=some (.cells xs t fr)) (h0:b0<=R) (ht:¬ PoK t) (ht1:t≠9) (ht2:t≠71) (v:Value):qco b0 base v3 v4 ks cs ls (w.setCell ⟨R,o,none⟩ v):=by
 obtain ⟨c,d,e,f,g⟩:=h;exact ⟨c,by simpa using d,qas e fun g hg=>Below.heap_setCell _ _ _ _ (fun e2=>qah e hR ht1 (by rw [hg,e2])),qas f fun g hg=>Below.heap_setCell _ _ _ _ (fun e2=>qah f hR ht2 (by rw [hg,e2])),g.keep (qap.setCell hR h0 ht v)⟩
theorem qco.firm {N:Nat} (hN:b0<=N):qat N (fun W=>qco b0 base v3 v4 ks cs ls W):=fun W l o o' hl ho hc h=>by
 obtain ⟨c,d,e,f,g⟩:=h;have hk:∀ (k:Nat) (cs:Array Value) (t:TypeId) (fr:Nat × Nat),W.heap[k]?=some (.cells cs t fr)->(W.putObj l o').heap[k]?=some (.cells cs t fr):=fun k cs t fr hk=>(World.putObj_heap_other (by rintro rfl;rw [ho] at hk;injection hk with hk;rw [hk] at hc;cases hc)).trans hk
 have hkg:qap b0 W (W.putObj l o'):=⟨by simp,fun k hk=>World.putObj_heap_other (by omega),fun k cs t fr h _=>hk k cs t fr h⟩;have hown:∀ {E:TypeId} {s n:Nat} {v:Value} {xs:List Value},W.ownsRow base E s v n xs->(W.putObj l o').ownsRow base E s v n xs:=fun h=>qas h fun g hg=>by
  obtain ⟨cs',fr',hh⟩:=qeB h hg;rw [hh,hk _ _ _ _ hh]
 exact ⟨c,by simpa using d,hown e,hown f,g.keep hkg⟩
end
theorem qfR.stay {b0:Nat} {l:List Po} {w w':World} {e:Ending} (h:qfR (qaV b0 3 w) l w e w') (h0:b0<=w.heap.size):∃ A c,e= .returned (.slice A l.length c)/\(l.length<=c/\c<=maxLen)/\qb7 b0 w' A l/\Below w.heap.size w w':=by
 obtain ⟨v,cs,rfl,h1,h2,h3⟩:=h;obtain ⟨A,c,rfl,hc,hr⟩:=qex h1;exact ⟨A,c,rfl,hc,⟨cs,h2.imp fun _ _ h=>h.keep (.inr rfl) (.of_below h3 h0),.of_own h1⟩,h3⟩
theorem LG.lpostsR {b0:Nat} {w:World} {ls:List (List Pn)} {cs:List Value} {A:Option Addr} (h:LG b0 w ls cs) (hr:Row w w.heap.size A cs):qhN (qaV b0 3 w) w A ls:=
 ⟨cs,⟨h.1,fun i hi=>by
  obtain ⟨A',c',h1,h2,pcs,h3,h4⟩:=h.2 i hi;exact ⟨A',c',h1,h2,pcs,h3,h4.row⟩⟩,hr⟩
abbrev Sl:=Option Addr × Nat × Nat
def qej:List Nm->List Sl->List Value
 |x::l,v::vs=> .string ⟨x.toArray⟩:: .slice v.1 v.2.1 v.2.2::qej l vs
 |_,_=>[]
theorem qvP (vs:List Sl):qej [] vs=[]:=by cases vs<;>rfl
theorem qoE:∀ {l:List Nm} {vs:List Sl} {x:Nm} {v:Sl},vs.length=l.length->qej (l++[x]) (vs++[v])=qej l vs++[.string ⟨x.toArray⟩,.slice v.1 v.2.1 v.2.2]
 |[],[],x,v,_=>rfl
 |[],_::_,_,_,h=>by simp at h
 |_::_,[],_,_,h=>by simp at h
 |y::l,u::vs,x,v,h=>by
  have :=qoE (l:=l) (vs:=vs) (x:=x) (v:=v) (by simpa using h);simp only [List.cons_append,qej,this]
theorem qvQ:(Tryz.prog.info? 265).map (fun i=>(i.zero,i.size,i.bytes))=some (some (.agg #[.string ByteArray.empty,.slice none 0 0]),2,40):=by kernel_rfl
def sls (vs:List Sl):List Value:=vs.map fun v=> .slice v.1 v.2.1 v.2.2
theorem qvR {w:World} {B:Nat} {A:Option Addr} {l:List Sl} {k:Nat} (h:Row w B A (sls l)) (hk:k<l.length):∃ b off,A=some ⟨b,off,none⟩/\b<B/\w.cell? ⟨b,off+k,none⟩=some (.slice l[k].1 l[k].2.1 l[k].2.2):=by
 obtain ⟨b,off,rfl,hb,hc⟩:=Row.at_ h (by simp [sls];omega);exact ⟨b,off,rfl,hb,hc _ _ (by simp [sls,hk])⟩
def qvS (w:World) (base B:Nat) (l:List Nm) (vs:List Sl):Prop:=
 base<=B/\vs.length=l.length/\∃ v,w.heap[B]?=some (.cells #[v] 263 (0,0))/\w.ownsRow base 265 2 v l.length (qej l vs)
def qoF (l:List Nm) (vs:List Sl) (w:World) (e:Ending) (w':World):Prop:=∃ B,e= .returned (.tuple #[.pointer (some ⟨B,0,none⟩),.int .i64 0])/\qvS w' w.heap.size B l vs/\Below w.heap.size w w'
def qvT (w:World) (e:Ending) (w':World):Prop:=e= .returned (.tuple #[.pointer none,.int .i64 1])/\Below w.heap.size w w'
theorem qvU (A A2:Option Addr) (n c m c2:Nat) (l:List Nm) (w:World) (hr:Row w w.heap.size A (qac l)) (hn:l.length=n) (hl:n<=1073741824) (hno:n≠m∨qc2 l=false):
  Calls Tryz.prog 112 #[.slice A n c,.slice A2 m c2] w (qvT w):=by
 by_cases hnm:n=m
 ·have hf:qc2 l=false:=hno.resolve_left (fun h=>h hnm)
  have c1:=qhf A n c l w hr hn hl;rw [hf] at c1;have C1:=qH c1;subst hnm;clear c1 hno hf hr hn
  go_enter Tryz.func112,Tryz.ntmps112
  go_wp2_with (go_at_call 120;refine (C1.out).mono ?_;rintro e w1 ⟨rfl,hb⟩)
  go_ret2;exact ⟨rfl,hb⟩
 ·have e1:((n:Int) != (m:Int))=true:=by simp;omega
  have e2:((n:Int)==(m:Int))=false:=by rw [beq_eq_false_iff_ne];omega
  clear hr hn hno hnm
  go_enter Tryz.func112,Tryz.ntmps112
  go_wp2;go_ret2;exact ⟨rfl,Below.refl _ _⟩
def qjZ (B:Nat) (l:List Nm) (vs:List Sl) (w:World) (i:Value) (wr:World):Prop:=
 ∃ (k:Nat) (v:Value),k<=l.length/\i= .int .i64 (k:Int)/\wr.heap[B]?=some (.cells #[v] 263 (0,0))/\wr.ownsRow w.heap.size 265 2 v k (qej (l.take k) (vs.take k))/\Below w.heap.size w wr
theorem qvV {w:World} {base B:Nat} {e:TypeId} {size:Nat} {v:Value} {n:Nat} {xs:List Value} {cs:Array Value} {t:TypeId} {fr:Nat × Nat} (h:w.ownsRow base e size v n xs) (hB:w.heap[B]?=some (.cells cs t fr)) (ht:t≠e) (o:Nat) (u:Value):(w.setCell ⟨B,o,none⟩ u).ownsRow base e size v n xs:=
 qas h fun g hg=>Below.heap_setCell _ _ _ _ (fun e1=>qah h hB ht (by rw [hg,e1]))
theorem qvW {w0 w1:World} {base B n:Nat} {v v':Value} {xs ys:List Value} (hv:w0.heap[B]?=some (.cells #[v] 263 (0,0))) (hown:w0.ownsRow base 265 2 v n xs) (hg:w0.grownBy w1 v.ownBlock) (hown1:w1.ownsRow base 265 2 v' (n+1) ys) (hbase:base<=w0.heap.size) (hB:base<=B):
  w1.heap[B]?=some (.cells #[v] 263 (0,0))/\(w1.setCell ⟨B,0,none⟩ v').heap[B]?=some (.cells #[v'] 263 (0,0))/\(w1.setCell ⟨B,0,none⟩ v').ownsRow base 265 2 v' (n+1) ys/\Below base w0 (w1.setCell ⟨B,0,none⟩ v'):=by
 have h1:w1.heap[B]?=some (.cells #[v] 263 (0,0)):=(hg.block B (lt_of_block hv) (fun e=>qah hown hv (by decide) e.symm)).trans hv;refine ⟨h1,by simpa using one_setCell h1,qvV hown1 h1 (by decide) _ _,?_⟩;exact (((Below.refl base w0).grown hg hbase fun k hk=>(hown.lt k hk).1)).setCell hB _
theorem qvX (A A2:Option Addr) (n c c2:Nat) (l:List Nm) (vs:List Sl) (w:World) (hr:Row w w.heap.size A (qac l)) (hn:l.length=n) (hl:n<=1048576) (hv:Row w w.heap.size A2 (sls vs)) (hvn:vs.length=n) (hg:qc2 l=true):
    Calls Tryz.prog 112 #[.slice A n c,.slice A2 n c2] w (qoF l vs w):=by
  obtain ⟨i0,hi0,hz0,hz1,hz2⟩:=info_parts qvQ;have c1:=qhf A n c l w hr hn (by omega);rw [hg] at c1;have C1:=qH c1;have HR:=qH hr;have HV:=qH hv;have HN:=qH hn;have HVN:=qH hvn;clear c1 hr hv hn hvn hg
  go_enter Tryz.func112,Tryz.ntmps112
  go_wp2_with (go_at_call 120;refine (C1.out).mono ?_)
  rintro e w1 ⟨rfl,hb1⟩;obtain ⟨w2,hrun,hown2,hgrow2⟩:=run_make_own (P:=Tryz.prog) w1 w.heap.size 261 265 i0 _ 2 Tryz.underlying261 hi0 hz0 hz1 .i64 .i64 n (by rw [hz2];omega) (by unfold maxLen;omega) hb1.size;have hb2:Below w.heap.size w w2:=hb1.grown hgrow2 hb1.size (fun k hk=>by cases hk);obtain ⟨B,hB⟩:∃ B,B=w2.heap.size:=⟨_,rfl⟩;obtain ⟨w3,hw3⟩:∃ w3,w3=w2.alloc (.cells #[.slice (some ⟨w1.heap.size,0,none⟩) 0 n] 263):=⟨_,rfl⟩;have hrel:qjZ B l vs w (.int .i64 ((0:Nat):Int)) w3:=by
    refine ⟨0,.slice (some ⟨w1.heap.size,0,none⟩) 0 n,Nat.zero_le _,rfl,?_,?_,?_⟩
    · rw [hw3,hB];exact heap_alloc_new w2 _
    · rw [hw3];simpa [qvP] using hown2.alloc _
    · rw [hw3];exact hb2.alloc hb2.size _
  have HREL:=qH hrel;have HW3:=qH hw3;have HB:=qH hB;have HBW:Hid (w.heap.size<=B):=qH (by rw [hB];exact hb2.size);clear hrel hown2 hgrow2 hb2 hb1 hw3 hB;go_wp2;rw [<- HW3.out,<- HB.out];clear hrun
  go_loopw [26] (qjZ B l vs w) (fun i _=>n-(intOf i).toNat)
  case atStart=>exact HREL.out
  case round=>
    obtain ⟨k,v,hk,rfl,hblk,hown,hbw⟩:=hrel;rw [HN.out] at hk;have hsz:=hbw.size;by_cases hlt:k<n
    · have hkl:k<l.length:=by rw [HN.out];exact hlt
      have hkv:k<vs.length:=by rw [HVN.out];exact hlt
      obtain ⟨b1,o1,e1,hb1,hc1⟩:=qer (HR.out.below hbw) hkl;obtain ⟨b2,o2,e2,hb2,hc2⟩:=qvR (HV.out.below hbw) hkv;subst e1 e2;obtain ⟨x,hx⟩:∃ x:ByteArray,x=⟨l[k].toArray⟩:=⟨_,rfl⟩;obtain ⟨y,hy⟩:∃ y,y=vs[k]:=⟨_,rfl⟩;rw [<- hx] at hc1;rw [<- hy] at hc2;have hsn:qej (l.take (k+1)) (vs.take (k+1))=qej (l.take k) (vs.take k)++[.string x,.slice y.1 y.2.1 y.2.2]:=by
        rw [List.take_succ_eq_append_getElem hkl,List.take_succ_eq_append_getElem hkv,qoE (by simp only [List.length_take];rw [HN.out,HVN.out]),<- hx,<- hy]
      obtain ⟨cs,hcs⟩:∃ cs,cs=qej (l.take k) (vs.take k):=⟨_,rfl⟩;rw [<- hcs] at hown hsn;have cB:=cell_of_one hblk;have fB:=free_of_one hblk;have k2:(0:Int)<=(k:Int):=by omega
      have k3:(k:Int)<(n:Int):=by omega
      have hBlt:=lt_of_block hblk;have hal:∀ o,((wr.alloc o).drew).cell? ⟨B,0,none⟩=some v:=fun o=>(((Below.refl _ wr).alloc (Nat.le_refl _) o).cell (p:=⟨B,0,none⟩) hBlt).trans cB
      have HOWN:=qH hown;have HBLK:=qH hblk;have HSN:=qH hsn;clear hx hy hcs hown hblk hsn hkl hkv;go_wp2
      go_region_law (first
        | (refine step_append_lies _ (by rfl) _ _ _ (by rfl) w.heap.size 265 i0 _ 2 40 Tryz.underlying261 hi0 hz0 hz1 hz2 rfl (by omega) v k cs (by rfl) ((HOWN.out.alloc _).drew)
            ⟨wr.heap.size,0,none⟩ 1 1 [.string x,.slice y.1 y.2.1 y.2.2] (by rfl) (by rfl) (World.news_of_block (cs:=#[.string x,.slice y.1 y.2.1 y.2.2]) (t:=265) (fr:=(0,0)) (heap_alloc_new wr.drew _)) (by intro u hu;simp at hu;rcases hu with hu|hu<;>(subst hu;rfl))
            (by omega) (by unfold maxLen;omega) (by omega) (by simp;omega) (wr.heap.size+1) (by simp) ?_
           intro gg cap w5 hown5 hg5 hat hlt5;obtain ⟨hB5,hB6,hown6,hb6⟩:=qvW (((Below.refl _ wr).alloc (Nat.le_refl _) _).drew.block B hBlt |>.trans HBLK.out) ((HOWN.out.alloc _).drew) hg5 hown5 (by simp;omega) HBW.out
           have cB5:=cell_of_one hB5;have fB5:=free_of_one hB5))
      all_goals
        have hrel:qjZ B l vs w (.int .i64 ((k:Int)+1)) (w5.setCell ⟨B,0,none⟩ (.slice (some ⟨gg,0,none⟩) (k+1) cap)):=by
          refine ⟨k+1,_,by rw [HN.out];omega,by go_num,hB6,?_,?_⟩
          · rw [HSN.out];exact hown6
          · exact hbw.trans ((((Below.refl _ wr).alloc hsz _).drew).trans hb6)
        have HREL:=qH hrel;clear hrel hB6 hown6 hb6 hB5;go_wp2;go_roundw
        case rel=>exact HREL.out
        case measure=>simp [intOf];omega
    · have hkn:k=n:=by omega
      have HFIN:Hid (qoF l vs w (.returned (.tuple #[.pointer (some ⟨B,0,none⟩),.int .i64 0])) wr):=qH ⟨B,rfl,⟨HBW.out,by rw [HN.out,HVN.out],v,hblk,by
        rw [hkn,List.take_of_length_le (by rw [HN.out];omega),List.take_of_length_le (by rw [HVN.out];omega)] at hown;rw [HN.out];exact hown⟩,hbw⟩
      clear hown hblk hbw;go_wp2;go_ret2;exact HFIN.out
def qvY (l:List Int) (r last i:Value):Prop:=r= .bool false/\∃ (k:Nat) (x:Int),k<=l.length/\i= .int .i64 (k:Int)/\last= .int .i64 x/\qdL x (l.drop k)=qdL (-1) l
theorem qoG (A:Option Addr) (m c:Nat) (l:List Int) (w:World) (hr:Row w w.heap.size A (qaa l)) (hm:l.length=m) (hl:m<=9223372036854775807):
  Calls Tryz.prog 161 #[.slice A m c] w fun e w'=>e= .returned (.bool (qcO l))/\w=w':=by
 have HR:=qH hr;clear hr;subst hm;rw [qt6];obtain ⟨ans,hans⟩:∃ ans,ans=qdL (-1) l:=⟨_,rfl⟩;rw [<- hans];have HA:=qH hans;clear hans
 go_enter Tryz.func161,Tryz.ntmps161
 go_wp2
 go_loop [2,3,8] (fun r last i=>qvY l r last i) (fun _ _ i=>l.length-(intOf i).toNat)
 case atStart=>exact ⟨rfl,0, -1,by omega,rfl,rfl,rfl⟩
 case round=>
  obtain ⟨rfl,k,x,hk,rfl,rfl,hx⟩:=hrel;by_cases hlt:k<l.length
  ·obtain ⟨b1,o1,e1,_,hc1⟩:=qjj HR.out hlt
   subst e1;rw [qt7 hlt] at hx;obtain ⟨y,hy⟩:∃ y,y=l.getD k 0:=⟨_,rfl⟩;rw [<- hy] at hc1 hx;clear hy;by_cases hxy:y<=x
   ·rw [decide_eq_false (by omega),Bool.false_and,Bool.false_and,<- HA.out] at hx
    subst hx;have hd:decide (y<=x)=true:=decide_eq_true hxy;go_wp2;go_ret;exact ⟨rfl,rfl⟩
   ·have hd:decide (y<=x)=false:=decide_eq_false hxy
    by_cases hyb:2147483648<=y
    ·rw [decide_eq_false (p:=y<2147483648) (by omega),Bool.and_false,Bool.false_and,<- HA.out] at hx
     subst hx;have hd2:decide (2147483648<=y)=true:=decide_eq_true hyb;go_wp2;go_ret;exact ⟨rfl,rfl⟩
    ·rw [decide_eq_true (p:=x<y) (by omega),decide_eq_true (p:=y<2147483648) (by omega),Bool.true_and,Bool.true_and] at hx
     have hd2:decide (2147483648<=y)=false:=decide_eq_false hyb;have HX:=qH hx;clear hx;go_wp2
     go_round
     case rel=>exact ⟨rfl,k+1,y,by omega,by go_num,rfl,HX.out⟩
     case measure=>simp [intOf];omega
  ·have hx2:qdL x (l.drop k)=true:=by rw [List.drop_eq_nil_of_le (by omega)];rfl
   rw [hx2,<- HA.out] at hx;subst hx;clear hx2;go_wp2;go_ret;exact ⟨rfl,rfl⟩
def qvZ (l:List Int) (r last i:Value):Prop:=r= .bool false/\∃ (k:Nat) (x:Int),k<=l.length/\i= .int .i64 (k:Int)/\last= .int .i64 x/\qai x (l.drop k)=qai (-1) l
theorem qv0 (A:Option Addr) (m c:Nat) (l:List Int) (w:World) (hr:Row w w.heap.size A (qaa l)) (hm:l.length=m) (hl:m<=9223372036854775807):
  Calls Tryz.prog 203 #[.slice A m c] w fun e w'=>e= .returned (.bool (qai (-1) l))/\w=w':=by
 have HR:=qH hr;clear hr;subst hm;obtain ⟨ans,hans⟩:∃ ans,ans=qai (-1) l:=⟨_,rfl⟩;rw [<- hans];have HA:=qH hans;clear hans
 go_enter Tryz.func203,Tryz.ntmps203
 go_wp2
 go_loop [2,3,8] (fun r last i=>qvZ l r last i) (fun _ _ i=>l.length-(intOf i).toNat)
 case atStart=>exact ⟨rfl,0, -1,by omega,rfl,rfl,rfl⟩
 case round=>
  obtain ⟨rfl,k,x,hk,rfl,rfl,hx⟩:=hrel;by_cases hlt:k<l.length
  ·obtain ⟨b1,o1,e1,_,hc1⟩:=qjj HR.out hlt
   subst e1;rw [qm5 hlt] at hx;obtain ⟨y,hy⟩:∃ y,y=l.getD k 0:=⟨_,rfl⟩;rw [<- hy] at hc1 hx;clear hy;by_cases hxy:y<=x
   ·rw [decide_eq_false (by omega),Bool.false_and,<- HA.out] at hx
    subst hx;go_wp2;go_ret;exact ⟨rfl,rfl⟩
   ·rw [decide_eq_true (by omega),Bool.true_and] at hx
    have HX:=qH hx;clear hx;go_wp2
    go_round
    case rel=>exact ⟨rfl,k+1,y,by omega,by go_num,rfl,HX.out⟩
    case measure=>simp [intOf];omega
  ·rw [qtt (by omega),<- HA.out] at hx
   subst hx;go_wp2;go_ret;exact ⟨rfl,rfl⟩
def qfs (base:Nat) (bs:List UInt8) (w:World) (e:Ending) (w':World):Prop:=∃ v,e= .returned v/\Own base w' v bs/\Below base w w'
def qv1 (base:Nat) (all:List UInt8) (n:Nat) (w:World) (v i:Value) (wr:World):Prop:=
 ∃ (cur:List UInt8) (x:Nat),i= .int .i64 (x:Int)/\x<=n/\cur.length<=all.length/\cur++qag x=all/\Buf base wr v cur/\Below base w wr
theorem qv2 (v:Value) (bs:List UInt8) (n:Nat) (base:Nat) (w:World) (hb:Buf base w v bs) (hbase:base<=w.heap.size) (hn:n<9223372036854775808) (hl:bs.length<=1073741824):
  Calls Tryz.prog 204 #[v,.int .i64 (n:Int)] w (qfs base (bs++qag n) w):=by
 obtain ⟨i0,hi0,hz0,hz1,hz2⟩:=info_parts qhk;have h9:=qeT hn;obtain ⟨all,hall⟩:∃ all,all=bs++qag n:=⟨_,rfl⟩;have hal:all.length<=1073741833:=by rw [hall,List.length_append];omega
 rw [<- hall];have HALL:=qH hall;have HB:=qH hb;clear hall hb
 go_enter Tryz.func204,Tryz.ntmps204
 go_wp2
 go_loopw [0,1] (fun v i wr=>qv1 base all n w v i wr) (fun _ i _=>(intOf i).toNat)
 case atStart=>exact ⟨bs,n,rfl,Nat.le_refl _,by rw [HALL.out];simp,HALL.out.symm,HB.out,Below.refl _ _⟩
 case round=>
  obtain ⟨cur,x,rfl,hx,hcl,hcat,hbuf,hbw⟩:=hrel;have hsz:=hbw.size;have HBUF:=qH hbuf;have HCAT:=qH hcat;clear hbuf hcat;by_cases h:128<=x
  ·obtain ⟨c,hc⟩:∃ c,c=UInt8.ofNat (128+x%128):=⟨_,rfl⟩
   have hcn:Hid (c.toNat=128+x%128):=qH (by rw [hc,qd9 (by omega)]);have hcat2:(cur++[c])++qag (x/128)=all:=by
    rw [<- HCAT.out,qd8 h,List.append_assoc,hc];rfl
   have hcl2:(cur++[c]).length<=all.length:=by rw [<- hcat2,List.length_append (bs:=qag (x/128))];omega
   clear hc;have HC2:=qH hcat2;have HL2:=qH hcl2;clear hcat2 hcl2
   go_wp2_with (at_builtin;refine qhl _ rfl (.tmp 9) (.tmp 14) 178 rfl base i0 _ Tryz.underlying178 hi0 hz0 hz1 hz2 rfl _ cur rfl (HBUF.out.alloc (by omega) _) (by simp;omega) ⟨wr.heap.size,0,none⟩ 1 _ rfl (qaO wr [.int .u8 _] 5) c (by rw [hcn.out];omega) (by omega) ?_)
   intro v' w3 hown3 hb3;go_wp2;go_roundw
   case rel=>exact ⟨_,x/128,by go_num,by omega,HL2.out,HC2.out,hown3.buf,(hbw.alloc (by omega) _).trans hb3⟩
   case measure=>simp [intOf];omega
  ·obtain ⟨c,hc⟩:∃ c,c=UInt8.ofNat x:=⟨_,rfl⟩
   have hcn:Hid (c.toNat=x):=qH (by rw [hc,qd9 (by omega)]);have hcat2:cur++[c]=all:=by rw [<- HCAT.out,qdR (by omega),hc]
   clear hc;have HC2:=qH hcat2;clear hcat2
   go_wp2_with (at_builtin;refine qhl _ rfl (.tmp 16) (.tmp 19) 178 rfl base i0 _ Tryz.underlying178 hi0 hz0 hz1 hz2 rfl _ cur rfl (HBUF.out.alloc (by omega) _) (by simp;omega) ⟨wr.heap.size,0,none⟩ 1 _ rfl (qaO wr [.int .u8 _] 5) c (by rw [hcn.out]) (by omega) ?_)
   intro v' w3 hown3 hb3;go_wp2;go_ret;exact ⟨_,rfl,by rw [<- HC2.out];exact hown3,(hbw.alloc (by omega) _).trans hb3⟩
end Go.Proofs.YtpehcaidjlemiaaGreatDoor
