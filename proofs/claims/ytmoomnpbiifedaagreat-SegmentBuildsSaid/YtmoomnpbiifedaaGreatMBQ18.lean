import Derived.Test.YtmoomnpbiifedaaGreatMBQ05
import Derived.Test.YtmoomnpbiifedaaGreatMBQ06
import Derived.Test.YtmoomnpbiifedaaGreatMBQ13
import Derived.Test.YtmoomnpbiifedaaGreatMBQ12
import Derived.Test.YtmoomnpbiifedaaGreatMBQ11
import Derived.RangeFuncOwn
import Derived.Test.YtmoomnpbiifedaaGreatMBQ04
import Derived.Test.YtmoomnpbiifedaaGreatMBQ01
import Derived.Test.YtmoomnpbiifedaaGreatMBQ02
import Derived.Lib.SliceRun
import Derived.BigQuiet
import Derived.Deep.QuietTactic
set_option linter.unusedVariables false
namespace Go.Proofs.YtmoomnpbiifedaaGreat
open Go Go.RowKit
def PoK (t:TypeId):Prop:=t=63∨t=3
structure KeptG (b0:Nat) (w w':World):Prop where
 size:w.heap.size≤w'.heap.size
 low:∀ k,k<b0→w'.heap[k]?=w.heap[k]?
 kinds:∀ (k:Nat) (cs:Array Value) (t:TypeId) (fr:Nat × Nat),w.heap[k]?=some (.cells cs t fr)→PoK t→w'.heap[k]?=some (.cells cs t fr)
section
variable {b0 base:Nat} {w w' w'':World} {A:Option Addr} {xs:List Value} {t:TypeId}
theorem KeptG.trans (h:KeptG b0 w w') (k:KeptG b0 w' w''):KeptG b0 w w'':=⟨Nat.le_trans h.size k.size,fun i hi=>(k.low i hi).trans (h.low i hi),fun i cs t fr hi ht=>k.kinds i cs t fr (h.kinds i cs t fr hi ht) ht⟩
theorem KeptG.of_below (hb:Below w.heap.size w w') (h0:b0≤w.heap.size):KeptG b0 w w':=⟨hb.size,fun k hk=>hb.block k (by omega),fun k cs t fr hk _=>(hb.block k (Array.getElem?_eq_some_iff.1 hk).1).trans hk⟩
theorem KeptG.setCell {P o:Nat} {cs:Array Value} {fr:Nat × Nat} (hP:w.heap[P]?=some (.cells cs t fr)) (h0:b0≤P) (ht:¬ PoK t) (v:Value):KeptG b0 w (w.setCell ⟨P,o,none⟩ v):=
 ⟨by simp,fun k hk=>Below.heap_setCell _ _ _ _ (by show k≠P;omega),fun k cs' t' fr' hk ht'=>(Below.heap_setCell _ _ _ _ (by rintro rfl;rw [hP] at hk;injection hk with hk;injection hk with _ e _;subst e;exact ht ht')).trans hk⟩
theorem KeptG.grown {E:TypeId} {size n:Nat} {v:Value} (hv:w.ownsRow base E size v n xs) (h0:b0≤base) (hE:¬ PoK E) (hg:w.grownBy w' v.ownBlock) (hs:base≤w.heap.size):KeptG b0 w w':=
 ⟨hg.size,fun k hk=>hg.block k (by omega) (fun e=>by have :=(hv.lt k e.symm).1;omega),fun k cs t fr hk ht=>(hg.block k (Array.getElem?_eq_some_iff.1 hk).1 (fun e=>owned_apart hv hk (fun e=>hE (e▸ht)) e.symm)).trans hk⟩
def RowG (b0:Nat) (t:TypeId) (w:World) (A:Option Addr) (xs:List Value):Prop:=xs=[]∨∃ b off,A=some ⟨b,off,none⟩∧b<w.heap.size∧(b<b0∨∃ cs fr,w.heap[b]?=some (.cells cs t fr))∧∀ j u,xs[j]?=some u→w.cell? ⟨b,off+j,none⟩=some u
theorem RowG.keep (h:RowG b0 t w A xs) (ht:PoK t) (hk:KeptG b0 w w'):RowG b0 t w' A xs:=by
 rcases h with h|⟨b,off,e,hb,hc,hx⟩
 ·exact .inl h
 ·have hblk:w'.heap[b]?=w.heap[b]?:=by
   rcases hc with hc|⟨cs,fr,hc⟩
   ·exact hk.low b hc
   ·rw [hk.kinds b cs t fr hc ht,hc]
  exact .inr ⟨b,off,e,Nat.lt_of_lt_of_le hb hk.size,hc.imp id fun ⟨cs,fr,hc⟩=>⟨cs,fr,by rw [hblk,hc]⟩,fun j u hu=>by rw [World.cell?_of_block (a:=⟨b,off+j,none⟩) hblk];exact hx j u hu⟩
theorem RowG.row (h:RowG b0 t w A xs):Row w w.heap.size A xs:=by
 rcases h with h|⟨b,off,e,hb,_,hx⟩
 ·exact .inl h
 ·exact .inr ⟨b,off,e,hb,hx⟩
theorem RowG.of_own {size n c:Nat} (h:w.ownsRow base t size (.slice A n c) n xs):RowG b0 t w A xs:=by
 rcases h.2 with ⟨hv,hn⟩|⟨g,cap,cur,hv,hg,hh,_⟩
 ·exact .inl (List.eq_nil_of_length_eq_zero (by rw [h.1,hn];simp))
 ·injection hv with h1 h2 h3
  subst h1
  rcases owned_row_of h with h0|⟨b,off,e,hb,hc⟩
  ·exact .inl h0
  ·injection e with e
   injection e with e1 e2
   subst e1 e2
   exact .inr ⟨g,0,rfl,hb,.inr ⟨_,_,hh⟩,hc⟩
theorem RowG.of_safe (h:RowS 0 w A xs):RowG b0 3 w A xs:=by
 rcases h with h|⟨b,off,e,⟨h1,h2⟩,hc⟩
 ·exact .inl h
 ·exact .inr ⟨b,off,e,h1,.inr (h2.resolve_left (Nat.not_lt_zero _)),hc⟩
def PostsG (b0:Nat) (w:World) (A:Option Addr) (l:List Pn):Prop:=∃ cs,PoCells (RowG b0 3 w) l cs∧RowG b0 63 w A cs
theorem PostsG.keep {l:List Pn} (h:PostsG b0 w A l) (hk:KeptG b0 w w'):PostsG b0 w' A l:=by
 obtain ⟨cs,h1,h2⟩:=h
 exact ⟨cs,h1.imp fun _ _ h=>h.keep (.inr rfl) hk,h2.keep (.inl rfl) hk⟩
theorem PostsG.posts {l:List Pn} (h:PostsG b0 w A l):Posts w w.heap.size A l:=by
 obtain ⟨cs,h1,h2⟩:=h
 exact ⟨cs,h1.imp fun _ _ h=>h.row,h2.row⟩
theorem PostsG.of_new {b:Nat} {v:Value} {l:List Pn} (h:NewPo b w v l):∃ A c,v= .slice A l.length c∧(l.length≤c∧c≤maxLen)∧PostsG b0 w A l:=by
 obtain ⟨cs,h1,h2⟩:=h
 obtain ⟨A,c,rfl,hc,hr⟩:=owned_roomed h1
 exact ⟨A,c,rfl,hc,cs,h2.imp fun _ _ h=> .of_safe h.1,.of_own h1⟩
def LG (b0:Nat) (w:World) (ls:List (List Pn)) (cs:List Value):Prop:=cs.length=ls.length∧∀ i (h:i<ls.length),∃ A c,cs[i]?=some (.slice A ls[i].length c)∧(ls[i].length≤c∧c≤maxLen)∧PostsG b0 w A ls[i]
theorem LG.nil:LG b0 w [] []:=⟨rfl,fun i h=>by simp at h⟩
theorem LG.keep {ls:List (List Pn)} {cs:List Value} (h:LG b0 w ls cs) (hk:KeptG b0 w w'):LG b0 w' ls cs:=⟨h.1,fun i hi=>by obtain ⟨A,c,h1,h2,h3⟩:=h.2 i hi;exact ⟨A,c,h1,h2,h3.keep hk⟩⟩
theorem LG.cells {ls:List (List Pn)} {cs:List Value} (h:LG b0 w ls cs):LCells w w.heap.size ls cs:=⟨h.1,fun i hi=>by obtain ⟨A,c,h1,h2,h3⟩:=h.2 i hi;exact ⟨A,c,h1,h2,h3.posts⟩⟩
theorem LG.snoc {ls:List (List Pn)} {cs:List Value} (h:LG b0 w ls cs) {l:List Pn} {A:Option Addr} {c:Nat} (hc:l.length≤c∧c≤maxLen) (hp:PostsG b0 w A l):LG b0 w (ls++[l]) (cs++[.slice A l.length c]):=by
 refine ⟨by simp [h.1],fun i hi=> ?_⟩
 by_cases hlt:i<ls.length
 ·obtain ⟨A',c',h1,h2,h3⟩:=h.2 i hlt
  rw [List.getElem_append_left hlt,List.getElem?_append_left (by rw [h.1];exact hlt)]
  exact ⟨A',c',h1,h2,h3⟩
 ·have hi':i<ls.length+1:=by simpa using hi
  have e:i=ls.length:=by omega
  subst e
  have e1:(ls++[l])[ls.length]'(by simp)=l:=by simp
  have e2:(cs++[Value.slice A l.length c])[ls.length]?=some (.slice A l.length c):=by rw [← h.1];simp
  rw [e1]
  exact ⟨A,c,e2,hc,hp⟩
theorem owned_beside {b1 b2:Nat} {E1 E2:TypeId} {s1 s2 n1 n2:Nat} {v1 v2:Value} {xs1 xs2:List Value} (h1:w.ownsRow b1 E1 s1 v1 n1 xs1) (h2:w.ownsRow b2 E2 s2 v2 n2 xs2) (hE:E2≠E1) (hg:w.grownBy w' v2.ownBlock):w'.ownsRow b1 E1 s1 v1 n1 xs1:=
 owned_keep h1 fun g hu=>hg.block g (h1.lt g hu).2 fun e=>owned_apart2 h2 h1 hE hu e.symm
end
theorem info_lists:(Tryz.prog.info? 58).map (fun i=>(i.zero,i.size,i.bytes))=some (some (.slice none 0 0),1,24):=by kernel_rfl
structure GatK (T:TypeId) (b0 base:Nat) (P:Nat) (v1 v2 v3 v4:Value) (ks:List Nm) (ls:List (List Pn)) (w:World):Prop where
 cells:w.heap[P]?=some (.cells #[v1,v2,v3,v4] T (0,0))
 le:b0≤P
 hbase:b0≤base
 size:base≤w.heap.size
 keys:w.ownsRow base 9 1 v3 ks.length (strs ks)
 lists:∃ cs,w.ownsRow base 58 1 v4 ls.length cs∧LG b0 w ls cs
section
variable {T:TypeId} {b0 base P:Nat} {v1 v2 v3 v4:Value} {ks:List Nm} {ls:List (List Pn)} {w w':World}
theorem four10 {x y z u:Value} {t:TypeId} {b:Nat} (h:w.heap[b]?=some (.cells #[x,y,z,u] t (0,0))):
  (w.cell? ⟨b,0,none⟩=some x∧w.cell? ⟨b,1,none⟩=some y∧w.cell? ⟨b,2,none⟩=some z∧w.cell? ⟨b,3,none⟩=some u)∧
   w.frozen? ⟨b,0,none⟩=false∧w.frozen? ⟨b,1,none⟩=false∧w.frozen? ⟨b,2,none⟩=false∧w.frozen? ⟨b,3,none⟩=false:=by
 simp [World.cell?,World.frozen?,h]
theorem GatK.lt (h:GatK T b0 base P v1 v2 v3 v4 ks ls w):P<w.heap.size:=(Array.getElem?_eq_some_iff.1 h.cells).1
theorem GatK.below (h:GatK T b0 base P v1 v2 v3 v4 ks ls w) (hb:Below w.heap.size w w'):GatK T b0 base P v1 v2 v3 v4 ks ls w':=by
 have hlt:=h.lt
 obtain ⟨h1,h2,h3,h4,h5,cs,h6,h7⟩:=h
 exact ⟨(hb.block P hlt).trans h1,h2,h3,Nat.le_trans h4 hb.size,owned_below h5 hb,cs,owned_below h6 hb,h7.keep (.of_below hb (by omega))⟩
theorem GatK.key (h:GatK T b0 base P v1 v2 v3 v4 ks ls w) (hT:¬ PoK T) (hT1:T≠9) (hT2:T≠58) {v':Value} {k:Nm} (hown:w'.ownsRow base 9 1 v' (ks.length+1) (strs ks++[.string ⟨k.toArray⟩])) (hg:w.grownBy w' v3.ownBlock):
  w'.heap[P]?=some (.cells #[v1,v2,v3,v4] T (0,0))∧GatK T b0 base P v1 v2 v' v4 (ks++[k]) ls (w'.setCell ⟨P,2,none⟩ v')∧Below b0 w (w'.setCell ⟨P,2,none⟩ v')∧KeepsOthers w (w'.setCell ⟨P,2,none⟩ v')∧∀ (k:Nat) (cs:Array Value) (t:TypeId) (fr:Nat × Nat),k≠P→w.heap[k]?=some (.cells cs t fr)→t≠9→(w'.setCell ⟨P,2,none⟩ v').heap[k]?=some (.cells cs t fr):=by
 have hlt:=h.lt
 obtain ⟨h1,h2,h3,h4,h5,cs,h6,h7⟩:=h
 have hP:w'.heap[P]?=some (.cells #[v1,v2,v3,v4] T (0,0)):=(hg.block P hlt (fun e=>owned_apart h5 h1 hT1 e.symm)).trans h1
 have hk1:KeptG b0 w w':=KeptG.grown h5 h3 (by unfold PoK;decide) hg h4
 have hk2:KeptG b0 w' (w'.setCell ⟨P,2,none⟩ v'):=KeptG.setCell hP h2 hT v'
 refine ⟨hP,⟨by simpa using heap_setCell_same w' P 2 _ _ v' hP,h2,h3,by have :=hk1.size;simp;omega,?_,cs,?_,h7.keep (hk1.trans hk2)⟩,(((Below.refl b0 w).grown hg (Nat.le_trans h3 h4) fun k hk=>by have :=(h5.lt k hk).1;omega).setCell (p:=⟨P,2,none⟩) h2 v'),(KeepsOthers.of_grownBy hg fun j o ej hj=>by
   obtain ⟨cs',fr',hh⟩:=owned_type h5 ej
   rw [hh] at hj;injection hj with hj;rw [← hj];rfl).trans (KeepsOthers.setCell _ _ _),fun k cs' t fr hkP hk ht=>(Below.heap_setCell _ _ _ _ (show k≠P from hkP)).trans ((hg.block k (Array.getElem?_eq_some_iff.1 hk).1 (fun e=>owned_apart h5 hk ht e.symm)).trans hk)⟩
 ·rw [List.length_append,List.length_singleton]
  have :=owned_keep (w':=w'.setCell ⟨P,2,none⟩ v') hown fun g hg'=>Below.heap_setCell _ _ _ _ (fun e=>owned_apart hown hP hT1 (by rw [hg',e]))
  simpa [strs] using this
 ·have h6':=owned_beside h6 h5 (by decide) hg
  exact owned_keep h6' fun g hg'=>Below.heap_setCell _ _ _ _ (fun e=>owned_apart h6' hP hT2 (by rw [hg',e]))
theorem GatK.list (h:GatK T b0 base P v1 v2 v3 v4 ks ls w) (hT:¬ PoK T) (hT1:T≠9) (hT2:T≠58) {v':Value} {l:List Pn} {A:Option Addr} {c:Nat} (hc:l.length≤c∧c≤maxLen) (hp:PostsG b0 w A l) {cs:List Value} (h6:w.ownsRow base 58 1 v4 ls.length cs) (h7:LG b0 w ls cs)
  (hown:w'.ownsRow base 58 1 v' (ls.length+1) (cs++[.slice A l.length c])) (hg:w.grownBy w' v4.ownBlock):
  w'.heap[P]?=some (.cells #[v1,v2,v3,v4] T (0,0))∧GatK T b0 base P v1 v2 v3 v' ks (ls++[l]) (w'.setCell ⟨P,3,none⟩ v')∧Below b0 w (w'.setCell ⟨P,3,none⟩ v')∧KeepsOthers w (w'.setCell ⟨P,3,none⟩ v')∧∀ (k:Nat) (cs:Array Value) (t:TypeId) (fr:Nat × Nat),k≠P→w.heap[k]?=some (.cells cs t fr)→t≠58→(w'.setCell ⟨P,3,none⟩ v').heap[k]?=some (.cells cs t fr):=by
 have hlt:=h.lt
 obtain ⟨h1,h2,h3,h4,h5,_⟩:=h
 have hP:w'.heap[P]?=some (.cells #[v1,v2,v3,v4] T (0,0)):=(hg.block P hlt (fun e=>owned_apart h6 h1 hT2 e.symm)).trans h1
 have hk1:KeptG b0 w w':=KeptG.grown h6 h3 (by unfold PoK;decide) hg h4
 have hk2:KeptG b0 w' (w'.setCell ⟨P,3,none⟩ v'):=KeptG.setCell hP h2 hT v'
 refine ⟨hP,⟨by simpa using heap_setCell_same w' P 3 _ _ v' hP,h2,h3,by have :=hk1.size;simp;omega,?_,cs++[.slice A l.length c],?_,(h7.snoc hc hp).keep (hk1.trans hk2)⟩,(((Below.refl b0 w).grown hg (Nat.le_trans h3 h4) fun k hk=>by have :=(h6.lt k hk).1;omega).setCell (p:=⟨P,3,none⟩) h2 v'),(KeepsOthers.of_grownBy hg fun j o ej hj=>by
   obtain ⟨cs',fr',hh⟩:=owned_type h6 ej
   rw [hh] at hj;injection hj with hj;rw [← hj];rfl).trans (KeepsOthers.setCell _ _ _),fun k cs' t fr hkP hk ht=>(Below.heap_setCell _ _ _ _ (show k≠P from hkP)).trans ((hg.block k (Array.getElem?_eq_some_iff.1 hk).1 (fun e=>owned_apart h6 hk ht e.symm)).trans hk)⟩
 ·have h5':=owned_beside h5 h6 (by decide) hg
  exact owned_keep h5' fun g hg'=>Below.heap_setCell _ _ _ _ (fun e=>owned_apart h5' hP hT1 (by rw [hg',e]))
 ·rw [List.length_append,List.length_singleton]
  exact owned_keep hown fun g hg'=>Below.heap_setCell _ _ _ _ (fun e=>owned_apart hown hP hT2 (by rw [hg',e]))
theorem GatK.firm {N:Nat} (hN:b0≤N):Firm N (fun W=>GatK T b0 base P v1 v2 v3 v4 ks ls W):=fun W l o o' hl ho hc h=>by
 obtain ⟨h1,h2,h3,h4,h5,cs,h6,h7⟩:=h
 have hk:∀ (k:Nat) (cs:Array Value) (t:TypeId) (fr:Nat × Nat),W.heap[k]?=some (.cells cs t fr)→(W.putObj l o').heap[k]?=some (.cells cs t fr):=fun k cs t fr hk=>(World.putObj_heap_other (by rintro rfl;rw [ho] at hk;injection hk with hk;rw [hk] at hc;cases hc)).trans hk
 have hkg:KeptG b0 W (W.putObj l o'):=⟨by simp,fun k hk=>World.putObj_heap_other (by omega),fun k cs t fr h _=>hk k cs t fr h⟩
 have hown:∀ {E:TypeId} {s n:Nat} {v:Value} {xs:List Value},W.ownsRow base E s v n xs→(W.putObj l o').ownsRow base E s v n xs:=fun h=>owned_keep h fun g hg=>by
  obtain ⟨cs',fr',hh⟩:=owned_type h hg
  rw [hh,hk _ _ _ _ hh]
 exact ⟨hk _ _ _ _ h1,h2,h3,by simpa using h4,hown h5,cs,hown h6,h7.keep hkg⟩
theorem GatK.rows {A3 A4:Option Addr} {n3 c3 n4 c4:Nat} (h:GatK T b0 base P v1 v2 (.slice A3 n3 c3) (.slice A4 n4 c4) ks ls w):Row w w.heap.size A3 (strs ks)∧LPosts w w.heap.size A4 ls:=by
 obtain ⟨_,_,_,_,h5,cs,h6,h7⟩:=h
 exact ⟨owned_row_of h5,cs,h7.cells,owned_row_of h6⟩
theorem GatK.setOther (h:GatK T b0 base P v1 v2 v3 v4 ks ls w) {R o:Nat} {cs:Array Value} {t:TypeId} {fr:Nat × Nat} (hR:w.heap[R]?=some (.cells cs t fr)) (h0:b0≤R) (hne:R≠P) (ht:¬ PoK t) (ht1:t≠9) (ht2:t≠58) (v:Value):GatK T b0 base P v1 v2 v3 v4 ks ls (w.setCell ⟨R,o,none⟩ v):=by
 obtain ⟨h1,h2,h3,h4,h5,cs',h6,h7⟩:=h
 exact ⟨(Below.heap_setCell _ _ _ _ (show P≠R from Ne.symm hne)).trans h1,h2,h3,by simpa using h4,owned_keep h5 fun g hg=>Below.heap_setCell _ _ _ _ (fun e=>owned_apart h5 hR ht1 (by rw [hg,e])),cs',
  owned_keep h6 fun g hg=>Below.heap_setCell _ _ _ _ (fun e=>owned_apart h6 hR ht2 (by rw [hg,e])),h7.keep (KeptG.setCell hR h0 ht v)⟩
theorem GatK.read (h:GatK T b0 base P v1 v2 v3 v4 ks ls w):∃ A3 c3 A4 c4,v3= .slice A3 ks.length c3∧v4= .slice A4 ls.length c4∧ks.length≤c3∧ls.length≤c4∧Row w w.heap.size A3 (strs ks)∧LPosts w w.heap.size A4 ls:=by
 obtain ⟨_,_,_,_,h5,cs,h6,h7⟩:=h
 obtain ⟨A3,c3,rfl,hc3,hr3⟩:=owned_row h5
 obtain ⟨A4,c4,rfl,hc4,hr4⟩:=owned_row h6
 exact ⟨A3,c3,A4,c4,rfl,rfl,hc3,hc4,hr3,cs,h7.cells,hr4⟩
end
end Go.Proofs.YtmoomnpbiifedaaGreat
set_option linter.unusedVariables false
namespace Go.Proofs.YtmoomnpbiifedaaGreat
open Go Go.RowKit
def GaveIsO (l:List Int) (w:World) (e:Ending) (w':World):Prop:=∃ A c,e= .returned (.slice A l.length c)∧l.length≤c∧w'.ownsRow w.heap.size 3 1 (.slice A l.length c) l.length (ints l)∧Below w.heap.size w w'
def GaveIs (l:List Int) (w:World) (e:Ending) (w':World):Prop:=∃ A c,e= .returned (.slice A l.length c)∧l.length≤c∧Row w' w'.heap.size A (ints l)∧Below w.heap.size w w'
set_option maxHeartbeats 2000000 in
set_option maxRecDepth 100000 in
theorem clone_intsO (A:Option Addr) (m c:Nat) (ps:List Int) (w:World) (hn:ps.length=m) (hr:Row w w.heap.size A (ints ps)) (hl:m≤2147483648):
  Calls Tryz.prog 26 #[.slice A m c] w (GaveIsO ps w):=by
 obtain ⟨i0,hi0,hz0,hz1,hz2⟩:=info_parts info_int
 have qe:∀ (w:World) (a:Option Addr) (n c n' c':Nat),(binOp .eql 22 (.slice a n c) (.slice none n' c')).run Tryz.prog w= .ok (.bool a.isNone) w:=fun w a n c n' c'=>Lib.run_eql_slice_nil w _ _ a n c n' c' Tryz.underlying22
 subst hn
 cases A with
 |none=>
  obtain rfl:ps=[]:=by
   rcases Nat.eq_zero_or_pos ps.length with h0|h0
   ·exact List.eq_nil_of_length_eq_zero h0
   ·obtain ⟨_,_,e,_⟩:=hr.at_ (by simpa [ints] using h0)
    cases e
  clear hr
  go_enter Tryz.func26,Tryz.ntmps26
  go_wp2
  go_ret
  exact ⟨none,0,rfl,Nat.zero_le _,World.ownsRow_nil _ _ _ _,Below.refl _ _⟩
 |some ad=>
  have HR:=Lib.hid hr
  have hwl:(ints ps).length=ps.length:=by simp [ints]
  have HWL:=Lib.hid hwl
  clear hr hwl
  have hlit:(w.alloc (.cells #[] 3)).ownsRow w.heap.size 3 1 (.slice (some ⟨w.heap.size,0,none⟩) 0 0) 0 []:=World.ownsRow_made w #[] 0 (Nat.le_refl _) (Nat.zero_le _) rfl
  obtain ⟨m,hm⟩:∃ m,m=ps.length:=⟨_,rfl⟩
  rw [← hm] at HWL hl
  rw [← hm]
  have HM:=Lib.hid hm
  clear hm
  go_enter Tryz.func26,Tryz.ntmps26
  go_wp2_with (at_builtin;(refine wpList_append_row _ rfl (.tmp 5) (.tmp 6) 22 rfl w.heap.size 3 i0 _ 1 8 Tryz.underlying22 hi0 hz0 hz1 hz2 rfl (by decide) _ 0 [] rfl hlit _ _ m c (ints ps) rfl (by rw [HWL.out];omega) ((HR.out.below ((Below.refl _ w).alloc (Nat.le_refl _) (.cells #[] 3))).more (B':=(w.alloc (.cells #[] 3)).heap.size) (by simp)) (ints_oneCell' _) (by unfold maxLen;omega) (by omega) (by simp) ?_))
  intro v' w' hown hgrow
  obtain ⟨A',c',rfl,hc',_⟩:=owned_row hown
  go_wp2
  go_ret
  refine ⟨A',c',by rw [← HM.out];rfl,by rw [← HM.out];exact hc',by rw [← HM.out];simpa using hown,((Below.refl _ _).alloc (Nat.le_refl _) _).grown hgrow (by simp) (fun k hk=>by cases hk;exact Nat.le_refl _)⟩
theorem clone_ints10 (A:Option Addr) (m c:Nat) (ps:List Int) (w:World) (hn:ps.length=m) (hr:Row w w.heap.size A (ints ps)) (hl:m≤2147483648):
  Calls Tryz.prog 26 #[.slice A m c] w (GaveIs ps w):=
 (clone_intsO A m c ps w hn hr hl).mono fun _ _ ⟨A,c,h1,h2,h3,h4⟩=>⟨A,c,h1,h2,owned_row_of h3,h4⟩
end Go.Proofs.YtmoomnpbiifedaaGreat
