import Derived.Test.YtldcadpemnpbmaaGreatDoorMLQ28
import Derived.Test.YtldcadpemnpbmaaGreatDoorMLQ11
import Derived.Test.YtldcadpemnpbmaaGreatDoorMLQ06
import Derived.Test.YtldcadpemnpbmaaGreatDoorMLQ01
import Derived.Test.YtldcadpemnpbmaaGreatDoorMLQ02
import Derived.Lib.SliceRun
import Derived.BigQuiet
import Derived.Deep.QuietTactic
import Derived.Test.YtldcadpemnpbmaaGreatDoorMLQ19
import Derived.Deep.RegionHeld3
import Derived.Test.YtldcadpemnpbmaaGreatDoorMLQ08
import Derived.Carry
import Derived.Test.YtldcadpemnpbmaaGreatDoorMLQ23
import Derived.Shelf.SlicesE.Clone
import Derived.Test.YtldcadpemnpbmaaGreatDoorProg
import Derived.Test.YtldcadpemnpbmaaGreatDoorMLQ26
set_option linter.unusedVariables false
namespace Go.Proofs.YtldcadpemnpbmaaGreatDoor
open Go Go.RowKit
structure GatI (T:TypeId) (b0 base P:Nat) (v1 v2:Value) (xs ys:List Int) (w:World):Prop where
 cells:w.heap[P]?=some (.cells #[v1,v2,.slice none 0 0,.slice none 0 0] T (0,0))
 le:b0≤P
 hbase:b0≤base
 size:base≤w.heap.size
 ids:w.ownsRow base 3 1 v1 xs.length (ints xs)
 seqs:w.ownsRow base 3 1 v2 ys.length (ints ys)
 apart:∀ g,v1.ownBlock=some g→v2.ownBlock≠some g
section
variable {T:TypeId} {b0 base P:Nat} {v1 v2:Value} {xs ys:List Int} {w w':World}
theorem GatI.lt (h:GatI T b0 base P v1 v2 xs ys w):P<w.heap.size:=(Array.getElem?_eq_some_iff.1 h.cells).1
theorem GatI.keep (h:GatI T b0 base P v1 v2 xs ys w) (hk:∀ k,k<w.heap.size→k=P∨v1.ownBlock=some k∨v2.ownBlock=some k→w'.heap[k]?=w.heap[k]?) (hs:w.heap.size≤w'.heap.size):GatI T b0 base P v1 v2 xs ys w':=
 ⟨(hk P h.lt (.inl rfl)).trans h.cells,h.le,h.hbase,Nat.le_trans h.size hs,owned_keep h.ids fun g hg=>hk g (h.ids.lt g hg).2 (.inr (.inl hg)),owned_keep h.seqs fun g hg=>hk g (h.seqs.lt g hg).2 (.inr (.inr hg)),h.apart⟩
theorem GatI.below (h:GatI T b0 base P v1 v2 xs ys w) (hb:Below w.heap.size w w'):GatI T b0 base P v1 v2 xs ys w':=h.keep (fun k hk _=>hb.block k hk) hb.size
theorem GatI.id (h:GatI T b0 base P v1 v2 xs ys w) (hT:T≠3) {v':Value} {x:Int} (hown:w'.ownsRow base 3 1 v' (xs.length+1) (ints xs++[.int .i64 x])) (hg:w.grownBy w' v1.ownBlock) (hat:v'.ownBlock=v1.ownBlock∨v'.ownBlock=some w.heap.size):
  w'.heap[P]?=some (.cells #[v1,v2,.slice none 0 0,.slice none 0 0] T (0,0))∧GatI T b0 base P v' v2 (xs++[x]) ys (w'.setCell ⟨P,0,none⟩ v')∧Below b0 w (w'.setCell ⟨P,0,none⟩ v')∧∀ k,k<w.heap.size→k≠P→v1.ownBlock≠some k→(w'.setCell ⟨P,0,none⟩ v').heap[k]?=w.heap[k]?:=by
 have hlt:=h.lt
 obtain ⟨h1,h2,h3,h4,h5,h6,h7⟩:=h
 have hP:w'.heap[P]?=some (.cells #[v1,v2,.slice none 0 0,.slice none 0 0] T (0,0)):=(hg.block P hlt (fun e=>owned_apart h5 h1 hT e.symm)).trans h1
 refine ⟨hP,⟨by simpa using heap_setCell_same w' P 0 _ _ v' hP,h2,h3,by have :=hg.size;simp;omega,?_,?_,fun g hg' e=> ?_⟩,((Below.refl b0 w).grown hg (Nat.le_trans h3 h4) fun k hk=>by have :=(h5.lt k hk).1;omega).setCell (p:=⟨P,0,none⟩) h2 v',fun k hk hkP hkv=>(Below.heap_setCell _ _ _ _ (show k≠P from hkP)).trans (hg.block k hk (fun e=>hkv e.symm))⟩
 ·have :=owned_keep (w':=w'.setCell ⟨P,0,none⟩ v') hown fun g hg'=>Below.heap_setCell _ _ _ _ (fun e=>owned_apart hown hP hT (by rw [hg',e]))
  rw [List.length_append,List.length_singleton]
  simpa [ints] using this
 ·have h6':w'.ownsRow base 3 1 v2 ys.length (ints ys):=owned_keep h6 fun g hg'=>hg.block g (h6.lt g hg').2 fun e=>h7 g e.symm hg'
  exact owned_keep h6' fun g hg'=>Below.heap_setCell _ _ _ _ (fun e=>owned_apart h6' hP hT (by rw [hg',e]))
 ·rcases hat with hat|hat
  ·exact h7 g (hat▸hg') e
  ·rw [hat] at hg'
   injection hg' with hg'
   have :=(h6.lt g e).2
   omega
theorem GatI.seq (h:GatI T b0 base P v1 v2 xs ys w) (hT:T≠3) {v':Value} {x:Int} (hown:w'.ownsRow base 3 1 v' (ys.length+1) (ints ys++[.int .i64 x])) (hg:w.grownBy w' v2.ownBlock) (hat:v'.ownBlock=v2.ownBlock∨v'.ownBlock=some w.heap.size):
  w'.heap[P]?=some (.cells #[v1,v2,.slice none 0 0,.slice none 0 0] T (0,0))∧GatI T b0 base P v1 v' xs (ys++[x]) (w'.setCell ⟨P,1,none⟩ v')∧Below b0 w (w'.setCell ⟨P,1,none⟩ v')∧∀ k,k<w.heap.size→k≠P→v2.ownBlock≠some k→(w'.setCell ⟨P,1,none⟩ v').heap[k]?=w.heap[k]?:=by
 have hlt:=h.lt
 obtain ⟨h1,h2,h3,h4,h5,h6,h7⟩:=h
 have hP:w'.heap[P]?=some (.cells #[v1,v2,.slice none 0 0,.slice none 0 0] T (0,0)):=(hg.block P hlt (fun e=>owned_apart h6 h1 hT e.symm)).trans h1
 refine ⟨hP,⟨by simpa using heap_setCell_same w' P 1 _ _ v' hP,h2,h3,by have :=hg.size;simp;omega,?_,?_,fun g hg' e=> ?_⟩,((Below.refl b0 w).grown hg (Nat.le_trans h3 h4) fun k hk=>by have :=(h6.lt k hk).1;omega).setCell (p:=⟨P,1,none⟩) h2 v',fun k hk hkP hkv=>(Below.heap_setCell _ _ _ _ (show k≠P from hkP)).trans (hg.block k hk (fun e=>hkv e.symm))⟩
 ·have h5':w'.ownsRow base 3 1 v1 xs.length (ints xs):=owned_keep h5 fun g hg'=>hg.block g (h5.lt g hg').2 fun e=>h7 g hg' e.symm
  exact owned_keep h5' fun g hg'=>Below.heap_setCell _ _ _ _ (fun e=>owned_apart h5' hP hT (by rw [hg',e]))
 ·have :=owned_keep (w':=w'.setCell ⟨P,1,none⟩ v') hown fun g hg'=>Below.heap_setCell _ _ _ _ (fun e=>owned_apart hown hP hT (by rw [hg',e]))
  rw [List.length_append,List.length_singleton]
  simpa [ints] using this
 ·rcases hat with hat|hat
  ·exact h7 g hg' (hat▸e)
  ·rw [hat] at e
   injection e with e
   have :=(h5.lt g hg').2
   omega
end
structure GatL (T:TypeId) (b0 base P:Nat) (v1 v2 v3 v4:Value) (ks:List Nm) (ls:List (List Pn)) (w:World):Prop where
 cells:w.heap[P]?=some (.cells #[v1,v2,v3,v4] T (0,0))
 le:b0≤P
 hbase:b0≤base
 size:base≤w.heap.size
 keys:∃ bk,w.ownsRow bk 9 1 v3 ks.length (strs ks)
 lists:∃ cs,w.ownsRow base 94 1 v4 ls.length cs∧LG b0 w ls cs
section
variable {T:TypeId} {b0 base P:Nat} {v1 v2 v3 v4:Value} {xs ys:List Int} {ks:List Nm} {ls:List (List Pn)} {w w':World}
theorem GatL.lt (h:GatL T b0 base P v1 v2 v3 v4 ks ls w):P<w.heap.size:=(Array.getElem?_eq_some_iff.1 h.cells).1
theorem GatL.below (h:GatL T b0 base P v1 v2 v3 v4 ks ls w) (hb:Below w.heap.size w w'):GatL T b0 base P v1 v2 v3 v4 ks ls w':=by
 have hlt:=h.lt
 obtain ⟨h1,h2,h3,h4,⟨bk,h5⟩,cs,h6,h7⟩:=h
 exact ⟨(hb.block P hlt).trans h1,h2,h3,Nat.le_trans h4 hb.size,⟨bk,owned_below h5 hb⟩,cs,owned_below h6 hb,h7.keep (.of_below hb (by omega))⟩
theorem GatL.list (h:GatL T b0 base P v1 v2 v3 v4 ks ls w) (hT:¬ PoK T) (hT1:T≠9) (hT2:T≠94) {v':Value} {l:List Pn} {A:Option Addr} {c:Nat} (hc:l.length≤c∧c≤maxLen) (hp:PostsG b0 w A l) {cs:List Value} (h6:w.ownsRow base 94 1 v4 ls.length cs) (h7:LG b0 w ls cs)
  (hown:w'.ownsRow base 94 1 v' (ls.length+1) (cs++[.slice A l.length c])) (hg:w.grownBy w' v4.ownBlock):
  w'.heap[P]?=some (.cells #[v1,v2,v3,v4] T (0,0))∧GatL T b0 base P v1 v2 v3 v' ks (ls++[l]) (w'.setCell ⟨P,3,none⟩ v')∧Below b0 w (w'.setCell ⟨P,3,none⟩ v')∧KeptG b0 w (w'.setCell ⟨P,3,none⟩ v')∧
   (∀ k,k<base→k≠P→(w'.setCell ⟨P,3,none⟩ v').heap[k]?=w.heap[k]?)∧∀ (k:Nat) (cs:Array Value) (t:TypeId) (fr:Nat × Nat),k≠P→w.heap[k]?=some (.cells cs t fr)→t≠94→(w'.setCell ⟨P,3,none⟩ v').heap[k]?=some (.cells cs t fr):=by
 have hlt:=h.lt
 obtain ⟨h1,h2,h3,h4,⟨bk,h5⟩,_⟩:=h
 have hP:w'.heap[P]?=some (.cells #[v1,v2,v3,v4] T (0,0)):=(hg.block P hlt (fun e=>owned_apart h6 h1 hT2 e.symm)).trans h1
 have hk1:KeptG b0 w w':=KeptG.grown h6 h3 (by unfold PoK;decide) hg h4
 have hk2:KeptG b0 w' (w'.setCell ⟨P,3,none⟩ v'):=KeptG.setCell hP h2 hT v'
 refine ⟨hP,⟨by simpa using heap_setCell_same w' P 3 _ _ v' hP,h2,h3,by have :=hk1.size;simp;omega,⟨bk,?_⟩,cs++[.slice A l.length c],?_,(h7.snoc hc hp).keep (hk1.trans hk2)⟩,((Below.refl b0 w).grown hg (Nat.le_trans h3 h4) fun k hk=>by have :=(h6.lt k hk).1;omega).setCell (p:=⟨P,3,none⟩) h2 v',hk1.trans hk2,
  fun k hk hkP=>(Below.heap_setCell _ _ _ _ (show k≠P from hkP)).trans (hg.block k (by omega) (fun e=>by have :=(h6.lt k e.symm).1;omega)),
  fun k cs' t fr hkP hk ht=>(Below.heap_setCell _ _ _ _ (show k≠P from hkP)).trans ((hg.block k (Array.getElem?_eq_some_iff.1 hk).1 (fun e=>owned_apart h6 hk ht e.symm)).trans hk)⟩
 ·have h5':=owned_beside h5 h6 (by decide) hg
  exact owned_keep h5' fun g hg'=>Below.heap_setCell _ _ _ _ (fun e=>owned_apart h5' hP hT1 (by rw [hg',e]))
 ·rw [List.length_append,List.length_singleton]
  exact owned_keep hown fun g hg'=>Below.heap_setCell _ _ _ _ (fun e=>owned_apart hown hP hT2 (by rw [hg',e]))
theorem GatL.rows {A3 A4:Option Addr} {n3 c3 n4 c4:Nat} (h:GatL T b0 base P v1 v2 (.slice A3 n3 c3) (.slice A4 n4 c4) ks ls w):Row w w.heap.size A3 (strs ks)∧LPosts w w.heap.size A4 ls:=by
 obtain ⟨_,_,_,_,⟨_,h5⟩,cs,h6,h7⟩:=h
 exact ⟨owned_row_of h5,cs,h7.cells,owned_row_of h6⟩
theorem GatI.lists (h:GatI T b0 base P v1 v2 xs ys w) (hT:¬ PoK T) (hT1:T≠9) {bk:Nat} {v3:Value} {ks:List Nm} (hk:w.ownsRow bk 9 1 v3 ks.length (strs ks)):
    GatL T b0 w.heap.size P v1 v2 v3 (.slice none 0 0) ks [] (w.setCell ⟨P,2,none⟩ v3)∧KeptG b0 w (w.setCell ⟨P,2,none⟩ v3)∧Below b0 w (w.setCell ⟨P,2,none⟩ v3):=
  ⟨⟨by simpa using heap_setCell_same w P 2 _ _ v3 h.cells, h.le, by have := h.hbase; have := h.size; omega, by simp, ⟨bk, owned_keep hk fun g hg => Below.heap_setCell _ _ _ _ (fun e => owned_apart hk h.cells hT1 (by rw [hg, e]))⟩, [], World.ownsRow_nil _ _ _ _, LG.nil⟩,
    KeptG.setCell h.cells h.le hT v3,(Below.refl b0 w).setCell (p:=⟨P,2,none⟩) h.le v3⟩
theorem GatI.rowG (h:GatI T b0 base P v1 v2 xs ys w):∃ A1 c1 A2 c2,v1= .slice A1 xs.length c1∧v2= .slice A2 ys.length c2∧xs.length≤c1∧ys.length≤c2∧RowG b0 3 w A1 (ints xs)∧RowG b0 3 w A2 (ints ys):=by
 have h5:=h.ids
 have h6:=h.seqs
 obtain ⟨A1,c1,e1,hc1,_⟩:=owned_row h5
 obtain ⟨A2,c2,e2,hc2,_⟩:=owned_row h6
 subst e1 e2
 exact ⟨A1,c1,A2,c2,rfl,rfl,hc1,hc2,.of_own h5,.of_own h6⟩
end
end Go.Proofs.YtldcadpemnpbmaaGreatDoor
set_option linter.unusedVariables false
namespace Go.Proofs.YtldcadpemnpbmaaGreatDoor
open Go Go.RowKit
def GaveIsO (l:List Int) (w:World) (e:Ending) (w':World):Prop:=∃ A c,e= .returned (.slice A l.length c)∧l.length≤c∧w'.ownsRow w.heap.size 3 1 (.slice A l.length c) l.length (ints l)∧Below w.heap.size w w'
set_option maxHeartbeats 2000000 in
set_option maxRecDepth 100000 in
theorem clone_intsO (A:Option Addr) (m c:Nat) (ps:List Int) (w:World) (hn:ps.length=m) (hr:Row w w.heap.size A (ints ps)) (hl:m≤2147483648):
  Calls Tryz.prog 99 #[.slice A m c] w (GaveIsO ps w):=by
 obtain ⟨i0,hi0,hz0,hz1,hz2⟩:=info_parts info_int
 have qe:∀ (w:World) (a:Option Addr) (n c n' c':Nat),(binOp .eql 88 (.slice a n c) (.slice none n' c')).run Tryz.prog w= .ok (.bool a.isNone) w:=fun w a n c n' c'=>Lib.run_eql_slice_nil w _ _ a n c n' c' Tryz.underlying88
 subst hn
 cases A with
 |none=>
  obtain rfl:ps=[]:=by
   rcases Nat.eq_zero_or_pos ps.length with h0|h0
   ·exact List.eq_nil_of_length_eq_zero h0
   ·obtain ⟨_,_,e,_⟩:=hr.at_ (by simpa [ints] using h0)
    cases e
  clear hr
  go_enter Tryz.func99,Tryz.ntmps99
  go_wp2
  go_ret
  exact ⟨none,0,rfl,Nat.zero_le _,World.ownsRow_nil _ _ _ _,Below.refl _ _⟩
 |some ad=>
  have HR:=Lib.hid hr
  have hwl:(ints ps).length=ps.length:=by simp [ints]
  have HWL:=Lib.hid hwl
  clear hr hwl
  have hlit:(w.alloc (.cells #[] 3)).ownsRow w.heap.size 3 1 (.slice (some ⟨w.heap.size,0,none⟩) 0 0) 0 []:=World.ownsRow_made w #[] 0 (Nat.le_refl _) (Nat.zero_le _) rfl
  obtain ⟨m,hm⟩:∃ m,m=ps.length:=⟨_,rfl⟩
  rw [← hm] at HWL hl
  rw [← hm]
  have HM:=Lib.hid hm
  clear hm
  go_enter Tryz.func99,Tryz.ntmps99
  go_wp2_with (at_builtin;(refine wpList_append_row _ rfl (.tmp 5) (.tmp 6) 88 rfl w.heap.size 3 i0 _ 1 8 Tryz.underlying88 hi0 hz0 hz1 hz2 rfl (by decide) _ 0 [] rfl hlit _ _ m c (ints ps) rfl (by rw [HWL.out];omega) ((HR.out.below ((Below.refl _ w).alloc (Nat.le_refl _) (.cells #[] 3))).more (B':=(w.alloc (.cells #[] 3)).heap.size) (by simp)) (ints_oneCell' _) (by unfold maxLen;omega) (by omega) (by simp) ?_))
  intro v' w' hown hgrow
  obtain ⟨A',c',rfl,hc',_⟩:=owned_row hown
  go_wp2
  go_ret
  refine ⟨A',c',by rw [← HM.out];rfl,by rw [← HM.out];exact hc',by rw [← HM.out];simpa using hown,((Below.refl _ _).alloc (Nat.le_refl _) _).grown hgrow (by simp) (fun k hk=>by cases hk;exact Nat.le_refl _)⟩
end Go.Proofs.YtldcadpemnpbmaaGreatDoor
set_option linter.unusedVariables false
namespace Go.Proofs.YtldcadpemnpbmaaGreatDoor
open Go Go.RowKit
theorem seg_made {w w6:World} {x:PartsP} {A1 A2 A3:Option Addr} {n1 n2 n3 c1 c2 c3:Nat} {bl:List Nat} (e1:x.ids.length=n1) (e2:x.seqs.length=n2) (e3:x.keys.length=n3) (hb:Below w.heap.size w w6) (h1:Row w6 w6.heap.size A1 (ints x.ids)) (hc1:n1≤c1) (h2:Row w6 w6.heap.size A2 (ints x.seqs)) (hc2:n2≤c2)
  (h3:Row w6 w6.heap.size A3 (entP x.keys bl)) (hbl:bl.length=x.keys.length) (hc3:n3≤c3) (hx3:c3≤maxLen) (hA3:A3=none∧x.keys=[]∧c3=0∨∃ g,A3=some ⟨g,0,none⟩)
  (hl:∀ i (h:i<x.lists.length),LAt w6 0 (bl.getD i 0) (bytesP (-1) x.lists[i]) x.lists[i]) (hm:mayPs x=true) (hs:PSmall x) (t1:RowT 3 w6 A1) (t2:RowT 3 w6 A2) (t3:RowT 245 w6 A3):
  MadeSeg x w (.returned (.tuple #[.pointer (some ⟨w6.heap.size,0,none⟩),.int .i64 0])) (w6.alloc (.cells #[.slice A1 n1 c1,.slice A2 n2 c2,.slice A3 n3 c3] 167)):=by
 subst e1 e2 e3
 have hal:Below w6.heap.size w6 (w6.alloc (.cells #[.slice A1 x.ids.length c1,.slice A2 x.seqs.length c2,.slice A3 x.keys.length c3] 167)):=(Below.refl _ _).alloc (Nat.le_refl _) _
 have hblk:=heap_alloc_new w6 (.cells #[.slice A1 x.ids.length c1,.slice A2 x.seqs.length c2,.slice A3 x.keys.length c3] 167)
 refine ⟨_,rfl,⟨⟨A1,c1,A2,c2,A3,c3,hblk,hc1,hc2,Row.later h1 hal,Row.later h2 hal⟩,⟨bl,⟨by simp,hbl,A3,c3,(cells3 hblk).2.2,hc3,hx3,Row.later h3 hal,hA3⟩,fun i hi=>⟨0,(hl i hi).below hal⟩⟩,hm,hs,fun B1 B2 B3 n1 d1 n2 d2 n3 d3 hB=> ?_⟩,hb.size,hb.trans (hal.mono hb.size)⟩
 rw [hblk] at hB
 simp only [Option.some.injEq,Obj.cells.injEq,Array.mk.injEq,List.cons.injEq,Value.slice.injEq] at hB
 obtain ⟨⟨⟨rfl,_⟩,⟨rfl,_⟩,⟨rfl,_⟩,_⟩,_⟩:=hB
 exact ⟨t1.below hal,t2.below hal,t3.below hal⟩
theorem DictAtP.rowT {w:World} {base B n c:Nat} {l:List Nm} {vs:List Nat} {A:Option Addr} (h:DictAtP w base B l vs) (hc:w.cell? ⟨B,0,none⟩=some (.slice A n c)):RowT 245 w A:=by
 obtain ⟨_,_,v,h3,h4⟩:=h
 rw [cell_of_one h3] at hc
 injection hc with hc
 subst hc
 exact rowT_own h4
set_option maxHeartbeats 8000000 in
set_option maxRecDepth 100000 in
theorem seg_Make (A1 A2 A3 A4:Option Addr) (n1 c1 n2 c2 n3 c3 n4 c4:Nat) (x:PartsP) (w:World)
    (hx1:x.ids.length=n1) (hx2:x.seqs.length=n2) (hx3:x.keys.length=n3) (hx4:x.lists.length=n4) (hx:PAt w w.heap.size A1 A2 A3 A4 x) (fx:PFew x) (hs:PSmall x) (hm:mayPs x=true):
    Calls Tryz.prog 44 #[.agg #[.slice A1 n1 c1,.slice A2 n2 c2,.slice A3 n3 c3,.slice A4 n4 c4]] w (MadeSeg x w):=by
  obtain ⟨i0,hi0,hz0,hz1,hz2⟩:=info_parts info_listp
  obtain ⟨m12,m34,_,mk,ml⟩:=mayPs_iff.1 hm
  have hk:n3≤1048576:=hx3▸hs.keys
  have h43:n4=n3:=by omega
  have h21:n2=n1:=by omega
  subst h43 h21
  obtain ⟨V,hV⟩:∃ V:Array Value,V=#[.slice A1 n2 c1,.slice A2 n2 c2,.slice A3 n4 c3,.slice A4 n4 c4]:=⟨_,rfl⟩
  obtain ⟨w1,hw1⟩:∃ w1,w1=w.alloc (.cells #[.slice A1 n2 c1,.slice A2 n2 c2,.slice A3 n4 c3,.slice A4 n4 c4] 91):=⟨_,rfl⟩
  have hb1:Below w.heap.size w w1:=by rw [hw1];exact (Below.refl _ w).alloc (Nat.le_refl _) _
  have hM:=seg_May A1 A2 A3 A4 n2 c1 n2 c2 n4 c3 n4 c4 x w1 hx1 hx2 hx3 hx4 (hx.later hb1) fx hk
  rw [hm] at hM
  have HM:=Lib.hid hM
  have HB1:Hid (SBox w w.heap.size V w1):=Lib.hid (by rw [hw1,hV];exact sBox_start w _)
  have HW1:=Lib.hid hw1
  have HX:=Lib.hid hx
  have HV:=Lib.hid hV
  have H1:=Lib.hid hx1
  have H2:=Lib.hid hx2
  have H3:=Lib.hid hx3
  have H4:=Lib.hid hx4
  have HML:=Lib.hid ml
  have HMK:=Lib.hid mk
  have HMM:=Lib.hid hm
  have HS:=Lib.hid hs
  have hn2:n2≤1048576:=hx1▸hs.ids
  clear hM hw1 hb1 hx fx hx1 hx2 hx3 hx4 hm mk ml m12 m34 hV hs
  have QS:Hid (∀ wr,SBox w w.heap.size V wr→wr.cell? ⟨w.heap.size,0,none⟩=some (.slice A1 n2 c1)∧wr.cell? ⟨w.heap.size,1,none⟩=some (.slice A2 n2 c2)∧wr.cell? ⟨w.heap.size,2,none⟩=some (.slice A3 n4 c3)∧wr.cell? ⟨w.heap.size,3,none⟩=some (.slice A4 n4 c4)):=Lib.hid fun wr h=>by
    obtain ⟨_,_,h2⟩:=h
    rw [HV.out] at h2
    exact cells4 h2
  go_enter Tryz.func44,Tryz.ntmps44
  go_wp2_with (go_at_call 100; rw [show w.alloc _ = w1 from HW1.out.symm]; refine HM.out.mono ?_; rintro e w2 ⟨rfl, hb2⟩
               have HB2:Hid (SBox w w.heap.size V w2):=Lib.hid (HB1.out.below hb2)
               clear hb2
               obtain ⟨q0,q1,q2,q3⟩:=QS.out _ HB2.out
               obtain ⟨w3,hrun,hown3,hgrow3⟩:=run_make_own (P:=Tryz.prog) w2 w.heap.size 156 157 i0 _ 1 Tryz.underlying156 hi0 hz0 hz1 .i64 .i64 n4 (by rw [hz2];omega) (by unfold maxLen;omega) HB2.out.1.size
               have hb3:Below w2.heap.size w2 w3:=(Below.refl _ w2).grown hgrow3 (Nat.le_refl _) (fun k hk=>by cases hk)
               have HB3:Hid (SBox w w.heap.size V w3):=Lib.hid (HB2.out.below hb3)
               have HOWN3:=Lib.hid hown3
               clear hown3 hgrow3 hb3
               obtain ⟨p0,p1,p2,p3⟩:=QS.out _ HB3.out)
  clear hrun q0 q1 q2 q3
  go_loopw [4,21] (fun vl i wr=>MkRel w V x.lists vl i wr) (fun _ i _=>n4-(intOf i).toNat)
  case atStart=>exact ⟨0,[],Nat.zero_le _,rfl,rfl,HOWN3.out,fun j _ hj=>by omega,HB3.out⟩
  case round=>
    obtain ⟨k,bl,hk',rfl,hmk⟩:=hrel
    rw [H4.out] at hk'
    have hsz:=hmk.box.1.size
    by_cases hlt:k<n4
    · have hkl:k<x.lists.length:=by rw [H4.out];exact hlt
      obtain ⟨b1,o1,A',c',rfl,hb1,hc1,hl1,hp1⟩:=(HX.out.lists.below hmk.box.1).at_ hkl
      have f1:=HS.out.lists _ (List.getElem_mem hkl)
      have hk0:(0:Int)≤k:=by omega
      have hk1:(k:Int)<n4:=by omega
      have f2:=(mayL_may (HML.out _ (List.getElem_mem hkl))).1
      obtain ⟨L,hL⟩:∃ L,L=x.lists[k]:=⟨_,rfl⟩
      rw [← hL] at hc1 hl1 hp1 f1 f2
      obtain ⟨m,hm⟩:∃ m,m=L.length:=⟨_,rfl⟩
      rw [← hm] at hc1 hl1
      have HP:=Lib.hid (posting_Make A' m c' L wr hm.symm hl1.1 hl1.2 (by omega) (hp1.more hsz) f1.2 f2)
      have HMKA:=Lib.hid hmk
      have HKL:=Lib.hid hkl
      have HL:=Lib.hid hL
      clear hm f1 f2 hl1 hp1 hmk hL
      go_wp2_with (first
        | (go_at_call 101; refine HP.out.mono ?_; rintro e w5 ⟨B, rfl, hB, hb5⟩
           have HMK5:=Lib.hid (HMKA.out.below hb5)
           have HB5:=Lib.hid (hB.low (Nat.zero_le _))
           clear hB hb5)
        |(at_builtin;refine wpList_append_own _ rfl (.tmp 30) (.tmp 32) 156 rfl w.heap.size 157 i0 _ 1 8 Tryz.underlying156 hi0 hz0 hz1 hz2 rfl (by omega) _ k (ptrs bl) rfl (HMK5.out.own.alloc _) ⟨w5.heap.size,0,none⟩ 1 1 [.pointer (some ⟨B,0,none⟩)] rfl rfl (news_at w5 [.pointer (some ⟨B,0,none⟩)] 157) (by intro u hu;simp at hu;subst hu;rfl) (by unfold maxLen;omega) (by omega) (by have :=HMK5.out.box.1.size;simp;omega) ?_))
      intro v' w6 hown6 hgrow6 hz6
      clear hz6
      have hal5:Below w5.heap.size w5 (w5.alloc (.cells #[.pointer (some ⟨B,0,none⟩)] 157)):=(Below.refl _ _).alloc (Nat.le_refl _) _
      have hmk6:=(HMK5.out.below hal5).push HKL.out (B:=B) (by have :=HB5.out.below hal5;rwa [HL.out] at this) hown6 hgrow6
      have HMK6:=Lib.hid hmk6
      clear hal5 hmk6 hown6 hgrow6
      go_wp2
      go_roundw
      case rel=>exact ⟨k+1,_,by rw [H4.out];omega,by go_num,HMK6.out⟩
      case measure=>simp [intOf];omega
    · have hkn:k=n4:=by omega
      subst hkn
      have hown:=hmk.own
      obtain ⟨Al,cl,rfl,hcl,hrl⟩:=owned_row hown
      have HMKA:=Lib.hid hmk
      have hbl:=hmk.len
      have HBLL:Hid (bl.length=k):=Lib.hid hbl
      have HD:=Lib.hid (dictP_Make A3 Al k c3 cl x.keys bl wr ((HX.out.later hmk.box.1).keys) H3.out hk hrl hbl HMK.out)
      obtain ⟨q0,q1,q2,q3⟩:=QS.out _ hmk.box
      clear hmk hown hrl hbl
      go_wp2_with (go_at_call 102; refine HD.out.mono ?_; rintro e w5 ⟨D, rfl, hd, hb5⟩
                   have HMK5:=Lib.hid (HMKA.out.below hb5)
                   have HDR:=Lib.hid hd
                   clear hd hb5)
      obtain ⟨A5,c5,hd1,hd2,hd3,hd4,hd5⟩:=HDR.out.read
      rw [H3.out] at hd1 hd2
      have HT5:=Lib.hid (HDR.out.rowT hd1)
      have HD3:=Lib.hid hd3
      have HD4:=Lib.hid hd4
      have HD5:=Lib.hid hd5
      have hDl:D<w5.heap.size:=by obtain ⟨_,_,v,h,_⟩:=HDR.out;exact lt_of_block h
      have HKD:Hid (∀ w',Below w5.heap.size w5 w'→(w'.cell? ⟨w.heap.size,0,none⟩=some (.slice A1 n2 c1)∧w'.cell? ⟨w.heap.size,1,none⟩=some (.slice A2 n2 c2))∧w'.cell? ⟨D,0,none⟩=some (.slice A5 k c5)):=Lib.hid fun w' h=>by
        have hq:=QS.out _ (HMK5.out.box.below h)
        exact ⟨⟨hq.1,hq.2.1⟩,(h.cell (p:=⟨D,0,none⟩) hDl).trans hd1⟩
      have HC1:Hid (∀ w',Below w5.heap.size w5 w'→Calls Tryz.prog 99 #[.slice A1 n2 c1] w' (GaveIsO x.ids w')):=Lib.hid fun w' h=>
        clone_intsO A1 n2 c1 x.ids w' H1.out ((HX.out.later (HMK5.out.box.below h).1).ids) (by omega)
      have HC2:Hid (∀ w',Below w5.heap.size w5 w'→Calls Tryz.prog 99 #[.slice A2 n2 c2] w' (GaveIsO x.seqs w')):=Lib.hid fun w' h=>
        clone_intsO A2 n2 c2 x.seqs w' H2.out ((HX.out.later (HMK5.out.box.below h).1).seqs) (by omega)
      have HB0:Hid (Below w5.heap.size w5 w5.drew):=Lib.hid (Below.refl _ w5).drew
      have HFIN:Hid (∀ w8,Below w5.heap.size w5 w8→∀ s1 s2 B1 d1 B2 d2,w8.ownsRow s1 3 1 (.slice B1 n2 d1) n2 (ints x.ids)→n2≤d1→w8.ownsRow s2 3 1 (.slice B2 n2 d2) n2 (ints x.seqs)→n2≤d2→
          MadeSeg x w (.returned (.tuple #[.pointer (some ⟨w8.heap.size,0,none⟩),.int .i64 0])) (w8.alloc (.cells #[.slice B1 n2 d1,.slice B2 n2 d2,.slice A5 k c5] 167))):=Lib.hid fun w8 h s1 s2 B1 d1 B2 d2 r1 r2 r3 r4=>
        seg_made (bl:=bl) H1.out H2.out H3.out (HMK5.out.box.below h).1 (owned_row_of r1) r2 (owned_row_of r3) r4 (Row.later HD4.out h) (by rw [HBLL.out,H3.out]) hd2 HD3.out HD5.out (fun i hi=>(HMK5.out.at_ i hi (by have :=H4.out;omega)).below h) HMM.out HS.out (rowT_own r1) (rowT_own r3) (HT5.out.below h)
      clear hd1 hd3 hd4 hd5 hDl hd2
      go_region_held3 (fun w'=>(w'.cell? ⟨w.heap.size,0,none⟩=some (.slice A1 n2 c1)∧w'.cell? ⟨w.heap.size,1,none⟩=some (.slice A2 n2 c2))∧w'.cell? ⟨D,0,none⟩=some (.slice A5 k c5))
        (first|exact HKD.out _ HB0.out|exact HKD.out _ HB6.out|exact HKD.out _ HB7.out|exact HKD.out _ (HB7.out.alloc HB7.out.size _)|exact HKD.out _ HB8.out|exact HKD.out _ HB9.out|exact HKD.out _ (HB9.out.alloc HB9.out.size _))
        (first
          | (go_at_call 99; (with_reducible refine (HC1.out _ HB0.out).mono ?_); rintro e w6 ⟨B6, d6, rfl, hd6, hr6, hb6⟩
             have HB6:Hid (Below w5.heap.size w5 w6):=Lib.hid (HB0.out.trans hb6)
             rw [H1.out] at hr6 hd6
             have HR6:=Lib.hid hr6
             have HD6:=Lib.hid hd6
             clear hr6 hb6 hd6
             rw [H1.out])
          | (go_at_call 99; (with_reducible refine (HC2.out _ HB6.out).mono ?_); rintro e w7 ⟨B7, d7, rfl, hd7, hr7, hb7⟩
             have HB7:Hid (Below w5.heap.size w5 w7):=Lib.hid (HB6.out.trans (hb7.mono HB6.out.size))
             rw [H2.out] at hr7 hd7
             have HF:=Lib.hid (HFIN.out w7 HB7.out _ _ B6 d6 B7 d7 (owned_below HR6.out hb7) HD6.out hr7 hd7)
             clear hr7 hb7 hd7
             rw [H2.out])
          | (go_at_call 99; (with_reducible refine (HC2.out _ HB0.out).mono ?_); rintro e w8 ⟨B8, d8, rfl, hd8, hr8, hb8⟩
             have HB8:Hid (Below w5.heap.size w5 w8):=Lib.hid (HB0.out.trans hb8)
             rw [H2.out] at hr8 hd8
             have HR8:=Lib.hid hr8
             have HD8:=Lib.hid hd8
             clear hr8 hb8 hd8
             rw [H2.out])
          | (go_at_call 99; (with_reducible refine (HC1.out _ HB8.out).mono ?_); rintro e w9 ⟨B9, d9, rfl, hd9, hr9, hb9⟩
             have HB9:Hid (Below w5.heap.size w5 w9):=Lib.hid (HB8.out.trans (hb9.mono HB8.out.size))
             rw [H1.out] at hr9 hd9
             have HF:=Lib.hid (HFIN.out w9 HB9.out _ _ B9 d9 B8 d8 hr9 hd9 (owned_below HR8.out hb9) HD8.out)
             clear hr9 hb9 hd9
             rw [H1.out]))
      all_goals
        go_wp2
        go_ret2
        exact HF.out
end Go.Proofs.YtldcadpemnpbmaaGreatDoor
set_option linter.unusedVariables false
namespace Go.Proofs.YtldcadpemnpbmaaGreatDoor
open Go Go.RowKit
def GotBuf (w:World) (e:Ending) (w':World):Prop:=∃ S B,e= .returned (.pointer (some ⟨B,0,none⟩))∧BufAt S w' B [] (-1)∧(∀ k,S k→w.heap.size≤k)∧Below w.heap.size w w'
theorem newB (w:World):BufAt (fun k=>k=w.heap.size∨k=w.heap.size+1) ((w.alloc (.map #[] 0)).alloc (.cells #[.slice none 0 0,.map (some w.heap.size),.int .i64 0,.int .i64 (-1)] 143)) (w.heap.size+1) [] (-1):=by
 refine ⟨.slice none 0 0,w.heap.size,0,[],?_,.inr rfl,OwnES.nil,⟨[],?_,.inl rfl,rfl,fun i e p h=>(by simp at h),fun i j e f k _ h=>(by simp at h)⟩,Stand.nil,fun q h=>(by cases h),by decide,fun h=>absurd rfl h,fun k h=>by simp;omega⟩
 ·simpa [weightE] using heap_alloc_new (w.alloc (.map #[] 0)) (.cells #[.slice none 0 0,.map (some w.heap.size),.int .i64 0,.int .i64 (-1)] 143)
 ·unfold MapK
  rw [Below.heap_alloc _ _ _ (by simp)]
  exact heap_alloc_new w _
theorem buf_New (w:World):Calls Tryz.prog 40 #[] w (GotBuf w):=by
 have HF:=Lib.hid (newB w)
 have HB:Hid (Below w.heap.size w ((w.alloc (.map #[] 0)).alloc (.cells #[.slice none 0 0,.map (some w.heap.size),.int .i64 0,.int .i64 (-1)] 143))):=Lib.hid (((Below.refl _ _).alloc (Nat.le_refl _) _).alloc (by simp) _)
 have hmm:=@run_makeMap Tryz.prog
 go_enter Tryz.func40,Tryz.ntmps40
 go_wp2
 go_ret
 exact ⟨_,_,rfl,HF.out,fun k h=>by omega,HB.out⟩
end Go.Proofs.YtldcadpemnpbmaaGreatDoor
set_option linter.unusedVariables false
namespace Go.Proofs.YtldcadpemnpbmaaGreatDoor
open Go Go.RowKit
theorem owned_set {w:World} {base:Nat} {e:TypeId} {size g n cap k:Nat} {xs:List Value} {u:Value} (h:w.ownsRow base e size (.slice (some ⟨g,0,none⟩) n cap) n xs):(w.setCell ⟨g,k,none⟩ u).ownsRow base e size (.slice (some ⟨g,0,none⟩) n cap) n (xs.set k u):=by
 refine ⟨by rw [List.length_set];exact h.1,?_⟩
 rcases h.2 with ⟨hv,_⟩|⟨g',cap',cur,hv,hg,hh,h1,h2,h3,h4⟩
 ·cases hv
 ·cases hv
  refine .inr ⟨g,cap,cur.setIfInBounds k u,rfl,hg,set_at hh,h1,h2,by simpa using h3,?_⟩
  rw [← h4,Array.toList_setIfInBounds,List.take_set]
theorem owned_free {w:World} {base:Nat} {e:TypeId} {size g n cap k:Nat} {xs:List Value} (h:w.ownsRow base e size (.slice (some ⟨g,0,none⟩) n cap) n xs) (hk:k<n*size):(∃ u,w.cell? ⟨g,k,none⟩=some u)∧w.frozen? ⟨g,k,none⟩=false:=by
 rcases h.2 with ⟨hv,_⟩|⟨g',cap',cur,hv,hg,hh,h1,h2,h3,h4⟩
 ·cases hv
 ·cases hv
  have hkc:k<cur.size:=by
   rw [h3]
   exact Nat.lt_of_lt_of_le hk (Nat.mul_le_mul_right _ h1)
  exact ⟨⟨cur[k],by simp [World.cell?,hh,hkc]⟩,by simp [World.frozen?,hh]⟩
structure PRow (old new:Option Addr→List Value→Prop) (l:List Pn) (j:Nat) (cs:List Value):Prop where
 len:cs.length=l.length*2
 each:∀ i (h:i<l.length),cs[i*2]?=some (.int .i64 l[i].1)∧∃ A c,cs[i*2+1]?=some (.slice A l[i].2.length c)∧l[i].2.length≤c∧c≤maxLen∧(i<j→new A (ints l[i].2))∧(j≤i→old A (ints l[i].2))
section
variable {old new old' new':Option Addr→List Value→Prop} {l:List Pn} {j:Nat} {cs:List Value}
theorem PRow.of (h:PoCells old l cs):PRow old new l 0 cs:=⟨h.len,fun i hi=>by
 obtain ⟨h1,A,c,h2,h3,h4,h5⟩:=h.at_ hi
 have e:l.getD i (0,[])=l[i]:=by simp [hi]
 rw [e] at h1 h2 h3 h5
 exact ⟨h1,A,c,h2,h3,h4,fun h=>by omega,fun _=>h5⟩⟩
theorem PRow.imp (h:PRow old new l j cs) (ho:∀ A xs,old A xs→old' A xs) (hn:∀ A xs,new A xs→new' A xs):PRow old' new' l j cs:=⟨h.len,fun i hi=>by
 obtain ⟨h1,A,c,h2,h3,h4,h5,h6⟩:=h.each i hi
 exact ⟨h1,A,c,h2,h3,h4,fun h=>hn _ _ (h5 h),fun h=>ho _ _ (h6 h)⟩⟩
theorem PRow.put (h:PRow old new l j cs) (hj:j<l.length) {A:Option Addr} {c:Nat} (hc:l[j].2.length≤c∧c≤maxLen) (hn:new A (ints l[j].2)):PRow old new l (j+1) (cs.set (j*2+1) (.slice A l[j].2.length c)):=⟨by rw [List.length_set];exact h.len,fun i hi=>by
 have hl:=h.len
 obtain ⟨h1,A',c',h2,h3,h4,h5,h6⟩:=h.each i hi
 rw [List.getElem?_set_ne (by omega)]
 by_cases hij:i=j
 ·subst hij
  exact ⟨h1,A,c,List.getElem?_set_self (by omega),hc.1,hc.2,fun _=>hn,fun h=>by omega⟩
 ·rw [List.getElem?_set_ne (by omega)]
  exact ⟨h1,A',c',h2,h3,h4,fun h=>h5 (by omega),fun h=>h6 (by omega)⟩⟩
theorem poCells_of:∀ {l:List Pn} {cs:List Value},cs.length=l.length*2→(∀ i (h:i<l.length),cs[i*2]?=some (.int .i64 l[i].1)∧∃ A c,cs[i*2+1]?=some (.slice A l[i].2.length c)∧l[i].2.length≤c∧c≤maxLen∧new A (ints l[i].2))→PoCells new l cs
 |[],cs,hl,h=>List.eq_nil_of_length_eq_zero (by simpa using hl)
 |q::l,cs,hl,h=>by
  rcases cs with _|⟨a,_|⟨b,cs⟩⟩
  ·simp at hl
  ·simp at hl;omega
  ·obtain ⟨h1,A,c,h2,h3,h4,h5⟩:=h 0 (by simp)
   simp at h1 h2
   subst h1 h2
   refine ⟨A,c,cs,rfl,h3,h4,h5,poCells_of (by simp at hl;omega) fun i hi=> ?_⟩
   have :=h (i+1) (by simpa using hi)
   rw [show (i+1)*2=i*2+1+1 by omega] at this
   simpa using this
theorem PRow.all (h:PRow old new l l.length cs):PoCells new l cs:=poCells_of h.len fun i hi=>by
 obtain ⟨h1,A,c,h2,h3,h4,h5,h6⟩:=h.each i hi
 exact ⟨h1,A,c,h2,h3,h4,h5 hi⟩
end
end Go.Proofs.YtldcadpemnpbmaaGreatDoor
set_option linter.unusedVariables false
namespace Go.Proofs.YtldcadpemnpbmaaGreatDoor
open Go.Shelf Go.RowKit
def layClonePo_ren:Go.Shelf.Ren:=⟨fun |41=>98|n=>n,fun |4=>4|22=>94|23=>153|n=>n,fun |n=>n⟩
theorem layClonePo:SlLaysE0.n41 Tryz.prog layClonePo_ren:={
 mixed:=by kernel_rfl
 f41:=⟨Tryz.f98.name,by kernel_rfl,Tryz.func98.trans (congrArg some (by kernel_rfl))⟩
 t4:=Tryz.underlying4
 a4:=Tryz.isAgg4
 z4:=Tryz.sizeOf4
 v4:=Tryz.zeroValue4
 t22:=Tryz.underlying94
 a22:=Tryz.isAgg94
 z22:=Tryz.sizeOf94
 v22:=Tryz.zeroValue94}
def layCloneI_ren:Go.Shelf.Ren:=⟨fun |41=>99|n=>n,fun |4=>4|22=>88|23=>3|n=>n,fun |n=>n⟩
theorem layCloneI:SlLaysE0.n41 Tryz.prog layCloneI_ren:={
 mixed:=by kernel_rfl
 f41:=⟨Tryz.f99.name,by kernel_rfl,Tryz.func99.trans (congrArg some (by kernel_rfl))⟩
 t4:=Tryz.underlying4
 a4:=Tryz.isAgg4
 z4:=Tryz.sizeOf4
 v4:=Tryz.zeroValue4
 t22:=Tryz.underlying88
 a22:=Tryz.isAgg88
 z22:=Tryz.sizeOf88
 v22:=Tryz.zeroValue88}
end Go.Proofs.YtldcadpemnpbmaaGreatDoor
namespace Go.Proofs.YtldcadpemnpbmaaGreatDoor
open Go Go.RowKit
set_option linter.unusedVariables false
theorem po_oneCell {R:Option Addr→List Value→Prop}:∀ {l:List Pn} {cs:List Value},PoCells R l cs→∀ u∈cs,u.oneCell'=true
 |[],cs,h,u,hu=>by simp only [PoCells] at h;subst h;cases hu
 |q::l,cs,h,u,hu=>by
  obtain ⟨A,c,cs',rfl,_,_,_,h'⟩:=h
  simp only [List.mem_cons] at hu
  rcases hu with rfl|rfl|hu
  ·rfl
  ·rfl
  ·exact po_oneCell h' u hu
theorem clone_row {ρ:Go.Shelf.Ren} (L:SlLaysE0.n41 Tryz.prog ρ) {i0:TypeInfo} {z:Value} {size bytes:Nat} (hi:Tryz.prog.info? (ρ.t 23)=some i0) (hz0:i0.zero=some z) (hz1:i0.size=size) (hz2:i0.bytes=bytes) (hzs:z.cells.size=size) (hsz:0<size)
  (z23:∀ w,(Go.sizeOf (ρ.t 23)).run Tryz.prog w= .ok size w) {base:Nat} {e:TypeId} {v:Value} {n:Nat} {cs:List Value} {w:World} (h:w.ownsRow base e size v n cs) (hn:n≤maxLen) (hbig:n*bytes≤140737488355328) (h1:∀ u∈cs,u.oneCell'=true):
  Calls Tryz.prog (ρ.f 41) #[v] w fun e w'=>∃ v',e= .returned v'∧w'.ownsRow w.heap.size (ρ.t 23) size v' n cs∧Below w.heap.size w w':=by
 rcases h.2 with ⟨rfl,h0⟩|⟨g,cap,cur,rfl,_⟩
 ·have hc:cs=[]:=List.eq_nil_of_length_eq_zero (by rw [h.1,h0];simp)
  subst hc h0
  refine (AnyE.slices_Clone_nil L 0 0 w).mono ?_
  rintro e w' ⟨rfl,rfl⟩
  exact ⟨_,rfl,World.ownsRow_nil _ _ _ _,Below.refl _ _⟩
 ·refine (AnyE.slices_Clone L i0 z size bytes hi hz0 hz1 hz2 hzs hsz z23 g 0 n cap cs w h.1 hn hbig (fun j u hu=> ?_) h1).mono ?_
  ·have :=h.cells (g:=g) rfl j u hu
   simpa [Addr.add_lit] using this
  ·rintro e w' ⟨v',rfl,ho,_,hb⟩
   exact ⟨v',rfl,ho,hb⟩
set_option maxRecDepth 100000 in
theorem clone_po {base:Nat} {v:Value} {n:Nat} {cs:List Value} {w:World} (h:w.ownsRow base 153 2 v n cs) (hn:n≤100000000) (h1:∀ u∈cs,u.oneCell'=true):
  Calls Tryz.prog 98 #[v] w fun e w'=>∃ v',e= .returned v'∧w'.ownsRow w.heap.size 153 2 v' n cs∧Below w.heap.size w w':=by
 obtain ⟨i0,hi0,hz0,hz1,hz2⟩:=info_parts info_posting
 exact clone_row layClonePo hi0 hz0 hz1 hz2 rfl (by decide) Tryz.sizeOf153 h (by unfold maxLen;omega) (by omega) h1
theorem clone_is {A:Option Addr} {n c B:Nat} {l:List Int} {w:World} (hl:l.length=n) (h:Row w B A (ints l)) (hne:0<n) (hn:n≤100000000):
  Calls Tryz.prog 99 #[.slice A n c] w fun e w'=>∃ v',e= .returned v'∧w'.ownsRow w.heap.size 3 1 v' n (ints l)∧Below w.heap.size w w':=by
 obtain ⟨i0,hi0,hz0,hz1,hz2⟩:=info_parts info_int
 rcases h with h0|⟨b,off,rfl,_,hc⟩
 ·have :=congrArg List.length h0
  simp [ints] at this
  subst this
  simp at hl
  omega
 ·refine (AnyE.slices_Clone layCloneI i0 _ 1 8 hi0 hz0 hz1 hz2 rfl (by decide) Tryz.sizeOf3 b off n c (ints l) w (by simp [ints,hl]) (by unfold maxLen;omega) (by omega) hc (ints_oneCell _ _)).mono ?_
  rintro e w' ⟨v',rfl,ho,_,hb⟩
  exact ⟨v',rfl,ho,hb⟩
def GotPo (l:List Pn) (w:World) (e:Ending) (w':World):Prop:=∃ v,e= .returned v∧OwnPP (fun k=>w.heap.size≤k) w' v l∧Below w.heap.size w w'
def PostRelB (l:List Pn) (N:Nat) (V:Value) (w:World) (x:Value) (wr:World):Prop:=∃ (j:Nat) (cs:List Value),j≤l.length∧x= .int .i64 (j:Int)∧wr.ownsRow w.heap.size 153 2 V N cs∧
 PRow (Row wr w.heap.size) (RowP (Of (fun k=>w.heap.size≤k) 3 wr) wr) l j cs∧Below w.heap.size w wr
set_option maxHeartbeats 2000000 in
set_option maxRecDepth 100000 in
theorem buf_Postings {S:Nat→Prop} {w:World} {B:Nat} {l:List En} {up:Int} (h:BufAt S w B l up) (key:ByteArray) (L:List Pn) (hL:L=postsE 0 l key.data.toList) (hln:L.length≤10000000) (hne:∀ p∈L,0<p.2.length∧p.2.length≤100000):
    Calls Tryz.prog 43 #[.pointer (some ⟨B,0,none⟩),.string key] w (GotPo L w):=by
  obtain ⟨v,M,c,g,h⟩:=h
  have c1:=(four_cells h.cells).2.1
  obtain ⟨v1,⟨m,hm,hv1⟩,ho⟩:=h.map.look key.data.toList
  rw [h.stand.posts,← hL] at ho
  have hkv:kV key.data.toList= .string key:=by simp [kV]
  obtain ⟨cs,o1,o2,o3⟩:=ho
  have hcl:=clone_po o1 (by omega) (po_oneCell o3)
  have HLK:Hid (MapK w M c m):=Lib.hid hm
  have HCL:=Lib.hid hcl
  have HPO:Hid (PoCells (Row w w.heap.size) L cs):=Lib.hid (o3.imp fun _ _ h=>RowP.row h fun b hb=>hb.lt)
  have HNE:=Lib.hid hne
  have HV1:=Lib.hid hv1
  have HKV:=Lib.hid hkv
  obtain ⟨N,hN⟩:∃ N,N=L.length:=⟨_,rfl⟩
  rw [← hN] at HCL hln
  have HN:=Lib.hid hN
  clear h hL hm hv1 o1 o2 o3 hcl hne hN hkv
  go_enter Tryz.func43,Tryz.ntmps43
  go_wp2_with (first
    | (refine wpList_lookup_ks _ (by rfl) _ _ (by rfl) M c m key.data.toList (by rfl) HLK.out (by rw [HKV.out]; rfl) ?_
       rw [HV1.out])
    | (go_at_call 98; (with_reducible refine HCL.out.mono ?_); rintro e w1 ⟨V1, rfl, ho1, hb1⟩
       obtain ⟨A1,k1,rfl,hk1,hu1⟩:=owned_roomed ho1
       clear hu1
       have HST:Hid (PostRelB L N (.slice A1 N k1) w (.int .i64 ((0:Nat):Int)) w1):=Lib.hid (by
         exact ⟨0,cs,Nat.zero_le _,rfl,ho1,(PRow.of HPO.out).imp (fun _ _ h=>h.below hb1) fun _ _ h=>h,hb1⟩)
       clear ho1 hb1))
  go_loopw [17] (fun x wr=>PostRelB L N (.slice A1 N k1) w x wr) (fun x _=>N-(intOf x).toNat)
  case atStart=>exact HST.out
  case round=>
    obtain ⟨j,cs2,hj,rfl,hown,hrow,hbw⟩:=hrel
    by_cases hlt:j<N
    · have hjl:j<L.length:=by rw [← HN.out];exact hlt
      obtain ⟨g1,rfl⟩:∃ g1,A1=some ⟨g1,0,none⟩:=by
        rcases hown.2 with ⟨hv,h5⟩|⟨g',cap,cur,hv,_⟩
        · have :=HN.out;omega
        · injection hv with e
          exact ⟨g',e⟩
      obtain ⟨e0,A',c',e1,e2,e3,e4,e5⟩:=hrow.each j hjl
      have hne:=HNE.out _ (List.getElem_mem hjl)
      have hc0:wr.cell? ⟨g1,j*2,none⟩=some (.int .i64 L[j].1):=by have :=hown.cells (g:=g1) rfl _ _ e0;simpa [Addr.add_lit] using this
      have hc1:wr.cell? ⟨g1,j*2+1,none⟩=some (.slice A' L[j].2.length c'):=by have :=hown.cells (g:=g1) rfl _ _ e1;simpa [Addr.add_lit] using this
      have hlt1:=hown.lt g1 rfl
      have hold:=e5 (Nat.le_refl _)
      obtain ⟨csg,frg,hhg⟩:=owned_type9 hown rfl
      obtain ⟨w2,hw2⟩:∃ w2,w2=wr.alloc (.cells #[.int .i64 L[j].1,.slice A' L[j].2.length c'] 153):=⟨_,rfl⟩
      have hb2:Below wr.heap.size wr w2:=by rw [hw2];exact (Below.refl _ _).alloc (Nat.le_refl _) _
      have hbs:=hbw.size
      have hs2:w2.heap.size=wr.heap.size+1:=by rw [hw2];simp
      have hCI:=clone_is (n:=L[j].2.length) (c:=c') rfl (Row.below hold (hb2.mono hbs)) hne.1 (by omega)
      have HAFT:Hid (∀ (w5:World) (A5:Option Addr) (c5:Nat),w5.ownsRow w2.heap.size 3 1 (.slice A5 L[j].2.length c5) L[j].2.length (ints L[j].2)→L[j].2.length≤c5∧c5≤maxLen→Below w2.heap.size w2 w5→
          (∃ u,w5.cell? ⟨g1,j*2+1,none⟩=some u)∧w5.frozen? ⟨g1,j*2+1,none⟩=false∧PostRelB L N (.slice (some ⟨g1,0,none⟩) N k1) w (.int .i64 ((j:Int)+1)) (w5.setCell ⟨g1,j*2+1,none⟩ (.slice A5 L[j].2.length c5))):=Lib.hid fun w5 A5 c5 ho5 hc5 hb5=>by
        have hb25:=hb2.trans (hb5.mono hb2.size)
        have hown5:=owned_below hown hb25
        obtain ⟨f1,f2⟩:=owned_free (k:=j*2+1) hown5 (by omega)
        have hs5:=hb5.size
        have hkeep:∀ k,k<wr.heap.size→k≠g1→(w5.setCell ⟨g1,j*2+1,none⟩ (.slice A5 L[j].2.length c5)).heap[k]?=wr.heap[k]?:=fun k h1 h2=>(set_ne (Ne.symm h2)).trans (hb25.block k h1)
        have hne1:∀ {k:Nat} {u:World},u.heap[g1]?=some (.cells csg 153 frg)→Of (fun k=>w.heap.size≤k) 3 u k→k≠g1:=fun {k u} h1 ⟨_,cs',fr',hh,_⟩ e=>by
          subst e
          rw [h1] at hh
          injection hh with hh
          injection hh with _ h2 _
          exact absurd h2 (by decide)
        have hg5:w5.heap[g1]?=some (.cells csg 153 frg):=(hb25.block _ hlt1.2).trans hhg
        have hn5:RowP (Of (fun k=>w.heap.size≤k) 3 w5) w5 A5 (ints L[j].2):=owned_toI ho5 fun k h1 _=>by omega
        have hn6:RowP (Of (fun k=>w.heap.size≤k) 3 (w5.setCell ⟨g1,j*2+1,none⟩ (.slice A5 L[j].2.length c5))) (w5.setCell ⟨g1,j*2+1,none⟩ (.slice A5 L[j].2.length c5)) A5 (ints L[j].2):=hn5.keepO fun k hk=>set_ne (Ne.symm (hne1 hg5 hk))
        have hrow6:PRow (Row (w5.setCell ⟨g1,j*2+1,none⟩ (.slice A5 L[j].2.length c5)) w.heap.size) (RowP (Of (fun k=>w.heap.size≤k) 3 (w5.setCell ⟨g1,j*2+1,none⟩ (.slice A5 L[j].2.length c5))) (w5.setCell ⟨g1,j*2+1,none⟩ (.slice A5 L[j].2.length c5))) L j cs2:=hrow.imp (fun A xs h=>RowP.keep h fun b hb=>hkeep b (by omega) (by omega)) fun A xs h=>h.keepO fun k hk=>hkeep k hk.lt (hne1 hhg hk)
        refine ⟨f1,f2,j+1,cs2.set (j*2+1) (.slice A5 L[j].2.length c5),hjl,by push_cast;rfl,owned_set hown5,hrow6.put hjl hc5 hn6,⟨?_,?_,?_,?_,fun k hk=> ?_⟩⟩
        · exact hb25.os.trans hbw.os
        · exact hb25.tape.trans hbw.tape
        · exact hb25.output.trans hbw.output
        · simp;omega
        · rw [hkeep k (by omega) (by omega)]
          exact hbw.block k hk
      obtain ⟨dd,hdd⟩:∃ dd,dd=L[j].1:=⟨_,rfl⟩
      obtain ⟨P,hP⟩:∃ P,P=L[j].2:=⟨_,rfl⟩
      rw [← hdd] at hc0 hw2
      rw [← hP] at hc1 hw2 hCI HAFT hne e2
      have HCI:=Lib.hid hCI
      have HW2:=Lib.hid hw2
      have j0:(0:Int)≤j:=by omega
      have j1:(j:Int)<N:=by omega
      obtain ⟨hpl0,hpl⟩:=hne
      clear hown hrow hbw hhg hold e0 e1 e3 e4 e5 hCI hw2 hdd hP hb2
      go_wp2_with (first
        | (go_at_call 99; rw [show wr.alloc _ = w2 from HW2.out.symm]; (with_reducible refine HCI.out.mono ?_); rintro e w5 ⟨V5, rfl, ho5, hb5⟩
           obtain ⟨A5,c5,rfl,hc5,hu5⟩:=owned_roomed ho5
           obtain ⟨⟨u5,hu5'⟩,hf5,hrel5⟩:=HAFT.out w5 A5 c5 ho5 hc5 hb5
           have HREL:=Lib.hid hrel5
           clear hu5 ho5 hb5 hrel5))
      exact ⟨HREL.out,by simp [intOf];omega⟩
    · have hjn:j=L.length:=by have :=HN.out;omega
      subst hjn
      have hfin:OwnPP (fun k=>w.heap.size≤k) wr (.slice A1 N k1) L:=by
        rw [HN.out] at hown
        rw [HN.out]
        exact ⟨cs2,owned_low hown (Nat.zero_le _),fun k hk=>(hown.lt k hk).1,hrow.all⟩
      have HFIN:=Lib.hid hfin
      have HBW:=Lib.hid hbw
      clear hfin hown hrow hbw
      go_wp2
      go_ret
      exact ⟨_,rfl,HFIN.out,HBW.out⟩
end Go.Proofs.YtldcadpemnpbmaaGreatDoor
