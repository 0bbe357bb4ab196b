import Derived.Test.YtldcadpemnpbmaaGreatDoorMLQ04
import Derived.Test.YtldcadpemnpbmaaGreatDoorMLQ07
import Derived.Test.YtldcadpemnpbmaaGreatDoorMLQ10
import Derived.Shelf.SlSorted.Search
import Derived.Test.YtldcadpemnpbmaaGreatDoorProg
import Derived.BigCall
import Derived.Test.YtldcadpemnpbmaaGreatDoorMLQ02
import Derived.BigQuiet
import Derived.Deep.QuietTactic
set_option linter.unusedVariables false
namespace Go.Proofs.YtldcadpemnpbmaaGreatDoor
open Go Go.RowKit
abbrev OnlyAt (C:Nat):=OnlyIn (fun k=>k=C)
def Kept (p:Prop × Nat) (k:Nat) (t:TypeId):Prop:=t=5∨t=240∨t=153∨(p.1∧p.2≤k∧t=3)
structure Soft (p:Prop × Nat) (X:Nat→Prop) (w w':World):Prop where
 os:w'.os=w.os
 tape:w'.tape=w.tape
 output:w'.output=w.output
 size:w.heap.size≤w'.heap.size
 block:∀ k,k<w.heap.size→w'.heap[k]?=w.heap[k]?∨(¬ X k∧∃ o,w.heap[k]?=some o∧∀ cs t fr,o= .cells cs t fr→¬ Kept p k t)
section
variable {p:Prop × Nat} {X:Nat→Prop} {w w' w'':World}
theorem Soft.of_below (h:Below w.heap.size w w'):Soft p X w w':=⟨h.os,h.tape,h.output,h.size,fun k hk=> .inl (h.block k hk)⟩
theorem Soft.trans (h:Soft p X w w') (k:Soft p X w' w''):Soft p X w w'':=by
 refine ⟨k.os.trans h.os,k.tape.trans h.tape,k.output.trans h.output,Nat.le_trans h.size k.size,fun i hi=> ?_⟩
 rcases h.block i hi with h1|h1
 ·rcases k.block i (Nat.lt_of_lt_of_le hi h.size) with h2|⟨h2,o,h3,h4⟩
  ·exact .inl (h2.trans h1)
  ·exact .inr ⟨h2,o,h1.symm.trans h3,h4⟩
 ·exact .inr h1
theorem Soft.keep (h:Soft p X w w') {k:Nat} {o:Obj} (ho:w.heap[k]?=some o) (hX:X k):w'.heap[k]?=some o:=by
 rcases h.block k (Array.getElem?_eq_some_iff.1 ho).1 with h1|⟨h1,_⟩
 ·exact h1.trans ho
 ·exact absurd hX h1
theorem Soft.kept (h:Soft p X w w') {k:Nat} {cs:Array Value} {t:TypeId} {fr:Nat × Nat} (ho:w.heap[k]?=some (.cells cs t fr)) (ht:Kept p k t):w'.heap[k]?=some (.cells cs t fr):=by
 rcases h.block k (Array.getElem?_eq_some_iff.1 ho).1 with h1|⟨_,o,h2,h3⟩
 ·exact h1.trans ho
 ·rw [ho] at h2
  injection h2 with h2
  exact absurd ht (h3 _ _ _ h2.symm)
theorem Soft.of_one {k:Nat} {o:Obj} (hk:w.heap[k]?=some o) (hX:¬ X k) (ht:∀ cs t fr,o= .cells cs t fr→¬ Kept p k t) (hos:w'.os=w.os) (htp:w'.tape=w.tape) (hou:w'.output=w.output) (hs:w.heap.size≤w'.heap.size)
  (hb:∀ i,i≠k→i<w.heap.size→w'.heap[i]?=w.heap[i]?):Soft p X w w':=
 ⟨hos,htp,hou,hs,fun i hi=>by
  by_cases e:i=k
  ·subst e;exact .inr ⟨hX,o,hk,ht⟩
  ·exact .inl (hb i e hi)⟩
end
end Go.Proofs.YtldcadpemnpbmaaGreatDoor
set_option linter.unusedVariables false
namespace Go.Proofs.YtldcadpemnpbmaaGreatDoor
open Go Go.RowKit
def RowL (base:Nat) (w:World) (A:Option Addr) (xs:List Value):Prop:=RowS 0 w A xs∧(xs=[]∨∃ b off,A=some ⟨b,off,none⟩∧base≤b)
theorem RowL.of_own {base base':Nat} {w:World} {A:Option Addr} {n c:Nat} {xs:List Value} (h:w.ownsRow base' 3 1 (.slice A n c) n xs) (hb:base≤base'):RowL base w A xs:=by
 refine ⟨RowS.of_own h,?_⟩
 rcases h.2 with ⟨hv,hn⟩|⟨g,cap,cur,hv,hg,_⟩
 ·exact .inl (List.eq_nil_of_length_eq_zero (by rw [h.1,hn]))
 ·injection hv with h1 h2 h3
  exact .inr ⟨g,0,h1,by omega⟩
def NewPo (base:Nat) (w:World) (v:Value) (l:List Po):Prop:=∃ cs,w.ownsRow base 153 2 v l.length cs∧PoCells (RowL base w) l cs
section
variable {base:Nat} {w w':World} {v v':Value} {l:List Po}
theorem NewPo.nil:NewPo base w (.slice none 0 0) []:=⟨[],World.ownsRow_nil _ _ _ _,rfl⟩
theorem NewPo.below (h:NewPo base w v l) (hb:Below w.heap.size w w'):NewPo base w' v l:=by
 obtain ⟨cs,h1,h2⟩:=h
 exact ⟨cs,owned_below h1 hb,h2.imp fun _ _ h=>⟨h.1.below hb,h.2⟩⟩
theorem NewPo.room (h:NewPo base w v l):∃ A c,v= .slice A l.length c∧l.length≤c∧c≤maxLen∧Posts w w.heap.size A l:=by
 obtain ⟨cs,h1,h2⟩:=h
 obtain ⟨A,c,rfl,hc,hr⟩:=owned_row h1
 refine ⟨A,c,rfl,hc,?_,cs,h2.imp fun _ _ h=>h.1.row,hr⟩
 rcases h1.2 with ⟨h4,_⟩|⟨g,cap,cur,h4,_,_,_,h5,_⟩
 ·injection h4 with _ _ h4;omega
 ·injection h4 with _ _ h4;rw [h4];exact h5
theorem NewPo.push {cs:List Value} (h1:w.ownsRow base 153 2 v l.length cs) (h2:PoCells (RowL base w) l cs) {A:Option Addr} {c:Nat} {d:Int} {ps:List Int} (hc:ps.length≤c) (hcx:c≤maxLen) (hr:RowL base w A (ints ps))
  (hown:w'.ownsRow base 153 2 v' (l.length+1) (cs++[.int .i64 d,.slice A ps.length c])) (hg:w.grownBy w' v.ownBlock):NewPo base w' v' (l++[(d,ps)]):=by
 have h0:=owned_low h1 (Nat.zero_le base)
 refine ⟨_,?_,(h2.imp fun _ _ h=>⟨h.1.grown h0 (by decide) hg,h.2⟩).snoc hc hcx ⟨hr.1.grown h0 (by decide) hg,hr.2⟩⟩
 rw [List.length_append,List.length_singleton]
 exact hown
end
theorem NewPo.low {base base':Nat} {w:World} {v:Value} {l:List Po} (h:NewPo base w v l) (hb:base'≤base):NewPo base' w v l:=by
 obtain ⟨cs,h1,h2⟩:=h
 exact ⟨cs,owned_low h1 hb,h2.imp fun _ _ h=>⟨h.1,h.2.imp id fun ⟨b,off,e,hl⟩=>⟨b,off,e,by omega⟩⟩⟩
def GaveNew (l:List Po) (w:World) (e:Ending) (w':World):Prop:=∃ v,e= .returned v∧NewPo w.heap.size w' v l∧Below w.heap.size w w'
end Go.Proofs.YtldcadpemnpbmaaGreatDoor
set_option linter.unusedVariables false
namespace Go.Proofs.YtldcadpemnpbmaaGreatDoor
open Go Go.RowKit
def RowT6 (t:TypeId) (w:World) (A:Option Addr) (xs:List Value):Prop:=
 xs=[]∨∃ b off,A=some ⟨b,off,none⟩∧(∃ cs fr,w.heap[b]?=some (.cells cs t fr))∧∀ j u,xs[j]?=some u→w.cell? ⟨b,off+j,none⟩=some u
section
variable {w w':World} {A:Option Addr} {xs:List Value} {S X:Nat→Prop} {t:TypeId} {p:Prop × Nat}
theorem RowT6.nil:RowT6 t w A []:= .inl rfl
theorem RowT6.row (h:RowT6 t w A xs):Row w w.heap.size A xs:=by
 rcases h with h|⟨b,off,e,⟨cs,fr,h1⟩,h2⟩
 ·exact .inl h
 ·exact .inr ⟨b,off,e,(Array.getElem?_eq_some_iff.1 h1).1,h2⟩
theorem RowT6.soft (h:RowT6 t w A xs) (hs:Soft p X w w') (ht:∀ b,Kept p b t):RowT6 t w' A xs:=by
 rcases h with h|⟨b,off,e,⟨cs,fr,h1⟩,h2⟩
 ·exact .inl h
 ·have hblk:=hs.kept h1 (ht b)
  refine .inr ⟨b,off,e,⟨cs,fr,hblk⟩,fun j u hu=> ?_⟩
  rw [World.cell?_of_block (a:=⟨b,off+j,none⟩) (hblk.trans h1.symm)]
  exact h2 j u hu
theorem RowT6.of_own {b:Nat} {e:TypeId} {size n c:Nat} (h:w.ownsRow b e size (.slice A n c) n xs):RowT6 e w A xs:=by
 have hr:=owned_row_of h
 rcases hr with hr|⟨b',off,rfl,h1,h2⟩
 ·exact .inl hr
 ·rcases h.2 with ⟨hv,_⟩|⟨g,cap,cur,hv,_,hh,_⟩
  ·cases hv
  ·injection hv with hv
   injection hv with hv
   injection hv with hv1 hv2
   subst hv1
   exact .inr ⟨_,off,rfl,⟨_,_,hh⟩,h2⟩
end
def RowB (b0:Nat) (w:World) (A:Option Addr) (xs:List Value):Prop:=
 xs=[]∨∃ b off,A=some ⟨b,off,none⟩∧b0≤b∧(∃ cs fr,w.heap[b]?=some (.cells cs 3 fr))∧∀ j u,xs[j]?=some u→w.cell? ⟨b,off+j,none⟩=some u
section
variable {w w':World} {A:Option Addr} {xs:List Value} {X:Nat→Prop} {p:Prop × Nat}
theorem RowB.row {b0:Nat} (h:RowB b0 w A xs):Row w w.heap.size A xs:=by
 rcases h with h|⟨b,off,e,_,⟨cs,fr,h1⟩,h2⟩
 ·exact .inl h
 ·exact .inr ⟨b,off,e,(Array.getElem?_eq_some_iff.1 h1).1,h2⟩
theorem RowB.soft (h:RowB p.2 w A xs) (hs:Soft p X w w') (hp:p.1):RowB p.2 w' A xs:=by
 rcases h with h|⟨b,off,e,hb,⟨cs,fr,h1⟩,h2⟩
 ·exact .inl h
 ·have hblk:=hs.kept h1 (.inr (.inr (.inr ⟨hp,hb,rfl⟩)))
  refine .inr ⟨b,off,e,hb,⟨cs,fr,hblk⟩,fun j u hu=> ?_⟩
  rw [World.cell?_of_block (a:=⟨b,off+j,none⟩) (hblk.trans h1.symm)]
  exact h2 j u hu
theorem RowB.of_new {b0 base:Nat} (h:RowL base w A xs) (hb:b0≤base):RowB b0 w A xs:=by
 rcases h.1 with h1|⟨b,off,e,⟨h1,h2⟩,hc⟩
 ·exact .inl h1
 ·rcases h.2 with h3|⟨b',off',e',h3⟩
  ·exact .inl h3
  ·obtain ⟨cs,fr,h2⟩:=h2.resolve_left (Nat.not_lt_zero _)
   rw [e] at e'
   injection e' with e'
   injection e' with e1 e2
   subst e1
   exact .inr ⟨b,off,e,by omega,⟨cs,fr,h2⟩,hc⟩
end
def PostsN (p:Prop × Nat) (w:World) (A:Option Addr) (l:List Po):Prop:=p.2≤w.heap.size∧∃ cs,PoCells (fun A xs=>p.1→RowB p.2 w A xs) l cs∧RowT6 153 w A cs
section
variable {w w':World} {A:Option Addr} {l:List Po} {S X:Nat→Prop} {p:Prop × Nat}
theorem PostsN.nil (h:p.2≤w.heap.size):PostsN p w A []:=⟨h,[],rfl,.inl rfl⟩
theorem PostsN.soft (h:PostsN p w A l) (hs:Soft p X w w'):PostsN p w' A l:=by
 obtain ⟨h0,cs,h1,h2⟩:=h
 exact ⟨Nat.le_trans h0 hs.size,cs,h1.imp fun _ _ h hp=>(h hp).soft hs hp,h2.soft hs (fun b=> .inr (.inr (.inl rfl)))⟩
theorem PostsN.of_new {base:Nat} {v:Value} (h:NewPo base w v l) (hp:p.2≤base) (hb:base≤w.heap.size):∃ A c,v= .slice A l.length c∧l.length≤c∧c≤maxLen∧PostsN p w A l:=by
 obtain ⟨A,c,rfl,h1,h2,_⟩:=h.room
 obtain ⟨cs,h3,h4⟩:=h
 exact ⟨A,c,rfl,h1,h2,by omega,cs,h4.imp fun _ _ h _=>RowB.of_new h hp,RowT6.of_own h3⟩
theorem PostsN.tail {b off:Nat} {q:Po} (h:PostsN p w (some ⟨b,off,none⟩) (q::l)):PostsN p w (some ⟨b,off+2,none⟩) l:=by
 obtain ⟨h0,cs,⟨A',c',cs',rfl,_,_,_,h'⟩,h2⟩:=h
 refine ⟨h0,cs',h',?_⟩
 rcases h2 with h2|⟨b2,off2,e,h3,h4⟩
 ·cases h2
 ·injection e with e
  injection e with e1 e2
  subst e1 e2
  refine .inr ⟨b,off+2,rfl,h3,fun j u hu=> ?_⟩
  have :=h4 (2+j) u (by rw [show 2+j=j+1+1 by omega];simpa using hu)
  rwa [← Nat.add_assoc] at this
theorem PostsN.head {q:Po} (h:PostsN p w A (q::l)):∃ b off A' c',A=some ⟨b,off,none⟩∧w.cell? ⟨b,off,none⟩=some (.int .i64 q.1)∧w.cell? ⟨b,off+1,none⟩=some (.slice A' q.2.length c')∧q.2.length≤c'∧c'≤maxLen∧(p.1→Row w w.heap.size A' (ints q.2)):=by
 obtain ⟨_,cs,⟨A',c',cs',rfl,h3,h4,h5,_⟩,h2⟩:=h
 rcases h2 with h2|⟨b,off,e,_,hc⟩
 ·cases h2
 ·exact ⟨b,off,A',c',e,hc 0 _ rfl,hc 1 _ rfl,h3,h4,fun hp=>(h5 hp).row⟩
end
def ListN (w:World) (vb ve:Value) (g:List Po):Prop:=
 ∃ Ab cb Ae ce,vb= .slice Ab (bytesP (-1) g).length cb∧ve= .slice Ae (blocksP g.length) ce∧(bytesP (-1) g).length≤cb∧cb≤maxLen∧blocksP g.length≤ce∧RowT6 5 w Ab (Lib.byteCells (bytesP (-1) g))∧RowT6 240 w Ae (endsV g)
structure GoodG (g:List Po):Prop where
 may:mayB' (-1) g=true
 len:g.length≤1000
 bytes:(bytesP (-1) g).length≤400000000000
theorem cell_eight {w:World} {B:Nat} {a b c d e f g h:Value} {t:TypeId} (hh:w.heap[B]?=some (.cells #[a,b,c,d,e,f,g,h] t (0,0))):
  (w.cell? ⟨B,0,none⟩=some a∧w.cell? ⟨B,1,none⟩=some b∧w.cell? ⟨B,2,none⟩=some c∧w.cell? ⟨B,3,none⟩=some d∧w.cell? ⟨B,4,none⟩=some e∧w.cell? ⟨B,5,none⟩=some f∧w.cell? ⟨B,6,none⟩=some g∧w.cell? ⟨B,7,none⟩=some h)∧
  w.frozen? ⟨B,4,none⟩=false∧w.frozen? ⟨B,5,none⟩=false∧w.frozen? ⟨B,6,none⟩=false∧w.frozen? ⟨B,7,none⟩=false:=by
 simp [World.cell?,World.frozen?,hh]
section
variable {C nx:Nat} {vb ve:Value} {g:List Po} {A:Option Addr} {m c:Nat} {bh:Bool} {rd:Int} {w w':World} {S X:Nat→Prop} {i:Int} {p:Prop × Nat}
theorem ListN.soft (h:ListN w vb ve g) (hs:Soft p X w w'):ListN w' vb ve g:=by
 obtain ⟨Ab,cb,Ae,ce,h1,h2,h3,h4,h5,h6,h7⟩:=h
 exact ⟨Ab,cb,Ae,ce,h1,h2,h3,h4,h5,h6.soft hs (fun _=> .inl rfl),h7.soft hs (fun _=> .inr (.inl rfl))⟩
end
theorem ListN.of_at {w:World} {base B:Nat} {g:List Po} (h:LAt w base B (bytesP (-1) g) g):∃ vb ve,w.heap[B]?=some (.cells #[vb,ve,.int .i64 (g.length:Int),.int .i64 (totalP g:Int)] 234 (0,0))∧ListN w vb ve g:=by
 obtain ⟨_,vb,ve,hv,ho,he⟩:=h
 refine ⟨vb,ve,hv,?_⟩
 obtain ⟨Ae,ce,rfl,hce,hre⟩:=owned_row he
 rcases ho.2 with ⟨rfl,h0⟩|⟨g',c,cur,rfl,_,_,hnc,hcm,_,_⟩
 ·exact ⟨none,0,Ae,ce,by rw [h0],rfl,by omega,by unfold maxLen;omega,hce,by rw [List.eq_nil_of_length_eq_zero h0];exact RowT6.nil,RowT6.of_own he⟩
 ·exact ⟨_,c,Ae,ce,rfl,rfl,hnc,hcm,hce,RowT6.of_own ho,RowT6.of_own he⟩
end Go.Proofs.YtldcadpemnpbmaaGreatDoor
set_option linter.unusedVariables false
namespace Go.Proofs.YtldcadpemnpbmaaGreatDoor
open Go Go.RowKit
def Curs (S:Nat→Prop) (w:World):Prop:=∀ D,S D→∃ cs fr,w.heap[D]?=some (.cells cs 338 fr)
theorem not_kept_cursor (p:Prop × Nat) (k:Nat):¬ Kept p k 338:=by
 rintro (h|h|h|⟨_,_,h⟩)<;>exact absurd h (by decide)
theorem Soft.of_only {p:Prop × Nat} {X S:Nat→Prop} {w w':World} (ho:OnlyIn S w w') (hs:Curs S w) (hX:∀ k,X k→¬ S k):Soft p X w w':=
 ⟨ho.os,ho.tape,ho.output,ho.size,fun k hk=>by
  by_cases h:S k
  ·obtain ⟨cs,fr,e⟩:=hs k h
   exact .inr ⟨fun hx=>hX k hx h,_,e,fun cs' t' fr' e'=>by injection e' with _ e' _;rw [← e'];exact not_kept_cursor p k⟩
  ·exact .inl (ho.block k hk h)⟩
section
variable {w w':World} {A:Option Addr} {l:List Po} {S X:Nat→Prop} {p:Prop × Nat}
theorem PostsN.only (h:PostsN p w A l) (ho:OnlyIn S w w') (hs:Curs S w):PostsN p w' A l:=h.soft (Soft.of_only (X:=fun _=>False) ho hs (fun _ h=>h.elim))
end
def CBlk (C:Nat) (vb ve:Value) (g:List Po) (A:Option Addr) (m c nx:Nat) (bh:Bool) (rd:Int) (w:World):Prop:=
 w.heap[C]?=some (.cells #[vb,ve,.int .i64 (g.length:Int),.int .i64 (totalP g:Int),.slice A m c,.int .i64 (nx:Int),.bool bh,.int .i64 rd] 338 (0,0))
def CAt (p:Prop × Nat) (C:Nat) (g:List Po) (i:Int) (w:World):Prop:=
 ∃ vb ve A c nx bh rd rest,CBlk C vb ve g A (List.length rest) c nx bh rd w∧ListN w vb ve g∧Pos6 g i nx bh rest∧rest.length≤c∧c≤maxLen∧PostsN p w A rest∧GoodG g
section
variable {C nx:Nat} {vb ve:Value} {g:List Po} {A:Option Addr} {m c:Nat} {bh:Bool} {rd:Int} {w w':World} {S X:Nat→Prop} {i:Int} {p:Prop × Nat}
theorem CBlk.lt (h:CBlk C vb ve g A m c nx bh rd w):C<w.heap.size:=(Array.getElem?_eq_some_iff.1 h).1
theorem CBlk.curs (h:CBlk C vb ve g A m c nx bh rd w):Curs (fun k=>k=C) w:=fun D hD=>by subst hD;exact ⟨_,_,h⟩
theorem CBlk.only (h:CBlk C vb ve g A m c nx bh rd w) (ho:OnlyIn S w w') (hC:¬ S C):CBlk C vb ve g A m c nx bh rd w':=(ho.block C h.lt hC).trans h
theorem ListN.only (h:ListN w vb ve g) (ho:OnlyIn S w w') (hs:Curs S w):ListN w' vb ve g:=h.soft (p:=(False,0)) (Soft.of_only (X:=fun _=>False) ho hs (fun _ h=>h.elim))
theorem CAt.soft (h:CAt p C g i w) (hs:Soft p X w w') (hC:X C):CAt p C g i w':=by
 obtain ⟨vb,ve,A,c,nx,bh,rd,rest,h1,h2,h3,h4,h5,h6,h7⟩:=h
 exact ⟨vb,ve,A,c,nx,bh,rd,rest,hs.keep h1 hC,h2.soft hs,h3,h4,h5,h6.soft hs,h7⟩
theorem CAt.only (h:CAt p C g i w) (ho:OnlyIn S w w') (hs:Curs S w) (hC:¬ S C):CAt p C g i w':=by
 obtain ⟨vb,ve,A,c,nx,bh,rd,rest,h1,h2,h3,h4,h5,h6,h7⟩:=h
 exact ⟨vb,ve,A,c,nx,bh,rd,rest,h1.only ho hC,h2.only ho hs,h3,h4,h5,h6.only ho hs,h7⟩
theorem CAt.below (h:CAt p C g i w) (hb:Below w.heap.size w w'):CAt p C g i w':=h.only (S:=fun _=>False) (OnlyIn.of_below hb) (fun D hD=>hD.elim) (fun h=>h)
theorem CBlk.lin (h:CBlk C vb ve g A m c nx bh rd w) (hl:ListN w vb ve g):LIn w C (bytesP (-1) g) g:=by
 obtain ⟨Ab,cb,Ae,ce,rfl,rfl,h3,h4,h5,h6,h7⟩:=hl
 obtain ⟨⟨c0,c1,c2,c3,_⟩,_⟩:=cell_eight h
 exact ⟨h.lt,Ab,cb,Ae,ce,⟨c0,c1,c2,c3⟩,h3,h4,h5,h6.row,h7.row⟩
end
end Go.Proofs.YtldcadpemnpbmaaGreatDoor
set_option linter.unusedVariables false
namespace Go.Proofs.YtldcadpemnpbmaaGreatDoor
open Go Go.RowKit
def ptrsC (Cs:List Nat):List Value:=Cs.map fun C=> .pointer (some ⟨C,0,none⟩)
theorem ptrsC_at {Cs:List Nat} {j:Nat} (h:j<Cs.length):(ptrsC Cs)[j]?=some (.pointer (some ⟨Cs[j],0,none⟩)):=by simp [ptrsC,h]
structure CursAt (p:Prop × Nat) (Cs:List Nat) (gs:List (List Po)) (is:Nat→Int) (w:World):Prop where
 len:Cs.length=gs.length
 apart:Cs.Nodup
 at_:∀ j (h:j<Cs.length) (h2:j<gs.length),CAt p Cs[j] gs[j] (is j) w
section
variable {p:Prop × Nat} {Cs:List Nat} {gs:List (List Po)} {is:Nat→Int} {w w':World}
theorem CursAt.below (h:CursAt p Cs gs is w) (hb:Below w.heap.size w w'):CursAt p Cs gs is w':=⟨h.len,h.apart,fun j h1 h2=>(h.at_ j h1 h2).below hb⟩
theorem CursAt.soft {X:Nat→Prop} (h:CursAt p Cs gs is w) (hs:Soft p X w w') (hX:∀ C∈Cs,X C):CursAt p Cs gs is w':=⟨h.len,h.apart,fun j h1 h2=>(h.at_ j h1 h2).soft hs (hX _ (List.getElem_mem h1))⟩
theorem CAt.block {C:Nat} {g:List Po} {i:Int} (h:CAt p C g i w):∃ cs fr,w.heap[C]?=some (.cells cs 338 fr):=by
 obtain ⟨vb,ve,A,c,nx,bh,rd,rest,h1,_⟩:=h
 exact ⟨_,_,h1⟩
theorem CAt.good {C:Nat} {g:List Po} {i:Int} (h:CAt p C g i w):GoodG g:=by
 obtain ⟨vb,ve,A,c,nx,bh,rd,rest,_,_,_,_,_,_,h7⟩:=h
 exact h7
theorem CursAt.block (h:CursAt p Cs gs is w):∀ C∈Cs,∃ cs fr,w.heap[C]?=some (.cells cs 338 fr):=fun C hC=>by
 obtain ⟨j,hj,rfl⟩:=List.getElem_of_mem hC
 exact (h.at_ j hj (by rw [← h.len];exact hj)).block
theorem CursAt.lt (h:CursAt p Cs gs is w):∀ C∈Cs,C<w.heap.size:=fun C hC=>by
 obtain ⟨cs,fr,hb⟩:=h.block C hC
 exact (Array.getElem?_eq_some_iff.1 hb).1
theorem CursAt.moved (h:CursAt p Cs gs is w) {k:Nat} (hk:k<Cs.length) (hk2:k<gs.length) {i':Int} (hc:CAt p Cs[k] gs[k] i' w') (ho:OnlyAt Cs[k] w w'):CursAt p Cs gs (fun j=>if j=k then i' else is j) w':=by
 refine ⟨h.len,h.apart,fun j h1 h2=> ?_⟩
 by_cases e:j=k
 ·subst e
  simp only [if_true]
  exact hc
 ·simp only [if_neg e]
  refine (h.at_ j h1 h2).only ho (fun D hD=> ?_) (fun e2=> ?_)
  ·rw [hD];exact (h.at_ k hk hk2).block
  ·exact e ((List.getElem_inj h.apart).1 e2)
theorem CursAt.snoc (h:CursAt p Cs gs is w) {C:Nat} {g:List Po} {i:Int} (hC:CAt p C g i w) (hn:∀ D∈Cs,D≠C):CursAt p (Cs++[C]) (gs++[g]) (fun j=>if j=gs.length then i else is j) w:=by
 refine ⟨by simp [h.len],?_,fun j h1 h2=> ?_⟩
 ·rw [List.nodup_append]
  refine ⟨h.apart,List.nodup_cons.2 ⟨(fun h=>by cases h),List.nodup_nil⟩,fun a ha b hb=> ?_⟩
  rw [List.mem_singleton] at hb
  rw [hb]
  exact hn a ha
 ·rw [List.length_append,List.length_singleton] at h1 h2
  by_cases e:j=gs.length
  ·subst e
   simp only [if_true]
   rw [List.getElem_append_right (by rw [h.len];exact Nat.le_refl _),List.getElem_append_right (Nat.le_refl _)]
   simpa using hC
  ·simp only [if_neg e]
   have hj:j<gs.length:=by omega
   have hj2:j<Cs.length:=by rw [h.len];exact hj
   rw [List.getElem_append_left hj2,List.getElem_append_left hj]
   exact h.at_ j hj2 hj
end
theorem CursAt.nil {p:Prop × Nat} {w:World} {is:Nat→Int}:CursAt p [] [] is w:=⟨rfl,List.nodup_nil,fun j h=>by simp at h⟩
theorem ptrC_only {w w':World} {A:Option Addr} {xs:List Value} {S:Nat→Prop} (h:RowT6 247 w A xs) (ho:OnlyIn S w w') (hs:∀ D,S D→∃ cs fr,w.heap[D]?=some (.cells cs 338 fr)):RowT6 247 w' A xs:=by
 rcases h with h|⟨b,off,e,⟨cs,fr,hb⟩,hc⟩
 ·exact .inl h
 ·have hn:¬ S b:=fun h=>by
   obtain ⟨cs',fr',h'⟩:=hs b h
   rw [hb] at h'
   injection h' with h'
   injection h' with _ h' _
   exact absurd h' (by decide)
  have hk:=ho.block b (Array.getElem?_eq_some_iff.1 hb).1 hn
  exact .inr ⟨b,off,e,⟨cs,fr,hk.trans hb⟩,fun j u hu=>(World.cell?_of_block (a:=⟨b,off+j,none⟩) hk).trans (hc j u hu)⟩
theorem ptrC_below {w w':World} {A:Option Addr} {xs:List Value} (h:RowT6 247 w A xs) (hb:Below w.heap.size w w'):RowT6 247 w' A xs:=ptrC_only (S:=fun _=>False) h (OnlyIn.of_below hb) (fun D h=>h.elim)
theorem ptrC_at {w:World} {A:Option Addr} {Cs:List Nat} (h:RowT6 247 w A (ptrsC Cs)) {j:Nat} (hj:j<Cs.length):∃ b off,A=some ⟨b,off,none⟩∧w.cell? ⟨b,off+j,none⟩=some (.pointer (some ⟨Cs[j],0,none⟩)):=by
 rcases h with h|⟨b,off,e,_,hc⟩
 ·exact absurd (congrArg List.length h) (by simp [ptrsC];intro e;rw [e] at hj;simp at hj)
 ·exact ⟨b,off,e,hc j _ (ptrsC_at hj)⟩
end Go.Proofs.YtldcadpemnpbmaaGreatDoor
namespace Go.Proofs.YtldcadpemnpbmaaGreatDoor
open Go.Shelf Go.RowKit
def laySearch_ren:Go.Shelf.Ren:=⟨fun |16=>321|n=>n,fun |3=>3|4=>4|35=>44|38=>128|n=>n,fun |n=>n⟩
theorem laySearch:SlLaysO.n16 Tryz.prog laySearch_ren:={
 mixed:=by kernel_rfl
 f16:=Tryz.func321.trans (congrArg some (by kernel_rfl))
 t3:=Tryz.underlying3
 a3:=Tryz.isAgg3
 z3:=Tryz.sizeOf3
 v3:=Tryz.zeroValue3
 t4:=Tryz.underlying4
 a4:=Tryz.isAgg4
 z4:=Tryz.sizeOf4
 v4:=Tryz.zeroValue4
 t35:=Tryz.underlying44
 a35:=Tryz.isAgg44
 z35:=Tryz.sizeOf44
 v35:=Tryz.zeroValue44
 t38:=Tryz.underlying128
 a38:=Tryz.isAgg128
 z38:=Tryz.sizeOf128
 v38:=Tryz.zeroValue128}
open Go.Sort Go.Lib in
theorem sort_Search (g:Nat) (cb:Array Value) (n:Nat) (p:Nat→Bool) (w:World) (eg:∀ args w,(callFunc g args).run Tryz.prog w= .ok (.enter g args) w) (hsz:n<4611686018427387904)
  (hf:∀ (W:World) (i:Nat),i<n→Below w.heap.size w W→Calls Tryz.prog g (#[.int .i64 i]++cb) W fun e w'=>e= .returned (.bool (p i))∧∃ q,w'=W.drewN q)
  (hmono:∀ a b,a≤b→b<n→p a=true→p b=true):
  Calls Tryz.prog 321 #[.int .i64 n,.func (.func g) #[] cb] w fun e w'=>e= .returned (.int .i64 ((List.range n).countP (fun i=> !p i):Nat))∧Below w.heap.size w w':=by
 refine (Any.sort_Search laySearch g cb n p w eg hsz (fun m os i hi=>(hf _ i hi (below_grown_sl w.heap.size w m os (Nat.le_refl _))).mono ?_) hmono).mono ?_
 ·rintro e w' ⟨rfl,q,rfl⟩
  exact ⟨rfl,q,#[],by rw [grow_empty]⟩
 ·rintro e w' ⟨rfl,q,os,rfl⟩
  exact ⟨rfl,below_grown_sl w.heap.size w q os (Nat.le_refl _)⟩
end Go.Proofs.YtldcadpemnpbmaaGreatDoor
set_option linter.unusedVariables false
namespace Go.Proofs.YtldcadpemnpbmaaGreatDoor
open Go Go.RowKit
theorem set_two {w:World} {B:Nat} {a b x y:Value} {t:TypeId} (h:w.heap[B]?=some (.cells #[a,b] t (0,0))):((w.setCell ⟨B,0,none⟩ x).setCell ⟨B,1,none⟩ y).heap[B]?=some (.cells #[x,y] t (0,0)):=
 heap_setCell_same _ B 1 #[x,b] t y (heap_setCell_same w B 0 #[a,b] t x h)
theorem cells_two {w:World} {B:Nat} {x y:Value} {t:TypeId} (h:w.heap[B]?=some (.cells #[x,y] t (0,0))):w.cell? ⟨B,0,none⟩=some x∧w.cell? ⟨B,1,none⟩=some y∧w.frozen? ⟨B,0,none⟩=false∧w.frozen? ⟨B,1,none⟩=false:=by
 simp [World.cell?,World.frozen?,h]
theorem take_blocks (l:List Po):l.take (8*blocksP l.length)=l:=List.take_of_length_le (by unfold blocksP;omega)
theorem list_last (base B:Nat) (bs:List UInt8) (l:List Po) (w:World) (h:LAt w base B bs l) (hl:l.length≤1073741824):
  Calls Tryz.prog 177 #[.pointer (some ⟨B,0,none⟩)] w fun e w'=>e= .returned (.agg #[.int .i64 (docOf (-1) l),.int .i64 ((bytesP (-1) l).length:Int)])∧Below w.heap.size w w':=by
 have hal:=(Below.refl w.heap.size w).alloc (Nat.le_refl _) (.cells #[.int .i64 0,.int .i64 0] 240)
 have h1:=h.below hal
 have hb:=list_Blocks base B bs l _ h1
 have ha:=list_ahead base B bs l _ h1 (blocksP l.length) (Nat.le_refl _) hl
 rw [take_blocks] at ha
 have HAL:=Lib.hid hal
 have HB:=Lib.hid hb
 have HA:=Lib.hid ha
 obtain ⟨n,hn⟩:∃ n,n=blocksP l.length:=⟨_,rfl⟩
 rw [← hn] at HA HB
 obtain ⟨x,hx⟩:∃ x,x=docOf (-1) l:=⟨_,rfl⟩
 obtain ⟨y,hy⟩:∃ y,y=(bytesP (-1) l).length:=⟨_,rfl⟩
 rw [← hx,← hy] at HA ⊢
 clear h h1 hal hb ha hn hx hy
 go_enter Tryz.func177,Tryz.ntmps177
 go_wp2_with (first
  |(go_at_call 231;refine HB.out.mono ?_;rintro e w' ⟨rfl,rfl⟩)
  |(go_at_call 230;refine HA.out.mono ?_))
 rintro e w3 ⟨rfl,hb3⟩
 have hres:w3.heap[w.heap.size]?=some (.cells #[.int .i64 0,.int .i64 0] 240 (0,0)):=(hb3.block w.heap.size (by simp)).trans (heap_alloc_new w _)
 obtain ⟨c0,c1,f0,f1⟩:=cells_two hres
 have hb4:=HAL.out.trans (hb3.mono (by simp))
 have HR:=Lib.hid hres
 have HB4:=Lib.hid hb4
 clear hres hb4 hb3
 go_wp2
 refine bodyPost_ret (results_cell_row (P:=Tryz.prog) rfl _ _ w.heap.size 240 _ (0,0) _ rfl (set_two HR.out) Tryz.underlying240 rfl (by kernel_rfl)) rfl ?_
 exact ⟨rfl,(HB4.out.setCell (Nat.le_refl _) _).setCell (Nat.le_refl _) _⟩
end Go.Proofs.YtldcadpemnpbmaaGreatDoor
namespace Go.Proofs.YtldcadpemnpbmaaGreatDoor
open Go Go.RowKit
set_option linter.unusedVariables false
def PlacesRel10 (l:List Int) (r last i:Value):Prop:=r= .bool false∧∃ (k:Nat) (x:Int),k≤l.length∧i= .int .i64 (k:Int)∧last= .int .i64 x∧placesOn x (l.drop k)=placesOn (-1) l
set_option maxHeartbeats 1000000 in
set_option maxRecDepth 100000 in
theorem may_places_any (A:Option Addr) (m c:Nat) (l:List Int) (w:World) (hr:Row w w.heap.size A (ints l)) (hm:l.length=m) (hl:m≤9223372036854775807):
  Calls Tryz.prog 226 #[.slice A m c] w fun e w'=>e= .returned (.bool (placesB l))∧w=w':=by
 have HR:=Lib.hid hr
 clear hr
 subst hm
 rw [placesB_on]
 obtain ⟨ans,hans⟩:∃ ans,ans=placesOn (-1) l:=⟨_,rfl⟩
 rw [← hans]
 have HA:=Lib.hid hans
 clear hans
 go_enter Tryz.func226,Tryz.ntmps226
 go_wp2
 go_loop [2,3,8] (fun r last i=>PlacesRel10 l r last i) (fun _ _ i=>l.length-(intOf i).toNat)
 case atStart=>exact ⟨rfl,0, -1,by omega,rfl,rfl,rfl⟩
 case round=>
  obtain ⟨rfl,k,x,hk,rfl,rfl,hx⟩:=hrel
  by_cases hlt:k<l.length
  ·obtain ⟨b1,o1,e1,_,hc1⟩:=row_int' HR.out hlt
   subst e1
   rw [placesOn_cut hlt] at hx
   obtain ⟨y,hy⟩:∃ y,y=l.getD k 0:=⟨_,rfl⟩
   rw [← hy] at hc1 hx
   clear hy
   by_cases hxy:y≤x
   ·rw [decide_eq_false (by omega),Bool.false_and,Bool.false_and,← HA.out] at hx
    subst hx
    have hd:decide (y≤x)=true:=decide_eq_true hxy
    go_wp2
    go_ret
    exact ⟨rfl,rfl⟩
   ·have hd:decide (y≤x)=false:=decide_eq_false hxy
    by_cases hyb:2147483648≤y
    ·rw [decide_eq_false (p:=y<2147483648) (by omega),Bool.and_false,Bool.false_and,← HA.out] at hx
     subst hx
     have hd2:decide (2147483648≤y)=true:=decide_eq_true hyb
     go_wp2
     go_ret
     exact ⟨rfl,rfl⟩
    ·rw [decide_eq_true (p:=x<y) (by omega),decide_eq_true (p:=y<2147483648) (by omega),Bool.true_and,Bool.true_and] at hx
     have hd2:decide (2147483648≤y)=false:=decide_eq_false hyb
     have HX:=Lib.hid hx
     clear hx
     go_wp2
     go_round
     case rel=>exact ⟨rfl,k+1,y,by omega,by go_num,rfl,HX.out⟩
     case measure=>simp [intOf];omega
  ·have hx2:placesOn x (l.drop k)=true:=by rw [List.drop_eq_nil_of_le (by omega)];rfl
   rw [hx2,← HA.out] at hx
   subst hx
   clear hx2
   go_wp2
   go_ret
   exact ⟨rfl,rfl⟩
end Go.Proofs.YtldcadpemnpbmaaGreatDoor
namespace Go.Proofs.YtldcadpemnpbmaaGreatDoor
open Go Go.RowKit
set_option linter.unusedVariables false
def FirstRel (l:List UInt8) (r2 r3 n wth i:Value):Prop:=
 r2= .int .i64 0∧r3= .int .i64 0∧∃ k:Nat,k≤9∧k≤l.length∧i= .int .i64 (k:Int)∧n= .int .i64 (valB (l.take k):Int)∧High l k∧∃ z:Int,wth= .int .i64 z∧(k<9→z=((128^k:Nat):Int))
def GaveF (p:Nat × Nat) (w:World) (e:Ending) (w':World):Prop:=e= .returned (.tuple #[.int .i64 (p.1:Int),.int .i64 (p.2:Int)])∧w=w'
set_option maxHeartbeats 2000000 in
set_option maxRecDepth 100000 in
theorem vint_first (A:Option Addr) (m c:Nat) (l:List UInt8) (w:World) (hm:l.length=m) (hr:Row w w.heap.size A (Lib.byteCells l)) (hl:m≤400000000000):
  Calls Tryz.prog 338 #[.slice A m c] w (GaveF (getF l) w):=by
 have HR:=Lib.hid hr
 clear hr
 subst hm
 obtain ⟨r,hrr⟩:∃ r,r=getF l:=⟨_,rfl⟩
 rw [← hrr]
 have HF:=Lib.hid hrr
 clear hrr
 obtain ⟨lim,hlim⟩:∃ lim:Nat,(if (9:Int)<(l.length:Int) then (9:Int) else (l.length:Int))=(lim:Int):=by
  by_cases h:(9:Int)<(l.length:Int)
  ·exact ⟨9,by rw [if_pos h];rfl⟩
  ·exact ⟨l.length,by rw [if_neg h]⟩
 have hl9:lim≤9∧lim≤l.length∧(lim=9∨lim=l.length):=by split at hlim<;>omega
 go_enter Tryz.func338,Tryz.ntmps338
 go_wp2
 go_loop [2,3,4,5,11] (fun r2 r3 n wth i=>FirstRel l r2 r3 n wth i) (fun _ _ _ _ i=>lim-(intOf i).toNat)
 case atStart=>exact ⟨rfl,rfl,0,by omega,by omega,rfl,by simp [valB],High.zero l,1,rfl,fun _=>by simp⟩
 case round=>
  obtain ⟨rfl,rfl,k,hk9,hkl,rfl,rfl,hh,z,rfl,hz⟩:=hrel
  by_cases hlt:k<lim
  ·obtain ⟨b1,o1,e1,_,hc1⟩:=row_byte HR.out (k:=k) (by omega)
   subst e1
   obtain ⟨q,p,v,hq,hv,hv2,hmul,hp,hvp,hqb⟩:=worth_more (l:=l) (k:=k) (by omega) (by omega)
   have hz':=hz (by omega)
   rw [hq] at hz'
   subst hz'
   rw [hv]
   obtain ⟨c,hc⟩:∃ c,c=(l.getD k 0).toNat:=⟨_,rfl⟩
   have hc255:c<256:=by rw [hc];exact UInt8.toNat_lt _
   have HC:=Lib.hid hc
   have HH:=Lib.hid hh
   have HQ:=Lib.hid hq
   have HV:=Lib.hid hv2
   rw [← hc] at hc1 hmul
   clear hc hh hz hq hv hv2
   by_cases c0:c=0∧0<k
   ·obtain ⟨c0,k0⟩:=c0
    have hr0:r=(0,0):=by rw [HF.out];exact getF_zero HH.out (by omega) (by omega) k0 (by rw [← HC.out];exact c0)
    have HR0:=Lib.hid hr0
    subst c0
    have hk0:(0:Int)<(k:Int):=by omega
    clear hr0
    go_wp2
    go_ret2
    rw [HR0.out]
    exact ⟨rfl,rfl⟩
   ·have hpk:Hid (c<128→r=(v+p,k+1)):=Lib.hid fun h=>by rw [HF.out,getF_some HH.out (by omega) (by omega) (by rw [← HC.out];exact h) (by rw [← HC.out];omega),HV.out]
    have hnx:Hid (128≤c→High l (k+1)):=Lib.hid fun h=>HH.out.succ (by rw [← HC.out];exact h)
    by_cases h128:c<128
    ·have HP:=Lib.hid (hpk.out h128)
     clear hpk hnx
     by_cases hc0:c=0
     ·have hcb:((c:Int)==0)=true:=by rw [beq_iff_eq];omega
      have hkb:decide ((0:Int)<(k:Int))=false:=decide_eq_false (by omega)
      have hp0:Hid (p=0):=Lib.hid (by rw [hc0] at hmul;simp at hmul;omega)
      go_wp2
      go_ret2
      rw [HP.out,hp0.out]
      exact ⟨by simp,rfl⟩
     ·have hcb:((c:Int)==0)=false:=by rw [beq_eq_false_iff_ne];omega
      go_wp2
      go_ret2
      rw [HP.out]
      exact ⟨by simp,rfl⟩
    ·have HN:=Lib.hid (hnx.out (by omega))
     clear hpk hnx
     have hcb:((c:Int)==0)=false:=by rw [beq_eq_false_iff_ne];omega
     by_cases k8:k<8
     ·obtain ⟨hq1,hq2⟩:=pow_next HQ.out k8
      have HQ1:=Lib.hid hq1
      clear hq1
      go_wp2
      go_round
      case rel=>exact ⟨rfl,rfl,k+1,by omega,by omega,by go_num,by rw [HV.out];go_num,HN.out,_,rfl,fun _=>by rw [HQ1.out];simp⟩
      case measure=>simp [intOf]<;>omega
     ·have hq8:q=72057594037927936:=by
       have :=HQ.out
       rw [show k=8 by omega] at this
       rw [← this]
      subst hq8
      go_wp2
      go_round
      case rel=>exact ⟨rfl,rfl,k+1,by omega,by omega,by go_num,by rw [HV.out];go_num,HN.out,_,rfl,fun h=>by omega⟩
      case measure=>simp [intOf]<;>omega
  ·have hr0:r=(0,0):=by rw [HF.out];exact getF_none hh (by omega)
   have HR0:=Lib.hid hr0
   clear hr0
   go_wp2
   go_ret2
   rw [HR0.out]
   exact ⟨rfl,rfl⟩
end Go.Proofs.YtldcadpemnpbmaaGreatDoor
namespace Go.Proofs.YtldcadpemnpbmaaGreatDoor
open Go Go.RowKit
set_option linter.unusedVariables false
structure Taker (Be Bb Ba:Nat) (A:Option Addr) (m c:Nat) (e a:Int) (w:World):Prop where
 err:w.heap[Be]?=some (.cells #[.int .i64 e] 38 (0,0))
 bytes:w.heap[Bb]?=some (.cells #[.slice A m c] 231 (0,0))
 place:w.heap[Ba]?=some (.cells #[.int .i64 a] 3 (0,0))
theorem ne_of_types {w:World} {a b:Nat} {u v:Array Value} {t s:TypeId} {f g:Nat × Nat} (h:w.heap[a]?=some (.cells u t f)) (h2:w.heap[b]?=some (.cells v s g)) (hne:t≠s):a≠b:=by
 rintro rfl
 rw [h] at h2
 simp at h2
 exact hne h2.2.1
section
variable {Be Bb Ba:Nat} {A:Option Addr} {m c:Nat} {e a:Int} {w w':World}
theorem Taker.setErr (h:Taker Be Bb Ba A m c e a w) (x:Int):Taker Be Bb Ba A m c x a (w.setCell ⟨Be,0,none⟩ (.int .i64 x)):=
 ⟨one_setCell h.err,(Below.heap_setCell _ _ _ _ (ne_of_types h.bytes h.err (by decide))).trans h.bytes,(Below.heap_setCell _ _ _ _ (ne_of_types h.place h.err (by decide))).trans h.place⟩
theorem Taker.setPlace (h:Taker Be Bb Ba A m c e a w) (x:Int):Taker Be Bb Ba A m c e x (w.setCell ⟨Ba,0,none⟩ (.int .i64 x)):=
 ⟨(Below.heap_setCell _ _ _ _ (ne_of_types h.err h.place (by decide))).trans h.err,(Below.heap_setCell _ _ _ _ (ne_of_types h.bytes h.place (by decide))).trans h.bytes,one_setCell h.place⟩
end
def Took (Be Bb Ba:Nat) (A:Option Addr) (m c:Nat) (n b e:Int) (a':Int) (w:World) (en:Ending) (w':World):Prop:=
 en= .returned (.tuple #[.int .i64 n,.int .i64 b,.int .i64 e])∧Taker Be Bb Ba A m c e a' w'∧Aside w.heap.size Be Ba w w'
theorem aside_set {B C:Nat} {w:World} (x:Value):Aside w.heap.size B C w (w.setCell ⟨B,0,none⟩ x):=
 ⟨rfl,rfl,rfl,by simp,fun k _ hk _=>Below.heap_setCell _ _ _ _ hk⟩
theorem Taker.drewN {Be Bb Ba:Nat} {A:Option Addr} {m c:Nat} {e a:Int} {w:World} (h:Taker Be Bb Ba A m c e a w) (n:Nat):Taker Be Bb Ba A m c e a (w.drewN n):=⟨h.1,h.2,h.3⟩
theorem Aside.drewN {base B C:Nat} {w w1:World} (h:Aside base B C w w1) (n:Nat):Aside base B C w (w1.drewN n):=⟨h.1,h.2.1,h.2.2.1,h.2.2.2.1,h.2.2.2.2⟩
set_option maxHeartbeats 1000000 in
set_option maxRecDepth 100000 in
theorem take_none (Be Bb Ba:Nat) (A:Option Addr) (m c:Nat) (e a most:Int) (w:World) (ht:Taker Be Bb Ba A m c e a w) (he:e≠0):
  Calls Tryz.prog 337 #[.int .i64 most,.pointer (some ⟨Be,0,none⟩),.pointer (some ⟨Bb,0,none⟩),.pointer (some ⟨Ba,0,none⟩)] w (Took Be Bb Ba A m c 0 0 e a w):=by
 have cE:=cell_of_one ht.err
 have heb:(e==0)=false:=by rw [beq_eq_false_iff_ne];exact he
 have HT:=Lib.hid ht
 clear ht he
 go_enter Tryz.func337,Tryz.ntmps337
 go_wp2
 go_quiet (fail)
 go_wp2
 go_ret3
 exact ⟨rfl,HT.out.drewN _,(Aside.refl _ _ _ _).drewN _⟩
set_option maxHeartbeats 1000000 in
set_option maxRecDepth 100000 in
theorem take_bad (Be Bb Ba:Nat) (b off:Nat) (m c:Nat) (a:Nat) (most:Int) (l:List UInt8) (n k:Nat) (w:World) (ht:Taker Be Bb Ba (some ⟨b,off,none⟩) m c 0 a w) (hr:Row w w.heap.size (some ⟨b,off,none⟩) (Lib.byteCells l)) (hm:l.length=m) (hc:m≤c) (hcx:c≤maxLen) (ha:a≤m) (hl:m≤400000000000)
  (hF:getF (l.drop a)=(n,k)) (hbad:k=0∨most<(n:Int)):
  Calls Tryz.prog 337 #[.int .i64 most,.pointer (some ⟨Be,0,none⟩),.pointer (some ⟨Bb,0,none⟩),.pointer (some ⟨Ba,0,none⟩)] w (Took Be Bb Ba (some ⟨b,off,none⟩) m c 0 0 2 a w):=by
 have cE:=cell_of_one ht.err
 have fE:=free_of_one ht.err
 have cB:=cell_of_one ht.bytes
 have cA:=cell_of_one ht.place
 have f1:=fun A' m' c' h1 h2 h3=>vint_first A' m' c' (l.drop a) w h1 h2 h3
 rw [hF] at f1
 have F1:=Lib.hid f1
 have HT:=Lib.hid ht
 have HR:=Lib.hid hr
 unfold maxLen at hcx
 clear ht hr f1
 have hfin:Hid (∀ nq,Took Be Bb Ba (some ⟨b,off,none⟩) m c 0 0 2 a w (.returned (.tuple #[.int .i64 0,.int .i64 0,.int .i64 2])) ((w.setCell ⟨Be,0,none⟩ (.int .i64 2)).drewN nq)):=
  Lib.hid fun nq=>⟨rfl,(HT.out.setErr 2).drewN _,(aside_set _).drewN _⟩
 rcases Nat.eq_zero_or_pos k with hk|hk
 ·subst hk
  go_enter Tryz.func337,Tryz.ntmps337
  go_wp2_with (go_at_call 338;refine (F1.out _ _ _ (by rw [List.length_drop];omega) (row_drop HR.out hm hc ha _ (by first|exact .inl ⟨rfl,by omega⟩|exact .inr rfl)) (by omega)).mono ?_)
  all_goals
   rintro en w2 ⟨rfl,rfl⟩
   go_wp2
   go_quiet (fail)
   go_wp2
   go_ret3
   exact hfin.out _
 ·have hkb:((k:Int)==0)=false:=by rw [beq_eq_false_iff_ne];omega
  have hmost:most<(n:Int):=by omega
  go_enter Tryz.func337,Tryz.ntmps337
  go_wp2_with (go_at_call 338;refine (F1.out _ _ _ (by rw [List.length_drop];omega) (row_drop HR.out hm hc ha _ (by first|exact .inl ⟨rfl,by omega⟩|exact .inr rfl)) (by omega)).mono ?_)
  all_goals
   rintro en w2 ⟨rfl,rfl⟩
   go_wp2
   go_quiet (fail)
   go_wp2
   go_ret3
   exact hfin.out _
set_option maxHeartbeats 1000000 in
set_option maxRecDepth 100000 in
theorem take_good (Be Bb Ba:Nat) (b off:Nat) (m c:Nat) (a:Nat) (most:Int) (l:List UInt8) (n k:Nat) (w:World) (ht:Taker Be Bb Ba (some ⟨b,off,none⟩) m c 0 a w) (hr:Row w w.heap.size (some ⟨b,off,none⟩) (Lib.byteCells l)) (hm:l.length=m) (hc:m≤c) (hcx:c≤maxLen) (ha:a≤m) (hl:m≤400000000000)
  (hF:getF (l.drop a)=(n,k)) (hk:0<k) (hmost:(n:Int)≤most):
  Calls Tryz.prog 337 #[.int .i64 most,.pointer (some ⟨Be,0,none⟩),.pointer (some ⟨Bb,0,none⟩),.pointer (some ⟨Ba,0,none⟩)] w (Took Be Bb Ba (some ⟨b,off,none⟩) m c n ((a:Int)+k) 0 ((a:Int)+k) w):=by
 have cE:=cell_of_one ht.err
 have cB:=cell_of_one ht.bytes
 have cA:=cell_of_one ht.place
 have fA:=free_of_one ht.place
 have hbd:=getF_bd (l.drop a)
 rw [hF,List.length_drop] at hbd
 simp only at hbd
 have f1:=fun A' m' c' h1 h2 h3=>vint_first A' m' c' (l.drop a) w h1 h2 h3
 rw [hF] at f1
 have F1:=Lib.hid f1
 have HT:=Lib.hid ht
 have HR:=Lib.hid hr
 unfold maxLen at hcx
 clear ht hr f1
 have hfin:Hid (∀ nq,Took Be Bb Ba (some ⟨b,off,none⟩) m c n ((a:Int)+k) 0 ((a:Int)+k) w (.returned (.tuple #[.int .i64 n,.int .i64 ((a:Int)+k),.int .i64 0])) ((w.setCell ⟨Ba,0,none⟩ (.int .i64 ((a:Int)+k))).drewN nq)):=
  Lib.hid fun nq=>⟨rfl,(HT.out.setPlace _).drewN _,(aside_set _).swap.drewN _⟩
 have hkb:((k:Int)==0)=false:=by rw [beq_eq_false_iff_ne];omega
 go_enter Tryz.func337,Tryz.ntmps337
 go_wp2_with (go_at_call 338;refine (F1.out _ _ _ (by rw [List.length_drop];omega) (row_drop HR.out hm hc ha _ (by first|exact .inl ⟨rfl,by omega⟩|exact .inr rfl)) (by omega)).mono ?_)
 all_goals
  rintro en w2 ⟨rfl,rfl⟩
  go_wp2
  go_quiet (fail)
  go_wp2
  go_ret3
  exact hfin.out _
end Go.Proofs.YtldcadpemnpbmaaGreatDoor
namespace Go.Proofs.YtldcadpemnpbmaaGreatDoor
open Go Go.RowKit
set_option linter.unusedVariables false
set_option maxHeartbeats 1000000 in
set_option maxRecDepth 100000 in
theorem take_nil (Be Bb Ba:Nat) (A:Option Addr) (m c:Nat) (most:Int) (w:World) (ht:Taker Be Bb Ba A m c 0 0 w) (hm:m=0) (hcx:c≤maxLen):
  Calls Tryz.prog 337 #[.int .i64 most,.pointer (some ⟨Be,0,none⟩),.pointer (some ⟨Bb,0,none⟩),.pointer (some ⟨Ba,0,none⟩)] w (Took Be Bb Ba A m c 0 0 2 0 w):=by
 subst hm
 have cE:=cell_of_one ht.err
 have fE:=free_of_one ht.err
 have cB:=cell_of_one ht.bytes
 have cA:=cell_of_one ht.place
 have hF:getF []=(0,0):=by decide
 have f1:=fun A' m' c' h1 h2 h3=>vint_first A' m' c' [] w h1 h2 h3
 rw [hF] at f1
 have F1:=Lib.hid f1
 have HT:=Lib.hid ht
 unfold maxLen at hcx
 clear ht f1 hF
 have hfin:Hid (∀ nq,Took Be Bb Ba A 0 c 0 0 2 0 w (.returned (.tuple #[.int .i64 0,.int .i64 0,.int .i64 2])) ((w.setCell ⟨Be,0,none⟩ (.int .i64 2)).drewN nq)):=
  Lib.hid fun nq=>⟨rfl,(HT.out.setErr 2).drewN _,(aside_set _).drewN _⟩
 rcases A with _|ad
 ·go_enter Tryz.func337,Tryz.ntmps337
  go_wp2_with (go_at_call 338;refine (F1.out none 0 _ rfl Row.nil (by omega)).mono ?_)
  all_goals
   rintro en w2 ⟨rfl,rfl⟩
   go_wp2
   go_quiet (fail)
   go_wp2
   go_ret3
   exact hfin.out _
 ·go_enter Tryz.func337,Tryz.ntmps337
  go_wp2_with (go_at_call 338;refine (F1.out _ 0 _ rfl Row.nil (by omega)).mono ?_)
  all_goals
   rintro en w2 ⟨rfl,rfl⟩
   go_wp2
   go_quiet (fail)
   go_wp2
   go_ret3
   exact hfin.out _
theorem vint_take_bad (Be Bb Ba:Nat) (A:Option Addr) (m c:Nat) (a:Nat) (most:Int) (l:List UInt8) (w:World) (ht:Taker Be Bb Ba A m c 0 a w) (hr:Row w w.heap.size A (Lib.byteCells l)) (hm:l.length=m) (hc:m≤c) (hcx:c≤maxLen) (ha:a≤m) (hl:m≤400000000000)
  (hbad:(getF (l.drop a)).2=0∨most<((getF (l.drop a)).1:Int)):
  Calls Tryz.prog 337 #[.int .i64 most,.pointer (some ⟨Be,0,none⟩),.pointer (some ⟨Bb,0,none⟩),.pointer (some ⟨Ba,0,none⟩)] w (Took Be Bb Ba A m c 0 0 2 a w):=by
 by_cases h0:l=[]
 ·subst h0
  have hm0:m=0:=by simpa using hm.symm
  have ha0:a=0:=by omega
  subst ha0
  exact take_nil Be Bb Ba A m c most w ht hm0 hcx
 ·obtain ⟨b,off,rfl,_,_⟩:=hr.at_ (by rw [Lib.byteCells_length];exact List.length_pos_iff.2 h0)
  exact take_bad Be Bb Ba b off m c a most l _ _ w ht hr hm hc hcx ha hl rfl hbad
theorem vint_take_good (Be Bb Ba:Nat) (A:Option Addr) (m c:Nat) (a:Nat) (most:Int) (l:List UInt8) (w:World) (ht:Taker Be Bb Ba A m c 0 a w) (hr:Row w w.heap.size A (Lib.byteCells l)) (hm:l.length=m) (hc:m≤c) (hcx:c≤maxLen) (ha:a≤m) (hl:m≤400000000000)
  (hk:(getF (l.drop a)).2≠0) (hmost:((getF (l.drop a)).1:Int)≤most):
  Calls Tryz.prog 337 #[.int .i64 most,.pointer (some ⟨Be,0,none⟩),.pointer (some ⟨Bb,0,none⟩),.pointer (some ⟨Ba,0,none⟩)] w
   (Took Be Bb Ba A m c ((getF (l.drop a)).1:Int) ((a:Int)+((getF (l.drop a)).2:Int)) 0 ((a:Int)+((getF (l.drop a)).2:Int)) w):=by
 have hbd:=getF_bd (l.drop a)
 rw [List.length_drop] at hbd
 obtain ⟨b,off,rfl,_,_⟩:=hr.at_ (by rw [Lib.byteCells_length];omega)
 exact take_good Be Bb Ba b off m c a most l _ _ w ht hr hm hc hcx ha hl rfl (by omega) hmost
def GaveTaker (A:Option Addr) (m c:Nat) (a:Int) (w:World) (e:Ending) (w':World):Prop:=
 e= .returned (.func (.func 337) #[] #[.pointer (some ⟨w.heap.size+2,0,none⟩),.pointer (some ⟨w.heap.size,0,none⟩),.pointer (some ⟨w.heap.size+1,0,none⟩)])∧
 Taker (w.heap.size+2) w.heap.size (w.heap.size+1) A m c (if a<0∨(m:Int)<a then 1 else 0) a w'∧Below w.heap.size w w'∧w'.heap.size=w.heap.size+3
set_option maxHeartbeats 1000000 in
set_option maxRecDepth 100000 in
theorem vint_taker (A:Option Addr) (m c:Nat) (a:Int) (w:World) (hl:m≤400000000000):
  Calls Tryz.prog 336 #[.slice A m c,.int .i64 a] w (GaveTaker A m c a w):=by
 have fin:Hid (∀ x:Int,x=(if a<0∨(m:Int)<a then 1 else 0)→GaveTaker A m c a w
   (.returned (.func (.func 337) #[] #[.pointer (some ⟨w.heap.size+1+1,0,none⟩),.pointer (some ⟨w.heap.size,0,none⟩),.pointer (some ⟨w.heap.size+1,0,none⟩)]))
   (((w.alloc (.cells #[.slice A m c] 231)).alloc (.cells #[.int .i64 a] 3)).alloc (.cells #[.int .i64 x] 38))):=Lib.hid fun x hx=>by
  have s1:(w.alloc (.cells #[.slice A m c] 231)).heap.size=w.heap.size+1:=by simp
  have s2:((w.alloc (.cells #[.slice A m c] 231)).alloc (.cells #[.int .i64 a] 3)).heap.size=w.heap.size+2:=by simp
  refine ⟨rfl,⟨?_,?_,?_⟩,?_,by simp⟩
  ·rw [← hx,← s2]
   exact heap_alloc_new _ _
  ·exact (Below.heap_alloc _ _ _ (by omega)).trans ((Below.heap_alloc _ _ _ (by omega)).trans (heap_alloc_new _ _))
  ·refine (Below.heap_alloc _ _ _ (by omega)).trans ?_
   rw [← s1]
   exact heap_alloc_new _ _
  ·exact (((Below.refl _ w).alloc (Nat.le_refl _) _).alloc (by omega) _).alloc (by omega) _
 by_cases h0:a<0
 ·go_enter Tryz.func336,Tryz.ntmps336
  go_wp2
  go_ret
  exact fin.out 1 (by rw [if_pos (.inl h0)])
 ·by_cases h1:(m:Int)<a
  ·go_enter Tryz.func336,Tryz.ntmps336
   go_wp2
   go_ret
   exact fin.out 1 (by rw [if_pos (.inr h1)])
  ·go_enter Tryz.func336,Tryz.ntmps336
   go_wp2
   go_ret
   exact fin.out 0 (by rw [if_neg (by omega)])
def TookZ (Be Bb Ba:Nat) (A:Option Addr) (m c:Nat) (z:Int × Int × Int) (w:World) (e:Ending) (w':World):Prop:=
 e= .returned (.tuple #[.int .i64 z.1,.int .i64 z.2.1,.int .i64 z.2.2])∧(∃ a',Taker Be Bb Ba A m c z.2.2 a' w'∧(z.2.2=0→a'=z.2.1))∧Aside w.heap.size Be Ba w w'
theorem take_first (Be Bb Ba:Nat) (A:Option Addr) (m c:Nat) (a:Int) (l:List UInt8) (w:World) (ht:Taker Be Bb Ba A m c (if a<0∨(m:Int)<a then 1 else 0) a w) (hr:Row w w.heap.size A (Lib.byteCells l)) (hm:l.length=m) (hc:m≤c) (hcx:c≤maxLen) (hl:m≤400000000000):
  Calls Tryz.prog 337 #[.int .i64 9223372036854775807,.pointer (some ⟨Be,0,none⟩),.pointer (some ⟨Bb,0,none⟩),.pointer (some ⟨Ba,0,none⟩)] w (TookZ Be Bb Ba A m c (getZ l a) w):=by
 by_cases h0:a<0∨(m:Int)<a
 ·rw [if_pos h0] at ht
  rw [getZ_out (by rw [hm];exact h0)]
  refine (take_none Be Bb Ba A m c 1 a _ w ht (by decide)).mono ?_
  rintro e w' ⟨h1,h2,h3⟩
  exact ⟨h1,⟨_,h2,fun h=>absurd h (by decide)⟩,h3⟩
 ·rw [if_neg h0] at ht
  obtain ⟨k,rfl⟩:∃ k:Nat,a=k:=⟨a.toNat,by omega⟩
  have hkm:k≤m:=by omega
  have hbd:=getF_bd (l.drop k)
  by_cases h2:(getF (l.drop k)).2=0
  ·rw [getZ_form (by omega) h2]
   refine (vint_take_bad Be Bb Ba A m c k _ l w ht hr hm hc hcx hkm hl (.inl h2)).mono ?_
   rintro e w' ⟨h1,h2,h3⟩
   exact ⟨h1,⟨_,h2,fun h=>absurd h (by decide)⟩,h3⟩
  ·obtain ⟨j,hj⟩:∃ j,(getF (l.drop k)).2=j+1:=⟨(getF (l.drop k)).2-1,by omega⟩
   rw [getZ_ok (n:=(getF (l.drop k)).1) (k:=j) (by omega) (by rw [← hj]),← hj]
   refine (vint_take_good Be Bb Ba A m c k _ l w ht hr hm hc hcx hkm hl h2 (by omega)).mono ?_
   rintro e w' ⟨h1,h2,h3⟩
   exact ⟨h1,⟨_,h2,fun _=>rfl⟩,h3⟩
set_option maxHeartbeats 1000000 in
set_option maxRecDepth 100000 in
theorem vint_Get (A:Option Addr) (m c:Nat) (a:Int) (l:List UInt8) (w:World) (hr:Row w w.heap.size A (Lib.byteCells l)) (hm:l.length=m) (hc:m≤c) (hcx:c≤maxLen) (hl:m≤400000000000):
  Calls Tryz.prog 334 #[.slice A m c,.int .i64 a] w (GaveZ (getZ l a) w):=by
 have HR:=Lib.hid hr
 clear hr
 obtain ⟨z,hz⟩:∃ z,z=getZ l a:=⟨_,rfl⟩
 rw [← hz]
 have HZ:=Lib.hid hz
 clear hz
 go_enter Tryz.func334,Tryz.ntmps334
 go_wp2_with (go_at_call 336;refine (vint_taker A m c a _ hl).mono ?_)
 rintro en w2 ⟨rfl,ht,hb,hs⟩
 have hr2:=HR.out.below hb
 have t1:=take_first _ _ _ A m c a l w2 ht (hr2.more (by omega)) hm hc hcx hl
 rw [← HZ.out] at t1
 have T1:=Lib.hid t1
 have HB:=Lib.hid hb
 clear t1 hr2 ht hb
 go_wp2_with (go_at_call 337;refine T1.out.mono ?_)
 rintro en w3 ⟨rfl,_,h3⟩
 have hb3:=HB.out.trans (h3.below (by omega) (by omega) (by omega))
 have HB3:=Lib.hid hb3
 clear hb3 h3
 go_wp2
 go_ret3
 exact ⟨rfl,HB3.out⟩
end Go.Proofs.YtldcadpemnpbmaaGreatDoor
