import Derived.Test.YtmoomnpbiifedaaGreatMAQ08
import Derived.Deep.AppendLies
import Derived.Deep.RegionLaw
import Derived.RangeFuncNested
import Derived.RangeFuncBound
import Derived.RangeFuncCalls
import Derived.RangeFuncLeaves
import Derived.RangeFuncBox
import Derived.OwnWalkIn
import Derived.TacticsInMore
import Derived.LoopNIn
import Derived.LoopIn
import Derived.Maps.AppendAt
import Derived.Shelf.Abstract
import Derived.Shelf.RegionOpen
import Derived.Test.YtmoomnpbiifedaaGreatMAQ01
import Derived.Test.YtmoomnpbiifedaaGreatMAQ07
import Derived.RangeFuncOwn
import Derived.Test.YtmoomnpbiifedaaGreatMAQ04
import Derived.Test.YtmoomnpbiifedaaGreatMAQ03
import Derived.Test.YtmoomnpbiifedaaGreatMAQ02
import Derived.BigCall
import Derived.BigQuiet
import Derived.Deep.QuietTactic
set_option linter.unusedVariables false
namespace Go.Proofs.YtmoomnpbiifedaaGreat
open Go Go.RowKit
def Turning (t:TypeId):Prop:=t=113∨t=119∨t=5
structure Mild (base:Nat) (w w':World):Prop where
 below:Below base w w'
 keep:∀ (k:Nat) (o:Obj),w.heap[k]?=some o→(∀ cs t fr,o= .cells cs t fr→¬ Turning t)→w'.heap[k]?=some o
section
variable {base:Nat} {w w' w'':World}
theorem Mild.trans (h:Mild base w w') (k:Mild base w' w''):Mild base w w'':=⟨h.below.trans k.below,fun i o hi ho=>k.keep i o (h.keep i o hi ho) ho⟩
theorem Mild.of_below (h:Below w.heap.size w w') (hb:base≤w.heap.size):Mild base w w':=
 ⟨h.mono hb,fun k o hk _=>by rw [h.block k (Array.getElem?_eq_some_iff.1 hk).1,hk]⟩
theorem Mild.setCell {B i:Nat} {cs:Array Value} {t:TypeId} {fr:Nat × Nat} (h:w.heap[B]?=some (.cells cs t fr)) (ht:Turning t) (hb:base≤B) (v:Value):Mild base w (w.setCell ⟨B,i,none⟩ v):=
  ⟨(Below.refl base w).setCell (p := ⟨B, i, none⟩) hb v, fun k o hk ho => by
    by_cases e:k=B
    · subst e
      rw [h] at hk
      injection hk with hk
      exact absurd ht (ho _ _ _ hk.symm)
    · rw [Below.heap_setCell _ _ _ _ e,hk]⟩
theorem Mild.grown {row:Option Nat} (hg:w.grownBy w' row) (hr:∀ k,row=some k→base≤k∧∃ cs t fr,w.heap[k]?=some (.cells cs t fr)∧Turning t) (hb:base≤w.heap.size):Mild base w w':=
  ⟨(Below.refl base w).grown hg hb (fun k e => (hr k e).1), fun k o hk ho => by
    rw [hg.block k (Array.getElem?_eq_some_iff.1 hk).1 ?_,hk]
    intro e
    obtain ⟨_,cs,t,fr,h1,h2⟩:=hr k e.symm
    rw [h1] at hk
    injection hk with hk
    exact ho _ _ _ hk.symm h2⟩
theorem Mild.keepsOthers (h:Mild base w w'):KeepsOthers w w':=
 ⟨h.below.size,fun k o hk hc=>h.keep k o hk fun cs t fr e=>by subst e;cases hc⟩
theorem owned_type {b:Nat} {e:TypeId} {size n:Nat} {v:Value} {xs:List Value} (h:w.ownsRow b e size v n xs) {g:Nat} (hg:v.ownBlock=some g):∃ cs fr,w.heap[g]?=some (.cells cs e fr):=by
 rcases h.2 with ⟨rfl,_⟩|⟨g',cap,cur,rfl,_,hh,r⟩
 ·cases hg
 ·simp only [Value.ownBlock,Option.some.injEq] at hg
  subst hg
  exact ⟨_,_,hh⟩
theorem Mild.grownOwn {e:TypeId} {size n:Nat} {v:Value} {xs:List Value} (ho:w.ownsRow base e size v n xs) (he:Turning e) (hg:w.grownBy w' v.ownBlock) (hb:base≤w.heap.size):Mild base w w':=
 Mild.grown hg (fun k hk=>⟨(ho.lt k hk).1,by obtain ⟨cs,fr,h⟩:=owned_type ho hk;exact ⟨cs,e,fr,h,he⟩⟩) hb
def RowM (base:Nat) (w:World) (A:Option Addr) (xs:List Value):Prop:=
 xs=[]∨∃ b off,A=some ⟨b,off,none⟩∧b<w.heap.size∧(b<base∨∃ cs t fr,w.heap[b]?=some (.cells cs t fr)∧¬ Turning t)∧∀ j u,xs[j]?=some u→w.cell? ⟨b,off+j,none⟩=some u
theorem RowM.mild {A:Option Addr} {xs:List Value} (h:RowM base w A xs) (hm:Mild base w w'):RowM base w' A xs:=by
 rcases h with h|⟨b,off,e,hlt,hs,hc⟩
 ·exact .inl h
 ·have hblk:w'.heap[b]?=w.heap[b]?:=by
   rcases hs with hs|⟨cs,t,fr,h1,h2⟩
   ·exact hm.below.block b hs
   ·rw [hm.keep b _ h1 (fun cs' t' fr' e=>by cases e;exact h2),h1]
  refine .inr ⟨b,off,e,Nat.lt_of_lt_of_le hlt hm.below.size,hs.imp id (fun ⟨cs,t,fr,h1,h2⟩=>⟨cs,t,fr,hblk.trans h1,h2⟩),fun j u hu=> ?_⟩
  rw [World.cell?_of_block (a:=⟨b,off+j,none⟩) hblk]
  exact hc j u hu
theorem RowM.at_ {A:Option Addr} {xs:List Value} (h:RowM base w A xs) (hn:0<xs.length):∃ b off,A=some ⟨b,off,none⟩∧b<w.heap.size∧∀ j u,xs[j]?=some u→w.cell? ⟨b,off+j,none⟩=some u:=by
 rcases h with rfl|⟨b,off,e,h1,_,h2⟩
 ·simp at hn
 ·exact ⟨b,off,e,h1,h2⟩
theorem RowM.of_row {A:Option Addr} {xs:List Value} (h:Row w base A xs) (hb:base≤w.heap.size):RowM base w A xs:=by
 rcases h with h|⟨b,off,e,h1,h2⟩
 ·exact .inl h
 ·exact .inr ⟨b,off,e,by omega,.inl h1,h2⟩
end
def LMid (w:World) (base B:Nat) (bs:List UInt8) (es:List (Int × Nat)) (many total:Int):Prop:=
 base≤B∧∃ vb ve,w.heap[B]?=some (.cells #[vb,ve,.int .i64 many,.int .i64 total] 113 (0,0))∧
  w.ownsRow base 5 1 vb bs.length (Lib.byteCells bs)∧w.ownsRow base 119 2 ve es.length (endCells es)
theorem lat_mid {w:World} {base B:Nat} {bs:List UInt8} {l:List Po}:LAt w base B bs l↔LMid w base B bs (endsC l (blocksP l.length)) (l.length:Int) (totalP l:Int):=by
 unfold LAt LMid endsV
 rw [endsC_length]
section
variable {w w':World} {base B:Nat} {bs:List UInt8} {es:List (Int × Nat)} {many total:Int}
theorem LMid.lt (h:LMid w base B bs es many total):B<w.heap.size:=by
 obtain ⟨_,vb,ve,hv,_⟩:=h
 exact (Array.getElem?_eq_some_iff.1 hv).1
theorem LMid.below (h:LMid w base B bs es many total) (hb:Below w.heap.size w w'):LMid w' base B bs es many total:=by
 have hl:=h.lt
 obtain ⟨h1,vb,ve,hv,ho,he⟩:=h
 exact ⟨h1,vb,ve,(hb.block B hl).trans hv,owned_below ho hb,owned_below he hb⟩
theorem owned_setCell {b:Nat} {e:TypeId} {size n:Nat} {v:Value} {xs:List Value} (h:w.ownsRow b e size v n xs) {B i:Nat} (hB:v.ownBlock≠some B) (u:Value):(w.setCell ⟨B,i,none⟩ u).ownsRow b e size v n xs:=
 owned_keep h fun g hg=>Below.heap_setCell _ _ _ _ fun e=>hB (by rw [hg,e])
theorem LMid.setMany (h:LMid w base B bs es many total) (m:Int):LMid (w.setCell ⟨B,2,none⟩ (.int .i64 m)) base B bs es m total∧Mild base w (w.setCell ⟨B,2,none⟩ (.int .i64 m)):=by
 obtain ⟨h1,vb,ve,hv,ho,he⟩:=h
 exact ⟨⟨h1,vb,ve,heap_setCell_same w B 2 _ _ _ hv,owned_setCell ho (owned_apart ho hv (by decide)) _,owned_setCell he (owned_apart he hv (by decide)) _⟩,Mild.setCell hv (.inl rfl) h1 _⟩
theorem LMid.setTotal (h:LMid w base B bs es many total) (m:Int):LMid (w.setCell ⟨B,3,none⟩ (.int .i64 m)) base B bs es many m∧Mild base w (w.setCell ⟨B,3,none⟩ (.int .i64 m)):=by
 obtain ⟨h1,vb,ve,hv,ho,he⟩:=h
 exact ⟨⟨h1,vb,ve,heap_setCell_same w B 3 _ _ _ hv,owned_setCell ho (owned_apart ho hv (by decide)) _,owned_setCell he (owned_apart he hv (by decide)) _⟩,Mild.setCell hv (.inl rfl) h1 _⟩
theorem LMid.pushed {vb ve v':Value} {w0 w1:World} {x:Int} {z:Nat} (hB:base≤B) (hv:w.heap[B]?=some (.cells #[vb,ve,.int .i64 many,.int .i64 total] 113 (0,0))) (ho:w.ownsRow base 5 1 vb bs.length (Lib.byteCells bs)) (he:w.ownsRow base 119 2 ve es.length (endCells es))
  (hb:Below w.heap.size w w0) (hg:w0.grownBy w1 ve.ownBlock) (hown:w1.ownsRow base 119 2 v' (es.length+1) (endCells es++[.int .i64 x,.int .i64 (z:Int)])):
  w1.heap[B]?=some (.cells #[vb,ve,.int .i64 many,.int .i64 total] 113 (0,0))∧LMid (w1.setCell ⟨B,1,none⟩ v') base B bs (es++[(x,z)]) many total∧Mild base w (w1.setCell ⟨B,1,none⟩ v'):=by
 have hlt:B<w.heap.size:=(Array.getElem?_eq_some_iff.1 hv).1
 have hv0:=(hb.block B hlt).trans hv
 have he0:=owned_below he hb
 have ho0:=owned_below ho hb
 have hv1:w1.heap[B]?=some (.cells #[vb,ve,.int .i64 many,.int .i64 total] 113 (0,0)):=(hg.block B (by have :=hb.size;omega) (fun e=>owned_apart he0 hv0 (by decide) e.symm)).trans hv0
 have ho1:w1.ownsRow base 5 1 vb bs.length (Lib.byteCells bs):=owned_keep ho0 fun g hg'=>hg.block g (ho0.lt g hg').2 fun e=>owned_apart2 he0 ho0 (by decide) hg' e.symm
 refine ⟨hv1,⟨hB,vb,v',heap_setCell_same w1 B 1 _ _ _ hv1,owned_setCell ho1 (owned_apart ho1 hv1 (by decide)) _,?_⟩,?_⟩
 ·refine owned_setCell ?_ (owned_apart hown hv1 (by decide)) _
  rw [endCells_append,List.length_append,List.length_singleton]
  exact hown
 ·have hbw:base≤w.heap.size:=by omega
  exact (Mild.of_below hb hbw).trans ((Mild.grownOwn he0 (.inr (.inl rfl)) hg (by have :=hb.size;omega)).trans (Mild.setCell hv1 (.inl rfl) hB _))
end
end Go.Proofs.YtmoomnpbiifedaaGreat
set_option linter.unusedVariables false
namespace Go.Proofs.YtmoomnpbiifedaaGreat
open Go Go.RowKit
def Told {α:Type} (n:Nat) (P:Program) (g:Nat) (lb:Array Value) (encs:α→Array Value) (Kp:World→World→Prop) (Ok:List α→α→World→Prop) (S:List α→Prop) (w:World):Prop:=
 ∀ (l:Nat) (J:List α→World→Prop) (W:World),Below w.heap.size w W→(∀ s A B,J s A→Below A.heap.size A B→J s B)→
  (∀ pre x W1,J pre W1→Ok pre x W1→YieldAt Fence.wide (n-1) P l (encs x) W1 fun e W'=>e= .returned (.bool true)∧J (pre++[x]) W'∧Kp W1 W')→
  J [] W→CallsIn Fence.wide n P g (#[.func (.yield l) #[] #[]]++lb) W fun e W'=>(∃ v,e= .returned v)∧∃ xs,S xs∧J xs W'
def Firm (B:Nat) (p:World→Prop):Prop:=∀ W l (o o':Obj),B≤l→W.heap[l]?=some o→o.isCells=false→p W→p (W.putObj l o')
variable {n:Nat} {P:Program}
theorem wpIn_range_told {α:Type} {g:Operand} {ps:Array Tmp} {assign body:Code} {Q:Exit→Act→World→Prop} {a:Act} {w:World} (h1:1≤n) {gf:Nat} {lb:Array Value} (hg:a.eval g= .func (.func gf) #[] lb)
  (eg:∀ args w,(callFunc gf args).run P w= .ok (.enter gf args) w) {encs:α→Array Value} {Kp:World→World→Prop} {Ok:List α→α→World→Prop} {S:List α→Prop} (hseq:Told (n-1) P gf lb encs Kp Ok S w)
  (hKt:∀ {A B C:World},Kp A B→Kp B C→Kp A C) (hKp:∀ (W:World) (l:Nat) (o o':Obj),w.heap.size≤l→W.heap[l]?=some o→o.isCells=false→Kp W (W.putObj l o')) (hps:∀ x,(encs x).size=ps.size)
  (I:List α→World→Prop) (hIb:∀ s A B,I s A→Below A.heap.size A B→I s B) (hIp:∀ s,Firm w.heap.size (I s)) (hOk:∀ s x,Firm w.heap.size (Ok s x)) (h0:I [] w) (a₁:α→Act)
  (hassign:∀ (l:Nat) (x:α) (W:World) (K:Act→World→Prop),K (a₁ x) W→assign.wpIn (Fence.wide.inRound l) (n-1-1) P (Exit.then K (fun _ _ _=>False)) {tmps:=(ps.zip (encs x)).foldl (fun t (p,v)=>t.setIfInBounds p v) a.tmps,defers:=[]} W)
  (hbody:∀ (l:Nat) (pre:List α) (x:α) (W:World),I pre W→Ok pre x W→body.wpIn (Fence.wide.inRound l) (n-1-1) P (ownPostK Kp I (fun _ _ _=>False) (pre++[x]) W) (a₁ x) W)
  (hdone:∀ (D:Nat) (xs:List α) (W:World),w.heap.size≤D→S xs→I xs W→W.heap[D]?=some (.deferred (some []))→Q .normal {a with defers:={target:= .collected D,args:=#[]}::a.defers} W):
  (Code.rangeFunc g ps assign body).wpIn Fence.wide n P Q a w:=by
 refine wpIn_rangeFunc fun fn hfn=> ?_
 have enter:=run_enterLoop_outer (P:=P) (w:=w) fn a.tmps ps assign body
 obtain ⟨D,hD⟩:∃ D,D=w.heap.size:=⟨_,rfl⟩
 obtain ⟨st,hst⟩:∃ st:LoopState→Loop,st=fun s=>{state:=s,pending:=none,fn:=fn,tmps:=a.tmps,params:=ps,assign:=assign,body:=body,defers:=w.heap.size}:=⟨_,rfl⟩
 obtain ⟨V,hV⟩:∃ V,V=(w.alloc (.deferred (some []))).alloc (.loop (st .ready)):=⟨_,rfl⟩
 have enter':(Instr.enterLoop fn a.tmps ps assign body Fence.wide.round).run P w= .ok (D+1,[{target:= .collected D,args:=#[]}]) V:=by rw [hV,hst,hD];exact enter
 have bel:Below w.heap.size w V:=by rw [hV];exact ((Below.refl _ w).alloc (Nat.le_refl _) _).alloc (by simp) _
 have hdV:V.heap[D]?=some (.deferred (some [])):=by rw [hV,hD];exact (Below.heap_alloc _ _ _ (by simp)).trans (World.alloc_heap_new w _)
 have hlV:V.heap[D+1]?=some (.loop (st .ready)):=by
  have :=World.alloc_heap_new (w.alloc (.deferred (some []))) (.loop (st .ready))
  rwa [World.size_alloc,← hV,← hD] at this
 have stay:∀ (s:List α) (A B:World),(I s A∧A.heap[D+1]?=some (.loop (st .ready))∧A.heap[D]?=some (.deferred (some [])))→Below A.heap.size A B→(I s B∧B.heap[D+1]?=some (.loop (st .ready))∧B.heap[D]?=some (.deferred (some []))):=by
  rintro s A B ⟨i1,i2,i3⟩ hb
  exact ⟨hIb s A B i1 hb,(hb.block _ (Array.getElem?_eq_some_iff.1 i2).1).trans i2,(hb.block _ (Array.getElem?_eq_some_iff.1 i3).1).trans i3⟩
 have round:∀ (pre:List α) (x:α) (A:World),(I pre A∧A.heap[D+1]?=some (.loop (st .ready))∧A.heap[D]?=some (.deferred (some [])))→Ok pre x A→
   YieldAt Fence.wide (n-1-1) P (D+1) (encs x) A fun e B=>e= .returned (.bool true)∧(I (pre++[x]) B∧B.heap[D+1]?=some (.loop (st .ready))∧B.heap[D]?=some (.deferred (some [])))∧Kp A B:=by
  rintro pre x A ⟨i1,i2,i3⟩ hx
  have hl:D+1<A.heap.size:=(Array.getElem?_eq_some_iff.1 i2).1
  have y:=run_yield (P:=P) (args:=encs x) i2 (by rw [hst];exact hps x)
  have beg:=run_beginRound (P:=P) i2 (by rw [hst])
  rw [hst] at y
  refine ⟨fn,_,assign,body,y,roundIn_of_wpIn hfn (hassign _ x A _ ⟨_,beg,?_⟩)⟩
  obtain ⟨A1,hA1⟩:∃ A1,A1=A.putObj (D+1) (.loop {st .ready with state:= .busy}):=⟨_,rfl⟩
  rw [← hA1]
  have l1:A1.heap[D+1]?=some (.loop {st .ready with state:= .busy}):=by rw [hA1];exact World.putObj_heap_same hl
  have d1:A1.heap[D]?=some (.deferred (some [])):=by rw [hA1];exact (World.putObj_heap_other (by omega)).trans i3
  have k1:Kp A A1:=by rw [hA1];exact hKp A _ _ _ (by omega) i2 rfl
  have b1:=hbody (D+1) pre x A1 (by rw [hA1];exact hIp pre A _ _ _ (by omega) i2 rfl i1) (by rw [hA1];exact hOk pre x A _ _ _ (by omega) i2 rfl hx)
  refine wpIn_mono b1 ?_
  rintro ex a2 A2 hp
  cases ex with
  |normal=>
   obtain ⟨ko,k2,i4⟩:=hp
   have l2:=ko.same _ _ l1 rfl
   have d2:=ko.same _ _ d1 rfl
   have fin:=run_endRound (P:=P) none l2
   have hl2:D+1<A2.heap.size:=(Array.getElem?_eq_some_iff.1 l2).1
   refine ⟨_,_,fin,rfl,⟨hIp _ A2 _ _ _ (by omega) l2 rfl i4,?_,(World.putObj_heap_other (by omega)).trans d2⟩,hKt (hKt k1 k2) (hKp A2 _ _ _ (by omega) l2 rfl)⟩
   rw [World.putObj_heap_same hl2,hst]
   rfl
  |ret=>exact hp.2.elim
  |exit id=>exact hp.2.elim
  |goto t=>exact hp.2.elim
  |panic c=>exact hp.elim
  |outgrown=>exact hp.elim
 refine ⟨D+1,_,V,{target:= .fn (.func gf) lb,args:=#[.func (.yield (D+1)) #[] #[]]},V,gf,#[.func (.yield (D+1)) #[] #[]]++lb,V,enter',?_,?_,?_,fun _=>h1,?_⟩
 ·simp only [resolve,hg]
  simp [go_sem]
 ·intro f' _
  trivial
 ·simp [invoke,go_sem,eg]
 ·refine (hseq (D+1) _ V bel stay round ⟨hIb [] w V h0 bel,hlV,hdV⟩).mono ?_
  rintro e A ⟨⟨v,rfl⟩,xs,hS,i1,i2,i3⟩
  have fin:=run_endLoop (P:=P) i2 (by rw [hst];simp)
  rw [hst] at fin
  refine ⟨none,_,fin,hdone D xs _ (by omega) hS (hIp xs A _ _ _ (by omega) i2 rfl i1) ((World.putObj_heap_other (by omega)).trans i3)⟩
end Go.Proofs.YtmoomnpbiifedaaGreat
set_option linter.unusedVariables false
namespace Go.Proofs.YtmoomnpbiifedaaGreat
open Go Go.RowKit
def PoK (t:TypeId):Prop:=t=63∨t=3
structure KeptG (b0:Nat) (w w':World):Prop where
 size:w.heap.size≤w'.heap.size
 low:∀ k,k<b0→w'.heap[k]?=w.heap[k]?
 kinds:∀ (k:Nat) (cs:Array Value) (t:TypeId) (fr:Nat × Nat),w.heap[k]?=some (.cells cs t fr)→PoK t→w'.heap[k]?=some (.cells cs t fr)
section
variable {b0 base:Nat} {w w' w'':World} {A:Option Addr} {xs:List Value} {t:TypeId}
theorem KeptG.trans (h:KeptG b0 w w') (k:KeptG b0 w' w''):KeptG b0 w w'':=⟨Nat.le_trans h.size k.size,fun i hi=>(k.low i hi).trans (h.low i hi),fun i cs t fr hi ht=>k.kinds i cs t fr (h.kinds i cs t fr hi ht) ht⟩
theorem KeptG.of_below (hb:Below w.heap.size w w') (h0:b0≤w.heap.size):KeptG b0 w w':=⟨hb.size,fun k hk=>hb.block k (by omega),fun k cs t fr hk _=>(hb.block k (Array.getElem?_eq_some_iff.1 hk).1).trans hk⟩
theorem KeptG.setCell {P o:Nat} {cs:Array Value} {fr:Nat × Nat} (hP:w.heap[P]?=some (.cells cs t fr)) (h0:b0≤P) (ht:¬ PoK t) (v:Value):KeptG b0 w (w.setCell ⟨P,o,none⟩ v):=
 ⟨by simp,fun k hk=>Below.heap_setCell _ _ _ _ (by show k≠P;omega),fun k cs' t' fr' hk ht'=>(Below.heap_setCell _ _ _ _ (by rintro rfl;rw [hP] at hk;injection hk with hk;injection hk with _ e _;subst e;exact ht ht')).trans hk⟩
theorem KeptG.grown {E:TypeId} {size n:Nat} {v:Value} (hv:w.ownsRow base E size v n xs) (h0:b0≤base) (hE:¬ PoK E) (hg:w.grownBy w' v.ownBlock) (hs:base≤w.heap.size):KeptG b0 w w':=
 ⟨hg.size,fun k hk=>hg.block k (by omega) (fun e=>by have :=(hv.lt k e.symm).1;omega),fun k cs t fr hk ht=>(hg.block k (Array.getElem?_eq_some_iff.1 hk).1 (fun e=>owned_apart hv hk (fun e=>hE (e▸ht)) e.symm)).trans hk⟩
def RowG (b0:Nat) (t:TypeId) (w:World) (A:Option Addr) (xs:List Value):Prop:=xs=[]∨∃ b off,A=some ⟨b,off,none⟩∧b<w.heap.size∧(b<b0∨∃ cs fr,w.heap[b]?=some (.cells cs t fr))∧∀ j u,xs[j]?=some u→w.cell? ⟨b,off+j,none⟩=some u
theorem RowG.keep (h:RowG b0 t w A xs) (ht:PoK t) (hk:KeptG b0 w w'):RowG b0 t w' A xs:=by
 rcases h with h|⟨b,off,e,hb,hc,hx⟩
 ·exact .inl h
 ·have hblk:w'.heap[b]?=w.heap[b]?:=by
   rcases hc with hc|⟨cs,fr,hc⟩
   ·exact hk.low b hc
   ·rw [hk.kinds b cs t fr hc ht,hc]
  exact .inr ⟨b,off,e,Nat.lt_of_lt_of_le hb hk.size,hc.imp id fun ⟨cs,fr,hc⟩=>⟨cs,fr,by rw [hblk,hc]⟩,fun j u hu=>by rw [World.cell?_of_block (a:=⟨b,off+j,none⟩) hblk];exact hx j u hu⟩
theorem RowG.row (h:RowG b0 t w A xs):Row w w.heap.size A xs:=by
 rcases h with h|⟨b,off,e,hb,_,hx⟩
 ·exact .inl h
 ·exact .inr ⟨b,off,e,hb,hx⟩
theorem RowG.of_old (h:Row w b0 A xs) (h0:b0≤w.heap.size):RowG b0 t w A xs:=by
 rcases h with h|⟨b,off,e,hb,hx⟩
 ·exact .inl h
 ·exact .inr ⟨b,off,e,by omega,.inl hb,hx⟩
theorem RowG.of_own {size n c:Nat} (h:w.ownsRow base t size (.slice A n c) n xs):RowG b0 t w A xs:=by
 rcases h.2 with ⟨hv,hn⟩|⟨g,cap,cur,hv,hg,hh,_⟩
 ·exact .inl (List.eq_nil_of_length_eq_zero (by rw [h.1,hn];simp))
 ·injection hv with h1 h2 h3
  subst h1
  rcases owned_row_of h with h0|⟨b,off,e,hb,hc⟩
  ·exact .inl h0
  ·injection e with e
   injection e with e1 e2
   subst e1 e2
   exact .inr ⟨g,0,rfl,hb,.inr ⟨_,_,hh⟩,hc⟩
theorem RowG.of_safe (h:RowS 0 w A xs):RowG b0 3 w A xs:=by
 rcases h with h|⟨b,off,e,⟨h1,h2⟩,hc⟩
 ·exact .inl h
 ·exact .inr ⟨b,off,e,h1,.inr (h2.resolve_left (Nat.not_lt_zero _)),hc⟩
def PostsG (b0:Nat) (w:World) (A:Option Addr) (l:List Pn):Prop:=∃ cs,PoCells (RowG b0 3 w) l cs∧RowG b0 63 w A cs
theorem PostsG.keep {l:List Pn} (h:PostsG b0 w A l) (hk:KeptG b0 w w'):PostsG b0 w' A l:=by
 obtain ⟨cs,h1,h2⟩:=h
 exact ⟨cs,h1.imp fun _ _ h=>h.keep (.inr rfl) hk,h2.keep (.inl rfl) hk⟩
theorem PostsG.posts {l:List Pn} (h:PostsG b0 w A l):Posts w w.heap.size A l:=by
 obtain ⟨cs,h1,h2⟩:=h
 exact ⟨cs,h1.imp fun _ _ h=>h.row,h2.row⟩
theorem PostsG.of_old {l:List Pn} (h:Posts w b0 A l) (h0:b0≤w.heap.size):PostsG b0 w A l:=by
 obtain ⟨cs,h1,h2⟩:=h
 exact ⟨cs,h1.imp fun _ _ h=> .of_old h h0,.of_old h2 h0⟩
theorem PostsG.of_new {b:Nat} {v:Value} {l:List Pn} (h:NewPo b w v l):∃ A c,v= .slice A l.length c∧(l.length≤c∧c≤maxLen)∧PostsG b0 w A l:=by
 obtain ⟨cs,h1,h2⟩:=h
 obtain ⟨A,c,rfl,hc,hr⟩:=owned_roomed h1
 exact ⟨A,c,rfl,hc,cs,h2.imp fun _ _ h=> .of_safe h.1,.of_own h1⟩
def LG (b0:Nat) (w:World) (ls:List (List Pn)) (cs:List Value):Prop:=cs.length=ls.length∧∀ i (h:i<ls.length),∃ A c,cs[i]?=some (.slice A ls[i].length c)∧(ls[i].length≤c∧c≤maxLen)∧PostsG b0 w A ls[i]
theorem LG.nil:LG b0 w [] []:=⟨rfl,fun i h=>by simp at h⟩
theorem LG.keep {ls:List (List Pn)} {cs:List Value} (h:LG b0 w ls cs) (hk:KeptG b0 w w'):LG b0 w' ls cs:=⟨h.1,fun i hi=>by obtain ⟨A,c,h1,h2,h3⟩:=h.2 i hi;exact ⟨A,c,h1,h2,h3.keep hk⟩⟩
theorem LG.cells {ls:List (List Pn)} {cs:List Value} (h:LG b0 w ls cs):LCells w w.heap.size ls cs:=⟨h.1,fun i hi=>by obtain ⟨A,c,h1,h2,h3⟩:=h.2 i hi;exact ⟨A,c,h1,h2,h3.posts⟩⟩
theorem LG.snoc {ls:List (List Pn)} {cs:List Value} (h:LG b0 w ls cs) {l:List Pn} {A:Option Addr} {c:Nat} (hc:l.length≤c∧c≤maxLen) (hp:PostsG b0 w A l):LG b0 w (ls++[l]) (cs++[.slice A l.length c]):=by
 refine ⟨by simp [h.1],fun i hi=> ?_⟩
 by_cases hlt:i<ls.length
 ·obtain ⟨A',c',h1,h2,h3⟩:=h.2 i hlt
  rw [List.getElem_append_left hlt,List.getElem?_append_left (by rw [h.1];exact hlt)]
  exact ⟨A',c',h1,h2,h3⟩
 ·have hi':i<ls.length+1:=by simpa using hi
  have e:i=ls.length:=by omega
  subst e
  have e1:(ls++[l])[ls.length]'(by simp)=l:=by simp
  have e2:(cs++[Value.slice A l.length c])[ls.length]?=some (.slice A l.length c):=by rw [← h.1];simp
  rw [e1]
  exact ⟨A,c,e2,hc,hp⟩
theorem owned_beside {b1 b2:Nat} {E1 E2:TypeId} {s1 s2 n1 n2:Nat} {v1 v2:Value} {xs1 xs2:List Value} (h1:w.ownsRow b1 E1 s1 v1 n1 xs1) (h2:w.ownsRow b2 E2 s2 v2 n2 xs2) (hE:E2≠E1) (hg:w.grownBy w' v2.ownBlock):w'.ownsRow b1 E1 s1 v1 n1 xs1:=
 owned_keep h1 fun g hu=>hg.block g (h1.lt g hu).2 fun e=>owned_apart2 h2 h1 hE hu e.symm
end
theorem info_lists:(Tryz.prog.info? 58).map (fun i=>(i.zero,i.size,i.bytes))=some (some (.slice none 0 0),1,24):=by kernel_rfl
structure GatK (T:TypeId) (b0 base:Nat) (P:Nat) (v1 v2 v3 v4:Value) (ks:List Nm) (ls:List (List Pn)) (w:World):Prop where
 cells:w.heap[P]?=some (.cells #[v1,v2,v3,v4] T (0,0))
 le:b0≤P
 hbase:b0≤base
 size:base≤w.heap.size
 keys:w.ownsRow base 9 1 v3 ks.length (strs ks)
 lists:∃ cs,w.ownsRow base 58 1 v4 ls.length cs∧LG b0 w ls cs
section
variable {T:TypeId} {b0 base P:Nat} {v1 v2 v3 v4:Value} {ks:List Nm} {ls:List (List Pn)} {w w':World}
theorem four10 {x y z u:Value} {t:TypeId} {b:Nat} (h:w.heap[b]?=some (.cells #[x,y,z,u] t (0,0))):
  (w.cell? ⟨b,0,none⟩=some x∧w.cell? ⟨b,1,none⟩=some y∧w.cell? ⟨b,2,none⟩=some z∧w.cell? ⟨b,3,none⟩=some u)∧
   w.frozen? ⟨b,0,none⟩=false∧w.frozen? ⟨b,1,none⟩=false∧w.frozen? ⟨b,2,none⟩=false∧w.frozen? ⟨b,3,none⟩=false:=by
 simp [World.cell?,World.frozen?,h]
theorem GatK.lt (h:GatK T b0 base P v1 v2 v3 v4 ks ls w):P<w.heap.size:=(Array.getElem?_eq_some_iff.1 h.cells).1
theorem GatK.below (h:GatK T b0 base P v1 v2 v3 v4 ks ls w) (hb:Below w.heap.size w w'):GatK T b0 base P v1 v2 v3 v4 ks ls w':=by
 have hlt:=h.lt
 obtain ⟨h1,h2,h3,h4,h5,cs,h6,h7⟩:=h
 exact ⟨(hb.block P hlt).trans h1,h2,h3,Nat.le_trans h4 hb.size,owned_below h5 hb,cs,owned_below h6 hb,h7.keep (.of_below hb (by omega))⟩
theorem GatK.key (h:GatK T b0 base P v1 v2 v3 v4 ks ls w) (hT:¬ PoK T) (hT1:T≠9) (hT2:T≠58) {v':Value} {k:Nm} (hown:w'.ownsRow base 9 1 v' (ks.length+1) (strs ks++[.string ⟨k.toArray⟩])) (hg:w.grownBy w' v3.ownBlock):
  w'.heap[P]?=some (.cells #[v1,v2,v3,v4] T (0,0))∧GatK T b0 base P v1 v2 v' v4 (ks++[k]) ls (w'.setCell ⟨P,2,none⟩ v')∧Below b0 w (w'.setCell ⟨P,2,none⟩ v')∧KeepsOthers w (w'.setCell ⟨P,2,none⟩ v')∧∀ (k:Nat) (cs:Array Value) (t:TypeId) (fr:Nat × Nat),k≠P→w.heap[k]?=some (.cells cs t fr)→t≠9→(w'.setCell ⟨P,2,none⟩ v').heap[k]?=some (.cells cs t fr):=by
 have hlt:=h.lt
 obtain ⟨h1,h2,h3,h4,h5,cs,h6,h7⟩:=h
 have hP:w'.heap[P]?=some (.cells #[v1,v2,v3,v4] T (0,0)):=(hg.block P hlt (fun e=>owned_apart h5 h1 hT1 e.symm)).trans h1
 have hk1:KeptG b0 w w':=KeptG.grown h5 h3 (by unfold PoK;decide) hg h4
 have hk2:KeptG b0 w' (w'.setCell ⟨P,2,none⟩ v'):=KeptG.setCell hP h2 hT v'
 refine ⟨hP,⟨by simpa using heap_setCell_same w' P 2 _ _ v' hP,h2,h3,by have :=hk1.size;simp;omega,?_,cs,?_,h7.keep (hk1.trans hk2)⟩,(((Below.refl b0 w).grown hg (Nat.le_trans h3 h4) fun k hk=>by have :=(h5.lt k hk).1;omega).setCell (p:=⟨P,2,none⟩) h2 v'),(KeepsOthers.of_grownBy hg fun j o ej hj=>by
   obtain ⟨cs',fr',hh⟩:=owned_type h5 ej
   rw [hh] at hj;injection hj with hj;rw [← hj];rfl).trans (KeepsOthers.setCell _ _ _),fun k cs' t fr hkP hk ht=>(Below.heap_setCell _ _ _ _ (show k≠P from hkP)).trans ((hg.block k (Array.getElem?_eq_some_iff.1 hk).1 (fun e=>owned_apart h5 hk ht e.symm)).trans hk)⟩
 ·rw [List.length_append,List.length_singleton]
  have :=owned_keep (w':=w'.setCell ⟨P,2,none⟩ v') hown fun g hg'=>Below.heap_setCell _ _ _ _ (fun e=>owned_apart hown hP hT1 (by rw [hg',e]))
  simpa [strs] using this
 ·have h6':=owned_beside h6 h5 (by decide) hg
  exact owned_keep h6' fun g hg'=>Below.heap_setCell _ _ _ _ (fun e=>owned_apart h6' hP hT2 (by rw [hg',e]))
theorem GatK.list (h:GatK T b0 base P v1 v2 v3 v4 ks ls w) (hT:¬ PoK T) (hT1:T≠9) (hT2:T≠58) {v':Value} {l:List Pn} {A:Option Addr} {c:Nat} (hc:l.length≤c∧c≤maxLen) (hp:PostsG b0 w A l) {cs:List Value} (h6:w.ownsRow base 58 1 v4 ls.length cs) (h7:LG b0 w ls cs)
  (hown:w'.ownsRow base 58 1 v' (ls.length+1) (cs++[.slice A l.length c])) (hg:w.grownBy w' v4.ownBlock):
  w'.heap[P]?=some (.cells #[v1,v2,v3,v4] T (0,0))∧GatK T b0 base P v1 v2 v3 v' ks (ls++[l]) (w'.setCell ⟨P,3,none⟩ v')∧Below b0 w (w'.setCell ⟨P,3,none⟩ v')∧KeepsOthers w (w'.setCell ⟨P,3,none⟩ v')∧∀ (k:Nat) (cs:Array Value) (t:TypeId) (fr:Nat × Nat),k≠P→w.heap[k]?=some (.cells cs t fr)→t≠58→(w'.setCell ⟨P,3,none⟩ v').heap[k]?=some (.cells cs t fr):=by
 have hlt:=h.lt
 obtain ⟨h1,h2,h3,h4,h5,_⟩:=h
 have hP:w'.heap[P]?=some (.cells #[v1,v2,v3,v4] T (0,0)):=(hg.block P hlt (fun e=>owned_apart h6 h1 hT2 e.symm)).trans h1
 have hk1:KeptG b0 w w':=KeptG.grown h6 h3 (by unfold PoK;decide) hg h4
 have hk2:KeptG b0 w' (w'.setCell ⟨P,3,none⟩ v'):=KeptG.setCell hP h2 hT v'
 refine ⟨hP,⟨by simpa using heap_setCell_same w' P 3 _ _ v' hP,h2,h3,by have :=hk1.size;simp;omega,?_,cs++[.slice A l.length c],?_,(h7.snoc hc hp).keep (hk1.trans hk2)⟩,(((Below.refl b0 w).grown hg (Nat.le_trans h3 h4) fun k hk=>by have :=(h6.lt k hk).1;omega).setCell (p:=⟨P,3,none⟩) h2 v'),(KeepsOthers.of_grownBy hg fun j o ej hj=>by
   obtain ⟨cs',fr',hh⟩:=owned_type h6 ej
   rw [hh] at hj;injection hj with hj;rw [← hj];rfl).trans (KeepsOthers.setCell _ _ _),fun k cs' t fr hkP hk ht=>(Below.heap_setCell _ _ _ _ (show k≠P from hkP)).trans ((hg.block k (Array.getElem?_eq_some_iff.1 hk).1 (fun e=>owned_apart h6 hk ht e.symm)).trans hk)⟩
 ·have h5':=owned_beside h5 h6 (by decide) hg
  exact owned_keep h5' fun g hg'=>Below.heap_setCell _ _ _ _ (fun e=>owned_apart h5' hP hT1 (by rw [hg',e]))
 ·rw [List.length_append,List.length_singleton]
  exact owned_keep hown fun g hg'=>Below.heap_setCell _ _ _ _ (fun e=>owned_apart hown hP hT2 (by rw [hg',e]))
theorem GatK.firm {N:Nat} (hN:b0≤N):Firm N (fun W=>GatK T b0 base P v1 v2 v3 v4 ks ls W):=fun W l o o' hl ho hc h=>by
 obtain ⟨h1,h2,h3,h4,h5,cs,h6,h7⟩:=h
 have hk:∀ (k:Nat) (cs:Array Value) (t:TypeId) (fr:Nat × Nat),W.heap[k]?=some (.cells cs t fr)→(W.putObj l o').heap[k]?=some (.cells cs t fr):=fun k cs t fr hk=>(World.putObj_heap_other (by rintro rfl;rw [ho] at hk;injection hk with hk;rw [hk] at hc;cases hc)).trans hk
 have hkg:KeptG b0 W (W.putObj l o'):=⟨by simp,fun k hk=>World.putObj_heap_other (by omega),fun k cs t fr h _=>hk k cs t fr h⟩
 have hown:∀ {E:TypeId} {s n:Nat} {v:Value} {xs:List Value},W.ownsRow base E s v n xs→(W.putObj l o').ownsRow base E s v n xs:=fun h=>owned_keep h fun g hg=>by
  obtain ⟨cs',fr',hh⟩:=owned_type h hg
  rw [hh,hk _ _ _ _ hh]
 exact ⟨hk _ _ _ _ h1,h2,h3,by simpa using h4,hown h5,cs,hown h6,h7.keep hkg⟩
theorem GatK.rows {A3 A4:Option Addr} {n3 c3 n4 c4:Nat} (h:GatK T b0 base P v1 v2 (.slice A3 n3 c3) (.slice A4 n4 c4) ks ls w):Row w w.heap.size A3 (strs ks)∧LPosts w w.heap.size A4 ls:=by
 obtain ⟨_,_,_,_,h5,cs,h6,h7⟩:=h
 exact ⟨owned_row_of h5,cs,h7.cells,owned_row_of h6⟩
theorem GatK.setOther (h:GatK T b0 base P v1 v2 v3 v4 ks ls w) {R o:Nat} {cs:Array Value} {t:TypeId} {fr:Nat × Nat} (hR:w.heap[R]?=some (.cells cs t fr)) (h0:b0≤R) (hne:R≠P) (ht:¬ PoK t) (ht1:t≠9) (ht2:t≠58) (v:Value):GatK T b0 base P v1 v2 v3 v4 ks ls (w.setCell ⟨R,o,none⟩ v):=by
 obtain ⟨h1,h2,h3,h4,h5,cs',h6,h7⟩:=h
 exact ⟨(Below.heap_setCell _ _ _ _ (show P≠R from Ne.symm hne)).trans h1,h2,h3,by simpa using h4,owned_keep h5 fun g hg=>Below.heap_setCell _ _ _ _ (fun e=>owned_apart h5 hR ht1 (by rw [hg,e])),cs',
  owned_keep h6 fun g hg=>Below.heap_setCell _ _ _ _ (fun e=>owned_apart h6 hR ht2 (by rw [hg,e])),h7.keep (KeptG.setCell hR h0 ht v)⟩
theorem GatK.read (h:GatK T b0 base P v1 v2 v3 v4 ks ls w):∃ A3 c3 A4 c4,v3= .slice A3 ks.length c3∧v4= .slice A4 ls.length c4∧ks.length≤c3∧ls.length≤c4∧Row w w.heap.size A3 (strs ks)∧LPosts w w.heap.size A4 ls:=by
 obtain ⟨_,_,_,_,h5,cs,h6,h7⟩:=h
 obtain ⟨A3,c3,rfl,hc3,hr3⟩:=owned_row h5
 obtain ⟨A4,c4,rfl,hc4,hr4⟩:=owned_row h6
 exact ⟨A3,c3,A4,c4,rfl,rfl,hc3,hc4,hr3,cs,h7.cells,hr4⟩
end
end Go.Proofs.YtmoomnpbiifedaaGreat
set_option linter.unusedVariables false
namespace Go.Proofs.YtmoomnpbiifedaaGreat
open Go Go.RowKit
abbrev OnlyAt (C:Nat):=OnlyIn (fun k=>k=C)
def Kept (p:Prop × Nat) (k:Nat) (t:TypeId):Prop:=t=5∨t=119∨t=63∨(p.1∧p.2≤k∧t=3)
structure Soft (p:Prop × Nat) (X:Nat→Prop) (w w':World):Prop where
 os:w'.os=w.os
 tape:w'.tape=w.tape
 output:w'.output=w.output
 size:w.heap.size≤w'.heap.size
 block:∀ k,k<w.heap.size→w'.heap[k]?=w.heap[k]?∨(¬ X k∧∃ o,w.heap[k]?=some o∧∀ cs t fr,o= .cells cs t fr→¬ Kept p k t)
section
variable {p:Prop × Nat} {X:Nat→Prop} {w w' w'':World}
theorem Soft.kept (h:Soft p X w w') {k:Nat} {cs:Array Value} {t:TypeId} {fr:Nat × Nat} (ho:w.heap[k]?=some (.cells cs t fr)) (ht:Kept p k t):w'.heap[k]?=some (.cells cs t fr):=by
 rcases h.block k (Array.getElem?_eq_some_iff.1 ho).1 with h1|⟨_,o,h2,h3⟩
 ·exact h1.trans ho
 ·rw [ho] at h2
  injection h2 with h2
  exact absurd ht (h3 _ _ _ h2.symm)
end
end Go.Proofs.YtmoomnpbiifedaaGreat
set_option linter.unusedVariables false
namespace Go.Proofs.YtmoomnpbiifedaaGreat
open Go Go.RowKit
structure GatI (T:TypeId) (b0 base P:Nat) (v1 v2:Value) (xs ys:List Int) (w:World):Prop where
 cells:w.heap[P]?=some (.cells #[v1,v2,.slice none 0 0,.slice none 0 0] T (0,0))
 le:b0≤P
 hbase:b0≤base
 size:base≤w.heap.size
 ids:w.ownsRow base 3 1 v1 xs.length (ints xs)
 seqs:w.ownsRow base 3 1 v2 ys.length (ints ys)
 apart:∀ g,v1.ownBlock=some g→v2.ownBlock≠some g
section
variable {T:TypeId} {b0 base P:Nat} {v1 v2:Value} {xs ys:List Int} {w w':World}
theorem GatI.lt (h:GatI T b0 base P v1 v2 xs ys w):P<w.heap.size:=(Array.getElem?_eq_some_iff.1 h.cells).1
theorem GatI.keep (h:GatI T b0 base P v1 v2 xs ys w) (hk:∀ k,k<w.heap.size→k=P∨v1.ownBlock=some k∨v2.ownBlock=some k→w'.heap[k]?=w.heap[k]?) (hs:w.heap.size≤w'.heap.size):GatI T b0 base P v1 v2 xs ys w':=
 ⟨(hk P h.lt (.inl rfl)).trans h.cells,h.le,h.hbase,Nat.le_trans h.size hs,owned_keep h.ids fun g hg=>hk g (h.ids.lt g hg).2 (.inr (.inl hg)),owned_keep h.seqs fun g hg=>hk g (h.seqs.lt g hg).2 (.inr (.inr hg)),h.apart⟩
theorem GatI.below (h:GatI T b0 base P v1 v2 xs ys w) (hb:Below w.heap.size w w'):GatI T b0 base P v1 v2 xs ys w':=h.keep (fun k hk _=>hb.block k hk) hb.size
theorem GatI.id (h:GatI T b0 base P v1 v2 xs ys w) (hT:T≠3) {v':Value} {x:Int} (hown:w'.ownsRow base 3 1 v' (xs.length+1) (ints xs++[.int .i64 x])) (hg:w.grownBy w' v1.ownBlock) (hat:v'.ownBlock=v1.ownBlock∨v'.ownBlock=some w.heap.size):
  w'.heap[P]?=some (.cells #[v1,v2,.slice none 0 0,.slice none 0 0] T (0,0))∧GatI T b0 base P v' v2 (xs++[x]) ys (w'.setCell ⟨P,0,none⟩ v')∧Below b0 w (w'.setCell ⟨P,0,none⟩ v')∧∀ k,k<w.heap.size→k≠P→v1.ownBlock≠some k→(w'.setCell ⟨P,0,none⟩ v').heap[k]?=w.heap[k]?:=by
 have hlt:=h.lt
 obtain ⟨h1,h2,h3,h4,h5,h6,h7⟩:=h
 have hP:w'.heap[P]?=some (.cells #[v1,v2,.slice none 0 0,.slice none 0 0] T (0,0)):=(hg.block P hlt (fun e=>owned_apart h5 h1 hT e.symm)).trans h1
 refine ⟨hP,⟨by simpa using heap_setCell_same w' P 0 _ _ v' hP,h2,h3,by have :=hg.size;simp;omega,?_,?_,fun g hg' e=> ?_⟩,((Below.refl b0 w).grown hg (Nat.le_trans h3 h4) fun k hk=>by have :=(h5.lt k hk).1;omega).setCell (p:=⟨P,0,none⟩) h2 v',fun k hk hkP hkv=>(Below.heap_setCell _ _ _ _ (show k≠P from hkP)).trans (hg.block k hk (fun e=>hkv e.symm))⟩
 ·have :=owned_keep (w':=w'.setCell ⟨P,0,none⟩ v') hown fun g hg'=>Below.heap_setCell _ _ _ _ (fun e=>owned_apart hown hP hT (by rw [hg',e]))
  rw [List.length_append,List.length_singleton]
  simpa [ints] using this
 ·have h6':w'.ownsRow base 3 1 v2 ys.length (ints ys):=owned_keep h6 fun g hg'=>hg.block g (h6.lt g hg').2 fun e=>h7 g e.symm hg'
  exact owned_keep h6' fun g hg'=>Below.heap_setCell _ _ _ _ (fun e=>owned_apart h6' hP hT (by rw [hg',e]))
 ·rcases hat with hat|hat
  ·exact h7 g (hat▸hg') e
  ·rw [hat] at hg'
   injection hg' with hg'
   have :=(h6.lt g e).2
   omega
theorem GatI.seq (h:GatI T b0 base P v1 v2 xs ys w) (hT:T≠3) {v':Value} {x:Int} (hown:w'.ownsRow base 3 1 v' (ys.length+1) (ints ys++[.int .i64 x])) (hg:w.grownBy w' v2.ownBlock) (hat:v'.ownBlock=v2.ownBlock∨v'.ownBlock=some w.heap.size):
  w'.heap[P]?=some (.cells #[v1,v2,.slice none 0 0,.slice none 0 0] T (0,0))∧GatI T b0 base P v1 v' xs (ys++[x]) (w'.setCell ⟨P,1,none⟩ v')∧Below b0 w (w'.setCell ⟨P,1,none⟩ v')∧∀ k,k<w.heap.size→k≠P→v2.ownBlock≠some k→(w'.setCell ⟨P,1,none⟩ v').heap[k]?=w.heap[k]?:=by
 have hlt:=h.lt
 obtain ⟨h1,h2,h3,h4,h5,h6,h7⟩:=h
 have hP:w'.heap[P]?=some (.cells #[v1,v2,.slice none 0 0,.slice none 0 0] T (0,0)):=(hg.block P hlt (fun e=>owned_apart h6 h1 hT e.symm)).trans h1
 refine ⟨hP,⟨by simpa using heap_setCell_same w' P 1 _ _ v' hP,h2,h3,by have :=hg.size;simp;omega,?_,?_,fun g hg' e=> ?_⟩,((Below.refl b0 w).grown hg (Nat.le_trans h3 h4) fun k hk=>by have :=(h6.lt k hk).1;omega).setCell (p:=⟨P,1,none⟩) h2 v',fun k hk hkP hkv=>(Below.heap_setCell _ _ _ _ (show k≠P from hkP)).trans (hg.block k hk (fun e=>hkv e.symm))⟩
 ·have h5':w'.ownsRow base 3 1 v1 xs.length (ints xs):=owned_keep h5 fun g hg'=>hg.block g (h5.lt g hg').2 fun e=>h7 g hg' e.symm
  exact owned_keep h5' fun g hg'=>Below.heap_setCell _ _ _ _ (fun e=>owned_apart h5' hP hT (by rw [hg',e]))
 ·have :=owned_keep (w':=w'.setCell ⟨P,1,none⟩ v') hown fun g hg'=>Below.heap_setCell _ _ _ _ (fun e=>owned_apart hown hP hT (by rw [hg',e]))
  rw [List.length_append,List.length_singleton]
  simpa [ints] using this
 ·rcases hat with hat|hat
  ·exact h7 g hg' (hat▸e)
  ·rw [hat] at e
   injection e with e
   have :=(h5.lt g hg').2
   omega
end
structure GatL (T:TypeId) (b0 base P:Nat) (v1 v2 v3 v4:Value) (ks:List Nm) (ls:List (List Pn)) (w:World):Prop where
 cells:w.heap[P]?=some (.cells #[v1,v2,v3,v4] T (0,0))
 le:b0≤P
 hbase:b0≤base
 size:base≤w.heap.size
 keys:∃ bk,w.ownsRow bk 9 1 v3 ks.length (strs ks)
 lists:∃ cs,w.ownsRow base 58 1 v4 ls.length cs∧LG b0 w ls cs
section
variable {T:TypeId} {b0 base P:Nat} {v1 v2 v3 v4:Value} {xs ys:List Int} {ks:List Nm} {ls:List (List Pn)} {w w':World}
theorem GatL.lt (h:GatL T b0 base P v1 v2 v3 v4 ks ls w):P<w.heap.size:=(Array.getElem?_eq_some_iff.1 h.cells).1
theorem GatL.below (h:GatL T b0 base P v1 v2 v3 v4 ks ls w) (hb:Below w.heap.size w w'):GatL T b0 base P v1 v2 v3 v4 ks ls w':=by
 have hlt:=h.lt
 obtain ⟨h1,h2,h3,h4,⟨bk,h5⟩,cs,h6,h7⟩:=h
 exact ⟨(hb.block P hlt).trans h1,h2,h3,Nat.le_trans h4 hb.size,⟨bk,owned_below h5 hb⟩,cs,owned_below h6 hb,h7.keep (.of_below hb (by omega))⟩
theorem GatL.list (h:GatL T b0 base P v1 v2 v3 v4 ks ls w) (hT:¬ PoK T) (hT1:T≠9) (hT2:T≠58) {v':Value} {l:List Pn} {A:Option Addr} {c:Nat} (hc:l.length≤c∧c≤maxLen) (hp:PostsG b0 w A l) {cs:List Value} (h6:w.ownsRow base 58 1 v4 ls.length cs) (h7:LG b0 w ls cs)
  (hown:w'.ownsRow base 58 1 v' (ls.length+1) (cs++[.slice A l.length c])) (hg:w.grownBy w' v4.ownBlock):
  w'.heap[P]?=some (.cells #[v1,v2,v3,v4] T (0,0))∧GatL T b0 base P v1 v2 v3 v' ks (ls++[l]) (w'.setCell ⟨P,3,none⟩ v')∧Below b0 w (w'.setCell ⟨P,3,none⟩ v')∧KeptG b0 w (w'.setCell ⟨P,3,none⟩ v')∧
   (∀ k,k<base→k≠P→(w'.setCell ⟨P,3,none⟩ v').heap[k]?=w.heap[k]?)∧∀ (k:Nat) (cs:Array Value) (t:TypeId) (fr:Nat × Nat),k≠P→w.heap[k]?=some (.cells cs t fr)→t≠58→(w'.setCell ⟨P,3,none⟩ v').heap[k]?=some (.cells cs t fr):=by
 have hlt:=h.lt
 obtain ⟨h1,h2,h3,h4,⟨bk,h5⟩,_⟩:=h
 have hP:w'.heap[P]?=some (.cells #[v1,v2,v3,v4] T (0,0)):=(hg.block P hlt (fun e=>owned_apart h6 h1 hT2 e.symm)).trans h1
 have hk1:KeptG b0 w w':=KeptG.grown h6 h3 (by unfold PoK;decide) hg h4
 have hk2:KeptG b0 w' (w'.setCell ⟨P,3,none⟩ v'):=KeptG.setCell hP h2 hT v'
 refine ⟨hP,⟨by simpa using heap_setCell_same w' P 3 _ _ v' hP,h2,h3,by have :=hk1.size;simp;omega,⟨bk,?_⟩,cs++[.slice A l.length c],?_,(h7.snoc hc hp).keep (hk1.trans hk2)⟩,((Below.refl b0 w).grown hg (Nat.le_trans h3 h4) fun k hk=>by have :=(h6.lt k hk).1;omega).setCell (p:=⟨P,3,none⟩) h2 v',hk1.trans hk2,
  fun k hk hkP=>(Below.heap_setCell _ _ _ _ (show k≠P from hkP)).trans (hg.block k (by omega) (fun e=>by have :=(h6.lt k e.symm).1;omega)),
  fun k cs' t fr hkP hk ht=>(Below.heap_setCell _ _ _ _ (show k≠P from hkP)).trans ((hg.block k (Array.getElem?_eq_some_iff.1 hk).1 (fun e=>owned_apart h6 hk ht e.symm)).trans hk)⟩
 ·have h5':=owned_beside h5 h6 (by decide) hg
  exact owned_keep h5' fun g hg'=>Below.heap_setCell _ _ _ _ (fun e=>owned_apart h5' hP hT1 (by rw [hg',e]))
 ·rw [List.length_append,List.length_singleton]
  exact owned_keep hown fun g hg'=>Below.heap_setCell _ _ _ _ (fun e=>owned_apart hown hP hT2 (by rw [hg',e]))
theorem GatL.rows {A3 A4:Option Addr} {n3 c3 n4 c4:Nat} (h:GatL T b0 base P v1 v2 (.slice A3 n3 c3) (.slice A4 n4 c4) ks ls w):Row w w.heap.size A3 (strs ks)∧LPosts w w.heap.size A4 ls:=by
 obtain ⟨_,_,_,_,⟨_,h5⟩,cs,h6,h7⟩:=h
 exact ⟨owned_row_of h5,cs,h7.cells,owned_row_of h6⟩
theorem GatL.setOther (h:GatL T b0 base P v1 v2 v3 v4 ks ls w) {R o:Nat} {cs:Array Value} {t:TypeId} {fr:Nat × Nat} (hR:w.heap[R]?=some (.cells cs t fr)) (h0:b0≤R) (hne:R≠P) (ht:¬ PoK t) (ht1:t≠9) (ht2:t≠58) (v:Value):GatL T b0 base P v1 v2 v3 v4 ks ls (w.setCell ⟨R,o,none⟩ v):=by
 obtain ⟨h1,h2,h3,h4,⟨bk,h5⟩,cs',h6,h7⟩:=h
 exact ⟨(Below.heap_setCell _ _ _ _ (show P≠R from Ne.symm hne)).trans h1,h2,h3,by simpa using h4,⟨bk,owned_keep h5 fun g hg=>Below.heap_setCell _ _ _ _ (fun e=>owned_apart h5 hR ht1 (by rw [hg,e]))⟩,cs',
  owned_keep h6 fun g hg=>Below.heap_setCell _ _ _ _ (fun e=>owned_apart h6 hR ht2 (by rw [hg,e])),h7.keep (KeptG.setCell hR h0 ht v)⟩
theorem GatI.lists (h:GatI T b0 base P v1 v2 xs ys w) (hT:¬ PoK T) (hT1:T≠9) {bk:Nat} {v3:Value} {ks:List Nm} (hk:w.ownsRow bk 9 1 v3 ks.length (strs ks)):
    GatL T b0 w.heap.size P v1 v2 v3 (.slice none 0 0) ks [] (w.setCell ⟨P,2,none⟩ v3)∧KeptG b0 w (w.setCell ⟨P,2,none⟩ v3)∧Below b0 w (w.setCell ⟨P,2,none⟩ v3):=
  ⟨⟨by simpa using heap_setCell_same w P 2 _ _ v3 h.cells, h.le, by have := h.hbase; have := h.size; omega, by simp, ⟨bk, owned_keep hk fun g hg => Below.heap_setCell _ _ _ _ (fun e => owned_apart hk h.cells hT1 (by rw [hg, e]))⟩, [], World.ownsRow_nil _ _ _ _, LG.nil⟩,
    KeptG.setCell h.cells h.le hT v3,(Below.refl b0 w).setCell (p:=⟨P,2,none⟩) h.le v3⟩
theorem GatI.rowG (h:GatI T b0 base P v1 v2 xs ys w):∃ A1 c1 A2 c2,v1= .slice A1 xs.length c1∧v2= .slice A2 ys.length c2∧xs.length≤c1∧ys.length≤c2∧RowG b0 3 w A1 (ints xs)∧RowG b0 3 w A2 (ints ys):=by
 have h5:=h.ids
 have h6:=h.seqs
 obtain ⟨A1,c1,e1,hc1,_⟩:=owned_row h5
 obtain ⟨A2,c2,e2,hc2,_⟩:=owned_row h6
 subst e1 e2
 exact ⟨A1,c1,A2,c2,rfl,rfl,hc1,hc2,.of_own h5,.of_own h6⟩
end
end Go.Proofs.YtmoomnpbiifedaaGreat
set_option linter.unusedVariables false
namespace Go.Proofs.YtmoomnpbiifedaaGreat
open Go Go.RowKit
def entP:List Nm→List Nat→List Value
 |x::l,v::vs=> .string ⟨x.toArray⟩:: .pointer (some ⟨v,0,none⟩)::entP l vs
 |_,_=>[]
theorem entP_nil (vs:List Nat):entP [] vs=[]:=by cases vs<;>rfl
theorem entP_length:∀ {l:List Nm} {vs:List Nat},vs.length=l.length→(entP l vs).length=l.length*2
 |[],vs,_=>by rw [entP_nil];rfl
 |x::l,[],h=>by simp at h
 |x::l,v::vs,h=>by
  have :=entP_length (l:=l) (vs:=vs) (by simpa using h)
  simp only [entP,List.length_cons,this]
  omega
theorem entP_at:∀ {l:List Nm} {vs:List Nat} {k:Nat} (hv:vs.length=l.length) (hk:k<l.length),(entP l vs)[k*2]?=some (.string ⟨l[k].toArray⟩)∧(entP l vs)[k*2+1]?=some (.pointer (some ⟨vs.getD k 0,0,none⟩))
 |[],_,_,_,h=>by simp at h
 |x::l,[],_,h,_=>by simp at h
 |x::l,v::vs,0,_,_=>⟨rfl,rfl⟩
 |x::l,v::vs,k+1,h,hk=>by
  have :=entP_at (l:=l) (vs:=vs) (k:=k) (by simpa using h) (by simpa using hk)
  rw [show (k+1)*2=k*2+1+1 by omega]
  simpa [entP] using this
theorem entP_snoc:∀ {l:List Nm} {vs:List Nat} {x:Nm} {v:Nat},vs.length=l.length→entP (l++[x]) (vs++[v])=entP l vs++[.string ⟨x.toArray⟩,.pointer (some ⟨v,0,none⟩)]
 |[],[],x,v,_=>rfl
 |[],_::_,_,_,h=>by simp at h
 |_::_,[],_,_,h=>by simp at h
 |y::l,u::vs,x,v,h=>by
  have :=entP_snoc (l:=l) (vs:=vs) (x:=x) (v:=v) (by simpa using h)
  simp only [List.cons_append,entP,this]
theorem entP_drop:∀ {l:List Nm} {vs:List Nat} (k:Nat),vs.length=l.length→(entP l vs).drop (k*2)=entP (l.drop k) (vs.drop k)
 |l,vs,0,_=>by simp
 |[],vs,k+1,_=>by simp [entP_nil]
 |x::l,[],k+1,h=>by simp at h
 |x::l,v::vs,k+1,h=>by
  rw [show (k+1)*2=k*2+1+1 by omega,List.drop_succ_cons,List.drop_succ_cons,entP,List.drop_succ_cons,List.drop_succ_cons]
  exact entP_drop k (by simpa using h)
theorem info_entryP:(Tryz.prog.info? 123).map (fun i=>(i.zero,i.size,i.bytes))=some (some (.agg #[.string ByteArray.empty,.pointer none]),2,24):=by kernel_rfl
def DictR (w:World) (B o:Nat) (l:List Nm) (vs:List Nat):Prop:=
 B<w.heap.size∧vs.length=l.length∧∃ A c,w.cell? ⟨B,o,none⟩=some (.slice A l.length c)∧l.length≤c∧c≤maxLen∧Row w w.heap.size A (entP l vs)∧(A=none∧l=[]∧c=0∨∃ g,A=some ⟨g,0,none⟩)
theorem DictR.below {w w':World} {B o:Nat} {l:List Nm} {vs:List Nat} (h:DictR w B o l vs) (hb:Below w.heap.size w w'):DictR w' B o l vs:=by
 obtain ⟨h1,h2,A,c,h3,h4,h5,h6,h7⟩:=h
 exact ⟨Nat.lt_of_lt_of_le h1 hb.size,h2,A,c,(hb.cell (p:=⟨B,o,none⟩) h1).trans h3,h4,h5,Row.later h6 hb,h7⟩
theorem DictR.lt {w:World} {B o:Nat} {l:List Nm} {vs:List Nat} (h:DictR w B o l vs):B<w.heap.size:=h.1
theorem DictR.read {w:World} {B o:Nat} {l:List Nm} {vs:List Nat} (h:DictR w B o l vs):
  ∃ A c,w.cell? ⟨B,o,none⟩=some (.slice A l.length c)∧l.length≤c∧c≤maxLen∧Row w w.heap.size A (entP l vs)∧(A=none∧l=[]∧c=0∨∃ g,A=some ⟨g,0,none⟩):=h.2.2
theorem DictR.ent {w:World} {B o:Nat} {l:List Nm} {vs:List Nat} (h:DictR w B o l vs) {k:Nat} (hk:k<l.length):
  ∃ b off c,w.cell? ⟨B,o,none⟩=some (.slice (some ⟨b,off,none⟩) l.length c)∧l.length≤c∧c≤maxLen∧b<w.heap.size∧w.cell? ⟨b,off+k*2,none⟩=some (.string ⟨l[k].toArray⟩)∧w.cell? ⟨b,off+k*2+1,none⟩=some (.pointer (some ⟨vs.getD k 0,0,none⟩)):=by
 obtain ⟨_,hv,A,c,h1,h2,h3,h4,_⟩:=h
 obtain ⟨b,off,rfl,hb,hc⟩:=h4.at_ (by rw [entP_length hv];omega)
 obtain ⟨g1,g2⟩:=entP_at hv hk
 exact ⟨b,off,c,h1,h2,h3,hb,hc _ _ g1,by have :=hc _ _ g2;rwa [← Nat.add_assoc] at this⟩
set_option maxHeartbeats 1000000 in
theorem dictP_Len (B o:Nat) (l:List Nm) (vs:List Nat) (w:World) (h:DictR w B o l vs):
  Calls Tryz.prog 92 #[.pointer (some ⟨B,o,none⟩)] w fun e w'=>e= .returned (.int .i64 (l.length:Int))∧w=w':=by
 obtain ⟨_,_,A,c,hc,_⟩:=h
 go_enter Tryz.func92,Tryz.ntmps92
 go_wp2
 go_ret
 exact ⟨rfl,rfl⟩
end Go.Proofs.YtmoomnpbiifedaaGreat
namespace Go.Proofs.YtmoomnpbiifedaaGreat
open Go Go.RowKit
set_option linter.unusedVariables false
def RefRisesRel10 (l:List Int) (r i:Value):Prop:=r= .bool false∧∃ (k:Nat),k≤l.length∧i= .int .i64 (k:Int)∧risesZ (ahead l k) (l.drop k)=risesZ (-1) l∧ -1≤ahead l k
set_option maxHeartbeats 1000000 in
set_option maxRecDepth 100000 in
theorem ref04_Rises (A:Option Addr) (m c:Nat) (l:List Int) (w:World) (hr:Row w w.heap.size A (ints l)) (hm:l.length=m) (hl:m≤9223372036854775807):
  Calls Tryz.prog 21 #[.slice A m c] w fun e w'=>e= .returned (.bool (risesZ (-1) l))∧Below w.heap.size w w':=by
 have HR:=Lib.hid hr
 clear hr
 subst hm
 obtain ⟨ans,hans⟩:∃ ans,ans=risesZ (-1) l:=⟨_,rfl⟩
 rw [← hans]
 have HA:=Lib.hid hans
 clear hans
 go_enter Tryz.func21,Tryz.ntmps21
 go_wp2
 go_loopw [2,3] (fun r i wr=>RefRisesRel10 l r i∧Below w.heap.size w wr) (fun _ i _=>l.length-(intOf i).toNat)
 case atStart=>exact ⟨⟨rfl,0,by omega,rfl,rfl,by simp [ahead]⟩,Below.refl _ _⟩
 case round=>
  obtain ⟨⟨rfl,k,hk,rfl,hx,hx1⟩,hbw⟩:=hrel
  by_cases hlt:k<l.length
  ·obtain ⟨b1,o1,e1,_,hc1⟩:=row_int' (HR.out.below hbw) hlt
   subst e1
   have hc0:0<k→wr.cell? ⟨b1,o1+(k-1),none⟩=some (.int .i64 (ahead l k)):=fun h=>by
    obtain ⟨b2,o2,e2,_,hc2⟩:=row_int' (HR.out.below hbw) (k:=k-1) (by omega)
    injection e2 with e2
    injection e2 with e3 e4
    subst e3 e4
    rw [hc2]
    simp [ahead]
    omega
   have ha0:k=0→ahead l k= -1:=fun h=>by simp [ahead,h]
   rw [risesZ_drop hlt] at hx
   have hs:=ahead_succ (l:=l) (k:=k)
   obtain ⟨y,hy⟩:∃ y,y=l.getD k 0:=⟨_,rfl⟩
   rw [← hy] at hc1 hx hs
   obtain ⟨x,hxx⟩:∃ x,x=ahead l k:=⟨_,rfl⟩
   rw [← hxx] at hx hx1 hc0 ha0
   have HS:=Lib.hid hs
   clear hy hs hxx
   by_cases hxy:y≤x
   ·rw [decide_eq_false (by omega),Bool.false_and,← HA.out] at hx
    subst hx
    by_cases hy0:y<0
    ·go_wp2
     go_quiet (fail)
     go_wp2
     go_ret
     exact ⟨rfl,hbw.trans ⟨rfl,rfl,rfl,Nat.le_refl _,fun _ _=>rfl⟩⟩
    ·have hyb:decide (y<0)=false:=decide_eq_false hy0
     have hk0:0<k:=by
      rcases Nat.eq_zero_or_pos k with h|h
      ·have :=ha0 h;omega
      ·exact h
     have hcp:=hc0 hk0
     obtain ⟨j,hj⟩:∃ j,j=k-1:=⟨_,rfl⟩
     have hw:IntKind.i64.wrap ((k:Int)-1)=(j:Int):=by rw [IntWalk.i64_in _ (by omega)];omega
     have hjl:j<l.length:=by omega
     rw [← hj] at hcp
     clear hc0 ha0 hj
     go_wp2
     go_quiet (fail)
     go_wp2
     go_ret
     exact ⟨rfl,hbw.trans ⟨rfl,rfl,rfl,Nat.le_refl _,fun _ _=>rfl⟩⟩
   ·rw [decide_eq_true (by omega),Bool.true_and] at hx
    have HX:=Lib.hid hx
    clear hx
    have hy0:¬ y<0:=by omega
    have hyb:decide (y<0)=false:=decide_eq_false hy0
    rcases Nat.eq_zero_or_pos k with hk0|hk0
    ·clear hc0 ha0
     subst hk0
     rw [Nat.add_zero] at hc1
     go_wp2
     go_quiet (fail)
     go_wp2
     go_roundw
     case rel=>exact ⟨⟨rfl,0+1,by omega,by go_num,by rw [HS.out];exact HX.out,by rw [HS.out];omega⟩,hbw.trans ⟨rfl,rfl,rfl,Nat.le_refl _,fun _ _=>rfl⟩⟩
     case measure=>simp [intOf];omega
    ·have hcp:=hc0 hk0
     obtain ⟨j,hj⟩:∃ j,j=k-1:=⟨_,rfl⟩
     have hw:IntKind.i64.wrap ((k:Int)-1)=(j:Int):=by rw [IntWalk.i64_in _ (by omega)];omega
     have hjl:j<l.length:=by omega
     rw [← hj] at hcp
     clear hc0 ha0 hj
     go_wp2
     go_quiet (fail)
     go_wp2
     go_roundw
     case rel=>exact ⟨⟨rfl,k+1,by omega,by go_num,by rw [HS.out];exact HX.out,by rw [HS.out];omega⟩,hbw.trans ⟨rfl,rfl,rfl,Nat.le_refl _,fun _ _=>rfl⟩⟩
     case measure=>simp [intOf];omega
  ·rw [risesZ_end (by omega),← HA.out] at hx
   subst hx
   go_wp2
   go_ret
   exact ⟨rfl,hbw⟩
end Go.Proofs.YtmoomnpbiifedaaGreat
