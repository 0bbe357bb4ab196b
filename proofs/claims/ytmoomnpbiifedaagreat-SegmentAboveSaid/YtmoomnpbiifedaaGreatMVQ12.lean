import Derived.Test.YtmoomnpbiifedaaGreatMVZz
import Derived.Test.YtmoomnpbiifedaaGreatMVQ10
import Derived.Test.YtmoomnpbiifedaaGreatMVQ11
import Derived.Test.YtmoomnpbiifedaaGreatMVQ09
import Derived.Test.YtmoomnpbiifedaaGreatMVQ08
import Derived.Deep.AppendLies
import Derived.Deep.RegionLaw
import Derived.RangeFuncNested
import Derived.RangeFuncBound
import Derived.RangeFuncCalls
import Derived.RangeFuncLeaves
import Derived.RangeFuncBox
import Derived.OwnWalkIn
import Derived.TacticsInMore
import Derived.LoopNIn
import Derived.LoopIn
import Derived.Maps.AppendAt
import Derived.Shelf.Abstract
import Derived.Shelf.RegionOpen
import Derived.Test.YtmoomnpbiifedaaGreatMVQ01
import Derived.RangeFuncOwn
import Derived.Test.YtmoomnpbiifedaaGreatMVQ04
import Derived.Shelf.SlSorted.Search
import Derived.Test.YtmoomnpbiifedaaGreatMVQ03
import Derived.BigCall
import Derived.BigQuiet
import Derived.Deep.QuietTactic
import Derived.Deep.RegionHeld3
set_option linter.unusedVariables false
namespace Go.Proofs.YtmoomnpbiifedaaGreat
open Go Go.RowKit
structure AddOk (G:List En):Prop where
 may:∀ q∈G,mayD q.2.1=0∧∀ f∈q.2.1,f.1.length≤1024∧f.2.length≤1024
 rise:risesZ (-1) (G.map (·.2.2))=true
 few:G.length≤100
theorem AddOk.good {G:List En} (h:AddOk G):GoodE G:=fun q hq=>goodF_of (h.may q hq).1 fun f hf=>((h.may q hq).2 f hf).2
theorem posts_doc {key:Nm} {p:Pn}:∀ {l:List En} {i:Nat},p∈postsE i l key→(i:Int)≤p.1∧p.1<(i+l.length:Nat)
 |[],i,h=>by simp [postsE] at h
 |q::l,i,h=>by
  rw [postsE] at h
  rcases List.mem_append.1 h with h|h
  ·unfold postIn at h
   obtain ⟨t,_,rfl⟩:=List.mem_map.1 h
   simp only [List.length_cons]
   omega
  ·have :=posts_doc h
   simp only [List.length_cons]
   omega
theorem keys_posts {l:List En} {key:Nm} (h:key∈keysE l):0<(postsE 0 l key).length:=by
 obtain ⟨q,hq,t,ht,e⟩:=mem_keysE.1 h
 exact posts_there ⟨q,hq,t,ht,e⟩
theorem build_may {G:List En} (h:AddOk G):mayPs (buildP G)=true:=by
 refine mayPs_iff.2 ⟨by simp [buildP],by simp [buildP],h.rise,risesN_iff.2 (rise_keysE G),fun l hl=> ?_⟩
 obtain ⟨key,hk,rfl⟩:=List.mem_map.1 hl
 have hn:(buildP G).ids.length=G.length:=by simp [buildP]
 have hp:=keys_posts hk
 have hm:=posts_may (key:=key) (i:=0) (last:= -1) h.good (by omega) (by have :=h.few;omega)
 unfold mayL
 rw [hm,hn,Bool.true_and,Bool.and_eq_true,decide_eq_true_iff,decide_eq_true_iff]
 refine ⟨by omega,fun p hp'=> ?_⟩
 have :=(posts_doc (List.mem_of_getLast? hp')).2
 simpa using this
theorem build_keys {G:List En} (h:AddOk G):(keysE G).length≤400000:=by
 have h1:=keysE_length (l:=G) (a:=[]) (M:=4000) fun q hq=>terms_len9 (h.good q hq)
 have h2:(keysE G).length≤G.length*4000+([]:List Nm).length:=h1
 have :=h.few
 simp only [List.length_nil] at h2
 omega
theorem build_small {G:List En} (h:AddOk G):PSmall (buildP G):=by
 refine ⟨by have :=h.few;simp [buildP];omega,by have :=build_keys h;simp only [buildP];omega,fun l hl=> ?_⟩
 obtain ⟨key,hk,rfl⟩:=List.mem_map.1 hl
 have h1:=posts_len h.good (key:=key) G 0 (fun q hq=>hq)
 have h2:=totalP_le (l:=postsE 0 G key) (n:=500) fun p hp=>(posts_good h.good p hp).2
 have :=h.few
 exact ⟨by omega,by omega⟩
theorem build_few {G:List En} (h:AddOk G):PFew (buildP G):=by
 have hs:=build_small h
 have hk:=hs.keys
 have hi:=hs.ids
 refine ⟨by omega,by simp [buildP] at hi ⊢;omega,by omega,by simp [buildP] at hk ⊢;omega,fun l hl=>⟨by have :=(hs.lists l hl).1;omega,fun p hp=> ?_⟩⟩
 obtain ⟨key,hk,rfl⟩:=List.mem_map.1 hl
 have :=(posts_good h.good p hp).2
 omega
end Go.Proofs.YtmoomnpbiifedaaGreat
set_option linter.unusedVariables false
namespace Go.Proofs.YtmoomnpbiifedaaGreat
open Go Go.RowKit
structure BRig (S:Nat→Prop) (B:Nat) (L:List En) (up:Int) (V:Value) (G:List En) (w wr:World):Prop where
 buf:BufAt S wr B L up
 ge:∀ k,S k→w.heap.size≤k
 own:OwnES (fun k=>k<w.heap.size) wr V G
 bel:Below w.heap.size w wr
section
variable {S:Nat→Prop} {B:Nat} {L:List En} {up:Int} {V:Value} {G:List En} {w wr w':World}
theorem BRig.keep (h:BRig S B L up V G w wr) (hk:∀ k,S k→w'.heap[k]?=wr.heap[k]?) (hb:Below w.heap.size wr w'):BRig S B L up V G w w':=
 ⟨h.buf.keep hk hb.size,h.ge,h.own.keeps fun k hk _=>hb.block k hk,h.bel.trans hb⟩
theorem BRig.below (h:BRig S B L up V G w wr) (hb:Below wr.heap.size wr w'):BRig S B L up V G w w':=h.keep (fun k hk=>hb.block k (h.buf.lt k hk)) (hb.mono h.bel.size)
theorem BRig.add (h:BRig S B L up V G w wr) (hm:AddOk G) (hlen:L.length≤1000) {i:Nat} (hi:i<G.length) (h0:0≤G[i].2.2) (hup:up<G[i].2.2):
  ∃ b c0 A c,V= .slice (some ⟨b,0,none⟩) G.length c0∧b<wr.heap.size∧wr.cell? ⟨b,i*3,none⟩=some (.int .i64 G[i].1)∧wr.cell? ⟨b,i*3+1,none⟩=some (.slice A G[i].2.1.length c)∧wr.cell? ⟨b,i*3+2,none⟩=some (.int .i64 G[i].2.2)∧
   ∀ w1,Below wr.heap.size wr w1→Calls Tryz.prog 50 #[.pointer (some ⟨B,0,none⟩),.agg #[.int .i64 G[i].1,.slice A G[i].2.1.length c,.int .i64 G[i].2.2]] w1 fun e w'=>e= .returned (.int .i64 0)∧∃ S',BRig S' B (L++[G[i]]) G[i].2.2 V G w w'∧(∀ k,S' k→S k∨w1.heap.size≤k)∧OnlyIn S w1 w':=by
 obtain ⟨b,c0,A,c,hv,_,hb,e0,e1,e2,hc,hcx,hr⟩:=h.own.at_ hi
 refine ⟨b,c0,A,c,hv,hb,e0,e1,e2,fun w1 hb1=> ?_⟩
 have h1:=h.below hb1
 obtain ⟨m1,m2⟩:=hm.may _ (List.getElem_mem hi)
 have hgf:GoodF G[i].2.1:=goodF_of m1 fun f hf=>(m2 f hf).2
 have hsz:=h.bel.size
 have hrow:RowP (fun k=>k<w1.heap.size∧¬ S k) w1 A (flds G[i].2.1):=by
  have h2:=RowP.keep (w':=w1) hr.1 fun k hk=>hb1.block k hk.lt
  exact h2.imp fun k hk=>⟨by have :=hk.lt;have :=hb1.size;omega,fun hs=>by have :=h.ge k hs;have :=hk.1;omega⟩
 refine (buf_Add h1.buf G[i] A _ c rfl hc hrow hr.2 (by have :=hgf.len;omega) m2 hlen).mono ?_
 rintro e w' ⟨rfl,_,h2⟩
 have hme:mayE up G[i]=0:=by unfold mayE;rw [if_neg (by rw [m1];decide),if_neg (by omega)]
 rw [hme] at h2 ⊢
 obtain ⟨S',hb',hS,ho⟩:=h2 rfl
 have hbw:=ho.below h1.ge h1.bel.size
 exact ⟨rfl,S',⟨hb',fun k hk=>(hS k hk).elim (h1.ge k) fun hk=>by have :=h1.bel.size;omega,h1.own.keeps fun k hk _=>hbw.block k hk,h1.bel.trans hbw⟩,hS,ho⟩
end
theorem rises_seq:∀ {l:List Int} {x:Int} {i:Nat},risesZ x l=true→(hi:i<l.length)→x<l[i]∧∀ j (hj:j<l.length),j<i→l[j]<l[i]
 |[],_,_,_,hi=>by simp at hi
 |y::l,x,i,h,hi=>by
  rw [risesZ,Bool.and_eq_true,decide_eq_true_iff] at h
  cases i with
  |zero=>exact ⟨h.1,fun j _ hj=>by omega⟩
  |succ i=>
   have ih:=rises_seq (i:=i) h.2 (by simpa using hi)
   refine ⟨by have :=ih.1;simp only [zC];omega,fun j hj hji=> ?_⟩
   cases j with
   |zero=>exact ih.1
   |succ j=>exact ih.2 j (by simpa using hj) (by omega)
theorem AddOk.next {G:List En} (h:AddOk G) {i:Nat} (hi:i<G.length):0≤G[i].2.2∧lastE (G.take i)<G[i].2.2:=by
 have hl:i<(G.map (·.2.2)).length:=by simpa using hi
 obtain ⟨h1,h2⟩:=rises_seq h.rise hl
 simp only [List.getElem_map] at h1 h2
 refine ⟨by omega,?_⟩
 rcases Nat.eq_zero_or_pos i with rfl|hp
 ·simp [lastE_nil];omega
 ·have hlt:0<(G.take i).length:=by rw [List.length_take];omega
  rw [lastE_at hlt]
  have hlen:(G.take i).length=i:=by rw [List.length_take];omega
  simp only [hlen,List.getElem_take]
  exact h2 (i-1) (by simp;omega) (by omega)
end Go.Proofs.YtmoomnpbiifedaaGreat
set_option linter.unusedVariables false
namespace Go.Proofs.YtmoomnpbiifedaaGreat
open Go Go.RowKit
section
variable {base:Nat} {w w':World} {v v':Value} {l:List Po}
end
end Go.Proofs.YtmoomnpbiifedaaGreat
set_option linter.unusedVariables false
namespace Go.Proofs.YtmoomnpbiifedaaGreat
open Go Go.RowKit
theorem set_two {w:World} {B:Nat} {a b x y:Value} {t:TypeId} (h:w.heap[B]?=some (.cells #[a,b] t (0,0))):((w.setCell ⟨B,0,none⟩ x).setCell ⟨B,1,none⟩ y).heap[B]?=some (.cells #[x,y] t (0,0)):=
 heap_setCell_same _ B 1 #[x,b] t y (heap_setCell_same w B 0 #[a,b] t x h)
theorem cells_two {w:World} {B:Nat} {x y:Value} {t:TypeId} (h:w.heap[B]?=some (.cells #[x,y] t (0,0))):w.cell? ⟨B,0,none⟩=some x∧w.cell? ⟨B,1,none⟩=some y∧w.frozen? ⟨B,0,none⟩=false∧w.frozen? ⟨B,1,none⟩=false:=by
 simp [World.cell?,World.frozen?,h]
theorem take_blocks (l:List Po):l.take (8*blocksP l.length)=l:=List.take_of_length_le (by unfold blocksP;omega)
theorem list_last (base B:Nat) (bs:List UInt8) (l:List Po) (w:World) (h:LAt w base B bs l) (hl:l.length≤1073741824):
  Calls Tryz.prog 64 #[.pointer (some ⟨B,0,none⟩)] w fun e w'=>e= .returned (.agg #[.int .i64 (docOf (-1) l),.int .i64 ((bytesP (-1) l).length:Int)])∧Below w.heap.size w w':=by
 have hal:=(Below.refl w.heap.size w).alloc (Nat.le_refl _) (.cells #[.int .i64 0,.int .i64 0] 119)
 have h1:=h.below hal
 have hb:=list_Blocks base B bs l _ h1
 have ha:=list_ahead base B bs l _ h1 (blocksP l.length) (Nat.le_refl _) hl
 rw [take_blocks] at ha
 have HAL:=Lib.hid hal
 have HB:=Lib.hid hb
 have HA:=Lib.hid ha
 obtain ⟨n,hn⟩:∃ n,n=blocksP l.length:=⟨_,rfl⟩
 rw [← hn] at HA HB
 obtain ⟨x,hx⟩:∃ x,x=docOf (-1) l:=⟨_,rfl⟩
 obtain ⟨y,hy⟩:∃ y,y=(bytesP (-1) l).length:=⟨_,rfl⟩
 rw [← hx,← hy] at HA ⊢
 clear h h1 hal hb ha hn hx hy
 go_enter Tryz.func64,Tryz.ntmps64
 go_wp2_with (first
  |(go_at_call 104;refine HB.out.mono ?_;rintro e w' ⟨rfl,rfl⟩)
  |(go_at_call 103;refine HA.out.mono ?_))
 rintro e w3 ⟨rfl,hb3⟩
 have hres:w3.heap[w.heap.size]?=some (.cells #[.int .i64 0,.int .i64 0] 119 (0,0)):=(hb3.block w.heap.size (by simp)).trans (heap_alloc_new w _)
 obtain ⟨c0,c1,f0,f1⟩:=cells_two hres
 have hb4:=HAL.out.trans (hb3.mono (by simp))
 have HR:=Lib.hid hres
 have HB4:=Lib.hid hb4
 clear hres hb4 hb3
 go_wp2
 refine bodyPost_ret (results_cell_row (P:=Tryz.prog) rfl _ _ w.heap.size 119 _ (0,0) _ rfl (set_two HR.out) Tryz.underlying119 rfl (by kernel_rfl)) rfl ?_
 exact ⟨rfl,(HB4.out.setCell (Nat.le_refl _) _).setCell (Nat.le_refl _) _⟩
end Go.Proofs.YtmoomnpbiifedaaGreat
set_option linter.unusedVariables false
namespace Go.Proofs.YtmoomnpbiifedaaGreat
open Go Go.RowKit
def Turning (t:TypeId):Prop:=t=113∨t=119∨t=5
structure Mild (base:Nat) (w w':World):Prop where
 below:Below base w w'
 keep:∀ (k:Nat) (o:Obj),w.heap[k]?=some o→(∀ cs t fr,o= .cells cs t fr→¬ Turning t)→w'.heap[k]?=some o
section
variable {base:Nat} {w w' w'':World}
theorem Mild.trans (h:Mild base w w') (k:Mild base w' w''):Mild base w w'':=⟨h.below.trans k.below,fun i o hi ho=>k.keep i o (h.keep i o hi ho) ho⟩
theorem Mild.of_below (h:Below w.heap.size w w') (hb:base≤w.heap.size):Mild base w w':=
 ⟨h.mono hb,fun k o hk _=>by rw [h.block k (Array.getElem?_eq_some_iff.1 hk).1,hk]⟩
theorem Mild.setCell {B i:Nat} {cs:Array Value} {t:TypeId} {fr:Nat × Nat} (h:w.heap[B]?=some (.cells cs t fr)) (ht:Turning t) (hb:base≤B) (v:Value):Mild base w (w.setCell ⟨B,i,none⟩ v):=
  ⟨(Below.refl base w).setCell (p := ⟨B, i, none⟩) hb v, fun k o hk ho => by
    by_cases e:k=B
    · subst e
      rw [h] at hk
      injection hk with hk
      exact absurd ht (ho _ _ _ hk.symm)
    · rw [Below.heap_setCell _ _ _ _ e,hk]⟩
theorem Mild.grown {row:Option Nat} (hg:w.grownBy w' row) (hr:∀ k,row=some k→base≤k∧∃ cs t fr,w.heap[k]?=some (.cells cs t fr)∧Turning t) (hb:base≤w.heap.size):Mild base w w':=
  ⟨(Below.refl base w).grown hg hb (fun k e => (hr k e).1), fun k o hk ho => by
    rw [hg.block k (Array.getElem?_eq_some_iff.1 hk).1 ?_,hk]
    intro e
    obtain ⟨_,cs,t,fr,h1,h2⟩:=hr k e.symm
    rw [h1] at hk
    injection hk with hk
    exact ho _ _ _ hk.symm h2⟩
theorem Mild.keepsOthers (h:Mild base w w'):KeepsOthers w w':=
 ⟨h.below.size,fun k o hk hc=>h.keep k o hk fun cs t fr e=>by subst e;cases hc⟩
theorem owned_type {b:Nat} {e:TypeId} {size n:Nat} {v:Value} {xs:List Value} (h:w.ownsRow b e size v n xs) {g:Nat} (hg:v.ownBlock=some g):∃ cs fr,w.heap[g]?=some (.cells cs e fr):=by
 rcases h.2 with ⟨rfl,_⟩|⟨g',cap,cur,rfl,_,hh,r⟩
 ·cases hg
 ·simp only [Value.ownBlock,Option.some.injEq] at hg
  subst hg
  exact ⟨_,_,hh⟩
theorem Mild.grownOwn {e:TypeId} {size n:Nat} {v:Value} {xs:List Value} (ho:w.ownsRow base e size v n xs) (he:Turning e) (hg:w.grownBy w' v.ownBlock) (hb:base≤w.heap.size):Mild base w w':=
 Mild.grown hg (fun k hk=>⟨(ho.lt k hk).1,by obtain ⟨cs,fr,h⟩:=owned_type ho hk;exact ⟨cs,e,fr,h,he⟩⟩) hb
def RowM (base:Nat) (w:World) (A:Option Addr) (xs:List Value):Prop:=
 xs=[]∨∃ b off,A=some ⟨b,off,none⟩∧b<w.heap.size∧(b<base∨∃ cs t fr,w.heap[b]?=some (.cells cs t fr)∧¬ Turning t)∧∀ j u,xs[j]?=some u→w.cell? ⟨b,off+j,none⟩=some u
theorem RowM.mild {A:Option Addr} {xs:List Value} (h:RowM base w A xs) (hm:Mild base w w'):RowM base w' A xs:=by
 rcases h with h|⟨b,off,e,hlt,hs,hc⟩
 ·exact .inl h
 ·have hblk:w'.heap[b]?=w.heap[b]?:=by
   rcases hs with hs|⟨cs,t,fr,h1,h2⟩
   ·exact hm.below.block b hs
   ·rw [hm.keep b _ h1 (fun cs' t' fr' e=>by cases e;exact h2),h1]
  refine .inr ⟨b,off,e,Nat.lt_of_lt_of_le hlt hm.below.size,hs.imp id (fun ⟨cs,t,fr,h1,h2⟩=>⟨cs,t,fr,hblk.trans h1,h2⟩),fun j u hu=> ?_⟩
  rw [World.cell?_of_block (a:=⟨b,off+j,none⟩) hblk]
  exact hc j u hu
theorem RowM.at_ {A:Option Addr} {xs:List Value} (h:RowM base w A xs) (hn:0<xs.length):∃ b off,A=some ⟨b,off,none⟩∧b<w.heap.size∧∀ j u,xs[j]?=some u→w.cell? ⟨b,off+j,none⟩=some u:=by
 rcases h with rfl|⟨b,off,e,h1,_,h2⟩
 ·simp at hn
 ·exact ⟨b,off,e,h1,h2⟩
theorem RowM.of_row {A:Option Addr} {xs:List Value} (h:Row w base A xs) (hb:base≤w.heap.size):RowM base w A xs:=by
 rcases h with h|⟨b,off,e,h1,h2⟩
 ·exact .inl h
 ·exact .inr ⟨b,off,e,by omega,.inl h1,h2⟩
end
def LMid (w:World) (base B:Nat) (bs:List UInt8) (es:List (Int × Nat)) (many total:Int):Prop:=
 base≤B∧∃ vb ve,w.heap[B]?=some (.cells #[vb,ve,.int .i64 many,.int .i64 total] 113 (0,0))∧
  w.ownsRow base 5 1 vb bs.length (Lib.byteCells bs)∧w.ownsRow base 119 2 ve es.length (endCells es)
theorem lat_mid {w:World} {base B:Nat} {bs:List UInt8} {l:List Po}:LAt w base B bs l↔LMid w base B bs (endsC l (blocksP l.length)) (l.length:Int) (totalP l:Int):=by
 unfold LAt LMid endsV
 rw [endsC_length]
section
variable {w w':World} {base B:Nat} {bs:List UInt8} {es:List (Int × Nat)} {many total:Int}
theorem LMid.lt (h:LMid w base B bs es many total):B<w.heap.size:=by
 obtain ⟨_,vb,ve,hv,_⟩:=h
 exact (Array.getElem?_eq_some_iff.1 hv).1
theorem LMid.below (h:LMid w base B bs es many total) (hb:Below w.heap.size w w'):LMid w' base B bs es many total:=by
 have hl:=h.lt
 obtain ⟨h1,vb,ve,hv,ho,he⟩:=h
 exact ⟨h1,vb,ve,(hb.block B hl).trans hv,owned_below ho hb,owned_below he hb⟩
theorem owned_setCell {b:Nat} {e:TypeId} {size n:Nat} {v:Value} {xs:List Value} (h:w.ownsRow b e size v n xs) {B i:Nat} (hB:v.ownBlock≠some B) (u:Value):(w.setCell ⟨B,i,none⟩ u).ownsRow b e size v n xs:=
 owned_keep h fun g hg=>Below.heap_setCell _ _ _ _ fun e=>hB (by rw [hg,e])
theorem LMid.setMany (h:LMid w base B bs es many total) (m:Int):LMid (w.setCell ⟨B,2,none⟩ (.int .i64 m)) base B bs es m total∧Mild base w (w.setCell ⟨B,2,none⟩ (.int .i64 m)):=by
 obtain ⟨h1,vb,ve,hv,ho,he⟩:=h
 exact ⟨⟨h1,vb,ve,heap_setCell_same w B 2 _ _ _ hv,owned_setCell ho (owned_apart ho hv (by decide)) _,owned_setCell he (owned_apart he hv (by decide)) _⟩,Mild.setCell hv (.inl rfl) h1 _⟩
theorem LMid.setTotal (h:LMid w base B bs es many total) (m:Int):LMid (w.setCell ⟨B,3,none⟩ (.int .i64 m)) base B bs es many m∧Mild base w (w.setCell ⟨B,3,none⟩ (.int .i64 m)):=by
 obtain ⟨h1,vb,ve,hv,ho,he⟩:=h
 exact ⟨⟨h1,vb,ve,heap_setCell_same w B 3 _ _ _ hv,owned_setCell ho (owned_apart ho hv (by decide)) _,owned_setCell he (owned_apart he hv (by decide)) _⟩,Mild.setCell hv (.inl rfl) h1 _⟩
theorem LMid.pushed {vb ve v':Value} {w0 w1:World} {x:Int} {z:Nat} (hB:base≤B) (hv:w.heap[B]?=some (.cells #[vb,ve,.int .i64 many,.int .i64 total] 113 (0,0))) (ho:w.ownsRow base 5 1 vb bs.length (Lib.byteCells bs)) (he:w.ownsRow base 119 2 ve es.length (endCells es))
  (hb:Below w.heap.size w w0) (hg:w0.grownBy w1 ve.ownBlock) (hown:w1.ownsRow base 119 2 v' (es.length+1) (endCells es++[.int .i64 x,.int .i64 (z:Int)])):
  w1.heap[B]?=some (.cells #[vb,ve,.int .i64 many,.int .i64 total] 113 (0,0))∧LMid (w1.setCell ⟨B,1,none⟩ v') base B bs (es++[(x,z)]) many total∧Mild base w (w1.setCell ⟨B,1,none⟩ v'):=by
 have hlt:B<w.heap.size:=(Array.getElem?_eq_some_iff.1 hv).1
 have hv0:=(hb.block B hlt).trans hv
 have he0:=owned_below he hb
 have ho0:=owned_below ho hb
 have hv1:w1.heap[B]?=some (.cells #[vb,ve,.int .i64 many,.int .i64 total] 113 (0,0)):=(hg.block B (by have :=hb.size;omega) (fun e=>owned_apart he0 hv0 (by decide) e.symm)).trans hv0
 have ho1:w1.ownsRow base 5 1 vb bs.length (Lib.byteCells bs):=owned_keep ho0 fun g hg'=>hg.block g (ho0.lt g hg').2 fun e=>owned_apart2 he0 ho0 (by decide) hg' e.symm
 refine ⟨hv1,⟨hB,vb,v',heap_setCell_same w1 B 1 _ _ _ hv1,owned_setCell ho1 (owned_apart ho1 hv1 (by decide)) _,?_⟩,?_⟩
 ·refine owned_setCell ?_ (owned_apart hown hv1 (by decide)) _
  rw [endCells_append,List.length_append,List.length_singleton]
  exact hown
 ·have hbw:base≤w.heap.size:=by omega
  exact (Mild.of_below hb hbw).trans ((Mild.grownOwn he0 (.inr (.inl rfl)) hg (by have :=hb.size;omega)).trans (Mild.setCell hv1 (.inl rfl) hB _))
end
end Go.Proofs.YtmoomnpbiifedaaGreat
set_option linter.unusedVariables false
namespace Go.Proofs.YtmoomnpbiifedaaGreat
open Go Go.RowKit
def Told {α:Type} (n:Nat) (P:Program) (g:Nat) (lb:Array Value) (encs:α→Array Value) (Kp:World→World→Prop) (Ok:List α→α→World→Prop) (S:List α→Prop) (w:World):Prop:=
 ∀ (l:Nat) (J:List α→World→Prop) (W:World),Below w.heap.size w W→(∀ s A B,J s A→Below A.heap.size A B→J s B)→
  (∀ pre x W1,J pre W1→Ok pre x W1→YieldAt Fence.wide (n-1) P l (encs x) W1 fun e W'=>e= .returned (.bool true)∧J (pre++[x]) W'∧Kp W1 W')→
  J [] W→CallsIn Fence.wide n P g (#[.func (.yield l) #[] #[]]++lb) W fun e W'=>(∃ v,e= .returned v)∧∃ xs,S xs∧J xs W'
def Firm (B:Nat) (p:World→Prop):Prop:=∀ W l (o o':Obj),B≤l→W.heap[l]?=some o→o.isCells=false→p W→p (W.putObj l o')
variable {n:Nat} {P:Program}
theorem wpIn_range_told {α:Type} {g:Operand} {ps:Array Tmp} {assign body:Code} {Q:Exit→Act→World→Prop} {a:Act} {w:World} (h1:1≤n) {gf:Nat} {lb:Array Value} (hg:a.eval g= .func (.func gf) #[] lb)
  (eg:∀ args w,(callFunc gf args).run P w= .ok (.enter gf args) w) {encs:α→Array Value} {Kp:World→World→Prop} {Ok:List α→α→World→Prop} {S:List α→Prop} (hseq:Told (n-1) P gf lb encs Kp Ok S w)
  (hKt:∀ {A B C:World},Kp A B→Kp B C→Kp A C) (hKp:∀ (W:World) (l:Nat) (o o':Obj),w.heap.size≤l→W.heap[l]?=some o→o.isCells=false→Kp W (W.putObj l o')) (hps:∀ x,(encs x).size=ps.size)
  (I:List α→World→Prop) (hIb:∀ s A B,I s A→Below A.heap.size A B→I s B) (hIp:∀ s,Firm w.heap.size (I s)) (hOk:∀ s x,Firm w.heap.size (Ok s x)) (h0:I [] w) (a₁:α→Act)
  (hassign:∀ (l:Nat) (x:α) (W:World) (K:Act→World→Prop),K (a₁ x) W→assign.wpIn (Fence.wide.inRound l) (n-1-1) P (Exit.then K (fun _ _ _=>False)) {tmps:=(ps.zip (encs x)).foldl (fun t (p,v)=>t.setIfInBounds p v) a.tmps,defers:=[]} W)
  (hbody:∀ (l:Nat) (pre:List α) (x:α) (W:World),I pre W→Ok pre x W→body.wpIn (Fence.wide.inRound l) (n-1-1) P (ownPostK Kp I (fun _ _ _=>False) (pre++[x]) W) (a₁ x) W)
  (hdone:∀ (D:Nat) (xs:List α) (W:World),w.heap.size≤D→S xs→I xs W→W.heap[D]?=some (.deferred (some []))→Q .normal {a with defers:={target:= .collected D,args:=#[]}::a.defers} W):
  (Code.rangeFunc g ps assign body).wpIn Fence.wide n P Q a w:=by
 refine wpIn_rangeFunc fun fn hfn=> ?_
 have enter:=run_enterLoop_outer (P:=P) (w:=w) fn a.tmps ps assign body
 obtain ⟨D,hD⟩:∃ D,D=w.heap.size:=⟨_,rfl⟩
 obtain ⟨st,hst⟩:∃ st:LoopState→Loop,st=fun s=>{state:=s,pending:=none,fn:=fn,tmps:=a.tmps,params:=ps,assign:=assign,body:=body,defers:=w.heap.size}:=⟨_,rfl⟩
 obtain ⟨V,hV⟩:∃ V,V=(w.alloc (.deferred (some []))).alloc (.loop (st .ready)):=⟨_,rfl⟩
 have enter':(Instr.enterLoop fn a.tmps ps assign body Fence.wide.round).run P w= .ok (D+1,[{target:= .collected D,args:=#[]}]) V:=by rw [hV,hst,hD];exact enter
 have bel:Below w.heap.size w V:=by rw [hV];exact ((Below.refl _ w).alloc (Nat.le_refl _) _).alloc (by simp) _
 have hdV:V.heap[D]?=some (.deferred (some [])):=by rw [hV,hD];exact (Below.heap_alloc _ _ _ (by simp)).trans (World.alloc_heap_new w _)
 have hlV:V.heap[D+1]?=some (.loop (st .ready)):=by
  have :=World.alloc_heap_new (w.alloc (.deferred (some []))) (.loop (st .ready))
  rwa [World.size_alloc,← hV,← hD] at this
 have stay:∀ (s:List α) (A B:World),(I s A∧A.heap[D+1]?=some (.loop (st .ready))∧A.heap[D]?=some (.deferred (some [])))→Below A.heap.size A B→(I s B∧B.heap[D+1]?=some (.loop (st .ready))∧B.heap[D]?=some (.deferred (some []))):=by
  rintro s A B ⟨i1,i2,i3⟩ hb
  exact ⟨hIb s A B i1 hb,(hb.block _ (Array.getElem?_eq_some_iff.1 i2).1).trans i2,(hb.block _ (Array.getElem?_eq_some_iff.1 i3).1).trans i3⟩
 have round:∀ (pre:List α) (x:α) (A:World),(I pre A∧A.heap[D+1]?=some (.loop (st .ready))∧A.heap[D]?=some (.deferred (some [])))→Ok pre x A→
   YieldAt Fence.wide (n-1-1) P (D+1) (encs x) A fun e B=>e= .returned (.bool true)∧(I (pre++[x]) B∧B.heap[D+1]?=some (.loop (st .ready))∧B.heap[D]?=some (.deferred (some [])))∧Kp A B:=by
  rintro pre x A ⟨i1,i2,i3⟩ hx
  have hl:D+1<A.heap.size:=(Array.getElem?_eq_some_iff.1 i2).1
  have y:=run_yield (P:=P) (args:=encs x) i2 (by rw [hst];exact hps x)
  have beg:=run_beginRound (P:=P) i2 (by rw [hst])
  rw [hst] at y
  refine ⟨fn,_,assign,body,y,roundIn_of_wpIn hfn (hassign _ x A _ ⟨_,beg,?_⟩)⟩
  obtain ⟨A1,hA1⟩:∃ A1,A1=A.putObj (D+1) (.loop {st .ready with state:= .busy}):=⟨_,rfl⟩
  rw [← hA1]
  have l1:A1.heap[D+1]?=some (.loop {st .ready with state:= .busy}):=by rw [hA1];exact World.putObj_heap_same hl
  have d1:A1.heap[D]?=some (.deferred (some [])):=by rw [hA1];exact (World.putObj_heap_other (by omega)).trans i3
  have k1:Kp A A1:=by rw [hA1];exact hKp A _ _ _ (by omega) i2 rfl
  have b1:=hbody (D+1) pre x A1 (by rw [hA1];exact hIp pre A _ _ _ (by omega) i2 rfl i1) (by rw [hA1];exact hOk pre x A _ _ _ (by omega) i2 rfl hx)
  refine wpIn_mono b1 ?_
  rintro ex a2 A2 hp
  cases ex with
  |normal=>
   obtain ⟨ko,k2,i4⟩:=hp
   have l2:=ko.same _ _ l1 rfl
   have d2:=ko.same _ _ d1 rfl
   have fin:=run_endRound (P:=P) none l2
   have hl2:D+1<A2.heap.size:=(Array.getElem?_eq_some_iff.1 l2).1
   refine ⟨_,_,fin,rfl,⟨hIp _ A2 _ _ _ (by omega) l2 rfl i4,?_,(World.putObj_heap_other (by omega)).trans d2⟩,hKt (hKt k1 k2) (hKp A2 _ _ _ (by omega) l2 rfl)⟩
   rw [World.putObj_heap_same hl2,hst]
   rfl
  |ret=>exact hp.2.elim
  |exit id=>exact hp.2.elim
  |goto t=>exact hp.2.elim
  |panic c=>exact hp.elim
  |outgrown=>exact hp.elim
 refine ⟨D+1,_,V,{target:= .fn (.func gf) lb,args:=#[.func (.yield (D+1)) #[] #[]]},V,gf,#[.func (.yield (D+1)) #[] #[]]++lb,V,enter',?_,?_,?_,fun _=>h1,?_⟩
 ·simp only [resolve,hg]
  simp [go_sem]
 ·intro f' _
  trivial
 ·simp [invoke,go_sem,eg]
 ·refine (hseq (D+1) _ V bel stay round ⟨hIb [] w V h0 bel,hlV,hdV⟩).mono ?_
  rintro e A ⟨⟨v,rfl⟩,xs,hS,i1,i2,i3⟩
  have fin:=run_endLoop (P:=P) i2 (by rw [hst];simp)
  rw [hst] at fin
  refine ⟨none,_,fin,hdone D xs _ (by omega) hS (hIp xs A _ _ _ (by omega) i2 rfl i1) ((World.putObj_heap_other (by omega)).trans i3)⟩
end Go.Proofs.YtmoomnpbiifedaaGreat
set_option linter.unusedVariables false
namespace Go.Proofs.YtmoomnpbiifedaaGreat
open Go Go.RowKit
def PoK (t:TypeId):Prop:=t=63∨t=3
structure KeptG (b0:Nat) (w w':World):Prop where
 size:w.heap.size≤w'.heap.size
 low:∀ k,k<b0→w'.heap[k]?=w.heap[k]?
 kinds:∀ (k:Nat) (cs:Array Value) (t:TypeId) (fr:Nat × Nat),w.heap[k]?=some (.cells cs t fr)→PoK t→w'.heap[k]?=some (.cells cs t fr)
section
variable {b0 base:Nat} {w w' w'':World} {A:Option Addr} {xs:List Value} {t:TypeId}
theorem KeptG.trans (h:KeptG b0 w w') (k:KeptG b0 w' w''):KeptG b0 w w'':=⟨Nat.le_trans h.size k.size,fun i hi=>(k.low i hi).trans (h.low i hi),fun i cs t fr hi ht=>k.kinds i cs t fr (h.kinds i cs t fr hi ht) ht⟩
theorem KeptG.of_below (hb:Below w.heap.size w w') (h0:b0≤w.heap.size):KeptG b0 w w':=⟨hb.size,fun k hk=>hb.block k (by omega),fun k cs t fr hk _=>(hb.block k (Array.getElem?_eq_some_iff.1 hk).1).trans hk⟩
theorem KeptG.setCell {P o:Nat} {cs:Array Value} {fr:Nat × Nat} (hP:w.heap[P]?=some (.cells cs t fr)) (h0:b0≤P) (ht:¬ PoK t) (v:Value):KeptG b0 w (w.setCell ⟨P,o,none⟩ v):=
 ⟨by simp,fun k hk=>Below.heap_setCell _ _ _ _ (by show k≠P;omega),fun k cs' t' fr' hk ht'=>(Below.heap_setCell _ _ _ _ (by rintro rfl;rw [hP] at hk;injection hk with hk;injection hk with _ e _;subst e;exact ht ht')).trans hk⟩
theorem KeptG.grown {E:TypeId} {size n:Nat} {v:Value} (hv:w.ownsRow base E size v n xs) (h0:b0≤base) (hE:¬ PoK E) (hg:w.grownBy w' v.ownBlock) (hs:base≤w.heap.size):KeptG b0 w w':=
 ⟨hg.size,fun k hk=>hg.block k (by omega) (fun e=>by have :=(hv.lt k e.symm).1;omega),fun k cs t fr hk ht=>(hg.block k (Array.getElem?_eq_some_iff.1 hk).1 (fun e=>owned_apart hv hk (fun e=>hE (e▸ht)) e.symm)).trans hk⟩
def RowG (b0:Nat) (t:TypeId) (w:World) (A:Option Addr) (xs:List Value):Prop:=xs=[]∨∃ b off,A=some ⟨b,off,none⟩∧b<w.heap.size∧(b<b0∨∃ cs fr,w.heap[b]?=some (.cells cs t fr))∧∀ j u,xs[j]?=some u→w.cell? ⟨b,off+j,none⟩=some u
theorem RowG.keep (h:RowG b0 t w A xs) (ht:PoK t) (hk:KeptG b0 w w'):RowG b0 t w' A xs:=by
 rcases h with h|⟨b,off,e,hb,hc,hx⟩
 ·exact .inl h
 ·have hblk:w'.heap[b]?=w.heap[b]?:=by
   rcases hc with hc|⟨cs,fr,hc⟩
   ·exact hk.low b hc
   ·rw [hk.kinds b cs t fr hc ht,hc]
  exact .inr ⟨b,off,e,Nat.lt_of_lt_of_le hb hk.size,hc.imp id fun ⟨cs,fr,hc⟩=>⟨cs,fr,by rw [hblk,hc]⟩,fun j u hu=>by rw [World.cell?_of_block (a:=⟨b,off+j,none⟩) hblk];exact hx j u hu⟩
theorem RowG.row (h:RowG b0 t w A xs):Row w w.heap.size A xs:=by
 rcases h with h|⟨b,off,e,hb,_,hx⟩
 ·exact .inl h
 ·exact .inr ⟨b,off,e,hb,hx⟩
theorem RowG.of_own {size n c:Nat} (h:w.ownsRow base t size (.slice A n c) n xs):RowG b0 t w A xs:=by
 rcases h.2 with ⟨hv,hn⟩|⟨g,cap,cur,hv,hg,hh,_⟩
 ·exact .inl (List.eq_nil_of_length_eq_zero (by rw [h.1,hn];simp))
 ·injection hv with h1 h2 h3
  subst h1
  rcases owned_row_of h with h0|⟨b,off,e,hb,hc⟩
  ·exact .inl h0
  ·injection e with e
   injection e with e1 e2
   subst e1 e2
   exact .inr ⟨g,0,rfl,hb,.inr ⟨_,_,hh⟩,hc⟩
def PostsG (b0:Nat) (w:World) (A:Option Addr) (l:List Pn):Prop:=∃ cs,PoCells (RowG b0 3 w) l cs∧RowG b0 63 w A cs
theorem PostsG.keep {l:List Pn} (h:PostsG b0 w A l) (hk:KeptG b0 w w'):PostsG b0 w' A l:=by
 obtain ⟨cs,h1,h2⟩:=h
 exact ⟨cs,h1.imp fun _ _ h=>h.keep (.inr rfl) hk,h2.keep (.inl rfl) hk⟩
theorem PostsG.posts {l:List Pn} (h:PostsG b0 w A l):Posts w w.heap.size A l:=by
 obtain ⟨cs,h1,h2⟩:=h
 exact ⟨cs,h1.imp fun _ _ h=>h.row,h2.row⟩
def LG (b0:Nat) (w:World) (ls:List (List Pn)) (cs:List Value):Prop:=cs.length=ls.length∧∀ i (h:i<ls.length),∃ A c,cs[i]?=some (.slice A ls[i].length c)∧(ls[i].length≤c∧c≤maxLen)∧PostsG b0 w A ls[i]
theorem LG.nil:LG b0 w [] []:=⟨rfl,fun i h=>by simp at h⟩
theorem LG.keep {ls:List (List Pn)} {cs:List Value} (h:LG b0 w ls cs) (hk:KeptG b0 w w'):LG b0 w' ls cs:=⟨h.1,fun i hi=>by obtain ⟨A,c,h1,h2,h3⟩:=h.2 i hi;exact ⟨A,c,h1,h2,h3.keep hk⟩⟩
theorem LG.cells {ls:List (List Pn)} {cs:List Value} (h:LG b0 w ls cs):LCells w w.heap.size ls cs:=⟨h.1,fun i hi=>by obtain ⟨A,c,h1,h2,h3⟩:=h.2 i hi;exact ⟨A,c,h1,h2,h3.posts⟩⟩
theorem LG.snoc {ls:List (List Pn)} {cs:List Value} (h:LG b0 w ls cs) {l:List Pn} {A:Option Addr} {c:Nat} (hc:l.length≤c∧c≤maxLen) (hp:PostsG b0 w A l):LG b0 w (ls++[l]) (cs++[.slice A l.length c]):=by
 refine ⟨by simp [h.1],fun i hi=> ?_⟩
 by_cases hlt:i<ls.length
 ·obtain ⟨A',c',h1,h2,h3⟩:=h.2 i hlt
  rw [List.getElem_append_left hlt,List.getElem?_append_left (by rw [h.1];exact hlt)]
  exact ⟨A',c',h1,h2,h3⟩
 ·have hi':i<ls.length+1:=by simpa using hi
  have e:i=ls.length:=by omega
  subst e
  have e1:(ls++[l])[ls.length]'(by simp)=l:=by simp
  have e2:(cs++[Value.slice A l.length c])[ls.length]?=some (.slice A l.length c):=by rw [← h.1];simp
  rw [e1]
  exact ⟨A,c,e2,hc,hp⟩
theorem owned_beside {b1 b2:Nat} {E1 E2:TypeId} {s1 s2 n1 n2:Nat} {v1 v2:Value} {xs1 xs2:List Value} (h1:w.ownsRow b1 E1 s1 v1 n1 xs1) (h2:w.ownsRow b2 E2 s2 v2 n2 xs2) (hE:E2≠E1) (hg:w.grownBy w' v2.ownBlock):w'.ownsRow b1 E1 s1 v1 n1 xs1:=
 owned_keep h1 fun g hu=>hg.block g (h1.lt g hu).2 fun e=>owned_apart2 h2 h1 hE hu e.symm
end
theorem info_lists:(Tryz.prog.info? 58).map (fun i=>(i.zero,i.size,i.bytes))=some (some (.slice none 0 0),1,24):=by kernel_rfl
section
variable {T:TypeId} {b0 base P:Nat} {v1 v2 v3 v4:Value} {ks:List Nm} {ls:List (List Pn)} {w w':World}
theorem four10 {x y z u:Value} {t:TypeId} {b:Nat} (h:w.heap[b]?=some (.cells #[x,y,z,u] t (0,0))):
  (w.cell? ⟨b,0,none⟩=some x∧w.cell? ⟨b,1,none⟩=some y∧w.cell? ⟨b,2,none⟩=some z∧w.cell? ⟨b,3,none⟩=some u)∧
   w.frozen? ⟨b,0,none⟩=false∧w.frozen? ⟨b,1,none⟩=false∧w.frozen? ⟨b,2,none⟩=false∧w.frozen? ⟨b,3,none⟩=false:=by
 simp [World.cell?,World.frozen?,h]
end
end Go.Proofs.YtmoomnpbiifedaaGreat
set_option linter.unusedVariables false
namespace Go.Proofs.YtmoomnpbiifedaaGreat
open Go Go.RowKit
section
variable {p:Prop × Nat} {X:Nat→Prop} {w w' w'':World}
end
end Go.Proofs.YtmoomnpbiifedaaGreat
set_option linter.unusedVariables false
namespace Go.Proofs.YtmoomnpbiifedaaGreat
open Go Go.RowKit
structure GatI (T:TypeId) (b0 base P:Nat) (v1 v2:Value) (xs ys:List Int) (w:World):Prop where
 cells:w.heap[P]?=some (.cells #[v1,v2,.slice none 0 0,.slice none 0 0] T (0,0))
 le:b0≤P
 hbase:b0≤base
 size:base≤w.heap.size
 ids:w.ownsRow base 3 1 v1 xs.length (ints xs)
 seqs:w.ownsRow base 3 1 v2 ys.length (ints ys)
 apart:∀ g,v1.ownBlock=some g→v2.ownBlock≠some g
section
variable {T:TypeId} {b0 base P:Nat} {v1 v2:Value} {xs ys:List Int} {w w':World}
theorem GatI.lt (h:GatI T b0 base P v1 v2 xs ys w):P<w.heap.size:=(Array.getElem?_eq_some_iff.1 h.cells).1
theorem GatI.keep (h:GatI T b0 base P v1 v2 xs ys w) (hk:∀ k,k<w.heap.size→k=P∨v1.ownBlock=some k∨v2.ownBlock=some k→w'.heap[k]?=w.heap[k]?) (hs:w.heap.size≤w'.heap.size):GatI T b0 base P v1 v2 xs ys w':=
 ⟨(hk P h.lt (.inl rfl)).trans h.cells,h.le,h.hbase,Nat.le_trans h.size hs,owned_keep h.ids fun g hg=>hk g (h.ids.lt g hg).2 (.inr (.inl hg)),owned_keep h.seqs fun g hg=>hk g (h.seqs.lt g hg).2 (.inr (.inr hg)),h.apart⟩
theorem GatI.below (h:GatI T b0 base P v1 v2 xs ys w) (hb:Below w.heap.size w w'):GatI T b0 base P v1 v2 xs ys w':=h.keep (fun k hk _=>hb.block k hk) hb.size
theorem GatI.id (h:GatI T b0 base P v1 v2 xs ys w) (hT:T≠3) {v':Value} {x:Int} (hown:w'.ownsRow base 3 1 v' (xs.length+1) (ints xs++[.int .i64 x])) (hg:w.grownBy w' v1.ownBlock) (hat:v'.ownBlock=v1.ownBlock∨v'.ownBlock=some w.heap.size):
  w'.heap[P]?=some (.cells #[v1,v2,.slice none 0 0,.slice none 0 0] T (0,0))∧GatI T b0 base P v' v2 (xs++[x]) ys (w'.setCell ⟨P,0,none⟩ v')∧Below b0 w (w'.setCell ⟨P,0,none⟩ v')∧∀ k,k<w.heap.size→k≠P→v1.ownBlock≠some k→(w'.setCell ⟨P,0,none⟩ v').heap[k]?=w.heap[k]?:=by
 have hlt:=h.lt
 obtain ⟨h1,h2,h3,h4,h5,h6,h7⟩:=h
 have hP:w'.heap[P]?=some (.cells #[v1,v2,.slice none 0 0,.slice none 0 0] T (0,0)):=(hg.block P hlt (fun e=>owned_apart h5 h1 hT e.symm)).trans h1
 refine ⟨hP,⟨by simpa using heap_setCell_same w' P 0 _ _ v' hP,h2,h3,by have :=hg.size;simp;omega,?_,?_,fun g hg' e=> ?_⟩,((Below.refl b0 w).grown hg (Nat.le_trans h3 h4) fun k hk=>by have :=(h5.lt k hk).1;omega).setCell (p:=⟨P,0,none⟩) h2 v',fun k hk hkP hkv=>(Below.heap_setCell _ _ _ _ (show k≠P from hkP)).trans (hg.block k hk (fun e=>hkv e.symm))⟩
 ·have :=owned_keep (w':=w'.setCell ⟨P,0,none⟩ v') hown fun g hg'=>Below.heap_setCell _ _ _ _ (fun e=>owned_apart hown hP hT (by rw [hg',e]))
  rw [List.length_append,List.length_singleton]
  simpa [ints] using this
 ·have h6':w'.ownsRow base 3 1 v2 ys.length (ints ys):=owned_keep h6 fun g hg'=>hg.block g (h6.lt g hg').2 fun e=>h7 g e.symm hg'
  exact owned_keep h6' fun g hg'=>Below.heap_setCell _ _ _ _ (fun e=>owned_apart h6' hP hT (by rw [hg',e]))
 ·rcases hat with hat|hat
  ·exact h7 g (hat▸hg') e
  ·rw [hat] at hg'
   injection hg' with hg'
   have :=(h6.lt g e).2
   omega
theorem GatI.seq (h:GatI T b0 base P v1 v2 xs ys w) (hT:T≠3) {v':Value} {x:Int} (hown:w'.ownsRow base 3 1 v' (ys.length+1) (ints ys++[.int .i64 x])) (hg:w.grownBy w' v2.ownBlock) (hat:v'.ownBlock=v2.ownBlock∨v'.ownBlock=some w.heap.size):
  w'.heap[P]?=some (.cells #[v1,v2,.slice none 0 0,.slice none 0 0] T (0,0))∧GatI T b0 base P v1 v' xs (ys++[x]) (w'.setCell ⟨P,1,none⟩ v')∧Below b0 w (w'.setCell ⟨P,1,none⟩ v')∧∀ k,k<w.heap.size→k≠P→v2.ownBlock≠some k→(w'.setCell ⟨P,1,none⟩ v').heap[k]?=w.heap[k]?:=by
 have hlt:=h.lt
 obtain ⟨h1,h2,h3,h4,h5,h6,h7⟩:=h
 have hP:w'.heap[P]?=some (.cells #[v1,v2,.slice none 0 0,.slice none 0 0] T (0,0)):=(hg.block P hlt (fun e=>owned_apart h6 h1 hT e.symm)).trans h1
 refine ⟨hP,⟨by simpa using heap_setCell_same w' P 1 _ _ v' hP,h2,h3,by have :=hg.size;simp;omega,?_,?_,fun g hg' e=> ?_⟩,((Below.refl b0 w).grown hg (Nat.le_trans h3 h4) fun k hk=>by have :=(h6.lt k hk).1;omega).setCell (p:=⟨P,1,none⟩) h2 v',fun k hk hkP hkv=>(Below.heap_setCell _ _ _ _ (show k≠P from hkP)).trans (hg.block k hk (fun e=>hkv e.symm))⟩
 ·have h5':w'.ownsRow base 3 1 v1 xs.length (ints xs):=owned_keep h5 fun g hg'=>hg.block g (h5.lt g hg').2 fun e=>h7 g hg' e.symm
  exact owned_keep h5' fun g hg'=>Below.heap_setCell _ _ _ _ (fun e=>owned_apart h5' hP hT (by rw [hg',e]))
 ·have :=owned_keep (w':=w'.setCell ⟨P,1,none⟩ v') hown fun g hg'=>Below.heap_setCell _ _ _ _ (fun e=>owned_apart hown hP hT (by rw [hg',e]))
  rw [List.length_append,List.length_singleton]
  simpa [ints] using this
 ·rcases hat with hat|hat
  ·exact h7 g hg' (hat▸e)
  ·rw [hat] at e
   injection e with e
   have :=(h5.lt g hg').2
   omega
end
structure GatL (T:TypeId) (b0 base P:Nat) (v1 v2 v3 v4:Value) (ks:List Nm) (ls:List (List Pn)) (w:World):Prop where
 cells:w.heap[P]?=some (.cells #[v1,v2,v3,v4] T (0,0))
 le:b0≤P
 hbase:b0≤base
 size:base≤w.heap.size
 keys:∃ bk,w.ownsRow bk 9 1 v3 ks.length (strs ks)
 lists:∃ cs,w.ownsRow base 58 1 v4 ls.length cs∧LG b0 w ls cs
section
variable {T:TypeId} {b0 base P:Nat} {v1 v2 v3 v4:Value} {xs ys:List Int} {ks:List Nm} {ls:List (List Pn)} {w w':World}
theorem GatL.lt (h:GatL T b0 base P v1 v2 v3 v4 ks ls w):P<w.heap.size:=(Array.getElem?_eq_some_iff.1 h.cells).1
theorem GatL.below (h:GatL T b0 base P v1 v2 v3 v4 ks ls w) (hb:Below w.heap.size w w'):GatL T b0 base P v1 v2 v3 v4 ks ls w':=by
 have hlt:=h.lt
 obtain ⟨h1,h2,h3,h4,⟨bk,h5⟩,cs,h6,h7⟩:=h
 exact ⟨(hb.block P hlt).trans h1,h2,h3,Nat.le_trans h4 hb.size,⟨bk,owned_below h5 hb⟩,cs,owned_below h6 hb,h7.keep (.of_below hb (by omega))⟩
theorem GatL.list (h:GatL T b0 base P v1 v2 v3 v4 ks ls w) (hT:¬ PoK T) (hT1:T≠9) (hT2:T≠58) {v':Value} {l:List Pn} {A:Option Addr} {c:Nat} (hc:l.length≤c∧c≤maxLen) (hp:PostsG b0 w A l) {cs:List Value} (h6:w.ownsRow base 58 1 v4 ls.length cs) (h7:LG b0 w ls cs)
  (hown:w'.ownsRow base 58 1 v' (ls.length+1) (cs++[.slice A l.length c])) (hg:w.grownBy w' v4.ownBlock):
  w'.heap[P]?=some (.cells #[v1,v2,v3,v4] T (0,0))∧GatL T b0 base P v1 v2 v3 v' ks (ls++[l]) (w'.setCell ⟨P,3,none⟩ v')∧Below b0 w (w'.setCell ⟨P,3,none⟩ v')∧KeptG b0 w (w'.setCell ⟨P,3,none⟩ v')∧
   (∀ k,k<base→k≠P→(w'.setCell ⟨P,3,none⟩ v').heap[k]?=w.heap[k]?)∧∀ (k:Nat) (cs:Array Value) (t:TypeId) (fr:Nat × Nat),k≠P→w.heap[k]?=some (.cells cs t fr)→t≠58→(w'.setCell ⟨P,3,none⟩ v').heap[k]?=some (.cells cs t fr):=by
 have hlt:=h.lt
 obtain ⟨h1,h2,h3,h4,⟨bk,h5⟩,_⟩:=h
 have hP:w'.heap[P]?=some (.cells #[v1,v2,v3,v4] T (0,0)):=(hg.block P hlt (fun e=>owned_apart h6 h1 hT2 e.symm)).trans h1
 have hk1:KeptG b0 w w':=KeptG.grown h6 h3 (by unfold PoK;decide) hg h4
 have hk2:KeptG b0 w' (w'.setCell ⟨P,3,none⟩ v'):=KeptG.setCell hP h2 hT v'
 refine ⟨hP,⟨by simpa using heap_setCell_same w' P 3 _ _ v' hP,h2,h3,by have :=hk1.size;simp;omega,⟨bk,?_⟩,cs++[.slice A l.length c],?_,(h7.snoc hc hp).keep (hk1.trans hk2)⟩,((Below.refl b0 w).grown hg (Nat.le_trans h3 h4) fun k hk=>by have :=(h6.lt k hk).1;omega).setCell (p:=⟨P,3,none⟩) h2 v',hk1.trans hk2,
  fun k hk hkP=>(Below.heap_setCell _ _ _ _ (show k≠P from hkP)).trans (hg.block k (by omega) (fun e=>by have :=(h6.lt k e.symm).1;omega)),
  fun k cs' t fr hkP hk ht=>(Below.heap_setCell _ _ _ _ (show k≠P from hkP)).trans ((hg.block k (Array.getElem?_eq_some_iff.1 hk).1 (fun e=>owned_apart h6 hk ht e.symm)).trans hk)⟩
 ·have h5':=owned_beside h5 h6 (by decide) hg
  exact owned_keep h5' fun g hg'=>Below.heap_setCell _ _ _ _ (fun e=>owned_apart h5' hP hT1 (by rw [hg',e]))
 ·rw [List.length_append,List.length_singleton]
  exact owned_keep hown fun g hg'=>Below.heap_setCell _ _ _ _ (fun e=>owned_apart hown hP hT2 (by rw [hg',e]))
theorem GatL.rows {A3 A4:Option Addr} {n3 c3 n4 c4:Nat} (h:GatL T b0 base P v1 v2 (.slice A3 n3 c3) (.slice A4 n4 c4) ks ls w):Row w w.heap.size A3 (strs ks)∧LPosts w w.heap.size A4 ls:=by
 obtain ⟨_,_,_,_,⟨_,h5⟩,cs,h6,h7⟩:=h
 exact ⟨owned_row_of h5,cs,h7.cells,owned_row_of h6⟩
theorem GatI.lists (h:GatI T b0 base P v1 v2 xs ys w) (hT:¬ PoK T) (hT1:T≠9) {bk:Nat} {v3:Value} {ks:List Nm} (hk:w.ownsRow bk 9 1 v3 ks.length (strs ks)):
    GatL T b0 w.heap.size P v1 v2 v3 (.slice none 0 0) ks [] (w.setCell ⟨P,2,none⟩ v3)∧KeptG b0 w (w.setCell ⟨P,2,none⟩ v3)∧Below b0 w (w.setCell ⟨P,2,none⟩ v3):=
  ⟨⟨by simpa using heap_setCell_same w P 2 _ _ v3 h.cells, h.le, by have := h.hbase; have := h.size; omega, by simp, ⟨bk, owned_keep hk fun g hg => Below.heap_setCell _ _ _ _ (fun e => owned_apart hk h.cells hT1 (by rw [hg, e]))⟩, [], World.ownsRow_nil _ _ _ _, LG.nil⟩,
    KeptG.setCell h.cells h.le hT v3,(Below.refl b0 w).setCell (p:=⟨P,2,none⟩) h.le v3⟩
theorem GatI.rowG (h:GatI T b0 base P v1 v2 xs ys w):∃ A1 c1 A2 c2,v1= .slice A1 xs.length c1∧v2= .slice A2 ys.length c2∧xs.length≤c1∧ys.length≤c2∧RowG b0 3 w A1 (ints xs)∧RowG b0 3 w A2 (ints ys):=by
 have h5:=h.ids
 have h6:=h.seqs
 obtain ⟨A1,c1,e1,hc1,_⟩:=owned_row h5
 obtain ⟨A2,c2,e2,hc2,_⟩:=owned_row h6
 subst e1 e2
 exact ⟨A1,c1,A2,c2,rfl,rfl,hc1,hc2,.of_own h5,.of_own h6⟩
end
end Go.Proofs.YtmoomnpbiifedaaGreat
namespace Go.Proofs.YtmoomnpbiifedaaGreat
open Go Go.RowKit
set_option linter.unusedVariables false
def RiseRel10 (l:List Nm) (w:World) (r i:Value) (wr:World):Prop:=r= .bool false∧∃ k:Nat,1≤k∧i= .int .i64 (k:Int)∧Below w.heap.size w wr∧∀ j (hj:j<l.length),0<j→j<k→l[j-1]<l[j]
end Go.Proofs.YtmoomnpbiifedaaGreat
namespace Go.Proofs.YtmoomnpbiifedaaGreat
open Go Go.RowKit
set_option linter.unusedVariables false
set_option maxHeartbeats 1000000 in
set_option maxRecDepth 100000 in
theorem dict_rise (A:Option Addr) (m c:Nat) (l:List Nm) (w:World) (hr:Row w w.heap.size A (strs l)) (hm:l.length=m) (hl:m≤1073741824):
  Calls Tryz.prog 66 #[.slice A m c] w fun e w'=>e= .returned (.bool (risesN l))∧Below w.heap.size w w':=by
 have HR:=Lib.hid hr
 clear hr
 subst hm
 obtain ⟨ans,hans⟩:∃ ans,ans=risesN l:=⟨_,rfl⟩
 rw [← hans]
 have HA:=Lib.hid hans
 clear hans
 go_enter Tryz.func66,Tryz.ntmps66
 go_wp2
 go_loopw [2,3] (fun r i wr=>RiseRel10 l w r i wr) (fun _ i _=>l.length-(intOf i).toNat)
 case atStart=>exact ⟨rfl,1,by omega,rfl,Below.refl _ _,fun j _ _ _=>by omega⟩
 case round=>
  obtain ⟨rfl,k,hk,rfl,hbw,hall⟩:=hrel
  by_cases hlt:k<l.length
  ·obtain ⟨b1,o1,e1,_,hc1⟩:=row_nm (HR.out.below hbw) hlt
   subst e1
   have hc0:wr.cell? ⟨b1,o1+(k-1),none⟩=some (.string ⟨l[k-1].toArray⟩):=by
    obtain ⟨b2,o2,e2,_,hc2⟩:=row_nm (HR.out.below hbw) (k:=k-1) (by omega)
    injection e2 with e2
    injection e2 with e3 e4
    subst e3 e4
    exact hc2
   obtain ⟨x,hx,hx2⟩:=as_text l[k]
   obtain ⟨y,hy,hy2⟩:=as_text l[k-1]
   rw [← hx] at hc1
   rw [← hy] at hc0
   obtain ⟨j,hj⟩:∃ j,j=k-1:=⟨_,rfl⟩
   have hw:IntKind.i64.wrap ((k:Int)-1)=(j:Int):=by rw [IntWalk.i64_in _ (by omega)];omega
   have hjl:j<l.length:=by omega
   rw [← hj] at hc0
   by_cases hxy:l[k-1]<l[k]
   ·have t1:=less_true (s:=y) (t:=x) (by rw [hx2,hy2];exact hxy)
    have HN:Hid (∀ j (hj:j<l.length),0<j→j<k+1→l[j-1]<l[j]):=Lib.hid fun j hj h0 hjk=>by
     by_cases e:j=k
     ·subst e;exact hxy
     ·exact hall j hj h0 (by omega)
    clear hx hx2 hy hy2 hj hall hxy
    go_wp2
    go_quiet (fail)
    go_wp2
    go_roundw
    case rel=>exact ⟨rfl,k+1,by omega,by go_num,hbw.trans ⟨rfl,rfl,rfl,Nat.le_refl _,fun _ _=>rfl⟩,HN.out⟩
    case measure=>simp [intOf];omega
   ·have hbad:ans=false:=by rw [HA.out];exact rise_bad hlt (by omega) hxy
    subst hbad
    have t1:=less_false (s:=y) (t:=x) (by rw [hx2,hy2];exact hxy)
    clear hx hx2 hy hy2 hj hall hxy
    go_wp2
    go_quiet (fail)
    go_wp2
    go_ret
    exact ⟨rfl,hbw.trans ⟨rfl,rfl,rfl,Nat.le_refl _,fun _ _=>rfl⟩⟩
  ·have hgood:ans=true:=by rw [HA.out];exact rise_good fun i hi h0=>hall i hi h0 (by omega)
   subst hgood
   clear hall
   go_wp2
   go_ret
   exact ⟨rfl,hbw⟩
end Go.Proofs.YtmoomnpbiifedaaGreat
set_option linter.unusedVariables false
namespace Go.Proofs.YtmoomnpbiifedaaGreat
open Go Go.RowKit
abbrev Sl:=Option Addr × Nat × Nat
def entQ:List Nm→List Sl→List Value
 |x::l,v::vs=> .string ⟨x.toArray⟩:: .slice v.1 v.2.1 v.2.2::entQ l vs
 |_,_=>[]
theorem entQ_nil (vs:List Sl):entQ [] vs=[]:=by cases vs<;>rfl
theorem entQ_snoc:∀ {l:List Nm} {vs:List Sl} {x:Nm} {v:Sl},vs.length=l.length→entQ (l++[x]) (vs++[v])=entQ l vs++[.string ⟨x.toArray⟩,.slice v.1 v.2.1 v.2.2]
 |[],[],x,v,_=>rfl
 |[],_::_,_,_,h=>by simp at h
 |_::_,[],_,_,h=>by simp at h
 |y::l,u::vs,x,v,h=>by
  have :=entQ_snoc (l:=l) (vs:=vs) (x:=x) (v:=v) (by simpa using h)
  simp only [List.cons_append,entQ,this]
theorem info_entryQ:(Tryz.prog.info? 128).map (fun i=>(i.zero,i.size,i.bytes))=some (some (.agg #[.string ByteArray.empty,.slice none 0 0]),2,40):=by kernel_rfl
def sls (vs:List Sl):List Value:=vs.map fun v=> .slice v.1 v.2.1 v.2.2
theorem row_sl {w:World} {B:Nat} {A:Option Addr} {l:List Sl} {k:Nat} (h:Row w B A (sls l)) (hk:k<l.length):∃ b off,A=some ⟨b,off,none⟩∧b<B∧w.cell? ⟨b,off+k,none⟩=some (.slice l[k].1 l[k].2.1 l[k].2.2):=by
 obtain ⟨b,off,rfl,hb,hc⟩:=Row.at_ h (by simp [sls];omega)
 exact ⟨b,off,rfl,hb,hc _ _ (by simp [sls,hk])⟩
def DictAtQ (w:World) (base B:Nat) (l:List Nm) (vs:List Sl):Prop:=
 base≤B∧vs.length=l.length∧∃ v,w.heap[B]?=some (.cells #[v] 126 (0,0))∧w.ownsRow base 128 2 v l.length (entQ l vs)
def MadeDQ (l:List Nm) (vs:List Sl) (w:World) (e:Ending) (w':World):Prop:=∃ B,e= .returned (.tuple #[.pointer (some ⟨B,0,none⟩),.int .i64 0])∧DictAtQ w' w.heap.size B l vs∧Below w.heap.size w w'
def NoneDQ (w:World) (e:Ending) (w':World):Prop:=e= .returned (.tuple #[.pointer none,.int .i64 1])∧Below w.heap.size w w'
set_option maxHeartbeats 1000000 in
set_option maxRecDepth 100000 in
theorem dictQ_Make_no (A A2:Option Addr) (n c m c2:Nat) (l:List Nm) (w:World) (hr:Row w w.heap.size A (strs l)) (hn:l.length=n) (hl:n≤1073741824) (hno:n≠m∨risesN l=false):
  Calls Tryz.prog 28 #[.slice A n c,.slice A2 m c2] w (NoneDQ w):=by
 by_cases hnm:n=m
 ·have hf:risesN l=false:=hno.resolve_left (fun h=>h hnm)
  have c1:=dict_rise A n c l w hr hn hl
  rw [hf] at c1
  have C1:=Lib.hid c1
  subst hnm
  clear c1 hno hf hr hn
  go_enter Tryz.func28,Tryz.ntmps28
  go_wp2_with (go_at_call 66;refine (C1.out).mono ?_;rintro e w1 ⟨rfl,hb⟩)
  go_ret2
  exact ⟨rfl,hb⟩
 ·have e1:((n:Int) != (m:Int))=true:=by simp;omega
  have e2:((n:Int)==(m:Int))=false:=by rw [beq_eq_false_iff_ne];omega
  clear hr hn hno hnm
  go_enter Tryz.func28,Tryz.ntmps28
  go_wp2
  go_ret2
  exact ⟨rfl,Below.refl _ _⟩
def MakeRelQ (B:Nat) (l:List Nm) (vs:List Sl) (w:World) (i:Value) (wr:World):Prop:=
 ∃ (k:Nat) (v:Value),k≤l.length∧i= .int .i64 (k:Int)∧wr.heap[B]?=some (.cells #[v] 126 (0,0))∧wr.ownsRow w.heap.size 128 2 v k (entQ (l.take k) (vs.take k))∧Below w.heap.size w wr
theorem owned_setQ {w:World} {base B:Nat} {e:TypeId} {size:Nat} {v:Value} {n:Nat} {xs:List Value} {cs:Array Value} {t:TypeId} {fr:Nat × Nat} (h:w.ownsRow base e size v n xs) (hB:w.heap[B]?=some (.cells cs t fr)) (ht:t≠e) (o:Nat) (u:Value):(w.setCell ⟨B,o,none⟩ u).ownsRow base e size v n xs:=
 owned_keep h fun g hg=>Below.heap_setCell _ _ _ _ (fun e1=>owned_apart h hB ht (by rw [hg,e1]))
theorem enteredQ {w0 w1:World} {base B n:Nat} {v v':Value} {xs ys:List Value} (hv:w0.heap[B]?=some (.cells #[v] 126 (0,0))) (hown:w0.ownsRow base 128 2 v n xs) (hg:w0.grownBy w1 v.ownBlock) (hown1:w1.ownsRow base 128 2 v' (n+1) ys) (hbase:base≤w0.heap.size) (hB:base≤B):
  w1.heap[B]?=some (.cells #[v] 126 (0,0))∧(w1.setCell ⟨B,0,none⟩ v').heap[B]?=some (.cells #[v'] 126 (0,0))∧(w1.setCell ⟨B,0,none⟩ v').ownsRow base 128 2 v' (n+1) ys∧Below base w0 (w1.setCell ⟨B,0,none⟩ v'):=by
 have h1:w1.heap[B]?=some (.cells #[v] 126 (0,0)):=(hg.block B (lt_of_block hv) (fun e=>owned_apart hown hv (by decide) e.symm)).trans hv
 refine ⟨h1,by simpa using one_setCell h1,owned_setQ hown1 h1 (by decide) _ _,?_⟩
 exact (((Below.refl base w0).grown hg hbase fun k hk=>(hown.lt k hk).1)).setCell hB _
set_option maxHeartbeats 4000000 in
set_option maxRecDepth 100000 in
theorem dictQ_Make (A A2:Option Addr) (n c c2:Nat) (l:List Nm) (vs:List Sl) (w:World) (hr:Row w w.heap.size A (strs l)) (hn:l.length=n) (hl:n≤1048576) (hv:Row w w.heap.size A2 (sls vs)) (hvn:vs.length=n) (hg:risesN l=true):
    Calls Tryz.prog 28 #[.slice A n c,.slice A2 n c2] w (MadeDQ l vs w):=by
  obtain ⟨i0,hi0,hz0,hz1,hz2⟩:=info_parts info_entryQ
  have c1:=dict_rise A n c l w hr hn (by omega)
  rw [hg] at c1
  have C1:=Lib.hid c1
  have HR:=Lib.hid hr
  have HV:=Lib.hid hv
  have HN:=Lib.hid hn
  have HVN:=Lib.hid hvn
  clear c1 hr hv hn hvn hg
  go_enter Tryz.func28,Tryz.ntmps28
  go_wp2_with (go_at_call 66;refine (C1.out).mono ?_)
  rintro e w1 ⟨rfl,hb1⟩
  obtain ⟨w2,hrun,hown2,hgrow2⟩:=run_make_own (P:=Tryz.prog) w1 w.heap.size 124 128 i0 _ 2 Tryz.underlying124 hi0 hz0 hz1 .i64 .i64 n (by rw [hz2];omega) (by unfold maxLen;omega) hb1.size
  have hb2:Below w.heap.size w w2:=hb1.grown hgrow2 hb1.size (fun k hk=>by cases hk)
  obtain ⟨B,hB⟩:∃ B,B=w2.heap.size:=⟨_,rfl⟩
  obtain ⟨w3,hw3⟩:∃ w3,w3=w2.alloc (.cells #[.slice (some ⟨w1.heap.size,0,none⟩) 0 n] 126):=⟨_,rfl⟩
  have hrel:MakeRelQ B l vs w (.int .i64 ((0:Nat):Int)) w3:=by
    refine ⟨0,.slice (some ⟨w1.heap.size,0,none⟩) 0 n,Nat.zero_le _,rfl,?_,?_,?_⟩
    · rw [hw3,hB];exact heap_alloc_new w2 _
    · rw [hw3];simpa [entQ_nil] using hown2.alloc _
    · rw [hw3];exact hb2.alloc hb2.size _
  have HREL:=Lib.hid hrel
  have HW3:=Lib.hid hw3
  have HB:=Lib.hid hB
  have HBW:Hid (w.heap.size≤B):=Lib.hid (by rw [hB];exact hb2.size)
  clear hrel hown2 hgrow2 hb2 hb1 hw3 hB
  go_wp2
  rw [← HW3.out,← HB.out]
  clear hrun
  go_loopw [26] (MakeRelQ B l vs w) (fun i _=>n-(intOf i).toNat)
  case atStart=>exact HREL.out
  case round=>
    obtain ⟨k,v,hk,rfl,hblk,hown,hbw⟩:=hrel
    rw [HN.out] at hk
    have hsz:=hbw.size
    by_cases hlt:k<n
    · have hkl:k<l.length:=by rw [HN.out];exact hlt
      have hkv:k<vs.length:=by rw [HVN.out];exact hlt
      obtain ⟨b1,o1,e1,hb1,hc1⟩:=row_nm (HR.out.below hbw) hkl
      obtain ⟨b2,o2,e2,hb2,hc2⟩:=row_sl (HV.out.below hbw) hkv
      subst e1 e2
      obtain ⟨x,hx⟩:∃ x:ByteArray,x=⟨l[k].toArray⟩:=⟨_,rfl⟩
      obtain ⟨y,hy⟩:∃ y,y=vs[k]:=⟨_,rfl⟩
      rw [← hx] at hc1
      rw [← hy] at hc2
      have hsn:entQ (l.take (k+1)) (vs.take (k+1))=entQ (l.take k) (vs.take k)++[.string x,.slice y.1 y.2.1 y.2.2]:=by
        rw [List.take_succ_eq_append_getElem hkl,List.take_succ_eq_append_getElem hkv,entQ_snoc (by simp only [List.length_take];rw [HN.out,HVN.out]),← hx,← hy]
      obtain ⟨cs,hcs⟩:∃ cs,cs=entQ (l.take k) (vs.take k):=⟨_,rfl⟩
      rw [← hcs] at hown hsn
      have cB:=cell_of_one hblk
      have fB:=free_of_one hblk
      have k2:(0:Int)≤(k:Int):=by omega
      have k3:(k:Int)<(n:Int):=by omega
      have hBlt:=lt_of_block hblk
      have hal:∀ o,((wr.alloc o).drew).cell? ⟨B,0,none⟩=some v:=fun o=>(((Below.refl _ wr).alloc (Nat.le_refl _) o).cell (p:=⟨B,0,none⟩) hBlt).trans cB
      have HOWN:=Lib.hid hown
      have HBLK:=Lib.hid hblk
      have HSN:=Lib.hid hsn
      clear hx hy hcs hown hblk hsn hkl hkv
      go_wp2
      go_region_law (first
        | (refine step_append_lies _ (by rfl) _ _ _ (by rfl) w.heap.size 128 i0 _ 2 40 Tryz.underlying124 hi0 hz0 hz1 hz2 rfl (by omega) v k cs (by rfl) ((HOWN.out.alloc _).drew)
            ⟨wr.heap.size,0,none⟩ 1 1 [.string x,.slice y.1 y.2.1 y.2.2] (by rfl) (by rfl) (World.news_of_block (cs:=#[.string x,.slice y.1 y.2.1 y.2.2]) (t:=128) (fr:=(0,0)) (heap_alloc_new wr.drew _)) (by intro u hu;simp at hu;rcases hu with hu|hu<;>(subst hu;rfl))
            (by omega) (by unfold maxLen;omega) (by omega) (by simp;omega) (wr.heap.size+1) (by simp) ?_
           intro gg cap w5 hown5 hg5 hat hlt5
           obtain ⟨hB5,hB6,hown6,hb6⟩:=enteredQ (((Below.refl _ wr).alloc (Nat.le_refl _) _).drew.block B hBlt |>.trans HBLK.out) ((HOWN.out.alloc _).drew) hg5 hown5 (by simp;omega) HBW.out
           have cB5:=cell_of_one hB5
           have fB5:=free_of_one hB5))
      all_goals
        have hrel:MakeRelQ B l vs w (.int .i64 ((k:Int)+1)) (w5.setCell ⟨B,0,none⟩ (.slice (some ⟨gg,0,none⟩) (k+1) cap)):=by
          refine ⟨k+1,_,by rw [HN.out];omega,by go_num,hB6,?_,?_⟩
          · rw [HSN.out];exact hown6
          · exact hbw.trans ((((Below.refl _ wr).alloc hsz _).drew).trans hb6)
        have HREL:=Lib.hid hrel
        clear hrel hB6 hown6 hb6 hB5
        go_wp2
        go_roundw
        case rel=>exact HREL.out
        case measure=>simp [intOf];omega
    · have hkn:k=n:=by omega
      have HFIN:Hid (MadeDQ l vs w (.returned (.tuple #[.pointer (some ⟨B,0,none⟩),.int .i64 0])) wr):=Lib.hid ⟨B,rfl,⟨HBW.out,by rw [HN.out,HVN.out],v,hblk,by
        rw [hkn,List.take_of_length_le (by rw [HN.out];omega),List.take_of_length_le (by rw [HVN.out];omega)] at hown
        rw [HN.out]
        exact hown⟩,hbw⟩
      clear hown hblk hbw
      go_wp2
      go_ret2
      exact HFIN.out
end Go.Proofs.YtmoomnpbiifedaaGreat
