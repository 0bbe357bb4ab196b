import Derived.Test.YtldcadpemnpbmaaGreatDoorMLQ08
import Derived.Test.YtldcadpemnpbmaaGreatDoorMLQ01
import Derived.Test.YtldcadpemnpbmaaGreatDoorMLQ04
import Derived.Test.YtldcadpemnpbmaaGreatDoorMLQ02
import Derived.Shelf.Sort.Plain
import Derived.Shelf.Slices.In.SortNone
import Derived.Sort.OwnSorted
import Derived.Sort.Grow
import Derived.Lib.OwnBridge
import Derived.Test.YtldcadpemnpbmaaGreatDoorMLQ05
import Derived.Test.YtldcadpemnpbmaaGreatDoorMLQ03
import Derived.BigCall
import Derived.BigQuiet
import Derived.Deep.QuietTactic
import Derived.Deep.RegionHeld3
import Derived.Deep.AppendLies
import Derived.Shelf.SlSorted.Search
import Derived.Test.YtldcadpemnpbmaaGreatDoorMLQ06
import Derived.Test.YtldcadpemnpbmaaGreatDoorMLQ07
set_option linter.unusedVariables false
namespace Go.Proofs.YtldcadpemnpbmaaGreatDoor
open Go Go.RowKit
attribute [local go_sem] Oper.semAt_some
set_option maxHeartbeats 1000000 in
theorem maps_Keys (B:Nat) (w:World):
  Calls Tryz.prog 217 #[.map (some B)] w fun e w'=>e= .returned (.func (.func 260) #[] #[.pointer (some ⟨w.heap.size,0,none⟩)])∧w'=w.alloc (.cells #[.map (some B)] 260):=by
 go_enter Tryz.func217,Tryz.ntmps217
 go_wp2
 go_ret
 exact ⟨rfl,rfl⟩
def KeysRel (base r B:Nat) (m:List Ent) (w0:World) (J:List Tm→World→Prop) (wr:World):Prop:=∃ pre:List Tm,ItAt wr r B m pre∧MapAt wr B m∧J pre wr∧w0.heap.size≤wr.heap.size
def leftIt (r n:Nat) (W:World):Nat:=match W.heap[r]? with|some (.mapIter _ _ seen _)=>n-seen.size|_=>0
theorem leftIt_of {W:World} {r B:Nat} {m:List Ent} {pre:List Tm} (h:ItAt W r B m pre):leftIt r m.length W=m.length-pre.length:=by
 obtain ⟨seen,h1,_,_,rfl⟩:=h
 simp [leftIt,h1]
set_option maxHeartbeats 4000000 in
set_option maxRecDepth 100000 in
theorem keys_moved (q b Bx B:Nat) (m:List Ent) (w:World) (hq:1≤q) (hb:b≤w.heap.size) (hm:MapAt w B m) (hc:w.cell? ⟨Bx,0,none⟩=some (.map (some B))):
  Moved q Tryz.prog 260 #[.pointer (some ⟨Bx,0,none⟩)] encT (MvIt w.heap.size) (KpIt b) (fun pre _ _=>pre.length<m.length) (fun xs=>xs.Perm (m.map (·.1))) w:=by
 intro lp J W hW hJ hY h0
 have hmW:MapAt W B m:=(hW.block B (Array.getElem?_eq_some_iff.1 hm).1).trans hm
 have hcW:=(hW.cell (p:=⟨Bx,0,none⟩) (World.block_lt_of_cell? w _ hc)).trans hc
 have HJ:=Lib.hid hJ
 have HY:=Lib.hid hY
 have hszW:=hW.size
 obtain ⟨r,hr⟩:∃ r,r=W.heap.size:=⟨_,rfl⟩
 obtain ⟨w2,hw2⟩:∃ w2,w2=W.alloc (.mapIter (some B) m.length #[] m.length):=⟨_,rfl⟩
 have hb2:Below W.heap.size W w2:=by rw [hw2];exact (Below.refl _ _).alloc (Nat.le_refl _) _
 have hrel0:KeysRel b r B m W J w2:=by
  refine ⟨[],⟨[],by rw [hw2,hr];exact heap_alloc_new _ _,by simp,by simp,rfl⟩,(hb2.block B (Array.getElem?_eq_some_iff.1 hmW).1).trans hmW,hJ _ _ _ h0 (MvIt.of hb2 hszW),hb2.size⟩
 have HREL:=Lib.hid hrel0
 have HW2:=Lib.hid hw2
 have hrb:w.heap.size≤r:=by omega
 have HR:=Lib.hid hr
 clear hJ hY h0 hm hc hW hrel0 hw2 hb2 hr
 refine callsIn_of_wp Tryz.func260 rfl trivial ?_ rfl
 simp only [Tryz.ntmps260,List.size_toArray,List.length_cons,List.length_nil,Nat.reduceAdd,Nat.reduceSub,Array.replicate_succ,Array.replicate_zero,List.push_toArray,List.append_toArray,List.nil_append,List.cons_append]
 gi_wp2_with (first
  |(gi_at_range;refine wpListIn_range_tm _ rfl _ rfl B m rfl hmW ?_;rw [← HW2.out,← HR.out])
  |gi_in)
 gi_loopw [3] (fun _ wr=>KeysRel b r B m W J wr) (fun _ wr=>leftIt r m.length wr)
 case atStart=>exact HREL.out
 case round=>
  obtain ⟨pre,hit,hmr,hj,hsz⟩:=hrel
  gi_wp2_with (first
   |(gi_at_next;refine wpListIn_next_tm _ rfl _ rfl w.heap.size r B m pre rfl hmr hit hrb ?_ ?_)
   |gi_in)
  ·intro hp
   gi_wp2
   go_end0
   exact ⟨⟨_,rfl⟩,pre,hp,hj⟩
  ·intro t1 t2 v w3 hlen hmv hit3 hen
   obtain ⟨t,ht⟩:∃ t:Tm,t=(t1,t2):=⟨_,rfl⟩
   rw [← ht] at hit3 hen ⊢
   have hj3:=HJ.out _ _ _ hj hmv
   have hm3:MapAt w3 B m:=hmv.keep _ _ hmr (by simp)
   have hl:=leftIt_of hit
   have hsz3:=hmv.below.size
   obtain ⟨X,hX⟩:∃ X:ByteArray,X=⟨t.1.toArray⟩:=⟨_,rfl⟩
   obtain ⟨Y,hY⟩:∃ Y:ByteArray,Y=⟨t.2.toArray⟩:=⟨_,rfl⟩
   have htV:tV t= .agg #[.string X,.string Y]:=by rw [hX,hY];rfl
   rw [htV] at hen ⊢
   obtain ⟨w4,hw4⟩:∃ w4,w4=w3.alloc (.cells #[.string X,.string Y] 23):=⟨_,rfl⟩
   have hb4:Below w3.heap.size w3 w4:=by rw [hw4];exact (Below.refl _ _).alloc (Nat.le_refl _) _
   have hyy:=HY.out pre t w4 (HJ.out _ _ _ hj3 (MvIt.of hb4 (by omega))) hlen
   rw [show encT t=#[.agg #[.string X,.string Y]] by unfold encT;rw [htV]] at hyy
   obtain ⟨fn,tmps,assign,body,hy,hRR⟩:=hyy
   have hm4:MapAt w4 B m:=(hb4.block B (Array.getElem?_eq_some_iff.1 hm3).1).trans hm3
   have hit4:ItAt w4 r B m (pre++[t]):=by
    obtain ⟨seen,g1,g2,g3,g4⟩:=hit3
    exact ⟨seen,(hb4.block r (Array.getElem?_eq_some_iff.1 g1).1).trans g1,g2,g3,g4⟩
   have hs4:=hb4.size
   rw [hw4] at hy
   have HW4:=Lib.hid hw4
   have HIT4:=Lib.hid hit4
   have HM4:=Lib.hid hm4
   have HL:=Lib.hid hl
   clear hX hY htV hw4 hb4 hit4 hm4 hit hit3 hmr hm3 hmv hj hj3 hl
   gi_wp2
   rw [HW4.out] at hRR
   refine hRR.mono ?_
   rintro e W4 ⟨rfl,hJ4,hk4⟩
   have hrel:KeysRel b r B m W J W4:=by
    have hk5:KpIt b w4 W4:=by rw [HW4.out];exact hk4
    obtain ⟨seen,g1,g2,g3,g4⟩:=HIT4.out
    exact ⟨pre++[t],⟨seen,hk5.keep _ _ g1 (.inl ⟨_,_,_,_,rfl⟩),g2,g3,g4⟩,hk5.keep _ _ HM4.out (.inr ⟨_,_,rfl⟩),hJ4,by have :=hk5.below.size;omega⟩
   have hlt:leftIt r m.length W4<leftIt r m.length wr:=by
    have hk5:KpIt b w4 W4:=by rw [HW4.out];exact hk4
    obtain ⟨seen,g1,g2,g3,g4⟩:=HIT4.out
    have :ItAt W4 r B m (pre++[t]):=⟨seen,hk5.keep _ _ g1 (.inl ⟨_,_,_,_,rfl⟩),g2,g3,g4⟩
    rw [HL.out,leftIt_of this,List.length_append,List.length_singleton]
    omega
   have HRL:=Lib.hid hrel
   have HLT:=Lib.hid hlt
   clear hrel hlt hJ4 hk4 hy hRR
   gi_wp2
   go_roundw
   case rel=>exact HRL.out
   case measure=>exact HLT.out
end Go.Proofs.YtldcadpemnpbmaaGreatDoor
set_option linter.unusedVariables false
namespace Go.Proofs.YtldcadpemnpbmaaGreatDoor
open Go Go.RowKit
attribute [local go_sem] Oper.semAt_some
set_option maxHeartbeats 1000000 in
theorem maps_KeysP (B:Nat) (w:World):
  Calls Tryz.prog 97 #[.map (some B)] w fun e w'=>e= .returned (.func (.func 169) #[] #[.pointer (some ⟨w.heap.size,0,none⟩)])∧w'=w.alloc (.cells #[.map (some B)] 141):=by
 go_enter Tryz.func97,Tryz.ntmps97
 go_wp2
 go_ret
 exact ⟨rfl,rfl⟩
def KeysRelP (base r B c:Nat) (m:List EntK) (w0:World) (J:List Nm→World→Prop) (wr:World):Prop:=∃ pre:List Nm,ItK wr r B c m pre∧MapK wr B c m∧J pre wr∧w0.heap.size≤wr.heap.size
theorem leftIt_ofK {W:World} {r B c:Nat} {m:List EntK} {pre:List Nm} (h:ItK W r B c m pre):leftIt r m.length W=m.length-pre.length:=by
 obtain ⟨seen,h1,_,_,rfl⟩:=h
 simp [leftIt,h1]
set_option maxHeartbeats 4000000 in
set_option maxRecDepth 100000 in
theorem keys_movedP (q b Bx B c:Nat) (m:List EntK) (w:World) (hq:1≤q) (hb:b≤w.heap.size) (hm:MapK w B c m) (hc:w.cell? ⟨Bx,0,none⟩=some (.map (some B))):
  Moved q Tryz.prog 169 #[.pointer (some ⟨Bx,0,none⟩)] encK (MvIt w.heap.size) (KpIt b) (fun pre _ _=>pre.length<m.length) (fun xs=>xs.Perm (m.map (·.1))) w:=by
 intro lp J W hW hJ hY h0
 have hmW:MapK W B c m:=(hW.block B (Array.getElem?_eq_some_iff.1 hm).1).trans hm
 have hcW:=(hW.cell (p:=⟨Bx,0,none⟩) (World.block_lt_of_cell? w _ hc)).trans hc
 have HJ:=Lib.hid hJ
 have HY:=Lib.hid hY
 have hszW:=hW.size
 obtain ⟨r,hr⟩:∃ r,r=W.heap.size:=⟨_,rfl⟩
 obtain ⟨w2,hw2⟩:∃ w2,w2=W.alloc (.mapIter (some B) (c+m.length) #[] (c+m.length)):=⟨_,rfl⟩
 have hb2:Below W.heap.size W w2:=by rw [hw2];exact (Below.refl _ _).alloc (Nat.le_refl _) _
 have hrel0:KeysRelP b r B c m W J w2:=by
  refine ⟨[],⟨[],by rw [hw2,hr];exact heap_alloc_new _ _,by simp,by simp,rfl⟩,(hb2.block B (Array.getElem?_eq_some_iff.1 hmW).1).trans hmW,hJ _ _ _ h0 (MvIt.of hb2 hszW),hb2.size⟩
 have HREL:=Lib.hid hrel0
 have HW2:=Lib.hid hw2
 have hrb:w.heap.size≤r:=by omega
 have HR:=Lib.hid hr
 clear hJ hY h0 hm hc hW hrel0 hw2 hb2 hr
 refine callsIn_of_wp Tryz.func169 rfl trivial ?_ rfl
 simp only [Tryz.ntmps169,List.size_toArray,List.length_cons,List.length_nil,Nat.reduceAdd,Nat.reduceSub,Array.replicate_succ,Array.replicate_zero,List.push_toArray,List.append_toArray,List.nil_append,List.cons_append]
 gi_wp2_with (first
  |(gi_at_range;refine wpListIn_range_ks _ rfl _ rfl B c m rfl hmW ?_;rw [← HW2.out,← HR.out])
  |gi_in)
 gi_loopw [] (fun wr=>KeysRelP b r B c m W J wr) (fun wr=>leftIt r m.length wr)
 case atStart=>exact HREL.out
 case round=>
  obtain ⟨pre,hit,hmr,hj,hsz⟩:=hrel
  gi_wp2_with (first
   |(gi_at_next;refine wpListIn_next_ks _ rfl _ rfl w.heap.size r B c m pre rfl hmr hit hrb ?_ ?_)
   |gi_in)
  ·intro hp
   gi_wp2
   go_end0
   exact ⟨⟨_,rfl⟩,pre,hp,hj⟩
  ·intro t v w3 hlen hmv hit3 hen
   have hj3:=HJ.out _ _ _ hj hmv
   have hm3:MapK w3 B c m:=hmv.keep _ _ hmr (by simp)
   have hl:=leftIt_ofK hit
   have hsz3:=hmv.below.size
   obtain ⟨X,hX⟩:∃ X:ByteArray,X=⟨t.toArray⟩:=⟨_,rfl⟩
   have htV:kV t= .string X:=by rw [hX];rfl
   rw [htV] at hen ⊢
   have hyy:=HY.out pre t w3 hj3 hlen
   rw [show encK t=#[.string X] by unfold encK;rw [htV]] at hyy
   obtain ⟨fn,tmps,assign,body,hy,hRR⟩:=hyy
   have HIT3:=Lib.hid hit3
   have HM3:=Lib.hid hm3
   have HL:=Lib.hid hl
   clear hX htV hit hit3 hmr hm3 hmv hj hj3 hl
   gi_wp2
   refine hRR.mono ?_
   rintro e W4 ⟨rfl,hJ4,hk4⟩
   obtain ⟨seen,g1,g2,g3,g4⟩:=HIT3.out
   have hit4:ItK W4 r B c m (pre++[t]):=⟨seen,hk4.keep _ _ g1 (.inl ⟨_,_,_,_,rfl⟩),g2,g3,g4⟩
   have hrel:KeysRelP b r B c m W J W4:=⟨pre++[t],hit4,hk4.keep _ _ HM3.out (.inr ⟨_,_,rfl⟩),hJ4,by have :=hk4.below.size;omega⟩
   have hlt:leftIt r m.length W4<leftIt r m.length wr:=by
    rw [HL.out,leftIt_ofK hit4,List.length_append,List.length_singleton]
    omega
   have HRL:=Lib.hid hrel
   have HLT:=Lib.hid hlt
   clear hrel hlt hit4 hJ4 hk4 hy hRR g1 g2 g3 g4
   gi_wp2
   go_roundw
   case rel=>exact HRL.out
   case measure=>exact HLT.out
end Go.Proofs.YtldcadpemnpbmaaGreatDoor
set_option linter.unusedVariables false
namespace Go.Proofs.YtldcadpemnpbmaaGreatDoor
open Go Go.RowKit
attribute [local go_sem] Oper.semAt_some
theorem KpIt.trans {b:Nat} {w w1 w2:World} (h:KpIt b w w1) (k:KpIt b w1 w2):KpIt b w w2:=⟨h.below.trans k.below,fun i o hi ho=>k.keep i o (h.keep i o hi ho) ho⟩
theorem KpIt.of {b:Nat} {w w1:World} (h:Below w.heap.size w w1) (hb:b≤w.heap.size):KpIt b w w1:=⟨h.mono hb,fun k o hk _=>(h.block k (Array.getElem?_eq_some_iff.1 hk).1).trans hk⟩
theorem KpIt.loop {b:Nat} (W:World) (l:Nat) (x:Loop) (o':Obj) (hl:b≤l) (h:W.heap[l]?=some (.loop x)):KpIt b W (W.putObj l o'):=by
 refine ⟨⟨rfl,rfl,rfl,by simp,fun k hk=>World.putObj_heap_other (by omega)⟩,fun k o hk ho=> ?_⟩
 rw [World.putObj_heap_other,hk]
 rintro rfl
 rw [h] at hk
 cases hk
 rcases ho with ⟨_,_,_,_,ho⟩|⟨_,_,ho⟩<;>cases ho
def TmVar (base B:Nat) (l:List Tm) (W:World):Prop:=∃ v,W.heap[B]?=some (.cells #[v] 29 (0,0))∧OwnTm base W v l
theorem own_cells {base:Nat} {w:World} {v:Value} {l:List Tm} (h:OwnTm base w v l) {k:Nat} {o:Obj} (hk:w.heap[k]?=some o) (ho:o.isCells=false):v.ownBlock≠some k:=by
 intro he
 rcases h.2 with ⟨rfl,_⟩|⟨g,cap,cur,rfl,_,hh,_⟩
 ·cases he
 ·simp only [Value.ownBlock,Option.some.injEq] at he
  subst he
  rw [hh] at hk
  cases hk
  cases ho
theorem TmVar.firm (N base B:Nat) (l:List Tm):FirmM N (TmVar base B l):=fun W k o o' _ ho hc ⟨v,h1,h2⟩=>by
 have hB:B≠k:=fun e=>by subst e;rw [h1] at ho;injection ho with ho;rw [← ho] at hc;cases hc
 exact ⟨v,(World.putObj_heap_other hB).trans h1,owned_keep h2 fun g hg=>World.putObj_heap_other fun e=>by subst e;exact own_cells h2 ho hc hg⟩
theorem TmVar.moved {base base' B:Nat} {l:List Tm} {w w':World} (h:TmVar base B l w) (hm:MvIt base' w w'):TmVar base B l w':=by
 obtain ⟨v,h1,h2⟩:=h
 refine ⟨v,hm.keep _ _ h1 (by simp),owned_keep h2 fun g hg=> ?_⟩
 rcases h2.2 with ⟨rfl,_⟩|⟨g',cap,cur,rfl,_,hh,_⟩
 ·cases hg
 ·simp only [Value.ownBlock,Option.some.injEq] at hg
  subst hg
  rw [hm.keep _ _ hh (by simp),hh]
theorem Below.firm {b N:Nat} {w:World} (hb:b≤N):FirmM N (fun W=>Below b w W):=fun W l o o' hl _ _ h=>h.trans ⟨rfl,rfl,rfl,by simp,fun k hk=>World.putObj_heap_other (by omega)⟩
def CollIn (w:World) (pre:List Tm) (W:World):Prop:=TmVar w.heap.size w.heap.size pre W∧Below w.heap.size w W∧pre.length≤134217728
def CollAx (f:Value) (w:World) (x:Tm) (a:Act) (W:World):Prop:=∃ Bx,W.heap[Bx]?=some (.cells #[.string ⟨x.1.toArray⟩,.string ⟨x.2.toArray⟩] 23 (0,0))∧a={tmps:=#[.slice none 0 0,f,.pointer (some ⟨w.heap.size,0,none⟩),undef,.slice none 0 0,.pointer (some ⟨Bx,0,none⟩),f,.agg #[.string ⟨x.1.toArray⟩,.string ⟨x.2.toArray⟩],undef,undef,undef,undef,undef],defers:=[]}
def GotKeys (ks:List Tm) (w:World) (e:Ending) (w':World):Prop:=∃ v ts,e= .returned v∧ts.Perm ks∧OwnTm w.heap.size w' v ts∧Below w.heap.size w w'
set_option maxHeartbeats 8000000 in
set_option maxRecDepth 100000 in
theorem keys_append (Bx B:Nat) (m:List Ent) (w:World) (hm:MapAt w B m) (hc:w.cell? ⟨Bx,0,none⟩=some (.map (some B))) (hl:m.length≤134217727):
  Calls Tryz.prog 289 #[.slice none 0 0,.func (.func 260) #[] #[.pointer (some ⟨Bx,0,none⟩)]] w (GotKeys (m.map (·.1)) w):=by
 obtain ⟨i0,hi0,hz0,hz1,hz2⟩:=info_parts info_term
 refine (callsIn_wide (n:=6)).1 ?_
 obtain ⟨w2,hw2⟩:∃ w2,w2=w.alloc (.cells #[.slice none 0 0] 29):=⟨_,rfl⟩
 have hb2:Below w.heap.size w w2:=by rw [hw2];exact (Below.refl _ _).alloc (Nat.le_refl _) _
 have hm2:MapAt w2 B m:=(hb2.block B (Array.getElem?_eq_some_iff.1 hm).1).trans hm
 have hc2:=(hb2.cell (p:=⟨Bx,0,none⟩) (World.block_lt_of_cell? w _ hc)).trans hc
 have hv2:TmVar w.heap.size w.heap.size [] w2:=⟨_,by rw [hw2];exact heap_alloc_new w _,OwnTm.nil⟩
 have hs2:w2.heap.size=w.heap.size+1:=by rw [hw2];simp
 have HT:=Lib.hid (keys_moved 5 w.heap.size Bx B m w2 (by omega) hb2.size hm2 hc2)
 have HW2:=Lib.hid hw2
 have HB2:=Lib.hid hb2
 have HV2:=Lib.hid hv2
 clear hw2 hb2 hm2 hc2 hv2 hm hc
 refine callsIn_of_wp_marks Tryz.func289 rfl trivial ?_ rfl
 simp only [Tryz.ntmps289,List.size_toArray,List.length_cons,List.length_nil,Nat.reduceAdd,Nat.reduceSub,Array.replicate_succ,Array.replicate_zero,List.push_toArray,List.append_toArray,List.nil_append,List.cons_append]
 gi_wp2
 rw [← HW2.out]
 refine wpIn_range_moved (by omega) (gf:=260) (lb:=#[.pointer (some ⟨Bx,0,none⟩)]) rfl (enters_of Tryz.func260 (by kernel_rfl) rfl)
  HT.out (fun hb=>MvIt.of hb (Nat.le_refl _)) (fun {A B k o} hk hmv ho hnc=>hmv.keep _ _ ho (by rcases hnc with ⟨x,rfl⟩|⟨x,rfl⟩<;>simp))
  (fun h k=>h.trans k) (fun W lp x o' hlp ho=>KpIt.loop W lp x o' (by omega) ho) (fun _=>rfl)
  (CollIn w) (fun s A' B' h hmv=>⟨h.1.moved hmv,h.2.1.trans (hmv.below.mono (by omega)),h.2.2⟩)
  (fun s=>fun W l o o' h1 h2 h3 h=>⟨TmVar.firm _ _ _ _ W l o o' h1 h2 h3 h.1,Below.firm (by omega) W l o o' h1 h2 h3 h.2.1,h.2.2⟩)
  (fun s x W l o o' _ _ _ h=>h) ⟨HV2.out,HB2.out,by simp⟩
  (CollAx (.func (.func 260) #[] #[.pointer (some ⟨Bx,0,none⟩)]) w) (fun x a' W l o o' _ ho hc h=> ?hAx) ?assign ?body ?done
 case hAx=>
  obtain ⟨Bx',h1,h2⟩:=h
  exact ⟨Bx',(World.putObj_heap_other fun e=>by subst e;rw [h1] at ho;injection ho with ho;rw [← ho] at hc;cases hc).trans h1,h2⟩
 case assign=>
  intro lp pre x W K' hi hx hK'
  unfold encT tV
  have hb:Below W.heap.size W (W.alloc (.cells #[.string ⟨x.1.toArray⟩,.string ⟨x.2.toArray⟩] 23)):=(Below.refl _ _).alloc (Nat.le_refl _) _
  have hsz:=hi.2.1.size
  have hi2:CollIn w pre (W.alloc (.cells #[.string ⟨x.1.toArray⟩,.string ⟨x.2.toArray⟩] 23)):=⟨hi.1.moved (MvIt.of hb (Nat.le_refl _)),hi.2.1.trans (hb.mono hsz),hi.2.2⟩
  have HI:=Lib.hid hi2
  have HB:=Lib.hid hb
  clear hi hi2 hb
  gi_wp2
  exact hK' _ _ ⟨W.heap.size,heap_alloc_new _ _,rfl⟩ HI.out hx HB.out (KpIt.of HB.out hsz)
 case body=>
  rintro lp pre x a' W ⟨Bt,hx,rfl⟩ ⟨⟨v,hv,hown⟩,hbw,hpl⟩ hlt
  obtain ⟨X,hX⟩:∃ X:ByteArray,X=⟨x.1.toArray⟩:=⟨_,rfl⟩
  obtain ⟨Y,hY⟩:∃ Y:ByteArray,Y=⟨x.2.toArray⟩:=⟨_,rfl⟩
  rw [← hX,← hY] at hx ⊢
  have hfl:flds [x]=[.string X,.string Y]:=by rw [hX,hY];rfl
  obtain ⟨cx0,cx1⟩:W.cell? ⟨Bt,0,none⟩=some (.string X)∧W.cell? ⟨Bt,1,none⟩=some (.string Y):=⟨by simp [World.cell?,hx],by simp [World.cell?,hx]⟩
  have cB:=cell_of_one hv
  have fB:=free_of_one hv
  have hsz:=hbw.size
  have hlB:=lt_of_block hv
  obtain ⟨k,hk⟩:∃ k,k=pre.length:=⟨_,rfl⟩
  have ho1:W.ownsRow w.heap.size 23 2 v k (flds pre):=by rw [hk];exact hown
  have hkl:k≤134217727:=by omega
  have HO:=Lib.hid ho1
  have HOW:=Lib.hid hown
  have HV:=Lib.hid hv
  have HBW:=Lib.hid hbw
  have HK:=Lib.hid hk
  have HFL:=Lib.hid hfl
  have HLT:=Lib.hid hlt
  clear hv hown hbw ho1 hk hfl hX hY hlt hpl hx
  gi_wp2_with (gi_at_builtin;refine wpListIn_append_own _ rfl (.tmp 8) (.tmp 10) 29 rfl w.heap.size 23 i0 _ 2 32 Tryz.underlying29 hi0 hz0 hz1 hz2 rfl (by omega) _ k (flds pre) rfl (HO.out.alloc _) ⟨W.heap.size,0,none⟩ 1 1 [.string X,.string Y] rfl rfl (news_at W [.string X,.string Y] 23) (by intro u hu;simp at hu;rcases hu with rfl|rfl<;>rfl) (by unfold maxLen;omega) (by omega) (by simp;omega) ?_)
  intro v' w4 hown4 hgrow4 hz4
  clear hz4
  obtain ⟨g',cap',hv',_,_⟩:=hown4.form (by omega)
  have hne:=owned_apart HOW.out HV.out (by decide)
  have hal:Below W.heap.size W (W.alloc (.cells #[.string X,.string Y] 23)):=(Below.refl _ _).alloc (Nat.le_refl _) _
  have hv4:w4.heap[w.heap.size]?=some (.cells #[v] 29 (0,0)):=(hgrow4.block _ (by simp;omega) (fun e=>hne e.symm)).trans ((hal.block _ hlB).trans HV.out)
  have cB4:=cell_of_one hv4
  have fB4:=free_of_one hv4
  have hne':=owned_apart hown4 hv4 (by decide)
  have hs4:W.heap.size≤w4.heap.size:=Nat.le_trans hal.size hgrow4.size
  have hkeep:∀ (j:Nat),j<W.heap.size→j≠w.heap.size→v.ownBlock≠some j→(w4.setCell ⟨w.heap.size,0,none⟩ v').heap[j]?=W.heap[j]?:=fun j h1 h2 h3=>by
   rw [Below.heap_setCell _ _ _ _ h2,hgrow4.block j (Nat.lt_of_lt_of_le h1 hal.size) (fun e=>h3 e.symm),hal.block j h1]
  have hnc:∀ (j:Nat) (o:Obj),W.heap[j]?=some o→o.isCells=false→(w4.setCell ⟨w.heap.size,0,none⟩ v').heap[j]?=some o:=fun j o h1 h2=>by
   rw [hkeep j (Array.getElem?_eq_some_iff.1 h1).1 (fun e=> ?_) (own_cells HOW.out h1 h2),h1]
   subst e
   have :=HV.out
   rw [this] at h1
   injection h1 with h1
   rw [← h1] at h2
   cases h2
  have hbl:Below w.heap.size W (w4.setCell ⟨w.heap.size,0,none⟩ v'):=⟨hgrow4.os,hgrow4.tape,hgrow4.output,by simpa using hs4,fun j hj=>hkeep j (by omega) (by omega) (fun e=>by have :=(HO.out.lt j e).1;omega)⟩
  have hin:CollIn w (pre++[x]) (w4.setCell ⟨w.heap.size,0,none⟩ v'):=by
   refine ⟨⟨v',one_setCell hv4,?_⟩,HBW.out.trans hbl,by rw [List.length_append,List.length_singleton,← HK.out];omega⟩
   have :=ownsRow_setCell_other hown4 (show v'.ownBlock≠some (⟨w.heap.size,0,none⟩:Addr).block from hne') v'
   unfold OwnTm
   rw [List.length_append,List.length_singleton,← HK.out,flds_append,HFL.out]
   exact this
  have HKO:Hid (KeepsOthers W (w4.setCell ⟨w.heap.size,0,none⟩ v')):=Lib.hid ⟨by simpa using hs4,hnc⟩
  have HKP:Hid (KpIt w.heap.size W (w4.setCell ⟨w.heap.size,0,none⟩ v')):=Lib.hid ⟨hbl,fun j o h1 h2=>hnc j o h1 (by rcases h2 with ⟨_,_,_,_,rfl⟩|⟨_,_,rfl⟩<;>rfl)⟩
  have HIN:=Lib.hid hin
  subst hv'
  clear hkeep hnc hbl hin hne hne' hal hv4 hgrow4 hown4
  gi_wp2
  exact ⟨HKO.out,HKP.out,HIN.out⟩
 case done=>
  rintro D' ys W hD2 hys ⟨⟨v,hv,hown⟩,hbw,_⟩ hK'
  have cB:=cell_of_one hv
  have HO:=Lib.hid hown
  have HBW:=Lib.hid hbw
  have HV:=Lib.hid hv
  have HYS:=Lib.hid hys
  clear hys hown hbw hv
  gi_wp2
  refine ⟨by simp,.inl ⟨_,_,rfl,run_takeDeferred hK',?_⟩⟩
  refine ⟨_,results_tmp rfl _ _ _,?_⟩
  refine ⟨v,ys,rfl,HYS.out,owned_keep HO.out fun g hg=>World.putObj_heap_other fun e=> ?_,Below.firm (by omega) W D' _ (.deferred none) hD2 hK' rfl HBW.out⟩
  subst e
  exact own_cells HO.out hK' rfl hg
end Go.Proofs.YtldcadpemnpbmaaGreatDoor
set_option linter.unusedVariables false
namespace Go.Proofs.YtldcadpemnpbmaaGreatDoor
open Go.Shelf Go.RowKit Go.Sort
def laySortS_ren:Go.Shelf.Ren:=⟨fun |125=>85|128=>143|129=>144|190=>168|258=>223|302=>264|303=>265|304=>266|305=>267|306=>268|307=>269|308=>270|309=>271|310=>272|329=>294|330=>295|333=>293|334=>296|335=>297|336=>261|344=>316|n=>n,fun |0=>0|3=>3|4=>4|5=>5|9=>9|31=>24|46=>128|51=>198|53=>103|131=>100|182=>329|183=>330|218=>349|222=>276|228=>362|229=>184|n=>n,fun |n=>n⟩
theorem laySortS:Lays.n190 Tryz.prog laySortS_ren:={
 mixed:=by kernel_rfl
 f125:=Tryz.func85.trans (congrArg some (by kernel_rfl))
 f128:=Tryz.func143.trans (congrArg some (by kernel_rfl))
 f129:=Tryz.func144.trans (congrArg some (by kernel_rfl))
 f190:=Tryz.func168.trans (congrArg some (by kernel_rfl))
 f258:=Tryz.func223.trans (congrArg some (by kernel_rfl))
 f302:=Tryz.func264.trans (congrArg some (by kernel_rfl))
 f303:=Tryz.func265.trans (congrArg some (by kernel_rfl))
 f304:=Tryz.func266.trans (congrArg some (by kernel_rfl))
 f305:=Tryz.func267.trans (congrArg some (by kernel_rfl))
 f306:=Tryz.func268.trans (congrArg some (by kernel_rfl))
 f307:=Tryz.func269.trans (congrArg some (by kernel_rfl))
 f308:=Tryz.func270.trans (congrArg some (by kernel_rfl))
 f309:=Tryz.func271.trans (congrArg some (by kernel_rfl))
 f310:=Tryz.func272.trans (congrArg some (by kernel_rfl))
 f329:=Tryz.func294.trans (congrArg some (by kernel_rfl))
 f330:=Tryz.func295.trans (congrArg some (by kernel_rfl))
 f333:=Tryz.func293.trans (congrArg some (by kernel_rfl))
 f334:=Tryz.func296.trans (congrArg some (by kernel_rfl))
 f335:=Tryz.func297.trans (congrArg some (by kernel_rfl))
 f336:=Tryz.func261.trans (congrArg some (by kernel_rfl))
 f344:=Tryz.func316.trans (congrArg some (by kernel_rfl))
 t0:=Tryz.underlying0
 a0:=Tryz.isAgg0
 z0:=Tryz.sizeOf0
 v0:=Tryz.zeroValue0
 t3:=Tryz.underlying3
 a3:=Tryz.isAgg3
 z3:=Tryz.sizeOf3
 v3:=Tryz.zeroValue3
 t4:=Tryz.underlying4
 a4:=Tryz.isAgg4
 z4:=Tryz.sizeOf4
 v4:=Tryz.zeroValue4
 t5:=Tryz.underlying5
 a5:=Tryz.isAgg5
 z5:=Tryz.sizeOf5
 v5:=Tryz.zeroValue5
 t9:=Tryz.underlying9
 a9:=Tryz.isAgg9
 z9:=Tryz.sizeOf9
 v9:=Tryz.zeroValue9
 t31:=Tryz.underlying24
 a31:=Tryz.isAgg24
 z31:=Tryz.sizeOf24
 v31:=Tryz.zeroValue24
 t46:=Tryz.underlying128
 a46:=Tryz.isAgg128
 z46:=Tryz.sizeOf128
 v46:=Tryz.zeroValue128
 t51:=Tryz.underlying198
 a51:=Tryz.isAgg198
 z51:=Tryz.sizeOf198
 v51:=Tryz.zeroValue198
 t53:=Tryz.underlying103
 a53:=Tryz.isAgg103
 z53:=Tryz.sizeOf103
 v53:=Tryz.zeroValue103
 t131:=Tryz.underlying100
 a131:=Tryz.isAgg100
 z131:=Tryz.sizeOf100
 v131:=Tryz.zeroValue100
 t182:=Tryz.underlying329
 a182:=Tryz.isAgg329
 z182:=Tryz.sizeOf329
 v182:=Tryz.zeroValue329
 t183:=Tryz.underlying330
 a183:=Tryz.isAgg330
 z183:=Tryz.sizeOf330
 v183:=Tryz.zeroValue330
 t218:=Tryz.underlying349
 a218:=Tryz.isAgg349
 z218:=Tryz.sizeOf349
 v218:=Tryz.zeroValue349
 t222:=Tryz.underlying276
 a222:=Tryz.isAgg276
 z222:=Tryz.sizeOf276
 v222:=Tryz.zeroValue276
 t228:=Tryz.underlying362
 a228:=Tryz.isAgg362
 z228:=Tryz.sizeOf362
 v228:=Tryz.zeroValue362
 t229:=Tryz.underlying184
 a229:=Tryz.isAgg184
 z229:=Tryz.sizeOf184
 v229:=Tryz.zeroValue184}
theorem sort_texts (base:Nat) (v:Value) (xs:List Nm) (w:World) (ho:OwnNm base w v xs) (hb:base≤w.heap.size) (hbig:xs.length≤1073741824):
  Calls Tryz.prog 168 #[v] w fun e w'=>e= .returned (.tuple #[])∧OwnNm base w' v (xs.mergeSort fun x y=>decide (x≤y))∧Below base w w':=by
 have hl2:(xs.mergeSort fun x y=>decide (x≤y)).length=xs.length:=List.length_mergeSort xs
 rcases ho.2 with ⟨rfl,h0⟩|⟨g,cap,cur,rfl,hbase,hh,h1,h2,h3,h4⟩
 ·obtain rfl:xs=[]:=List.eq_nil_of_length_eq_zero h0
  exact (Any.slices_Sort_string_none laySortS none 0 w).mono fun e w' ⟨he,hw⟩=>⟨he,by rw [hw];simpa using OwnNm.nil,by rw [hw];exact Below.refl _ _⟩
 ·have hH:Holds encStr w g 0 xs.toArray:=holds_of_block hh (by simpa [strs] using h4)
  refine (Any.slices_Sort_string laySortS g 0 cap xs w hH (lt_of_block hh) (by omega)).mono fun e w' ⟨he,n,os,hw⟩=>⟨he,?_,?_⟩
  ·rw [hw]
   unfold OwnNm
   rw [hl2]
   exact ownsRow_sorted hl2 hbase hh h1 h2 h3
  ·rw [hw]
   exact (Below.refl base w).grown (grownBy_sorted _) hb (fun j hj=>by cases hj;exact hbase)
end Go.Proofs.YtldcadpemnpbmaaGreatDoor
set_option linter.unusedVariables false
namespace Go.Proofs.YtldcadpemnpbmaaGreatDoor
open Go Go.RowKit
attribute [local go_sem] Oper.semAt_some
def NmVar (base B:Nat) (l:List Nm) (W:World):Prop:=∃ v,W.heap[B]?=some (.cells #[v] 24 (0,0))∧OwnNm base W v l
theorem ownN_cells {base:Nat} {w:World} {v:Value} {l:List Nm} (h:OwnNm base w v l) {k:Nat} {o:Obj} (hk:w.heap[k]?=some o) (ho:o.isCells=false):v.ownBlock≠some k:=by
 intro he
 rcases h.2 with ⟨rfl,_⟩|⟨g,cap,cur,rfl,_,hh,_⟩
 ·cases he
 ·simp only [Value.ownBlock,Option.some.injEq] at he
  subst he
  rw [hh] at hk
  cases hk
  cases ho
theorem NmVar.firm (N base B:Nat) (l:List Nm):FirmM N (NmVar base B l):=fun W k o o' _ ho hc ⟨v,h1,h2⟩=>by
 have hB:B≠k:=fun e=>by subst e;rw [h1] at ho;injection ho with ho;rw [← ho] at hc;cases hc
 exact ⟨v,(World.putObj_heap_other hB).trans h1,owned_keep h2 fun g hg=>World.putObj_heap_other fun e=>by subst e;exact ownN_cells h2 ho hc hg⟩
theorem NmVar.moved {base base' B:Nat} {l:List Nm} {w w':World} (h:NmVar base B l w) (hm:MvIt base' w w'):NmVar base B l w':=by
 obtain ⟨v,h1,h2⟩:=h
 refine ⟨v,hm.keep _ _ h1 (by simp),owned_keep h2 fun g hg=> ?_⟩
 rcases h2.2 with ⟨rfl,_⟩|⟨g',cap,cur,rfl,_,hh,_⟩
 ·cases hg
 ·simp only [Value.ownBlock,Option.some.injEq] at hg
  subst hg
  rw [hm.keep _ _ hh (by simp),hh]
def CollInS (w:World) (pre:List Nm) (W:World):Prop:=NmVar w.heap.size w.heap.size pre W∧Below w.heap.size w W∧pre.length≤134217728
def CollAxS (f:Value) (w:World) (x:Nm) (a:Act) (W:World):Prop:=a={tmps:=#[.slice none 0 0,f,.pointer (some ⟨w.heap.size,0,none⟩),undef,.slice none 0 0,kV x,f,kV x,undef,undef,undef,undef,undef],defers:=[]}
def GotKeysS (ks:List Nm) (w:World) (e:Ending) (w':World):Prop:=∃ v ts,e= .returned v∧ts.Perm ks∧OwnNm w.heap.size w' v ts∧Below w.heap.size w w'
set_option maxHeartbeats 8000000 in
set_option maxRecDepth 100000 in
theorem keys_appendS (Bx B c:Nat) (m:List EntK) (w:World) (hm:MapK w B c m) (hc:w.cell? ⟨Bx,0,none⟩=some (.map (some B))) (hl:m.length≤134217727):
  Calls Tryz.prog 222 #[.slice none 0 0,.func (.func 169) #[] #[.pointer (some ⟨Bx,0,none⟩)]] w (GotKeysS (m.map (·.1)) w):=by
 obtain ⟨i0,hi0,hz0,hz1,hz2⟩:=info_parts info_string
 refine (callsIn_wide (n:=6)).1 ?_
 obtain ⟨w2,hw2⟩:∃ w2,w2=w.alloc (.cells #[.slice none 0 0] 24):=⟨_,rfl⟩
 have hb2:Below w.heap.size w w2:=by rw [hw2];exact (Below.refl _ _).alloc (Nat.le_refl _) _
 have hm2:MapK w2 B c m:=(hb2.block B (Array.getElem?_eq_some_iff.1 hm).1).trans hm
 have hc2:=(hb2.cell (p:=⟨Bx,0,none⟩) (World.block_lt_of_cell? w _ hc)).trans hc
 have hv2:NmVar w.heap.size w.heap.size [] w2:=⟨_,by rw [hw2];exact heap_alloc_new w _,OwnNm.nil⟩
 have hs2:w2.heap.size=w.heap.size+1:=by rw [hw2];simp
 have HT:=Lib.hid (keys_movedP 5 w.heap.size Bx B c m w2 (by omega) hb2.size hm2 hc2)
 have HW2:=Lib.hid hw2
 have HB2:=Lib.hid hb2
 have HV2:=Lib.hid hv2
 clear hw2 hb2 hm2 hc2 hv2 hm hc
 refine callsIn_of_wp_marks Tryz.func222 rfl trivial ?_ rfl
 simp only [Tryz.ntmps222,List.size_toArray,List.length_cons,List.length_nil,Nat.reduceAdd,Nat.reduceSub,Array.replicate_succ,Array.replicate_zero,List.push_toArray,List.append_toArray,List.nil_append,List.cons_append]
 gi_wp2
 rw [← HW2.out]
 refine wpIn_range_moved (by omega) (gf:=169) (lb:=#[.pointer (some ⟨Bx,0,none⟩)]) rfl (enters_of Tryz.func169 (by kernel_rfl) rfl)
  HT.out (fun hb=>MvIt.of hb (Nat.le_refl _)) (fun {A B k o} hk hmv ho hnc=>hmv.keep _ _ ho (by rcases hnc with ⟨x,rfl⟩|⟨x,rfl⟩<;>simp))
  (fun h k=>h.trans k) (fun W lp x o' hlp ho=>KpIt.loop W lp x o' (by omega) ho) (fun _=>rfl)
  (CollInS w) (fun s A' B' h hmv=>⟨h.1.moved hmv,h.2.1.trans (hmv.below.mono (by omega)),h.2.2⟩)
  (fun s=>fun W l o o' h1 h2 h3 h=>⟨NmVar.firm _ _ _ _ W l o o' h1 h2 h3 h.1,Below.firm (by omega) W l o o' h1 h2 h3 h.2.1,h.2.2⟩)
  (fun s x W l o o' _ _ _ h=>h) ⟨HV2.out,HB2.out,by simp⟩
  (CollAxS (.func (.func 169) #[] #[.pointer (some ⟨Bx,0,none⟩)]) w) (fun x a' W l o o' _ ho hc h=>h) ?assign ?body ?done
 case assign=>
  intro lp pre x W K' hi hx hK'
  unfold encK kV
  gi_wp2
  exact hK' _ _ rfl hi hx (Below.refl _ _) (KpIt.of (Below.refl _ _) hi.2.1.size)
 case body=>
  rintro lp pre x a' W rfl ⟨⟨v,hv,hown⟩,hbw,hpl⟩ hlt
  unfold kV
  obtain ⟨X,hX⟩:∃ X:ByteArray,X=⟨x.toArray⟩:=⟨_,rfl⟩
  rw [← hX]
  have hfl:strs [x]=[.string X]:=by rw [hX];rfl
  have cB:=cell_of_one hv
  have fB:=free_of_one hv
  have hsz:=hbw.size
  have hlB:=lt_of_block hv
  obtain ⟨k,hk⟩:∃ k,k=pre.length:=⟨_,rfl⟩
  have ho1:W.ownsRow w.heap.size 9 1 v k (strs pre):=by rw [hk];exact hown
  have hkl:k≤134217727:=by omega
  have HO:=Lib.hid ho1
  have HOW:=Lib.hid hown
  have HV:=Lib.hid hv
  have HBW:=Lib.hid hbw
  have HK:=Lib.hid hk
  have HFL:=Lib.hid hfl
  have HLT:=Lib.hid hlt
  clear hv hown hbw ho1 hk hfl hX hlt hpl
  gi_wp2_with (gi_at_builtin;refine wpListIn_append_own _ rfl (.tmp 8) (.tmp 10) 24 rfl w.heap.size 9 i0 _ 1 16 Tryz.underlying24 hi0 hz0 hz1 hz2 rfl (by omega) _ k (strs pre) rfl (HO.out.alloc _) ⟨W.heap.size,0,none⟩ 1 1 [.string X] rfl rfl (news_at W [.string X] 9) (by intro u hu;simp at hu;subst hu;rfl) (by unfold maxLen;omega) (by omega) (by simp;omega) ?_)
  intro v' w4 hown4 hgrow4 hz4
  clear hz4
  obtain ⟨g',cap',hv',_,_⟩:=hown4.form (by omega)
  have hne:=owned_apart HOW.out HV.out (by decide)
  have hal:Below W.heap.size W (W.alloc (.cells #[.string X] 9)):=(Below.refl _ _).alloc (Nat.le_refl _) _
  have hv4:w4.heap[w.heap.size]?=some (.cells #[v] 24 (0,0)):=(hgrow4.block _ (by simp;omega) (fun e=>hne e.symm)).trans ((hal.block _ hlB).trans HV.out)
  have cB4:=cell_of_one hv4
  have fB4:=free_of_one hv4
  have hne':=owned_apart hown4 hv4 (by decide)
  have hs4:W.heap.size≤w4.heap.size:=Nat.le_trans hal.size hgrow4.size
  have hkeep:∀ (j:Nat),j<W.heap.size→j≠w.heap.size→v.ownBlock≠some j→(w4.setCell ⟨w.heap.size,0,none⟩ v').heap[j]?=W.heap[j]?:=fun j h1 h2 h3=>by
   rw [Below.heap_setCell _ _ _ _ h2,hgrow4.block j (Nat.lt_of_lt_of_le h1 hal.size) (fun e=>h3 e.symm),hal.block j h1]
  have hnc:∀ (j:Nat) (o:Obj),W.heap[j]?=some o→o.isCells=false→(w4.setCell ⟨w.heap.size,0,none⟩ v').heap[j]?=some o:=fun j o h1 h2=>by
   rw [hkeep j (Array.getElem?_eq_some_iff.1 h1).1 (fun e=> ?_) (ownN_cells HOW.out h1 h2),h1]
   subst e
   have :=HV.out
   rw [this] at h1
   injection h1 with h1
   rw [← h1] at h2
   cases h2
  have hbl:Below w.heap.size W (w4.setCell ⟨w.heap.size,0,none⟩ v'):=⟨hgrow4.os,hgrow4.tape,hgrow4.output,by simpa using hs4,fun j hj=>hkeep j (by omega) (by omega) (fun e=>by have :=(HO.out.lt j e).1;omega)⟩
  have hin:CollInS w (pre++[x]) (w4.setCell ⟨w.heap.size,0,none⟩ v'):=by
   refine ⟨⟨v',one_setCell hv4,?_⟩,HBW.out.trans hbl,by rw [List.length_append,List.length_singleton,← HK.out];omega⟩
   have :=ownsRow_setCell_other hown4 (show v'.ownBlock≠some (⟨w.heap.size,0,none⟩:Addr).block from hne') v'
   unfold OwnNm
   rw [List.length_append,List.length_singleton,← HK.out,strs_append,HFL.out]
   exact this
  have HKO:Hid (KeepsOthers W (w4.setCell ⟨w.heap.size,0,none⟩ v')):=Lib.hid ⟨by simpa using hs4,hnc⟩
  have HKP:Hid (KpIt w.heap.size W (w4.setCell ⟨w.heap.size,0,none⟩ v')):=Lib.hid ⟨hbl,fun j o h1 h2=>hnc j o h1 (by rcases h2 with ⟨_,_,_,_,rfl⟩|⟨_,_,rfl⟩<;>rfl)⟩
  have HIN:=Lib.hid hin
  subst hv'
  clear hkeep hnc hbl hin hne hne' hal hv4 hgrow4 hown4
  gi_wp2
  exact ⟨HKO.out,HKP.out,HIN.out⟩
 case done=>
  rintro D' ys W hD2 hys ⟨⟨v,hv,hown⟩,hbw,_⟩ hK'
  have cB:=cell_of_one hv
  have HO:=Lib.hid hown
  have HBW:=Lib.hid hbw
  have HV:=Lib.hid hv
  have HYS:=Lib.hid hys
  clear hys hown hbw hv
  gi_wp2
  refine ⟨by simp,.inl ⟨_,_,rfl,run_takeDeferred hK',?_⟩⟩
  refine ⟨_,results_tmp rfl _ _ _,?_⟩
  refine ⟨v,ys,rfl,HYS.out,owned_keep HO.out fun g hg=>World.putObj_heap_other fun e=> ?_,Below.firm (by omega) W D' _ (.deferred none) hD2 hK' rfl HBW.out⟩
  subst e
  exact ownN_cells HO.out hK' rfl hg
set_option maxHeartbeats 1000000 in
theorem keys_collectS (Bx B c:Nat) (m:List EntK) (w:World) (hm:MapK w B c m) (hc:w.cell? ⟨Bx,0,none⟩=some (.map (some B))) (hl:m.length≤134217727):
  Calls Tryz.prog 167 #[.func (.func 169) #[] #[.pointer (some ⟨Bx,0,none⟩)]] w (GotKeysS (m.map (·.1)) w):=by
 have HA:=Lib.hid (keys_appendS Bx B c m w hm hc hl)
 clear hm hc
 go_enter Tryz.func167,Tryz.ntmps167
 go_wp2_with (go_at_call 222;(with_reducible refine HA.out.mono ?_);rintro e w' ⟨v,ts,rfl,hp,ho,hb⟩)
 go_ret
 exact ⟨v,ts,rfl,hp,ho,hb⟩
set_option maxHeartbeats 2000000 in
theorem keys_sortedS (Bx B c:Nat) (m:List EntK) (l:List En) (w:World) (hm:MapK w B c m) (hc:w.cell? ⟨Bx,0,none⟩=some (.map (some B))) (hl:m.length≤134217727) (hk:(m.map (·.1)).Perm (keysE l)):
    Calls Tryz.prog 96 #[.func (.func 169) #[] #[.pointer (some ⟨Bx,0,none⟩)]] w (GaveNm (keysE l) w):=by
  have HA:=Lib.hid (keys_collectS Bx B c m w hm hc hl)
  have hks:(m.map (·.1)).length≤134217727:=by simpa using hl
  have HK:=Lib.hid hk
  obtain ⟨ks,hk2⟩:∃ ks,ks=m.map (·.1):=⟨_,rfl⟩
  rw [← hk2] at hks HA HK
  clear hm hc hk hk2
  go_enter Tryz.func96,Tryz.ntmps96
  go_wp2_with (first
    | (go_at_call 167; (with_reducible refine HA.out.mono ?_); rintro e w1 ⟨v, ts, rfl, hp, ho, hb⟩
       have hlt:ts.length≤134217727:=by rw [hp.length_eq];exact hks
       have HS:=Lib.hid (sort_texts w.heap.size v ts w1 ho hb.size (by omega))
       have HP:=Lib.hid hp
       have HB:=Lib.hid hb
       clear hp ho hb)
    |(go_at_call 168;(with_reducible refine HS.out.mono ?_);rintro e w2 ⟨rfl,ho2,hb2⟩))
  go_ret
  rw [sorted_keys (HP.out.trans HK.out)] at ho2
  exact ⟨v,rfl,ho2,HB.out.trans hb2⟩
end Go.Proofs.YtldcadpemnpbmaaGreatDoor
namespace Go.Proofs.YtldcadpemnpbmaaGreatDoor
open Go Go.RowKit
set_option linter.unusedVariables false
def putAll (a:List Tm) (s:Nm) (ws:List Nm):List Tm:=ws.foldl (fun b x=>putT b (s,x)) a
def termsUp (l:List Fd) (k:Nat):List Tm:=(l.take k).foldl (fun a f=>putAll a f.1 (wordsD l f.1)) []
theorem termsUp_succ {l:List Fd} {k:Nat} (hk:k<l.length):termsUp l (k+1)=putAll (termsUp l k) l[k].1 (wordsD l l[k].1):=by
 unfold termsUp
 rw [List.take_succ_eq_append_getElem hk,List.foldl_append]
 rfl
theorem termsUp_all (l:List Fd):termsUp l l.length=termsD l:=by rw [termsUp,List.take_length];rfl
theorem putT_length (l:List Tm) (t:Tm):(putT l t).length≤l.length+1:=by
 have :=backT_le l t l.length
 unfold putT
 split
 ·omega
 ·simp only [List.length_append,List.length_take,List.length_cons,List.length_drop]
  omega
theorem putAll_length (s:Nm):∀ (ws:List Nm) (a:List Tm),(putAll a s ws).length≤a.length+ws.length
 |[],a=>Nat.le_refl _
 |x::ws,a=>by
  have h1:=putT_length a (s,x)
  have h2:=putAll_length s ws (putT a (s,x))
  simp only [List.length_cons]
  show (putAll (putT a (s,x)) s ws).length≤_
  omega
theorem termsUp_length {l:List Fd} {M:Nat} (hw:∀ s,(wordsD l s).length≤M):∀ k,k≤l.length→(termsUp l k).length≤k*M
 |0,_=>by simp [termsUp]
 |k+1,hk=>by
  have h1:=termsUp_length hw k (by omega)
  have h2:=putAll_length (l[k]'(by omega)).1 (wordsD l (l[k]'(by omega)).1) (termsUp l k)
  have h3:=hw (l[k]'(by omega)).1
  rw [termsUp_succ (by omega),Nat.succ_mul]
  omega
end Go.Proofs.YtldcadpemnpbmaaGreatDoor
set_option linter.unusedVariables false
namespace Go.Proofs.YtldcadpemnpbmaaGreatDoor
open Go Go.RowKit
section
variable {S:Nat→Prop} {w:World} {B:Nat} {l:List En} {up:Int}
theorem keysE_bound {l:List En} (hg:GoodE l) (hn:l.length≤1000):(keysE l).length≤4000000:=by
 have h1:=keysE_length (l:=l) (a:=[]) (M:=4000) fun q hq=>by
  have h:=hg q hq
  have h1:=termsUp_length (l:=q.2.1) (M:=500) h.wordsS q.2.1.length (Nat.le_refl _)
  rw [termsUp_all] at h1
  exact Nat.le_trans h1 (Nat.le_trans (Nat.mul_le_mul_right _ h.len) (by omega))
 have h2:l.length*4000≤1000*4000:=Nat.mul_le_mul_right _ hn
 have h3:(keysE l).length≤l.length*4000+([]:List Nm).length:=h1
 simp only [List.length_nil] at h3
 omega
theorem buf_Keys (h:BufAt S w B l up) (hn:l.length≤1000):Calls Tryz.prog 42 #[.pointer (some ⟨B,0,none⟩)] w (GaveNm (keysE l) w):=by
  obtain ⟨v,M,c,g,h⟩:=h
  obtain ⟨c0,c1,c2,c3,_⟩:=four_cells h.cells
  obtain ⟨m,hm,hk,hl⟩:=h.map.keys
  have hp:(m.map (·.1)).Perm (keysE l):=by rw [hk];exact h.stand.perm
  have hlen:m.length≤134217727:=by rw [hl,h.stand.length];have :=keysE_bound h.good hn;omega
  have HM:=Lib.hid hm
  have HP:=Lib.hid hp
  clear h hm hk hl hp
  go_enter Tryz.func42,Tryz.ntmps42
  go_wp2_with (first
    | (go_at_call 97; (with_reducible refine (maps_KeysP M w).mono ?_); rintro e w1 ⟨rfl, hw1⟩
       have hb1:Below w.heap.size w w1:=by rw [hw1];exact (Below.refl _ _).alloc (Nat.le_refl _) _
       have hc1:w1.cell? ⟨w.heap.size,0,none⟩=some (.map (some M)):=by rw [hw1];simp
       have hm1:MapK w1 M c m:=(hb1.block M (Array.getElem?_eq_some_iff.1 HM.out).1).trans HM.out
       have HS:=Lib.hid (keys_sortedS w.heap.size M c m l w1 hm1 hc1 hlen HP.out)
       have HB1:=Lib.hid hb1
       clear hw1 hb1 hc1 hm1)
    |(go_at_call 96;(with_reducible refine HS.out.mono ?_);rintro e w2 ⟨v2,rfl,ho2,hb2⟩))
  go_ret
  exact ⟨_,rfl,ho2.low HB1.out.size,HB1.out.trans (hb2.mono HB1.out.size)⟩
end
end Go.Proofs.YtldcadpemnpbmaaGreatDoor
set_option linter.unusedVariables false
namespace Go.Proofs.YtldcadpemnpbmaaGreatDoor
open Go Go.RowKit
set_option linter.unusedVariables false
theorem terms_len9 {d:List Fd} (h:GoodF d):(termsD d).length≤4000:=by
 have h1:=termsUp_length (l:=d) (M:=500) h.wordsS d.length (Nat.le_refl _)
 rw [termsUp_all] at h1
 exact Nat.le_trans h1 (Nat.le_trans (Nat.mul_le_mul_right _ h.len) (by omega))
end Go.Proofs.YtldcadpemnpbmaaGreatDoor
set_option linter.unusedVariables false
namespace Go.Proofs.YtldcadpemnpbmaaGreatDoor
open Go Go.RowKit
structure AddOk (G:List En):Prop where
 may:∀ q∈G,mayD q.2.1=0∧∀ f∈q.2.1,f.1.length≤1024∧f.2.length≤1024
 rise:risesZ (-1) (G.map (·.2.2))=true
 few:G.length≤100
theorem AddOk.good {G:List En} (h:AddOk G):GoodE G:=fun q hq=>goodF_of (h.may q hq).1 fun f hf=>((h.may q hq).2 f hf).2
theorem posts_doc {key:Nm} {p:Pn}:∀ {l:List En} {i:Nat},p∈postsE i l key→(i:Int)≤p.1∧p.1<(i+l.length:Nat)
 |[],i,h=>by simp [postsE] at h
 |q::l,i,h=>by
  rw [postsE] at h
  rcases List.mem_append.1 h with h|h
  ·unfold postIn at h
   obtain ⟨t,_,rfl⟩:=List.mem_map.1 h
   simp only [List.length_cons]
   omega
  ·have :=posts_doc h
   simp only [List.length_cons]
   omega
theorem keys_posts {l:List En} {key:Nm} (h:key∈keysE l):0<(postsE 0 l key).length:=by
 obtain ⟨q,hq,t,ht,e⟩:=mem_keysE.1 h
 exact posts_there ⟨q,hq,t,ht,e⟩
theorem build_may {G:List En} (h:AddOk G):mayPs (buildP G)=true:=by
 refine mayPs_iff.2 ⟨by simp [buildP],by simp [buildP],h.rise,risesN_iff.2 (rise_keysE G),fun l hl=> ?_⟩
 obtain ⟨key,hk,rfl⟩:=List.mem_map.1 hl
 have hn:(buildP G).ids.length=G.length:=by simp [buildP]
 have hp:=keys_posts hk
 have hm:=posts_may (key:=key) (i:=0) (last:= -1) h.good (by omega) (by have :=h.few;omega)
 unfold mayL
 rw [hm,hn,Bool.true_and,Bool.and_eq_true,decide_eq_true_iff,decide_eq_true_iff]
 refine ⟨by omega,fun p hp'=> ?_⟩
 have :=(posts_doc (List.mem_of_getLast? hp')).2
 simpa using this
theorem build_keys {G:List En} (h:AddOk G):(keysE G).length≤400000:=by
 have h1:=keysE_length (l:=G) (a:=[]) (M:=4000) fun q hq=>terms_len9 (h.good q hq)
 have h2:(keysE G).length≤G.length*4000+([]:List Nm).length:=h1
 have :=h.few
 simp only [List.length_nil] at h2
 omega
theorem build_small {G:List En} (h:AddOk G):PSmall (buildP G):=by
 refine ⟨by have :=h.few;simp [buildP];omega,by have :=build_keys h;simp only [buildP];omega,fun l hl=> ?_⟩
 obtain ⟨key,hk,rfl⟩:=List.mem_map.1 hl
 have h1:=posts_len h.good (key:=key) G 0 (fun q hq=>hq)
 have h2:=totalP_le (l:=postsE 0 G key) (n:=500) fun p hp=>(posts_good h.good p hp).2
 have :=h.few
 exact ⟨by omega,by omega⟩
theorem build_few {G:List En} (h:AddOk G):PFew (buildP G):=by
 have hs:=build_small h
 have hk:=hs.keys
 have hi:=hs.ids
 refine ⟨by omega,by simp [buildP] at hi ⊢;omega,by omega,by simp [buildP] at hk ⊢;omega,fun l hl=>⟨by have :=(hs.lists l hl).1;omega,fun p hp=> ?_⟩⟩
 obtain ⟨key,hk,rfl⟩:=List.mem_map.1 hl
 have :=(posts_good h.good p hp).2
 omega
end Go.Proofs.YtldcadpemnpbmaaGreatDoor
set_option linter.unusedVariables false
namespace Go.Proofs.YtldcadpemnpbmaaGreatDoor
def docC (g:List Po) (i:Int):Int:=if i<0 then-1 else if (g.length:Int)≤i then 2147483648 else (g.getD i.toNat (0,[])).1
def placesC (g:List Po) (i:Int):List Int:=if i<0∨(g.length:Int)≤i then [] else (g.getD i.toNat (0,[])).2
def advC (g:List Po) (doc:Int) (i:Int):Int:=if docC g i<doc∧i<(g.length:Int) then advC g doc (i+1) else i
termination_by ((g.length:Int)-i).toNat
decreasing_by omega
theorem docC_ahead {g:List Po} {i:Int} (h:i<0):docC g i= -1:=by unfold docC;rw [if_pos h]
theorem docC_behind {g:List Po} {i:Int} (h0:0≤i) (h:(g.length:Int)≤i):docC g i=2147483648:=by unfold docC;rw [if_neg (by omega),if_pos h]
theorem docC_at {g:List Po} {k:Nat} (h:k<g.length):docC g (k:Int)=(g.getD k (0,[])).1:=by unfold docC;rw [if_neg (by omega),if_neg (by omega),Int.toNat_natCast]
theorem placesC_none {g:List Po} {i:Int} (h:i<0∨(g.length:Int)≤i):placesC g i=[]:=by unfold placesC;rw [if_pos h]
theorem placesC_at {g:List Po} {k:Nat} (h:k<g.length):placesC g (k:Int)=(g.getD k (0,[])).2:=by unfold placesC;rw [if_neg (by omega),Int.toNat_natCast]
theorem advC_stay {g:List Po} {doc i:Int} (h:¬ (docC g i<doc∧i<(g.length:Int))):advC g doc i=i:=by rw [advC,if_neg h]
theorem advC_step {g:List Po} {doc i:Int} (h:docC g i<doc∧i<(g.length:Int)):advC g doc i=advC g doc (i+1):=by rw [advC,if_pos h]
theorem may_memC:∀ {l:List Po} {x:Int},mayB' x l=true→∀ q∈l,x<q.1∧q.1<2147483648
 |[],_,_,q,hq=>by cases hq
 |p::r,x,h,q,hq=>by
  obtain ⟨h1,h2,_,h4⟩:=mayB'_cons.1 h
  rcases List.mem_cons.1 hq with rfl|hq
  ·exact ⟨h1,h2⟩
  ·have :=may_memC h4 q hq
   exact ⟨by omega,this.2⟩
theorem docC_lt {g:List Po} (h:mayB' (-1) g=true) {k:Nat} (hk:k<g.length):0≤docC g (k:Int)∧docC g (k:Int)<2147483648:=by
 rw [docC_at hk]
 have :=may_memC h (g.getD k (0,[])) (by rw [List.getD_eq_getElem?_getD,List.getElem?_eq_getElem hk];simp)
 omega
end Go.Proofs.YtldcadpemnpbmaaGreatDoor
