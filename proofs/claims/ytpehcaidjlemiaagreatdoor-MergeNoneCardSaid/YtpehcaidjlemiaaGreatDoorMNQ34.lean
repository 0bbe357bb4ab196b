import Derived.Test.YtpehcaidjlemiaaGreatDoorMNZz
import Derived.Test.YtpehcaidjlemiaaGreatDoorMNQ21
import Derived.Test.YtpehcaidjlemiaaGreatDoorMNQ17
import Derived.Test.YtpehcaidjlemiaaGreatDoorMNQ30
import Derived.Test.YtpehcaidjlemiaaGreatDoorMNQ19
import Derived.Deep.RegionHeld3
set_option maxHeartbeats 8000000
set_option maxRecDepth 100000
set_option linter.unusedVariables false
namespace Go.Proofs.YtpehcaidjlemiaaGreatDoor
open Go Go.RowKit
attribute [local go_sem] Oper.semAt_some
def qzb (x:qbc) (w:World) (e:Ending) (w':World):Prop:=∃ A1 c1 A2 c2 A3 c3 A4 c4,e= .returned (.agg #[.slice A1 x.ids.length c1,.slice A2 x.seqs.length c2,.slice A3 x.keys.length c3,.slice A4 x.lists.length c4])/\PAt w' w'.heap.size A1 A2 A3 A4 x/\Below w.heap.size w w'
def qgG (x:qbc) (w:World) (P:Nat) (B1 B2:Option Addr) (d1 d2:Nat) (wx:World):Prop:=
 wx.heap[P]?=some (.cells #[.slice B1 x.ids.length d1,.slice B2 x.seqs.length d2,.slice none 0 0,.slice none 0 0] 62 (0,0))/\w.heap.size<P/\qaV w.heap.size 3 wx B1 (qaa x.ids)/\qaV w.heap.size 3 wx B2 (qaa x.seqs)/\
  wx.heap[w.heap.size]?=some (.cells #[.slice none 0 0,.slice none 0 0,.slice none 0 0,.slice none 0 0] 62 (0,0))/\Below w.heap.size w wx
def qfb (x:qbc) (w:World) (base P:Nat) (B1 B2:Option Addr) (d1 d2:Nat) (pre:List (Nm × Nat)) (W:World):Prop:=
 (∃ v3 v4,qbx 62 w.heap.size base P (.slice B1 x.ids.length d1) (.slice B2 x.seqs.length d2) v3 v4 (x.keys.take pre.length) (x.lists.take pre.length) W)/\qaV w.heap.size 3 W B1 (qaa x.ids)/\qaV w.heap.size 3 W B2 (qaa x.seqs)/\
  W.heap[w.heap.size]?=some (.cells #[.slice none 0 0,.slice none 0 0,.slice none 0 0,.slice none 0 0] 62 (0,0))/\Below w.heap.size w W
theorem qfb.below {x:qbc} {w W W':World} {base P:Nat} {B1 B2:Option Addr} {d1 d2:Nat} {pre:List (Nm × Nat)} (h:qfb x w base P B1 B2 d1 d2 pre W) (hb:Below W.heap.size W W'):qfb x w base P B1 B2 d1 d2 pre W':=by
 obtain ⟨⟨v3,v4,h1⟩,h2,h3,h4,h5⟩:=h;have hk:qap w.heap.size W W':= .of_below hb h5.size;exact ⟨⟨v3,v4,h1.below hb⟩,h2.keep (.inr rfl) hk,h3.keep (.inr rfl) hk,(hb.block _ (Array.getElem?_eq_some_iff.1 h4).1).trans h4,h5.trans (hb.mono h5.size)⟩
theorem qfb.firm {x:qbc} {w:World} {base P:Nat} {B1 B2:Option Addr} {d1 d2:Nat} {pre:List (Nm × Nat)} {N:Nat} (hN:w.heap.size<=N) (hN2:w.heap.size<N):qat N (qfb x w base P B1 B2 d1 d2 pre):=fun W l o o' hl ho hc h=>by
 obtain ⟨⟨v3,v4,h1⟩,h2,h3,h4,h5⟩:=h;have hk:qap w.heap.size W (W.putObj l o'):=⟨by simp,fun k hk=>World.putObj_heap_other (by omega),fun k cs t fr hk _=>(World.putObj_heap_other (by rintro rfl;rw [ho] at hk;injection hk with hk;rw [hk] at hc;cases hc)).trans hk⟩
 exact ⟨⟨v3,v4,qbx.firm hN W l o o' hl ho hc h1⟩,h2.keep (.inr rfl) hk,h3.keep (.inr rfl) hk,(World.putObj_heap_other (by omega)).trans h4,qat.belowW (N:=N) hN W l o o' hl ho hc h5⟩
theorem qpP {w:World} {S:Nat} {x:qbc} (h:qbC w S x):Calls Tryz.prog 23 #[.pointer (some ⟨S,0,none⟩)] w (qzb x w):=by
 obtain ⟨A1,c1,A2,c2,A3,c3,g1,g2,g3,g4,g5⟩:=h.cells;refine (callsIn_wide (n:=6)).1 ?_;have hlt:=h.lt;have hsm:=h.small.ids;have hsq:=h.seqs;have HC1:Hid (∀ w',Below w.heap.size w w'->Calls Tryz.prog 53 #[.slice A1 x.ids.length c1] w' (qfZ x.ids w')):=qH fun w' hb=>qhY A1 _ c1 x.ids w' rfl (Row.later g4 hb) (by omega)
 have HC2:Hid (∀ w',Below w.heap.size w w'->Calls Tryz.prog 53 #[.slice A2 x.seqs.length c2] w' (qfZ x.seqs w')):=qH fun w' hb=>qhY A2 _ c2 x.seqs w' rfl (Row.later g5 hb) (by omega)
 have HQ:Hid (∀ w',Below w.heap.size w w'->w'.cell? ⟨S,0,none⟩=some (.slice A1 x.ids.length c1)/\w'.cell? ⟨S,1,none⟩=some (.slice A2 x.seqs.length c2)):=qH fun w' hb=>by
  have :=qfm ((hb.block S hlt).trans g1);exact ⟨this.1,this.2.1⟩
 obtain ⟨w1,hw1⟩:∃ w1,w1=w.alloc (.cells #[.slice none 0 0,.slice none 0 0,.slice none 0 0,.slice none 0 0] 62):=⟨_,rfl⟩;have hb1:Below w.heap.size w w1:=by rw [hw1];exact (Below.refl _ w).alloc (Nat.le_refl _) _
 have hr1:w1.heap[w.heap.size]?=some (.cells #[.slice none 0 0,.slice none 0 0,.slice none 0 0,.slice none 0 0] 62 (0,0)):=by rw [hw1];exact heap_alloc_new w _
 have HB1:=qH hb1;have HR1:=qH hr1;have HW1:=qH hw1;obtain ⟨n1,hn1⟩:∃ n,n=x.ids.length:=⟨_,rfl⟩;obtain ⟨n2,hn2⟩:∃ n,n=x.seqs.length:=⟨_,rfl⟩;rw [<- hn1] at HC1 HQ;rw [<- hn2] at HC2 HQ;have HN1:=qH hn1;have HN2:=qH hn2;have HS:=qH h;clear h g1 g2 g3 g4 g5 hlt hsm hsq hw1 hb1 hr1 hn1 hn2;refine callsIn_of_wp_marks Tryz.func23 rfl trivial ?_ rfl;simp only [Tryz.ntmps23,List.size_toArray,List.length_cons,List.length_nil,Nat.reduceAdd,Nat.reduceSub,Array.replicate_succ,Array.replicate_zero,List.push_toArray,List.append_toArray,List.nil_append,List.cons_append];gi_wp2;have hst:∀ (P:Nat) (B1 B2:Option Addr) (d1 d2:Nat) (w6:World),w6.heap[P]?=some (.cells #[.slice none 0 0,.slice none 0 0,.slice none 0 0,.slice none 0 0] 62 (0,0))->w.heap.size<P->Below w1.heap.size w1 w6->qaV w.heap.size 3 w6 B1 (qaa x.ids)->qaV w.heap.size 3 w6 B2 (qaa x.seqs)->
   qgG x w P B1 B2 d1 d2 ((((w6.setCell ⟨P,0,none⟩ (.slice B1 n1 d1)).setCell ⟨P,1,none⟩ (.slice B2 n2 d2)).setCell ⟨P,2,none⟩ (.slice none 0 0)).setCell ⟨P,3,none⟩ (.slice none 0 0))/\Below w.heap.size w ((((w6.setCell ⟨P,0,none⟩ (.slice B1 n1 d1)).setCell ⟨P,1,none⟩ (.slice B2 n2 d2)).setCell ⟨P,2,none⟩ (.slice none 0 0)).setCell ⟨P,3,none⟩ (.slice none 0 0)):=by
  intro P B1 B2 d1 d2 w6 hP hwP hb6 hr1 hr2;have e0:=heap_setCell_same w6 P 0 _ _ (.slice B1 n1 d1) hP;have e1:=heap_setCell_same _ P 1 _ _ (.slice B2 n2 d2) e0;have e2:=heap_setCell_same _ P 2 _ _ (.slice none 0 0) e1;have e3:=heap_setCell_same _ P 3 _ _ (.slice none 0 0) e2;have k0:qap w.heap.size w6 (w6.setCell ⟨P,0,none⟩ (.slice B1 n1 d1)):=qap.setCell hP (by omega) (by unfold PoK;decide) _;have k1:=k0.trans (qap.setCell (o:=1) e0 (by omega) (by unfold PoK;decide) (.slice B2 n2 d2));have k2:=k1.trans (qap.setCell (o:=2) e1 (by omega) (by unfold PoK;decide) (.slice none 0 0));have k3:=k2.trans (qap.setCell (o:=3) e2 (by omega) (by unfold PoK;decide) (.slice none 0 0));have hbb:=((((HB1.out.trans (hb6.mono HB1.out.size)).setCell (p:=⟨P,0,none⟩) (Nat.le_of_lt hwP) (.slice B1 n1 d1)).setCell (p:=⟨P,1,none⟩) (Nat.le_of_lt hwP) (.slice B2 n2 d2)).setCell (p:=⟨P,2,none⟩) (Nat.le_of_lt hwP) (.slice none 0 0)).setCell (p:=⟨P,3,none⟩) (Nat.le_of_lt hwP) (.slice none 0 0);refine ⟨⟨?_,hwP,hr1.keep (.inr rfl) k3,hr2.keep (.inr rfl) k3,?_,hbb⟩,hbb⟩
  ·rw [e3,<- HN1.out,<- HN2.out]
   rfl
  ·have hne:w.heap.size≠P:=by omega
   rw [Below.heap_setCell _ _ _ _ hne,Below.heap_setCell _ _ _ _ hne,Below.heap_setCell _ _ _ _ hne,Below.heap_setCell _ _ _ _ hne,hb6.block _ (Array.getElem?_eq_some_iff.1 HR1.out).1,HR1.out]
 have HST:=qH hst;have HB0:Hid (Below w1.heap.size w1 w1.drew):=qH (Below.refl _ w1).drew;have HSZ:Hid (w.heap.size<w1.heap.size):=qH (by have :=(Array.getElem?_eq_some_iff.1 HR1.out).1;exact this);clear hst;rw [<- HW1.out];refine wpIn_mono (Q:=fun e a wx=>e= .normal/\∃ P B1 B2 d1 d2,qgG x w P B1 B2 d1 d2 wx/\a={tmps:=#[.pointer (some ⟨S,0,none⟩),undef,.pointer (some ⟨w.heap.size,0,none⟩),.pointer (some ⟨P,0,none⟩),undef,undef,.pointer (some ⟨S,0,none⟩),.pointer (some ⟨S,0,none⟩),.pointer (some ⟨S,0,none⟩),.slice A1 n1 c1,.slice B1 n1 d1,.pointer (some ⟨S,0,none⟩),.pointer (some ⟨S,0,none⟩),.pointer (some ⟨S,1,none⟩),.slice A2 n2 c2,.slice B2 n2 d2,.agg #[.slice B1 n1 d1,.slice B2 n2 d2,.slice none 0 0,.slice none 0 0],undef,undef,undef,undef,undef,undef,undef,undef,undef,undef,undef,undef,undef,undef,undef,undef,undef,undef,undef,undef],defers:=[]}) ?region ?rest
 case region=>
  refine wpIn_wide.2 ?_;have HBd:Hid (Below w.heap.size w w1.drew):=qH (HB1.out.trans (HB0.out.mono HB1.out.size));have HZ:Hid (∀ W:World,Below W.heap.size W (W.alloc (.cells #[.slice none 0 0,.slice none 0 0,.slice none 0 0,.slice none 0 0] 62))/\(W.alloc (.cells #[.slice none 0 0,.slice none 0 0,.slice none 0 0,.slice none 0 0] 62)).heap[W.heap.size]?=some (.cells #[.slice none 0 0,.slice none 0 0,.slice none 0 0,.slice none 0 0] 62 (0,0))):=qH fun W=>⟨(Below.refl _ _).alloc (Nat.le_refl _) _,heap_alloc_new W _⟩
  have HSZD:Hid (w1.heap.size<=(w1.drew.alloc (.cells #[.slice none 0 0,.slice none 0 0,.slice none 0 0,.slice none 0 0] 62)).heap.size/\w1.heap.size<(w1.drew.alloc (.cells #[.slice none 0 0,.slice none 0 0,.slice none 0 0,.slice none 0 0] 62)).heap.size):=qH (by
   have e:w1.drew.heap.size=w1.heap.size:=rfl;rw [World.size_alloc,e];omega)
  have HBz:Hid (Below w.heap.size w (w1.drew.alloc (.cells #[.slice none 0 0,.slice none 0 0,.slice none 0 0,.slice none 0 0] 62))):=qH (HBd.out.trans ((HZ.out w1.drew).1.mono HBd.out.size));have HGAM:Hid (∀ (w5 w6:World) (B5 B6:Option Addr) (d5 d6:Nat),Below w1.heap.size w1 w5->qaV w.heap.size 3 w5 B5 (qaa x.ids)->Below w5.heap.size w5 w6->qaV w.heap.size 3 w6 B6 (qaa x.seqs)->
    (qgG x w w6.heap.size B5 B6 d5 d6 (w6.alloc (.cells #[.slice B5 n1 d5,.slice B6 n2 d6,.slice none 0 0,.slice none 0 0] 62))/\Below w.heap.size w (w6.alloc (.cells #[.slice B5 n1 d5,.slice B6 n2 d6,.slice none 0 0,.slice none 0 0] 62)))/\((w6.alloc (.cells #[.slice none 0 0,.slice none 0 0,.slice none 0 0,.slice none 0 0] 62)).cell? ⟨w6.heap.size,0,none⟩=some (.slice none 0 0)/\(w6.alloc (.cells #[.slice none 0 0,.slice none 0 0,.slice none 0 0,.slice none 0 0] 62)).cell? ⟨w6.heap.size,1,none⟩=some (.slice none 0 0)/\(w6.alloc (.cells #[.slice none 0 0,.slice none 0 0,.slice none 0 0,.slice none 0 0] 62)).cell? ⟨w6.heap.size,2,none⟩=some (.slice none 0 0)/\(w6.alloc (.cells #[.slice none 0 0,.slice none 0 0,.slice none 0 0,.slice none 0 0] 62)).cell? ⟨w6.heap.size,3,none⟩=some (.slice none 0 0))/\(w6.alloc (.cells #[.slice none 0 0,.slice none 0 0,.slice none 0 0,.slice none 0 0] 62)).frozen? ⟨w6.heap.size,0,none⟩=false/\(w6.alloc (.cells #[.slice none 0 0,.slice none 0 0,.slice none 0 0,.slice none 0 0] 62)).frozen? ⟨w6.heap.size,1,none⟩=false/\(w6.alloc (.cells #[.slice none 0 0,.slice none 0 0,.slice none 0 0,.slice none 0 0] 62)).frozen? ⟨w6.heap.size,2,none⟩=false/\(w6.alloc (.cells #[.slice none 0 0,.slice none 0 0,.slice none 0 0,.slice none 0 0] 62)).frozen? ⟨w6.heap.size,3,none⟩=false):=qH fun w5 w6 B5 B6 d5 d6 hX5 hr5 hb6 hr6=>by
   have hX6:=hX5.trans (hb6.mono hX5.size);have hB5:=HB1.out.trans (hX5.mono HB1.out.size);have hB6:=HB1.out.trans (hX6.mono HB1.out.size);have hal:Below w6.heap.size w6 (w6.alloc (.cells #[.slice B5 n1 d5,.slice B6 n2 d6,.slice none 0 0,.slice none 0 0] 62)):=(Below.refl _ _).alloc (Nat.le_refl _) _;have hP:=heap_alloc_new w6 (.cells #[.slice B5 n1 d5,.slice B6 n2 d6,.slice none 0 0,.slice none 0 0] 62);have hbb:=hB6.trans (hal.mono hB6.size);refine ⟨⟨⟨by rw [hP,<- HN1.out,<- HN2.out],by have :=hX6.size;have :=HSZ.out;omega,(hr5.keep (.inr rfl) (.of_below hb6 hB5.size)).keep (.inr rfl) (.of_below hal hB6.size),hr6.keep (.inr rfl) (.of_below hal hB6.size),?_,hbb⟩,hbb⟩,qa4 (HZ.out w6).2⟩;rw [(hX6.trans (hal.mono hX6.size)).block _ (Array.getElem?_eq_some_iff.1 HR1.out).1,HR1.out]
  have HBET:Hid (∀ (w5 w7:World) (B5 B7:Option Addr) (d5 d7:Nat),Below w1.heap.size w1 w5->qaV w.heap.size 3 w5 B5 (qaa x.ids)->Below (w5.alloc (.cells #[.slice none 0 0,.slice none 0 0,.slice none 0 0,.slice none 0 0] 62)).heap.size (w5.alloc (.cells #[.slice none 0 0,.slice none 0 0,.slice none 0 0,.slice none 0 0] 62)) w7->qaV w.heap.size 3 w7 B7 (qaa x.seqs)->
    (qgG x w (w5.heap.size) B5 B7 d5 d7 ((((w7.setCell ⟨w5.heap.size,0,none⟩ (.slice B5 n1 d5)).setCell ⟨w5.heap.size,1,none⟩ (.slice B7 n2 d7)).setCell ⟨w5.heap.size,2,none⟩ (.slice none 0 0)).setCell ⟨w5.heap.size,3,none⟩ (.slice none 0 0))/\Below w.heap.size w ((((w7.setCell ⟨w5.heap.size,0,none⟩ (.slice B5 n1 d5)).setCell ⟨w5.heap.size,1,none⟩ (.slice B7 n2 d7)).setCell ⟨w5.heap.size,2,none⟩ (.slice none 0 0)).setCell ⟨w5.heap.size,3,none⟩ (.slice none 0 0)))/\((w7).cell? ⟨w5.heap.size,0,none⟩=some (.slice none 0 0)/\(w7).cell? ⟨w5.heap.size,1,none⟩=some (.slice none 0 0)/\(w7).cell? ⟨w5.heap.size,2,none⟩=some (.slice none 0 0)/\(w7).cell? ⟨w5.heap.size,3,none⟩=some (.slice none 0 0))/\(w7).frozen? ⟨w5.heap.size,0,none⟩=false/\(w7).frozen? ⟨w5.heap.size,1,none⟩=false/\(w7).frozen? ⟨w5.heap.size,2,none⟩=false/\(w7).frozen? ⟨w5.heap.size,3,none⟩=false):=qH fun w5 w7 B5 B7 d5 d7 hX5 hr5 hb7 hr7=>by
   have hal:=(HZ.out w5).1;have hB5:=HB1.out.trans (hX5.mono HB1.out.size);have h57:=hal.trans (hb7.mono hal.size);have hP:=(hb7.block w5.heap.size (by rw [World.size_alloc];exact Nat.lt_succ_self _)).trans (HZ.out w5).2;exact ⟨HST.out w5.heap.size B5 B7 d5 d7 w7 hP (by have :=hX5.size;have :=HSZ.out;omega) (hX5.trans (h57.mono hX5.size)) (hr5.keep (.inr rfl) (.of_below h57 hB5.size)) hr7,qa4 hP⟩
  have HALP:Hid (∀ (w8 w9:World) (B8 B9:Option Addr) (d8 d9:Nat),Below (w1.drew.alloc (.cells #[.slice none 0 0,.slice none 0 0,.slice none 0 0,.slice none 0 0] 62)).heap.size (w1.drew.alloc (.cells #[.slice none 0 0,.slice none 0 0,.slice none 0 0,.slice none 0 0] 62)) w8->qaV w.heap.size 3 w8 B8 (qaa x.ids)->Below w8.heap.size w8 w9->qaV w.heap.size 3 w9 B9 (qaa x.seqs)->
    (qgG x w (w1.heap.size) B8 B9 d8 d9 ((((w9.setCell ⟨w1.heap.size,0,none⟩ (.slice B8 n1 d8)).setCell ⟨w1.heap.size,1,none⟩ (.slice B9 n2 d9)).setCell ⟨w1.heap.size,2,none⟩ (.slice none 0 0)).setCell ⟨w1.heap.size,3,none⟩ (.slice none 0 0))/\Below w.heap.size w ((((w9.setCell ⟨w1.heap.size,0,none⟩ (.slice B8 n1 d8)).setCell ⟨w1.heap.size,1,none⟩ (.slice B9 n2 d9)).setCell ⟨w1.heap.size,2,none⟩ (.slice none 0 0)).setCell ⟨w1.heap.size,3,none⟩ (.slice none 0 0)))/\((w9).cell? ⟨w1.heap.size,0,none⟩=some (.slice none 0 0)/\(w9).cell? ⟨w1.heap.size,1,none⟩=some (.slice none 0 0)/\(w9).cell? ⟨w1.heap.size,2,none⟩=some (.slice none 0 0)/\(w9).cell? ⟨w1.heap.size,3,none⟩=some (.slice none 0 0))/\(w9).frozen? ⟨w1.heap.size,0,none⟩=false/\(w9).frozen? ⟨w1.heap.size,1,none⟩=false/\(w9).frozen? ⟨w1.heap.size,2,none⟩=false/\(w9).frozen? ⟨w1.heap.size,3,none⟩=false):=qH fun w8 w9 B8 B9 d8 d9 hb8 hr8 hb9 hr9=>by
   have hX8:Below w1.heap.size w1 w8:=(HB0.out.trans (HZ.out w1.drew).1).trans (hb8.mono HSZD.out.1);have hP8:=(hb8.block w1.heap.size HSZD.out.2).trans (HZ.out w1.drew).2;have hP:=(hb9.block w1.heap.size (Array.getElem?_eq_some_iff.1 hP8).1).trans hP8;have hB8:=HB1.out.trans (hX8.mono HB1.out.size);exact ⟨HST.out w1.heap.size B8 B9 d8 d9 w9 hP HSZ.out (hX8.trans (hb9.mono hX8.size)) (hr8.keep (.inr rfl) (.of_below hb9 hB8.size)) hr9,qa4 hP⟩
  obtain ⟨z1,hz1⟩:∃ z,z=(w1.alloc (.cells #[.slice none 0 0,.slice none 0 0,.slice none 0 0,.slice none 0 0] 62)).drew:=⟨_,rfl⟩;have HZ1:=qH hz1;have HBZ1:Hid (Below w.heap.size w z1):=qH (by rw [hz1];exact HBz.out);have HC1Z:Hid (Calls Tryz.prog 53 #[.slice A1 n1 c1] z1 (qfZ x.ids z1)):=qH (HC1.out z1 HBZ1.out);have HZB:Hid (∀ w8,Below z1.heap.size z1 w8->Below (w1.drew.alloc (.cells #[.slice none 0 0,.slice none 0 0,.slice none 0 0,.slice none 0 0] 62)).heap.size (w1.drew.alloc (.cells #[.slice none 0 0,.slice none 0 0,.slice none 0 0,.slice none 0 0] 62)) w8):=qH (by rw [hz1];exact fun _ h=>h);clear hz1;have HXB:Hid (∀ W,Below w1.heap.size w1 W->Below w.heap.size w W):=qH fun W h=>HB1.out.trans (h.mono HB1.out.size)
  have HX0z:Hid (Below w1.heap.size w1 (w1.drew.alloc (.cells #[.slice none 0 0,.slice none 0 0,.slice none 0 0,.slice none 0 0] 62))):=qH (HB0.out.trans (HZ.out w1.drew).1);have HX5z:Hid (∀ w5,Below w1.heap.size w1 w5->Below w1.heap.size w1 (w5.alloc (.cells #[.slice none 0 0,.slice none 0 0,.slice none 0 0,.slice none 0 0] 62))):=qH fun w5 h=>h.trans ((HZ.out w5).1.mono h.size)
  have HRN1:Hid (∀ (W:World) (B:Option Addr) (d b:Nat),W.ownsRow b 3 1 (.slice B x.ids.length d) x.ids.length (qaa x.ids)->qaV w.heap.size 3 W B (qaa x.ids)):=qH fun W B d b h=>qaV.of_own h
  have HRN2:Hid (∀ (W:World) (B:Option Addr) (d b:Nat),W.ownsRow b 3 1 (.slice B x.seqs.length d) x.seqs.length (qaa x.seqs)->qaV w.heap.size 3 W B (qaa x.seqs)):=qH fun W B d b h=>qaV.of_own h
  refine wp_region_noPanic ?_;refine wp_region_held_drew (S:=fun w'=>w'.cell? ⟨S,0,none⟩=some (.slice A1 n1 c1)/\w'.cell? ⟨S,1,none⟩=some (.slice A2 n2 c2)) (by kernel_rfl) (HQ.out _ HBd.out) (fun hHeld=> ?_)
  refine wpAnyH_take (i:=0) (v:= .pointer (some ⟨S,0,none⟩)) rfl (by kernel_rfl) (by kernel_rfl) (by kernel_rfl) (fun _ _ _ h=>h) (Or.inl ⟨by rfl,fun wx hSw=>by obtain ⟨s1,s2⟩:=hSw;go_simp⟩) (by assumption) ?_
  try simp only [Act.put,zA,zB,zD,zE,zF]
  refine wpAnyH_take (i:=1) (v:= .pointer (some ⟨S,0,none⟩)) rfl (by kernel_rfl) (by kernel_rfl) (by kernel_rfl) (fun _ _ _ h=>h) (Or.inl ⟨by rfl,fun wx hSw=>by obtain ⟨s1,s2⟩:=hSw;go_simp⟩) (by assumption) ?_
  try simp only [Act.put,zA,zB,zC,zD,zE,zF]
  refine wpAnyH_take (i:=2) (v:= .pointer (some ⟨S,0,none⟩)) rfl (by kernel_rfl) (by kernel_rfl) (by kernel_rfl) (fun _ _ _ h=>h) (Or.inl ⟨by rfl,fun wx hSw=>by obtain ⟨s1,s2⟩:=hSw;go_simp⟩) (by assumption) ?_
  try simp only [Act.put,zA,zB,zC,zD,zE,zF]
  refine wpAnyH_take (i:=3) (v:= .slice A1 n1 c1) rfl (by kernel_rfl) (by kernel_rfl) (by kernel_rfl) (fun _ _ _ h=>h) (Or.inl ⟨by rfl,fun wx hSw=>by obtain ⟨s1,s2⟩:=hSw;go_simp⟩) (by assumption) ?_
  try simp only [Act.put,zA,zB,zC,zD,zE,zF]
  refine wpAnyH_take (i:=5) (v:= .pointer (some ⟨S,0,none⟩)) rfl (by kernel_rfl) (by kernel_rfl) (by kernel_rfl) (fun _ _ _ h=>h) (Or.inl ⟨by rfl,fun wx hSw=>by obtain ⟨s1,s2⟩:=hSw;go_simp⟩) (by assumption) ?_
  try simp only [Act.put,zA,zB,zC,zD,zE,zF]
  refine wpAnyH_take (i:=6) (v:= .pointer (some ⟨S,0,none⟩)) rfl (by kernel_rfl) (by kernel_rfl) (by kernel_rfl) (fun _ _ _ h=>h) (Or.inl ⟨by rfl,fun wx hSw=>by obtain ⟨s1,s2⟩:=hSw;go_simp⟩) (by assumption) ?_
  try simp only [Act.put,zA,zB,zC,zD,zE,zF]
  refine wpAnyH_take (i:=7) (v:= .pointer (some ⟨S,1,none⟩)) rfl (by kernel_rfl) (by kernel_rfl) (by kernel_rfl) (fun _ _ _ h=>h) (Or.inl ⟨by rfl,fun wx hSw=>by obtain ⟨s1,s2⟩:=hSw;go_simp⟩) (by assumption) ?_
  try simp only [Act.put,zA,zB,zC,zD,zE,zF]
  refine wpAnyH_take (i:=8) (v:= .slice A2 n2 c2) rfl (by kernel_rfl) (by kernel_rfl) (by kernel_rfl) (fun _ _ _ h=>h) (Or.inl ⟨by rfl,fun wx hSw=>by obtain ⟨s1,s2⟩:=hSw;go_simp⟩) (by assumption) ?_
  try simp only [Act.put,zA,zB,zC,zD,zE,zF]
  refine wpAnyH_ready (rs:=[4,11]) (by kernel_rfl) (by simp) ?_;refine (AllReadyH.cons rfl (fun K hK=> ?_) (AllReadyH.cons rfl (fun K hK=> ?_) AllReadyH.nil))
  ·try simp only [zA,zB,zC]
   go_simp
   go_at_call 53
   (with_reducible refine (HC1.out _ HBd.out).mono ?_)
   rintro e w5 ⟨B5,d5,rfl,hd5,hr5,hb5⟩;have HX5:Hid (Below w1.heap.size w1 w5):=qH (HB0.out.trans hb5);have HR5:=qH (HRN1.out _ _ _ _ hr5);clear hr5 hb5 hd5;rw [<- HN1.out]
   go_wp2_with fail
   refine hK.out _ _ ?_ (fun hHeld=> ?_)
   ·exact HQ.out _ (HXB.out _ HX5.out)
   clear hK K
   try simp only [Act.put,zA,zB,zC,zD,zE,zF]
   refine wpAnyH_ready (rs:=[9,11]) (by kernel_rfl) (by simp) ?_;refine (AllReadyH.cons rfl (fun K hK=> ?_) (AllReadyH.cons rfl (fun K hK=> ?_) AllReadyH.nil))
   ·try simp only [zA,zB,zC]
    go_simp
    go_at_call 53
    (with_reducible refine (HC2.out _ (HXB.out _ HX5.out)).mono ?_)
    rintro e w6 ⟨B6,d6,rfl,hd6,hr6,hb6⟩;have hlem:=HGAM.out w5 w6 B5 B6 d5 d6 HX5.out HR5.out hb6 (HRN2.out _ _ _ _ hr6);obtain ⟨hf,⟨u0,u1,u2,u3⟩,f0,f1,f2,f3⟩:=hlem;have HF:=qH hf;have HX6:Hid (Below w1.heap.size w1 w6):=qH (HX5.out.trans (hb6.mono HX5.out.size));clear hr6 hb6 hd6 hf;rw [<- HN2.out]
    go_wp2_with fail
    refine hK.out _ _ ?_ (fun hHeld=> ?_)
    ·exact HQ.out _ (HXB.out _ HX6.out)
    clear hK K
    try simp only [Act.put,zA,zB,zC,zD,zE,zF]
    refine wpAnyH_take (i:=10) (v:= .agg #[.slice B5 n1 d5,.slice B6 n2 d6,.slice none 0 0,.slice none 0 0]) rfl (by kernel_rfl) (by kernel_rfl) (by kernel_rfl) (fun _ _ _ h=>h) (Or.inl ⟨by rfl,fun wx hSw=>by obtain ⟨s1,s2⟩:=hSw;go_simp⟩) (by assumption) ?_
    try simp only [Act.put,zA,zB,zC,zD,zE,zF]
    refine wpAnyH_ready (rs:=[11]) (by kernel_rfl) (by simp) ?_;refine (AllReadyH.cons rfl (fun K hK=> ?_) AllReadyH.nil)
    ·try simp only [zA,zB,zC]
     go_simp;refine hK.out _ _ ?_ (fun hHeld=> ?_)
     ·exact HQ.out _ (HXB.out _ (HX5z.out _ HX6.out))
     clear hK K
     try simp only [Act.put,zA,zB,zC,zD,zE,zF]
     refine wpAnyH_ready (rs:=[12]) (by kernel_rfl) (by simp) ?_;refine (AllReadyH.cons rfl (fun K hK=> ?_) AllReadyH.nil)
     ·try simp only [zA,zB,zC]
      go_simp;refine hK.out _ _ ?_ (fun hHeld=> ?_)
      ·exact HQ.out _ HF.out.2
      clear hK K
      try simp only [Act.put,zA,zB,zC,zD,zE,zF]
      refine wpAnyH_done (by kernel_rfl) ?_ _;refine NoPanic.normal ?_;exact ⟨rfl,_,_,_,_,_,HF.out.1,rfl⟩
   ·try simp only [zA,zB,zC]
    go_simp;refine hK.out _ _ ?_ (fun hHeld=> ?_)
    ·exact HQ.out _ (HXB.out _ (HX5z.out _ HX5.out))
    clear hK K
    try simp only [Act.put,zA,zB,zC,zD,zE,zF]
    refine wpAnyH_ready (rs:=[9]) (by kernel_rfl) (by simp) ?_;refine (AllReadyH.cons rfl (fun K hK=> ?_) AllReadyH.nil)
    ·try simp only [zA,zB,zC]
     go_simp
     go_at_call 53
     (with_reducible refine (HC2.out _ (HXB.out _ (HX5z.out _ HX5.out))).mono ?_)
     rintro e w7 ⟨B6,d6,rfl,hd6,hr6,hb6⟩;have hlem:=HBET.out w5 w7 B5 B6 d5 d6 HX5.out HR5.out hb6 (HRN2.out _ _ _ _ hr6);obtain ⟨hf,⟨u0,u1,u2,u3⟩,f0,f1,f2,f3⟩:=hlem;have HF:=qH hf;have HX6:Hid (Below w1.heap.size w1 w7):=qH ((HX5z.out _ HX5.out).trans (hb6.mono (HX5z.out _ HX5.out).size));clear hr6 hb6 hd6 hf;rw [<- HN2.out]
     go_wp2_with fail
     refine hK.out _ _ ?_ (fun hHeld=> ?_)
     ·exact HQ.out _ (HXB.out _ HX6.out)
     clear hK K
     try simp only [Act.put,zA,zB,zC,zD,zE,zF]
     refine wpAnyH_take (i:=10) (v:= .agg #[.slice B5 n1 d5,.slice B6 n2 d6,.slice none 0 0,.slice none 0 0]) rfl (by kernel_rfl) (by kernel_rfl) (by kernel_rfl) (fun _ _ _ h=>h) (Or.inl ⟨by rfl,fun wx hSw=>by obtain ⟨s1,s2⟩:=hSw;go_simp⟩) (by assumption) ?_
     try simp only [Act.put,zA,zB,zC,zD,zE,zF]
     refine wpAnyH_ready (rs:=[12]) (by kernel_rfl) (by simp) ?_;refine (AllReadyH.cons rfl (fun K hK=> ?_) AllReadyH.nil)
     ·try simp only [zA,zB,zC]
      go_simp;refine hK.out _ _ ?_ (fun hHeld=> ?_)
      ·exact HQ.out _ HF.out.2
      clear hK K
      try simp only [Act.put,zA,zB,zC,zD,zE,zF]
      refine wpAnyH_done (by kernel_rfl) ?_ _;refine NoPanic.normal ?_;exact ⟨rfl,_,_,_,_,_,HF.out.1,rfl⟩
  ·try simp only [zA,zB,zC]
   go_simp;refine hK.out _ _ ?_ (fun hHeld=> ?_)
   ·exact HQ.out _ HBz.out
   clear hK K
   try simp only [Act.put,zA,zB,zC,zD,zE,zF]
   refine wpAnyH_ready (rs:=[4]) (by kernel_rfl) (by simp) ?_;refine (AllReadyH.cons rfl (fun K hK=> ?_) AllReadyH.nil)
   ·try simp only [zA,zB,zC]
    go_simp
    go_at_call 53
    rw [show (w1.alloc _).drew=z1 from HZ1.out.symm]
    refine HC1Z.out.mono ?_;rintro e w8 ⟨B8,d8,rfl,hd8,hr8,hb8⟩;have HB8:=qH (HZB.out _ hb8);have HX8:Hid (Below w1.heap.size w1 w8):=qH (HX0z.out.trans (HB8.out.mono HSZD.out.1));have HR8:=qH (HRN1.out _ _ _ _ hr8);clear hr8 hb8 hd8;rw [<- HN1.out]
    go_wp2_with fail
    refine hK.out _ _ ?_ (fun hHeld=> ?_)
    ·exact HQ.out _ (HXB.out _ HX8.out)
    clear hK K
    try simp only [Act.put,zA,zB,zC,zD,zE,zF]
    refine wpAnyH_ready (rs:=[9]) (by kernel_rfl) (by simp) ?_;refine (AllReadyH.cons rfl (fun K hK=> ?_) AllReadyH.nil)
    ·try simp only [zA,zB,zC]
     go_simp
     go_at_call 53
     (with_reducible refine (HC2.out _ (HXB.out _ HX8.out)).mono ?_)
     rintro e w9 ⟨B6,d6,rfl,hd6,hr6,hb6⟩;have hlem:=HALP.out w8 w9 B8 B6 d8 d6 HB8.out HR8.out hb6 (HRN2.out _ _ _ _ hr6);obtain ⟨hf,⟨u0,u1,u2,u3⟩,f0,f1,f2,f3⟩:=hlem;have HF:=qH hf;have HX6:Hid (Below w1.heap.size w1 w9):=qH (HX8.out.trans (hb6.mono HX8.out.size));clear hr6 hb6 hd6 hf;rw [<- HN2.out]
     go_wp2_with fail
     refine hK.out _ _ ?_ (fun hHeld=> ?_)
     ·exact HQ.out _ (HXB.out _ HX6.out)
     clear hK K
     try simp only [Act.put,zA,zB,zC,zD,zE,zF]
     refine wpAnyH_take (i:=10) (v:= .agg #[.slice B8 n1 d8,.slice B6 n2 d6,.slice none 0 0,.slice none 0 0]) rfl (by kernel_rfl) (by kernel_rfl) (by kernel_rfl) (fun _ _ _ h=>h) (Or.inl ⟨by rfl,fun wx hSw=>by obtain ⟨s1,s2⟩:=hSw;go_simp⟩) (by assumption) ?_
     try simp only [Act.put,zA,zB,zC,zD,zE,zF]
     refine wpAnyH_ready (rs:=[12]) (by kernel_rfl) (by simp) ?_;refine (AllReadyH.cons rfl (fun K hK=> ?_) AllReadyH.nil)
     ·try simp only [zA,zB,zC]
      go_simp;refine hK.out _ _ ?_ (fun hHeld=> ?_)
      ·exact HQ.out _ HF.out.2
      clear hK K
      try simp only [Act.put,zA,zB,zC,zD,zE,zF]
      refine wpAnyH_done (by kernel_rfl) ?_ _;refine NoPanic.normal ?_;exact ⟨rfl,_,_,_,_,_,HF.out.1,rfl⟩
 case rest=>
  rintro e a wx ⟨rfl,P,B1,B2,d1,d2,hst,rfl⟩;obtain ⟨hx1,hx2,hx3,hx4,hx5,hx6⟩:=hst;obtain ⟨i0,hi0,hz0,hz1,hz2⟩:=info_parts qeM;obtain ⟨j0,hj0,hj1,hj2,hj3⟩:=info_parts qjX;obtain ⟨bl,hd,hl⟩:=HS.out.dict;have hks:=HS.out.small.keys;have HF:=qH (qoT S 2 0 x.keys bl w wx hd hx6 hks (by omega));have HL:=qH hl;have HKL:=qH HS.out.keys;have HML:Hid (∀ l∈x.lists,qaP (-1) l=true/\l.length<=1000/\(qab (-1) l).length<=400000000000):=qH fun l hl=>by
   have h1:=(qjw ((qe2.1 HS.out.may).2.2.2.2 l hl)).1;have h2:=HS.out.small.lists l hl;exact ⟨h1,h2.1,qo3 h1 h2.1 h2.2⟩
  have HX1:=qH hx1;have HX2:=qH hx2;have HX3:=qH hx3;have HX4:=qH hx4;have HX5:=qH hx5;have HX6:=qH hx6;clear hd hl hx1 hx2 hx3 hx4 hx5 hx6 HC1 HC2 HQ HST
  gi_wp2_with (first
   |(refine ⟨trivial,?_⟩;gi_at_call 54;refine (callsIn_wide.2 HF.out).mono ?_)
   |(gi_at_call 54;refine (callsIn_wide.2 HF.out).mono ?_))
  rintro e w3 ⟨D,rfl,hD,hrest,hb3,hz3⟩;rw [Int.toNat_zero,List.drop_zero,List.drop_zero] at hrest;have hB3:=HX6.out.trans (hb3.mono HX6.out.size);have hsz3:w.heap.size<=w3.heap.size:=hB3.size;have HT:=qH (qoU 5 w.heap.size D x.keys bl w3 (by omega) hsz3 hrest hks);have HB3:=qH hB3;have hcell3:=(hb3.block P (Array.getElem?_eq_some_iff.1 HX1.out).1).trans HX1.out;have hR3:=(hb3.block w.heap.size (Array.getElem?_eq_some_iff.1 HX5.out).1).trans HX5.out;have hkg3:qap w.heap.size wx w3:= .of_below hb3 HX6.out.size;obtain ⟨base,hba1,hba2⟩:∃ b,w.heap.size<=b/\b<=w3.heap.size:=⟨_,hsz3,Nat.le_refl _⟩;have hG3:qbx 62 w.heap.size base P (.slice B1 x.ids.length d1) (.slice B2 x.seqs.length d2) (.slice none 0 0) (.slice none 0 0) [] [] w3:=⟨hcell3,by have :=HX2.out;omega,by omega,by omega,World.ownsRow_nil _ _ _ _,[],World.ownsRow_nil _ _ _ _,LG.nil⟩;have HG3:=qH hG3;have HR3:=qH hR3;have H13:=qH (HX3.out.keep (.inr rfl) hkg3);have H23:=qH (HX4.out.keep (.inr rfl) hkg3);have HRL:Hid (w.heap.size<w3.heap.size):=qH (Array.getElem?_eq_some_iff.1 hR3).1;clear hrest hb3 hB3 hz3 hcell3 hR3 hkg3 hG3;gi_wp2;refine qj3 (by omega) (gf:=99) (lb:=#[.pointer (some ⟨D,0,none⟩)]) rfl (enters_of Tryz.func99 (by kernel_rfl) rfl)
   HT.out (fun hb=>hb) (fun {A B k o} hk hmv ho hnc=>(hmv.block k (Array.getElem?_eq_some_iff.1 ho).1).trans ho)
   (fun h k=>h.trans k) (fun W lp o o' hlp ho hc=>qat.belowW (N:=w3.heap.size) (w0:=W) (by omega) W lp o o' hlp ho hc (Below.refl _ _)) (fun _=>rfl)
   (qfb x w base P B1 B2 d1 d2) (fun _ _ _=>False)
   (fun s A' B' h hmv=>h.below hmv)
   (fun s=>qfb.firm hsz3 HRL.out)
   (fun c s W l o o' _ _ _ h=>h)
   (fun s x=>qat.okP _ _ _ _ _) ⟨⟨_,_,by simpa using HG3.out⟩,H13.out,H23.out,HR3.out,HB3.out⟩
   (fun z=>{tmps:=#[.pointer (some ⟨S,0,none⟩),undef,.pointer (some ⟨w.heap.size,0,none⟩),.pointer (some ⟨P,0,none⟩),.string ⟨z.1.toArray⟩,.pointer (some ⟨z.2,0,none⟩),.pointer (some ⟨S,0,none⟩),.pointer (some ⟨S,0,none⟩),.pointer (some ⟨S,0,none⟩),.slice A1 n1 c1,.slice B1 n1 d1,.pointer (some ⟨S,0,none⟩),.pointer (some ⟨S,0,none⟩),.pointer (some ⟨S,1,none⟩),.slice A2 n2 c2,.slice B2 n2 d2,.agg #[.slice B1 n1 d1,.slice B2 n2 d2,.slice none 0 0,.slice none 0 0],.pointer (some ⟨S,0,none⟩),.pointer (some ⟨S,0,none⟩),.pointer (some ⟨S,2,none⟩),.func (.func 99) #[] #[.pointer (some ⟨D,0,none⟩)],.string ⟨z.1.toArray⟩,.pointer (some ⟨z.2,0,none⟩),undef,undef,undef,undef,undef,undef,undef,undef,undef,undef,undef,undef,undef,undef],defers:=[]}) ?assign ?body ?done ?stop
  case assign=>
   intro lp x W K' hK';unfold qeD;gi_wp2;exact hK'
  case body=>
   rintro lp pre ⟨x1,y⟩ W ⟨⟨v3,v4,hG⟩,h13,h23,hR,hbw⟩ ⟨hlt,hx,hy⟩;simp only at hx hy ⊢;obtain ⟨k,hk⟩:∃ k,k=pre.length:=⟨_,rfl⟩;have hlen1:(pre++[(x1,y)]).length=k+1:=by simp [hk]
   simp only [<- hk] at hx hy hlt hG;have hkl:k<x.lists.length:=by rw [<- HKL.out];exact hlt
   obtain ⟨base0,hla⟩:=HL.out k hkl;rw [<- hy] at hla;have hm1:=HML.out _ (List.getElem_mem hkl);have hts4:x.lists.take (k+1)=x.lists.take k++[x.lists[k]]:=List.take_succ_eq_append_getElem hkl;obtain ⟨L,hL⟩:∃ L,L=x.lists[k]:=⟨_,rfl⟩;rw [<- hL] at hla hm1 hts4;have hk3:(x.keys.take k).length=k:=by rw [List.length_take];omega
   have hk4:(x.lists.take k).length=k:=by rw [List.length_take];omega
   have hkb:k<=1048576:=by omega
   have hts3:x.keys.take (k+1)=x.keys.take k++[x1]:=by rw [List.take_succ_eq_append_getElem hlt,hx]
   obtain ⟨X,hX⟩:∃ t:ByteArray,t=⟨x1.toArray⟩:=⟨_,rfl⟩;rw [<- hX];have q2:=(qa4 hG.cells).1.2.2.1;have HLEN4:=qH hk4;have HLEN3:=qH hk3;have HKEY:Hid (∀ v' w4,w4.ownsRow base 9 1 v' (k+1) (qac (x.keys.take k)++[.string X])->(W.alloc (.cells #[.string X] 9)).grownBy w4 v3.ownBlock->w4.heap[P]?=some (.cells #[.slice B1 x.ids.length d1,.slice B2 x.seqs.length d2,v3,v4] 62 (0,0))/\
     qbx 62 w.heap.size base P (.slice B1 x.ids.length d1) (.slice B2 x.seqs.length d2) v' v4 (x.keys.take (k+1)) (x.lists.take k) (w4.setCell ⟨P,2,none⟩ v')/\Below w.heap.size W (w4.setCell ⟨P,2,none⟩ v')/\KeepsOthers W (w4.setCell ⟨P,2,none⟩ v')/\
     ∀ (k:Nat) (cs:Array Value) (t:TypeId) (fr:Nat × Nat),k≠P->W.heap[k]?=some (.cells cs t fr)->t≠9->(w4.setCell ⟨P,2,none⟩ v').heap[k]?=some (.cells cs t fr)):=qH fun v' w4 hown hg=>by
    have hal:Below W.heap.size W (W.alloc (.cells #[.string X] 9)):=(Below.refl _ _).alloc (Nat.le_refl _) _;obtain ⟨e1,e2,e3,e4,e5⟩:=(hG.below hal).key (by unfold PoK;decide) (by decide) (by decide) (k:=x1) (by rw [<- hX,HLEN3.out];exact hown) hg;exact ⟨e1,by rw [hts3];exact e2,(hal.mono hbw.size).trans e3,(KeepsOthers.alloc _ _).trans e4,fun j cs t fr h1 h2 h3=>e5 j cs t fr h1 ((hal.block j (Array.getElem?_eq_some_iff.1 h2).1).trans h2) h3⟩
   have ho3:=hG.keys;rw [hk3] at ho3;have HO3:=qH ho3;have HBS:Hid (base<=W.heap.size):=qH hG.size;have hPR:P≠w.heap.size:=by have :=HX2.out;omega
   have HLA:=qH hla;have HM1:=qH hm1;have HTS4:=qH hts4;have HLN1:=qH hlen1;have HH13:=qH h13;have HH23:=qH h23;have HR:=qH hR;have HBW:=qH hbw;have HCW:=qH hG.cells;clear hL hkl hG ho3 hla hm1 hts4 hlen1 h13 h23 hR hbw hts3 hX hx hy hk hk3 hk4 hlt
   gi_wp2_with (gi_at_builtin;refine wpListIn_append_own _ rfl (.tmp 24) (.tmp 26) 40 rfl base 9 i0 _ 1 16 Tryz.underlying40 hi0 hz0 hz1 hz2 rfl (by omega) _ k (qac (x.keys.take k)) rfl (HO3.out.alloc _) ⟨W.heap.size,0,none⟩ 1 1 [.string X] rfl rfl (qaO W [.string X] 9) (qgs 0 X) (by unfold maxLen;omega) (by omega) (by have :=HBS.out;simp;omega) ?_)
   intro v' w4 hown4 hgrow4 hz4;clear hz4;obtain ⟨g',cap',hv',_,_⟩:=hown4.form (by omega);subst hv';obtain ⟨e1,e2,e3,e4,e5⟩:=HKEY.out _ w4 hown4 hgrow4;have f2:=(qa4 e1).2.2.2.1;have q3:=(qa4 e1).1.2.2.1;obtain ⟨W5,hW5⟩:∃ W5,W5=w4.setCell ⟨P,2,none⟩ (.slice (some ⟨g',0,none⟩) (k+1) cap'):=⟨_,rfl⟩;rw [<- hW5] at e2 e3 e4 e5;have hG5:=e2;have HG5:=qH e2;have HW5:=qH hW5;have hkg5:qap w.heap.size W W5:=⟨e3.size,fun j hj=>e3.block j hj,fun j cs t fr h1 h2=>e5 j cs t fr (by rintro rfl;rw [HCW.out] at h1;injection h1 with h1;injection h1 with _ h1 _;rw [<- h1] at h2;exact absurd h2 (by unfold PoK;decide)) h1 (by rintro rfl;exact absurd h2 (by unfold PoK;decide))⟩
   have h13:=HH13.out.keep (.inr rfl) hkg5;have h23:=HH23.out.keep (.inr rfl) hkg5;have hR5:=e5 _ _ _ _ (Ne.symm hPR) HR.out (by decide);have hbw5:=HBW.out.trans e3;have HALL:Hid (∀ W1,Below W5.heap.size W5 W1->Calls Tryz.prog 55 #[.pointer (some ⟨y,0,none⟩)] W1 (qeZ L W1)):=qH fun W1 hb=>
    qo2 base0 y L W1 (HLA.out.below (hbw5.trans (hb.mono hbw5.size))) HM1.out.1 HM1.out.2.2 (by have :=HM1.out.2.1;omega)
   have HLOAD:Hid (∀ W1,Below W5.heap.size W5 W1->W1.cell? ⟨P,3,none⟩=some v4):=qH fun W1 hb=>(qa4 (hG5.below hb).cells).1.2.2.2
   have HFIN:Hid (∀ w6 wa W7 v7,Below W5.heap.size W5 w6->Below w6.heap.size w6 wa->qbx 62 w.heap.size base P (.slice B1 x.ids.length d1) (.slice B2 x.seqs.length d2) (.slice (some ⟨g',0,none⟩) (k+1) cap') v7 (x.keys.take (k+1)) (x.lists.take k++[L]) W7->Below w.heap.size wa W7->KeepsOthers wa W7->
     (∀ (k:Nat) (cs:Array Value) (t:TypeId) (fr:Nat × Nat),k≠P->wa.heap[k]?=some (.cells cs t fr)->t≠71->W7.heap[k]?=some (.cells cs t fr))->KeepsOthers W W7/\Below w.heap.size W W7/\qfb x w base P B1 B2 d1 d2 (pre++[(x1,y)]) W7):=qH fun w6 wa W7 v7 hb6 hba hg7 hb7 hk7 ho7=>by
    have hb5a:Below W5.heap.size W5 wa:=hb6.trans (hba.mono hb6.size);have hka:qap w.heap.size W5 wa:= .of_below hb5a hbw5.size;have hPa:=(hG5.below hb5a).cells;have hk7':qap w.heap.size wa W7:=⟨hb7.size,fun j hj=>hb7.block j hj,fun j cs t fr h1 h2=>ho7 j cs t fr (by rintro rfl;rw [hPa] at h1;injection h1 with h1;injection h1 with _ h1 _;rw [<- h1] at h2;exact absurd h2 (by unfold PoK;decide)) h1 (by rintro rfl;exact absurd h2 (by unfold PoK;decide))⟩
    have hkk:=hka.trans hk7';refine ⟨(e4.trans (show KeepsOthers W5 wa from ⟨hb5a.size,fun k o hk _=>(hb5a.block k (Array.getElem?_eq_some_iff.1 hk).1).trans hk⟩)).trans hk7,e3.trans ((hb5a.mono hbw5.size).trans hb7),⟨⟨.slice (some ⟨g',0,none⟩) (k+1) cap',v7,?_⟩,h13.keep (.inr rfl) hkk,h23.keep (.inr rfl) hkk,ho7 _ _ _ _ (Ne.symm hPR) ((hb5a.block _ (Array.getElem?_eq_some_iff.1 hR5).1).trans hR5) (by decide),hbw5.trans ((hb5a.mono hbw5.size).trans hb7)⟩⟩
    rw [HLN1.out,HTS4.out];exact hg7
   obtain ⟨m6,hm6⟩:∃ m,m=L.length:=⟨_,rfl⟩;have HLL:=qH hm6;have HB0:Hid (Below W5.heap.size W5 W5.drew):=qH (Below.refl _ W5).drew;have HL0:=qH (HLOAD.out _ HB0.out);clear hkg5 h13 h23 hR5 hbw5 hm6 hG5 e2 e3 e4 e5 hW5 e1 hown4 hgrow4 q2;gi_wp2;rw [<- HW5.out];refine qhQ (S:=fun _=>True) (by kernel_rfl) (by kernel_rfl) trivial (fun hHeld0=> ?_)
   refine wpAnyH_take (i:=0) (v:= .pointer (some ⟨P,3,none⟩)) rfl (by kernel_rfl) (by kernel_rfl) (by kernel_rfl) (fun _ _ _ h=>h) (Or.inl ⟨by rfl,fun wx hSw=>by go_simp⟩) (by assumption) ?_
   try simp only [Act.put,zA,zB,zD,zE,zF]
   refine wpAnyH_take (i:=2) (v:= .pointer (some ⟨y,0,none⟩)) rfl (by kernel_rfl) (by kernel_rfl) (by kernel_rfl) (fun _ _ _ h=>h) (Or.inl ⟨by rfl,fun wx hSw=>by go_simp⟩) (by assumption) ?_
   try simp only [Act.put,zA,zB,zC,zD,zE,zF]
   refine wpAnyH_ready (rs:=[1,3]) (by kernel_rfl) (by simp) ?_;refine (AllReadyH.cons rfl (fun K hK=> ?_) (AllReadyH.cons rfl (fun K hK=> ?_) AllReadyH.nil))
   ·try simp only [zA,zB,zC]
    have hl:=HL0.out;go_simp;refine hK.out _ _ ?_ (fun hHeld=> ?_)
    ·exact trivial
    clear hK K
    try simp only [Act.put,zA,zB,zC,zD,zE,zF]
    refine wpAnyH_ready (rs:=[3]) (by kernel_rfl) (by simp) ?_;refine (AllReadyH.cons rfl (fun K hK=> ?_) AllReadyH.nil)
    ·try simp only [zA,zB,zC]
     go_simp
     go_at_call 55
     (with_reducible refine (HALL.out _ HB0.out).mono ?_)
     rintro e w6 ⟨v6,rfl,hn6,hb6⟩;obtain ⟨A6,c6,rfl,hc6,hp6⟩:=qb7.of_new (b0:=w.heap.size) hn6;rw [<- HLL.out] at hc6;have HB6:Hid (Below W5.heap.size W5 w6):=qH (HB0.out.trans hb6);have HL6:=qH (HLOAD.out _ HB6.out);have HL6a:=qH (HLOAD.out _ (HB6.out.alloc HB6.out.size (.cells #[.slice A6 m6 c6] 71)));obtain ⟨cs4,ho4,hg4⟩:=(HG5.out.below HB6.out).lists;have hal6:Below w6.heap.size w6 (w6.alloc (.cells #[.slice A6 m6 c6] 71)):=(Below.refl _ _).alloc (Nat.le_refl _) _;obtain ⟨g,cap,w7,hrun,hown7,hg7,_,_⟩:=run_append_lies (P:=Tryz.prog) (w6.alloc (.cells #[.slice A6 m6 c6] 71)) 41 41 base 71 j0 _ 1 24 Tryz.underlying41 hj0 hj1 hj2 hj3 rfl (by omega) v4 (x.lists.take k).length cs4 (ho4.alloc _) ⟨w6.heap.size,0,none⟩ 1 1 [.slice A6 m6 c6] rfl (qaO w6 [.slice A6 m6 c6] 71) (by intro u hu;simp at hu;subst hu;rfl) (by omega) (by unfold maxLen;rw [HLEN4.out];omega) (by rw [HLEN4.out];omega) (by have :=HG5.out.size;have :=HB6.out.size;simp;omega) (w6.heap.size+1) (by simp);rw [HLEN4.out] at hown7 hrun;have hkg6:=qap.of_below (b0:=w.heap.size) hal6 (by have :=HG5.out.hbase;have :=HG5.out.size;have :=HB6.out.size;omega);obtain ⟨hP7,hG7,hB7,hK7,hO7⟩:=((HG5.out.below HB6.out).below hal6).list (by unfold PoK;decide) (by decide) (by decide) (by rw [<- HLL.out];exact hc6) (hp6.keep hkg6) (ho4.alloc _) (hg4.keep hkg6) (by rw [HLEN4.out,<- HLL.out];exact hown7) hg7;have HRUN:=qH hrun;have F7:=qH (And.intro (qa4 hP7).1.2.2.2 (qa4 hP7).2.2.2.2);have HEND:=qH (HFIN.out w6 _ _ _ HB6.out hal6 hG7 hB7 hK7 hO7);clear hn6 hb6 hp6 hc6 ho4 hg4 hal6 hown7 hg7 hkg6 hP7 hG7 hB7 hK7 hO7 hrun;rw [<- HLL.out]
     go_wp2_with fail
     refine hK.out _ _ ?_ (fun hHeld=> ?_)
     ·exact trivial
     clear hK K
     try simp only [Act.put,zA,zB,zC,zD,zE,zF]
     refine wpAnyH_ready (rs:=[4]) (by kernel_rfl) (by simp) ?_;refine (AllReadyH.cons rfl (fun K hK=> ?_) AllReadyH.nil)
     ·try simp only [zA,zB,zC]
      go_simp;refine hK.out _ _ ?_ (fun hHeld=> ?_)
      ·exact trivial
      clear hK K
      try simp only [Act.put,zA,zB,zC,zD,zE,zF]
      refine wpAnyH_ready (rs:=[5]) (by kernel_rfl) (by simp) ?_;refine (AllReadyH.cons rfl (fun K hK=> ?_) AllReadyH.nil)
      ·try simp only [zA,zB,zC]
       refine qfu (a:=⟨_,_⟩) ?_ (.tmp 30) (.tmp 33) 41 ?_ v4 (.slice (some ⟨w6.heap.size,0,none⟩) 1 1) ?_ ?_ (.slice (some ⟨g,0,none⟩) (k+1) cap) w7 ?_ ?_
       ·rfl
       ·rfl
       ·rfl
       ·rfl
       ·exact HRUN.out
       refine hK.out _ _ ?_ (fun hHeld=> ?_)
       ·exact trivial
       clear hK K
       try simp only [Act.put,zD,zE,zF]
       refine wpAnyH_take (i:=6) (v:= .pointer (some ⟨P,3,none⟩)) rfl (by kernel_rfl) (by kernel_rfl) (by kernel_rfl) (fun _ _ _ h=>h) (Or.inl ⟨by rfl,fun wx hSw=>by go_simp⟩) (by assumption) ?_
       try simp only [Act.put,zA,zB,zC,zD,zE,zF]
       refine wpAnyH_ready (rs:=[7]) (by kernel_rfl) (by simp) ?_;refine (AllReadyH.cons rfl (fun K hK=> ?_) AllReadyH.nil)
       ·try simp only [zA,zB,zC]
        obtain ⟨f7,f8⟩:=F7.out;go_simp;refine hK.out _ _ ?_ (fun hHeld=> ?_)
        ·exact trivial
        clear hK K
        try simp only [Act.put,zA,zB,zC,zD,zE,zF]
        refine wpAnyH_done (by kernel_rfl) ?_ _;refine qb9.fin ?_;gi_wp2;exact HEND.out
   ·try simp only [zA,zB,zC]
    go_simp
    go_at_call 55
    (with_reducible refine (HALL.out _ HB0.out).mono ?_)
    rintro e w6 ⟨v6,rfl,hn6,hb6⟩;obtain ⟨A6,c6,rfl,hc6,hp6⟩:=qb7.of_new (b0:=w.heap.size) hn6;rw [<- HLL.out] at hc6;have HB6:Hid (Below W5.heap.size W5 w6):=qH (HB0.out.trans hb6);have HL6:=qH (HLOAD.out _ HB6.out);have HL6a:=qH (HLOAD.out _ (HB6.out.alloc HB6.out.size (.cells #[.slice A6 m6 c6] 71)));obtain ⟨cs4,ho4,hg4⟩:=(HG5.out.below HB6.out).lists;have hal6:Below w6.heap.size w6 (w6.alloc (.cells #[.slice A6 m6 c6] 71)):=(Below.refl _ _).alloc (Nat.le_refl _) _;obtain ⟨g,cap,w7,hrun,hown7,hg7,_,_⟩:=run_append_lies (P:=Tryz.prog) (w6.alloc (.cells #[.slice A6 m6 c6] 71)) 41 41 base 71 j0 _ 1 24 Tryz.underlying41 hj0 hj1 hj2 hj3 rfl (by omega) v4 (x.lists.take k).length cs4 (ho4.alloc _) ⟨w6.heap.size,0,none⟩ 1 1 [.slice A6 m6 c6] rfl (qaO w6 [.slice A6 m6 c6] 71) (by intro u hu;simp at hu;subst hu;rfl) (by omega) (by unfold maxLen;rw [HLEN4.out];omega) (by rw [HLEN4.out];omega) (by have :=HG5.out.size;have :=HB6.out.size;simp;omega) (w6.heap.size+1) (by simp);rw [HLEN4.out] at hown7 hrun;have hkg6:=qap.of_below (b0:=w.heap.size) hal6 (by have :=HG5.out.hbase;have :=HG5.out.size;have :=HB6.out.size;omega);obtain ⟨hP7,hG7,hB7,hK7,hO7⟩:=((HG5.out.below HB6.out).below hal6).list (by unfold PoK;decide) (by decide) (by decide) (by rw [<- HLL.out];exact hc6) (hp6.keep hkg6) (ho4.alloc _) (hg4.keep hkg6) (by rw [HLEN4.out,<- HLL.out];exact hown7) hg7;have HRUN:=qH hrun;have F7:=qH (And.intro (qa4 hP7).1.2.2.2 (qa4 hP7).2.2.2.2);have HEND:=qH (HFIN.out w6 _ _ _ HB6.out hal6 hG7 hB7 hK7 hO7);clear hn6 hb6 hp6 hc6 ho4 hg4 hal6 hown7 hg7 hkg6 hP7 hG7 hB7 hK7 hO7 hrun;rw [<- HLL.out]
    go_wp2_with fail
    refine hK.out _ _ ?_ (fun hHeld=> ?_)
    ·exact trivial
    clear hK K
    try simp only [Act.put,zA,zB,zC,zD,zE,zF]
    refine wpAnyH_ready (rs:=[1,4]) (by kernel_rfl) (by simp) ?_;refine (AllReadyH.cons rfl (fun K hK=> ?_) (AllReadyH.cons rfl (fun K hK=> ?_) AllReadyH.nil))
    ·try simp only [zA,zB,zC]
     have hl:=HL6.out;go_simp;refine hK.out _ _ ?_ (fun hHeld=> ?_)
     ·exact trivial
     clear hK K
     try simp only [Act.put,zA,zB,zC,zD,zE,zF]
     refine wpAnyH_ready (rs:=[4]) (by kernel_rfl) (by simp) ?_;refine (AllReadyH.cons rfl (fun K hK=> ?_) AllReadyH.nil)
     ·try simp only [zA,zB,zC]
      go_simp;refine hK.out _ _ ?_ (fun hHeld=> ?_)
      ·exact trivial
      clear hK K
      try simp only [Act.put,zA,zB,zC,zD,zE,zF]
      refine wpAnyH_ready (rs:=[5]) (by kernel_rfl) (by simp) ?_;refine (AllReadyH.cons rfl (fun K hK=> ?_) AllReadyH.nil)
      ·try simp only [zA,zB,zC]
       refine qfu (a:=⟨_,_⟩) ?_ (.tmp 30) (.tmp 33) 41 ?_ v4 (.slice (some ⟨w6.heap.size,0,none⟩) 1 1) ?_ ?_ (.slice (some ⟨g,0,none⟩) (k+1) cap) w7 ?_ ?_
       ·rfl
       ·rfl
       ·rfl
       ·rfl
       ·exact HRUN.out
       refine hK.out _ _ ?_ (fun hHeld=> ?_)
       ·exact trivial
       clear hK K
       try simp only [Act.put,zD,zE,zF]
       refine wpAnyH_take (i:=6) (v:= .pointer (some ⟨P,3,none⟩)) rfl (by kernel_rfl) (by kernel_rfl) (by kernel_rfl) (fun _ _ _ h=>h) (Or.inl ⟨by rfl,fun wx hSw=>by go_simp⟩) (by assumption) ?_
       try simp only [Act.put,zA,zB,zC,zD,zE,zF]
       refine wpAnyH_ready (rs:=[7]) (by kernel_rfl) (by simp) ?_;refine (AllReadyH.cons rfl (fun K hK=> ?_) AllReadyH.nil)
       ·try simp only [zA,zB,zC]
        obtain ⟨f7,f8⟩:=F7.out;go_simp;refine hK.out _ _ ?_ (fun hHeld=> ?_)
        ·exact trivial
        clear hK K
        try simp only [Act.put,zA,zB,zC,zD,zE,zF]
        refine wpAnyH_done (by kernel_rfl) ?_ _;refine qb9.fin ?_;gi_wp2;exact HEND.out
    ·try simp only [zA,zB,zC]
     go_simp;refine hK.out _ _ ?_ (fun hHeld=> ?_)
     ·exact trivial
     clear hK K
     try simp only [Act.put,zA,zB,zC,zD,zE,zF]
     refine wpAnyH_ready (rs:=[1]) (by kernel_rfl) (by simp) ?_;refine (AllReadyH.cons rfl (fun K hK=> ?_) AllReadyH.nil)
     ·try simp only [zA,zB,zC]
      have hl:=HL6a.out;go_simp;refine hK.out _ _ ?_ (fun hHeld=> ?_)
      ·exact trivial
      clear hK K
      try simp only [Act.put,zA,zB,zC,zD,zE,zF]
      refine wpAnyH_ready (rs:=[5]) (by kernel_rfl) (by simp) ?_;refine (AllReadyH.cons rfl (fun K hK=> ?_) AllReadyH.nil)
      ·try simp only [zA,zB,zC]
       refine qfu (a:=⟨_,_⟩) ?_ (.tmp 30) (.tmp 33) 41 ?_ v4 (.slice (some ⟨w6.heap.size,0,none⟩) 1 1) ?_ ?_ (.slice (some ⟨g,0,none⟩) (k+1) cap) w7 ?_ ?_
       ·rfl
       ·rfl
       ·rfl
       ·rfl
       ·exact HRUN.out
       refine hK.out _ _ ?_ (fun hHeld=> ?_)
       ·exact trivial
       clear hK K
       try simp only [Act.put,zD,zE,zF]
       refine wpAnyH_take (i:=6) (v:= .pointer (some ⟨P,3,none⟩)) rfl (by kernel_rfl) (by kernel_rfl) (by kernel_rfl) (fun _ _ _ h=>h) (Or.inl ⟨by rfl,fun wx hSw=>by go_simp⟩) (by assumption) ?_
       try simp only [Act.put,zA,zB,zC,zD,zE,zF]
       refine wpAnyH_ready (rs:=[7]) (by kernel_rfl) (by simp) ?_;refine (AllReadyH.cons rfl (fun K hK=> ?_) AllReadyH.nil)
       ·try simp only [zA,zB,zC]
        obtain ⟨f7,f8⟩:=F7.out;go_simp;refine hK.out _ _ ?_ (fun hHeld=> ?_)
        ·exact trivial
        clear hK K
        try simp only [Act.put,zA,zB,zC,zD,zE,zF]
        refine wpAnyH_done (by kernel_rfl) ?_ _;refine qb9.fin ?_;gi_wp2;exact HEND.out
  case done=>
   rintro D' ys W hD2 hys ⟨⟨v3,v4,hG⟩,h13,h23,hR,hbw⟩ hK';rw [hys,List.take_length,HKL.out,List.take_length] at hG;obtain ⟨A3',c3',A4',c4',rfl,rfl,hc3,hc4,hr3,hr4⟩:=hG.read;obtain ⟨⟨q0,q1,q2,q3⟩,_⟩:=qa4 hG.cells;obtain ⟨_,f0,f1,f2,f3⟩:=qa4 hR;have HG:=qH hG;have HR:=qH hR;have HR3:=qH hr3;have HR4:=qH hr4;have HH13:=qH h13;have HH23:=qH h23;have HBW:=qH hbw;rw [<- HN1.out] at q0;rw [<- HN2.out] at q1;clear hG hR hr3 hr4 h13 h23 hbw hys;gi_wp2;have hne:w.heap.size≠P:=by have :=HX2.out;omega
   have nk:¬ PoK 62:=by unfold PoK;decide
   have e0:=heap_setCell_same W w.heap.size 0 _ _ (.slice B1 n1 d1) HR.out;have e1:=heap_setCell_same _ w.heap.size 1 _ _ (.slice B2 n2 d2) e0;have e2:=heap_setCell_same _ w.heap.size 2 _ _ (.slice A3' x.keys.length c3') e1;have e3:=heap_setCell_same _ w.heap.size 3 _ _ (.slice A4' x.lists.length c4') e2;have g0:=HG.out.setOther (o:=0) HR.out (Nat.le_refl _) hne nk (by decide) (by decide) (.slice B1 n1 d1);have g1:=g0.setOther (o:=1) e0 (Nat.le_refl _) hne nk (by decide) (by decide) (.slice B2 n2 d2);have g2:=g1.setOther (o:=2) e1 (Nat.le_refl _) hne nk (by decide) (by decide) (.slice A3' x.keys.length c3');have g3:=g2.setOther (o:=3) e2 (Nat.le_refl _) hne nk (by decide) (by decide) (.slice A4' x.lists.length c4');have k0:qap w.heap.size W (W.setCell ⟨w.heap.size,0,none⟩ (.slice B1 n1 d1)):=qap.setCell HR.out (Nat.le_refl _) nk _;have k1:=k0.trans (qap.setCell (o:=1) e0 (Nat.le_refl _) nk (.slice B2 n2 d2));have k2:=k1.trans (qap.setCell (o:=2) e1 (Nat.le_refl _) nk (.slice A3' x.keys.length c3'));have k3:=k2.trans (qap.setCell (o:=3) e2 (Nat.le_refl _) nk (.slice A4' x.lists.length c4'));have hbF:=((((HBW.out).setCell (p:=⟨w.heap.size,0,none⟩) (Nat.le_refl _) (.slice B1 n1 d1)).setCell (p:=⟨w.heap.size,1,none⟩) (Nat.le_refl _) (.slice B2 n2 d2)).setCell (p:=⟨w.heap.size,2,none⟩) (Nat.le_refl _) (.slice A3' x.keys.length c3')).setCell (p:=⟨w.heap.size,3,none⟩) (Nat.le_refl _) (.slice A4' x.lists.length c4');have hDR:D'≠w.heap.size:=by have :=HRL.out;omega
   obtain ⟨WF,hWF⟩:∃ WF,WF=(((W.setCell ⟨w.heap.size,0,none⟩ (.slice B1 n1 d1)).setCell ⟨w.heap.size,1,none⟩ (.slice B2 n2 d2)).setCell ⟨w.heap.size,2,none⟩ (.slice A3' x.keys.length c3')).setCell ⟨w.heap.size,3,none⟩ (.slice A4' x.lists.length c4'):=⟨_,rfl⟩;have hKF:WF.heap[D']?=some (.deferred (some [])):=by rw [hWF,Below.heap_setCell _ _ _ _ hDR,Below.heap_setCell _ _ _ _ hDR,Below.heap_setCell _ _ _ _ hDR,Below.heap_setCell _ _ _ _ hDR];exact hK'
   rw [<- hWF] at e3 g3 k3 hbF ⊢;refine ⟨by simp,.inl ⟨_,_,rfl,run_takeDeferred hKF,?_⟩⟩;have eF:(WF.putObj D' (.deferred none)).heap[w.heap.size]?=some (.cells #[.slice B1 n1 d1,.slice B2 n2 d2,.slice A3' x.keys.length c3',.slice A4' x.lists.length c4'] 62 (0,0)):=(World.putObj_heap_other (Ne.symm hDR)).trans e3;refine ⟨_,results_cell_row (P:=Tryz.prog) rfl _ _ w.heap.size 62 _ (0,0) _ rfl eF Tryz.underlying62 rfl (by kernel_rfl),?_⟩;have kF:qap w.heap.size WF (WF.putObj D' (.deferred none)):=⟨by simp,fun k hk=>World.putObj_heap_other (by omega),fun k cs t fr hk _=>(World.putObj_heap_other (by rintro rfl;rw [hKF] at hk;cases hk)).trans hk⟩;have gF:=qbx.firm (N:=w.heap.size) (Nat.le_refl _) WF D' _ (.deferred none) (by omega) hKF rfl g3;have bF:=qat.belowW (N:=w.heap.size) (Nat.le_refl _) WF D' _ (.deferred none) (by omega) hKF rfl hbF;refine ⟨B1,d1,B2,d2,A3',c3',A4',c4',by rw [<- HN1.out,<- HN2.out],⟨(HH13.out.keep (.inr rfl) (k3.trans kF)).row,(HH23.out.keep (.inr rfl) (k3.trans kF)).row,gF.rows.1,gF.rows.2⟩,bF⟩
  case stop=>
   rintro D' c pre W _ _ hh _;exact hh.elim
end Go.Proofs.YtpehcaidjlemiaaGreatDoor
