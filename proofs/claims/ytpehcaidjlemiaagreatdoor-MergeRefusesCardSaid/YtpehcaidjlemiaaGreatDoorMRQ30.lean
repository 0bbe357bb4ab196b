import Derived.Test.YtpehcaidjlemiaaGreatDoorMRZz
import Derived.Test.YtpehcaidjlemiaaGreatDoorMRQ24
import Derived.Test.YtpehcaidjlemiaaGreatDoorMRQ29
import Derived.Test.YtpehcaidjlemiaaGreatDoorMRQ19
import Derived.Test.YtpehcaidjlemiaaGreatDoorMRQ08
import Derived.Test.YtpehcaidjlemiaaGreatDoorMRQ02
import Derived.Test.YtpehcaidjlemiaaGreatDoorMRQ01
import Derived.Lib.SliceRun
import Derived.BigQuiet
import Derived.Deep.QuietTactic
import Derived.Deep.RegionHeld3
import Derived.Deep.CutRange
import Derived.Test.YtpehcaidjlemiaaGreatDoorMRQ13
import Derived.Test.YtpehcaidjlemiaaGreatDoorMRQ27
import Derived.Test.YtpehcaidjlemiaaGreatDoorMRQ12
import Derived.Test.YtpehcaidjlemiaaGreatDoorMRQ05
set_option maxHeartbeats 8000000
set_option maxRecDepth 100000
set_option linter.unusedVariables false
namespace Go.Proofs.YtpehcaidjlemiaaGreatDoor
open Go Go.RowKit
theorem qkv {G:List En} (h:qbe G):qdB G:=by
 have h1:(G.map (·.2.2)).Pairwise (· <·):=List.pairwise_iff_getElem.2 fun i j hi hj hij=>(qgh h.rise j hj).2 i hi hij
 exact List.pairwise_map.1 h1
theorem qyH {G:List En} (h:qbe G):∀ q∈G,0<=q.2.2:=fun q hq=>by
 obtain ⟨i,hi,e⟩:=List.getElem_of_mem (List.mem_map.2 ⟨q,hq,rfl⟩:q.2.2∈G.map (·.2.2));have :=(qgh h.rise i hi).1;rw [e] at this;omega
theorem qhW {Ls:List (List En)} (h:∀ L∈Ls,qbe L) (hf:Ls.flatten.length<=100):qhI Ls:=
 ⟨fun L hL=>⟨(h L hL).good,qkv (h L hL),by have :=(h L hL).few;omega⟩,fun L hL q hq=>⟨(h L hL).may q hq,qyH (h L hL) q hq⟩,hf⟩
theorem qgC:∀ {Ls:List (List En)},(∀ L∈Ls,qbe L)->(Ls.map qaf).flatten.length<=4000*Ls.flatten.length
 |[],_=>by simp
 |L::Ls,h=>by
  have h1:=qg5 (l:=L) (a:=[]) (M:=4000) fun q hq=>qjI ((h L (List.mem_cons_self ..)).good q hq)
  have h2:(qaf L).length<=L.length*4000+([]:List Nm).length:=h1;have h3:=qgC (Ls:=Ls) fun K hK=>h K (List.mem_cons_of_mem _ hK)
  simp only [List.map_cons,List.flatten_cons,List.length_append,List.length_nil] at h2 ⊢;omega
theorem qyI (n:Nat):qbd (List.replicate n true)=List.range n:=by
 unfold qbd;rw [List.length_replicate];refine List.filter_eq_self.2 fun k hk=> ?_
 have :=List.mem_range.1 hk;simp [List.getD_eq_getElem?_getD,this]
theorem qyJ (n:Nat):qbd (List.replicate n false)=[]:=by
 unfold qbd;refine List.filter_eq_nil_iff.2 fun k hk=> ?_
 simp only [List.length_replicate,List.mem_range] at hk;simp [List.getD_eq_getElem?_getD,hk]
theorem qpJ (L:List En):qbl L (List.replicate L.length true)=L:=by
 unfold qbl;rw [qyI,qmQ]
theorem qyK (L:List En) (n:Nat):qbl L (List.replicate n false)=[]:=by
 unfold qbl;rw [qyJ];rfl
def qgD (Ls:List (List En)):List (List Bool):=Ls.map fun L=>List.replicate L.length true
theorem qpK:∀ (Ls:List (List En)),qa6 Ls (qgD Ls)
 |[]=> .nil
 |L::Ls=> .cons (by simp) (qpK Ls)
theorem qpL:∀ (Ls:List (List En)),qas Ls (qgD Ls)=Ls
 |[]=>rfl
 |L::Ls=>by
  show qbl L _::qas Ls (qgD Ls)=_;rw [qpJ,qpL Ls]
theorem qyL {Ls:List (List En)} {rs:List (List Bool)} (hf:qa6 Ls rs) (h:(qaj Ls.flatten).Nodup):¬ qdq ((qas Ls rs).map qaj):=by
 have :=qtb hf h;rwa [qi5 hf] at this
theorem qyM {L:List En} (h:L≠[]):qdq ([L,L].map qaj):=by
 cases L with
 |nil=>exact absurd rfl h
 |cons q L=>exact ⟨(0,0),(1,0),by simp [InO,qaj],by simp [InO,qaj],rfl,by simp⟩
theorem qpM {Ls:List (List En)} {rs:List (List Bool)} {w w':World} {e:Ending} {g:List En} (h:qki Ls rs w e w') (hf:qa6 Ls rs) (hn:¬ qdq ((qas Ls rs).map qaj)) (hg:qdB g) (hm:∀ x,x∈g↔∃ L∈qas Ls rs,x∈L):qdC (qac g) w e w':=by
 rcases h with ⟨h,_⟩|⟨_,h,_⟩|⟨_,o,ho,h⟩
 ·exact absurd hf h
 ·exact absurd h hn
 ·rw [qoG hf ho,qs8 ho hg hm] at h
  exact h
theorem qdC.ends {x:qbL} {w w':World} {e:Ending} (h:qdC x w e w'):∃ v,e= .returned (.tuple #[v,.int .i64 0])/\Below w.heap.size w w':=by
 obtain ⟨S,h1,_,_,h4⟩:=h;exact ⟨_,h1,h4⟩
theorem qhX {w:World} {b:Nat} {l:List Value} {t:TypeId} {fr:Nat × Nat} (hb:w.heap[b]?=some (.cells l.toArray t fr)):Row w w.heap.size (some ⟨b,0,none⟩) l:=
 .inr ⟨b,0,rfl,(Array.getElem?_eq_some_iff.1 hb).1,fun j u hu=>by simpa [World.cell?,hb] using hu⟩
theorem qpN {w:World} {A:Option Addr} {Ss:List Nat} {Ls:List (List En)} (hr:Row w w.heap.size A (qbE Ss)) (hl:Ss.length=Ls.length) (hs:∀ i (h:i<Ls.length),qbv w (Ss.getD i 0) (qac Ls[i])):qdw w A Ls:=⟨Ss,hl,hr,hs⟩
theorem qkw {w:World} {b S:Nat} {t:TypeId} {fr:Nat × Nat} {L:List En} (hb:w.heap[b]?=some (.cells #[.pointer (some ⟨S,0,none⟩)] t fr)) (hs:qbv w S (qac L)):qdw w (some ⟨b,0,none⟩) [L]:=
 qpN (Ss:=[S]) (qhX (l:=qbE [S]) hb) rfl fun i hi=>by
  obtain rfl:i=0:=by simpa using hi
  exact hs
theorem qpO {w:World} {b S T:Nat} {t:TypeId} {fr:Nat × Nat} {L K:List En} (hb:w.heap[b]?=some (.cells #[.pointer (some ⟨S,0,none⟩),.pointer (some ⟨T,0,none⟩)] t fr)) (hs:qbv w S (qac L)) (ht:qbv w T (qac K)):qdw w (some ⟨b,0,none⟩) [L,K]:=
 qpN (Ss:=[S,T]) (qhX (l:=qbE [S,T]) hb) rfl fun i hi=>by
  match i,hi with
  |0,_=>exact hs
  |1,_=>exact ht
theorem qyN {w:World} (A:Option Addr):qdM w A []:=⟨[],rfl,.inl rfl,fun i hi=>by simp at hi⟩
theorem qpP {w:World} {b base B:Nat} {t:TypeId} {fr:Nat × Nat} {r:List Bool} (hb:w.heap[b]?=some (.cells #[.pointer (some ⟨B,0,none⟩)] t fr)) (hs:qba w base B r):qdM w (some ⟨b,0,none⟩) [r]:=
  ⟨[B], rfl, qhX (l := qbE [B]) hb, fun i hi => by
    obtain rfl:i=0:=by simpa using hi
    exact ⟨base,hs⟩⟩
theorem qpQ {w:World} {b base B base2 C:Nat} {t:TypeId} {fr:Nat × Nat} {r s:List Bool} (hb:w.heap[b]?=some (.cells #[.pointer (some ⟨B,0,none⟩),.pointer (some ⟨C,0,none⟩)] t fr)) (hs:qba w base B r) (ht:qba w base2 C s):qdM w (some ⟨b,0,none⟩) [r,s]:=
  ⟨[B, C], rfl, qhX (l := qbE [B, C]) hb, fun i hi => by
    match i,hi with
    |0,_=>exact ⟨base,hs⟩
    |1,_=>exact ⟨base2,ht⟩⟩
theorem qhY {w:World} {base B n:Nat} (h:qbp w base B n (Plain.fullW n)):qba w base B (List.replicate n true):=⟨_,by rw [List.length_replicate];exact h,Plain.fullW_rep n⟩
def qkx (l:List Int) (w:World) (e:Ending) (w':World):Prop:=∃ A c,e= .returned (.slice A l.length c)/\l.length<=c/\w'.ownsRow w.heap.size 3 1 (.slice A l.length c) l.length (qaa l)/\Below w.heap.size w w'
theorem qpR (A:Option Addr) (m c:Nat) (ps:List Int) (w:World) (hn:ps.length=m) (hr:Row w w.heap.size A (qaa ps)) (hl:m<=2147483648):
  Calls Tryz.prog 53 #[.slice A m c] w (qkx ps w):=by
 obtain ⟨i0,hi0,hz0,hz1,hz2⟩:=info_parts qdh;have qe:∀ (w:World) (a:Option Addr) (n c n' c':Nat),(binOp .eql 23 (.slice a n c) (.slice none n' c')).run Tryz.prog w= .ok (.bool a.isNone) w:=fun w a n c n' c'=>Lib.run_eql_slice_nil w _ _ a n c n' c' Tryz.underlying23
 subst hn;cases A with
 |none=>
  obtain rfl:ps=[]:=by
   rcases Nat.eq_zero_or_pos ps.length with h0|h0
   ·exact List.eq_nil_of_length_eq_zero h0
   ·obtain ⟨_,_,e,_⟩:=hr.at_ (by simpa [qaa] using h0)
    cases e
  clear hr
  go_enter Tryz.func53,Tryz.ntmps53
  go_wp2;go_ret;exact ⟨none,0,rfl,Nat.zero_le _,World.ownsRow_nil _ _ _ _,Below.refl _ _⟩
 |some ad=>
  have HR:=qH hr;have hwl:(qaa ps).length=ps.length:=by simp [qaa]
  have HWL:=qH hwl;clear hr hwl;have hlit:(w.alloc (.cells #[] 3)).ownsRow w.heap.size 3 1 (.slice (some ⟨w.heap.size,0,none⟩) 0 0) 0 []:=World.ownsRow_made w #[] 0 (Nat.le_refl _) (Nat.zero_le _) rfl;obtain ⟨m,hm⟩:∃ m,m=ps.length:=⟨_,rfl⟩;rw [<- hm] at HWL hl;rw [<- hm];have HM:=qH hm;clear hm
  go_enter Tryz.func53,Tryz.ntmps53
  go_wp2_with (at_builtin;(refine qft _ rfl (.tmp 5) (.tmp 6) 23 rfl w.heap.size 3 i0 _ 1 8 Tryz.underlying23 hi0 hz0 hz1 hz2 rfl (by decide) _ 0 [] rfl hlit _ _ m c (qaa ps) rfl (by rw [HWL.out];omega) ((HR.out.below ((Below.refl _ w).alloc (Nat.le_refl _) (.cells #[] 3))).more (B':=(w.alloc (.cells #[] 3)).heap.size) (by simp)) (qtB _) (by unfold maxLen;omega) (by omega) (by simp) ?_))
  intro v' w' hown hgrow;obtain ⟨A',c',rfl,hc',_⟩:=qaT hown;go_wp2;go_ret;refine ⟨A',c',by rw [<- HM.out];rfl,by rw [<- HM.out];exact hc',by rw [<- HM.out];simpa using hown,((Below.refl _ _).alloc (Nat.le_refl _) _).grown hgrow (by simp) (fun k hk=>by cases hk;exact Nat.le_refl _)⟩
theorem qyO {w w6:World} {x:qbL} {A1 A2 A3:Option Addr} {n1 n2 n3 c1 c2 c3:Nat} {bl:List Nat} (e1:x.ids.length=n1) (e2:x.seqs.length=n2) (e3:x.keys.length=n3) (hb:Below w.heap.size w w6) (h1:Row w6 w6.heap.size A1 (qaa x.ids)) (hc1:n1<=c1) (h2:Row w6 w6.heap.size A2 (qaa x.seqs)) (hc2:n2<=c2)
  (h3:Row w6 w6.heap.size A3 (qaI x.keys bl)) (hbl:bl.length=x.keys.length) (hc3:n3<=c3) (hx3:c3<=maxLen) (hA3:A3=none/\x.keys=[]/\c3=0∨∃ g,A3=some ⟨g,0,none⟩)
  (hl:∀ i (h:i<x.lists.length),LAt w6 0 (bl.getD i 0) (qab (-1) x.lists[i]) x.lists[i]) (hm:qdT x=true) (hs:qfN x) (t1:qdt 3 w6 A1) (t2:qdt 3 w6 A2) (t3:qdt 177 w6 A3):
  qdC x w (.returned (.tuple #[.pointer (some ⟨w6.heap.size,0,none⟩),.int .i64 0])) (w6.alloc (.cells #[.slice A1 n1 c1,.slice A2 n2 c2,.slice A3 n3 c3] 110)):=by
 subst e1 e2 e3;have hal:Below w6.heap.size w6 (w6.alloc (.cells #[.slice A1 x.ids.length c1,.slice A2 x.seqs.length c2,.slice A3 x.keys.length c3] 110)):=(Below.refl _ _).alloc (Nat.le_refl _) _;have hblk:=heap_alloc_new w6 (.cells #[.slice A1 x.ids.length c1,.slice A2 x.seqs.length c2,.slice A3 x.keys.length c3] 110);refine ⟨_,rfl,⟨⟨A1,c1,A2,c2,A3,c3,hblk,hc1,hc2,Row.later h1 hal,Row.later h2 hal⟩,⟨bl,⟨by simp,hbl,A3,c3,(qfM hblk).2.2,hc3,hx3,Row.later h3 hal,hA3⟩,fun i hi=>⟨0,(hl i hi).below hal⟩⟩,hm,hs,fun B1 B2 B3 n1 d1 n2 d2 n3 d3 hB=> ?_⟩,hb.size,hb.trans (hal.mono hb.size)⟩;rw [hblk] at hB;simp only [Option.some.injEq,Obj.cells.injEq,Array.mk.injEq,List.cons.injEq,Value.slice.injEq] at hB;obtain ⟨⟨⟨rfl,_⟩,⟨rfl,_⟩,⟨rfl,_⟩,_⟩,_⟩:=hB;exact ⟨t1.below hal,t2.below hal,t3.below hal⟩
theorem qgn.rowT {w:World} {base B n c:Nat} {l:List Nm} {vs:List Nat} {A:Option Addr} (h:qgn w base B l vs) (hc:w.cell? ⟨B,0,none⟩=some (.slice A n c)):qdt 177 w A:=by
 obtain ⟨_,_,v,h3,h4⟩:=h;rw [cell_of_one h3] at hc;injection hc with hc
 subst hc;exact qjx h4
theorem qpS (A1 A2 A3 A4:Option Addr) (n1 c1 n2 c2 n3 c3 n4 c4:Nat) (x:qbL) (w:World)
    (hx1:x.ids.length=n1) (hx2:x.seqs.length=n2) (hx3:x.keys.length=n3) (hx4:x.lists.length=n4) (hx:PAt w w.heap.size A1 A2 A3 A4 x) (fx:qjy x) (hs:qfN x) (hm:qdT x=true):
    Calls Tryz.prog 33 #[.agg #[.slice A1 n1 c1,.slice A2 n2 c2,.slice A3 n3 c3,.slice A4 n4 c4]] w (qdC x w):=by
  obtain ⟨i0,hi0,hz0,hz1,hz2⟩:=info_parts qwy;obtain ⟨m12,m34,_,mk,ml⟩:=qfO.1 hm;have hk:n3<=1048576:=hx3▸hs.keys;have h43:n4=n3:=by omega
  have h21:n2=n1:=by omega
  subst h43 h21;obtain ⟨V,hV⟩:∃ V:Array Value,V=#[.slice A1 n2 c1,.slice A2 n2 c2,.slice A3 n4 c3,.slice A4 n4 c4]:=⟨_,rfl⟩;obtain ⟨w1,hw1⟩:∃ w1,w1=w.alloc (.cells #[.slice A1 n2 c1,.slice A2 n2 c2,.slice A3 n4 c3,.slice A4 n4 c4] 62):=⟨_,rfl⟩;have hb1:Below w.heap.size w w1:=by rw [hw1];exact (Below.refl _ w).alloc (Nat.le_refl _) _
  have hM:=qwm A1 A2 A3 A4 n2 c1 n2 c2 n4 c3 n4 c4 x w1 hx1 hx2 hx3 hx4 (hx.later hb1) fx hk;rw [hm] at hM;have HM:=qH hM;have HB1:Hid (qb5 w w.heap.size V w1):=qH (by rw [hw1,hV];exact qoV w _);have HW1:=qH hw1;have HX:=qH hx;have HV:=qH hV;have H1:=qH hx1;have H2:=qH hx2;have H3:=qH hx3;have H4:=qH hx4;have HML:=qH ml;have HMK:=qH mk;have HMM:=qH hm;have HS:=qH hs;have hn2:n2<=1048576:=hx1▸hs.ids;clear hM hw1 hb1 hx fx hx1 hx2 hx3 hx4 hm mk ml m12 m34 hV hs;have QS:Hid (∀ wr,qb5 w w.heap.size V wr->wr.cell? ⟨w.heap.size,0,none⟩=some (.slice A1 n2 c1)/\wr.cell? ⟨w.heap.size,1,none⟩=some (.slice A2 n2 c2)/\wr.cell? ⟨w.heap.size,2,none⟩=some (.slice A3 n4 c3)/\wr.cell? ⟨w.heap.size,3,none⟩=some (.slice A4 n4 c4)):=qH fun wr h=>by
    obtain ⟨_,_,h2⟩:=h;rw [HV.out] at h2;exact qnI h2
  go_enter Tryz.func33,Tryz.ntmps33
  go_wp2_with (go_at_call 69; rw [show w.alloc _ = w1 from HW1.out.symm]; refine HM.out.mono ?_; rintro e w2 ⟨rfl, hb2⟩
               have HB2:Hid (qb5 w w.heap.size V w2):=qH (HB1.out.below hb2);clear hb2;obtain ⟨q0,q1,q2,q3⟩:=QS.out _ HB2.out;obtain ⟨w3,hrun,hown3,hgrow3⟩:=run_make_own (P:=Tryz.prog) w2 w.heap.size 136 116 i0 _ 1 Tryz.underlying136 hi0 hz0 hz1 .i64 .i64 n4 (by rw [hz2];omega) (by unfold maxLen;omega) HB2.out.1.size;have hb3:Below w2.heap.size w2 w3:=(Below.refl _ w2).grown hgrow3 (Nat.le_refl _) (fun k hk=>by cases hk);have HB3:Hid (qb5 w w.heap.size V w3):=qH (HB2.out.below hb3);have HOWN3:=qH hown3;clear hown3 hgrow3 hb3;obtain ⟨p0,p1,p2,p3⟩:=QS.out _ HB3.out)
  clear hrun q0 q1 q2 q3
  go_loopw [4,21] (fun vl i wr=>qwx w V x.lists vl i wr) (fun _ i _=>n4-(intOf i).toNat)
  case atStart=>exact ⟨0,[],Nat.zero_le _,rfl,rfl,HOWN3.out,fun j _ hj=>by omega,HB3.out⟩
  case round=>
    obtain ⟨k,bl,hk',rfl,hmk⟩:=hrel;rw [H4.out] at hk';have hsz:=hmk.box.1.size;by_cases hlt:k<n4
    · have hkl:k<x.lists.length:=by rw [H4.out];exact hlt
      obtain ⟨b1,o1,A',c',rfl,hb1,hc1,hl1,hp1⟩:=(HX.out.lists.below hmk.box.1).at_ hkl;have f1:=HS.out.lists _ (List.getElem_mem hkl);have hk0:(0:Int)<=k:=by omega
      have hk1:(k:Int)<n4:=by omega
      have f2:=(qnE (HML.out _ (List.getElem_mem hkl))).1;obtain ⟨L,hL⟩:∃ L,L=x.lists[k]:=⟨_,rfl⟩;rw [<- hL] at hc1 hl1 hp1 f1 f2;obtain ⟨m,hm⟩:∃ m,m=L.length:=⟨_,rfl⟩;rw [<- hm] at hc1 hl1;have HP:=qH (qo0 A' m c' L wr hm.symm hl1.1 hl1.2 (by omega) (hp1.more hsz) f1.2 f2);have HMKA:=qH hmk;have HKL:=qH hkl;have HL:=qH hL;clear hm f1 f2 hl1 hp1 hmk hL
      go_wp2_with (first
        | (go_at_call 70; refine HP.out.mono ?_; rintro e w5 ⟨B, rfl, hB, hb5⟩
           have HMK5:=qH (HMKA.out.below hb5);have HB5:=qH (hB.low (Nat.zero_le _));clear hB hb5)
        |(at_builtin;refine wpList_append_own _ rfl (.tmp 30) (.tmp 32) 136 rfl w.heap.size 116 i0 _ 1 8 Tryz.underlying136 hi0 hz0 hz1 hz2 rfl (by omega) _ k (qbE bl) rfl (HMK5.out.own.alloc _) ⟨w5.heap.size,0,none⟩ 1 1 [.pointer (some ⟨B,0,none⟩)] rfl rfl (qaU w5 [.pointer (some ⟨B,0,none⟩)] 116) (by intro u hu;simp at hu;subst hu;rfl) (by unfold maxLen;omega) (by omega) (by have :=HMK5.out.box.1.size;simp;omega) ?_))
      intro v' w6 hown6 hgrow6 hz6;clear hz6;have hal5:Below w5.heap.size w5 (w5.alloc (.cells #[.pointer (some ⟨B,0,none⟩)] 116)):=(Below.refl _ _).alloc (Nat.le_refl _) _;have hmk6:=(HMK5.out.below hal5).push HKL.out (B:=B) (by have :=HB5.out.below hal5;rwa [HL.out] at this) hown6 hgrow6;have HMK6:=qH hmk6;clear hal5 hmk6 hown6 hgrow6;go_wp2;go_roundw
      case rel=>exact ⟨k+1,_,by rw [H4.out];omega,by go_num,HMK6.out⟩
      case measure=>simp [intOf];omega
    · have hkn:k=n4:=by omega
      subst hkn;have hown:=hmk.own;obtain ⟨Al,cl,rfl,hcl,hrl⟩:=qaT hown;have HMKA:=qH hmk;have hbl:=hmk.len;have HBLL:Hid (bl.length=k):=qH hbl;have HD:=qH (qtf A3 Al k c3 cl x.keys bl wr ((HX.out.later hmk.box.1).keys) H3.out hk hrl hbl HMK.out);obtain ⟨q0,q1,q2,q3⟩:=QS.out _ hmk.box;clear hmk hown hrl hbl
      go_wp2_with (go_at_call 71; refine HD.out.mono ?_; rintro e w5 ⟨D, rfl, hd, hb5⟩
                   have HMK5:=qH (HMKA.out.below hb5);have HDR:=qH hd;clear hd hb5)
      obtain ⟨A5,c5,hd1,hd2,hd3,hd4,hd5⟩:=HDR.out.read;rw [H3.out] at hd1 hd2;have HT5:=qH (HDR.out.rowT hd1);have HD3:=qH hd3;have HD4:=qH hd4;have HD5:=qH hd5;have hDl:D<w5.heap.size:=by obtain ⟨_,_,v,h,_⟩:=HDR.out;exact lt_of_block h
      have HKD:Hid (∀ w',Below w5.heap.size w5 w'->(w'.cell? ⟨w.heap.size,0,none⟩=some (.slice A1 n2 c1)/\w'.cell? ⟨w.heap.size,1,none⟩=some (.slice A2 n2 c2))/\w'.cell? ⟨D,0,none⟩=some (.slice A5 k c5)):=qH fun w' h=>by
        have hq:=QS.out _ (HMK5.out.box.below h);exact ⟨⟨hq.1,hq.2.1⟩,(h.cell (p:=⟨D,0,none⟩) hDl).trans hd1⟩
      have HC1:Hid (∀ w',Below w5.heap.size w5 w'->Calls Tryz.prog 53 #[.slice A1 n2 c1] w' (qkx x.ids w')):=qH fun w' h=>
        qpR A1 n2 c1 x.ids w' H1.out ((HX.out.later (HMK5.out.box.below h).1).ids) (by omega)
      have HC2:Hid (∀ w',Below w5.heap.size w5 w'->Calls Tryz.prog 53 #[.slice A2 n2 c2] w' (qkx x.seqs w')):=qH fun w' h=>
        qpR A2 n2 c2 x.seqs w' H2.out ((HX.out.later (HMK5.out.box.below h).1).seqs) (by omega)
      have HB0:Hid (Below w5.heap.size w5 w5.drew):=qH (Below.refl _ w5).drew;have HFIN:Hid (∀ w8,Below w5.heap.size w5 w8->∀ s1 s2 B1 d1 B2 d2,w8.ownsRow s1 3 1 (.slice B1 n2 d1) n2 (qaa x.ids)->n2<=d1->w8.ownsRow s2 3 1 (.slice B2 n2 d2) n2 (qaa x.seqs)->n2<=d2->
          qdC x w (.returned (.tuple #[.pointer (some ⟨w8.heap.size,0,none⟩),.int .i64 0])) (w8.alloc (.cells #[.slice B1 n2 d1,.slice B2 n2 d2,.slice A5 k c5] 110))):=qH fun w8 h s1 s2 B1 d1 B2 d2 r1 r2 r3 r4=>
        qyO (bl:=bl) H1.out H2.out H3.out (HMK5.out.box.below h).1 (qb7 r1) r2 (qb7 r3) r4 (Row.later HD4.out h) (by rw [HBLL.out,H3.out]) hd2 HD3.out HD5.out (fun i hi=>(HMK5.out.at_ i hi (by have :=H4.out;omega)).below h) HMM.out HS.out (qjx r1) (qjx r3) (HT5.out.below h)
      clear hd1 hd3 hd4 hd5 hDl hd2
      go_region_held3 (fun w'=>(w'.cell? ⟨w.heap.size,0,none⟩=some (.slice A1 n2 c1)/\w'.cell? ⟨w.heap.size,1,none⟩=some (.slice A2 n2 c2))/\w'.cell? ⟨D,0,none⟩=some (.slice A5 k c5))
        (first|exact HKD.out _ HB0.out|exact HKD.out _ HB6.out|exact HKD.out _ HB7.out|exact HKD.out _ (HB7.out.alloc HB7.out.size _)|exact HKD.out _ HB8.out|exact HKD.out _ HB9.out|exact HKD.out _ (HB9.out.alloc HB9.out.size _))
        (first
          | (go_at_call 53; (with_reducible refine (HC1.out _ HB0.out).mono ?_); rintro e w6 ⟨B6, d6, rfl, hd6, hr6, hb6⟩
             have HB6:Hid (Below w5.heap.size w5 w6):=qH (HB0.out.trans hb6);rw [H1.out] at hr6 hd6;have HR6:=qH hr6;have HD6:=qH hd6;clear hr6 hb6 hd6;rw [H1.out])
          | (go_at_call 53; (with_reducible refine (HC2.out _ HB6.out).mono ?_); rintro e w7 ⟨B7, d7, rfl, hd7, hr7, hb7⟩
             have HB7:Hid (Below w5.heap.size w5 w7):=qH (HB6.out.trans (hb7.mono HB6.out.size));rw [H2.out] at hr7 hd7;have HF:=qH (HFIN.out w7 HB7.out _ _ B6 d6 B7 d7 (qap HR6.out hb7) HD6.out hr7 hd7);clear hr7 hb7 hd7;rw [H2.out])
          | (go_at_call 53; (with_reducible refine (HC2.out _ HB0.out).mono ?_); rintro e w8 ⟨B8, d8, rfl, hd8, hr8, hb8⟩
             have HB8:Hid (Below w5.heap.size w5 w8):=qH (HB0.out.trans hb8);rw [H2.out] at hr8 hd8;have HR8:=qH hr8;have HD8:=qH hd8;clear hr8 hb8 hd8;rw [H2.out])
          | (go_at_call 53; (with_reducible refine (HC1.out _ HB8.out).mono ?_); rintro e w9 ⟨B9, d9, rfl, hd9, hr9, hb9⟩
             have HB9:Hid (Below w5.heap.size w5 w9):=qH (HB8.out.trans (hb9.mono HB8.out.size));rw [H1.out] at hr9 hd9;have HF:=qH (HFIN.out w9 HB9.out _ _ B9 d9 B8 d8 hr9 hd9 (qap HR8.out hb9) HD8.out);clear hr9 hb9 hd9;rw [H1.out]))
      all_goals
        go_wp2;go_ret2;exact HF.out
theorem qpT {l:List Int} {k:Nat} (h:k<l.length):qdu l (k:Int)=l[k]:=by
 unfold qdu;rw [if_pos ⟨by omega,by omega⟩,Int.toNat_natCast,qat h]
theorem qhZ (A A2:Option Addr) (m c m2 c2:Nat) (Ls:List (List En)) (rs:List (List Bool)) (w:World) (hS:qdw w A Ls) (hR:qdM w A2 rs) (hm:Ls.length=m) (hm2:rs.length=m2) (hmx:m<=1000) (hok:qhI Ls) (hkl:(Ls.map qaf).flatten.length<=100000) (hT:Tab w):
    Calls Tryz.prog 14 #[.slice A m c,.slice A2 m2 c2] w (qki Ls rs w):=by
  have C37:=qH (qu3 A A2 m c m2 c2 Ls rs w hS hR hm hm2 (by omega));by_cases hf:qa6 Ls rs
  · have hrs:∀ s∈(qas Ls rs).map qaj,qah (-1) s=true:=fun s hs=>by
      obtain ⟨L,hL,rfl⟩:=List.mem_map.1 hs;obtain ⟨K,hK,hsub⟩:=qi6 (x:=(0,[],0)) hf L hL;refine qfB (List.pairwise_map.2 (((hok.good K hK).2.1).sublist hsub)) fun a ha=> ?_
      obtain ⟨q,hq,rfl⟩:=List.mem_map.1 ha;have :=(hok.may K hK q (hsub.mem hq)).2;omega
    have hmm:m2=m:=by have :=(qfk.1 hf).1;omega
    subst hmm;have C38:=qH (fun w5 (hb:Below w.heap.size w w5)=>qvO A A2 m2 c c2 Ls rs w5 (hS.below hb) (hR.below hb) hf hm hmx (fun L hL=>(hok.good L hL).2.2) (hT.below hb hT.lt));have HOK:=qH hok;have HS:=qH hS;have HM:=qH hm;have HKL:=qH hkl;have HRS:=qH hrs;clear hok hS hR hm hm2 hkl hT hrs;by_cases ht:qdq ((qas Ls rs).map qaj)
    · go_enter Tryz.func14,Tryz.ntmps14
      go_wp2_with (first
                | (go_at_call 37; refine (C37.out).mono ?_; rintro e w5 ⟨z, rfl, hz, hb5⟩
                   obtain rfl:z=true:=hz.2 hf;have HB5:=qH hb5;clear hb5 hz)
                | (go_at_call 38; refine (C38.out _ HB5.out).mono ?_; rintro e w6 ⟨err, o, v, hord, rfl, hown, hb6, hol⟩
                   obtain rfl:err=5:=(by
                     cases hord with
                     |bad h=>exact absurd HRS.out h
                     |twice _ _=>rfl
                     |ok _ h=>exact absurd ht h.once)
                   have HB6:=qH ((HB5.out).trans (hb6.mono (HB5.out).size));clear hord hown hb6 hol))
      go_ret2;exact .inr (.inl ⟨hf,ht,rfl,HB6.out⟩)
    · go_enter Tryz.func14,Tryz.ntmps14
      go_wp2_with (first
                | (go_at_call 37; refine (C37.out).mono ?_; rintro e w5 ⟨z, rfl, hz, hb5⟩
                   obtain rfl:z=true:=hz.2 hf;have HB5:=qH hb5;clear hb5 hz)
                | (go_at_call 38; refine (C38.out _ HB5.out).mono ?_; rintro e w6 ⟨err, o, v, hord, rfl, hown, hb6, hol⟩
                   have h0:err=0/\qb8 ((qas Ls rs).map qaj) o:=(by
                     cases hord with
                     |bad h=>exact absurd HRS.out h
                     |twice _ h=>exact absurd h ht
                     |ok _ h=>exact ⟨rfl,h⟩)
                   obtain ⟨rfl,hio⟩:=h0;obtain ⟨A6,c6,rfl,_,_,_⟩:=qbt hown;obtain ⟨n6,hn6⟩:∃ n6,n6=(qbZ rs o).length:=⟨_,rfl⟩;rw [<- hn6];have HN6:=qH hn6;have HIO:=qH hio;have HROW:=qH (qb7 hown);have HB6:=qH ((HB5.out).trans (hb6.mono (HB5.out).size));clear hord hown hb6 hio hn6 hol))
      obtain ⟨j0,ji0,jz0,jz1,jz2⟩:=info_parts qdh;obtain ⟨E,hE0⟩:∃ E,E=qbZ rs o:=⟨_,rfl⟩;have hE:qda Ls E:=by rw [hE0];exact qhJ hf HIO.out HOK.out.good
      have hadd:qbe (qal Ls E):=by rw [hE0];exact qvQ hf HIO.out HOK.out
      have hn6:E.length=n6:=by rw [hE0];exact HN6.out.symm
      have hn100:n6<=100:=by have :=hadd.few;simp only [qal,List.length_map] at this;omega
      rw [<- hE0] at HROW;obtain ⟨P,hP⟩:∃ P,P=w6.heap.size:=⟨_,rfl⟩;have hst:qkj (qal Ls E) P w6 (.int .i64 0) (w6.alloc (.cells #[.slice none 0 0,.slice none 0 0,.slice none 0 0,.slice none 0 0] 62)):=
        ⟨0,_,_,Nat.zero_le _,rfl,by rw [hP];exact heap_alloc_new w6 _,by simpa [qaa,qaj] using qm2 3 1 w6.heap.size (w6.alloc _) 2,by omega,by simp,(Below.refl _ w6).alloc (Nat.le_refl _) _⟩
      have HST:=qH hst;have HE:=qH hE;have HADD:=qH hadd;have HN:=qH hn6;have HE0:=qH hE0;have HP:=qH hP;rw [<- hP];clear hst hE hadd hn6 hE0 hP
      go_loopw [10,27] (fun u10 idx wr=>qkj (qal Ls E) P w6 idx wr) (fun _ idx _=>n6-(intOf idx).toNat)
      case atStart=>exact HST.out
      case round=>
        clear HST;obtain ⟨q,v0,v1,hq,rfl,hat⟩:=hrel;by_cases hqn:q<n6
        · have hqE:q<E.length:=by rw [HN.out];exact hqn
          obtain ⟨hi,hy⟩:=(HE.out).ins _ (List.getElem_mem hqE);obtain ⟨i,hi0⟩:∃ i,i=E[q].1:=⟨_,rfl⟩;obtain ⟨y,hy0⟩:∃ y,y=E[q].2:=⟨_,rfl⟩;obtain ⟨b0,off0,rfl,hb0,r1,r2⟩:=qfH ((HROW.out).below hat.below) hqE;rw [<- hi0] at hi hy r1;rw [<- hy0] at hy r2;rw [qat hi] at hy;have hGq:q<(qal Ls E).length:=by simpa [qal] using hqE
          have hg:(qal Ls E)[q]=Ls[i][y]:=by
            simp only [qal,List.getElem_map,qaX,<- hi0,<- hy0,qat hi,qat hy]
          have htk:(qal Ls E).take (q+1)=(qal Ls E).take q++[Ls[i][y]]:=by rw [List.take_succ_eq_append_getElem hGq,hg]
          have hbw6:Below w.heap.size w w6:=HB6.out;have hSf:∀ W,Below w6.heap.size w6 W->Below w.heap.size w W:=fun W hW=>hbw6.trans (hW.mono hbw6.size)
          obtain ⟨b,off,S,rfl,hb,q1,hseg⟩:=((HS.out).below hbw6).at_ hi;have hlen:((qal Ls E).take q).length=q:=by rw [List.length_take];omega
          have hid:∀ W,Below w6.heap.size w6 W->Calls Tryz.prog 39 #[.pointer (some ⟨S,0,none⟩),.int .i64 (y:Int)] W fun e w'=>e= .returned (.int .i64 (Ls[i][y]).1)/\Below W.heap.size W w':=fun W hW=>by
            have :=qur (hseg.below hW) (y:Int);rwa [qpT (by simpa [qac] using hy),show (qac Ls[i]).ids[y]'(by simpa [qac] using hy)=(Ls[i][y]).1 by simp [qac]] at this
          have hsq:∀ W,Below w6.heap.size w6 W->Calls Tryz.prog 40 #[.pointer (some ⟨S,0,none⟩),.int .i64 (y:Int)] W fun e w'=>e= .returned (.int .i64 (Ls[i][y]).2.2)/\Below W.heap.size W w':=fun W hW=>by
            have :=qnH (hseg.below hW) (y:Int);rwa [qpT (by simpa [qac] using hy),show (qac Ls[i]).seqs[y]'(by simpa [qac] using hy)=(Ls[i][y]).2.2 by simp [qac]] at this
          have him:i<m2:=by rw [<- HM.out];exact hi
          obtain ⟨a1,ha1⟩:∃ a,a=(Ls[i][y]).1:=⟨_,rfl⟩;obtain ⟨a2,ha2⟩:∃ a,a=(Ls[i][y]).2.2:=⟨_,rfl⟩;rw [<- ha1] at hid;rw [<- ha2] at hsq;have hx1:((qal Ls E).take (q+1)).map (·.1)=((qal Ls E).take q).map (·.1)++[a1]:=by rw [htk,List.map_append,ha1];rfl
          have hx2:qaj ((qal Ls E).take (q+1))=qaj ((qal Ls E).take q)++[a2]:=by unfold qaj;rw [htk,List.map_append,ha2];rfl
          obtain ⟨xs,hxs⟩:∃ xs,xs=((qal Ls E).take q).map (·.1):=⟨_,rfl⟩;obtain ⟨ys,hys⟩:∃ ys,ys=qaj ((qal Ls E).take q):=⟨_,rfl⟩;have hxl:q=xs.length:=by rw [hxs,List.length_map,hlen]
          have hyl:q=ys.length:=by rw [hys,qaj,List.length_map,hlen]
          rw [<- hxs] at hat hx1;rw [<- hys] at hat hx2;obtain ⟨T,hT0⟩:∃ T,T=wr.heap.size:=⟨_,rfl⟩;obtain ⟨wy,hwy⟩:∃ wy,wy=wr.alloc (.cells #[.int .i64 (i:Int),.int .i64 (y:Int)] 88):=⟨_,rfl⟩;have hby:Below wr.heap.size wr wy:=by rw [hwy];exact (Below.refl _ wr).alloc (Nat.le_refl _) _
          have htb:wy.heap[T]?=some (.cells #[.int .i64 (i:Int),.int .i64 (y:Int)] 88 (0,0)):=by rw [hwy,hT0];exact heap_alloc_new wr _
          have hay:=hat.later hby;obtain ⟨Av,cv,e0,_,_,_⟩:=qbt hay.own0;obtain ⟨Aw,cw,e1,_,_,_⟩:=qbt hay.own1;rw [<- hxl] at e0;rw [<- hyl] at e1;subst e0 e1;have hPT:¬ T=P:=by have :=(Array.getElem?_eq_some_iff.1 hat.cell).1;omega
          have p0:=(qcd hay.cell).1.1;obtain ⟨t0,t1⟩:=qhM htb;have sg:=(hay.below.cell (p:=⟨b,off+i,none⟩) hb).trans q1;have HAY:=qH hay;have HTB:=qH htb;have HWY:=qH hwy;have HT0:=qH hT0;have HID:=qH hid;have HSQ:=qH hsq;have HX1:=qH hx1;have HX2:=qH hx2;have HXL:=qH hxl;have HYL:=qH hyl;have HGQ:=qH hGq;have HSC:Hid (∀ W,Below w6.heap.size w6 W->W.cell? ⟨b,off+i,none⟩=some (.pointer (some ⟨S,0,none⟩))):=qH fun W hW=>(hW.cell (p:=⟨b,off+i,none⟩) hb).trans q1
          have hq1:(q:Int)<(n6:Int):=by omega
          have hi1:(i:Int)<(m2:Int):=by omega
          clear hat hby htb hay hwy hT0 hid hsq hx1 hx2 hxl hyl hGq hxs hys ha1 ha2 htk hg hlen hSf hseg q1 hi hy hi0 hy0 hqE hbw6 him;go_wp2;rw [<- HWY.out,<- HT0.out]
          go_cut [] from 31 to 57 (fun wx=>∃ v0',qde w6.heap.size P (xs++[a1]) ys v0' (.slice Aw q cw) w6 wx/\wx.heap[T]?=some (.cells #[.int .i64 (i:Int),.int .i64 (y:Int)] 88 (0,0)))
          case first=>
            refine wp_region_noPanic ?_
            go_region_law (first
              | (refine step_append_lies _ (by rfl) _ _ _ (by rfl) w6.heap.size 3 j0 _ 1 8 Tryz.underlying23 ji0 jz0 jz1 jz2 rfl (by omega) (.slice Av q cv) q (qaa xs) (by rfl) (by have := (HA7.out).own0; rw [<- HXL.out] at this; exact this.alloc _)
                  ⟨w7.heap.size,0,none⟩ 1 1 [.int .i64 a1] (by rfl) (by rfl) (World.news_of_block (cs:=#[.int .i64 a1]) (t:=3) (fr:=(0,0)) (heap_alloc_new w7 _)) (by intro u hu;simp at hu;subst hu;rfl)
                  (by omega) (by unfold maxLen;omega) (by omega) (by have :=(HA7.out).size;simp;omega) (w7.heap.size+1) (by simp) ?_
                 intro gg cap w8 hown8 hgrow hat8 hlt8;have hal:Below w7.heap.size w7 (w7.alloc (.cells #[.int .i64 a1] 3)):=(Below.refl _ w7).alloc (Nat.le_refl _) _;have ha7:=(HA7.out).later hal;obtain ⟨⟨c8,f8⟩,hm8⟩:=ha7.id HXL.out hown8 hgrow (fun g hg=>by
                   injection hg with hg
                   subst hg;rcases hat8 with h|h
                   · exact .inl h
                   · exact .inr (by simp;omega))
                 have ht7:=(hal.block T (Array.getElem?_eq_some_iff.1 HT7.out).1).trans HT7.out;have ht8:(w8.setCell ⟨P,0,none⟩ (.slice (some ⟨gg,0,none⟩) (q+1) cap)).heap[T]?=some (.cells #[.int .i64 (i:Int),.int .i64 (y:Int)] 88 (0,0)):=by
                   rw [Below.heap_setCell _ _ _ _ hPT,hgrow.block T (Array.getElem?_eq_some_iff.1 ht7).1 (fun e=>qao ha7.own0 ht7 (by decide) (by rw [<- e])),ht7]
                 have HM8:=qH hm8;have HT8:=qH ht8;clear hown8 hgrow hat8 hlt8 hal ha7 ht7 hm8 ht8)
              | (go_simp; go_at_call 39; (with_reducible refine (HID.out _ (HAY.out).below.drew).mono ?_); rintro e w7 ⟨rfl, hb7⟩
                 have HB7:Hid (Below wy.heap.size wy w7):=qH ((Below.refl wy.heap.size wy).drew.trans hb7);have HA7:=qH ((HAY.out).later HB7.out);have HT7:=qH (((HB7.out).block T (Array.getElem?_eq_some_iff.1 HTB.out).1).trans HTB.out);have p7:=(qcd (HA7.out).cell).1.1;have p7A:∀ o,(w7.alloc o).cell? ⟨P,0,none⟩=some (.slice Av q cv):=fun o=>(qcd ((HA7.out).later ((Below.refl _ w7).alloc (Nat.le_refl _) o)).cell).1.1
                 clear hb7))
            all_goals
              refine NoPanic.normal ?_
              go_wp2_with fail
              go_meet;exact ⟨_,HM8.out,HT8.out⟩
          case rest=>
            obtain ⟨v0',hac,htc⟩:=hcut;have p1:=(qcd hac.cell).1.2.1;obtain ⟨t0c,t1c⟩:=qhM htc;have sgc:=HSC.out _ hac.below;have HAC:=qH hac;have HTC:=qH htc;clear hac htc t0 t1 sg p0;go_wp2;refine wp_region_noPanic ?_
            go_region_law (first
              | (refine step_append_lies _ (by rfl) _ _ _ (by rfl) w6.heap.size 3 j0 _ 1 8 Tryz.underlying23 ji0 jz0 jz1 jz2 rfl (by omega) (.slice Aw q cw) q (qaa ys) (by rfl) (by have := (HA7.out).own1; rw [<- HYL.out] at this; exact this.alloc _)
                  ⟨w7.heap.size,0,none⟩ 1 1 [.int .i64 a2] (by rfl) (by rfl) (World.news_of_block (cs:=#[.int .i64 a2]) (t:=3) (fr:=(0,0)) (heap_alloc_new w7 _)) (by intro u hu;simp at hu;subst hu;rfl)
                  (by omega) (by unfold maxLen;omega) (by omega) (by have :=(HA7.out).size;simp;omega) (w7.heap.size+1) (by simp) ?_
                 intro gg cap w8 hown8 hgrow hat8 hlt8;have hal:Below w7.heap.size w7 (w7.alloc (.cells #[.int .i64 a2] 3)):=(Below.refl _ w7).alloc (Nat.le_refl _) _;have ha7:=(HA7.out).later hal;obtain ⟨⟨c8,f8⟩,hm8⟩:=ha7.seq HYL.out hown8 hgrow (fun g hg=>by
                   injection hg with hg
                   subst hg;rcases hat8 with h|h
                   · exact .inl h
                   · exact .inr (by simp;omega))
                 have ht7:=(hal.block T (Array.getElem?_eq_some_iff.1 HT7.out).1).trans HT7.out;have ht8:(w8.setCell ⟨P,1,none⟩ (.slice (some ⟨gg,0,none⟩) (q+1) cap)).heap[T]?=some (.cells #[.int .i64 (i:Int),.int .i64 (y:Int)] 88 (0,0)):=by
                   rw [Below.heap_setCell _ _ _ _ hPT,hgrow.block T (Array.getElem?_eq_some_iff.1 ht7).1 (fun e=>qao ha7.own1 ht7 (by decide) (by rw [<- e])),ht7]
                 have HM8:=qH hm8;have HT8:=qH ht8;clear hown8 hgrow hat8 hlt8 hal ha7 ht7 hm8 ht8)
              | (go_simp; go_at_call 40; (with_reducible refine (HSQ.out _ (HAC.out).below.drew).mono ?_); rintro e w7 ⟨rfl, hb7⟩
                 have HB7:Hid (Below wc.heap.size wc w7):=qH ((Below.refl wc.heap.size wc).drew.trans hb7);have HA7:=qH ((HAC.out).later HB7.out);have HT7:=qH (((HB7.out).block T (Array.getElem?_eq_some_iff.1 HTC.out).1).trans HTC.out);have p7:=(qcd (HA7.out).cell).1.2.1;have p7A:∀ o,(w7.alloc o).cell? ⟨P,1,none⟩=some (.slice Aw q cw):=fun o=>(qcd ((HA7.out).later ((Below.refl _ w7).alloc (Nat.le_refl _) o)).cell).1.2.1
                 clear hb7))
            all_goals
              refine NoPanic.normal ?_;have hfin:qkj (qal Ls E) P w6 (.int .i64 ((q:Int)+1)) (w8.setCell ⟨P,1,none⟩ (.slice (some ⟨gg,0,none⟩) (q+1) cap)):=
                ⟨q+1,_,_,HGQ.out,by go_num,by rw [HX1.out,HX2.out];exact HM8.out⟩
              have HFIN:=qH hfin;clear hfin;go_wp2;go_roundw
              case rel=>
                first
                  |exact HFIN.out
                  | (repeat apply Exists.intro
                     exact ⟨HFIN.out,rfl⟩)
              case measure=>simp [intOf];omega
        · have hqe:q=n6:=by have :=HN.out;simp only [qal,List.length_map] at hq;omega
          have hgl:(qal Ls E).length=n6:=by simp only [qal,List.length_map];exact HN.out
          rw [List.take_of_length_le (by omega)] at hat;obtain ⟨GG,hGG⟩:∃ GG,GG=qal Ls E:=⟨_,rfl⟩;rw [<- hGG] at hat hgl;have hl1:(GG.map (·.1)).length=n6:=by simp [hgl]
          have hl2:(qaj GG).length=n6:=by simp [qaj,hgl]
          have ho0:=hat.own0;have ho1:=hat.own1;rw [hl1] at ho0;rw [hl2] at ho1;obtain ⟨Av,cv,rfl,_,_,_⟩:=qbt ho0;obtain ⟨Aw,cw,rfl,_,_,_⟩:=qbt ho1;have hbw6:Below w.heap.size w w6:=HB6.out;have hbr:Below w.heap.size w wr:=hbw6.trans (hat.below.mono hbw6.size);have hadd:qbe GG:=by rw [hGG];exact HADD.out
          obtain ⟨nk,hnk⟩:∃ nk,nk=(qaf GG).length:=⟨_,rfl⟩;have hPw:w.heap.size<=P:=by rw [HP.out];exact hbw6.size
          have C41:=qxt A A6 m2 c n6 c6 Ls E wr ((HS.out).below hbr) (((HROW.out).below hat.below).more hat.below.size) HE.out HM.out HN.out hmx (by omega) HKL.out;unfold qkh at C41;rw [<- hGG,<- hnk] at C41;have hall:∀ w9 A3 c3 A4 c4 cs9,w9.ownsRow wr.heap.size 9 1 (.slice A3 nk c3) nk (qad (qaf GG))->w9.ownsRow wr.heap.size 71 1 (.slice A4 nk c4) nk cs9->LG 0 w9 ((qaf GG).map fun k=>qai 0 GG k) cs9->Below wr.heap.size wr w9->
              Calls Tryz.prog 33 #[.agg #[.slice Av n6 cv,.slice Aw n6 cw,.slice A3 nk c3,.slice A4 nk c4]] ((w9.setCell ⟨P,2,none⟩ (.slice A3 nk c3)).setCell ⟨P,3,none⟩ (.slice A4 nk c4)) (qdC (qac GG) w):=by
            intro w9 A3 c3 A4 c4 cs9 hk hl hlg hb;have hat9:=hat.later hb;have hc9:=hat9.cell;obtain ⟨wb,hwb⟩:∃ wb,wb=(w9.setCell ⟨P,2,none⟩ (.slice A3 nk c3)).setCell ⟨P,3,none⟩ (.slice A4 nk c4):=⟨_,rfl⟩;have hkeep:∀ k,k≠P->wb.heap[k]?=w9.heap[k]?:=fun k hk=>by
              rw [hwb,Below.heap_setCell _ _ _ _ (by show k≠P;exact hk),Below.heap_setCell _ _ _ _ (by show k≠P;exact hk)]
            have hsz:wb.heap.size=w9.heap.size:=by rw [hwb];simp
            have hown:∀ {bs:Nat} {t:TypeId} {sz n:Nat} {v:Value} {xs:List Value},w9.ownsRow bs t sz v n xs->62≠t->wb.ownsRow bs t sz v n xs:=fun h ht=>qax h fun g hg=>hkeep g fun e=>qao h hc9 ht (by rw [hg,e])
            have hkg:qa9 0 w9 wb:=⟨by omega,fun k hk=>absurd hk (Nat.not_lt_zero _),fun k cs t fr hk ht=>by
              rw [hkeep k (fun e=> ?_),hk];subst e;rw [hc9] at hk;injection hk with hk
              injection hk with _ e _
              rw [<- e] at ht;exact absurd ht (by unfold PoK;decide)⟩
            have k0:=hown hat9.own0 (by decide);have k1:=hown hat9.own1 (by decide);rw [hl1] at k0;rw [hl2] at k1;have hpat:PAt wb wb.heap.size Av Aw A3 A4 (qac GG):=⟨qb7 k0,qb7 k1,qb7 (hown hk (by decide)),⟨cs9,(hlg.keep hkg).cells,qb7 (hown hl (by decide))⟩⟩;have hbb:Below w.heap.size w wb:=by
              rw [hwb];exact ((hbr.trans (hb.mono hbr.size)).setCell (p:=⟨P,2,none⟩) hPw _).setCell (p:=⟨P,3,none⟩) hPw _
            rw [<- hwb];refine (qpS Av Aw A3 A4 n6 cv n6 cw nk c3 nk c4 (qac GG) wb hl1 hl2 hnk.symm (by rw [hnk];simp [qac]) hpat (qoe hadd) (qjJ hadd) (qoc hadd)).mono ?_;rintro e w' ⟨S,h1,h2,h3,h4⟩;exact ⟨S,h1,h2,Nat.le_trans hbb.size h3,hbb.trans (h4.mono hbb.size)⟩
          have C:=qH C41;have HALL:=qH hall;have HCELL:=qH hat.cell;have HGG:=qH hGG;clear C41 hall hat ho0 ho1 hbw6 hbr hadd hPw hgl hl1 hl2 hnk hGG hqe hq
          go_wp2_with (first
            | (go_at_call 41; refine (C.out).mono ?_; rintro e w9 ⟨A3, c3, A4, c4, rfl, hc3, hc4, hk9, ⟨cs9, hl9, hlg9⟩, hb9⟩
               have HMK:=qH ((HALL.out) w9 A3 c3 A4 c4 cs9 hk9 hl9 hlg9 hb9);obtain ⟨⟨p0,p1,p2,p3⟩,f0,f1,f2,f3⟩:=qcd ((hb9.block _ (Array.getElem?_eq_some_iff.1 HCELL.out).1).trans HCELL.out);clear hc3 hc4 hk9 hl9 hlg9 hb9)
            | (go_at_call 33; refine (HMK.out).mono ?_; rintro e w11 ⟨S, rfl, hseg, hS, hb⟩
               have HFIN:Hid (qki Ls rs w (.returned (.tuple #[.pointer (some ⟨S,0,none⟩),.int .i64 0])) w11):=qH (.inr (.inr ⟨hf,o,HIO.out,S,rfl,by rw [<- HE0.out,<- HGG.out];exact hseg,hS,hb⟩));clear hseg hS hb))
          go_ret2;exact HFIN.out
  · clear hS hR hm hm2 hkl hT hok
    go_enter Tryz.func14,Tryz.ntmps14
    go_wp2_with (go_at_call 37; refine (C37.out).mono ?_; rintro e w5 ⟨z, rfl, hz, hb5⟩
                 obtain rfl:z=false:=(by cases z with|true=>exact absurd (hz.1 rfl) hf|false=>rfl)
                 have HB5:=qH hb5;clear hb5 hz)
    go_ret2;exact .inl ⟨hf,rfl,HB5.out⟩
theorem qpU (A A2:Option Addr) (m c m2 c2:Nat) (Ls:List (List En)) (rs:List (List Bool)) (g:List En) (w:World) (hS:qdw w A Ls) (hR:qdM w A2 rs) (hm:Ls.length=m) (hm2:rs.length=m2) (hmx:m<=1000) (ha:∀ L∈Ls,qbe L) (hfl:Ls.flatten.length<=25) (hT:Tab w)
  (hf:qa6 Ls rs) (hn:¬ qdq ((qas Ls rs).map qaj)) (hg:qdB g) (hx:∀ x,x∈g↔∃ L∈qas Ls rs,x∈L):
  Calls Tryz.prog 14 #[.slice A m c,.slice A2 m2 c2] w (qdC (qac g) w):=
 (qhZ A A2 m c m2 c2 Ls rs w hS hR hm hm2 hmx (qhW ha (by omega)) (Nat.le_trans (qgC ha) (by omega)) hT).mono fun e w' h=>qpM h hf hn hg hx
theorem qyP {G:List En} {r:List Bool} {w:World} {b1 b2 S B base:Nat} {t1 t2:TypeId} {f1 f2:Nat × Nat} (c1 c2:Nat) (h1:w.heap[b1]?=some (.cells #[.pointer (some ⟨S,0,none⟩)] t1 f1)) (h2:w.heap[b2]?=some (.cells #[.pointer (some ⟨B,0,none⟩)] t2 f2)) (hs:qbv w S (qac G)) (hr:qba w base B r) (hT:Tab w) (hG:qbe G) (hn:G.length<=25) (hl:r.length=G.length):
  Calls Tryz.prog 14 #[.slice (some ⟨b1,0,none⟩) 1 c1,.slice (some ⟨b2,0,none⟩) 1 c2] w (qdC (qac (qbl G r)) w):=by
 have hf:qa6 [G] [r]:= .cons hl .nil;have hri:=qkv hG;refine qpU _ _ 1 c1 1 c2 [G] [r] (qbl G r) w (qkw h1 hs) (qpP h2 hr) rfl rfl (by omega) (fun L hL=> ?_) (by simpa using hn) hT hf (qyL hf ?_) (hri.sublist (qi4 hl)) fun x=> ?_
 ·obtain rfl:L=G:=by simpa using hL
  exact hG
 ·simpa using qmT hri
 ·simp [qas]
theorem qyQ {G:List En} {r:List Bool} {w:World} {b1 b2 S B base:Nat} {t1 t2:TypeId} {f1 f2:Nat × Nat} (c1 c2:Nat) (h1:w.heap[b1]?=some (.cells #[.pointer (some ⟨S,0,none⟩)] t1 f1)) (h2:w.heap[b2]?=some (.cells #[.pointer (some ⟨B,0,none⟩)] t2 f2)) (hs:qbv w S (qac G)) (hr:qba w base B r) (hT:Tab w) (hG:qbe G) (hn:G.length<=25) (hl:r.length≠G.length):
  Calls Tryz.prog 14 #[.slice (some ⟨b1,0,none⟩) 1 c1,.slice (some ⟨b2,0,none⟩) 1 c2] w (qgy w):=by
 have ha:∀ L∈[G],qbe L:=fun L hL=>by
  obtain rfl:L=G:=by simpa using hL
  exact hG
 refine (qhZ _ _ 1 c1 1 c2 [G] [r] w (qkw h1 hs) (qpP h2 hr) rfl rfl (by omega) (qhW ha (by simp;omega)) (Nat.le_trans (qgC ha) (by simp;omega)) hT).mono fun e w' h=> ?_
 have hno:¬ qa6 [G] [r]:=fun h=>by
  cases h with
  |cons h _=>exact hl h
 rcases h with ⟨_,h⟩|⟨h,_⟩|⟨h,_⟩
 ·exact h
 ·exact absurd h hno
 ·exact absurd h hno
structure qpV (w2:World) (S B b1 b2:Nat) (r:List Bool) (W:World):Prop where
 c1:W.heap[b1]?=some (.cells #[.pointer (some ⟨S,0,none⟩)] 33 (0,0))
 c2:W.heap[b2]?=some (.cells #[.pointer (some ⟨B,0,none⟩)] 37 (0,0))
 set:∃ base,qba W base B r
 below:Below w2.heap.size w2 W
section
variable {w2 w5:World} {S B b1 b2 base:Nat} {r:List Bool}
theorem qyR (hb:Below w2.heap.size w2 w5) (h1:w5.heap[b1]?=some (.cells #[.pointer (some ⟨S,0,none⟩)] 33 (0,0))) (hs:qba w5 base B r):
  qpV w2 S B b1 w5.heap.size r (w5.alloc (.cells #[.pointer (some ⟨B,0,none⟩)] 37)):=by
 have hal:Below w5.heap.size w5 (w5.alloc (.cells #[.pointer (some ⟨B,0,none⟩)] 37)):=(Below.refl _ _).alloc (Nat.le_refl _) _;exact ⟨(hal.block _ (Array.getElem?_eq_some_iff.1 h1).1).trans h1,heap_alloc_new w5 _,⟨base,hs.below hal⟩,hb.trans (hal.mono hb.size)⟩
end
theorem qyS {G:List En} {w:World} {b1 S:Nat} {t1:TypeId} {f1:Nat × Nat} (c1:Nat) (h1:w.heap[b1]?=some (.cells #[.pointer (some ⟨S,0,none⟩)] t1 f1)) (hs:qbv w S (qac G)) (hT:Tab w) (hG:qbe G) (hn:G.length<=25):
  Calls Tryz.prog 14 #[.slice (some ⟨b1,0,none⟩) 1 c1,.slice none 0 0] w (qgy w):=by
 have ha:∀ L∈[G],qbe L:=fun L hL=>by
  obtain rfl:L=G:=by simpa using hL
  exact hG
 refine (qhZ _ none 1 c1 0 0 [G] [] w (qkw h1 hs) (qyN _) rfl rfl (by omega) (qhW ha (by simp;omega)) (Nat.le_trans (qgC ha) (by simp;omega)) hT).mono fun e w' h=> ?_
 have hno:¬ qa6 [G] []:=fun h=>by cases h
 rcases h with ⟨_,h⟩|⟨h,_⟩|⟨h,_⟩
 ·exact h
 ·exact absurd h hno
 ·exact absurd h hno
def qh0 (n:Nat) (w:World) (e:Ending) (w':World):Prop:=∃ v,e= .returned (.tuple #[v,.int .i64 (if n=0 then 0 else 5)])/\Below w.heap.size w w'
theorem qyT {G:List En} {w:World} {b1 b2 S B C base base2:Nat} {t1 t2:TypeId} {f1 f2:Nat × Nat} (c1 c2:Nat) (h1:w.heap[b1]?=some (.cells #[.pointer (some ⟨S,0,none⟩),.pointer (some ⟨S,0,none⟩)] t1 f1)) (h2:w.heap[b2]?=some (.cells #[.pointer (some ⟨B,0,none⟩),.pointer (some ⟨C,0,none⟩)] t2 f2))
  (hs:qbv w S (qac G)) (hr:qba w base B (List.replicate G.length true)) (hr2:qba w base2 C (List.replicate G.length true)) (hT:Tab w) (hG:qbe G) (hn:G.length<=12):
  Calls Tryz.prog 14 #[.slice (some ⟨b1,0,none⟩) 2 c1,.slice (some ⟨b2,0,none⟩) 2 c2] w (qh0 G.length w):=by
 have ha:∀ L∈[G,G],qbe L:=fun L hL=>by
  obtain rfl:L=G:=by simpa using hL
  exact hG
 have hf:=qpK [G,G];have hl:=qpL [G,G];refine (qhZ _ _ 2 c1 2 c2 [G,G] (qgD [G,G]) w (qpO h1 hs hs) (qpQ h2 hr hr2) rfl rfl (by omega) (qhW ha (by simp;omega)) (Nat.le_trans (qgC ha) (by simp;omega)) hT).mono fun e w' h=> ?_
 by_cases h0:G.length=0
 ·have hg:G=[]:=List.eq_nil_of_length_eq_zero h0
  unfold qh0;rw [if_pos h0];refine qdC.ends (qpM (g:=[]) h hf ?_ List.Pairwise.nil fun x=> ?_)
  ·rw [hl]
   refine qhb ?_;rw [hg];simp [qaj]
  ·rw [hl,hg]
   simp
 ·have ht:qdq ((qas [G,G] (qgD [G,G])).map qaj):=by
   rw [hl];exact qyM fun e=>h0 (by rw [e];rfl)
  unfold qh0;rw [if_neg h0];rcases h with ⟨h,_⟩|⟨_,_,h,hb⟩|⟨_,o,ho,_⟩
  ·exact absurd hf h
  ·exact ⟨_,h,hb⟩
  ·exact absurd ht ho.once
theorem qyU {G:List En} {w:World} {b1 b2 S B C base base2:Nat} {t1 t2:TypeId} {f1 f2:Nat × Nat} (c1 c2:Nat) (h1:w.heap[b1]?=some (.cells #[.pointer (some ⟨S,0,none⟩),.pointer (some ⟨S,0,none⟩)] t1 f1)) (h2:w.heap[b2]?=some (.cells #[.pointer (some ⟨B,0,none⟩),.pointer (some ⟨C,0,none⟩)] t2 f2))
  (hs:qbv w S (qac G)) (hr:qba w base B (List.replicate G.length true)) (hr2:qba w base2 C (List.replicate G.length false)) (hT:Tab w) (hG:qbe G) (hn:G.length<=12):
  Calls Tryz.prog 14 #[.slice (some ⟨b1,0,none⟩) 2 c1,.slice (some ⟨b2,0,none⟩) 2 c2] w (qdC (qac G) w):=by
 have ha:∀ L∈[G,G],qbe L:=fun L hL=>by
  obtain rfl:L=G:=by simpa using hL
  exact hG
 have hri:=qkv hG;have hf:qa6 [G,G] [List.replicate G.length true,List.replicate G.length false]:= .cons (by simp) (.cons (by simp) .nil);have hl:qas [G,G] [List.replicate G.length true,List.replicate G.length false]=[G,[]]:=by
  show [qbl G _,qbl G _]=_;rw [qpJ,qyK]
 refine qpU _ _ 2 c1 2 c2 [G,G] _ G w (qpO h1 hs hs) (qpQ h2 hr hr2) rfl rfl (by omega) ha (by simp;omega) hT hf ?_ hri fun x=> ?_
 ·rw [hl]
  refine qhb ?_;simpa [qaj] using qmT hri
 ·rw [hl]
  simp
def qky (w:World) (e:Ending) (w':World):Prop:=e= .returned (.bool false)/\Below w.heap.size w w'
theorem qyV (b off c c2:Nat) (A2:Option Addr) (w:World) (h:w.cell? ⟨b,off,none⟩=some (.pointer none)):Calls Tryz.prog 37 #[.slice (some ⟨b,off,none⟩) 1 c,.slice A2 1 c2] w (qky w):=by
 go_enter Tryz.func37,Tryz.ntmps37
 go_wp2
 go_loopw [5,6,14] (fun u5 u6 idx wr=>idx= .int .i64 0/\wr=w) (fun _ _ idx _=>1-(intOf idx).toNat)
 case atStart=>exact ⟨rfl,rfl⟩
 case round=>
  obtain ⟨rfl,rfl⟩:=hrel;go_wp2;go_ret;exact ⟨rfl,Below.refl _ _⟩
theorem qyW (b off c b2 off2 c2 S:Nat) (w:World) (h:w.cell? ⟨b,off,none⟩=some (.pointer (some ⟨S,0,none⟩))) (h2:w.cell? ⟨b2,off2,none⟩=some (.pointer none)):Calls Tryz.prog 37 #[.slice (some ⟨b,off,none⟩) 1 c,.slice (some ⟨b2,off2,none⟩) 1 c2] w (qky w):=by
 go_enter Tryz.func37,Tryz.ntmps37
 go_wp2
 go_loopw [5,6,14] (fun u5 u6 idx wr=>idx= .int .i64 0/\wr=w) (fun _ _ idx _=>1-(intOf idx).toNat)
 case atStart=>exact ⟨rfl,rfl⟩
 case round=>
  obtain ⟨rfl,rfl⟩:=hrel;go_wp2;go_ret;exact ⟨rfl,Below.refl _ _⟩
theorem qpW (A A2:Option Addr) (m c m2 c2:Nat) (w:World) (C:Calls Tryz.prog 37 #[.slice A m c,.slice A2 m2 c2] w (qky w)):Calls Tryz.prog 14 #[.slice A m c,.slice A2 m2 c2] w (qgy w):=by
 have C37:=qH C;clear C
 go_enter Tryz.func14,Tryz.ntmps14
 go_wp2_with (go_at_call 37;refine (C37.out).mono ?_;rintro e w5 ⟨rfl,hb5⟩)
 go_ret2;exact ⟨rfl,hb5⟩
structure qd4 (S:Nat->Prop) (B:Nat) (L:List En) (up:Int) (V:Value) (G:List En) (w wr:World):Prop where
 buf:qcE S wr B L up
 ge:∀ k,S k->w.heap.size<=k
 own:qa2 (fun k=>k<w.heap.size) wr V G
 bel:Below w.heap.size w wr
section
variable {S:Nat->Prop} {B:Nat} {L:List En} {up:Int} {V:Value} {G:List En} {w wr w':World}
theorem qd4.keep (h:qd4 S B L up V G w wr) (hk:∀ k,S k->w'.heap[k]?=wr.heap[k]?) (hb:Below w.heap.size wr w'):qd4 S B L up V G w w':=
 ⟨h.buf.keep hk hb.size,h.ge,h.own.keeps fun k hk _=>hb.block k hk,h.bel.trans hb⟩
theorem qd4.below (h:qd4 S B L up V G w wr) (hb:Below wr.heap.size wr w'):qd4 S B L up V G w w':=h.keep (fun k hk=>hb.block k (h.buf.lt k hk)) (hb.mono h.bel.size)
theorem qd4.add (h:qd4 S B L up V G w wr) (hm:qbe G) (hlen:L.length<=1000) {i:Nat} (hi:i<G.length) (h0:0<=G[i].2.2) (hup:up<G[i].2.2):
  ∃ b c0 A c,V= .slice (some ⟨b,0,none⟩) G.length c0/\b<wr.heap.size/\wr.cell? ⟨b,i*3,none⟩=some (.int .i64 G[i].1)/\wr.cell? ⟨b,i*3+1,none⟩=some (.slice A G[i].2.1.length c)/\wr.cell? ⟨b,i*3+2,none⟩=some (.int .i64 G[i].2.2)/\
   ∀ w1,Below wr.heap.size wr w1->Calls Tryz.prog 30 #[.pointer (some ⟨B,0,none⟩),.agg #[.int .i64 G[i].1,.slice A G[i].2.1.length c,.int .i64 G[i].2.2]] w1 fun e w'=>e= .returned (.int .i64 0)/\∃ S',qd4 S' B (L++[G[i]]) G[i].2.2 V G w w'/\(∀ k,S' k->S k∨w1.heap.size<=k)/\qbJ S w1 w':=by
 obtain ⟨b,c0,A,c,hv,_,hb,e0,e1,e2,hc,hcx,hr⟩:=h.own.at_ hi;refine ⟨b,c0,A,c,hv,hb,e0,e1,e2,fun w1 hb1=> ?_⟩;have h1:=h.below hb1;obtain ⟨m1,m2⟩:=hm.may _ (List.getElem_mem hi);have hgf:qdn G[i].2.1:=qiG m1 fun f hf=>(m2 f hf).2
 have hsz:=h.bel.size;have hrow:qaL (fun k=>k<w1.heap.size/\¬ S k) w1 A (flds G[i].2.1):=by
  have h2:=qaL.keep (w':=w1) hr.1 fun k hk=>hb1.block k hk.lt
  exact h2.imp fun k hk=>⟨by have :=hk.lt;have :=hb1.size;omega,fun hs=>by have :=h.ge k hs;have :=hk.1;omega⟩
 refine (qyy h1.buf G[i] A _ c rfl hc hrow hr.2 (by have :=hgf.len;omega) m2 hlen).mono ?_;rintro e w' ⟨rfl,_,h2⟩;have hme:qgf up G[i]=0:=by unfold qgf;rw [if_neg (by rw [m1];decide),if_neg (by omega)]
 rw [hme] at h2 ⊢;obtain ⟨S',hb',hS,ho⟩:=h2 rfl;have hbw:=ho.below h1.ge h1.bel.size;exact ⟨rfl,S',⟨hb',fun k hk=>(hS k hk).elim (h1.ge k) fun hk=>by have :=h1.bel.size;omega,h1.own.keeps fun k hk _=>hbw.block k hk,h1.bel.trans hbw⟩,hS,ho⟩
end
theorem qpX:∀ {l:List Int} {x:Int} {i:Nat},qah x l=true->(hi:i<l.length)->x<l[i]/\∀ j (hj:j<l.length),j<i->l[j]<l[i]
 |[],_,_,_,hi=>by simp at hi
 |y::l,x,i,h,hi=>by
  rw [qah,Bool.and_eq_true,decide_eq_true_iff] at h;cases i with
  |zero=>exact ⟨h.1,fun j _ hj=>by omega⟩
  |succ i=>
   have ih:=qpX (i:=i) h.2 (by simpa using hi);refine ⟨by have :=ih.1;simp only [zC];omega,fun j hj hji=> ?_⟩;cases j with
   |zero=>exact ih.1
   |succ j=>exact ih.2 j (by simpa using hj) (by omega)
theorem qbe.next {G:List En} (h:qbe G) {i:Nat} (hi:i<G.length):0<=G[i].2.2/\qer (G.take i)<G[i].2.2:=by
 have hl:i<(G.map (·.2.2)).length:=by simpa using hi
 obtain ⟨h1,h2⟩:=qpX h.rise hl;simp only [List.getElem_map] at h1 h2;refine ⟨by omega,?_⟩;rcases Nat.eq_zero_or_pos i with rfl|hp
 ·simp [qsy];omega
 ·have hlt:0<(G.take i).length:=by rw [List.length_take];omega
  rw [qsz hlt];have hlen:(G.take i).length=i:=by rw [List.length_take];omega
  simp only [hlen,List.getElem_take];exact h2 (i-1) (by simp;omega) (by omega)
end Go.Proofs.YtpehcaidjlemiaaGreatDoor
