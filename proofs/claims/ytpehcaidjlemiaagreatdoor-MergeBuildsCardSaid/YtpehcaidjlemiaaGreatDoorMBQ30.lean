import Derived.Test.YtpehcaidjlemiaaGreatDoorMBZz
import Derived.Test.YtpehcaidjlemiaaGreatDoorMBQ24
import Derived.Test.YtpehcaidjlemiaaGreatDoorMBQ29
import Derived.Test.YtpehcaidjlemiaaGreatDoorMBQ19
import Derived.Test.YtpehcaidjlemiaaGreatDoorMBQ08
import Derived.Test.YtpehcaidjlemiaaGreatDoorMBQ02
import Derived.Test.YtpehcaidjlemiaaGreatDoorMBQ01
import Derived.Lib.SliceRun
import Derived.BigQuiet
import Derived.Deep.QuietTactic
import Derived.Deep.RegionHeld3
import Derived.Deep.CutRange
import Derived.Test.YtpehcaidjlemiaaGreatDoorMBQ13
import Derived.Test.YtpehcaidjlemiaaGreatDoorMBQ11
import Derived.Test.YtpehcaidjlemiaaGreatDoorMBQ06
import Derived.Test.YtpehcaidjlemiaaGreatDoorMBQ17
import Derived.Test.YtpehcaidjlemiaaGreatDoorMBQ16
set_option maxHeartbeats 8000000
set_option maxRecDepth 100000
set_option linter.unusedVariables false
namespace Go.Proofs.YtpehcaidjlemiaaGreatDoor
open Go Go.RowKit
theorem qkS {G:List En} (h:qbt G):qb3 G:=by
 have h1:(G.map (·.2.2)).Pairwise (· <·):=List.pairwise_iff_getElem.2 fun i j hi hj hij=>(qgu h.rise j hj).2 i hi hij
 exact List.pairwise_map.1 h1
theorem qp1 {G:List En} (h:qbt G):∀ q∈G,0<=q.2.2:=fun q hq=>by
 obtain ⟨i,hi,e⟩:=List.getElem_of_mem (List.mem_map.2 ⟨q,hq,rfl⟩:q.2.2∈G.map (·.2.2));have :=(qgu h.rise i hi).1;rw [e] at this;omega
theorem qp2 {Ls:List (List En)} (h:∀ L∈Ls,qbt L) (hf:Ls.flatten.length<=100):qhX Ls:=
 ⟨fun L hL=>⟨(h L hL).good,qkS (h L hL),by have :=(h L hL).few;omega⟩,fun L hL q hq=>⟨(h L hL).may q hq,qp1 (h L hL) q hq⟩,hf⟩
theorem qkT:∀ {Ls:List (List En)},(∀ L∈Ls,qbt L)->(Ls.map qaf).flatten.length<=4000*Ls.flatten.length
 |[],_=>by simp
 |L::Ls,h=>by
  have h1:=qhk (l:=L) (a:=[]) (M:=4000) fun q hq=>qj4 ((h L (List.mem_cons_self ..)).good q hq)
  have h2:(qaf L).length<=L.length*4000+([]:List Nm).length:=h1;have h3:=qkT (Ls:=Ls) fun K hK=>h K (List.mem_cons_of_mem _ hK)
  simp only [List.map_cons,List.flatten_cons,List.length_append,List.length_nil] at h2 ⊢;omega
theorem qzc (n:Nat):qbk (List.replicate n true)=List.range n:=by
 unfold qbk;rw [List.length_replicate];refine List.filter_eq_self.2 fun k hk=> ?_
 have :=List.mem_range.1 hk;simp [List.getD_eq_getElem?_getD,this]
theorem qzd (L:List En):qcf L (List.replicate L.length true)=L:=by
 unfold qcf;rw [qzc,qnc]
def qcR (Ls:List (List En)):List (List Bool):=Ls.map fun L=>List.replicate L.length true
theorem qid:∀ (Ls:List (List En)),qbl Ls (qcR Ls)
 |[]=> .nil
 |L::Ls=> .cons (by simp) (qid Ls)
theorem qie:∀ (Ls:List (List En)),qay Ls (qcR Ls)=Ls
 |[]=>rfl
 |L::Ls=>by
  show qcf L _::qay Ls (qcR Ls)=_;rw [qzd,qie Ls]
theorem qkU {Ls:List (List En)} {rs:List (List Bool)} (hf:qbl Ls rs) (h:(qal Ls.flatten).Nodup):¬ qdP ((qay Ls rs).map qal):=by
 have :=qtD hf h;rwa [qjm hf] at this
theorem qze {Ls:List (List En)} {rs:List (List Bool)} {w w':World} {e:Ending} {g:List En} (h:qkF Ls rs w e w') (hf:qbl Ls rs) (hn:¬ qdP ((qay Ls rs).map qal)) (hg:qb3 g) (hm:∀ x,x∈g↔∃ L∈qay Ls rs,x∈L):qdU (qac g) w e w':=by
 rcases h with ⟨h,_⟩|⟨_,h,_⟩|⟨_,o,ho,h⟩
 ·exact absurd hf h
 ·exact absurd h hn
 ·rw [qkh hf ho,qty ho hg hm] at h
  exact h
theorem qp3 {w:World} {b:Nat} {l:List Value} {t:TypeId} {fr:Nat × Nat} (hb:w.heap[b]?=some (.cells l.toArray t fr)):Row w w.heap.size (some ⟨b,0,none⟩) l:=
 .inr ⟨b,0,rfl,(Array.getElem?_eq_some_iff.1 hb).1,fun j u hu=>by simpa [World.cell?,hb] using hu⟩
theorem qzf {w:World} {A:Option Addr} {Ss:List Nat} {Ls:List (List En)} (hr:Row w w.heap.size A (qaY Ss)) (hl:Ss.length=Ls.length) (hs:∀ i (h:i<Ls.length),qa4 w (Ss.getD i 0) (qac Ls[i])):qcO w A Ls:=⟨Ss,hl,hr,hs⟩
theorem qzg {w:World} {b S T:Nat} {t:TypeId} {fr:Nat × Nat} {L K:List En} (hb:w.heap[b]?=some (.cells #[.pointer (some ⟨S,0,none⟩),.pointer (some ⟨T,0,none⟩)] t fr)) (hs:qa4 w S (qac L)) (ht:qa4 w T (qac K)):qcO w (some ⟨b,0,none⟩) [L,K]:=
 qzf (Ss:=[S,T]) (qp3 (l:=qaY [S,T]) hb) rfl fun i hi=>by
  match i,hi with
  |0,_=>exact hs
  |1,_=>exact ht
theorem qzh {w:World} {b base B base2 C:Nat} {t:TypeId} {fr:Nat × Nat} {r s:List Bool} (hb:w.heap[b]?=some (.cells #[.pointer (some ⟨B,0,none⟩),.pointer (some ⟨C,0,none⟩)] t fr)) (hs:qbj w base B r) (ht:qbj w base2 C s):qdm w (some ⟨b,0,none⟩) [r,s]:=
  ⟨[B, C], rfl, qp3 (l := qaY [B, C]) hb, fun i hi => by
    match i,hi with
    |0,_=>exact ⟨base,hs⟩
    |1,_=>exact ⟨base2,ht⟩⟩
theorem qif {w:World} {base B n:Nat} (h:qbv w base B n (Plain.fullW n)):qbj w base B (List.replicate n true):=⟨_,by rw [List.length_replicate];exact h,Plain.fullW_rep n⟩
def qf9 (l:List Int) (w:World) (e:Ending) (w':World):Prop:=∃ A c,e= .returned (.slice A l.length c)/\l.length<=c/\w'.ownsRow w.heap.size 3 1 (.slice A l.length c) l.length (qaa l)/\Below w.heap.size w w'
theorem qig (A:Option Addr) (m c:Nat) (ps:List Int) (w:World) (hn:ps.length=m) (hr:Row w w.heap.size A (qaa ps)) (hl:m<=2147483648):
  Calls Tryz.prog 53 #[.slice A m c] w (qf9 ps w):=by
 obtain ⟨i0,hi0,hz0,hz1,hz2⟩:=info_parts qdr;have qe:∀ (w:World) (a:Option Addr) (n c n' c':Nat),(binOp .eql 23 (.slice a n c) (.slice none n' c')).run Tryz.prog w= .ok (.bool a.isNone) w:=fun w a n c n' c'=>Lib.run_eql_slice_nil w _ _ a n c n' c' Tryz.underlying23
 subst hn;cases A with
 |none=>
  obtain rfl:ps=[]:=by
   rcases Nat.eq_zero_or_pos ps.length with h0|h0
   ·exact List.eq_nil_of_length_eq_zero h0
   ·obtain ⟨_,_,e,_⟩:=hr.at_ (by simpa [qaa] using h0)
    cases e
  clear hr
  go_enter Tryz.func53,Tryz.ntmps53
  go_wp2;go_ret;exact ⟨none,0,rfl,Nat.zero_le _,World.ownsRow_nil _ _ _ _,Below.refl _ _⟩
 |some ad=>
  have HR:=qH hr;have hwl:(qaa ps).length=ps.length:=by simp [qaa]
  have HWL:=qH hwl;clear hr hwl;have hlit:(w.alloc (.cells #[] 3)).ownsRow w.heap.size 3 1 (.slice (some ⟨w.heap.size,0,none⟩) 0 0) 0 []:=World.ownsRow_made w #[] 0 (Nat.le_refl _) (Nat.zero_le _) rfl;obtain ⟨m,hm⟩:∃ m,m=ps.length:=⟨_,rfl⟩;rw [<- hm] at HWL hl;rw [<- hm];have HM:=qH hm;clear hm
  go_enter Tryz.func53,Tryz.ntmps53
  go_wp2_with (at_builtin;(refine qfJ _ rfl (.tmp 5) (.tmp 6) 23 rfl w.heap.size 3 i0 _ 1 8 Tryz.underlying23 hi0 hz0 hz1 hz2 rfl (by decide) _ 0 [] rfl hlit _ _ m c (qaa ps) rfl (by rw [HWL.out];omega) ((HR.out.below ((Below.refl _ w).alloc (Nat.le_refl _) (.cells #[] 3))).more (B':=(w.alloc (.cells #[] 3)).heap.size) (by simp)) (qt3 _) (by unfold maxLen;omega) (by omega) (by simp) ?_))
  intro v' w' hown hgrow;obtain ⟨A',c',rfl,hc',_⟩:=qaL hown;go_wp2;go_ret;refine ⟨A',c',by rw [<- HM.out];rfl,by rw [<- HM.out];exact hc',by rw [<- HM.out];simpa using hown,((Below.refl _ _).alloc (Nat.le_refl _) _).grown hgrow (by simp) (fun k hk=>by cases hk;exact Nat.le_refl _)⟩
theorem qzi {w w6:World} {x:qbc} {A1 A2 A3:Option Addr} {n1 n2 n3 c1 c2 c3:Nat} {bl:List Nat} (e1:x.ids.length=n1) (e2:x.seqs.length=n2) (e3:x.keys.length=n3) (hb:Below w.heap.size w w6) (h1:Row w6 w6.heap.size A1 (qaa x.ids)) (hc1:n1<=c1) (h2:Row w6 w6.heap.size A2 (qaa x.seqs)) (hc2:n2<=c2)
  (h3:Row w6 w6.heap.size A3 (qaJ x.keys bl)) (hbl:bl.length=x.keys.length) (hc3:n3<=c3) (hx3:c3<=maxLen) (hA3:A3=none/\x.keys=[]/\c3=0∨∃ g,A3=some ⟨g,0,none⟩)
  (hl:∀ i (h:i<x.lists.length),LAt w6 0 (bl.getD i 0) (qab (-1) x.lists[i]) x.lists[i]) (hm:qd0 x=true) (hs:qf1 x) (t1:qc3 3 w6 A1) (t2:qc3 3 w6 A2) (t3:qc3 177 w6 A3):
  qdU x w (.returned (.tuple #[.pointer (some ⟨w6.heap.size,0,none⟩),.int .i64 0])) (w6.alloc (.cells #[.slice A1 n1 c1,.slice A2 n2 c2,.slice A3 n3 c3] 110)):=by
 subst e1 e2 e3;have hal:Below w6.heap.size w6 (w6.alloc (.cells #[.slice A1 x.ids.length c1,.slice A2 x.seqs.length c2,.slice A3 x.keys.length c3] 110)):=(Below.refl _ _).alloc (Nat.le_refl _) _;have hblk:=heap_alloc_new w6 (.cells #[.slice A1 x.ids.length c1,.slice A2 x.seqs.length c2,.slice A3 x.keys.length c3] 110);refine ⟨_,rfl,⟨⟨A1,c1,A2,c2,A3,c3,hblk,hc1,hc2,Row.later h1 hal,Row.later h2 hal⟩,⟨bl,⟨by simp,hbl,A3,c3,(qeG hblk).2.2,hc3,hx3,Row.later h3 hal,hA3⟩,fun i hi=>⟨0,(hl i hi).below hal⟩⟩,hm,hs,fun B1 B2 B3 n1 d1 n2 d2 n3 d3 hB=> ?_⟩,hb.size,hb.trans (hal.mono hb.size)⟩;rw [hblk] at hB;simp only [Option.some.injEq,Obj.cells.injEq,Array.mk.injEq,List.cons.injEq,Value.slice.injEq] at hB;obtain ⟨⟨⟨rfl,_⟩,⟨rfl,_⟩,⟨rfl,_⟩,_⟩,_⟩:=hB;exact ⟨t1.below hal,t2.below hal,t3.below hal⟩
theorem qgB.rowT {w:World} {base B n c:Nat} {l:List Nm} {vs:List Nat} {A:Option Addr} (h:qgB w base B l vs) (hc:w.cell? ⟨B,0,none⟩=some (.slice A n c)):qc3 177 w A:=by
 obtain ⟨_,_,v,h3,h4⟩:=h;rw [cell_of_one h3] at hc;injection hc with hc
 subst hc;exact qjR h4
theorem qp4 (A1 A2 A3 A4:Option Addr) (n1 c1 n2 c2 n3 c3 n4 c4:Nat) (x:qbc) (w:World)
    (hx1:x.ids.length=n1) (hx2:x.seqs.length=n2) (hx3:x.keys.length=n3) (hx4:x.lists.length=n4) (hx:PAt w w.heap.size A1 A2 A3 A4 x) (fx:qgH x) (hs:qf1 x) (hm:qd0 x=true):
    Calls Tryz.prog 33 #[.agg #[.slice A1 n1 c1,.slice A2 n2 c2,.slice A3 n3 c3,.slice A4 n4 c4]] w (qdU x w):=by
  obtain ⟨i0,hi0,hz0,hz1,hz2⟩:=info_parts qw6;obtain ⟨m12,m34,_,mk,ml⟩:=qe9.1 hm;have hk:n3<=1048576:=hx3▸hs.keys;have h43:n4=n3:=by omega
  have h21:n2=n1:=by omega
  subst h43 h21;obtain ⟨V,hV⟩:∃ V:Array Value,V=#[.slice A1 n2 c1,.slice A2 n2 c2,.slice A3 n4 c3,.slice A4 n4 c4]:=⟨_,rfl⟩;obtain ⟨w1,hw1⟩:∃ w1,w1=w.alloc (.cells #[.slice A1 n2 c1,.slice A2 n2 c2,.slice A3 n4 c3,.slice A4 n4 c4] 62):=⟨_,rfl⟩;have hb1:Below w.heap.size w w1:=by rw [hw1];exact (Below.refl _ w).alloc (Nat.le_refl _) _
  have hM:=qwT A1 A2 A3 A4 n2 c1 n2 c2 n4 c3 n4 c4 x w1 hx1 hx2 hx3 hx4 (hx.later hb1) fx hk;rw [hm] at hM;have HM:=qH hM;have HB1:Hid (qca w w.heap.size V w1):=qH (by rw [hw1,hV];exact qpb w _);have HW1:=qH hw1;have HX:=qH hx;have HV:=qH hV;have H1:=qH hx1;have H2:=qH hx2;have H3:=qH hx3;have H4:=qH hx4;have HML:=qH ml;have HMK:=qH mk;have HMM:=qH hm;have HS:=qH hs;have hn2:n2<=1048576:=hx1▸hs.ids;clear hM hw1 hb1 hx fx hx1 hx2 hx3 hx4 hm mk ml m12 m34 hV hs;have QS:Hid (∀ wr,qca w w.heap.size V wr->wr.cell? ⟨w.heap.size,0,none⟩=some (.slice A1 n2 c1)/\wr.cell? ⟨w.heap.size,1,none⟩=some (.slice A2 n2 c2)/\wr.cell? ⟨w.heap.size,2,none⟩=some (.slice A3 n4 c3)/\wr.cell? ⟨w.heap.size,3,none⟩=some (.slice A4 n4 c4)):=qH fun wr h=>by
    obtain ⟨_,_,h2⟩:=h;rw [HV.out] at h2;exact qhD h2
  go_enter Tryz.func33,Tryz.ntmps33
  go_wp2_with (go_at_call 69; rw [show w.alloc _ = w1 from HW1.out.symm]; refine HM.out.mono ?_; rintro e w2 ⟨rfl, hb2⟩
               have HB2:Hid (qca w w.heap.size V w2):=qH (HB1.out.below hb2);clear hb2;obtain ⟨q0,q1,q2,q3⟩:=QS.out _ HB2.out;obtain ⟨w3,hrun,hown3,hgrow3⟩:=run_make_own (P:=Tryz.prog) w2 w.heap.size 136 116 i0 _ 1 Tryz.underlying136 hi0 hz0 hz1 .i64 .i64 n4 (by rw [hz2];omega) (by unfold maxLen;omega) HB2.out.1.size;have hb3:Below w2.heap.size w2 w3:=(Below.refl _ w2).grown hgrow3 (Nat.le_refl _) (fun k hk=>by cases hk);have HB3:Hid (qca w w.heap.size V w3):=qH (HB2.out.below hb3);have HOWN3:=qH hown3;clear hown3 hgrow3 hb3;obtain ⟨p0,p1,p2,p3⟩:=QS.out _ HB3.out)
  clear hrun q0 q1 q2 q3
  go_loopw [4,21] (fun vl i wr=>qw4 w V x.lists vl i wr) (fun _ i _=>n4-(intOf i).toNat)
  case atStart=>exact ⟨0,[],Nat.zero_le _,rfl,rfl,HOWN3.out,fun j _ hj=>by omega,HB3.out⟩
  case round=>
    obtain ⟨k,bl,hk',rfl,hmk⟩:=hrel;rw [H4.out] at hk';have hsz:=hmk.box.1.size;by_cases hlt:k<n4
    · have hkl:k<x.lists.length:=by rw [H4.out];exact hlt
      obtain ⟨b1,o1,A',c',rfl,hb1,hc1,hl1,hp1⟩:=(HX.out.lists.below hmk.box.1).at_ hkl;have f1:=HS.out.lists _ (List.getElem_mem hkl);have hk0:(0:Int)<=k:=by omega
      have hk1:(k:Int)<n4:=by omega
      have f2:=(qjS (HML.out _ (List.getElem_mem hkl))).1;obtain ⟨L,hL⟩:∃ L,L=x.lists[k]:=⟨_,rfl⟩;rw [<- hL] at hc1 hl1 hp1 f1 f2;obtain ⟨m,hm⟩:∃ m,m=L.length:=⟨_,rfl⟩;rw [<- hm] at hc1 hl1;have HP:=qH (qpg A' m c' L wr hm.symm hl1.1 hl1.2 (by omega) (hp1.more hsz) f1.2 f2);have HMKA:=qH hmk;have HKL:=qH hkl;have HL:=qH hL;clear hm f1 f2 hl1 hp1 hmk hL
      go_wp2_with (first
        | (go_at_call 70; refine HP.out.mono ?_; rintro e w5 ⟨B, rfl, hB, hb5⟩
           have HMK5:=qH (HMKA.out.below hb5);have HB5:=qH (hB.low (Nat.zero_le _));clear hB hb5)
        |(at_builtin;refine wpList_append_own _ rfl (.tmp 30) (.tmp 32) 136 rfl w.heap.size 116 i0 _ 1 8 Tryz.underlying136 hi0 hz0 hz1 hz2 rfl (by omega) _ k (qaY bl) rfl (HMK5.out.own.alloc _) ⟨w5.heap.size,0,none⟩ 1 1 [.pointer (some ⟨B,0,none⟩)] rfl rfl (qaN w5 [.pointer (some ⟨B,0,none⟩)] 116) (by intro u hu;simp at hu;subst hu;rfl) (by unfold maxLen;omega) (by omega) (by have :=HMK5.out.box.1.size;simp;omega) ?_))
      intro v' w6 hown6 hgrow6 hz6;clear hz6;have hal5:Below w5.heap.size w5 (w5.alloc (.cells #[.pointer (some ⟨B,0,none⟩)] 116)):=(Below.refl _ _).alloc (Nat.le_refl _) _;have hmk6:=(HMK5.out.below hal5).push HKL.out (B:=B) (by have :=HB5.out.below hal5;rwa [HL.out] at this) hown6 hgrow6;have HMK6:=qH hmk6;clear hal5 hmk6 hown6 hgrow6;go_wp2;go_roundw
      case rel=>exact ⟨k+1,_,by rw [H4.out];omega,by go_num,HMK6.out⟩
      case measure=>simp [intOf];omega
    · have hkn:k=n4:=by omega
      subst hkn;have hown:=hmk.own;obtain ⟨Al,cl,rfl,hcl,hrl⟩:=qaL hown;have HMKA:=qH hmk;have hbl:=hmk.len;have HBLL:Hid (bl.length=k):=qH hbl;have HD:=qH (qtH A3 Al k c3 cl x.keys bl wr ((HX.out.later hmk.box.1).keys) H3.out hk hrl hbl HMK.out);obtain ⟨q0,q1,q2,q3⟩:=QS.out _ hmk.box;clear hmk hown hrl hbl
      go_wp2_with (go_at_call 71; refine HD.out.mono ?_; rintro e w5 ⟨D, rfl, hd, hb5⟩
                   have HMK5:=qH (HMKA.out.below hb5);have HDR:=qH hd;clear hd hb5)
      obtain ⟨A5,c5,hd1,hd2,hd3,hd4,hd5⟩:=HDR.out.read;rw [H3.out] at hd1 hd2;have HT5:=qH (HDR.out.rowT hd1);have HD3:=qH hd3;have HD4:=qH hd4;have HD5:=qH hd5;have hDl:D<w5.heap.size:=by obtain ⟨_,_,v,h,_⟩:=HDR.out;exact lt_of_block h
      have HKD:Hid (∀ w',Below w5.heap.size w5 w'->(w'.cell? ⟨w.heap.size,0,none⟩=some (.slice A1 n2 c1)/\w'.cell? ⟨w.heap.size,1,none⟩=some (.slice A2 n2 c2))/\w'.cell? ⟨D,0,none⟩=some (.slice A5 k c5)):=qH fun w' h=>by
        have hq:=QS.out _ (HMK5.out.box.below h);exact ⟨⟨hq.1,hq.2.1⟩,(h.cell (p:=⟨D,0,none⟩) hDl).trans hd1⟩
      have HC1:Hid (∀ w',Below w5.heap.size w5 w'->Calls Tryz.prog 53 #[.slice A1 n2 c1] w' (qf9 x.ids w')):=qH fun w' h=>
        qig A1 n2 c1 x.ids w' H1.out ((HX.out.later (HMK5.out.box.below h).1).ids) (by omega)
      have HC2:Hid (∀ w',Below w5.heap.size w5 w'->Calls Tryz.prog 53 #[.slice A2 n2 c2] w' (qf9 x.seqs w')):=qH fun w' h=>
        qig A2 n2 c2 x.seqs w' H2.out ((HX.out.later (HMK5.out.box.below h).1).seqs) (by omega)
      have HB0:Hid (Below w5.heap.size w5 w5.drew):=qH (Below.refl _ w5).drew;have HFIN:Hid (∀ w8,Below w5.heap.size w5 w8->∀ s1 s2 B1 d1 B2 d2,w8.ownsRow s1 3 1 (.slice B1 n2 d1) n2 (qaa x.ids)->n2<=d1->w8.ownsRow s2 3 1 (.slice B2 n2 d2) n2 (qaa x.seqs)->n2<=d2->
          qdU x w (.returned (.tuple #[.pointer (some ⟨w8.heap.size,0,none⟩),.int .i64 0])) (w8.alloc (.cells #[.slice B1 n2 d1,.slice B2 n2 d2,.slice A5 k c5] 110))):=qH fun w8 h s1 s2 B1 d1 B2 d2 r1 r2 r3 r4=>
        qzi (bl:=bl) H1.out H2.out H3.out (HMK5.out.box.below h).1 (qbD r1) r2 (qbD r3) r4 (Row.later HD4.out h) (by rw [HBLL.out,H3.out]) hd2 HD3.out HD5.out (fun i hi=>(HMK5.out.at_ i hi (by have :=H4.out;omega)).below h) HMM.out HS.out (qjR r1) (qjR r3) (HT5.out.below h)
      clear hd1 hd3 hd4 hd5 hDl hd2
      go_region_held3 (fun w'=>(w'.cell? ⟨w.heap.size,0,none⟩=some (.slice A1 n2 c1)/\w'.cell? ⟨w.heap.size,1,none⟩=some (.slice A2 n2 c2))/\w'.cell? ⟨D,0,none⟩=some (.slice A5 k c5))
        (first|exact HKD.out _ HB0.out|exact HKD.out _ HB6.out|exact HKD.out _ HB7.out|exact HKD.out _ (HB7.out.alloc HB7.out.size _)|exact HKD.out _ HB8.out|exact HKD.out _ HB9.out|exact HKD.out _ (HB9.out.alloc HB9.out.size _))
        (first
          | (go_at_call 53; (with_reducible refine (HC1.out _ HB0.out).mono ?_); rintro e w6 ⟨B6, d6, rfl, hd6, hr6, hb6⟩
             have HB6:Hid (Below w5.heap.size w5 w6):=qH (HB0.out.trans hb6);rw [H1.out] at hr6 hd6;have HR6:=qH hr6;have HD6:=qH hd6;clear hr6 hb6 hd6;rw [H1.out])
          | (go_at_call 53; (with_reducible refine (HC2.out _ HB6.out).mono ?_); rintro e w7 ⟨B7, d7, rfl, hd7, hr7, hb7⟩
             have HB7:Hid (Below w5.heap.size w5 w7):=qH (HB6.out.trans (hb7.mono HB6.out.size));rw [H2.out] at hr7 hd7;have HF:=qH (HFIN.out w7 HB7.out _ _ B6 d6 B7 d7 (qak HR6.out hb7) HD6.out hr7 hd7);clear hr7 hb7 hd7;rw [H2.out])
          | (go_at_call 53; (with_reducible refine (HC2.out _ HB0.out).mono ?_); rintro e w8 ⟨B8, d8, rfl, hd8, hr8, hb8⟩
             have HB8:Hid (Below w5.heap.size w5 w8):=qH (HB0.out.trans hb8);rw [H2.out] at hr8 hd8;have HR8:=qH hr8;have HD8:=qH hd8;clear hr8 hb8 hd8;rw [H2.out])
          | (go_at_call 53; (with_reducible refine (HC1.out _ HB8.out).mono ?_); rintro e w9 ⟨B9, d9, rfl, hd9, hr9, hb9⟩
             have HB9:Hid (Below w5.heap.size w5 w9):=qH (HB8.out.trans (hb9.mono HB8.out.size));rw [H1.out] at hr9 hd9;have HF:=qH (HFIN.out w9 HB9.out _ _ B9 d9 B8 d8 hr9 hd9 (qak HR8.out hb9) HD8.out);clear hr9 hb9 hd9;rw [H1.out]))
      all_goals
        go_wp2;go_ret2;exact HF.out
theorem qp5 {l:List Int} {k:Nat} (h:k<l.length):qdC l (k:Int)=l[k]:=by
 unfold qdC;rw [if_pos ⟨by omega,by omega⟩,Int.toNat_natCast,qav h]
theorem qp6 (A A2:Option Addr) (m c m2 c2:Nat) (Ls:List (List En)) (rs:List (List Bool)) (w:World) (hS:qcO w A Ls) (hR:qdm w A2 rs) (hm:Ls.length=m) (hm2:rs.length=m2) (hmx:m<=1000) (hok:qhX Ls) (hkl:(Ls.map qaf).flatten.length<=100000) (hT:Tab w):
    Calls Tryz.prog 14 #[.slice A m c,.slice A2 m2 c2] w (qkF Ls rs w):=by
  have C37:=qH (qvA A A2 m c m2 c2 Ls rs w hS hR hm hm2 (by omega));by_cases hf:qbl Ls rs
  · have hrs:∀ s∈(qay Ls rs).map qal,qai (-1) s=true:=fun s hs=>by
      obtain ⟨L,hL,rfl⟩:=List.mem_map.1 hs;obtain ⟨K,hK,hsub⟩:=qjn (x:=(0,[],0)) hf L hL;refine qft (List.pairwise_map.2 (((hok.good K hK).2.1).sublist hsub)) fun a ha=> ?_
      obtain ⟨q,hq,rfl⟩:=List.mem_map.1 ha;have :=(hok.may K hK q (hsub.mem hq)).2;omega
    have hmm:m2=m:=by have :=(qfy.1 hf).1;omega
    subst hmm;have C38:=qH (fun w5 (hb:Below w.heap.size w w5)=>qwl A A2 m2 c c2 Ls rs w5 (hS.below hb) (hR.below hb) hf hm hmx (fun L hL=>(hok.good L hL).2.2) (hT.below hb hT.lt));have HOK:=qH hok;have HS:=qH hS;have HM:=qH hm;have HKL:=qH hkl;have HRS:=qH hrs;clear hok hS hR hm hm2 hkl hT hrs;by_cases ht:qdP ((qay Ls rs).map qal)
    · go_enter Tryz.func14,Tryz.ntmps14
      go_wp2_with (first
                | (go_at_call 37; refine (C37.out).mono ?_; rintro e w5 ⟨z, rfl, hz, hb5⟩
                   obtain rfl:z=true:=hz.2 hf;have HB5:=qH hb5;clear hb5 hz)
                | (go_at_call 38; refine (C38.out _ HB5.out).mono ?_; rintro e w6 ⟨err, o, v, hord, rfl, hown, hb6, hol⟩
                   obtain rfl:err=5:=(by
                     cases hord with
                     |bad h=>exact absurd HRS.out h
                     |twice _ _=>rfl
                     |ok _ h=>exact absurd ht h.once)
                   have HB6:=qH ((HB5.out).trans (hb6.mono (HB5.out).size));clear hord hown hb6 hol))
      go_ret2;exact .inr (.inl ⟨hf,ht,rfl,HB6.out⟩)
    · go_enter Tryz.func14,Tryz.ntmps14
      go_wp2_with (first
                | (go_at_call 37; refine (C37.out).mono ?_; rintro e w5 ⟨z, rfl, hz, hb5⟩
                   obtain rfl:z=true:=hz.2 hf;have HB5:=qH hb5;clear hb5 hz)
                | (go_at_call 38; refine (C38.out _ HB5.out).mono ?_; rintro e w6 ⟨err, o, v, hord, rfl, hown, hb6, hol⟩
                   have h0:err=0/\qcd ((qay Ls rs).map qal) o:=(by
                     cases hord with
                     |bad h=>exact absurd HRS.out h
                     |twice _ h=>exact absurd h ht
                     |ok _ h=>exact ⟨rfl,h⟩)
                   obtain ⟨rfl,hio⟩:=h0;obtain ⟨A6,c6,rfl,_,_,_⟩:=qbm hown;obtain ⟨n6,hn6⟩:∃ n6,n6=(qb4 rs o).length:=⟨_,rfl⟩;rw [<- hn6];have HN6:=qH hn6;have HIO:=qH hio;have HROW:=qH (qbD hown);have HB6:=qH ((HB5.out).trans (hb6.mono (HB5.out).size));clear hord hown hb6 hio hn6 hol))
      obtain ⟨j0,ji0,jz0,jz1,jz2⟩:=info_parts qdr;obtain ⟨E,hE0⟩:∃ E,E=qb4 rs o:=⟨_,rfl⟩;have hE:qdi Ls E:=by rw [hE0];exact qhY hf HIO.out HOK.out.good
      have hadd:qbt (qan Ls E):=by rw [hE0];exact qwn hf HIO.out HOK.out
      have hn6:E.length=n6:=by rw [hE0];exact HN6.out.symm
      have hn100:n6<=100:=by have :=hadd.few;simp only [qan,List.length_map] at this;omega
      rw [<- hE0] at HROW;obtain ⟨P,hP⟩:∃ P,P=w6.heap.size:=⟨_,rfl⟩;have hst:qkG (qan Ls E) P w6 (.int .i64 0) (w6.alloc (.cells #[.slice none 0 0,.slice none 0 0,.slice none 0 0,.slice none 0 0] 62)):=
        ⟨0,_,_,Nat.zero_le _,rfl,by rw [hP];exact heap_alloc_new w6 _,by simpa [qaa,qal] using qjB 3 1 w6.heap.size (w6.alloc _) 2,by omega,by simp,(Below.refl _ w6).alloc (Nat.le_refl _) _⟩
      have HST:=qH hst;have HE:=qH hE;have HADD:=qH hadd;have HN:=qH hn6;have HE0:=qH hE0;have HP:=qH hP;rw [<- hP];clear hst hE hadd hn6 hE0 hP
      go_loopw [10,27] (fun u10 idx wr=>qkG (qan Ls E) P w6 idx wr) (fun _ idx _=>n6-(intOf idx).toNat)
      case atStart=>exact HST.out
      case round=>
        clear HST;obtain ⟨q,v0,v1,hq,rfl,hat⟩:=hrel;by_cases hqn:q<n6
        · have hqE:q<E.length:=by rw [HN.out];exact hqn
          obtain ⟨hi,hy⟩:=(HE.out).ins _ (List.getElem_mem hqE);obtain ⟨i,hi0⟩:∃ i,i=E[q].1:=⟨_,rfl⟩;obtain ⟨y,hy0⟩:∃ y,y=E[q].2:=⟨_,rfl⟩;obtain ⟨b0,off0,rfl,hb0,r1,r2⟩:=qfW ((HROW.out).below hat.below) hqE;rw [<- hi0] at hi hy r1;rw [<- hy0] at hy r2;rw [qav hi] at hy;have hGq:q<(qan Ls E).length:=by simpa [qan] using hqE
          have hg:(qan Ls E)[q]=Ls[i][y]:=by
            simp only [qan,List.getElem_map,qa2,<- hi0,<- hy0,qav hi,qav hy]
          have htk:(qan Ls E).take (q+1)=(qan Ls E).take q++[Ls[i][y]]:=by rw [List.take_succ_eq_append_getElem hGq,hg]
          have hbw6:Below w.heap.size w w6:=HB6.out;have hSf:∀ W,Below w6.heap.size w6 W->Below w.heap.size w W:=fun W hW=>hbw6.trans (hW.mono hbw6.size)
          obtain ⟨b,off,S,rfl,hb,q1,hseg⟩:=((HS.out).below hbw6).at_ hi;have hlen:((qan Ls E).take q).length=q:=by rw [List.length_take];omega
          have hid:∀ W,Below w6.heap.size w6 W->Calls Tryz.prog 39 #[.pointer (some ⟨S,0,none⟩),.int .i64 (y:Int)] W fun e w'=>e= .returned (.int .i64 (Ls[i][y]).1)/\Below W.heap.size W w':=fun W hW=>by
            have :=quU (hseg.below hW) (y:Int);rwa [qp5 (by simpa [qac] using hy),show (qac Ls[i]).ids[y]'(by simpa [qac] using hy)=(Ls[i][y]).1 by simp [qac]] at this
          have hsq:∀ W,Below w6.heap.size w6 W->Calls Tryz.prog 40 #[.pointer (some ⟨S,0,none⟩),.int .i64 (y:Int)] W fun e w'=>e= .returned (.int .i64 (Ls[i][y]).2.2)/\Below W.heap.size W w':=fun W hW=>by
            have :=qn2 (hseg.below hW) (y:Int);rwa [qp5 (by simpa [qac] using hy),show (qac Ls[i]).seqs[y]'(by simpa [qac] using hy)=(Ls[i][y]).2.2 by simp [qac]] at this
          have him:i<m2:=by rw [<- HM.out];exact hi
          obtain ⟨a1,ha1⟩:∃ a,a=(Ls[i][y]).1:=⟨_,rfl⟩;obtain ⟨a2,ha2⟩:∃ a,a=(Ls[i][y]).2.2:=⟨_,rfl⟩;rw [<- ha1] at hid;rw [<- ha2] at hsq;have hx1:((qan Ls E).take (q+1)).map (·.1)=((qan Ls E).take q).map (·.1)++[a1]:=by rw [htk,List.map_append,ha1];rfl
          have hx2:qal ((qan Ls E).take (q+1))=qal ((qan Ls E).take q)++[a2]:=by unfold qal;rw [htk,List.map_append,ha2];rfl
          obtain ⟨xs,hxs⟩:∃ xs,xs=((qan Ls E).take q).map (·.1):=⟨_,rfl⟩;obtain ⟨ys,hys⟩:∃ ys,ys=qal ((qan Ls E).take q):=⟨_,rfl⟩;have hxl:q=xs.length:=by rw [hxs,List.length_map,hlen]
          have hyl:q=ys.length:=by rw [hys,qal,List.length_map,hlen]
          rw [<- hxs] at hat hx1;rw [<- hys] at hat hx2;obtain ⟨T,hT0⟩:∃ T,T=wr.heap.size:=⟨_,rfl⟩;obtain ⟨wy,hwy⟩:∃ wy,wy=wr.alloc (.cells #[.int .i64 (i:Int),.int .i64 (y:Int)] 88):=⟨_,rfl⟩;have hby:Below wr.heap.size wr wy:=by rw [hwy];exact (Below.refl _ wr).alloc (Nat.le_refl _) _
          have htb:wy.heap[T]?=some (.cells #[.int .i64 (i:Int),.int .i64 (y:Int)] 88 (0,0)):=by rw [hwy,hT0];exact heap_alloc_new wr _
          have hay:=hat.later hby;obtain ⟨Av,cv,e0,_,_,_⟩:=qbm hay.own0;obtain ⟨Aw,cw,e1,_,_,_⟩:=qbm hay.own1;rw [<- hxl] at e0;rw [<- hyl] at e1;subst e0 e1;have hPT:¬ T=P:=by have :=(Array.getElem?_eq_some_iff.1 hat.cell).1;omega
          have p0:=(qa7 hay.cell).1.1;obtain ⟨t0,t1⟩:=qh2 htb;have sg:=(hay.below.cell (p:=⟨b,off+i,none⟩) hb).trans q1;have HAY:=qH hay;have HTB:=qH htb;have HWY:=qH hwy;have HT0:=qH hT0;have HID:=qH hid;have HSQ:=qH hsq;have HX1:=qH hx1;have HX2:=qH hx2;have HXL:=qH hxl;have HYL:=qH hyl;have HGQ:=qH hGq;have HSC:Hid (∀ W,Below w6.heap.size w6 W->W.cell? ⟨b,off+i,none⟩=some (.pointer (some ⟨S,0,none⟩))):=qH fun W hW=>(hW.cell (p:=⟨b,off+i,none⟩) hb).trans q1
          have hq1:(q:Int)<(n6:Int):=by omega
          have hi1:(i:Int)<(m2:Int):=by omega
          clear hat hby htb hay hwy hT0 hid hsq hx1 hx2 hxl hyl hGq hxs hys ha1 ha2 htk hg hlen hSf hseg q1 hi hy hi0 hy0 hqE hbw6 him;go_wp2;rw [<- HWY.out,<- HT0.out]
          go_cut [] from 31 to 57 (fun wx=>∃ v0',qdn w6.heap.size P (xs++[a1]) ys v0' (.slice Aw q cw) w6 wx/\wx.heap[T]?=some (.cells #[.int .i64 (i:Int),.int .i64 (y:Int)] 88 (0,0)))
          case first=>
            refine wp_region_noPanic ?_
            go_region_law (first
              | (refine step_append_lies _ (by rfl) _ _ _ (by rfl) w6.heap.size 3 j0 _ 1 8 Tryz.underlying23 ji0 jz0 jz1 jz2 rfl (by omega) (.slice Av q cv) q (qaa xs) (by rfl) (by have := (HA7.out).own0; rw [<- HXL.out] at this; exact this.alloc _)
                  ⟨w7.heap.size,0,none⟩ 1 1 [.int .i64 a1] (by rfl) (by rfl) (World.news_of_block (cs:=#[.int .i64 a1]) (t:=3) (fr:=(0,0)) (heap_alloc_new w7 _)) (by intro u hu;simp at hu;subst hu;rfl)
                  (by omega) (by unfold maxLen;omega) (by omega) (by have :=(HA7.out).size;simp;omega) (w7.heap.size+1) (by simp) ?_
                 intro gg cap w8 hown8 hgrow hat8 hlt8;have hal:Below w7.heap.size w7 (w7.alloc (.cells #[.int .i64 a1] 3)):=(Below.refl _ w7).alloc (Nat.le_refl _) _;have ha7:=(HA7.out).later hal;obtain ⟨⟨c8,f8⟩,hm8⟩:=ha7.id HXL.out hown8 hgrow (fun g hg=>by
                   injection hg with hg
                   subst hg;rcases hat8 with h|h
                   · exact .inl h
                   · exact .inr (by simp;omega))
                 have ht7:=(hal.block T (Array.getElem?_eq_some_iff.1 HT7.out).1).trans HT7.out;have ht8:(w8.setCell ⟨P,0,none⟩ (.slice (some ⟨gg,0,none⟩) (q+1) cap)).heap[T]?=some (.cells #[.int .i64 (i:Int),.int .i64 (y:Int)] 88 (0,0)):=by
                   rw [Below.heap_setCell _ _ _ _ hPT,hgrow.block T (Array.getElem?_eq_some_iff.1 ht7).1 (fun e=>qah ha7.own0 ht7 (by decide) (by rw [<- e])),ht7]
                 have HM8:=qH hm8;have HT8:=qH ht8;clear hown8 hgrow hat8 hlt8 hal ha7 ht7 hm8 ht8)
              | (go_simp; go_at_call 39; (with_reducible refine (HID.out _ (HAY.out).below.drew).mono ?_); rintro e w7 ⟨rfl, hb7⟩
                 have HB7:Hid (Below wy.heap.size wy w7):=qH ((Below.refl wy.heap.size wy).drew.trans hb7);have HA7:=qH ((HAY.out).later HB7.out);have HT7:=qH (((HB7.out).block T (Array.getElem?_eq_some_iff.1 HTB.out).1).trans HTB.out);have p7:=(qa7 (HA7.out).cell).1.1;have p7A:∀ o,(w7.alloc o).cell? ⟨P,0,none⟩=some (.slice Av q cv):=fun o=>(qa7 ((HA7.out).later ((Below.refl _ w7).alloc (Nat.le_refl _) o)).cell).1.1
                 clear hb7))
            all_goals
              refine NoPanic.normal ?_
              go_wp2_with fail
              go_meet;exact ⟨_,HM8.out,HT8.out⟩
          case rest=>
            obtain ⟨v0',hac,htc⟩:=hcut;have p1:=(qa7 hac.cell).1.2.1;obtain ⟨t0c,t1c⟩:=qh2 htc;have sgc:=HSC.out _ hac.below;have HAC:=qH hac;have HTC:=qH htc;clear hac htc t0 t1 sg p0;go_wp2;refine wp_region_noPanic ?_
            go_region_law (first
              | (refine step_append_lies _ (by rfl) _ _ _ (by rfl) w6.heap.size 3 j0 _ 1 8 Tryz.underlying23 ji0 jz0 jz1 jz2 rfl (by omega) (.slice Aw q cw) q (qaa ys) (by rfl) (by have := (HA7.out).own1; rw [<- HYL.out] at this; exact this.alloc _)
                  ⟨w7.heap.size,0,none⟩ 1 1 [.int .i64 a2] (by rfl) (by rfl) (World.news_of_block (cs:=#[.int .i64 a2]) (t:=3) (fr:=(0,0)) (heap_alloc_new w7 _)) (by intro u hu;simp at hu;subst hu;rfl)
                  (by omega) (by unfold maxLen;omega) (by omega) (by have :=(HA7.out).size;simp;omega) (w7.heap.size+1) (by simp) ?_
                 intro gg cap w8 hown8 hgrow hat8 hlt8;have hal:Below w7.heap.size w7 (w7.alloc (.cells #[.int .i64 a2] 3)):=(Below.refl _ w7).alloc (Nat.le_refl _) _;have ha7:=(HA7.out).later hal;obtain ⟨⟨c8,f8⟩,hm8⟩:=ha7.seq HYL.out hown8 hgrow (fun g hg=>by
                   injection hg with hg
                   subst hg;rcases hat8 with h|h
                   · exact .inl h
                   · exact .inr (by simp;omega))
                 have ht7:=(hal.block T (Array.getElem?_eq_some_iff.1 HT7.out).1).trans HT7.out;have ht8:(w8.setCell ⟨P,1,none⟩ (.slice (some ⟨gg,0,none⟩) (q+1) cap)).heap[T]?=some (.cells #[.int .i64 (i:Int),.int .i64 (y:Int)] 88 (0,0)):=by
                   rw [Below.heap_setCell _ _ _ _ hPT,hgrow.block T (Array.getElem?_eq_some_iff.1 ht7).1 (fun e=>qah ha7.own1 ht7 (by decide) (by rw [<- e])),ht7]
                 have HM8:=qH hm8;have HT8:=qH ht8;clear hown8 hgrow hat8 hlt8 hal ha7 ht7 hm8 ht8)
              | (go_simp; go_at_call 40; (with_reducible refine (HSQ.out _ (HAC.out).below.drew).mono ?_); rintro e w7 ⟨rfl, hb7⟩
                 have HB7:Hid (Below wc.heap.size wc w7):=qH ((Below.refl wc.heap.size wc).drew.trans hb7);have HA7:=qH ((HAC.out).later HB7.out);have HT7:=qH (((HB7.out).block T (Array.getElem?_eq_some_iff.1 HTC.out).1).trans HTC.out);have p7:=(qa7 (HA7.out).cell).1.2.1;have p7A:∀ o,(w7.alloc o).cell? ⟨P,1,none⟩=some (.slice Aw q cw):=fun o=>(qa7 ((HA7.out).later ((Below.refl _ w7).alloc (Nat.le_refl _) o)).cell).1.2.1
                 clear hb7))
            all_goals
              refine NoPanic.normal ?_;have hfin:qkG (qan Ls E) P w6 (.int .i64 ((q:Int)+1)) (w8.setCell ⟨P,1,none⟩ (.slice (some ⟨gg,0,none⟩) (q+1) cap)):=
                ⟨q+1,_,_,HGQ.out,by go_num,by rw [HX1.out,HX2.out];exact HM8.out⟩
              have HFIN:=qH hfin;clear hfin;go_wp2;go_roundw
              case rel=>
                first
                  |exact HFIN.out
                  | (repeat apply Exists.intro
                     exact ⟨HFIN.out,rfl⟩)
              case measure=>simp [intOf];omega
        · have hqe:q=n6:=by have :=HN.out;simp only [qan,List.length_map] at hq;omega
          have hgl:(qan Ls E).length=n6:=by simp only [qan,List.length_map];exact HN.out
          rw [List.take_of_length_le (by omega)] at hat;obtain ⟨GG,hGG⟩:∃ GG,GG=qan Ls E:=⟨_,rfl⟩;rw [<- hGG] at hat hgl;have hl1:(GG.map (·.1)).length=n6:=by simp [hgl]
          have hl2:(qal GG).length=n6:=by simp [qal,hgl]
          have ho0:=hat.own0;have ho1:=hat.own1;rw [hl1] at ho0;rw [hl2] at ho1;obtain ⟨Av,cv,rfl,_,_,_⟩:=qbm ho0;obtain ⟨Aw,cw,rfl,_,_,_⟩:=qbm ho1;have hbw6:Below w.heap.size w w6:=HB6.out;have hbr:Below w.heap.size w wr:=hbw6.trans (hat.below.mono hbw6.size);have hadd:qbt GG:=by rw [hGG];exact HADD.out
          obtain ⟨nk,hnk⟩:∃ nk,nk=(qaf GG).length:=⟨_,rfl⟩;have hPw:w.heap.size<=P:=by rw [HP.out];exact hbw6.size
          have C41:=qxX A A6 m2 c n6 c6 Ls E wr ((HS.out).below hbr) (((HROW.out).below hat.below).more hat.below.size) HE.out HM.out HN.out hmx (by omega) HKL.out;unfold qkE at C41;rw [<- hGG,<- hnk] at C41;have hall:∀ w9 A3 c3 A4 c4 cs9,w9.ownsRow wr.heap.size 9 1 (.slice A3 nk c3) nk (qad (qaf GG))->w9.ownsRow wr.heap.size 71 1 (.slice A4 nk c4) nk cs9->LG 0 w9 ((qaf GG).map fun k=>qaj 0 GG k) cs9->Below wr.heap.size wr w9->
              Calls Tryz.prog 33 #[.agg #[.slice Av n6 cv,.slice Aw n6 cw,.slice A3 nk c3,.slice A4 nk c4]] ((w9.setCell ⟨P,2,none⟩ (.slice A3 nk c3)).setCell ⟨P,3,none⟩ (.slice A4 nk c4)) (qdU (qac GG) w):=by
            intro w9 A3 c3 A4 c4 cs9 hk hl hlg hb;have hat9:=hat.later hb;have hc9:=hat9.cell;obtain ⟨wb,hwb⟩:∃ wb,wb=(w9.setCell ⟨P,2,none⟩ (.slice A3 nk c3)).setCell ⟨P,3,none⟩ (.slice A4 nk c4):=⟨_,rfl⟩;have hkeep:∀ k,k≠P->wb.heap[k]?=w9.heap[k]?:=fun k hk=>by
              rw [hwb,Below.heap_setCell _ _ _ _ (by show k≠P;exact hk),Below.heap_setCell _ _ _ _ (by show k≠P;exact hk)]
            have hsz:wb.heap.size=w9.heap.size:=by rw [hwb];simp
            have hown:∀ {bs:Nat} {t:TypeId} {sz n:Nat} {v:Value} {xs:List Value},w9.ownsRow bs t sz v n xs->62≠t->wb.ownsRow bs t sz v n xs:=fun h ht=>qas h fun g hg=>hkeep g fun e=>qah h hc9 ht (by rw [hg,e])
            have hkg:qaq 0 w9 wb:=⟨by omega,fun k hk=>absurd hk (Nat.not_lt_zero _),fun k cs t fr hk ht=>by
              rw [hkeep k (fun e=> ?_),hk];subst e;rw [hc9] at hk;injection hk with hk
              injection hk with _ e _
              rw [<- e] at ht;exact absurd ht (by unfold PoK;decide)⟩
            have k0:=hown hat9.own0 (by decide);have k1:=hown hat9.own1 (by decide);rw [hl1] at k0;rw [hl2] at k1;have hpat:PAt wb wb.heap.size Av Aw A3 A4 (qac GG):=⟨qbD k0,qbD k1,qbD (hown hk (by decide)),⟨cs9,(hlg.keep hkg).cells,qbD (hown hl (by decide))⟩⟩;have hbb:Below w.heap.size w wb:=by
              rw [hwb];exact ((hbr.trans (hb.mono hbr.size)).setCell (p:=⟨P,2,none⟩) hPw _).setCell (p:=⟨P,3,none⟩) hPw _
            rw [<- hwb];refine (qp4 Av Aw A3 A4 n6 cv n6 cw nk c3 nk c4 (qac GG) wb hl1 hl2 hnk.symm (by rw [hnk];simp [qac]) hpat (qhQ hadd) (qj5 hadd) (qow hadd)).mono ?_;rintro e w' ⟨S,h1,h2,h3,h4⟩;exact ⟨S,h1,h2,Nat.le_trans hbb.size h3,hbb.trans (h4.mono hbb.size)⟩
          have C:=qH C41;have HALL:=qH hall;have HCELL:=qH hat.cell;have HGG:=qH hGG;clear C41 hall hat ho0 ho1 hbw6 hbr hadd hPw hgl hl1 hl2 hnk hGG hqe hq
          go_wp2_with (first
            | (go_at_call 41; refine (C.out).mono ?_; rintro e w9 ⟨A3, c3, A4, c4, rfl, hc3, hc4, hk9, ⟨cs9, hl9, hlg9⟩, hb9⟩
               have HMK:=qH ((HALL.out) w9 A3 c3 A4 c4 cs9 hk9 hl9 hlg9 hb9);obtain ⟨⟨p0,p1,p2,p3⟩,f0,f1,f2,f3⟩:=qa7 ((hb9.block _ (Array.getElem?_eq_some_iff.1 HCELL.out).1).trans HCELL.out);clear hc3 hc4 hk9 hl9 hlg9 hb9)
            | (go_at_call 33; refine (HMK.out).mono ?_; rintro e w11 ⟨S, rfl, hseg, hS, hb⟩
               have HFIN:Hid (qkF Ls rs w (.returned (.tuple #[.pointer (some ⟨S,0,none⟩),.int .i64 0])) w11):=qH (.inr (.inr ⟨hf,o,HIO.out,S,rfl,by rw [<- HE0.out,<- HGG.out];exact hseg,hS,hb⟩));clear hseg hS hb))
          go_ret2;exact HFIN.out
  · clear hS hR hm hm2 hkl hT hok
    go_enter Tryz.func14,Tryz.ntmps14
    go_wp2_with (go_at_call 37; refine (C37.out).mono ?_; rintro e w5 ⟨z, rfl, hz, hb5⟩
                 obtain rfl:z=false:=(by cases z with|true=>exact absurd (hz.1 rfl) hf|false=>rfl)
                 have HB5:=qH hb5;clear hb5 hz)
    go_ret2;exact .inl ⟨hf,rfl,HB5.out⟩
theorem qp7 (A A2:Option Addr) (m c m2 c2:Nat) (Ls:List (List En)) (rs:List (List Bool)) (g:List En) (w:World) (hS:qcO w A Ls) (hR:qdm w A2 rs) (hm:Ls.length=m) (hm2:rs.length=m2) (hmx:m<=1000) (ha:∀ L∈Ls,qbt L) (hfl:Ls.flatten.length<=25) (hT:Tab w)
  (hf:qbl Ls rs) (hn:¬ qdP ((qay Ls rs).map qal)) (hg:qb3 g) (hx:∀ x,x∈g↔∃ L∈qay Ls rs,x∈L):
  Calls Tryz.prog 14 #[.slice A m c,.slice A2 m2 c2] w (qdU (qac g) w):=
 (qp6 A A2 m c m2 c2 Ls rs w hS hR hm hm2 hmx (qp2 ha (by omega)) (Nat.le_trans (qkT ha) (by omega)) hT).mono fun e w' h=>qze h hf hn hg hx
structure qfi (E:TypeId) (w w':World):Prop where
 size:w.heap.size<=w'.heap.size
 kinds:∀ (k:Nat) (cs:Array Value) (t:TypeId) (fr:Nat × Nat),w.heap[k]?=some (.cells cs t fr)->t≠E->w'.heap[k]?=some (.cells cs t fr)
section
variable {E t:TypeId} {w w' w'':World} {S:Nat} {x:qbc}
theorem qfi.grown {base size n:Nat} {v:Value} {xs:List Value} (hv:w.ownsRow base E size v n xs) (hg:w.grownBy w' v.ownBlock):qfi E w w':=
 ⟨hg.size,fun k cs t fr hk ht=>(hg.block k (Array.getElem?_eq_some_iff.1 hk).1 (fun e=>qah hv hk ht e.symm)).trans hk⟩
theorem qkV {base size n:Nat} {v:Value} {xs:List Value} (h:w.ownsRow base t size v n xs) (hk:qfi E w w') (ht:t≠E):w'.ownsRow base t size v n xs:=
 qas h fun g hg=>by
  obtain ⟨cs',fr',hh⟩:=qd9 h hg;rw [hh,hk.kinds _ _ _ _ hh ht]
def qfj (t:TypeId):Prop:=t=110∨t=3∨t=177∨t=181∨t=5∨t=206
theorem qa4.keptN (h:qa4 w S x) (hk:qfi E w w') (hE:¬ qfj E):qa4 w' S x:=by
 have hlt:=h.lt;have hs:=hk.size;have key:∀ {t:TypeId},qfj t->∀ (k:Nat) (cs:Array Value) (fr:Nat × Nat),w.heap[k]?=some (.cells cs t fr)->w'.heap[k]?=some (.cells cs t fr):=fun {t} ht k cs fr h=>hk.kinds k cs t fr h fun e=>hE (e▸ht)
 obtain ⟨⟨A1,c1,A2,c2,A3,c3,h1,h2,h3,h4,h5⟩,⟨bl,⟨h6,h7,B,c,h8,h9,h10,h11,h12⟩,h13⟩,h14,h15,h16⟩:=h;obtain ⟨t1,t2,t3⟩:=h16 _ _ _ _ _ _ _ _ _ h1;have e3:=(qeG h1).2.2;rw [h8] at e3;simp only [Option.some.injEq,Value.slice.injEq] at e3;obtain ⟨rfl, -,rfl⟩:=e3;have g1:=key (.inl rfl) _ _ _ h1;have k1:=key (t:=3) (.inr (.inl rfl));have k2:=key (t:=177) (.inr (.inr (.inl rfl)));refine ⟨⟨A1,c1,A2,c2,B,c,g1,h2,h3,t1.row h4 hs k1,t2.row h5 hs k1⟩,⟨bl,⟨Nat.lt_of_lt_of_le h6 hs,h7,B,c,(qeG g1).2.2,h9,h10,t3.row h11 hs k2,h12⟩,fun i hi=> ?_⟩,h14,h15,fun B1 B2 B3 n1 d1 n2 d2 n3 d3 hB=> ?_⟩
 ·obtain ⟨base,h⟩:=h13 i hi
  exact ⟨base,h.kinds fun k cs t fr hk' ht=>key (by rcases ht with h|h|h<;>simp [qfj,h]) k cs fr hk'⟩
 ·rw [g1] at hB
  simp only [Option.some.injEq,Obj.cells.injEq,Array.mk.injEq,List.cons.injEq,Value.slice.injEq] at hB;obtain ⟨⟨⟨rfl,_⟩,⟨rfl,_⟩,⟨rfl,_⟩,_⟩,_⟩:=hB;exact ⟨t1.keep k1,t2.keep k1,t3.keep k2⟩
theorem qbj.keptN {base B:Nat} {r:List Bool} (h:qbj w base B r) (hk:qfi E w w') (h1:101≠E) (h2:104≠E):qbj w' base B r:=by
 obtain ⟨ws,⟨hb,v,hv,ho⟩,hr⟩:=h;exact ⟨ws,⟨hb,v,hk.kinds _ _ _ _ hv h1,qkV ho hk h2⟩,hr⟩
end
theorem qkW (g:List En) (ds:List Int) (m:Nat):(qcg g ds m).length=m:=by simp [qcg]
theorem qgQ {g:List En} {ds:List Int} {m i:Nat} (h:i<(qcg g ds m).length):(qcg g ds m)[i]=qdI ds m i g:=by simp [qcg]
theorem qp8 (ds:List Int) (m:Nat):qcg [] ds m=List.replicate m []:=by
 refine List.ext_getElem (by simp [qcg]) fun i h1 h2=> ?_
 rw [qgQ,List.getElem_replicate];rfl
theorem qp9 (g:List En) (q:En) (ds:List Int) {m:Nat}:qcg (g++[q]) ds m=(qcg g ds m).set (qcV ds m g.length) (qdI ds m (qcV ds m g.length) g++[q]):=by
 refine List.ext_getElem (by simp [qcg]) fun i h1 h2=> ?_
 rw [qgQ,qtA,List.getElem_set];by_cases e:qcV ds m g.length=i
 ·rw [if_pos e,if_pos e,e]
 ·rw [if_neg e,if_neg e,qgQ]
structure qcm (lo D m:Nat) (w0:World) (Ls:List (List En)) (vs:List Value) (xss:List (List Value)) (w:World):Prop where
 own:w.ownsRow lo 27 1 (.slice (some ⟨D,0,none⟩) m m) m vs
 len:Ls.length=m
 many:qcD 61 3 lo w vs (Ls.map List.length) xss
 nest:∀ q (h:q<Ls.length) (h2:q<xss.length),qcB enS (qcj (fun k=>k<lo) w) Ls[q] xss[q]
 below:Below lo w0 w
 size:lo<=w.heap.size
section
variable {lo D m:Nat} {w0 w w':World} {Ls:List (List En)} {vs:List Value} {xss:List (List Value)}
theorem qcm.later (h:qcm lo D m w0 Ls vs xss w) (hb:Below w.heap.size w w'):qcm lo D m w0 Ls vs xss w':=
 ⟨qak h.own hb,h.len,h.many.below hb,fun q h1 h2=>(h.nest q h1 h2).imp fun _ _ hr=>hr.keepO fun k hk=>hb.block k hk.lt,h.below.trans (hb.mono h.size),Nat.le_trans h.size hb.size⟩
theorem qcm.lt (h:qcm lo D m w0 Ls vs xss w):D<w.heap.size/\lo<=D:=by
 have :=h.own.lt D rfl;exact ⟨this.2,this.1⟩
theorem qcm.vlen (h:qcm lo D m w0 Ls vs xss w):vs.length=m:=by
 have :=h.many.len;rw [List.length_map,h.len] at this;exact this.symm
theorem qcm.xlen (h:qcm lo D m w0 Ls vs xss w):xss.length=m:=by rw [h.many.len2,h.vlen]
theorem qcm.cell (h:qcm lo D m w0 Ls vs xss w) {k:Nat} (hk:k<m):w.cell? ⟨D,k,none⟩=some (vs[k]'(by rw [h.vlen];exact hk))/\w.frozen? ⟨D,k,none⟩=false:=by
 have hv:k<vs.length:=by rw [h.vlen];exact hk
 exact ⟨by rw [h.own.cellAt k (by omega)];exact List.getElem?_eq_getElem hv,h.own.frozenAt k⟩
theorem qcm.row (h:qcm lo D m w0 Ls vs xss w) {k:Nat} (hk:k<m):w.ownsRow lo 61 3 (vs[k]'(by rw [h.vlen];exact hk)) (Ls[k]'(by rw [h.len];exact hk)).length (xss[k]'(by rw [h.xlen];exact hk)):=by
 have :=h.many.own k (by rw [h.vlen];exact hk);simpa using this
theorem qcm.push (h:qcm lo D m w0 Ls vs xss w) {k:Nat} (hk:k<m) {v':Value} {q:En} {A:Option Addr} {c:Nat} (hc:q.2.1.length<=c) (hcx:c<=maxLen) (hr:qcj (fun k=>k<lo) w A (flds q.2.1))
  (ho:w'.ownsRow lo 61 3 v' ((Ls[k]'(by rw [h.len];exact hk)).length+1) ((xss[k]'(by rw [h.xlen];exact hk))++[.int .i64 q.1,.slice A q.2.1.length c,.int .i64 q.2.2])) (hg:w.grownBy w' (vs[k]'(by rw [h.vlen];exact hk)).ownBlock)
  (hv:∀ g,v'.ownBlock=some g->(vs[k]'(by rw [h.vlen];exact hk)).ownBlock=some g∨w.heap.size<=g):
  (w'.cell? ⟨D,k,none⟩=some (vs[k]'(by rw [h.vlen];exact hk))/\w'.frozen? ⟨D,k,none⟩=false)/\
  qcm lo D m w0 (Ls.set k ((Ls[k]'(by rw [h.len];exact hk))++[q])) (vs.set k v') (xss.set k ((xss[k]'(by rw [h.xlen];exact hk))++[.int .i64 q.1,.slice A q.2.1.length c,.int .i64 q.2.2])) (w'.setCell ⟨D,k,none⟩ v'):=by
 have hvl:=h.vlen;have hxl:=h.xlen;have hll:=h.len;have hown':w'.ownsRow lo 27 1 (.slice (some ⟨D,0,none⟩) m m) m vs:=qf7 h.own (h.row hk) (by decide) hg;obtain ⟨cs,fr,hD⟩:=qd9 hown' (g:=D) rfl;have hst:=hown'.stored k v';have hm:=(h.many.grow (q:=k) (by omega) (n:=Ls[k].length+1) ho hg hv).other (i:=k) hD (by decide) v';have hbel:Below lo w w':=(Below.refl lo w).grown hg h.size fun g hg'=>(((h.row hk).lt g hg').1)
 have hset:Below lo w (w'.setCell ⟨D,k,none⟩ v'):=hbel.setCell (p:=⟨D,k,none⟩) h.lt.2 _;have hkeep:∀ {A:Option Addr} {xs:List Value},qcj (fun k=>k<lo) w A xs->qcj (fun k=>k<lo) (w'.setCell ⟨D,k,none⟩ v') A xs:=fun hr=>hr.keepO fun k hk=>hset.block k hk.1
 refine ⟨⟨by rw [hown'.cellAt k (by omega)];exact List.getElem?_eq_getElem (by omega),hown'.frozenAt k⟩,hst.1,by rw [List.length_set];exact hll,?_,fun r h1 h2=> ?_,h.below.trans (hset.mono (Nat.le_refl _)),Nat.le_trans h.size hset.size⟩
 ·have e:(Ls.set k (Ls[k]++[q])).map List.length=(Ls.map List.length).set k (Ls[k].length+1):=by rw [List.map_set];simp
  rw [e];exact hm
 ·rw [List.length_set] at h1 h2
  by_cases e:k=r
  ·subst e
   rw [List.getElem_set_self,List.getElem_set_self];exact ((h.nest k h1 h2).imp fun _ _ h=>hkeep h).snoc (q:=q) hc hcx (hkeep hr)
  ·rw [List.getElem_set_ne e,List.getElem_set_ne e]
   exact (h.nest r h1 h2).imp fun _ _ h=>hkeep h
theorem qcm.own_es (h:qcm lo D m w0 Ls vs xss w) {k:Nat} (hk:k<m):qaR (fun g=>g<w.heap.size) w (vs[k]'(by rw [h.vlen];exact hk)) (Ls[k]'(by rw [h.len];exact hk)):=
 ⟨_,qbh (h.row hk) (Nat.zero_le _),fun g hg=>((h.row hk).lt g hg).2,(h.nest k (by rw [h.len];exact hk) (by rw [h.xlen];exact hk)).imp fun _ _ hr=>hr.impS fun g hg=>Nat.lt_of_lt_of_le hg h.size⟩
end
theorem qzj {lo D m:Nat} {w0 w:World} (h:w.ownsRow lo 27 1 (.slice (some ⟨D,0,none⟩) m m) m (List.replicate m (.slice none 0 0))) (hb:Below lo w0 w) (hs:lo<=w.heap.size):
  qcm lo D m w0 (List.replicate m []) (List.replicate m (.slice none 0 0)) (List.replicate m []) w:=
 ⟨h,by simp,by simpa using qjB 61 3 lo w m,fun q h1 h2=>by simp [qcB],hb,hs⟩
end Go.Proofs.YtpehcaidjlemiaaGreatDoor
