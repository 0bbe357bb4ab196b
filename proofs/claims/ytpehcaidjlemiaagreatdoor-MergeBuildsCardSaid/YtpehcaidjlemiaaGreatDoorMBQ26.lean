import Derived.Test.YtpehcaidjlemiaaGreatDoorMBZz
import Derived.Test.YtpehcaidjlemiaaGreatDoorMBQ25
import Derived.Lib.AppendZerosOnto
import Derived.Lib.AppendZeros
import Derived.Test.YtpehcaidjlemiaaGreatDoorMBQ11
import Derived.Test.YtpehcaidjlemiaaGreatDoorMBQ04
import Derived.BigCall
import Derived.BigQuiet
import Derived.Deep.QuietTactic
import Derived.Test.YtpehcaidjlemiaaGreatDoorMBQ12
set_option maxHeartbeats 4000000
set_option maxRecDepth 100000
set_option linter.unusedVariables false
namespace Go.Proofs.YtpehcaidjlemiaaGreatDoor
open Go Go.RowKit
theorem qyh (s:List (Tm × Int)) (t:Tm):(qdb s t).length<=s.length:=by
 unfold qdb;rw [List.length_map];exact List.length_filter_le _ _
def qkN (base B Bm:Nat) (s:List (Tm × Int)) (w:World):Prop:=qbV base w B (qcI s)/\w.heap[Bm]?=some (.cells #[.map (some B)] 248 (0,0))
theorem qyi (base B Bm:Nat):qkM base 184 Bm (qkN base B Bm):=by
 refine ⟨enters_of Tryz.func184 (by kernel_rfl) rfl,fun s W W' h hb=>⟨h.1.below hb,(hb.block _ (Array.getElem?_eq_some_iff.1 h.2).1).trans h.2⟩,fun s x y a W h hbase hs=> ?_⟩;refine (qyd base B Bm (qcI s) x y a W h.1 (by simp [World.cell?,h.2]) hbase (by rw [qmj];have :=qyh s (x.data.toList,y.data.toList);omega)).mono ?_;rintro e w' ⟨rfl,h1,h2⟩;exact ⟨rfl,⟨by rw [qsO];exact h1,h2.keep _ _ _ _ h.2 (by decide)⟩,h2⟩
def qyj (l:List Fd) (w:World) (e:Ending) (w':World):Prop:=∃ B,e= .returned (.map (some B))/\qbV w.heap.size w' B (qcI (qaU l))/\Below w.heap.size w w'
theorem qyk (id:Int) (A:Option Addr) (n c:Nat) (l:List Fd) (w:World) (hl:l.length=n) (hr:qaB w w.heap.size A l) (hn:n<=100) (ht:∀ f∈l,f.2.length<=268435456) (hw:∀ f∈l,(qaM f.2).length<=1048576):
    Calls Tryz.prog 149 #[qc1 id A n c] w (qyj l w):=by
  have hmm:=@run_makeMap Tryz.prog;obtain ⟨w3,hw3⟩:∃ w3,w3=((qbH w id A n c).alloc (.map #[] 0)).alloc (.cells #[.map (some (w.heap.size+1))] 248):=⟨_,rfl⟩;have hb0:=qf4 w id A n c;have hsz:=qj2 w id A n c;have hm0:qbV (qbH w id A n c).heap.size ((qbH w id A n c).alloc (.map #[] 0)) (qbH w id A n c).heap.size []:=qbV.made _;have hb3:Below w.heap.size w w3:=by rw [hw3];exact (hb0.alloc (by omega) _).alloc (by simp;omega) _
  have hj3:qkN w.heap.size (w.heap.size+1) (w.heap.size+2) [] w3:=by
    have h1:qbV (qbH w id A n c).heap.size w3 (qbH w id A n c).heap.size []:=hm0.below (by rw [hw3];exact (Below.refl _ _).alloc (Nat.le_refl _) _);obtain ⟨m,g1,g2,g3,g4,g5⟩:=h1;rw [hsz] at g1;refine ⟨⟨m,g1,by omega,g3,?_,g5⟩,?_⟩
    · intro i e p he hp
      cases hp
    · rw [hw3]
      have :=heap_alloc_new ((qbH w id A n c).alloc (.map #[] 0)) (.cells #[.map (some (w.heap.size+1))] 248);rw [World.size_alloc,hsz] at this;exact this
  have hc3:w3.cell? ⟨w.heap.size,0,none⟩=some (.int .i64 id)/\w3.cell? ⟨w.heap.size,1,none⟩=some (.slice A n c):=qf3 (by rw [hw3];exact ((Below.refl _ _).alloc (Nat.le_refl _) _).alloc (by simp) _);have hE:=qpI w.heap.size 184 (w.heap.size+2) (qkN w.heap.size (w.heap.size+1) (w.heap.size+2)) id A n c l w3 hl (hr.below hb3) hb3.size hn ht hw (qyi _ _ _) hj3;have HE:=qH hE;have HB3:=qH hb3;have HW3:=qH hw3;obtain ⟨hc30,hc31⟩:=hc3;clear hE hb3 hw3 hj3 hr ht hw hm0 hb0
  go_enter Tryz.func149,Tryz.ntmps149
  go_wp2_with (go_at_call 106
               rw [show ((w.alloc _).alloc _).alloc _=w3 from HW3.out.symm]
               refine HE.out.mono ?_;rintro e w4 ⟨rfl,hj4,hso4⟩;have hcv:w4.cell? ⟨w.heap.size+1+1,0,none⟩=some (.map (some (w.heap.size+1))):=by have :=hj4.2;simp [World.cell?,this])
  go_ret;exact ⟨_,rfl,hj4.1,HB3.out.trans hso4.below⟩
def qfh (Bm:Nat) (s:List (Tm × Int)) (w:World):Prop:=w.heap[Bm]?=some (.cells #[.int .i64 (s.length:Int)] 3 (0,0))
theorem qyl (base Bm:Nat) (s:List (Tm × Int)) (x y:ByteArray) (a:Int) (w:World) (h:qfh Bm s w) (hb:base<=Bm) (hs:s.length<=104857600):
  Calls Tryz.prog 107 #[.agg #[.string x,.string y],.int .i64 a,.pointer (some ⟨Bm,0,none⟩)] w fun e w'=>e= .returned (.tuple #[])/\qfh Bm (s++[((x.data.toList,y.data.toList),a)]) w'/\qbW base w w':=by
 have hlt:Bm<w.heap.size:=(Array.getElem?_eq_some_iff.1 h).1;have h1:(w.alloc (.cells #[.string x,.string y] 69)).heap[Bm]?=some (.cells #[.int .i64 (s.length:Int)] 3 (0,0)):=(Below.heap_alloc w _ _ hlt).trans h;have c1:=cell_of_one h1;have f1:=free_of_one h1;obtain ⟨N,hN⟩:∃ N,N=s.length:=⟨_,rfl⟩;rw [<- hN] at h1 c1 hs;have HN:=qH hN;clear hN
 go_enter Tryz.func107,Tryz.ntmps107
 go_wp2
 go_end0
 have hw:w.heap[Bm]?=some (.cells #[.int .i64 (N:Int)] 3 (0,0)):=by rw [HN.out];exact h
 refine ⟨rfl,?_,?_,fun k cs t fr hk ht=> ?_⟩
 ·unfold qfh
  rw [Below.heap_alloc _ _ _ (by simpa using hlt),List.length_append,<- HN.out,List.length_singleton];exact one_setCell hw
 ·exact ((Below.refl base w).setCell (p:=⟨Bm,0,none⟩) hb _).alloc (by simp;omega) _
 ·have hlk:=(Array.getElem?_eq_some_iff.1 hk).1
  have hne:k≠Bm:=by
   rintro rfl;unfold qfh at h;rw [hk] at h;simp at h;exact ht h.2.1
  rw [Below.heap_alloc _ _ _ (by simpa using hlk),Below.heap_setCell _ _ _ _ hne,hk]
theorem qym (base Bm:Nat) (hb:base<=Bm):qkM base 107 Bm (qfh Bm):=
 ⟨enters_of Tryz.func107 (by kernel_rfl) rfl,fun s W W' h hb=>(hb.block _ (Array.getElem?_eq_some_iff.1 h).1).trans h,fun s x y a W h hbase hs=>qyl base Bm s x y a W h hb hs⟩
theorem qyn (id:Int) (A:Option Addr) (n c:Nat) (l:List Fd) (w:World) (hl:l.length=n) (hr:qaB w w.heap.size A l) (hn:n<=100) (ht:∀ f∈l,f.2.length<=268435456) (hw:∀ f∈l,(qaM f.2).length<=1048576):
    Calls Tryz.prog 65 #[qc1 id A n c] w fun e w'=>e= .returned (.int .i64 ((qaU l).length:Int))/\Below w.heap.size w w':=by
  obtain ⟨w3,hw3⟩:∃ w3,w3=(qbH w id A n c).alloc (.cells #[.int .i64 0] 3):=⟨_,rfl⟩;have hb0:=qf4 w id A n c;have hsz:=qj2 w id A n c;have hb3:Below w.heap.size w w3:=by rw [hw3];exact hb0.alloc (by omega) _
  have hj3:qfh (w.heap.size+1) [] w3:=by
    rw [hw3];have :=heap_alloc_new (qbH w id A n c) (.cells #[.int .i64 0] 3);rw [hsz] at this;exact this
  have hc3:w3.cell? ⟨w.heap.size,0,none⟩=some (.int .i64 id)/\w3.cell? ⟨w.heap.size,1,none⟩=some (.slice A n c):=qf3 (by rw [hw3];exact (Below.refl _ _).alloc (Nat.le_refl _) _);have hE:=qpI w.heap.size 107 (w.heap.size+1) (qfh (w.heap.size+1)) id A n c l w3 hl (hr.below hb3) hb3.size hn ht hw (qym _ _ (by omega)) hj3;have HE:=qH hE;have HB3:=qH hb3;have HW3:=qH hw3;obtain ⟨hc30,hc31⟩:=hc3;clear hE hb3 hw3 hj3 hr ht hw hb0
  go_enter Tryz.func65,Tryz.ntmps65
  go_wp2_with (go_at_call 106
               rw [show (w.alloc _).alloc _=w3 from HW3.out.symm]
               refine HE.out.mono ?_;rintro e w4 ⟨rfl,hj4,hso4⟩;have hcv:w4.cell? ⟨w.heap.size+1,0,none⟩=some (.int .i64 ((qaU l).length:Int)):=by unfold qfh at hj4;simp [World.cell?,hj4])
  go_ret;exact ⟨rfl,HB3.out.trans hso4.below⟩
theorem qyo:(Tryz.prog.info? 23).map (fun i=>(i.zero,i.size,i.bytes))=some (some (.slice none 0 0),1,24):=by kernel_rfl
def qc6 (base base':Nat) (w:World) (v:Value) (ll:List (List Int)):Prop:=∃ cs:List Value,w.ownsRow base 23 1 v ll.length cs/\cs.length=ll.length/\∀ (i:Nat) (c:Value) (l:List Int),cs[i]?=some c->ll[i]?=some l->qcl base' w c l
theorem qc6.below {base base':Nat} {w w':World} {v:Value} {ll:List (List Int)} (h:qc6 base base' w v ll) (hb:Below w.heap.size w w'):qc6 base base' w' v ll:=by
 obtain ⟨cs,h1,h2,h3⟩:=h;exact ⟨cs,qak h1 hb,h2,fun i c l hc hl=>qak (h3 i c l hc hl) hb⟩
theorem qc6.low {base base' b:Nat} {w:World} {v:Value} {ll:List (List Int)} (h:qc6 base base' w v ll) (hb:b<=base) (hb':b<=base'):qc6 b b w v ll:=by
 obtain ⟨cs,h1,h2,h3⟩:=h;exact ⟨cs,qbh h1 hb,h2,fun i c l hc hl=>qbh (h3 i c l hc hl) hb'⟩
theorem qc6.push {base base':Nat} {w w':World} {v v' u:Value} {ll:List (List Int)} {l:List Int} {cs:List Value} (h1:w.ownsRow base 23 1 v ll.length cs) (h2:cs.length=ll.length) (h3:∀ (i:Nat) (c:Value) (l:List Int),cs[i]?=some c->ll[i]?=some l->qcl base' w c l) (hu:qcl base' w u l)
  (hown:w'.ownsRow base 23 1 v' (ll.length+1) (cs++[u])) (hg:w.grownBy w' v.ownBlock):qc6 base base' w' v' (ll++[l]):=by
 have hk:∀ (c:Value) (l:List Int),qcl base' w c l->qcl base' w' c l:=fun c l ho=>ho.kept hg (qla ho h1 (by decide))
 refine ⟨cs++[u],by rw [List.length_append,List.length_singleton];exact hown,by simp [h2],fun i c l' hc hl=> ?_⟩;by_cases hi:i<cs.length
 ·rw [List.getElem?_append_left hi] at hc
  rw [List.getElem?_append_left (by omega)] at hl;exact hk _ _ (h3 i c l' hc hl)
 ·rw [List.getElem?_append_right (by omega)] at hc hl
  have hz:i-cs.length=0:=by
   by_cases hz:i-cs.length=0
   ·exact hz
   ·rw [List.getElem?_eq_none (by simp;omega)] at hc;cases hc
  rw [hz] at hc;rw [show i-ll.length=0 by omega] at hl;cases hc;cases hl;exact hk _ _ hu
def qyp (w:World) (B:Nat) (A:Option Addr) (ll:List (List Int)):Prop:=∃ cs:List Value,cs.length=ll.length/\Row w B A cs/\∀ (i:Nat) (c:Value) (l:List Int),cs[i]?=some c->ll[i]?=some l->∃ A' c',c= .slice A' l.length c'/\l.length<=c'/\Row w B A' (qaa l)
theorem qc6.rows {base base':Nat} {w:World} {v:Value} {ll:List (List Int)} (h:qc6 base base' w v ll):∃ A c,v= .slice A ll.length c/\ll.length<=c/\qyp w w.heap.size A ll:=by
 obtain ⟨cs,h1,h2,h3⟩:=h;obtain ⟨A,c,rfl,hc,hr⟩:=qaL h1;exact ⟨A,c,rfl,hc,cs,h2,hr,fun i c l hc hl=>qaL (h3 i c l hc hl)⟩
def qpJ (ts:List Tm) (ll:List (List Int)) (w:World) (e:Ending) (w':World):Prop:=∃ v1 v2,e= .returned (.tuple #[v1,v2])/\qbN w.heap.size w' v1 ts/\qc6 w.heap.size w.heap.size w' v2 ll/\Below w.heap.size w w'
def qyq (g:List Gr) (ts:List Tm) (base base':Nat) (w6:World) (o i:Value) (wr:World):Prop:=∃ (k:Nat) (vo:Value),vo=o/\k<=ts.length/\i= .int .i64 (k:Int)/\qc6 base base' wr o ((ts.take k).map (qba g))/\Below w6.heap.size w6 wr
theorem qbV.keys {base:Nat} {w:World} {B:Nat} {g:List Gr} (h:qbV base w B g):∃ m,qa6 w B m/\m.map (·.1)=g.map (·.1)/\m.length=g.length:=by
 obtain ⟨m,h1,_,h3,h4,_⟩:=h;refine ⟨m,h1,List.ext_getElem (by simp [h3]) fun i hi hj=> ?_,h3⟩;have hi':i<m.length:=by simpa using hi
 have hj':i<g.length:=by simpa using hj
 simpa using (h4 i _ _ (List.getElem?_eq_getElem hi') (List.getElem?_eq_getElem hj')).1
theorem qpK (t:Tm) (a:Int):∀ g:List Gr,(qbx g t a).length<=g.length+1
 |[]=>Nat.le_refl _
 |p::g=>by
  have :=qpK t a g;rw [qbx];split
  ·simp
  ·simp only [List.length_cons];omega
theorem qpL:∀ (s:List (Tm × Int)) (g:List Gr),(s.foldl (fun g p=>qbx g p.1 p.2) g).length<=g.length+s.length
 |[],g=>Nat.le_refl _
 |p::s,g=>by
  have h1:=qpL s (qbx g p.1 p.2);have h2:=qpK p.1 p.2 g;rw [List.foldl_cons,List.length_cons];omega
theorem qyr (s:List (Tm × Int)):(qcI s).length<=s.length:=by have :=qpL s [];simpa [qcI] using this
theorem qys {l:List Fd} (ht:∀ f∈l,f.1.length<=536870912/\f.2.length<=134217728):∀ t∈(qcI (qaU l)).map (·.1),t.1.length<=536870912/\t.2.length<=536870912:=fun t h=>by
 obtain ⟨f,hf,h1,h2⟩:=(qgr t l).1 ((qmk _ _).1 h);obtain ⟨g1,g2⟩:=ht f hf;have :=qlG h2;exact ⟨by rw [h1];exact g1,by omega⟩
theorem qyt (id:Int) (A:Option Addr) (n c:Nat) (l:List Fd) (w:World) (hl:l.length=n) (hr:qaB w w.heap.size A l) (hn:n<=100) (ht:∀ f∈l,f.1.length<=536870912/\f.2.length<=134217728) (hw:∀ f∈l,(qaM f.2).length<=1048576) (hap:qdw l) (h0:qeZ l):
    Calls Tryz.prog 104 #[qc1 id A n c] w (qpJ (qax l) ((qax l).map (qa1 l)) w):=by
  obtain ⟨i0,hi0,hz0,hz1,hz2⟩:=info_parts qyo;have HS:=qH (fun w' (h:Below w.heap.size w w')=>qyk id A n c l w' hl (hr.later h) hn (fun f hf=>by have :=(ht f hf).2;omega) hw);have hlen:=qkL (M:=1048576) l hw;have hlen2:(qaU l).length<=104857600:=Nat.le_trans hlen (Nat.le_trans (Nat.mul_le_mul_right _ (by omega:l.length<=100)) (by omega));have hgl:(qcI (qaU l)).length<=134217727:=by have :=qyr (qaU l);omega
  have HSH:=qH (qys ht);have HTS:=qH (fun (ts:List Tm)=>qsS (ts:=ts) hap h0);have HPL:Hid (∀ t,qba (qcI (qaU l)) t=qa1 l t):=qH fun t=>by rw [qmj,qmn hap]
  obtain ⟨g,hg⟩:∃ g,g=qcI (qaU l):=⟨_,rfl⟩;have HS':Hid (∀ w',Below w.heap.size w w'->Calls Tryz.prog 149 #[qc1 id A n c] w' fun e w''=>∃ B,e= .returned (.map (some B))/\qbV w'.heap.size w'' B g/\Below w'.heap.size w' w''):=qH fun w' h=>by rw [hg];exact HS.out w' h
  rw [<- hg] at hgl HSH HTS HPL;obtain ⟨w1,hw1⟩:∃ w1,w1=qbH w id A n c:=⟨_,rfl⟩;have hb1:Below w.heap.size w w1:=by rw [hw1];exact qf4 _ _ _ _ _
  have hcc:=qf3 (w:=w) (id:=id) (A:=A) (n:=n) (c:=c) (Below.refl _ _);rw [<- hw1] at hcc;obtain ⟨hc0,hc1⟩:=hcc;have HB1:=qH hb1;have HW1:=qH hw1;obtain ⟨td,htd⟩:∃ td,td=qax l:=⟨_,rfl⟩;obtain ⟨pd,hpd⟩:∃ pd,pd=qa1 l:=⟨_,rfl⟩;rw [<- htd] at HTS ⊢;rw [<- hpd] at HPL ⊢;clear HS hr ht hw hap h0 hlen hlen2 hg hb1 hw1 htd hpd
  go_enter Tryz.func104,Tryz.ntmps104
  go_wp2_with (first
    | (go_at_call 149; rw [show w.alloc _ = w1 from HW1.out.symm]
       (with_reducible refine (HS'.out w1 HB1.out).mono ?_)
       rintro e w4 ⟨B,rfl,hg4,hb4⟩;obtain ⟨m,hm,hmk,hml⟩:=hg4.keys;obtain ⟨w5,hw5⟩:∃ w5,w5=w4.alloc (.cells #[.map (some B)] 248):=⟨_,rfl⟩;have hb5:Below w4.heap.size w4 w5:=by rw [hw5];exact (Below.refl _ _).alloc (Nat.le_refl _) _
       have hc5:w5.cell? ⟨w4.heap.size,0,none⟩=some (.map (some B)):=by have :=heap_alloc_new w4 (.cells #[.map (some B)] 248);rw [<- hw5] at this;exact cell_of_one this
       have HSO:=qH (qya w4.heap.size B m w5 ((hb5.block B (Array.getElem?_eq_some_iff.1 hm).1).trans hm) hc5 (by omega) (by rw [hmk];exact HSH.out));have HG4:=qH hg4;have HB4:=qH hb4;have HB5:=qH hb5;have HW5:=qH hw5;rw [hmk] at HSO;clear hg4 hb4 hm hmk hml hw5 hb5 hc5)
    |(go_at_call 151;(with_reducible refine (qvg B w4).mono ?_);rintro e w5' ⟨rfl,rfl⟩;rw [<- HW5.out])
    | (go_at_call 150; (with_reducible refine HSO.out.mono ?_); rintro e w6 ⟨v6, ts, rfl, hp6, hs6, ho6, hb6⟩
       obtain ⟨A6,c6,rfl,hc6,hr6⟩:=ho6.row;have hts:=HTS.out ts hp6 hs6;have htl:ts.length<=134217727:=by rw [hp6.length_eq,List.length_map];exact hgl
       obtain ⟨w7,hrun,hown7,hgrow7⟩:=run_make_own (P:=Tryz.prog) w6 w6.heap.size 92 23 i0 _ 1 Tryz.underlying92 hi0 hz0 hz1 .i64 .i64 ts.length (by rw [hz2];omega) (by unfold maxLen;omega) (Nat.le_refl _);have HTD:=qH hts;have HO6:=qH ho6;have HB6:=qH hb6;have HR6:=qH hr6;clear hts hp6 hs6 ho6 hb6 hr6))
  have hb7:Below w6.heap.size w6 w7:=(Below.refl _ _).grown hgrow7 (Nat.le_refl _) (fun k hk=>by cases hk);have hs7:=hb7.size;have HB7:=qH hb7;have HO7:Hid (qc6 w6.heap.size w1.heap.size w7 (.slice (some ⟨w6.heap.size,0,none⟩) 0 ts.length) []):=qH ⟨[],hown7,rfl,fun i c l hc=>by cases hc⟩;have h46:Below w4.heap.size w4 w6:=HB5.out.trans (HB6.out.mono HB5.out.size);have h06:Below w.heap.size w w6:=HB1.out.trans ((HB4.out.trans (h46.mono HB4.out.size)).mono HB1.out.size);have hs46:=h46.size;have hs06:=h06.size;have H46:=qH h46;have H06:=qH h06;clear hrun hown7 hgrow7 hb7 h46 h06
  go_loopw [6,19] (fun o i wr=>qyq g ts w6.heap.size w1.heap.size w6 o i wr) (fun _ i _=>ts.length-(intOf i).toNat)
  case atStart=>exact ⟨0,_,rfl,by omega,rfl,HO7.out,HB7.out⟩
  case round=>
    obtain ⟨k,vo,rfl,hk,rfl,hoo,hbw⟩:=hrel;have h6r:Below w6.heap.size w6 wr:=hbw;have hs6r:=h6r.size;by_cases hlt:k<ts.length
    · obtain ⟨b1,o1,e1,hb1,hf1,hf2⟩:=(HR6.out.below h6r).at_ hlt
      subst e1;obtain ⟨x,hx,hx2⟩:=qbJ ts[k].1;obtain ⟨y,hy,hy2⟩:=qbJ ts[k].2;rw [<- hx] at hf1;rw [<- hy] at hf2;have htk:(x.data.toList,y.data.toList)=ts[k]:=Prod.ext hx2 hy2;have hsu:(ts.take (k+1)).map (qba g)=(ts.take k).map (qba g)++[qba g (x.data.toList,y.data.toList)]:=by rw [htk,List.take_succ_eq_append_getElem hlt,List.map_append];rfl
      obtain ⟨w8,hw8⟩:∃ w8,w8=wr.alloc (.cells #[.string x,.string y] 69):=⟨_,rfl⟩;have hb8:Below wr.heap.size wr w8:=by rw [hw8];exact (Below.refl _ _).alloc (Nat.le_refl _) _
      have hs8:=hb8.size;have hgr:qbV w1.heap.size w8 B g:=HG4.out.below (H46.out.trans ((h6r.trans (hb8.mono hs6r)).mono hs46));obtain ⟨u,⟨m',hm',hv'⟩,hown'⟩:=hgr.look (x.data.toList,y.data.toList);obtain ⟨cs,hcs1,hcs2,hcs3⟩:=hoo.below hb8;have hul:((ts.take k).map (qba g)).length=k:=by rw [List.length_map,List.length_take];omega
      obtain ⟨lg,hlg⟩:∃ lg,lg=qba g (x.data.toList,y.data.toList):=⟨_,rfl⟩;rw [<- hlg] at hsu hown';obtain ⟨A9,c9,hu,_,_⟩:=qaL hown';have hpush:∀ (v':Value) (w9 w10:World),Below w8.heap.size w8 w9->w10.ownsRow w6.heap.size 23 1 v' (k+1) (cs++[u])->w9.grownBy w10 vo.ownBlock->qc6 w6.heap.size w1.heap.size w10 v' ((ts.take (k+1)).map (qba g)):=fun v' w9 w10 h1 h2 h3=>by
        rw [hsu];exact qc6.push (qak hcs1 h1) hcs2 (fun i c l hc hl=>qak (hcs3 i c l hc hl) h1) (qak hown' h1) (by rw [hul];exact h2) h3
      have hcl:cs.length=k:=by rw [hcs2,hul]
      rw [hul] at hcs1;have hkl:k<=134217727:=by omega
      have i0':(0:Int)<=k:=by omega
      have i1:(k:Int)<ts.length:=by omega
      have HPU:=qH hpush;have HCS:=qH hcs1;have HM':=qH hm';have HV':=qH hv';have HU:=qH hu;have HW8:=qH hw8;have HB8:=qH hb8;have HBW:=qH hbw;clear hx hx2 hy hy2 htk hsu hw8 hb8 hgr hm' hv' hown' hoo hcs1 hcs2 hcs3 hul hlg hu hpush hbw h6r
      go_wp2_with (first
        | (refine qu4 _ (by rfl) _ _ (by rfl) B m' (x.data.toList, y.data.toList) (by rfl) (by rw [<- HW8.out]; exact HM'.out) (by rfl) ?_
           rw [HV'.out,HU.out])
        | (at_builtin; refine wpList_append_own _ rfl (.tmp 23) (.tmp 27) 92 rfl w6.heap.size 23 i0 _ 1 24 Tryz.underlying92 hi0 hz0 hz1 hz2 rfl (by omega) _ k cs rfl (by rw [<- HW8.out]; exact HCS.out.alloc _) ⟨wr.heap.size + 1, 0, none⟩ 1 1 [.slice A9 lg.length c9] rfl rfl (by have := qaN (wr.alloc (.cells #[.string x, .string y] 69)) [.slice A9 lg.length c9] 23; rwa [World.size_alloc] at this) (by intro u hu; simp at hu; subst hu; rfl) (by unfold maxLen; omega) (by omega) (by simp; omega) ?_
           intro v' w10 hown10 hg10 hz10;clear hz10))
      refine ⟨⟨k+1,v',rfl,by omega,by go_num,HPU.out v' (w8.alloc (.cells #[.slice A9 lg.length c9] 23)) w10 ((Below.refl _ _).alloc (Nat.le_refl _) _) (by rw [HU.out];exact hown10) (by rw [HW8.out];exact hg10),?_⟩,by simp [intOf];omega⟩;have h8:Below w6.heap.size w6 w8:=HBW.out.trans (HB8.out.mono hs6r);have h9:Below w6.heap.size w6 (w8.alloc (.cells #[.slice A9 lg.length c9] 23)):=h8.alloc (by omega) _;exact h9.grown (by rw [HW8.out];exact hg10) h9.size (fun j hj=>(HCS.out.lt j hj).1)
    · have hkl:k=ts.length:=by omega
      subst hkl;rw [List.take_length] at hoo;have hmap:ts.map (qba g)=td.map pd:=by rw [HTD.out];exact List.map_congr_left fun t _=>HPL.out t
      rw [hmap] at hoo;have hs5:=HB5.out.size;have hs1:=HB1.out.size;have hs4:=HB4.out.size;have HOO:=qH (hoo.low (b:=w.heap.size) (by omega) (by omega));have HOT:Hid (qbN w.heap.size wr (.slice A6 ts.length c6) td):=qH (by
        have :=(HO6.out.below h6r).low (b:=w.heap.size) (by omega);rw [<- HTD.out];exact this)
      have HBR:Hid (Below w.heap.size w wr):=qH (H06.out.trans (hbw.mono hs06));clear hoo hmap hbw h6r;go_wp2;go_ret2;exact ⟨_,_,rfl,HOT.out,HOO.out,HBR.out⟩
def qbC (a:Nat) (w:World) (k:Nat):Prop:=a<=k/\k<w.heap.size
theorem qpM {S:Nat->Prop} {w:World} {base:Nat} {A:Option Addr} {n c:Nat} {ps:List Int} (h:w.ownsRow base 3 1 (.slice A n c) n (qaa ps)) (hS:∀ k,base<=k->k<w.heap.size->S k):qaO (Of S 3 w) w A (qaa ps):=by
 rcases h.2 with ⟨hv,hn⟩|⟨g,cap,cur,hv,hg,hh,hnc,hcp,hcs,htake⟩
 ·refine .inl (List.eq_nil_of_length_eq_zero ?_)
  rw [h.1,hn]
 ·injection hv with h1 h2 h3
  subst h1;rcases qbD h with h0|⟨b,off,e,hb,hc⟩
  ·exact .inl h0
  ·injection e with e
   injection e with e1 e2
   subst e1 e2;exact .inr ⟨g,0,rfl,⟨hS g hg hb,_,_,hh,rfl⟩,hc⟩
structure qea (S:Nat->Prop) (M c i:Nat) (d:List Fd) (g:List GP) (ts:List Tm) (V1 V2:Value) (w:World) (j:Nat) (wr:World):Prop where
 map:qbs (fun k=>S k∨qbC w.heap.size wr k) wr M c (qb2 i d g (ts.take j))
 only:qbO (qfw S w M) w wr
 terms:qbN w.heap.size wr V1 ts
 stands:qc6 w.heap.size w.heap.size wr V2 (ts.map (qa1 d))
section
variable {S:Nat->Prop} {M c i:Nat} {d:List Fd} {g:List GP} {ts:List Tm} {V1 V2:Value} {w:World} {j:Nat} {wr w':World}
theorem qea.below (h:qea S M c i d g ts V1 V2 w j wr) (hb:Below wr.heap.size wr w'):qea S M c i d g ts V1 V2 w j w':=
 ⟨(h.map.keep fun k _ hk=>hb.block k hk).imp fun k hk=>hk.imp id fun hk=>⟨hk.1,Nat.lt_of_lt_of_le hk.2 hb.size⟩,h.only.trans (qbO.of_below hb),h.terms.below hb,h.stands.below hb⟩
theorem qea.places (h:qea S M c i d g ts V1 V2 w j wr) (hj:j<ts.length):∃ b off A' c',(∃ c2,V2= .slice (some ⟨b,off,none⟩) ts.length c2)/\(∃ cs fr,wr.heap[b]?=some (.cells cs 23 fr))/\wr.cell? ⟨b,off+j,none⟩=some (.slice A' (qa1 d ts[j]).length c')/\(qa1 d ts[j]).length<=c'/\c'<=maxLen/\
  qaO (Of (fun k=>S k∨qbC w.heap.size wr k) 3 wr) wr A' (qaa (qa1 d ts[j])):=by
 obtain ⟨cs,h1,h2,h3⟩:=h.stands;rw [List.length_map] at h1 h2;obtain ⟨A,c2,rfl,hc,hr⟩:=qaL h1;obtain ⟨b,off,rfl,hb,hcell⟩:=Row.at_ hr (by omega);have ho:=h3 j cs[j] (qa1 d ts[j]) (List.getElem?_eq_getElem (by omega)) (by rw [List.getElem?_map,List.getElem?_eq_getElem hj];rfl);obtain ⟨A',c',e,hr'⟩:=qeE ho;have :=hcell j cs[j] (List.getElem?_eq_getElem (by omega));rw [e] at this;unfold qcl at ho;rw [e] at ho;exact ⟨b,off,A',c',⟨c2,rfl⟩,qeH h1 rfl,this,hr'.1.1,hr'.1.2,qpM ho fun k h1 h2=> .inr ⟨h1,h2⟩⟩
theorem qea.put (h:qea S M c i d g ts V1 V2 w j wr) (hj:j<ts.length) (hM:M<w.heap.size):
  ∃ (v:Value) (n:Nat) (cs:List Value) (m:List qaE),qa8 wr M c m/\v=qcL m (qae ts[j])/\n=(qbG (qb2 i d g (ts.take j)) (qae ts[j])).length/\wr.ownsRow 0 74 2 v n cs/\
   ∀ (A':Option Addr) (c':Nat),qaO (Of (fun k=>S k∨qbC w.heap.size wr k) 3 wr) wr A' (qaa (qa1 d ts[j]))->(qa1 d ts[j]).length<=c'->c'<=maxLen->
   ∀ (gg cap:Nat) (w5:World),w5.ownsRow 0 74 2 (.slice (some ⟨gg,0,none⟩) (n+1) cap) (n+1) (cs++[.int .i64 i,.slice A' (qa1 d ts[j]).length c'])->
    (wr.drew.alloc (.cells #[.int .i64 i,.slice A' (qa1 d ts[j]).length c'] 74)).grownBy w5 v.ownBlock->(v.ownBlock=some gg∨gg=wr.heap.size+1)->gg<w5.heap.size->
    qa8 w5 M c m/\(∀ k,k<wr.heap.size->v.ownBlock≠some k->w5.heap[k]?=wr.heap[k]?)/\v.ownBlock≠some M/\
    ∀ w6,qa8 w6 M c ((qc4 m (qae ts[j])).set (qap m (qae ts[j])) (qae ts[j],.slice (some ⟨gg,0,none⟩) (n+1) cap))->w5.grownBy w6 (some M)->qea S M c i d g ts V1 V2 w (j+1) w6:=by
 have hsz:=h.only.size;obtain ⟨m,h1,h2,h3,h4,h5⟩:=h.map;have hrow:=qhK (qae ts[j]) h3 h4;obtain ⟨v,hv⟩:∃ v,v=qcL m (qae ts[j]):=⟨_,rfl⟩;rw [<- hv] at hrow;have hnm:=hrow.not_map h1;obtain ⟨cs,q1,q2,q3⟩:=id hrow;refine ⟨v,_,cs,m,h1,hv,rfl,q1,fun A' c' hpl hc' hcx gg cap w5 hown5 hg5 hat hlt5=> ?_⟩;have hal:Below wr.heap.size wr (wr.drew.alloc (.cells #[.int .i64 i,.slice A' (qa1 d ts[j]).length c'] 74)):=(Below.refl _ _).drew.alloc (Nat.le_refl _) _;have hs4:=hal.size;have hs5:=hg5.size;have hk5:∀ k,k<wr.heap.size->v.ownBlock≠some k->w5.heap[k]?=wr.heap[k]?:=fun k hk hne=>(hg5.block k (Nat.lt_of_lt_of_le hk hs4) (fun e=>hne e.symm)).trans (hal.block k hk)
 have hM5:qa8 w5 M c m:=(hk5 M (by omega) hnm).trans h1;refine ⟨hM5,hk5,hnm,fun w6 hM6 hg6=> ?_⟩;have hs6:=hg6.size;have hgM:gg≠M:=fun e=>by
  obtain ⟨cs',fr,hh⟩:=qeH hown5 rfl;rw [e] at hh;unfold qa8 at hM5;rw [hM5] at hh;cases hh
 have hk6:∀ k,k<wr.heap.size->k≠M->v.ownBlock≠some k->w6.heap[k]?=wr.heap[k]?:=fun k hk hne hne2=>(hg6.block k (by omega) (fun e=>hne (by cases e;rfl))).trans (hk5 k hk hne2)
 have hop:qbA (fun k=>S k∨qbC w.heap.size w6 k) w6 (.slice (some ⟨gg,0,none⟩) ((qbG (qb2 i d g (ts.take j)) (qae ts[j])).length+1) cap) (qbG (qb2 i d g (ts.take j)) (qae ts[j])++[((i:Int),qa1 d ts[j])]):=by
  have hup:∀ {A:Option Addr} {xs:List Value},qaO (Of (fun k=>S k∨qbC w.heap.size wr k) 3 wr) wr A xs->qaO (Of (fun k=>S k∨qbC w.heap.size w6 k) 3 (wr.drew.alloc (.cells #[.int .i64 i,.slice A' (qa1 d ts[j]).length c'] 74))) (wr.drew.alloc (.cells #[.int .i64 i,.slice A' (qa1 d ts[j]).length c'] 74)) A xs:=fun h=>(h.keepO fun k hk=>hal.block k hk.lt).imp fun k hk=>hk.imp fun hk=>hk.imp id fun hk=>⟨hk.1,by have :=hk.2;omega⟩
  have hpush:=qbA.push (S:=fun k=>S k∨qbC w.heap.size w6 k) (qak q1 hal) (q3.imp fun _ _ h=>hup h) (d:=(i:Int)) hc' hcx (hup hpl) hown5 hg5 fun k hk=>by
   rcases hat with e|e
   ·have :=q2 gg e
    simp only [Value.ownBlock,Option.some.injEq] at hk;subst hk;exact this.imp id fun hk=>⟨hk.1,by omega⟩
   ·simp only [Value.ownBlock,Option.some.injEq] at hk
    subst hk;exact .inr ⟨by omega,by omega⟩
  refine qbA.keep hpush (fun k hk=> ?_) fun k hk=> ?_
  ·simp only [Value.ownBlock,Option.some.injEq] at hk
   subst hk;exact hg6.block _ hlt5 fun e=>hgM (by cases e;rfl)
  ·refine hg6.block _ hk.lt fun e=> ?_
   cases e;obtain ⟨_,cs',fr,hh,_⟩:=hk;unfold qa8 at hM5;rw [hM5] at hh;cases hh
 refine ⟨?_,⟨?_,?_,?_,by omega,fun k hk hne=> ?_⟩,?_,?_⟩
 ·rw [qtm hj]
  refine qbs.added h1 h2 h3 h4 h5 (fun k hk=>hk.imp id fun hk=>⟨hk.1,by have :=hk.2;omega⟩) (fun k a b e=>hk6 k a b (by rw [hv];exact e)) hM6 hop ?_;rw [<- hv];rcases hat with e|e
  ·exact .inl e.symm
  ·refine .inr fun k hk=> ?_
   simp only [Value.ownBlock,Option.some.injEq] at hk;omega
 ·exact hg6.os.trans (hg5.os.trans (hal.os.trans h.only.os))
 ·exact hg6.tape.trans (hg5.tape.trans (hal.tape.trans h.only.tape))
 ·exact hg6.output.trans (hg5.output.trans (hal.output.trans h.only.output))
 ·rw [hk6 k (by omega) (fun e=>hne (.inl e)) (fun e=>hne (.inr ?_)),h.only.block k hk hne]
  obtain ⟨cs',hh⟩:=qvb q1 e;rw [h.only.block k hk hne] at hh;refine ⟨?_,cs',_,hh,rfl⟩;rcases q2 k e with hs|hs
  ·exact hs
  ·exact absurd hs.1 (by omega)
 ·refine qas h.terms fun k hk=> ?_
  have hl:=h.terms.lt k hk;exact hk6 k hl.2 (by omega) (qfm q1 h.terms (by decide) hk)
 ·obtain ⟨cs2,r1,r2,r3⟩:=h.stands
  refine ⟨cs2,qas r1 fun k hk=> ?_,r2,fun x u l hx hl=>qas (r3 x u l hx hl) fun k hk=> ?_⟩
  ·have hl:=r1.lt k hk
   exact hk6 k hl.2 (by omega) (qfm q1 r1 (by decide) hk)
  ·have hl2:=(r3 x u l hx hl).lt k hk
   exact hk6 k hl2.2 (by omega) (qfm q1 (r3 x u l hx hl) (by decide) hk)
end
def qpN (s:Nm) (w:World) (i:Value) (wr:World):Prop:=∃ k:Nat,k<=s.length/\i= .int .i64 (k:Int)/\Below w.heap.size w wr/\∀ j (hj:j<s.length),j<k->qdO s[j]=true
theorem qpO (s:ByteArray) (w:World) (hs:s.size<=9223372036854775807):
  Calls Tryz.prog 60 #[.string s] w fun e w'=>e= .returned (.bool (qbq s.data.toList))/\Below w.heap.size w w':=by
 have hsz:s.data.toList.length=s.size:=Array.length_toList;obtain ⟨z,hz⟩:∃ z,z=qbq s.data.toList:=⟨_,rfl⟩;rw [<- hz];have HZ:=qH hz;clear hz
 go_enter Tryz.func60,Tryz.ntmps60
 go_wp2
 go_loopw [2,3] (fun r i wr=>r= .bool false/\qpN s.data.toList w i wr) (fun _ i _=>s.size-(intOf i).toNat)
 case atStart=>exact ⟨rfl,0,by omega,rfl,Below.refl _ _,fun j _ hj=>by omega⟩
 case round=>
  obtain ⟨rfl,k,hk,rfl,hbw,hall⟩:=hrel;rw [hsz] at hk;by_cases hlt:k<s.size
  ·have hkl:k<s.data.toList.length:=by omega
   have i0:(0:Int)<=k:=by omega
   have i1:(k:Int)<s.size:=by omega
   have hb:s[k]=s.data.toList[k]:=rfl;cases hsm:qdO s.data.toList[k] with
   |true=>
    have h2:=hsm;rw [qdO,<- hb,Bool.and_eq_true,decide_eq_true_iff,decide_eq_true_iff] at h2;have j1:(97:Int)<=s[k].toNat:=by omega
    have j2:(s[k].toNat:Int)<=122:=by omega
    have HN:Hid (∀ j (hj:j<s.data.toList.length),j<k+1->qdO s.data.toList[j]=true):=qH fun j hj hjk=>by
     by_cases e:j=k
     ·subst e;exact hsm
     ·exact hall j hj (by omega)
    have HSZ:=qH hsz;clear hall hsm h2 hb hsz;go_wp2;go_roundw
    case rel=>exact ⟨rfl,k+1,by have :=HSZ.out;omega,by go_num,hbw,HN.out⟩
    case measure=>simp [intOf];omega
   |false=>
    have h2:=hsm;rw [qdO,<- hb,Bool.and_eq_false_iff,decide_eq_false_iff_not,decide_eq_false_iff_not] at h2;have hbad:z=false:=by rw [HZ.out];exact ql5 hkl hsm
    subst hbad;have j1:(s[k].toNat:Int)<97∨(97:Int)<=s[k].toNat/\(122:Int)<s[k].toNat:=by omega
    clear hall hsm h2 hb hsz;rcases j1 with j1|⟨j1,j2⟩
    all_goals
     go_wp2;go_ret;exact ⟨rfl,hbw⟩
  ·have e:=ql6 (s:=s.data.toList) (fun j hj=>hall j hj (by omega))
   rw [hsz,<- HZ.out] at e;clear hall hsz;by_cases g1:1<=s.size
   ·by_cases g2:s.size<=12
    ·have d1:(decide (1<=s.size)&&decide (s.size<=12))=true:=by simp [g1,g2]
     rw [d1] at e;subst e;clear d1;go_wp2;go_ret;exact ⟨qfl (decide_eq_true (by omega)),hbw⟩
    ·have d1:(decide (1<=s.size)&&decide (s.size<=12))=false:=by simp [g2]
     have g3:12<s.size:=by omega
     rw [d1] at e;subst e;clear d1 g2;go_wp2;go_ret;exact ⟨qfl (decide_eq_false (by omega)),hbw⟩
   ·have d1:(decide (1<=s.size)&&decide (s.size<=12))=false:=by simp [g1]
    have g3:s.size<1:=by omega
    rw [d1] at e;subst e;clear d1 g1;go_wp2;go_ret;exact ⟨rfl,hbw⟩
theorem qyu (s:ByteArray) (w:World) (hs:s.size<=268435456):
  Calls Tryz.prog 102 #[.string s] w (qeU (qaM s.data.toList) w):=by
 obtain ⟨i0,hi0,hz0,hz1,hz2⟩:=info_parts qlR;have hwl:=qlF s.data.toList;have hsz:s.data.toList.length=s.size:=Array.length_toList;rw [hsz] at hwl
 go_enter Tryz.func102,Tryz.ntmps102
 go_wp2_with (go_at_call 144;refine (qsn s _ (by omega)).mono ?_)
 rintro e w1 ⟨v,rfl,hown,hb⟩;obtain ⟨A,c,rfl,_,hrow⟩:=qaL hown;obtain ⟨ws,hl⟩:∃ ws,ws=qaM s.data.toList:=⟨_,rfl⟩;rw [<- hl] at hrow hwl;rw [<- hl];have FIN:Hid (∀ e w',qeU ws w e w'->qeU (qaM s.data.toList) w e w'):=by rw [<- hl];exact fun _ _ h=>h
 have HB:=qH hb;have HR:=qH hrow;clear hl hb hown hrow;go_wp2
 go_loopw [2,3,5,6] (fun a b o i wr=>qlS ws w1 a b o i wr) (fun _ _ _ i _=>ws.length-(intOf i).toNat)
 case atStart=>exact ⟨0,_,rfl,rfl,rfl,Nat.zero_le _,by omega,rfl,World.ownsRow_nil _ _ _ _,Below.refl _ _,rfl⟩
 case round=>
  obtain ⟨k,vo,rfl,rfl,rfl,hk,hk5,rfl,hown,hbw,her⟩:=hrel;by_cases hlt:k<ws.length
  ·obtain ⟨b1,o1,e1,_,hc1⟩:=qiv (HR.out.below hbw) hlt
   subst e1;have hat:=qlQ hlt;have htk:=qlP hlt;obtain ⟨tx,htx⟩:∃ tx:ByteArray,tx=⟨ws[k].toArray⟩:=⟨_,rfl⟩;have htl:ws[k].length=tx.size:=by rw [htx];simp [ByteArray.size]
   rw [<- htx] at hc1 htk;rw [htl,her] at hat;clear htx htl her;have HTK:=qH htk;clear htk;have hszj:=hbw.size;by_cases h30:30<tx.size
   ·rw [if_pos h30] at hat
    have HAT:=qH hat;clear hat;go_wp2;go_ret2;exact FIN.out _ _ ⟨_,by rw [HAT.out];rfl,fun h=>by rw [HAT.out] at h;omega,fun _=>rfl,HB.out.trans (hbw.mono HB.out.size)⟩
   ·rw [if_neg h30] at hat
    by_cases h500:k=500
    ·rw [if_pos (by omega)] at hat
     have HAT:=qH hat;subst h500;clear hat;go_wp2;go_ret2;exact FIN.out _ _ ⟨_,by rw [HAT.out];rfl,fun h=>by rw [HAT.out] at h;omega,fun _=>rfl,HB.out.trans (hbw.mono HB.out.size)⟩
    ·rw [if_neg (by omega)] at hat
     have HAT:=qH hat;clear hat;have h5:(k:Int)<500:=by omega
     have h5':¬ (500:Int)<=k:=by omega
     go_wp2_with (at_builtin;refine wpList_append_own _ rfl (.tmp 23) (.tmp 30) 187 rfl w1.heap.size 245 i0 _ 2 24 Tryz.underlying187 hi0 hz0 hz1 hz2 rfl (by omega) _ k (qdN 0 (ws.take k)) rfl (hown.alloc _) ⟨wr.heap.size,0,none⟩ 1 1 [.string tx,.int .i64 k] rfl rfl (qaN wr [.string tx,.int .i64 k] 245) (by intro u hu;simp at hu;rcases hu with hu|hu<;>(subst hu;rfl)) (by unfold maxLen;omega) (by omega) (by simp;omega) ?_)
     intro v' w5 hown5 hgrow5 _;have hbw5:=(hbw.alloc (by omega) _).grown hgrow5 (by simp;omega) (fun j hj=>(hown.lt j hj).1);rw [<- HTK.out] at hown5;clear hgrow5;go_wp2;go_roundw
     case rel=>exact ⟨k+1,_,rfl,rfl,rfl,by omega,by omega,by go_num,hown5,hbw5,HAT.out.symm⟩
     case measure=>simp [intOf];omega
  ·have hkl:k=ws.length:=by omega
   have her0:qbE 0 ws=0:=by rw [<- her,List.drop_of_length_le (by omega)];rfl
   rw [hkl,List.take_length] at hown;have HE:=qH her0;clear her her0 hkl;go_wp2;go_ret2;exact FIN.out _ _ ⟨_,by rw [HE.out];rfl,fun _=>qbh hown HB.out.size,fun h=>absurd HE.out h,HB.out.trans (hbw.mono HB.out.size)⟩
theorem qkO:∀ {ws:List Nm} {i:Nat},qbE i ws=0->i<=500->i+ws.length<=500
 |[],i,_,h=>by simpa using h
 |w::ws,i,h,hi=>by
  rw [qbE] at h;split at h
  ·omega
  ·split at h
   ·omega
   ·have :=qkO h (by omega)
    simp only [List.length_cons];omega
def qeN (l:List Fd) (k:Nat):List Nm:=(l.take k).map (·.1)
theorem qpP {l:List Fd} {k:Nat} (hk:k<l.length):qeN l (k+1)=qeN l k++[l[k].1]:=by
 unfold qeN;rw [List.take_succ_eq_append_getElem hk,List.map_append];rfl
theorem qyv {l:List Fd} {k j:Nat} (hk:k<=l.length) (hj:j<k):(l[j]'(by omega)).1∈qeN l k:=by
 refine List.mem_map.2 ⟨l[j]'(by omega),?_,rfl⟩;have h:j<(l.take k).length:=by rw [List.length_take];omega
 have :=List.getElem_mem h;rwa [List.getElem_take] at this
theorem qyw {l:List Fd} {k:Nat} (hk:k<=l.length) {x:Nm} (h:∀ j (hj:j<l.length),j<k->l[j].1≠x):x∉qeN l k:=fun hx=>by
 obtain ⟨f,hf,rfl⟩:=List.mem_map.1 hx;obtain ⟨j,hj,rfl⟩:=List.getElem_of_mem hf;rw [List.length_take] at hj;rw [List.getElem_take] at h;exact h j (by omega) (by omega) rfl
theorem qpQ {seen:List Nm} {n k:Nat} {l:List Fd} (hk:k<l.length):qda seen n (l.drop k)=
  if qbq l[k].1=false then 4 else if l[k].1∈seen then 5 else if qbE 0 (qaM l[k].2)≠0 then qbE 0 (qaM l[k].2) else qda (seen++[l[k].1]) (n+(qaM l[k].2).length) (l.drop (k+1)):=by
 rw [List.drop_eq_getElem_cons hk,qda]
def qpR (l:List Fd) (E:Int) (w1:World) (r a i:Value) (wr:World):Prop:=
 r= .int .i64 0/\∃ k m:Nat,k<=l.length/\m<=k*500/\a= .int .i64 (m:Int)/\i= .int .i64 (k:Int)/\Below w1.heap.size w1 wr/\qda (qeN l k) m (l.drop k)=E
def qyx (l:List Fd) (k:Nat) (wr:World) (r i:Value) (wi:World):Prop:=
 r= .int .i64 0/\∃ j:Nat,j<=k/\i= .int .i64 (j:Int)/\Below wr.heap.size wr wi/\∀ i (hi:i<l.length) (hk:k<l.length),i<j->l[i].1≠l[k].1
theorem qyy (id:Int) (A:Option Addr) (n c:Nat) (l:List Fd) (w:World) (hl:l.length=n) (hr:qaB w w.heap.size A l) (hn:n<=1073741824) (ht:∀ f∈l,f.1.length<=1073741824/\f.2.length<=268435456):
  Calls Tryz.prog 61 #[qc1 id A n c] w fun e w'=>e= .returned (.int .i64 (qbf l))/\Below w.heap.size w w':=by
 obtain ⟨R,hR⟩:∃ R,R=qbf l:=⟨_,rfl⟩;rw [<- hR];have HRR:=qH hR;have HR:=qH hr;have HT:=qH ht;have HB1:Hid (∀ w1,w1=qbH w id A n c->∀ wr,Below w1.heap.size w1 wr->Below w.heap.size w wr/\wr.cell? ⟨w.heap.size,0,none⟩=some (.int .i64 id)/\wr.cell? ⟨w.heap.size,1,none⟩=some (.slice A n c)):=qH fun w1 e wr h=>by subst e;exact ⟨qot h,qf3 h⟩
 clear hR hr ht;by_cases h8:8<n
 ·have hR7:R=7:=by rw [HRR.out,qbf,if_pos (by omega)]
  subst hR7;have HB0:=qH (HB1.out _ rfl _ (Below.refl _ _)).1
  go_enter Tryz.func61,Tryz.ntmps61
  go_wp2;go_ret;exact ⟨rfl,HB0.out⟩
 ·have hn8:n<=8:=by omega
  have HE:Hid (qda (qeN l 0) 0 (l.drop 0)=R):=qH (by rw [HRR.out,qbf,if_neg (by omega)];rfl);clear h8;subst hl
  go_enter Tryz.func61,Tryz.ntmps61
  go_wp2;obtain ⟨w1,hw1⟩:∃ w1,w1=qbH w id A l.length c:=⟨_,rfl⟩;have HB2:=qH (HB1.out w1 hw1);rw [show w.alloc _=w1 from hw1.symm]
  clear hw1 HB1
  go_loopw [2,3,4,5,6,7,8] (fun r a i n j t e wr=>qpR l R w1 r a i wr) (fun _ _ i _ _ _ _ _=>l.length-(intOf i).toNat)
  case atStart=>exact ⟨rfl,0,0,by omega,by omega,rfl,rfl,Below.refl _ _,HE.out⟩
  case round=>
   obtain ⟨rfl,k,m,hk,hm,rfl,rfl,hbw,hgo⟩:=hrel;obtain ⟨hb0,a0,a1⟩:=HB2.out _ hbw;by_cases hlt:k<l.length
   ·obtain ⟨b1,o1,e1,hb1,hc1,hc2⟩:=(HR.out.below hb0).at_ hlt
    subst e1;rw [qpQ hlt] at hgo;have ht8:=HT.out _ (List.getElem_mem hlt);obtain ⟨x,hx,hx2⟩:=qbJ l[k].1;obtain ⟨y,hy,hy2⟩:=qbJ l[k].2;rw [<- hx] at hc1;rw [<- hy] at hc2;have i0:(0:Int)<=k:=by omega
    have i1:(k:Int)<l.length:=by omega
    have N1:=fun w'=>qpO x w' (by rw [hx,qeY];have :=ht8.1;omega)
    rw [hx2] at N1;have T1:=fun w'=>qyu y w' (by rw [hy,qeY];exact ht8.2)
    rw [hy2] at T1;have HX:=qH (And.intro hx hx2);clear hx hx2 hy hy2 ht8;have HB0:=qH hb0;clear hb0;cases hnm:qbq l[k].1 with
    |false=>
     rw [hnm] at N1 hgo;rw [if_pos rfl] at hgo;subst hgo;have HN1:=qH N1;clear N1 T1 hnm
     go_wp2_with (go_at_call 60;(with_reducible refine (HN1.out _).mono ?_);rintro e w2 ⟨rfl,hb2⟩)
     go_ret;exact ⟨rfl,HB0.out.trans (hb2.mono HB0.out.size)⟩
    |true=>
     rw [hnm] at N1 hgo;rw [if_neg (by decide)] at hgo;have HN1:=qH N1;have HT1:=qH T1;have HGO:=qH hgo;clear N1 T1 hnm hgo
     go_wp2_with (go_at_call 60;(with_reducible refine (HN1.out _).mono ?_);rintro e w2 ⟨rfl,hb2⟩)
     have hbw2:=hbw.trans (hb2.mono hbw.size);have HC:Hid (∀ wi,Below w2.heap.size w2 wi->Below w.heap.size w wi/\wi.cell? ⟨w.heap.size,1,none⟩=some (.slice (some ⟨b1,o1,none⟩) l.length c)/\wi.cell? ⟨b1,o1+k*2,none⟩=some (.string x)/\wi.cell? ⟨b1,o1+k*2+1,none⟩=some (.string y)/\∀ j (hj:j<l.length),wi.cell? ⟨b1,o1+j*2,none⟩=some (.string ⟨l[j].1.toArray⟩)):=qH fun wi h=>by
      have h2:=hbw2.trans (h.mono hbw2.size);have h3:=HB2.out _ h2;have hs1:=(HB2.out _ (Below.refl _ _)).1.size;have h4:=(hb2.mono (by have :=hbw.size;omega:w.heap.size<=wr.heap.size)).trans (h.mono (by have :=hbw2.size;omega));refine ⟨h3.1,h3.2.2,(h4.cell (p:=⟨b1,o1+k*2,none⟩) hb1).trans hc1,(h4.cell (p:=⟨b1,o1+k*2+1,none⟩) hb1).trans hc2,fun j hj=> ?_⟩;obtain ⟨b',o',e',_,g,_⟩:=(HR.out.below h3.1).at_ hj;injection e' with e'
      injection e' with e1 e2
      subst e1 e2;exact g
     have HBW2:=qH hbw2;clear hb2 hbw2 hc1 hc2 a0 a1 hbw;go_wp2
     go_loopw [2,6] (fun r i wi=>qyx l k w2 r i wi) (fun _ i _=>k-(intOf i).toNat)
     case atStart=>exact ⟨rfl,0,by omega,rfl,Below.refl _ _,fun _ _ _ h=>by omega⟩
     case round=>
      obtain ⟨rfl,j,hj,rfl,hbi,hne⟩:=hrel;obtain ⟨hb0,a1,hc1,hc2,hcs⟩:=HC.out _ hbi;by_cases hjk:j<k
      ·have hjl:j<l.length:=by omega
       have hcj:=hcs j hjl;clear hcs;obtain ⟨z,hz,hz2⟩:=qbJ l[j].1;rw [<- hz] at hcj;have j0:(0:Int)<=j:=by omega
       have j1:(j:Int)<l.length:=by omega
       have j2:(j:Int)<k:=by omega
       by_cases he:l[j].1=l[k].1
       ·have t1:=qiP (s:=z) (t:=x) (by rw [hz2,HX.out.2];exact he)
        have hR5:R=5:=by rw [<- HGO.out,if_pos (by rw [<- he];exact qyv hk hjk)]
        subst hR5;have HB0':=qH hb0;clear he hz hz2 hne hb0;go_wp2
        go_quiet (fail)
        go_wp2;go_ret;exact ⟨rfl,HB0'.out.trans ((qhN _ _).mono HB0'.out.size)⟩
       ·have t1:=qiQ (s:=z) (t:=x) (by rw [hz2,HX.out.2];exact he)
        have HNE:Hid (∀ i (hi:i<l.length) (hk:k<l.length),i<j+1->l[i].1≠l[k].1):=qH fun i hi hk hij=>by
         by_cases e:i=j
         ·subst e;exact he
         ·exact hne i hi hk (by omega)
        clear he hz hz2 hne hb0;go_wp2
        go_quiet (fail)
        go_wp2;exact ⟨⟨rfl,j+1,by omega,by go_num,hbi.trans ((qhN _ _).mono hbi.size),HNE.out⟩,by simp [intOf];omega⟩
      ·have hjk':j=k:=by omega
       subst hjk';have hgo:=HGO.out;rw [if_neg (qyw hk fun i hi hij=>hne i hi hlt hij)] at hgo;obtain ⟨ws,hws⟩:∃ ws,ws=qaM l[j].2:=⟨_,rfl⟩;have HT2:Hid (∀ w',Calls Tryz.prog 102 #[.string y] w' (qeU ws w')):=qH (by rw [hws];exact HT1.out);rw [<- hws] at hgo;have HB0':=qH hb0;clear hne hcs hb0 hws HGO HT1
       go_wp2_with (go_at_call 102;refine (HT2.out _).mono ?_)
       rintro e w3 ⟨v,rfl,h1,h2,hb3⟩;have HBI:=qH (HB0'.out.trans (hb3.mono HB0'.out.size));have HBJ:=qH (hbi.trans (hb3.mono hbi.size));by_cases hz:qbE 0 ws=0
       ·obtain ⟨A3,c3,rfl⟩:∃ A3 c3,v= .slice A3 ws.length c3:=by
         rcases (h1 hz).2 with ⟨hv,hn⟩|⟨g,cap,cur,hv,_⟩
         ·exact ⟨none,0,by rw [hn];exact hv⟩
         ·exact ⟨_,_,hv⟩
        have hw5:=qkO hz (by omega);rw [if_neg (by rw [hz];decide),<- qpP hlt] at hgo;have HGO2:=qH hgo;rw [hz];have hm5:m<=4000:=by omega
        have hwn:ws.length<=500:=by omega
        clear h1 h2 hz hgo hb3;go_wp2;refine ⟨⟨rfl,j+1,m+ws.length,by omega,by omega,?_,by go_num,HBW2.out.trans (HBJ.out.mono HBW2.out.size),HGO2.out⟩,by simp [intOf];omega⟩
        push_cast
        rfl
       ·rw [if_pos hz] at hgo
        obtain ⟨E,hE⟩:∃ E,E=qbE 0 ws:=⟨_,rfl⟩;rw [<- hE] at hgo hz;rw [<- hE];subst hgo;have hv:=h2 (by rw [<- hE];exact hz);subst hv;clear h1 h2 hb3 hE;go_wp2;go_ret;exact ⟨rfl,HBI.out⟩
   ·have hkl:k=l.length:=by omega
    subst hkl;rw [List.drop_length,qda] at hgo;have HB0:=qH hb0;clear hb0;by_cases h5:500<m
    ·rw [if_pos h5] at hgo
     subst hgo;go_wp2;go_ret;exact ⟨rfl,HB0.out⟩
    ·rw [if_neg h5] at hgo
     subst hgo;have h5':m<=500:=by omega
     clear h5;go_wp2;go_ret;exact ⟨rfl,HB0.out⟩
end Go.Proofs.YtpehcaidjlemiaaGreatDoor
