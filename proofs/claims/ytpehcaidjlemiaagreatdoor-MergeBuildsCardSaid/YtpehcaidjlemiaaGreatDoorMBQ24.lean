import Derived.Test.YtpehcaidjlemiaaGreatDoorMBZz
import Derived.Test.YtpehcaidjlemiaaGreatDoorMBQ09
import Derived.Test.YtpehcaidjlemiaaGreatDoorMBQ17
import Derived.Test.YtpehcaidjlemiaaGreatDoorMBQ23
import Derived.Test.YtpehcaidjlemiaaGreatDoorMBQ15
import Derived.Test.YtpehcaidjlemiaaGreatDoorMBQ20
import Derived.Test.YtpehcaidjlemiaaGreatDoorMBQ19
import Derived.Deep.RegionHeld3
import Derived.Deep.AppendLies
import Derived.Deep.RegionLaw
import Derived.Test.YtpehcaidjlemiaaGreatDoorMBQ16
import Derived.Test.YtpehcaidjlemiaaGreatDoorMBQ08
set_option linter.unusedSimpArgs false
set_option maxHeartbeats 4000000
set_option maxRecDepth 100000
set_option linter.unusedVariables false
namespace Go.Proofs.YtpehcaidjlemiaaGreatDoor
open Go Go.RowKit
attribute [local go_sem] Oper.semAt_some
def qkE (Ls:List (List En)) (E:List Pl) (w:World) (e:Ending) (w':World):Prop:=∃ A3 c3 A4 c4,e= .returned (.tuple #[.slice A3 (qaf (qan Ls E)).length c3,.slice A4 (qaf (qan Ls E)).length c4])/\((qaf (qan Ls E)).length<=c3/\c3<=maxLen)/\((qaf (qan Ls E)).length<=c4/\c4<=maxLen)/\
 w'.ownsRow w.heap.size 9 1 (.slice A3 (qaf (qan Ls E)).length c3) (qaf (qan Ls E)).length (qad (qaf (qan Ls E)))/\(∃ cs,w'.ownsRow w.heap.size 71 1 (.slice A4 (qaf (qan Ls E)).length c4) (qaf (qan Ls E)).length cs/\LG 0 w' ((qaf (qan Ls E)).map fun k=>qaj 0 (qan Ls E) k) cs)/\Below w.heap.size w w'
structure qfg (Ls:List (List En)) (E:List Pl) (A:Option Addr) (w:World) (m c D PB k:Nat) (wr:World):Prop where
 grid:qa5 (qfu Ls E) w D m (PB+1) k wr
 lbox:wr.heap[w.heap.size]?=some (.cells #[.slice A m c] 29 (0,0))
 pbox:wr.heap[PB]?=some (.cells #[.slice (some ⟨D,0,none⟩) m m] 92 (0,0))
 dlt:D=w.heap.size+1
 pb:D<PB
def qxW (Ls:List (List En)) (E:List Pl) (A:Option Addr) (w:World) (m c D PB:Nat) (idx:Value) (wr:World):Prop:=∃ k:Nat,idx= .int .i64 (k:Int)/\qfg Ls E A w m c D PB k wr
theorem qfg.later {Ls:List (List En)} {E:List Pl} {A:Option Addr} {w wr w':World} {m c D PB k:Nat} (h:qfg Ls E A w m c D PB k wr) (hb:Below wr.heap.size wr w'):qfg Ls E A w m c D PB k w':=
 ⟨h.grid.later hb,(hb.block _ (Array.getElem?_eq_some_iff.1 h.lbox).1).trans h.lbox,(hb.block _ (Array.getElem?_eq_some_iff.1 h.pbox).1).trans h.pbox,h.dlt,h.pb⟩
theorem qfg.put {Ls:List (List En)} {E:List Pl} {A:Option Addr} {w wr w':World} {m c D PB k n:Nat} {v:Value} (h:qfg Ls E A w m c D PB k wr) (hk:k<m) (hb:Below wr.heap.size wr w') (hkL:k<Ls.length) (hn:n=Ls[k].length) (ho:w'.ownsRow wr.heap.size 3 1 v n (qaa (qbS E (k:Int) n))):
  w'.cell? ⟨D,k,none⟩=some qa3/\w'.frozen? ⟨D,k,none⟩=false/\qfg Ls E A w m c D PB (k+1) (w'.setCell ⟨D,k,none⟩ v):=by
 have hlo:PB+1<=wr.heap.size:=(Array.getElem?_eq_some_iff.1 h.pbox).1;have hl:(qbS E (k:Int) n).length=n:=qe5 ..;obtain ⟨c5,f5,Av,cv,rfl,g1,g2,hrn,hup⟩:=h.grid.put (v:=v) (s:=qbS E (k:Int) n) hk hlo hb (fun hk2=>by rw [qnN hkL,hn]) (by rw [hl];exact ho);have h2:=h.later hb;exact ⟨c5,f5,hup,(Below.heap_setCell _ _ _ _ (by have :=h.dlt;show w.heap.size≠D;omega)).trans h2.lbox,(Below.heap_setCell _ _ _ _ (by have :=h.pb;show PB≠D;omega)).trans h2.pbox,h.dlt,h.pb⟩
theorem qxX (A A2:Option Addr) (m c q c2:Nat) (Ls:List (List En)) (E:List Pl) (w:World) (hS:qcO w A Ls) (hr:Row w w.heap.size A2 (plc E)) (hE:qdi Ls E) (hm:Ls.length=m) (hq:E.length=q) (hmx:m<=1000) (hqx:q<=1000000) (hkl:(Ls.map qaf).flatten.length<=100000):
    Calls Tryz.prog 41 #[.slice A m c,.slice A2 q c2] w (qkE Ls E w):=by
  obtain ⟨i0,ii0,iz0,iz1,iz2⟩:=info_parts qjA;obtain ⟨j0,jj0,jj1,jj2,jj3⟩:=info_parts qkk;refine (callsIn_wide (n:=6)).1 ?_;obtain ⟨w0,hw0⟩:∃ w0,w0=w.alloc (.cells #[.slice A m c] 29):=⟨_,rfl⟩;have hb0:Below w.heap.size w w0:=by rw [hw0];exact (Below.refl _ w).alloc (Nat.le_refl _) _
  have hs0:w0.heap.size=w.heap.size+1:=by rw [hw0];simp
  have hl0:w0.heap[w.heap.size]?=some (.cells #[.slice A m c] 29 (0,0)):=by rw [hw0];exact heap_alloc_new w _
  obtain ⟨w1,hrun,hown1,hgrow1⟩:=run_make_full (P:=Tryz.prog) w0 w0.heap.size 92 23 i0 _ 1 Tryz.underlying92 ii0 iz0 iz1 .i64 .i64 m (by rw [iz2];omega) (by unfold maxLen;omega) (Nat.le_refl _);have hrep:(madeCells (Value.slice none 0 0).cells (m*1)).toList=List.replicate m qa3:=by
    rw [show (Value.slice none 0 0).cells=#[.slice none 0 0] from rfl,toList_madeCells_one,Nat.mul_one]
  rw [hrep] at hown1;have hb1:Below w0.heap.size w0 w1:=(Below.refl _ w0).grown hgrow1 (Nat.le_refl _) (fun k hk=>by cases hk);have hD1:w0.heap.size<w1.heap.size:=(hown1.lt _ rfl).2;obtain ⟨D,hD⟩:∃ D,D=w0.heap.size:=⟨_,rfl⟩;obtain ⟨PB,hPB⟩:∃ PB,PB=w1.heap.size:=⟨_,rfl⟩;rw [<- hD] at hrun hown1;obtain ⟨w2,hw2⟩:∃ w2,w2=w1.alloc (.cells #[.slice none 0 0] 92):=⟨_,rfl⟩;obtain ⟨w3,hw3⟩:∃ w3,w3=w2.setCell ⟨PB,0,none⟩ (.slice (some ⟨D,0,none⟩) m m):=⟨_,rfl⟩;have hb2:Below w1.heap.size w1 w2:=by rw [hw2];exact (Below.refl _ w1).alloc (Nat.le_refl _) _
  have hp2:w2.heap[PB]?=some (.cells #[.slice none 0 0] 92 (0,0)):=by rw [hw2,hPB];exact heap_alloc_new w1 _
  have hst:qfg Ls E A w m c D PB 0 w3:=by
    have hbw:Below w.heap.size w w2:=hb0.trans ((hb1.mono (by omega)).trans (hb2.mono (Nat.le_trans hb0.size hb1.size)));have ho2:w2.ownsRow w.heap.size 23 1 (.slice (some ⟨D,0,none⟩) m m) m (List.replicate m qa3):=qbh (qak hown1 hb2) (show w.heap.size<=D by omega);have ho3:=qas (w':=w3) ho2 fun g hg=>by
      have e:g=D:=by injection hg with hg;exact hg.symm
      rw [hw3];exact Below.heap_setCell _ _ _ _ (by show g≠PB;omega)
    refine ⟨qa5.begin2 ho3 (by omega) (by rw [qnM,hm]) ?_,?_,?_,by omega,by omega⟩
    · rw [hw3];exact hbw.setCell (p:=⟨PB,0,none⟩) (by show w.heap.size<=PB;omega) _
    · rw [hw3,Below.heap_setCell _ _ _ _ (by show w.heap.size≠PB;omega),hb2.block _ (by omega),hb1.block _ (by omega),hl0]
    · rw [hw3];simpa using heap_setCell_same w2 PB 0 _ _ (.slice (some ⟨D,0,none⟩) m m) hp2
  have l0:w0.cell? ⟨w.heap.size,0,none⟩=some (.slice A m c):=cell_of_one hl0;have p2:w2.cell? ⟨PB,0,none⟩=some (.slice none 0 0):=cell_of_one hp2;have p3:w2.frozen? ⟨PB,0,none⟩=false:=free_of_one hp2;have l3:w3.cell? ⟨w.heap.size,0,none⟩=some (.slice A m c):=cell_of_one hst.lbox;have l2:w2.cell? ⟨w.heap.size,0,none⟩=some (.slice A m c):=cell_of_one (by rw [hb2.block _ (by omega),hb1.block _ (by omega),hl0]);have n1:¬ w.heap.size=PB:=by omega
  have n2:¬ PB=w.heap.size:=by omega
  have HST:=qH hst;have HS:=qH hS;have HR:=qH hr;have HE:=qH hE;have HM:=qH hm;have HQ:=qH hq;have HKL:=qH hkl;have HW0:=qH hw0;have HW2:=qH hw2;have HW3:=qH hw3;have HPB:=qH hPB;clear hst hS hr hE hm hq hkl hown1 hgrow1 hrep hb0 hb1 hb2 hp2 hl0 hw0 hw2 hw3 hD1 hPB hs0 hD;refine callsIn_of_wp_marks Tryz.func41 rfl trivial ?_ rfl;simp only [Tryz.ntmps41,List.size_toArray,List.length_cons,List.length_nil,Nat.reduceAdd,Nat.reduceSub,Array.replicate_succ,Array.replicate_zero,List.push_toArray,List.append_toArray,List.nil_append,List.cons_append];refine wpIn_wide.2 ?_
  go_wp2_with (first|rw [<- HW0.out]|rw [<- HW2.out,<- HPB.out])
  rw [<- HW3.out]
  go_loopw [7,8,22] (fun u7 u8 idx wr=>qxW Ls E A w m c D PB idx wr) (fun _ _ idx _=>m-(intOf idx).toNat)
  case atStart=>exact ⟨0,rfl,HST.out⟩
  case round=>
    clear HST l0 p2 p3 l3 l2 hrun;obtain ⟨k,rfl,htr⟩:=hrel;obtain ⟨_,_,hbw,hkm0⟩:=htr.grid.low;by_cases hkm:k<m
    · have hk1:k<Ls.length:=by rw [HM.out];exact hkm
      obtain ⟨b,off,S,rfl,hb,q1,hseg⟩:=(HS.out).at_ hk1;have r1:=(hbw.cell (p:=⟨b,off+k,none⟩) hb).trans q1;have hsegw:=hseg.below hbw;obtain ⟨n,hn⟩:∃ n,n=Ls[k].length:=⟨_,rfl⟩;have hC:∀ W,Below wr.heap.size wr W->Calls Tryz.prog 20 #[.pointer (some ⟨S,0,none⟩)] W fun e w'=>e= .returned (.int .i64 (n:Int))/\Below W.heap.size W w':=fun W hW=>by
        have :=qjT (hsegw.below hW);rwa [qoB,<- hn] at this
      have hn1:n<=1000:=by rw [hn];exact ((HE.out).good _ (List.getElem_mem hk1)).2.2
      have hP:∀ W,Below wr.heap.size wr W->Calls Tryz.prog 83 #[.slice A2 q c2,.int .i64 (k:Int),.int .i64 (n:Int)] W (qhB E (k:Int) n W):=fun W hW=>
        qnE A2 q c2 n E (k:Int) W (((HR.out).below (hbw.trans (hW.mono hbw.size))).more (hbw.trans (hW.mono hbw.size)).size) (HQ.out) hqx (HE.out).nodup hn1
      have l1:=cell_of_one htr.lbox;have p1:=cell_of_one htr.pbox;have HC:=qH hC;have HP:=qH hP;have HT:=qH htr;have HN:=qH hn;have HK1:=qH hk1;have HPL:Hid (∀ W,Below wr.heap.size wr W->W.cell? ⟨PB,0,none⟩=some (.slice (some ⟨D,0,none⟩) m m)):=qH fun W hW=>cell_of_one (htr.later hW).pbox
      have hi1:(k:Int)<(m:Int):=by omega
      have hi0:(0:Int)<=(k:Int):=by omega
      clear htr hbw hseg hsegw hC hP q1 hkm0 hn hn1;go_wp2;refine wp_region_noPanic ?_
      go_region_law (first
        | (go_simp; go_at_call 20; (with_reducible refine (HC.out _ (Below.refl _ _).drew).mono ?_); rintro e w5 ⟨rfl, hb5⟩
           have HB5:Hid (Below wr.heap.size wr w5):=qH ((Below.refl wr.heap.size wr).drew.trans hb5);have p5:=HPL.out _ HB5.out;clear hb5)
        | (go_simp; go_at_call 83; (with_reducible refine (HP.out _ HB5.out).mono ?_); rintro e w6 ⟨v, rfl, hown6, hb6⟩
           obtain ⟨Av,cv,rfl,_,_,_⟩:=qbm hown6;have HB6:Hid (Below wr.heap.size wr w6):=qH ((HB5.out).trans (hb6.mono (HB5.out).size));have p6:=HPL.out _ HB6.out;obtain ⟨c6,f6,ht6⟩:=(HT.out).put hkm HB6.out HK1.out HN.out (qbh hown6 (HB5.out).size);have HT6:=qH ht6;clear hown6 hb6 ht6))
      all_goals
        refine NoPanic.normal ?_;go_wp2;go_roundw
        case rel=>exact ⟨k+1,by go_num,HT6.out⟩
        case measure=>simp [intOf];omega
    · have hkm2:k=m:=by omega
      subst hkm2;obtain ⟨w4,hw4⟩:∃ w4,w4=(wr.alloc (.cells #[.slice none 0 0] 40)).alloc (.cells #[.slice none 0 0] 41):=⟨_,rfl⟩;have hb4:Below wr.heap.size wr w4:=by rw [hw4];exact ((Below.refl _ wr).alloc (Nat.le_refl _) _).alloc (by simp) _
      have hk4:w4.heap[wr.heap.size]?=some (.cells #[.slice none 0 0] 40 (0,0)):=by rw [hw4];exact (Below.heap_alloc _ _ _ (by simp)).trans (heap_alloc_new wr _)
      have hl4:w4.heap[wr.heap.size+1]?=some (.cells #[.slice none 0 0] 41 (0,0)):=by
        rw [hw4];have :=heap_alloc_new (wr.alloc (.cells #[.slice none 0 0] 40)) (.cells #[.slice none 0 0] 41);simpa using this
      have hB4:Below w.heap.size w w4:=hbw.trans (hb4.mono hbw.size);have l4A:∀ y z,((wr.alloc y).alloc z).cell? ⟨w.heap.size,0,none⟩=some (.slice A k c):=fun y z=>by
        have hlt:=(Array.getElem?_eq_some_iff.1 htr.lbox).1;exact ((((Below.refl _ wr).alloc (Nat.le_refl _) y).alloc (by simp) z).cell (p:=⟨w.heap.size,0,none⟩) hlt).trans (cell_of_one htr.lbox)
      have C84:=qH (qxN A k c Ls w4 ((HS.out).below hB4) HM.out hmx HKL.out);have hnl:(qb5 Ls).length<=1048576:=by
        have :=qgm (Ls.map qaf).flatten [];have h2:=HKL.out;unfold qb5 qbw;simp only [List.length_nil,Nat.add_zero] at this;omega
      have HNL:=qH hnl;have HT:=qH htr;have HW4:=qH hw4;have HB4:=qH hb4;have HB4w:=qH hB4;have HK4:=qH hk4;have HL4:=qH hl4;clear htr hb4 hB4 hk4 hl4 hw4 hnl hbw hkm hkm0
      go_wp2_with (first
        | (go_at_call 84; rw [<- HW4.out]; refine (C84.out).mono ?_; rintro e w5 ⟨B, Gs, vs, rfl, hdr, hown5, hb5⟩
           have C85:=qH (qxP B 0 0 (qb5 Ls) Gs w5 w5 hdr (Below.refl _ _) HNL.out (by omega));have HO5:=qH hown5;have HB5:=qH hb5;clear hdr hown5 hb5)
        | (go_at_call 85; refine (C85.out).mono ?_; rintro e w6 ⟨D6, rfl, hD6, hrest, hb6, hz6⟩
           rw [Int.toNat_zero,List.drop_zero,List.drop_zero] at hrest))
      obtain ⟨hvl,A6,c6,hblk,hnc,hcm,hrow6⟩:=hrest;have hs5:w5.heap.size<=w6.heap.size:=hb6.size;have HTL:=qH (qxQ 5 w5.heap.size D6 c6 A6 (qb5 Ls) Gs w6 (by omega) hs5 hvl hblk hnc hcm hrow6 HNL.out);obtain ⟨KB,hKB⟩:∃ KB,KB=wr.heap.size:=⟨_,rfl⟩;obtain ⟨LB,hLB⟩:∃ LB,LB=KB+1:=⟨_,rfl⟩;have hb46:Below w4.heap.size w4 w6:=(HB5.out).trans (hb6.mono (HB5.out).size);have hk6:w6.heap[KB]?=some (.cells #[.slice none 0 0] 40 (0,0)):=by
        rw [hKB,hb46.block _ (Array.getElem?_eq_some_iff.1 HK4.out).1,HK4.out]
      have hl6:w6.heap[LB]?=some (.cells #[.slice none 0 0] 41 (0,0)):=by
        rw [hLB,hKB,hb46.block _ (Array.getElem?_eq_some_iff.1 HL4.out).1,HL4.out]
      have hKlt:=(Array.getElem?_eq_some_iff.1 hk6).1;have hLlt:=(Array.getElem?_eq_some_iff.1 hl6).1;have hbr6:Below wr.heap.size wr w6:=(HB4.out).trans (hb46.mono (HB4.out).size);have hbw6:Below w.heap.size w w6:=(HB4w.out).trans (hb46.mono (HB4w.out).size);have hw0K:w.heap.size<=KB:=by rw [hKB];exact (HT.out).grid.low.2.2.1.size
      have HB5w:=(HO5.out).below hb6;have hin:qcP Ls E 0 KB LB w6 [] w6:=⟨qc5.refl _,_,_,[],hk6,hl6,by omega,Nat.le_refl _,by rw [List.length_nil,qjP];exact World.ownsRow_nil _ _ _ _,by unfold qc2;rw [List.length_nil,qjP];exact World.ownsRow_nil _ _ _ _,by unfold qc2;rw [List.length_nil,qjP];exact LG.nil⟩;have HIN:=qH hin;have HK6:=qH hk6;have HL6:=qH hl6;have HKLT:=qH hKlt;have HLLT:=qH hLlt;have HR6:=qH hbr6;have HW6:=qH hbw6;have HW0K:=qH hw0K;have HO6:=qH HB5w;have HVL:=qH hvl;have HROW6:=qH hrow6;have HKB:=qH hKB;have HLB:=qH hLB;have HS5:=qH hs5;have hput:∀ (W:World) (l:Nat) (o o':Obj),w6.heap.size<=l->W.heap[l]?=some o->o.isCells=false->qcF A6 (qaJ (qb5 Ls) Gs) W (W.putObj l o'):=fun W l o o' hl ho hc=>
        qcF.of_row' hrow6 (by simp) fun g off e hg=>World.putObj_heap_other (by omega)
      have hstay:∀ W W',W.heap.size<=W'.heap.size->(∀ k,k<w6.heap.size->k≠KB->k≠LB->W'.heap[k]?=W.heap[k]?)->qcF A6 (qaJ (qb5 Ls) Gs) W W':=fun W W' h1 h2=>qxV hvl hrow6 hs5 hk6 hl6 h1 h2
      have HSTAY:=qH hstay;clear hstay;clear hvl hblk hnc hcm hrow6 hKB hLB hb46 hk6 hl6 hKlt hLlt hbr6 hbw6 hw0K hin C84 C85 HO5 HB5 HK4 HL4 hs5 hb6 hz6 HB5w HW4 l4A;rw [<- HKB.out]
      try rw [<- HLB.out]
      refine (wpIn_wide (n:=6)).1 ?_;refine qkq (by omega) (gf:=136) (lb:=#[.pointer (some ⟨D6,0,none⟩)]) rfl (enters_of Tryz.func136 (by kernel_rfl) rfl)
        HTL.out (fun hb=>hb) (fun {A B k o} hk hmv ho hnc=>(hmv.block k (Array.getElem?_eq_some_iff.1 ho).1).trans ho)
        (fun h k=>h.trans k) hput (fun _=>rfl)
        (qcP Ls E 0 KB LB w6) (fun _ _ _=>False)
        (fun s A' B' h hmv=>h.later hmv (Nat.le_of_lt HKLT.out))
        (fun s=>qcP.firm (Nat.zero_le _) HKLT.out HLLT.out)
        (fun c s W l o o' _ _ _ h=>h)
        (fun s x=>qat.okP _ _ _ _ _) HIN.out ?a1 ?assign ?body ?done ?stop
      case assign=>
        intro lp x W K' hK';unfold qeK;gi_wp2;exact hK'
      case body=>
        rintro lp pre x W ⟨hX,v3,v4,cs,hk,hl,hg⟩ ⟨hlt,hx,hy⟩;have hbr:Below wr.heap.size wr W:=(HR6.out).trans (HKB.out▸hX.below);have hbw:Below w.heap.size w W:=(HW6.out).trans (hX.below.mono HW0K.out);have hO6:qd4 w4.heap.size (qb5 Ls) Gs (qbd Ls) vs w6:=HO6.out;obtain ⟨Ao,co,ho1,ho2,ho3⟩:=hO6.read hlt;rw [<- hx,<- hy] at ho1;rw [<- hx] at ho2 ho3;have gW:=hX.kind HK6.out HL6.out ho1 (by decide) (by decide);have hoW:=qas (w':=W) ho2 fun g hg=>by
          obtain ⟨cs',fr',hh⟩:=qd9 ho2 hg;rw [hX.kind HK6.out HL6.out hh (by decide) (by decide),hh]
        obtain ⟨key,qaS⟩:∃ key,key=x.1:=⟨_,rfl⟩;obtain ⟨G,hG⟩:∃ G,G=x.2:=⟨_,rfl⟩;obtain ⟨X,hXX⟩:∃ X:ByteArray,X=⟨key.toArray⟩:=⟨_,rfl⟩;rw [<- qaS] at ho1 gW hoW hx ho3;rw [<- hG] at gW;have hML:(qbd Ls key).length<=k:=by
          have h1:=List.length_filter_le (fun i=>decide (key∈qaf (Ls.getD i []))) (List.range Ls.length);rw [List.length_range] at h1;have h2:=HM.out;have h3:(qbd Ls key).length<=Ls.length:=h1;omega
        have hrow:=qbD hoW;obtain ⟨M,hM⟩:∃ M,M=(qbd Ls key).length:=⟨_,rfl⟩;rw [<- hM] at gW hML;have cG:=cell_of_one gW;have hst1:qkD Ls E key 0 W (.slice none 0 0) (.int .i64 0) W:=⟨0,[],Nat.zero_le _,rfl,World.ownsRow_nil _ _ _ _,by rw [List.take_zero];exact LG.nil,Below.refl _ _⟩;have HST1:=qH hst1;have HGW:=qH hg;have HKX:=qH hX;have HCK:=qH hk;have HCL:=qH hl;have HBR:=qH hbr;have HBW:=qH hbw;have HROW:=qH hrow;have HMM:=qH hM;have HKEY:=qH qaS;have HXX:=qH hXX;have HLT:=qH hlt;have HHX:=qH hx;clear hX hk hl hg hx hy hbr hbw ho1 ho2 ho3 gW hoW hrow hO6 hst1 hM;rw [<- qaS,<- hG,<- hXX];clear qaS hG hXX;gi_wp2
        gi_loopw [13,15,46] (fun v13 u15 idx wx=>qkD Ls E key 0 W v13 idx wx) (fun _ _ idx _=>M-(intOf idx).toNat)
        case atStart=>exact HST1.out
        case round=>
          clear HST1;obtain ⟨j,cs5,hj,rfl,hown,hlg,hbx⟩:=hrel;obtain ⟨wx,hwx⟩:∃ wx,wx=wr:=⟨_,rfl⟩;rw [<- hwx] at hown hlg hbx ⊢;clear hwx;by_cases hjm:j<M
          · have hjl:j<(qbd Ls key).length:=by rw [<- HMM.out];exact hjm
            obtain ⟨i,hi⟩:∃ i,i=(qbd Ls key)[j]:=⟨_,rfl⟩;have hmem:i∈qbd Ls key:=by rw [hi];exact List.getElem_mem hjl
            obtain ⟨hi1,_⟩:=qfV.1 hmem;have hrW:Row W W.heap.size Ao (qaa (qcE (qbd Ls key))):=HROW.out;obtain ⟨bo,oo,rfl,hbo,qo⟩:=qcv (hrW.below hbx) (k:=j) (by simpa [qcE] using hjl);have hni:(qcE (qbd Ls key))[j]'(by simpa [qcE] using hjl)=(i:Int):=by simp [qcE,hi]
            rw [hni] at qo;obtain ⟨b,off,S,rfl,hb,q1,hseg⟩:=((HS.out).below HBW.out).at_ hi1;have htW:=(HT.out).later HBR.out;have hpl:i<(qfu Ls E).length:=by rw [qnM];exact hi1
            obtain ⟨bD,oD,Ap,cp,e,hbD,qp,⟨hp1,hp2⟩,hprow⟩:=htW.grid.all.at_ hpl;injection e with e
            injection e with e1 e2
            subst e1 e2;rw [qnN hi1 hpl] at qp hp1 hprow;obtain ⟨nL,hnL⟩:∃ nL,nL=Ls[i].length:=⟨_,rfl⟩;obtain ⟨hgood,hgr,hL1⟩:=(HE.out).good _ (List.getElem_mem hi1);rw [qe5] at qp hp1;rw [<- hnL] at qp hp1 hprow;obtain ⟨lp,hlp⟩:∃ lp,lp=qaj 0 Ls[i] key:=⟨_,rfl⟩;have hlpl:lp.length<=1000:=by
              have :=qgw hgood (key:=key) Ls[i] 0 (fun q hq=>hq);rw [hlp];omega
            have hlpi:∀ q∈lp,0<=q.1/\q.1<(nL:Int):=by rw [hlp,hnL];exact qxS hgood hL1
            obtain ⟨nP,hnP⟩:∃ nP,nP=lp.length:=⟨_,rfl⟩;have hC1:∀ W',Below W.heap.size W W'->Calls Tryz.prog 27 #[.pointer (some ⟨S,0,none⟩),.string X] W' (qe6 lp W'):=fun W' hW=>by
              have :=qxw (hseg.below hW) X;rwa [show X.data.toList=key by rw [HXX.out],qtv,<- hlp] at this
            have hmv:qcK (qbS E (i:Int) nL) lp=qdh E i lp:=quB hlpi;have hpart:(qcW Ls E key (qbd Ls key)).take (j+1)=(qcW Ls E key (qbd Ls key)).take j++[qdh E i lp]:=by
              rw [List.take_succ_eq_append_getElem (by simpa [qcW] using hjl)];congr 2;simp only [qcW,List.getElem_map,<- hi,qav hi1,hlp]
            have hC2:∀ (A5:Option Addr) (c5:Nat) (W':World),Below W.heap.size W W'->qb9 0 W' A5 lp->Calls Tryz.prog 86 #[.slice A5 nP c5,.slice Ap nL cp] W' (qf0 (qaW 0 3 W') (qdh E i lp) W'):=fun A5 c5 W' hW hp=>by
              obtain ⟨pcs,p1,p2⟩:=hp;have :=quz (qaW 0 3 W') pcs A5 Ap nP c5 nL cp lp (qbS E (i:Int) nL) W' p1 p2.row ((hprow.below hW).more hW.size) hnP.symm (qe5 ..) (by omega) (by omega) hlpi;rwa [hmv] at this
            have hSS:∀ W',Below W.heap.size W W'->W'.cell? ⟨w.heap.size,0,none⟩=some (.slice (some ⟨b,off,none⟩) k c)/\W'.cell? ⟨b,off+i,none⟩=some (.pointer (some ⟨S,0,none⟩))/\W'.cell? ⟨PB,0,none⟩=some (.slice (some ⟨D,0,none⟩) k k)/\W'.cell? ⟨D,i,none⟩=some (.slice Ap nL cp):=fun W' hW=>
              ⟨cell_of_one (htW.later hW).lbox,(hW.cell (p:=⟨b,off+i,none⟩) hb).trans q1,cell_of_one (htW.later hW).pbox,by simpa using (hW.cell (p:=⟨D,0+i,none⟩) hbD).trans qp⟩
            have hik:i<k:=by rw [<- HM.out];exact hi1
            have HSS:=qH hSS;have HC1:=qH hC1;have HC2:=qH hC2;have HBX:=qH hbx;have HOW5:=qH hown;have HLG5:=qH hlg;have HPT:=qH hpart;have HNP:=qH hnP;have HJ:=qH hj;have hjM:(j:Int)<(M:Int):=by omega
            have hik1:(i:Int)<(k:Int):=by omega
            have hW0:w.heap.size<=W.heap.size:=(HBW.out).size;have hWx:W.heap.size<=wx.heap.size:=hbx.size;have hML1:j<=1000:=by omega
            clear hown hlg hbx hpart hSS hC1 hC2 hprow hseg htW hmv hlpi hgood hgr hlp hnL q1 qp hi hmem hi1 hni hrW hj hL1 hnP hpl hlpl;gi_wp2;refine qh4 (S:=fun w'=>w'.cell? ⟨w.heap.size,0,none⟩=some (.slice (some ⟨b,off,none⟩) k c)/\w'.cell? ⟨b,off+i,none⟩=some (.pointer (some ⟨S,0,none⟩))/\w'.cell? ⟨PB,0,none⟩=some (.slice (some ⟨D,0,none⟩) k k)/\w'.cell? ⟨D,i,none⟩=some (.slice Ap nL cp)) (by kernel_rfl) (by kernel_rfl) (HSS.out _ (HBX.out).drew) (fun hHeld=> ?_)
            (refine wpAnyH_take (i:=0) (v:= ?_) rfl (by kernel_rfl) (by kernel_rfl) (by kernel_rfl) (fun _ _ _ h=>h) (Or.inl ⟨by rfl,?_⟩) (by assumption) ?_;rotate_left;next=>(intro wz hSw;go_simp;first|done|with_reducible rfl))
            try simp only [Act.put,zA,zB,zC,zD,zE,zF]
            (refine wpAnyH_take (i:=1) (v:= ?_) rfl (by kernel_rfl) (by kernel_rfl) (by kernel_rfl) (fun _ _ _ h=>h) (Or.inl ⟨by rfl,?_⟩) (by assumption) ?_;rotate_left;next=>(intro wz hSw;go_simp;first|done|with_reducible rfl))
            try simp only [Act.put,zA,zB,zC,zD,zE,zF]
            (refine wpAnyH_take (i:=2) (v:= ?_) rfl (by kernel_rfl) (by kernel_rfl) (by kernel_rfl) (fun _ _ _ h=>h) (Or.inl ⟨by rfl,?_⟩) (by assumption) ?_;rotate_left;next=>(intro wz hSw;go_simp;first|done|with_reducible rfl))
            try simp only [Act.put,zA,zB,zC,zD,zE,zF]
            (refine wpAnyH_take (i:=3) (v:= ?_) rfl (by kernel_rfl) (by kernel_rfl) (by kernel_rfl) (fun _ _ _ h=>h) (Or.inl ⟨by rfl,?_⟩) (by assumption) ?_;rotate_left;next=>(intro wz hSw;go_simp;first|done|with_reducible rfl))
            try simp only [Act.put,zA,zB,zC,zD,zE,zF]
            (refine wpAnyH_take (i:=4) (v:= ?_) rfl (by kernel_rfl) (by kernel_rfl) (by kernel_rfl) (fun _ _ _ h=>h) (Or.inl ⟨by rfl,?_⟩) (by assumption) ?_;rotate_left;next=>(intro wz hSw;go_simp;first|done|with_reducible rfl))
            try simp only [Act.put,zA,zB,zC,zD,zE,zF]
            (refine wpAnyH_take (i:=5) (v:= ?_) rfl (by kernel_rfl) (by kernel_rfl) (by kernel_rfl) (fun _ _ _ h=>h) (Or.inl ⟨by rfl,?_⟩) (by assumption) ?_;rotate_left;next=>(intro wz hSw;go_simp;first|done|with_reducible rfl))
            try simp only [Act.put,zA,zB,zC,zD,zE,zF]
            (refine wpAnyH_take (i:=7) (v:= ?_) rfl (by kernel_rfl) (by kernel_rfl) (by kernel_rfl) (fun _ _ _ h=>h) (Or.inl ⟨by rfl,?_⟩) (by assumption) ?_;rotate_left;next=>(intro wz hSw;go_simp;first|done|with_reducible rfl))
            try simp only [Act.put,zA,zB,zC,zD,zE,zF]
            (refine wpAnyH_take (i:=8) (v:= ?_) rfl (by kernel_rfl) (by kernel_rfl) (by kernel_rfl) (fun _ _ _ h=>h) (Or.inl ⟨by rfl,?_⟩) (by assumption) ?_;rotate_left;next=>(intro wz hSw;go_simp;first|done|with_reducible rfl))
            try simp only [Act.put,zA,zB,zC,zD,zE,zF]
            (refine wpAnyH_take (i:=9) (v:= ?_) rfl (by kernel_rfl) (by kernel_rfl) (by kernel_rfl) (fun _ _ _ h=>h) (Or.inl ⟨by rfl,?_⟩) (by assumption) ?_;rotate_left;next=>(intro wz hSw;go_simp;first|done|with_reducible rfl))
            try simp only [Act.put,zA,zB,zC,zD,zE,zF]
            (refine wpAnyH_take (i:=10) (v:= ?_) rfl (by kernel_rfl) (by kernel_rfl) (by kernel_rfl) (fun _ _ _ h=>h) (Or.inl ⟨by rfl,?_⟩) (by assumption) ?_;rotate_left;next=>(intro wz hSw;go_simp;first|done|with_reducible rfl))
            try simp only [Act.put,zA,zB,zC,zD,zE,zF]
            refine wpAnyH_ready (rs:=[6]) (by kernel_rfl) (by simp) ?_;refine AllReadyH.cons rfl (fun K hK=> ?_) AllReadyH.nil
            try simp only [zA,zB,zC]
            go_simp;go_at_call 27;(with_reducible refine (HC1.out _ (HBX.out).drew).mono ?_);rintro e w5 ⟨v5,rfl,hn5,hb5⟩;obtain ⟨A5,c5,rfl,hc5,hp5⟩:=qb9.of_new (b0:=0) hn5;have HB5:Hid (Below W.heap.size W w5):=qH ((HBX.out).drew.trans (hb5.mono hWx));have HX5:Hid (Below wx.heap.size wx w5):=qH ((Below.refl wx.heap.size wx).drew.trans hb5);have HP5:=qH hp5;rw [<- HNP.out];clear hn5 hb5 hc5 hp5
            go_wp2_with fail
            refine hK.out _ _ ?_ (fun hHeld6=> ?_)
            · exact HSS.out _ HB5.out
            clear hK K
            try simp only [Act.put,zA,zB,zC,zD,zE,zF]
            refine wpAnyH_ready (rs:=[11]) (by kernel_rfl) (by simp) ?_;refine AllReadyH.cons rfl (fun K hK=> ?_) AllReadyH.nil
            try simp only [zA,zB,zC]
            go_simp;go_at_call 86;(with_reducible refine (HC2.out _ _ _ HB5.out HP5.out).mono ?_);rintro e w6 hgp;obtain ⟨A6',c6',rfl,hc6,hp6,hb6⟩:=hgp.stay (by have :=(HB5.out).size;omega);have HB6:Hid (Below W.heap.size W w6):=qH ((HB5.out).trans (hb6.mono (HB5.out).size));have HX6:Hid (Below wx.heap.size wx w6):=qH ((HX5.out).trans (hb6.mono (HX5.out).size));obtain ⟨nm,hnm⟩:∃ nm,nm=(qdh E i lp).length:=⟨_,rfl⟩;rw [<- hnm];have HNM:=qH hnm;have HC6:=qH hc6;have HP6:=qH hp6;have HB6a:Hid (Below W.heap.size W (w6.alloc (.cells #[.slice A6' nm c6'] 71))):=qH ((HB6.out).alloc (HB6.out).size _);have HX6a:Hid (Below wx.heap.size wx (w6.alloc (.cells #[.slice A6' nm c6'] 71))):=qH ((HX6.out).alloc (HX6.out).size _);clear hgp hc6 hp6 hb6 hnm
            go_wp2_with fail
            refine hK.out _ _ ?_ (fun hHeld11=> ?_)
            · exact HSS.out _ HB6.out
            clear hK K
            try simp only [Act.put,zA,zB,zC,zD,zE,zF]
            refine wpAnyH_ready (rs:=[12]) (by kernel_rfl) (by simp) ?_;refine AllReadyH.cons rfl (fun K hK=> ?_) AllReadyH.nil
            try simp only [zA,zB,zC]
            go_simp;refine hK.out _ _ ?_ (fun hHeld12=> ?_)
            · exact HSS.out _ HB6a.out
            clear hK K
            try simp only [Act.put,zA,zB,zC,zD,zE,zF]
            refine wpAnyH_ready (rs:=[13]) (by kernel_rfl) (by simp) ?_;refine AllReadyH.cons rfl (fun K hK=> ?_) AllReadyH.nil;refine step_append_lies _ (by rfl) _ _ _ (by rfl) W.heap.size 71 j0 _ 1 24 Tryz.underlying41 jj0 jj1 jj2 jj3 rfl (by omega) u13 j cs5 (by rfl) (qak HOW5.out HX6a.out)
              ⟨w6.heap.size,0,none⟩ 1 1 [.slice A6' nm c6'] (by rfl) (by rfl) (World.news_of_block (cs:=#[.slice A6' nm c6']) (t:=71) (fr:=(0,0)) (heap_alloc_new w6 _)) (by intro u hu;simp at hu;subst hu;rfl)
              (by omega) (by unfold maxLen;omega) (by omega) (by have :=(HB6a.out).size;omega) (w6.heap.size+1) (by simp) ?_
            intro gg cap w8 hown8 hgrow hat hlt1;have HB8:Hid (Below W.heap.size W w8):=qH ((HB6a.out).grown hgrow (HB6a.out).size fun z hz=>((qak HOW5.out HX6a.out).lt z hz).1);have HO8:=qH hown8;have HG8:=qH hgrow;clear hown8 hgrow hat hlt1;refine hK.out _ _ ?_ (fun hHeld13=> ?_)
            · exact HSS.out _ HB8.out
            clear hK K
            try simp only [Act.put,zA,zB,zC,zD,zE,zF]
            (refine wpAnyH_take (i:=14) (v:= ?_) rfl (by kernel_rfl) (by kernel_rfl) (by kernel_rfl) (fun _ _ _ h=>h) (Or.inl ⟨by rfl,?_⟩) (by assumption) ?_;rotate_left;next=>(intro wz hSw;go_simp;first|done|with_reducible rfl))
            try simp only [Act.put,zA,zB,zC,zD,zE,zF]
            refine wpAnyH_done (by kernel_rfl) ?_ _;refine qcb.fin ?_;have hfin:qkD Ls E key 0 W (.slice (some ⟨gg,0,none⟩) (j+1) cap) (.int .i64 ((j:Int)+1)) w8:=by
              have ho6:=qak HOW5.out HX6a.out;have hx6:=(HX6.out).size;have hkg1:=qaq.of_below (b0:=0) HX6a.out (by omega);have hkg2:=qaq.grown (b0:=0) ho6 (Nat.zero_le _) (by unfold PoK;decide) HG8.out (HB6a.out).size;have hal:qaq 0 w6 (w6.alloc (.cells #[.slice A6' nm c6'] 71)):= .of_below ((Below.refl _ w6).alloc (Nat.le_refl _) _) (by omega);refine ⟨j+1,_,by rw [<- HMM.out];omega,rfl,HO8.out,?_,HB8.out⟩;have h:=((HLG5.out).keep (hkg1.trans hkg2)).snoc HC6.out ((HP6.out).keep (hal.trans hkg2));rw [<- HPT.out,<- HNM.out] at h;exact h
            have HFIN:=qH hfin;clear hfin HO8 HG8;gi_wp2;go_roundw
            case rel=>exact HFIN.out
            case measure=>simp [intOf];omega
          · have hje:j=(qbd Ls key).length:=by have :=HMM.out;omega
            have hjM2:j<=M:=by have :=HMM.out;omega
            have hall:(qcW Ls E key (qbd Ls key)).take j=qcW Ls E key (qbd Ls key):=List.take_of_length_le (by simp [qcW];omega);rw [hall] at hlg;obtain ⟨A13,c13,rfl,_,_,_⟩:=qbm hown;have hlr:=hlg.lpostsR (qbD hown);have hlens:∀ l∈qcW Ls E key (qbd Ls key),l.length<=1000:=fun l hl=>by
              obtain ⟨i,hi,rfl⟩:=List.mem_map.1 hl;obtain ⟨hi1,_⟩:=qfV.1 hi;rw [qav hi1];obtain ⟨hgood,_,hL1⟩:=(HE.out).good _ (List.getElem_mem hi1);have h1:=qxT (E:=E) (i:=i) (l:=qaj 0 Ls[i] key);have h2:=qgw hgood (key:=key) Ls[i] 0 (fun q hq=>hq);omega
            have C87:=qH (qwq (qaW 0 3 wx) A13 j c13 (qcW Ls E key (qbd Ls key)) wx hlr (by simp [qcW,hje]) (by omega) hlens (qt0 HE.out key) (qt1 HE.out key));have hWx:w.heap.size<=wx.heap.size:=Nat.le_trans (HBW.out).size hbx.size;have hx1:x.1=(qb5 Ls)[pre.length]:=by rw [<- HKEY.out];exact HHX.out
            obtain ⟨L9,hL9⟩:∃ L9,L9=qaj 0 (qan Ls E) key:=⟨_,rfl⟩;obtain ⟨n9,hn9⟩:∃ n9,n9=L9.length:=⟨_,rfl⟩;have HBX:=qH hbx;have HL9:=qH hL9;have HN9:=qH hn9;have HX1:=qH hx1;clear hlr hlens hlg hall hown hx1 hje;by_cases h0:L9=[]
            · have hn0:n9=0:=by rw [hn9,h0];rfl
              clear hbx hL9 hn9
              gi_wp2_with (first
                | (refine ⟨trivial, ?_⟩; gi_at_call 87; refine (CallsIn.inRound lp (callsIn_wide.2 C87.out)).mono ?_
                   rintro e w9 ⟨o,ho,hgp⟩;rw [qhw HE.out ho,show E.map (qa2 Ls)=qan Ls E from rfl,<- HL9.out] at hgp
                   obtain ⟨A9,c9,rfl,hc9,hp9,hb9⟩:=hgp.stay (Nat.zero_le _);rw [<- HN9.out];have HB9:=qH hb9;clear ho hgp hc9 hp9 hb9)
                | (gi_at_call 87; refine (CallsIn.inRound lp (callsIn_wide.2 C87.out)).mono ?_
                   rintro e w9 ⟨o,ho,hgp⟩;rw [qhw HE.out ho,show E.map (qa2 Ls)=qan Ls E from rfl,<- HL9.out] at hgp
                   obtain ⟨A9,c9,rfl,hc9,hp9,hb9⟩:=hgp.stay (Nat.zero_le _);rw [<- HN9.out];have HB9:=qH hb9;clear ho hgp hc9 hp9 hb9))
              have hbW:Below W.heap.size W w9:=(HBX.out).trans ((HB9.out).mono (HBX.out).size);have hin0:qcP Ls E 0 KB LB w6 pre W:=⟨HKX.out,v3,v4,cs,HCK.out,HCL.out,HGW.out⟩;have hfin:qcP Ls E 0 KB LB w6 (pre++[x]) w9:=(hin0.later hbW (Nat.le_of_lt HKLT.out)).skip hlt HX1.out (by rw [<- HKEY.out,<- HL9.out];exact h0);exact ⟨qpD hbW,HSTAY.out _ _ hbW.size (fun k hk _ _=>hbW.block k (by have :=(HGW.out).size;omega)),hfin⟩
            · have hn0:(0:Int)<(n9:Int):=by
                have :0<L9.length:=List.length_pos_iff.2 h0;omega
              obtain ⟨t0,ti0,tz0,tz1,tz2⟩:=info_parts qeT;have hkn:=qxU Ls E pre.length;have hlsn:(qc2 Ls E pre.length).length=(qbz Ls E pre.length).length:=by simp [qc2]
              have hnmx:=HNL.out;obtain ⟨A3,c3,rfl,_,_,_⟩:=qbm (HGW.out).keys;obtain ⟨A4,c4,rfl,_,_,_⟩:=qbm (HGW.out).lists;obtain ⟨N3,hN3⟩:∃ N3,N3=(qbz Ls E pre.length).length:=⟨_,rfl⟩;obtain ⟨N4,hN4⟩:∃ N4,N4=(qc2 Ls E pre.length).length:=⟨_,rfl⟩;have HN3:=qH hN3;have HN4:=qH hN4;rw [<- hN3] at HGW HCK hkn hlsn;rw [<- hN4] at HGW HCL hlsn;have hn3:N3<=1048576:=by omega
              have hn4:N4<=1048576:=by omega
              clear hbx hL9 hn9 hkn hlsn hnmx hN3 hN4
              gi_wp2_with (first
                | (refine ⟨trivial, ?_⟩; gi_at_call 87; refine (CallsIn.inRound lp (callsIn_wide.2 C87.out)).mono ?_
                   rintro e w9 ⟨o,ho,hgp⟩;rw [qhw HE.out ho,show E.map (qa2 Ls)=qan Ls E from rfl,<- HL9.out] at hgp
                   obtain ⟨A9,c9,rfl,hc9,hp9,hb9⟩:=hgp.stay (Nat.zero_le _);rw [<- HN9.out];have HB9:=qH hb9;have HC9:=qH hc9;have HP9:=qH hp9;clear ho hgp hc9 hp9 hb9)
                | (gi_at_call 87; refine (CallsIn.inRound lp (callsIn_wide.2 C87.out)).mono ?_
                   rintro e w9 ⟨o,ho,hgp⟩;rw [qhw HE.out ho,show E.map (qa2 Ls)=qan Ls E from rfl,<- HL9.out] at hgp
                   obtain ⟨A9,c9,rfl,hc9,hp9,hb9⟩:=hgp.stay (Nat.zero_le _);rw [<- HN9.out];have HB9:=qH hb9;have HC9:=qH hc9;have HP9:=qH hp9;clear ho hgp hc9 hp9 hb9))
              have hbW:Below W.heap.size W w9:=(HBX.out).trans ((HB9.out).mono (HBX.out).size);have hK9:qeM 0 w6.heap.size KB LB (.slice A3 N3 c3) (.slice A3 N3 c3) (.slice A4 N4 c4) (qbz Ls E pre.length) cs (qc2 Ls E pre.length) A9 L9 w9 w9:=
                ⟨(HGW.out).below hbW,HP9.out,(hbW.block _ (Array.getElem?_eq_some_iff.1 HCK.out).1).trans HCK.out,(hbW.block _ (Array.getElem?_eq_some_iff.1 HCL.out).1).trans HCL.out,KeepsOthers.refl _,Below.refl _ _⟩
              have HK9:=qH hK9;have HBWW:=qH hbW;have kA0:=cell_of_one hK9.kc;have lA0:=cell_of_one hK9.lc;have hb1:∀ o,Below w9.heap.size w9 (w9.alloc o):=fun o=>(Below.refl _ w9).alloc (Nat.le_refl _) o
              have hb2:∀ o o',Below w9.heap.size w9 ((w9.alloc o).alloc o'):=fun o o'=>(hb1 o).alloc (hb1 o).size o'
              have kA1:∀ o,(w9.alloc o).cell? ⟨KB,0,none⟩=some (.slice A3 N3 c3):=fun o=>cell_of_one (hK9.below (hb1 o)).kc
              have lA1:∀ o,(w9.alloc o).cell? ⟨LB,0,none⟩=some (.slice A4 N4 c4):=fun o=>cell_of_one (hK9.below (hb1 o)).lc
              have kA2:∀ o o',((w9.alloc o).alloc o').cell? ⟨KB,0,none⟩=some (.slice A3 N3 c3):=fun o o'=>cell_of_one (hK9.below (hb2 o o')).kc
              have lA2:∀ o o',((w9.alloc o).alloc o').cell? ⟨LB,0,none⟩=some (.slice A4 N4 c4):=fun o o'=>cell_of_one (hK9.below (hb2 o o')).lc
              have HB1:=qH hb1;have HB2:=qH hb2;have HA1:Hid (∀ (xs:Array Value) (t:TypeId),(w9.alloc (.cells xs t)).heap[w9.heap.size]?=some (.cells xs t (0,0))):=qH fun xs t=>heap_alloc_new w9 _
              have HA2:Hid (∀ (xs:Array Value) (t:TypeId) (o:Obj),((w9.alloc (.cells xs t)).alloc o).heap[w9.heap.size]?=some (.cells xs t (0,0))):=qH fun xs t o=>(Below.heap_alloc _ _ _ (by simp)).trans (heap_alloc_new w9 _)
              have HA3:Hid (∀ (xs:Array Value) (t:TypeId) (o:Obj),((w9.alloc o).alloc (.cells xs t)).heap[w9.heap.size+1]?=some (.cells xs t (0,0))):=qH fun xs t o=>by simpa using heap_alloc_new (w9.alloc o) (.cells xs t)
              have hs9:w6.heap.size<=w9.heap.size:=hK9.gat.size;clear hK9 hbW hb1 hb2;have HOK:Hid (w9.ownsRow w6.heap.size 9 1 (.slice A3 N3 c3) N3 (qad (qbz Ls E pre.length))):=qH (by have :=(HK9.out).gat.keys;rwa [<- HN3.out] at this);have nKL:¬ KB=LB:=by have :=HLB.out;omega
              have nLK:¬ LB=KB:=by have :=HLB.out;omega
              have HFINAL:Hid (∀ w12 v3' v4',qpC 0 w6.heap.size KB LB (.slice A3 N3 c3) v3' (.slice A4 N4 c4) v4' (qbz Ls E pre.length++[key]) (cs++[.slice A9 L9.length c9]) (qc2 Ls E pre.length++[L9]) w9 w12->
                  KeepsOthers W ((w12.setCell ⟨KB,0,none⟩ v3').setCell ⟨LB,0,none⟩ v4')/\qcF A6 (qaJ (qb5 Ls) Gs) W ((w12.setCell ⟨KB,0,none⟩ v3').setCell ⟨LB,0,none⟩ v4')/\qcP Ls E 0 KB LB w6 (pre++[x]) ((w12.setCell ⟨KB,0,none⟩ v3').setCell ⟨LB,0,none⟩ v4')):=qH fun w12 v3' v4' hend=>by
                have hbW:=HBWW.out;have hgw:=HGW.out.size;have hg:=hend.gat;rw [HL9.out,HKEY.out] at hg;have hsz:=hend.bel.size;have hsW:=hbW.size;have hX:=((HKX.out).later (hbW.mono hgw) (Nat.le_of_lt HKLT.out)).later hend.bel (Nat.le_of_lt HKLT.out);refine ⟨(((qpD hbW).trans hend.oth).trans (KeepsOthers.setCell _ _ _)).trans (KeepsOthers.setCell _ _ _),HSTAY.out _ _ (by simp;omega) (fun k hk a b=> ?_),?_⟩
                · rw [Below.heap_setCell _ _ _ _ b,Below.heap_setCell _ _ _ _ a,hend.bel.block k hk,hbW.block k (by omega)]
                · exact qcP.more hX hend.kc hend.lc hlt HX1.out (by rw [<- HKEY.out,<- HL9.out];exact h0) hg (by have :=HLB.out;omega) (Nat.zero_le _)
              refine qxR (by kernel_rfl) (by kernel_rfl) ?_
              (refine wpAny_take (i:=1) (v:= ?_) rfl (by kernel_rfl) (by kernel_rfl) (by kernel_rfl) (fun _ _ _ h=>h) (Or.inl ⟨by rfl,?_⟩) ?_;rotate_left;next=>(intro wz;go_simp;first|done|with_reducible rfl))
              (refine wpAny_take (i:=5) (v:= ?_) rfl (by kernel_rfl) (by kernel_rfl) (by kernel_rfl) (fun _ _ _ h=>h) (Or.inl ⟨by rfl,?_⟩) ?_;rotate_left;next=>(intro wz;go_simp;first|done|with_reducible rfl))
              (refine wpAny_ready (rs:=[0,2,4,6]) (by kernel_rfl) (by simp) ?_;refine (AllReady.cons rfl (fun K hK=> ?_) (AllReady.cons rfl (fun K hK=> ?_) (AllReady.cons rfl (fun K hK=> ?_) (AllReady.cons rfl (fun K hK=> ?_) AllReady.nil))));all_goals (go_simp;refine hK _ _ ?_;clear hK K))
              all_goals (first
                |(refine wpAny_ready (rs:=[2,4,6]) (by decide +kernel) (by simp) ?_;refine (AllReady.cons rfl (fun K hK=> ?_) (AllReady.cons rfl (fun K hK=> ?_) (AllReady.cons rfl (fun K hK=> ?_) AllReady.nil)));all_goals (go_simp;refine hK _ _ ?_;clear hK K))
                |(refine wpAny_ready (rs:=[0,4,6]) (by decide +kernel) (by simp) ?_;refine (AllReady.cons rfl (fun K hK=> ?_) (AllReady.cons rfl (fun K hK=> ?_) (AllReady.cons rfl (fun K hK=> ?_) AllReady.nil)));all_goals (go_simp;refine hK _ _ ?_;clear hK K))
                |(refine wpAny_ready (rs:=[0,2,6]) (by decide +kernel) (by simp) ?_;refine (AllReady.cons rfl (fun K hK=> ?_) (AllReady.cons rfl (fun K hK=> ?_) (AllReady.cons rfl (fun K hK=> ?_) AllReady.nil)));all_goals (go_simp;refine hK _ _ ?_;clear hK K))
                |(refine wpAny_ready (rs:=[0,2,4]) (by decide +kernel) (by simp) ?_;refine (AllReady.cons rfl (fun K hK=> ?_) (AllReady.cons rfl (fun K hK=> ?_) (AllReady.cons rfl (fun K hK=> ?_) AllReady.nil)));all_goals (go_simp;refine hK _ _ ?_;clear hK K))
                |skip)
              all_goals (first
                |(refine wpAny_ready (rs:=[3,4,6]) (by decide +kernel) (by simp) ?_;refine AllReady.cons rfl (fun K hK=> ?_) ?_;rotate_left;focus (refine (AllReady.cons rfl (fun K hK=> ?_) (AllReady.cons rfl (fun K hK=> ?_) AllReady.nil));all_goals (go_simp;refine hK _ _ ?_;clear hK K)))
                |(refine wpAny_ready (rs:=[2,6]) (by decide +kernel) (by simp) ?_;refine (AllReady.cons rfl (fun K hK=> ?_) (AllReady.cons rfl (fun K hK=> ?_) AllReady.nil));all_goals (go_simp;refine hK _ _ ?_;clear hK K))
                |(refine wpAny_ready (rs:=[2,4]) (by decide +kernel) (by simp) ?_;refine (AllReady.cons rfl (fun K hK=> ?_) (AllReady.cons rfl (fun K hK=> ?_) AllReady.nil));all_goals (go_simp;refine hK _ _ ?_;clear hK K))
                |(refine wpAny_ready (rs:=[0,6]) (by decide +kernel) (by simp) ?_;refine (AllReady.cons rfl (fun K hK=> ?_) (AllReady.cons rfl (fun K hK=> ?_) AllReady.nil));all_goals (go_simp;refine hK _ _ ?_;clear hK K))
                |(refine wpAny_ready (rs:=[0,4]) (by decide +kernel) (by simp) ?_;refine (AllReady.cons rfl (fun K hK=> ?_) (AllReady.cons rfl (fun K hK=> ?_) AllReady.nil));all_goals (go_simp;refine hK _ _ ?_;clear hK K))
                |(refine wpAny_ready (rs:=[0,2]) (by decide +kernel) (by simp) ?_;refine (AllReady.cons rfl (fun K hK=> ?_) (AllReady.cons rfl (fun K hK=> ?_) AllReady.nil));all_goals (go_simp;refine hK _ _ ?_;clear hK K))
                |skip)
              all_goals (first
                |(refine wpAny_ready (rs:=[3,6]) (by decide +kernel) (by simp) ?_;refine AllReady.cons rfl (fun K hK=> ?_) ?_;rotate_left;focus (refine (AllReady.cons rfl (fun K hK=> ?_) AllReady.nil);all_goals (go_simp;refine hK _ _ ?_;clear hK K)))
                |(refine wpAny_ready (rs:=[3,4]) (by decide +kernel) (by simp) ?_;refine AllReady.cons rfl (fun K hK=> ?_) ?_;rotate_left;focus (refine (AllReady.cons rfl (fun K hK=> ?_) AllReady.nil);all_goals (go_simp;refine hK _ _ ?_;clear hK K)))
                |(refine wpAny_ready (rs:=[2]) (by decide +kernel) (by simp) ?_;refine (AllReady.cons rfl (fun K hK=> ?_) AllReady.nil);all_goals (go_simp;refine hK _ _ ?_;clear hK K))
                |(refine wpAny_ready (rs:=[0]) (by decide +kernel) (by simp) ?_;refine (AllReady.cons rfl (fun K hK=> ?_) AllReady.nil);all_goals (go_simp;refine hK _ _ ?_;clear hK K))
                |(refine wpAny_ready (rs:=[4,6]) (by decide +kernel) (by simp) ?_;refine (AllReady.cons rfl (fun K hK=> ?_) (AllReady.cons rfl (fun K hK=> ?_) AllReady.nil));all_goals (go_simp;refine hK _ _ ?_;clear hK K))
                |skip)
              all_goals (first
                |(refine wpAny_ready (rs:=[3]) (by decide +kernel) (by simp) ?_;refine AllReady.cons rfl (fun K hK=> ?_) AllReady.nil)
                |skip)
              all_goals (first
                | (refine step_append_lies _ (by rfl) _ _ _ (by rfl) w6.heap.size 9 t0 _ 1 16 Tryz.underlying40 ti0 tz0 tz1 tz2 rfl (by omega) (.slice A3 N3 c3) N3 (qad (qbz Ls E pre.length)) (by rfl) (qak HOK.out (HB1.out _).drew)
                     ⟨w9.heap.size,0,none⟩ 1 1 [.string X] (by rfl) (by rfl) (World.news_of_block (cs:=#[.string X]) (t:=9) (fr:=(0,0)) (HA1.out _ _)) (qgD 0 X)
                     (by omega) (by unfold maxLen;omega) (by omega) (by simp;omega) (w9.heap.size+1) (by simp) ?_
                   intro g10 cap10 w10 hown10 hgrow10 hat10 hlt10;obtain ⟨hk10,hp10⟩:=((HK9.out).below (HB1.out (.cells #[.string X] 9)).drew).key (k:=key) HXX.out HN3.out hown10 hgrow10;have HK10:=qH hk10
                   skip
                   have HOL:Hid (w10.ownsRow w6.heap.size 71 1 (.slice A4 N4 c4) N4 cs):=qH (by have :=hk10.gat.lists;rwa [<- HN4.out] at this);have lB0:=cell_of_one hk10.lc;have lB1:∀ o,(w10.alloc o).cell? ⟨LB,0,none⟩=some (.slice A4 N4 c4):=fun o=>cell_of_one (hk10.below ((Below.refl _ w10).alloc (Nat.le_refl _) o)).lc
                   have HW10:Hid (∀ o,Below w10.heap.size w10 (w10.alloc o)):=qH fun o=>(Below.refl _ w10).alloc (Nat.le_refl _) o
                   have hs10:w6.heap.size<=w10.heap.size:=hk10.gat.size;clear hown10 hgrow10 hat10 hlt10 hk10 hp10)
                | (refine step_append_lies _ (by rfl) _ _ _ (by rfl) w6.heap.size 9 t0 _ 1 16 Tryz.underlying40 ti0 tz0 tz1 tz2 rfl (by omega) (.slice A3 N3 c3) N3 (qad (qbz Ls E pre.length)) (by rfl) (qak HOK.out (HB2.out _ _).drew)
                     ⟨w9.heap.size,0,none⟩ 1 1 [.string X] (by rfl) (by rfl) (World.news_of_block (cs:=#[.string X]) (t:=9) (fr:=(0,0)) (HA2.out _ _ _)) (qgD 0 X)
                     (by omega) (by unfold maxLen;omega) (by omega) (by simp;omega) (w9.heap.size+1+1) (by simp) ?_
                   intro g10 cap10 w10 hown10 hgrow10 hat10 hlt10;obtain ⟨hk10,hp10⟩:=((HK9.out).below (HB2.out (.cells #[.string X] 9) (.cells #[.slice A9 n9 c9] 71)).drew).key (k:=key) HXX.out HN3.out hown10 hgrow10;have HK10:=qH hk10;have HPB2:Hid (w10.heap[w9.heap.size+1]?=some (.cells #[.slice A9 n9 c9] 71 (0,0))):=qH (hp10 _ _ (HA3.out _ _ _));have HOL:Hid (w10.ownsRow w6.heap.size 71 1 (.slice A4 N4 c4) N4 cs):=qH (by have :=hk10.gat.lists;rwa [<- HN4.out] at this);have lB0:=cell_of_one hk10.lc;have lB1:∀ o,(w10.alloc o).cell? ⟨LB,0,none⟩=some (.slice A4 N4 c4):=fun o=>cell_of_one (hk10.below ((Below.refl _ w10).alloc (Nat.le_refl _) o)).lc
                   have HW10:Hid (∀ o,Below w10.heap.size w10 (w10.alloc o)):=qH fun o=>(Below.refl _ w10).alloc (Nat.le_refl _) o
                   have hs10:w6.heap.size<=w10.heap.size:=hk10.gat.size;clear hown10 hgrow10 hat10 hlt10 hk10 hp10)
                | (refine step_append_lies _ (by rfl) _ _ _ (by rfl) w6.heap.size 9 t0 _ 1 16 Tryz.underlying40 ti0 tz0 tz1 tz2 rfl (by omega) (.slice A3 N3 c3) N3 (qad (qbz Ls E pre.length)) (by rfl) (qak HOK.out (HB2.out _ _).drew)
                     ⟨w9.heap.size+1,0,none⟩ 1 1 [.string X] (by rfl) (by rfl) (World.news_of_block (cs:=#[.string X]) (t:=9) (fr:=(0,0)) (HA3.out _ _ _)) (qgD 0 X)
                     (by omega) (by unfold maxLen;omega) (by omega) (by simp;omega) (w9.heap.size+1+1) (by simp) ?_
                   intro g10 cap10 w10 hown10 hgrow10 hat10 hlt10;obtain ⟨hk10,hp10⟩:=((HK9.out).below (HB2.out (.cells #[.slice A9 n9 c9] 71) (.cells #[.string X] 9)).drew).key (k:=key) HXX.out HN3.out hown10 hgrow10;have HK10:=qH hk10;have HPB3:Hid (w10.heap[w9.heap.size]?=some (.cells #[.slice A9 n9 c9] 71 (0,0))):=qH (hp10 _ _ (HA2.out _ _ _));have HOL:Hid (w10.ownsRow w6.heap.size 71 1 (.slice A4 N4 c4) N4 cs):=qH (by have :=hk10.gat.lists;rwa [<- HN4.out] at this);have lB0:=cell_of_one hk10.lc;have lB1:∀ o,(w10.alloc o).cell? ⟨LB,0,none⟩=some (.slice A4 N4 c4):=fun o=>cell_of_one (hk10.below ((Below.refl _ w10).alloc (Nat.le_refl _) o)).lc
                   have HW10:Hid (∀ o,Below w10.heap.size w10 (w10.alloc o)):=qH fun o=>(Below.refl _ w10).alloc (Nat.le_refl _) o
                   have hs10:w6.heap.size<=w10.heap.size:=hk10.gat.size;clear hown10 hgrow10 hat10 hlt10 hk10 hp10)
                |skip)
              all_goals ((try go_simp);refine hK _ _ ?_;clear hK K)
              all_goals (first
                |(refine wpAny_ready (rs:=[4,6]) (by decide +kernel) (by simp) ?_;refine (AllReady.cons rfl (fun K hK=> ?_) (AllReady.cons rfl (fun K hK=> ?_) AllReady.nil));all_goals (go_simp;refine hK _ _ ?_;clear hK K))
                |(refine wpAny_ready (rs:=[4]) (by decide +kernel) (by simp) ?_;refine (AllReady.cons rfl (fun K hK=> ?_) AllReady.nil);all_goals (go_simp;refine hK _ _ ?_;clear hK K))
                |(refine wpAny_ready (rs:=[6]) (by decide +kernel) (by simp) ?_;refine (AllReady.cons rfl (fun K hK=> ?_) AllReady.nil);all_goals (go_simp;refine hK _ _ ?_;clear hK K))
                |skip)
              all_goals (first
                |(refine wpAny_ready (rs:=[4]) (by decide +kernel) (by simp) ?_;refine (AllReady.cons rfl (fun K hK=> ?_) AllReady.nil);all_goals (go_simp;refine hK _ _ ?_;clear hK K))
                |(refine wpAny_ready (rs:=[6]) (by decide +kernel) (by simp) ?_;refine (AllReady.cons rfl (fun K hK=> ?_) AllReady.nil);all_goals (go_simp;refine hK _ _ ?_;clear hK K))
                |skip)
              all_goals (refine wpAny_ready (rs:=[7]) (by kernel_rfl) (by simp) ?_;refine AllReady.cons rfl (fun K hK=> ?_) AllReady.nil)
              all_goals (first
                | (refine step_append_lies _ (by rfl) _ _ _ (by rfl) w6.heap.size 71 j0 _ 1 24 Tryz.underlying41 jj0 jj1 jj2 jj3 rfl (by omega) (.slice A4 N4 c4) N4 cs (by rfl) (qak HOL.out (HW10.out _))
                     ⟨w10.heap.size,0,none⟩ 1 1 [.slice A9 n9 c9] (by rfl) (by rfl) (World.news_of_block (cs:=#[.slice A9 n9 c9]) (t:=71) (fr:=(0,0)) (heap_alloc_new w10 _)) (by intro u hu;simp at hu;subst hu;rfl)
                     (by omega) (by unfold maxLen;omega) (by omega) (by first|omega|(simp;omega)) (w10.heap.size+1) (by simp) ?_
                   intro g12 cap12 w12 hown12 hgrow12 hat12 hlt12;have hend:=((HK10.out).below (HW10.out (.cells #[.slice A9 n9 c9] 71))).list HC9.out HN4.out HN9.out hown12 hgrow12;have HFIN:=qH (HFINAL.out _ _ _ hend);have kE:=cell_of_one hend.kc;have fE:=free_of_one hend.kc;have lE:=cell_of_one hend.lc;have gE:=free_of_one hend.lc;clear hown12 hgrow12 hat12 hlt12 hend)
                | (refine step_append_lies _ (by rfl) _ _ _ (by rfl) w6.heap.size 71 j0 _ 1 24 Tryz.underlying41 jj0 jj1 jj2 jj3 rfl (by omega) (.slice A4 N4 c4) N4 cs (by rfl) (HOL.out)
                     ⟨w9.heap.size+1,0,none⟩ 1 1 [.slice A9 n9 c9] (by rfl) (by rfl) (World.news_of_block (cs:=#[.slice A9 n9 c9]) (t:=71) (fr:=(0,0)) (HPB2.out)) (by intro u hu;simp at hu;subst hu;rfl)
                     (by omega) (by unfold maxLen;omega) (by omega) (by first|omega|(simp;omega)) (w10.heap.size) (by simp) ?_
                   intro g12 cap12 w12 hown12 hgrow12 hat12 hlt12;have hend:=(HK10.out).list HC9.out HN4.out HN9.out hown12 hgrow12;have HFIN:=qH (HFINAL.out _ _ _ hend);have kE:=cell_of_one hend.kc;have fE:=free_of_one hend.kc;have lE:=cell_of_one hend.lc;have gE:=free_of_one hend.lc;clear hown12 hgrow12 hat12 hlt12 hend)
                | (refine step_append_lies _ (by rfl) _ _ _ (by rfl) w6.heap.size 71 j0 _ 1 24 Tryz.underlying41 jj0 jj1 jj2 jj3 rfl (by omega) (.slice A4 N4 c4) N4 cs (by rfl) (HOL.out)
                     ⟨w9.heap.size,0,none⟩ 1 1 [.slice A9 n9 c9] (by rfl) (by rfl) (World.news_of_block (cs:=#[.slice A9 n9 c9]) (t:=71) (fr:=(0,0)) (HPB3.out)) (by intro u hu;simp at hu;subst hu;rfl)
                     (by omega) (by unfold maxLen;omega) (by omega) (by first|omega|(simp;omega)) (w10.heap.size) (by simp) ?_
                   intro g12 cap12 w12 hown12 hgrow12 hat12 hlt12;have hend:=(HK10.out).list HC9.out HN4.out HN9.out hown12 hgrow12;have HFIN:=qH (HFINAL.out _ _ _ hend);have kE:=cell_of_one hend.kc;have fE:=free_of_one hend.kc;have lE:=cell_of_one hend.lc;have gE:=free_of_one hend.lc;clear hown12 hgrow12 hat12 hlt12 hend))
              all_goals ((try go_simp);refine hK _ _ ?_;clear hK K)
              all_goals (refine wpAny_ready (rs:=[8]) (by kernel_rfl) (by simp) ?_;refine AllReady.cons rfl (fun K hK=> ?_) AllReady.nil;go_simp;refine hK _ _ ?_;clear hK K)
              all_goals (refine wpAny_ready (rs:=[9]) (by kernel_rfl) (by simp) ?_;refine AllReady.cons rfl (fun K hK=> ?_) AllReady.nil;go_simp;refine hK _ _ ?_;clear hK K)
              all_goals (refine wpAny_done (by kernel_rfl) ?_ _)
              all_goals
                refine qcb.fin ?_;gi_wp2;exact HFIN.out
      case done=>
        rintro D' ys W hD2 hys ⟨hX,v3,v4,cs,hk,hl,hg⟩ hK';have e1:qbz Ls E ys.length=qaf (qan Ls E):=by rw [hys];exact qnL HE.out
        have e2:qc2 Ls E ys.length=(qaf (qan Ls E)).map fun k=>qaj 0 (qan Ls E) k:=by rw [hys];exact quA HE.out
        rw [e1,e2] at hg;obtain ⟨A3,c3,rfl,g1,g2,hr3⟩:=qbm hg.keys;have hls:=hg.lists;rw [List.length_map] at hls;obtain ⟨A4,c4,rfl,g3,g4,hr4⟩:=qbm hls;have ck:=cell_of_one hk;have cl:=cell_of_one hl;have hW2:qkE Ls E w (.returned (.tuple #[.slice A3 (qaf (qan Ls E)).length c3,.slice A4 (qaf (qan Ls E)).length c4])) (W.drew.putObj D' (.deferred none)):=by
          have hf:=qct.firm (N:=w6.heap.size) (Nat.zero_le _) W.drew D' _ (.deferred none) hD2 hK' rfl (hg.below (Below.refl _ W).drew);refine ⟨A3,c3,A4,c4,rfl,⟨g1,g2⟩,⟨g3,g4⟩,qbh hf.keys (HW6.out).size,⟨cs,qbh (by have :=hf.lists;rwa [List.length_map] at this) (HW6.out).size,hf.lg⟩,?_⟩;exact qat.belowW (N:=w6.heap.size) (HW6.out).size W.drew D' _ _ hD2 hK' rfl ((HW6.out).trans (hX.below.mono HW0K.out)).drew
        have HW2':=qH hW2;obtain ⟨N,hN⟩:∃ N,N=(qaf (qan Ls E)).length:=⟨_,rfl⟩;rw [<- hN] at ck cl HW2';have HX:=qH hX;clear hk hl hg hls hr3 hr4 e1 e2 hys hX hW2 hN g1 g2 g3 g4
        dsimp only
        go_wp2;refine wp_region_noPanic ?_
        go_region
        all_goals
          refine NoPanic.normal ?_;go_wp2;refine ⟨by simp,.inl ⟨_,_,rfl,run_takeDeferred hK',?_⟩⟩;refine ⟨_,results_tmp2 rfl _ _ _,?_⟩;exact HW2'.out
      case stop=>
        rintro D' c pre W _ _ hh _;exact hh.elim
structure qdn (base P:Nat) (xs ys:List Int) (v0 v1:Value) (w6 wr:World):Prop where
 cell:wr.heap[P]?=some (.cells #[v0,v1,.slice none 0 0,.slice none 0 0] 62 (0,0))
 many:qcD 3 1 base wr [v0,v1] [xs.length,ys.length] [qaa xs,qaa ys]
 le:base<=P
 size:base<=wr.heap.size
 below:Below base w6 wr
section
variable {base P:Nat} {xs ys:List Int} {v0 v1 v':Value} {w6 wr w':World}
theorem qdn.later (h:qdn base P xs ys v0 v1 w6 wr) (hb:Below wr.heap.size wr w'):qdn base P xs ys v0 v1 w6 w':=
 ⟨(hb.block _ (Array.getElem?_eq_some_iff.1 h.cell).1).trans h.cell,h.many.below hb,h.le,Nat.le_trans h.size hb.size,h.below.trans (hb.mono h.size)⟩
theorem qdn.own0 (h:qdn base P xs ys v0 v1 w6 wr):wr.ownsRow base 3 1 v0 xs.length (qaa xs):=h.many.own 0 (by simp)
theorem qdn.own1 (h:qdn base P xs ys v0 v1 w6 wr):wr.ownsRow base 3 1 v1 ys.length (qaa ys):=h.many.own 1 (by simp)
theorem qdn.id (h:qdn base P xs ys v0 v1 w6 wr) {n:Nat} {a:Int} (hn:n=xs.length) (ho:w'.ownsRow base 3 1 v' (n+1) (qaa xs++[.int .i64 a])) (hg:wr.grownBy w' v0.ownBlock) (hv:∀ g,v'.ownBlock=some g->v0.ownBlock=some g∨wr.heap.size<=g):
  (w'.cell? ⟨P,0,none⟩=some v0/\w'.frozen? ⟨P,0,none⟩=false)/\qdn base P (xs++[a]) ys v' v1 w6 (w'.setCell ⟨P,0,none⟩ v'):=by
 subst hn;have hP:w'.heap[P]?=some (.cells #[v0,v1,.slice none 0 0,.slice none 0 0] 62 (0,0)):=by
  rw [hg.block P (Array.getElem?_eq_some_iff.1 h.cell).1 (fun e=>qah h.own0 h.cell (by decide) e.symm),h.cell]
 obtain ⟨q1,q2⟩:=qa7 hP;have hm:=(h.many.grow (q:=0) (by simp) ho hg hv).other (i:=0) hP (by decide) v';refine ⟨⟨q1.1,q2.1⟩,by simpa using heap_setCell_same w' P 0 _ _ v' hP,?_,h.le,by have :=hg.size;have :=h.size;simp;omega,(h.below.grown hg h.size fun k hk=>(h.own0.lt k hk).1).setCell (p:=⟨P,0,none⟩) h.le _⟩;have e:qaa (xs++[a])=qaa xs++[.int .i64 a]:=by simp [qaa]
 rw [List.length_append,List.length_singleton,e];exact hm
theorem qdn.seq (h:qdn base P xs ys v0 v1 w6 wr) {n:Nat} {a:Int} (hn:n=ys.length) (ho:w'.ownsRow base 3 1 v' (n+1) (qaa ys++[.int .i64 a])) (hg:wr.grownBy w' v1.ownBlock) (hv:∀ g,v'.ownBlock=some g->v1.ownBlock=some g∨wr.heap.size<=g):
  (w'.cell? ⟨P,1,none⟩=some v1/\w'.frozen? ⟨P,1,none⟩=false)/\qdn base P xs (ys++[a]) v0 v' w6 (w'.setCell ⟨P,1,none⟩ v'):=by
 subst hn;have hP:w'.heap[P]?=some (.cells #[v0,v1,.slice none 0 0,.slice none 0 0] 62 (0,0)):=by
  rw [hg.block P (Array.getElem?_eq_some_iff.1 h.cell).1 (fun e=>qah h.own1 h.cell (by decide) e.symm),h.cell]
 obtain ⟨q1,q2⟩:=qa7 hP;have hm:=(h.many.grow (q:=1) (by simp) ho hg hv).other (i:=1) hP (by decide) v';refine ⟨⟨q1.2.1,q2.2.1⟩,by simpa using heap_setCell_same w' P 1 _ _ v' hP,?_,h.le,by have :=hg.size;have :=h.size;simp;omega,(h.below.grown hg h.size fun k hk=>(h.own1.lt k hk).1).setCell (p:=⟨P,1,none⟩) h.le _⟩;have e:qaa (ys++[a])=qaa ys++[.int .i64 a]:=by simp [qaa]
 rw [List.length_append,List.length_singleton,e];exact hm
end
def qkF (Ls:List (List En)) (rs:List (List Bool)) (w:World) (e:Ending) (w':World):Prop:=
 (¬ qbl Ls rs/\qw5 w e w')∨(qbl Ls rs/\qdP ((qay Ls rs).map qal)/\e= .returned (.tuple #[.pointer none,.int .i64 5])/\Below w.heap.size w w')∨
  (qbl Ls rs/\∃ o,qcd ((qay Ls rs).map qal) o/\qdU (qac (qan Ls (qb4 rs o))) w e w')
def qkG (G:List En) (P:Nat) (w6:World) (idx:Value) (wr:World):Prop:=∃ (q:Nat) (v0 v1:Value),q<=G.length/\idx= .int .i64 (q:Int)/\qdn w6.heap.size P ((G.take q).map (·.1)) (qal (G.take q)) v0 v1 w6 wr
end Go.Proofs.YtpehcaidjlemiaaGreatDoor
