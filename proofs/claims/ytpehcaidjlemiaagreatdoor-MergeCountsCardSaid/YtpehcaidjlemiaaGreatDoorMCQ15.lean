import Derived.Test.YtpehcaidjlemiaaGreatDoorMCZz
import Derived.Test.YtpehcaidjlemiaaGreatDoorMCQ14
import Derived.Test.YtpehcaidjlemiaaGreatDoorMCQ09
import Derived.StillTailTactics
import Derived.Test.YtpehcaidjlemiaaGreatDoorMCQ07
import Derived.RangeFuncNested
import Derived.RangeFuncBound
import Derived.RangeFuncCalls
import Derived.RangeFuncLeaves
import Derived.Shelf.Abstract
import Derived.Shelf.RegionOpen
import Derived.WalkKit
import Derived.OwnWalkIn
import Derived.TacticsInMore
import Derived.LoopNIn
import Derived.LoopIn
import Derived.Maps.AppendAt
import Derived.Test.YtpehcaidjlemiaaGreatDoorMCQ13
import Derived.Test.YtpehcaidjlemiaaGreatDoorMCQ02
set_option maxHeartbeats 8000000
set_option maxRecDepth 100000
set_option linter.unusedVariables false
namespace Go.Proofs.YtpehcaidjlemiaaGreatDoor
open Go Go.RowKit
theorem qhR {w w':World} {b:Nat} {e:TypeId} {size n:Nat} {v:Value} {xs:List Value} (ho:w.ownsRow b e size v n xs) (hg:w.grownBy w' v.ownBlock) {k:Nat} {cs:Array Value} {t:TypeId} {fr:Nat × Nat} (hk:w.heap[k]?=some (.cells cs t fr)) (ht:t≠e):w'.heap[k]?=some (.cells cs t fr):=by
 rw [hg.block k (Array.getElem?_eq_some_iff.1 hk).1 ?_,hk];intro e2;obtain ⟨cs',h⟩:=qfa ho e2.symm;rw [hk] at h;injection h with h
 injection h with _ h
 exact ht h
theorem qjY {w:World} {b:Nat} {x y z:Value} {t:TypeId} (h:w.heap[b]?=some (.cells #[x,y,z] t (0,0))):w.cell? ⟨b,0,none⟩=some x/\w.cell? ⟨b,1,none⟩=some y/\w.cell? ⟨b,2,none⟩=some z:=by
 simp [World.cell?,h]
theorem HAt.other {base B:Nat} {w w':World} {H:List Hd} (h:HAt base w B H) {b:Nat} {e:TypeId} {size n:Nat} {v:Value} {xs:List Value} (ho:w.ownsRow b e size v n xs) (hg:w.grownBy w' v.ownBlock) (he:¬ qd6 e):HAt base w' B H:=by
 obtain ⟨h1,u,h2,h3⟩:=h;refine ⟨h1,u,qhR ho hg h2 (fun e2=>he (e2▸ .inr rfl)),qav h3 fun g hg2=> ?_⟩;obtain ⟨cs,hk⟩:=qfa h3 hg2;rw [qhR ho hg hk (fun e2=>he (e2▸ .inl rfl)),hk]
theorem qvP (base B:Nat) (H:List Hd) (x:Hd) (w:World) (h:HAt base w B H) (hx:H[0]?=some x) (hl:H.length<=100000) (hh:qbF qaF H H.length):
  Calls Tryz.prog 94 #[ifH B] w fun e w'=>e= .returned (ifX x)/\∃ R,(x::R).Perm H/\qbF qaF R R.length/\HAt base w' B R/\qaE base w w':=by
 refine (qvI base B H w h (List.getElem?_eq_some_iff.1 hx).1 hl hh).mono ?_;rintro e w' ⟨y,R,rfl,h1,h2,h3,h4,h5⟩;rw [hx] at h2;injection h2 with h2
 subst h2;exact ⟨rfl,R,h1,h3,h4,h5⟩
structure qvQ (l:List (List Int)) (w:World) (B:Nat) (a:List Nat) (o:List Pl) (last:Int) (H:List Hd) (vo:Value) (wr:World):Prop where
 mid:qdQ l a o last
 cnt:o.length=a.sum
 heads:qcV l a H
 heap:qbF qaF H H.length
 few:H.length<=l.length
 out:wr.ownsRow w.heap.size 88 2 vo o.length (plc o)
 at_:HAt w.heap.size wr B H
 below:Below w.heap.size w wr
def qhS (l:List (List Int)) (w:World) (B:Nat) (v5 v6:Value) (wr:World):Prop:=∃ (a:List Nat) (o:List Pl) (last:Int) (H:List Hd),v6= .int .i64 last/\qhw v5=o.length/\qvQ l w B a o last H v5 wr
def qoC (l:List (List Int)) (w:World) (e:Ending) (w':World):Prop:=∃ (err:Int) (o:List Pl) (v:Value),qeh l err o/\e= .returned (.tuple #[v,.int .i64 err])/\w'.ownsRow w.heap.size 88 2 v o.length (plc o)/\Below w.heap.size w w'/\o.length<=1000000
theorem qoD (A:Option Addr) (m c:Nat) (l:List (List Int)) (w:World) (hL:Lol (Value.int .i64) w w.heap.size A l) (hm:l.length=m) (hm2:m<=1000) (hl:∀ s∈l,s.length<=1000):
    Calls Tryz.prog 47 #[.slice A m c] w (qoC l w):=by
  obtain ⟨j0,hj0,hy0,hy1,hy2⟩:=info_parts qtZ;have htot:(l.map List.length).sum<=1000000:=qt2 hm hm2 hl;have C1:=qH (qvO A m c l w hm (by omega) hL);have HL:=qH hL;have HLL:=qH hl;have HM:=qH hm;have HT:=qH htot;obtain ⟨z,hz⟩:∃ z,z=l.all (qaj (-1)):=⟨_,rfl⟩;rw [<- hz] at C1;have HZ:=qH hz;clear hL hl hm htot hz;have hta:=fun v w=>qoA v w
  cases z with
  |false=>
    have hbad:¬ ∀ s∈l,qaj (-1) s=true:=fun h=>by
      have :=List.all_eq_true.2 h;rw [<- HZ.out] at this;cases this
    have HBAD:=qH hbad;clear hbad
    go_enter Tryz.func47,Tryz.ntmps47
    go_wp2_with (go_at_call 89;refine (C1.out).mono ?_;rintro e w1 ⟨rfl,hb1⟩)
    go_ret2;exact ⟨1,[],_,.bad HBAD.out,rfl,World.ownsRow_nil _ _ _ _,hb1,Nat.zero_le _⟩
  |true=>
    have hall:∀ s∈l,qaj (-1) s=true:=fun s hs=>List.all_eq_true.1 (HZ.out).symm s hs
    have HALL:=qH hall;clear hall
    go_enter Tryz.func47,Tryz.ntmps47
    go_wp2_with first
      |(go_at_call 92;rw [<- HW3.out];refine (C3.out).mono ?_;rintro e w4 ⟨⟨v4,rfl⟩,H,hp,hheap,hat,hmild⟩)
      | (go_at_call 91; refine (C2.out).mono ?_; rintro e w2 ⟨v2, H0, rfl, hH, hHl, hown, hb2⟩
         obtain ⟨A2,c2,rfl,_,_,_⟩:=qbh hown;obtain ⟨w3,hw3⟩:∃ w3,w3=w2.alloc (.cells #[.slice A2 H0.length c2] 165):=⟨_,rfl⟩;have hsz2:w.heap.size<=w2.heap.size:=Nat.le_trans (HB1.out).size hb2.size;have hat3:HAt w.heap.size w3 w2.heap.size H0:=by
           rw [hw3];exact ⟨hsz2,_,heap_alloc_new w2 _,(qbc hown (HB1.out).size).alloc _⟩
         have C3:=qH (qvJ w.heap.size w2.heap.size H0 w3 hat3 (by have :=HM.out;omega));have HW3:=qH hw3;have HB3:=qH (show Below w.heap.size w w3 by rw [hw3];exact ((HB1.out).trans (hb2.mono (HB1.out).size)).alloc hsz2 _);have HH:=qH hH;have HHL:=qH hHl;clear hw3 hat3 hown hb2 hH hHl hsz2)
      | (go_at_call 89; refine (C1.out).mono ?_; rintro e w1 ⟨rfl, hb1⟩
         have C2:=qH (qvB A m c l w1 ((HL.out).later hb1) HM.out (by omega));have HB1:=qH hb1;clear hb1)
    obtain ⟨B,hB⟩:∃ B,B=w2.heap.size:=⟨_,rfl⟩;rw [<- hB] at hat;have hst:qhS l w B (.slice none 0 0) (.int .i64 (-1)) w4:=
      ⟨List.replicate l.length 0,[], -1,H,rfl,rfl,qta HALL.out,by simp,((HH.out).start).perm hp,hheap,by rw [hp.length_eq];exact HHL.out,World.ownsRow_nil _ _ _ _,hat,(HB3.out).trans hmild.below⟩
    have HST:=qH hst;clear hst hat hheap hp hmild HH HHL HB3 HW3 C3 C2 C1
    try rw [<- hB]
    clear hB
    go_loopw [5,6,7,8] (fun v5 v6 v7 v8 wr=>qhS l w B v5 v6 wr) (fun v5 _ _ _ _=>1000001-qhw v5)
    case atStart=>exact HST.out
    case round=>
      clear HST;obtain ⟨a,o,last,H,rfl,hlen,hat⟩:=hrel;have hlm:H.length<=1000:=by have h1:=hat.few;have h2:=HM.out;omega
      have hle0:=qjw hat.mid.len hat.mid.le;have hcnt0:=hat.cnt;have hol:o.length<=1000000:=by have :=HT.out;omega
      obtain ⟨Ah,ch,hch,_,_,_⟩:=hat.at_.read;have hall:=HALL.out;cases H with
      |nil=>
        obtain ⟨Ao,co,rfl,hco,hcm,hro⟩:=qbh hat.out;have HFIN:=qH (show qoC l w (.returned (.tuple #[.slice Ao o.length co,.int .i64 0])) wr from ⟨0,o,_,.ok hall (hat.heads.none hat.mid),rfl,hat.out,hat.below,hol⟩)
        clear hat hcnt0 hle0 hall hlen hol hro hco hcm;simp only [List.length_nil] at hch
        go_wp2_with (go_at_call 93;refine (qf4 _ _ _ _).mono ?_;rintro e w5 ⟨rfl,rfl⟩)
        go_ret2;exact HFIN.out
      |cons x R0=>
        obtain ⟨x1,x2,x3⟩:=x;obtain ⟨hin,hx3,hx1⟩:=hat.heads.ins _ (List.mem_cons_self ..);simp only at hin hx3 hx1;have hin':InO l (x2,x3):=hin;have hkl:x2<l.length:=hin'.1;have hkn:x3<l[x2].length:=(qdf.1 hin').2;clear hin';have hba:x2<a.length:=by rw [hat.mid.len];exact hkl
        have hmin:∀ y∈R0,x1<=y.1:=fun y hy=>by
          obtain ⟨j,hj,rfl⟩:=List.getElem_of_mem hy;have :=hat.heap.least (Nat.le_refl _) (j+1) (by simpa using hj);simpa using this
        obtain ⟨hb1,hb2⟩:=hat.heads.least (x:=(x1,x2,x3)) hmin;simp only at hb1 hb2;rw [<- hx3] at hb1 hb2;have hstep:=fun hn=>hat.mid.step hall (b:=x2) (by rw [<- hx3];exact hb1) (by rw [<- hx3];exact hb2) hn
        have htw:=fun he=>hat.mid.twice hall (b:=x2) (by rw [<- hx3];exact hb1) he
        rw [<- hx3,<- hx1] at hstep htw;have hsum:=qnm a x2 hba;rw [<- hx3] at hsum;have CP:=qvP w.heap.size B _ (x1,x2,x3) wr hat.at_ rfl (by omega) hat.heap;have hHlen:(((x1,x2,x3)::R0:List Hd).length:Int)=(R0.length:Int)+1:=by simp
        have hbw:=hat.below;have hdec:decide ((0:Int)<(R0.length:Int)+1)=true:=decide_eq_true (by omega);have HCP:=qH CP;have HSTEP:=qH hstep;have HTW:=qH htw;have HSUM:=qH hsum;have HAT:=qH hat;have HBW:=qH hbw;have HX3:=qH hx3;have HX1:=qH hx1;have HB1:=qH hb1;clear hstep htw hsum hmin hb1 hb2 hin CP hat hle0 hcnt0 hall hx3 hx1 hbw hHlen;by_cases hxl:x1=last
        · have TW:=qH (HTW.out hxl)
          have d1:(x1==last)=true:=by rw [hxl];exact beq_self_eq_true _
          clear hxl hkn hlen hol
          go_wp2_with (first
            |(go_at_call 94;refine (HCP.out).mono ?_;rintro e w3 ⟨rfl,R,hp,hheap,hat3,hm3⟩)
            |(go_at_call 93;refine (qf4 _ _ _ _).mono ?_;rintro e w5 ⟨rfl,rfl⟩))
          go_ret2;exact ⟨5,[],_,.twice HALL.out TW.out,rfl,World.ownsRow_nil _ _ _ _,((HBW.out).trans hm3.below).alloc (Nat.le_trans (HBW.out).size hm3.below.size) _,Nat.zero_le _⟩
        · have d1:(x1==last)=false:=beq_eq_false_iff_ne.2 hxl
          have hnx:=HSTEP.out hxl;have hle1:=qjw hnx.len hnx.le;rw [HSUM.out] at hle1;have hN1:o.length+1<=1000000:=by have h1:=HT.out;have h2:=(HAT.out).cnt;omega
          have NX:=qH hnx;obtain ⟨b1,o1,A',c',rfl,hbl1,q1,⟨hc1,hc2⟩,hrow⟩:=((HL.out).below (HBW.out)).at_ hkl;obtain ⟨b2,o2,rfl,hbl2,_⟩:=qcO hrow (k:=x3) hkn;have hval:∀ (hn:x3+1<l[x2].length),l[x2][x3+1]=qaK l (x2,x3+1):=fun hn=>(qfq hkl hn).symm
          have hio:x3+1<l[x2].length->InO l (x2,x3+1):=fun hn=>qdf.2 ⟨hkl,hn⟩
          have hno:¬ x3+1<l[x2].length->¬ InO l (x2,x3+1):=fun hn h=>hn (qdf.1 h).2
          have hcy:∀ (hn:x3+1<l[x2].length),wr.cell? ⟨b2,o2+(x3+1),none⟩=some (.int .i64 (qaK l (x2,x3+1))):=fun hn=>by
            obtain ⟨b3,o3,e3,_,hc3⟩:=qcO hrow (k:=x3+1) hn;injection e3 with e3
            injection e3 with e3 e4
            subst e3 e4;rw [hval hn] at hc3;exact hc3
          obtain ⟨n,hn⟩:∃ n,n=l[x2].length:=⟨_,rfl⟩;rw [<- hn] at q1 hc1 hkn hio hno hcy;obtain ⟨N,hN⟩:∃ N,N=o.length:=⟨_,rfl⟩;rw [<- hN] at hN1 hlen;have hout:=(HAT.out).out;rw [<- hN] at hout;have hgb:=(HAT.out).heads;have hla:=(HAT.out).mid.len;have hfew:=(HAT.out).few;rw [List.length_cons] at hfew;have hx2m:(x2:Int)<(m:Int):=by have :=HM.out;omega
          have hnb:n<=9223372036854775807:=by unfold maxLen at hc2;omega
          have HN:=qH hN;have HLEN:=qH hlen;have HOUT:=qH hout;have HFEW:=qH hfew;have hQ:∀ W,Below w.heap.size wr W->W.cell? ⟨b1,o1+x2,none⟩=some (.slice (some ⟨b2,o2,none⟩) n c'):=fun W hW=>(hW.cell (p:=⟨b1,o1+x2,none⟩) hbl1).trans q1
          have HQ:=qH hQ;unfold maxLen at hc2;clear hxl hnx hle1 hN hlen hout hfew hQ q1 hrow hol hval hn;by_cases hn1:x3+1<n
          · have hi:=hio hn1
            have hnext:=hgb.next hla hi;have hcy1:=hcy hn1;simp only at hnext;obtain ⟨y,hy⟩:∃ y,y=qaK l (x2,x3+1):=⟨_,rfl⟩;rw [<- hy] at hnext hcy1;have HNEXT:=qH hnext;have HY:Hid (∀ W,Below w.heap.size wr W->W.cell? ⟨b2,o2+(x3+1),none⟩=some (.int .i64 y)):=qH fun W hW=>(hW.cell (p:=⟨b2,o2+(x3+1),none⟩) hbl2).trans hcy1
            have hnc:¬ c'=x3+1:=by omega
            have hd2:decide ((0:Int)<((n-(x3+1):Nat):Int))=true:=decide_eq_true (by omega);have hd3:decide (0<n-(x3+1))=true:=decide_eq_true (by omega);have hd4:0<n-(x3+1):=by omega
            clear hgb hi hnext hcy1 hcy hio hno hy hla
            go_wp2_with (first
              | (go_at_call 94; refine (HCP.out).mono ?_; rintro e w3 ⟨rfl, R, hp, hheap, hat3, hm3⟩
                 have HP:=qH (hp.cons_inv);have HHE:=qH hheap;have HAT3:=qH hat3;have HM3:=qH hm3;have HO3:=qH (hm3.owned HOUT.out (by unfold qd6;decide));clear hp hheap hat3 hm3)
              |(go_at_call 93;refine (qf4 _ _ _ _).mono ?_;rintro e w5 ⟨rfl,h5⟩;obtain rfl:wr=w5:=h5.symm)
              | (at_builtin; refine wpList_append_own _ rfl (.tmp 27) (.tmp 33) 85 rfl w.heap.size 88 j0 _ 2 16 Tryz.underlying85 hj0 hy0 hy1 hy2 rfl (by omega) _ N (plc o) rfl ((HO3.out.alloc _).alloc _) ⟨w3.heap.size + 1, 0, none⟩ 1 1 [.int .i64 (x2 : Int), .int .i64 (x3 : Int)] rfl rfl (by simpa using qaQ (w3.alloc _) [.int .i64 (x2 : Int), .int .i64 (x3 : Int)] 88) (by intro u hu; simp at hu; rcases hu with rfl | rfl <;> rfl) (by unfold maxLen; omega) (by omega) (by have h1 := (HBW.out).size; have h2 := (HM3.out).below.size; simp; omega) ?_
                 intro v6 w6 hown6 hg6 _))
            have hal3:Below w3.heap.size w3 ((w3.alloc (.cells #[.int .i64 x1,.int .i64 (x2:Int),.int .i64 (x3:Int)] 170)).alloc (.cells #[.int .i64 (x2:Int),.int .i64 (x3:Int)] 88)):=((Below.refl _ w3).alloc (Nat.le_refl _) _).alloc (by simp) _;have hbox:((w3.alloc (.cells #[.int .i64 x1,.int .i64 (x2:Int),.int .i64 (x3:Int)] 170)).alloc (.cells #[.int .i64 (x2:Int),.int .i64 (x3:Int)] 88)).heap[w3.heap.size]?=some (.cells #[.int .i64 x1,.int .i64 (x2:Int),.int .i64 (x3:Int)] 170 (0,0)):=by rw [Below.heap_alloc _ _ _ (by simp)];exact heap_alloc_new w3 _
            have hO3a:=qan HO3.out hal3;have hat6:=((HAT3.out).below hal3).other hO3a hg6 (by unfold qd6;decide);have hbx6:=qhR hO3a hg6 hbox (by decide);have hs36:w.heap.size<=w3.heap.size:=by have h1:=(HBW.out).size;have h2:=(HM3.out).below.size;omega
            have hb6:Below w.heap.size wr w6:=((HM3.out).below.trans (hal3.mono hs36)).grown hg6 (Nat.le_trans hs36 hal3.size) (fun q hq=>(hO3a.lt q hq).1);obtain ⟨A6,c6,e6,_,_,_⟩:=qbh hown6;have hl6:qhw v6=N+1:=by rw [e6];rfl
            obtain ⟨X,hX⟩:∃ X,X=w3.heap.size:=⟨_,rfl⟩;rw [<- hX] at hbx6
            try rw [<- hX]
            obtain ⟨p1,p2,p3⟩:=qjY hbx6;have q1:=HQ.out w6 hb6;have HL6:=qH hl6;have HAT6:=qH hat6;have HO6:=qH hown6;have HBX6:=qH hbx6;have HB6:=qH hb6;have HS6:Hid (w.heap.size<=w6.heap.size):=qH (Nat.le_trans (HBW.out).size hb6.size);clear hal3 hbox hO3a hat6 hbx6 hb6 e6 hl6 hown6 hg6 hX hs36
            go_quiet (fail)
            generalize hwz:World.drewN _ nq=wz;have hz:Below w6.heap.size w6 wz:=by rw [<- hwz];exact ⟨rfl,rfl,rfl,Nat.le_refl _,fun _ _=>rfl⟩
            have hbz:Below w.heap.size wr wz:=(HB6.out).trans (hz.mono HS6.out);have HATZ:=qH ((HAT6.out).below hz);have HOZ:=qH (qan HO6.out hz);have HBZ:=qH hbz;obtain ⟨p4,p5,p6⟩:=qjY ((hz.block X (lt_of_block HBX6.out)).trans HBX6.out);have q2:=(HY.out) wz hbz;clear hwz hz hbz p1 p2 p3 q1;go_wp2;refine wp_region_still_tail 11 (by kernel_rfl) (by kernel_rfl) ?_;simp only [List.take_succ_cons,List.take_zero,List.drop_succ_cons,List.drop_zero]
            still_step
            still_step
            still_step
            still_step
            still_step
            still_step
            still_step
            still_step
            still_step
            still_step
            still_step
            refine wpStill_nil ?_;change wpList _ _ _ _ _ wz.drew;have C7:Calls Tryz.prog 95 #[ifH B,.iface 170 (.agg #[.int .i64 y,.int .i64 (x2:Int),.int .i64 ((x3:Int)+1)])] wz.drew (qfy w.heap.size B (R++[(y,x2,x3+1)]) wz.drew):=by
              have h7:=qvE w.heap.size B R (y,x2,x3+1) wz.drew (HATZ.out).drew (by have h1:=(HP.out).length_eq;have h2:=HFEW.out;have h3:=HM.out;omega) HHE.out;rw [show (x3:Int)+1=((x3+1:Nat):Int) by omega];exact h7
            go_wp2_with (go_at_call 95;refine C7.mono ?_;rintro e w7 ⟨⟨v7,rfl⟩,l7,hp7,hh7,hat7,hm7⟩)
            have hlen7:l7.length=R0.length+1:=by rw [hp7.length_eq,List.length_append,List.length_singleton,(HP.out).length_eq]
            have hout7:=hm7.owned (show wz.drew.ownsRow w.heap.size 88 2 v6 (N+1) _ from HOZ.out) (by unfold qd6;decide)
            have hfin:qhS l w B v6 (.int .i64 x1) w7:=by
              refine ⟨a.set x2 (x3+1),o++[(x2,x3)],x1,l7,rfl,by rw [HL6.out,List.length_append,<- HN.out];rfl,NX.out,by rw [List.length_append,HSUM.out,<- (HAT.out).cnt];rfl,(HNEXT.out).perm (hp7.trans ((List.perm_append_singleton _ _).trans ((HP.out).cons _))),hh7,by rw [hlen7];exact HFEW.out,?_,hat7,?_⟩
              · rw [List.length_append,<- HN.out,qjs]
                exact hout7
              · exact ((HBW.out).trans HBZ.out).trans (Below.trans (Below.refl _ wz).drew hm7.below)
            have HFIN:=qH hfin;clear hfin hout7 hlen7 hp7 hh7 hat7 hm7;go_roundw
            case rel=>exact HFIN.out
            case measure=>have h1:=HL6.out;have h2:=HLEN.out;simp;omega
          · have hlast:=hgb.last hla (hno hn1)
            simp only at hlast;have HLAST:=qH hlast;have hd2:decide ((0:Int)<((n-(x3+1):Nat):Int))=false:=decide_eq_false (by omega);have hd3:decide (0<n-(x3+1))=false:=decide_eq_false (by omega);have hle3:x3+1<=n:=by omega
            clear hgb hlast hcy hio hno hla
            go_wp2_with (first
              | (go_at_call 94; refine (HCP.out).mono ?_; rintro e w3 ⟨rfl, R, hp, hheap, hat3, hm3⟩
                 have HP:=qH (hp.cons_inv);have HHE:=qH hheap;have HAT3:=qH hat3;have HM3:=qH hm3;have HO3:=qH (hm3.owned HOUT.out (by unfold qd6;decide));clear hp hheap hat3 hm3)
              |(go_at_call 93;refine (qf4 _ _ _ _).mono ?_;rintro e w5 ⟨rfl,h5⟩;obtain rfl:wr=w5:=h5.symm)
              | (at_builtin; refine wpList_append_own _ rfl (.tmp 27) (.tmp 33) 85 rfl w.heap.size 88 j0 _ 2 16 Tryz.underlying85 hj0 hy0 hy1 hy2 rfl (by omega) _ N (plc o) rfl ((HO3.out.alloc _).alloc _) ⟨w3.heap.size + 1, 0, none⟩ 1 1 [.int .i64 (x2 : Int), .int .i64 (x3 : Int)] rfl rfl (by simpa using qaQ (w3.alloc _) [.int .i64 (x2 : Int), .int .i64 (x3 : Int)] 88) (by intro u hu; simp at hu; rcases hu with rfl | rfl <;> rfl) (by unfold maxLen; omega) (by omega) (by have h1 := (HBW.out).size; have h2 := (HM3.out).below.size; simp; omega) ?_
                 intro v6 w6 hown6 hg6 _))
            have hal3:Below w3.heap.size w3 ((w3.alloc (.cells #[.int .i64 x1,.int .i64 (x2:Int),.int .i64 (x3:Int)] 170)).alloc (.cells #[.int .i64 (x2:Int),.int .i64 (x3:Int)] 88)):=((Below.refl _ w3).alloc (Nat.le_refl _) _).alloc (by simp) _;have hbox:((w3.alloc (.cells #[.int .i64 x1,.int .i64 (x2:Int),.int .i64 (x3:Int)] 170)).alloc (.cells #[.int .i64 (x2:Int),.int .i64 (x3:Int)] 88)).heap[w3.heap.size]?=some (.cells #[.int .i64 x1,.int .i64 (x2:Int),.int .i64 (x3:Int)] 170 (0,0)):=by rw [Below.heap_alloc _ _ _ (by simp)];exact heap_alloc_new w3 _
            have hO3a:=qan HO3.out hal3;have hat6:=((HAT3.out).below hal3).other hO3a hg6 (by unfold qd6;decide);have hbx6:=qhR hO3a hg6 hbox (by decide);have hs36:w.heap.size<=w3.heap.size:=by have h1:=(HBW.out).size;have h2:=(HM3.out).below.size;omega
            have hb6:Below w.heap.size wr w6:=((HM3.out).below.trans (hal3.mono hs36)).grown hg6 (Nat.le_trans hs36 hal3.size) (fun q hq=>(hO3a.lt q hq).1);obtain ⟨A6,c6,e6,_,_,_⟩:=qbh hown6;have hl6:qhw v6=N+1:=by rw [e6];rfl
            obtain ⟨X,hX⟩:∃ X,X=w3.heap.size:=⟨_,rfl⟩;rw [<- hX] at hbx6
            try rw [<- hX]
            obtain ⟨p1,p2,p3⟩:=qjY hbx6;have q1:=HQ.out w6 hb6;have HL6:=qH hl6;have HAT6:=qH hat6;have HO6:=qH hown6;have HBX6:=qH hbx6;have HB6:=qH hb6;have HS6:Hid (w.heap.size<=w6.heap.size):=qH (Nat.le_trans (HBW.out).size hb6.size);clear hal3 hbox hO3a hat6 hbx6 hb6 e6 hl6 hown6 hg6 hX hs36
            go_quiet (fail)
            generalize hwz:World.drewN _ nq=wz;have hz:Below w6.heap.size w6 wz:=by rw [<- hwz];exact ⟨rfl,rfl,rfl,Nat.le_refl _,fun _ _=>rfl⟩
            have hbz:Below w.heap.size wr wz:=(HB6.out).trans (hz.mono HS6.out);have HATZ:=qH ((HAT6.out).below hz);have HOZ:=qH (qan HO6.out hz);have HBZ:=qH hbz;clear hwz hz hbz p1 p2 p3 q1;go_wp2;have hfin:qhS l w B v6 (.int .i64 x1) wz:=by
              refine ⟨a.set x2 (x3+1),o++[(x2,x3)],x1,R,rfl,by rw [HL6.out,List.length_append,<- HN.out];rfl,NX.out,by rw [List.length_append,HSUM.out,<- (HAT.out).cnt];rfl,(HLAST.out).perm HP.out,HHE.out,by have h1:=(HP.out).length_eq;have h2:=HFEW.out;omega,?_,HATZ.out,(HBW.out).trans HBZ.out⟩;rw [List.length_append,<- HN.out,qjs];exact HOZ.out
            have HFIN:=qH hfin;clear hfin;go_roundw
            case rel=>exact HFIN.out
            case measure=>have h1:=HL6.out;have h2:=HLEN.out;simp;omega
theorem qoE (A:Option Addr) (m c:Nat) (l:List (List Int)) (w:World) (hL:Lol (Value.int .i64) w w.heap.size A l) (hm:l.length=m) (hm2:m<=1000) (hl:∀ s∈l,s.length<=1000):
  Calls Tryz.prog 47 #[.slice A m c] w (qt1 l w):=by
 refine (qoD A m c l w hL hm hm2 hl).mono ?_;rintro e w' ⟨err,o,v,h1,rfl,h2,h3,h4⟩;obtain ⟨Ao,co,rfl,h5,h6,h7⟩:=qbh h2;exact ⟨err,o,Ao,co,h1,rfl,⟨h5,h6⟩,h7,h3,h4⟩
section
variable {L:List (List Int)} {w wr w' wy w6:World} {D m lo k Bk j:Nat} {s:List Int} {v v6:Value} {cs0:List Value}
theorem qa0.begin2 (hown:wr.ownsRow w.heap.size 23 1 (.slice (some ⟨D,0,none⟩) m m) m (List.replicate m qaZ)) (hD:D<lo) (hm:L.length=m) (hb:Below w.heap.size w wr):qa0 L w D m lo 0 wr:=by
 refine ⟨[],rfl,Nat.zero_le _,hm,⟨by simpa using hown,hD,by rw [qhq (Nat.zero_le _),hm],?_,Nat.le_refl _⟩,hb⟩;rw [qjo,hm];exact qjn _ _ _ _
theorem qa0.low (h:qa0 L w D m lo k wr):D<lo/\D<wr.heap.size/\Below w.heap.size w wr/\k<=m:=by
 obtain ⟨cs0,h1,h2,h3,h4,h5⟩:=h;exact ⟨h4.lt,(h4.own.lt _ rfl).2,h5,h2⟩
theorem qa0.later (h:qa0 L w D m lo k wr) (hb:Below wr.heap.size wr w'):qa0 L w D m lo k w':=by
 obtain ⟨cs0,h1,h2,h3,h4,h5⟩:=h;have h6:=h4.later hb;exact ⟨cs0,h1,h2,h3,⟨h6.own,h6.lt,h6.len,h6.rows.more hb.size,Nat.le_refl _⟩,h5.trans (hb.mono h5.size)⟩
theorem qa0.put (h:qa0 L w D m lo k wr) (hk:k<m) (hlo:lo<=wr.heap.size) (hb:Below wr.heap.size wr w') (hs:∀ hk:k<L.length,L[k]=s) (ho:w'.ownsRow wr.heap.size 3 1 v s.length (qaa s)):
  w'.cell? ⟨D,k,none⟩=some qaZ/\w'.frozen? ⟨D,k,none⟩=false/\∃ A c,v= .slice A s.length c/\s.length<=c/\c<=maxLen/\qcG (w'.setCell ⟨D,k,none⟩ v) lo w'.heap.size A (qaa s)/\qa0 L w D m lo (k+1) (w'.setCell ⟨D,k,none⟩ v):=by
 obtain ⟨hDlo,hDlt,hbw,_⟩:=h.low;obtain ⟨cs0,h1,h2,h3,h4,h5⟩:=h;have hkl:k<L.length:=by omega
 have h6:=h4.later hb;obtain ⟨A,c,rfl,g1,g2,g3⟩:=qjm (lo:=lo) ho hlo;have hcell:w'.cell? ⟨D,k,none⟩=some qaZ:=by
  rw [h6.own.cellAt k (by omega),List.getElem?_append_right (by omega),h1,Nat.sub_self,show m-k=(m-k-1)+1 by omega,List.replicate_succ];rfl
 refine ⟨hcell,h6.own.frozenAt k,A,c,rfl,g1,g2,g3.keep fun b hb1 hb2=>Below.heap_setCell _ _ _ _ (by simp only;omega),?_⟩;have hset:=qbO.set (i:=k) (x:=s) (A:=A) (c:=c) (⟨h6.own,h6.lt,h6.len,h6.rows.more hb.size,Nat.le_refl _⟩:qbO (Value.int .i64) 23 w.heap.size D m lo w'.heap.size w' _ _) ⟨g1,g2⟩ g3;have e1:(cs0++List.replicate (m-k) qaZ).set k (.slice A s.length c)=(cs0++[.slice A s.length c])++List.replicate (m-(k+1)) qaZ:=by
  have :=qgA (a:=cs0) (n:=m-k) (d:=qaZ) (x:= .slice A s.length c) (by omega);rw [h1] at this;rw [this,List.append_assoc,show m-k-1=m-(k+1) by omega];rfl
 rw [e1,show (upL L k []).set k s=upL L (k+1) [] by rw [<- hs hkl];exact qjp hkl] at hset;have hsz:(w'.setCell ⟨D,k,none⟩ (.slice A s.length c)).heap.size=w'.heap.size:=by simp [World.setCell]
 refine ⟨cs0++[.slice A s.length c],by simp [h1],hk,h3,⟨hset.own,hset.lt,hset.len,by rw [hsz];exact hset.rows,Nat.le_refl _⟩,?_⟩;exact (h5.trans (hb.mono h5.size)).setCell (p:=⟨D,k,none⟩) h4.from_ _
theorem qa0.other (h:qa0 L w D m lo k wr) {D2 i:Nat} (hne:D2≠D) (hlo:D2<lo) (hw:w.heap.size<=D2) (u:Value):qa0 L w D m lo k (wr.setCell ⟨D2,i,none⟩ u):=by
 obtain ⟨cs0,h1,h2,h3,h4,h5⟩:=h;have h6:=h4.other (p:=⟨D2,i,none⟩) hne hlo u;have hsz:(wr.setCell ⟨D2,i,none⟩ u).heap.size=wr.heap.size:=by simp [World.setCell]
 exact ⟨cs0,h1,h2,h3,⟨h6.own,h6.lt,h6.len,by rw [hsz];exact h6.rows,Nat.le_refl _⟩,h5.setCell (p:=⟨D2,i,none⟩) hw _⟩
theorem qdh.kept (h:qdh L w D m lo k Bk j s v cs0 wy) (hg:wy.grownBy w6 v.ownBlock) {b:Nat} (hb:b<Bk) (hD:b≠D):(w6.setCell ⟨D,k,none⟩ v6).heap[b]?=wy.heap[b]?:=by
 rw [Below.heap_setCell _ _ _ _ hD,hg.block b (Nat.lt_of_lt_of_le hb h.top) (fun e=> ?_)];have :=(h.mine.lt b e.symm).1;omega
structure qfz (L:List (List Int)) (w:World) (D m lo k Bk:Nat) (wx:World):Prop where
 up:∃ cs0:List Value,cs0.length=k/\k<=m/\L.length=m/\qbO (Value.int .i64) 23 w.heap.size D m lo Bk wx (upL L k []) (cs0++List.replicate (m-k) qaZ)
 below:Below w.heap.size w wx
theorem qa0.stay (h:qa0 L w D m lo k wr):qfz L w D m lo k wr.heap.size wr:=by
 obtain ⟨cs0,h1,h2,h3,h4,h5⟩:=h;exact ⟨⟨cs0,h1,h2,h3,h4⟩,h5⟩
theorem qfz.keep (h:qfz L w D m lo k Bk wy) (hlo:lo<=Bk) (hk:∀ b,b<Bk->(b=D∨lo<=b)->w'.heap[b]?=wy.heap[b]?) (hs:wy.heap.size<=w'.heap.size) (hb:Below w.heap.size w w'):qfz L w D m lo k Bk w':=by
 obtain ⟨⟨cs0,h1,h2,h3,h4⟩,h5⟩:=h;have hlt:=h4.lt;exact ⟨⟨cs0,h1,h2,h3,h4.keep (hk D (by omega) (.inl rfl)) (fun b hb1 hb2=>hk b hb2 (.inr hb1)) hs⟩,hb⟩
theorem qfz.up_ (h:qfz L w D m lo k Bk wy):qa0 L w D m lo k wy:=by
 obtain ⟨⟨cs0,h1,h2,h3,h4⟩,h5⟩:=h;exact ⟨cs0,h1,h2,h3,⟨h4.own,h4.lt,h4.len,h4.rows.more h4.top,Nat.le_refl _⟩,h5⟩
end
open Go.Shelf
open Plain (Wd WS Rep qaV qb6)
attribute [local go_sem] Oper.semAt_some
def KpX (X:Nat->Prop) (W W':World):Prop:=W.heap.size<=W'.heap.size/\∀ k,k<W.heap.size->¬ X k->∀ o:Obj,W.heap[k]?=some o->o.isCells=true->W'.heap[k]?=some o
theorem KpX.refl (X:Nat->Prop) (W:World):KpX X W W:=⟨Nat.le_refl _,fun _ _ _ _ h _=>h⟩
theorem KpX.trans {X:Nat->Prop} {A B C:World} (h:KpX X A B) (k:KpX X B C):KpX X A C:=
 ⟨Nat.le_trans h.1 k.1,fun i hi hx o ho hc=>k.2 i (Nat.lt_of_lt_of_le hi h.1) hx o (h.2 i hi hx o ho hc) hc⟩
theorem KpX.of_below {X:Nat->Prop} {W W':World} (h:Below W.heap.size W W'):KpX X W W':=⟨h.size,fun k hk _ o ho _=>by rw [h.block k hk];exact ho⟩
theorem KpX.putObj (X:Nat->Prop) (W:World) (l:Nat) (o o':Obj) (hl:W.heap[l]?=some o) (hc:o.isCells=false):KpX X W (W.putObj l o'):=by
 refine ⟨by simp [World.putObj],fun k hk _ p hp hpc=> ?_⟩;by_cases e:k=l
 ·subst e
  rw [hl] at hp;injection hp with hp
  subst hp;rw [hc] at hpc;cases hpc
 ·simp only [World.putObj]
  rw [Array.getElem?_setIfInBounds_ne (by omega)];exact hp
theorem KpX.cell {X:Nat->Prop} {W W':World} (h:KpX X W W') {a:Addr} {v:Value} (hx:¬ X a.block) (hc:W.cell? a=some v):W'.cell? a=some v:=by
 have hlt:=World.block_lt_of_cell? W a hc;obtain ⟨o,ho⟩:∃ o,W.heap[a.block]?=some o:=⟨_,Array.getElem?_eq_getElem hlt⟩;have hcells:o.isCells=true:=by
  cases o<;>simp [World.cell?,ho] at hc<;>rfl
 rw [World.cell?_of_block (w:=W) (by rw [h.2 _ hlt hx o ho hcells,ho])];exact hc
theorem qbs.keepX {X:Nat->Prop} {w w':World} {base B n:Nat} {ws:List Wd} (h:qbs w base B n ws) (hk:KpX X w w') (h1:¬ X B) (h2:∀ g,qdF w B=some g->¬ X g):qbs w' base B n ws/\qdF w' B=qdF w B:=by
 have hl:=h.lt;obtain ⟨hb,v,hv,ho⟩:=h;have hB:=hk.2 B hl h1 _ hv rfl;refine ⟨⟨hb,v,hB,qav ho fun g hg=> ?_⟩,qvm (by rw [hB,hv])⟩;have hgo:qdF w B=some g:=by rw [qgG hv];exact hg
 rcases ho.2 with ⟨rfl,_⟩|⟨g',cap,cur,rfl,_,hh,_⟩
 ·cases hg
 ·simp only [Value.ownBlock,Option.some.injEq] at hg
  subst hg;rw [hk.2 g' (Array.getElem?_eq_some_iff.1 hh).1 (h2 _ hgo) _ hh rfl,hh]
theorem Tab.keepX {X:Nat->Prop} {w w':World} (h:Tab w) (hk:KpX X w w') (h1:¬ X 0):Tab w':=fun j hj=>hk.cell (a:=⟨0,j,none⟩) h1 (h j hj)
structure qf5 (X:Nat->Prop) (D C n:Nat) (ws:List Wd) (W:World):Prop where
 var:W.cell? ⟨D,0,none⟩=some (.pointer (some ⟨C,0,none⟩))
 set:qbs W 0 C n ws
 tab:Tab W
 xD:¬ X D
 xC:¬ X C
 xG:∀ g,qdF W C=some g->¬ X g
 xT:¬ X 0
theorem qf5.keep {X:Nat->Prop} {D C n:Nat} {ws:List Wd} {W W':World} (h:qf5 X D C n ws W) (hk:KpX X W W'):qf5 X D C n ws W':=by
 obtain ⟨h1,h2⟩:=h.set.keepX hk h.xC h.xG;exact ⟨hk.cell (a:=⟨D,0,none⟩) h.xD h.var,h1,h.tab.keepX hk h.xT,h.xD,h.xC,fun g hg=>h.xG g (by rw [<- h2];exact hg),h.xT⟩
theorem qjZ {J:List Nat->World->Prop} {B:Nat} (hJ:AbidesFrom B J) {s:List Nat} {W W':World} (h:J s W) (hb:Below W.heap.size W W'):J s W':=
 hJ s W W' none h ⟨hb.os,hb.tape,hb.output,hb.size,fun k hk _=>hb.block k hk⟩ (fun r e=>by cases e)
def qvR (X:Nat->Prop) (ws:List Wd) (J:List Nat->World->Prop) (W:World) (i:Value) (wr:World):Prop:=
 ∃ k:Nat,k<=ws.length/\i= .int .i64 k/\J (qaV (ws.take k)) wr/\KpX X W wr
def qvS (X:Nat->Prop) (ws:List Wd) (k:Nat) (p:Wd) (J:List Nat->World->Prop) (W:World) (v:Value) (wr:World):Prop:=
 ∃ (b y:Nat) (done:List Nat),v= .pointer (some ⟨b,0,none⟩)/\W.heap.size<=b/\wr.cell? ⟨b,0,none⟩=some (.int .i64 p.1)/\wr.cell? ⟨b,1,none⟩=some (.int .u64 y)/\y<18446744073709551616/\
  qb6 p=done++qb6 (p.1,y)/\J (qaV (ws.take k)++done) wr/\KpX X W wr
def qj0 (v:Value) (w:World):Nat:=match v with| .pointer (some a)=>(match w.cell? ⟨a.block,1,none⟩ with|some (.int _ z)=>z.toNat|_=>0)|_=>0
theorem qoF {w:World} {b y:Nat} (h:w.cell? ⟨b,1,none⟩=some (.int .u64 y)):qj0 (.pointer (some ⟨b,0,none⟩)) w=y:=by simp [qj0,h]
theorem qoG {ws:List Wd} {k:Nat} (hk:k<ws.length):qaV (ws.take (k+1))=qaV (ws.take k)++qb6 (ws[k]'hk):=by
 rw [List.take_succ_eq_append_getElem hk,Plain.elems_append];simp [qaV]
theorem qvT {ws:List Wd} {k:Nat} (hk:k<ws.length):qaV ws=qaV (ws.take k)++(qb6 (ws[k]'hk)++qaV (ws.drop (k+1))):=by
 have e:qaV ws=qaV (ws.take (k+1))++qaV (ws.drop (k+1)):=by rw [<- Plain.elems_append,List.take_append_drop]
 rw [e,qoG hk,List.append_assoc]
theorem qvU (n l D C N:Nat) (hn:1<=n) (X:Nat->Prop) (ws:List Wd) (hw:WS N ws) (hN:N<=big) (J Jx:List Nat->World->Prop) (W:World) (hX:∀ k,X k->k<W.heap.size)
  (hJ:AbidesFrom W.heap.size J)
  (hY:∀ pre x W1,J pre W1->pre.length<(qaV ws).length->YieldAt Fence.wide (n-1) Tryz.prog l #[.int .i64 ((x:Nat):Int)] W1 fun e W'=>
   (e= .returned (.bool true)/\J (pre++[x]) W'/\KpX X W1 W')∨(e= .returned (.bool false)/\Jx (pre++[x]) W'))
  (hR:qf5 X D C N ws W) (h0:J [] W):
  CallsIn Fence.wide n Tryz.prog 170 #[.func (.yield l) #[] #[],.pointer (some ⟨D,0,none⟩)] W fun e W'=>(∃ v,e= .returned v)/\
   ((∃ ys,ys=qaV ws/\J ys W')∨(∃ pre,pre<+:qaV ws/\Jx pre W')):=by
 refine callsIn_of_wp Tryz.func170 rfl trivial ?_ rfl;simp only [Tryz.ntmps170,List.size_toArray,List.length_cons,List.length_nil,Nat.reduceAdd,Nat.reduceSub,Array.replicate_succ,Array.replicate_zero,List.push_toArray,List.append_toArray,List.nil_append,List.cons_append];obtain ⟨A,c,c0,c1,hc,hr⟩:=hR.set.read;have cD:=hR.var;have HR:=qH hR;have HY:=qH hY;have HJ:=qH hJ;have HX:=qH hX;have H0:=qH h0;have HW:=qH hw;have HN:=qH hN;have hl:=(qgT hw hN).1;clear hR hY hJ hX h0 hr hw hN;gi_wp2
 gi_loopw [10] (qvR X ws J W) (fun i _=>ws.length-(intOf i).toNat)
 case atStart=>exact ⟨0,Nat.zero_le _,rfl,H0.out,KpX.refl _ _⟩
 case round=>
  obtain ⟨k,hk,rfl,hJk,hkp⟩:=hrel;have HRW:=qH (HR.out.keep hkp);have HJK:=qH hJk;have HKP:=qH hkp;have hz:=hkp.1;clear hJk hkp;have cDr:=HRW.out.var;obtain ⟨A',c',c0',c1',hc',hr'⟩:=HRW.out.set.read;by_cases hlt:k<ws.length
  ·obtain ⟨b1,o1,e1,hb1,hc1,hc2⟩:=qk2 hr' hlt
   subst e1;have hpf:=HW.out.fits _ (List.getElem_mem hlt);have hpb:=(qgT HW.out HN.out).2 _ (List.getElem_mem hlt);have HSPL:=qH (qvT hlt);have HTK:=qH (qoG hlt);obtain ⟨p,hp⟩:∃ p,p=ws[k]'hlt:=⟨_,rfl⟩;rw [<- hp] at hc1 hc2 hpf hpb HSPL HTK;have hkl:(k:Int)<ws.length:=by omega
   clear hp hr' hc' c0';gi_wp2
   gi_loopw [4] (qvS X ws k p J W) (fun v wr2=>qj0 v wr2)
   case atStart=>
    refine ⟨wr.heap.size,p.2,[],rfl,hz,?_,?_,hpf,rfl,?_,?_⟩
    ·simp [World.cell?_alloc_at]
    ·simp [World.cell?_alloc_at]
    ·rw [List.append_nil]
     exact qjZ HJ.out HJK.out ((Below.refl _ _).alloc (Nat.le_refl _) _)
    ·exact HKP.out.trans (KpX.of_below ((Below.refl _ _).alloc (Nat.le_refl _) _))
   case round=>
    obtain ⟨b,y,done,rfl,hWb,hb0,hb1c,hyf,hel,hJd,hkp2⟩:=hrel;have HEL:=qH hel;have HJD:=qH hJd;have HKP2:=qH hkp2;have HRR:=qH (HR.out.keep hkp2);have hz2:=hkp2.1;have HLW:=qH (qoF hb1c);clear hel hJd hkp2;by_cases hy0:y=0
    ·subst hy0
     have hfin:qaV (ws.take (k+1))=qaV (ws.take k)++done:=by
      rw [HTK.out];congr 1;have :=HEL.out;rw [Plain.elemW_zero,List.append_nil] at this;exact this
     have HFIN:=qH hfin;clear hfin;gi_wp2;go_roundw
     case rel=>exact ⟨k+1,by omega,by go_num,by rw [HFIN.out];exact HJD.out,HKP2.out⟩
     case measure=>simp [intOf];omega
    ·have hstep:=Plain.elemW_step (a:=p.1) hyf hy0
     have hctz:=(Plain.ctz_bit hyf hy0).choose_spec.2;have hand:=bits_and_u64_nat y (y-1) hyf (by omega);have hlow:=Plain.low_lt hy0;have hwrap:IntKind.u64.wrap ((y:Int)-1)=((y-1:Nat):Int):=by rw [IntKind.wrap_u64];omega
     obtain ⟨y1,hy1⟩:∃ y1,y1=y-1:=⟨_,rfl⟩;rw [<- hy1] at hand hwrap hstep hlow;obtain ⟨y2,hy2⟩:∃ y2,y2=y &&& y1:=⟨_,rfl⟩;rw [<- hy2] at hand hstep hlow;have HLE:=qH (fun w hT=>qqX p.1 y w (by omega) hyf hy0 hT);obtain ⟨x,hx⟩:∃ x,x=p.1*64+Lib.ctz 64 y:=⟨_,rfl⟩;rw [<- hx] at HLE hstep;have HST:=qH hstep;have hz0:((y:Int)==0)=false:=by simp;omega
     have hz3:((y:Int) != 0)=true:=by simp;omega
     have HY0:=qH hy0;have HY2F:=qH (show y2<18446744073709551616 by omega);have HLOW:=qH hlow;clear hstep hctz hy1 hy2 hx hy0 hlow
     gi_wp2_with (first|(refine ⟨trivial,?_⟩;gi_at_call 171;refine (callsIn_wide.2 (HLE.out _ HRR.out.tab)).mono ?_)|(gi_at_call 171;refine (callsIn_wide.2 (HLE.out _ HRR.out.tab)).mono ?_))
     rintro e w3 ⟨rfl,hb3⟩;have hlen:(qaV (ws.take k)++done).length<(qaV ws).length:=by
      rw [HSPL.out,HEL.out,HST.out];simp
      try omega
     have hpre:(qaV (ws.take k)++done)++[x]<+:qaV ws:=by
      rw [HSPL.out,HEL.out,HST.out];exact ⟨qb6 (p.1,y2)++qaV (ws.drop (k+1)),by simp⟩
     have HPRE:=qH hpre;obtain ⟨fn,tmps,assign,body,hy,hR'⟩:=HY.out _ x w3 (qjZ HJ.out HJD.out hb3) hlen;have hbw:b<wr.heap.size:=World.block_lt_of_cell? wr _ hb0;have hnx:¬ X b:=fun e=>by have :=HX.out b e;omega
     have hb0':w3.cell? ⟨b,0,none⟩=some (.int .i64 p.1):=(hb3.cell (p:=⟨b,0,none⟩) hbw).trans hb0;have hb1':w3.cell? ⟨b,1,none⟩=some (.int .u64 y):=(hb3.cell (p:=⟨b,1,none⟩) hbw).trans hb1c;have HK3:=qH (HKP2.out.trans (KpX.of_below hb3));have hz3w:=HK3.out.1;clear hlen hpre hb0 hb1c hb3;gi_wp2;refine hR'.mono ?_;rintro e W4 (⟨rfl,hJ4,hk4⟩|⟨rfl,hJx4⟩)
     ·have hb04:=hk4.cell (a:=⟨b,0,none⟩) hnx hb0'
      have hb14:=hk4.cell (a:=⟨b,1,none⟩) hnx hb1';have hz4:=hk4.1;have HJ4:=qH hJ4;have HK4:=qH (HK3.out.trans hk4);clear hJ4 hk4 hb0' hb1' hy hR';gi_wp2;go_roundw
      case rel=>
       refine ⟨W4.heap.size,y2,done++[x],rfl,by omega,?_,?_,HY2F.out,?_,?_,?_⟩
       ·simp [World.cell?_alloc_at]
       ·simp [World.cell?_alloc_at]
       ·rw [HEL.out,HST.out,List.append_assoc]
        rfl
       ·rw [<- List.append_assoc]
        exact qjZ HJ.out HJ4.out ((Below.refl _ _).alloc (Nat.le_refl _) _)
       ·exact HK4.out.trans (KpX.of_below ((Below.refl _ _).alloc (Nat.le_refl _) _))
      case measure=>
       rw [HLW.out,qoF (y:=y2) (by simp [World.cell?_alloc_at])];exact HLOW.out
     ·gi_wp2
      refine bodyPost_ret (results_none rfl _ _ _) rfl ?_;exact ⟨⟨_,rfl⟩,.inr ⟨_,HPRE.out,hJx4⟩⟩
  ·obtain rfl:k=ws.length:=by omega
   gi_wp2
   go_end0
   exact ⟨⟨_,rfl⟩,.inl ⟨_,rfl,by have :=HJK.out;rwa [List.take_length] at this⟩⟩
open Plain (Wd WS Rep qaV qb6 ones)
attribute [local go_sem] Oper.semAt_some
def qoH (ws:List Wd) (w:World) (e:Ending) (w':World):Prop:=∃ v',e= .returned v'/\w'.ownsRow w.heap.size 104 2 v' ws.length (qaB ws)/\Below w.heap.size w w'
theorem qvV (A:Option Addr) (n c:Nat) (ws:List Wd) (w:World) (hn:ws.length=n) (hr:Row w w.heap.size A (qaB ws)) (hA:A=none->n=0/\c=0) (hl:n<=33554432):
  Calls Tryz.prog 208 #[.slice A n c] w (qoH ws w):=by
 obtain ⟨i0,hi0,hz0,hz1,hz2⟩:=info_parts qk3;have qe:∀ (w:World) (a:Option Addr) (n c n' c':Nat),(binOp .eql 99 (.slice a n c) (.slice none n' c')).run Tryz.prog w= .ok (.bool a.isNone) w:=fun w a n c n' c'=>Lib.run_eql_slice_nil w _ _ a n c n' c' Tryz.underlying99
 subst hn;cases A with
 |none=>
  obtain ⟨h0,rfl⟩:=hA rfl;obtain rfl:ws=[]:=List.eq_nil_of_length_eq_zero h0;clear hA hr h0
  go_enter Tryz.func208,Tryz.ntmps208
  go_wp2;go_ret;exact ⟨_,rfl,World.ownsRow_nil w w.heap.size _ 2,Below.refl _ _⟩
 |some ad=>
  have HR:=qH hr;have hwl:=qgS ws;have HWL:=qH hwl;have H1:=qH (qif ws);clear hA hr hwl;have hlit:(w.alloc (.cells #[] 104)).ownsRow w.heap.size 104 2 (.slice (some ⟨w.heap.size,0,none⟩) 0 0) 0 []:=World.ownsRow_made w #[] 0 (Nat.le_refl _) (Nat.zero_le _) rfl
  go_enter Tryz.func208,Tryz.ntmps208
  go_wp2_with (at_builtin;(refine qfG _ rfl (.tmp 5) (.tmp 6) 99 rfl w.heap.size 104 i0 _ 2 16 Tryz.underlying99 hi0 hz0 hz1 hz2 rfl (by decide) _ 0 [] rfl hlit _ _ ws.length c (qaB ws) rfl HWL.out ((HR.out.below ((Below.refl _ w).alloc (Nat.le_refl _) (.cells #[] 104))).more (B':=(w.alloc (.cells #[] 104)).heap.size) (by simp)) H1.out (by unfold maxLen;omega) (by omega) (by simp) ?_))
  intro v' w' hown hgrow;go_wp2;go_ret;exact ⟨_,rfl,hown,((Below.refl _ _).alloc (Nat.le_refl _) _).grown hgrow (by simp) (fun k hk=>by cases hk;exact Nat.le_refl _)⟩
theorem qvW {w:World} {B:Nat} {A:Option Addr} {xs:List Value} (h:Row w B A xs):Row w.drew B A xs:=h
theorem qoI {B:Nat} {w w1:World} (h:Below B w.drew w1):Below B w w1:=⟨h.os,h.tape,h.output,h.size,h.block⟩
def qoJ (r:List Bool) (w:World) (C:Nat) (w':World):Prop:=qci w' w.heap.size C r/\Below w.heap.size w w'
def qvX (r:List Bool) (w:World) (e:Ending) (w':World):Prop:=∃ C,e= .returned (.pointer (some ⟨C,0,none⟩))/\qoJ r w C w'
theorem qvY {w w1:World} {n:Nat} {ws:List Wd} {r:List Bool} {v:Value} (hr:Rep r ws) (hn:r.length=n) (hb:Below w.heap.size w w1) (ho:w1.ownsRow w.heap.size 104 2 v ws.length (qaB ws)):
  qoJ r w w1.heap.size (w1.alloc (.cells #[.int .i64 n,v] 101)):=by
 subst hn;exact ⟨⟨ws,⟨hb.size,v,heap_alloc_new w1 _,ho.alloc _⟩,hr⟩,hb.alloc hb.size _⟩
theorem qvZ (base B:Nat) (r:List Bool) (w:World) (h:qci w base B r) (hn:r.length<=big):
  Calls Tryz.prog 169 #[.pointer (some ⟨B,0,none⟩)] w (qvX r w):=by
 obtain ⟨ws,hs,hrep⟩:=h;have hl:=(qgT hrep.wds hn).1;have HLT:=qH hs.lt;obtain ⟨_,v,hv,ho⟩:=hs;obtain ⟨c0,c1,_,_⟩:=qeO hv;have hA:∃ A c,v= .slice A ws.length c/\Row w w.heap.size A (qaB ws)/\(A=none->ws.length=0/\c=0):=by
  rcases ho.2 with ⟨rfl,h0⟩|⟨g,c,cur,rfl,_⟩
  ·exact ⟨none,0,by rw [h0],by rw [List.eq_nil_of_length_eq_zero h0];exact Row.nil,fun _=>⟨h0,rfl⟩⟩
  ·exact ⟨_,c,rfl,qbG ho,fun e=>by cases e⟩
 obtain ⟨A,c,rfl,hr,hA⟩:=hA;have HC:Hid (∀ w2,Row w2 w2.heap.size A (qaB ws)->Calls Tryz.prog 208 #[.slice A ws.length c] w2 (qoH ws w2)):=qH fun w2 h=>qvV A ws.length c ws w2 rfl h hA (by omega)
 have HR:=qH hr;have HREP:=qH hrep;have HRN:=qH (rfl:r.length=r.length);obtain ⟨n,hne⟩:∃ n,n=r.length:=⟨_,rfl⟩;rw [<- hne] at c0;have HNE:=qH hne.symm;clear hne hv ho hr hA hrep hn
 go_enter Tryz.func169,Tryz.ntmps169
 go_wp2
 go_region_with (go_at_call 208;refine (HC.out _ (qvW HR.out)).mono ?_;rintro e w1 ⟨v',rfl,hown,hb⟩;obtain ⟨A2,c2,rfl,hc2,hr2⟩:=qaM hown;have c0':=(hb.cell (p:=⟨B,0,none⟩) HLT.out).trans c0;have c1':=(hb.cell (p:=⟨B,1,none⟩) HLT.out).trans c1)
 all_goals
  go_wp2;go_ret;exact ⟨_,rfl,(qvY HREP.out HNE.out (qoI hb) hown)⟩
def qj1 (r:List Bool) (w:World) (D C:Nat) (ws:List Wd) (w':World):Prop:=
 w.heap.size<=D/\w.heap.size<=C/\w'.cell? ⟨D,0,none⟩=some (.pointer (some ⟨C,0,none⟩))/\qbs w' w.heap.size C r.length ws/\Rep r ws/\Below w.heap.size w w'
def qoK (r:List Bool) (w:World) (e:Ending) (w':World):Prop:=∃ D C ws,e= .returned (.func (.func 170) #[] #[.pointer (some ⟨D,0,none⟩)])/\qj1 r w D C ws w'
theorem qv0 (base B:Nat) (r:List Bool) (w:World) (h:qci w base B r) (hn:r.length<=big):
  Calls Tryz.prog 130 #[.pointer (some ⟨B,0,none⟩)] w (qoK r w):=by
 have HC:=qH (qvZ base B r w h hn);clear h hn
 go_enter Tryz.func130,Tryz.ntmps130
 go_wp2_with (go_at_call 169;refine HC.out.mono ?_)
 rintro e w1 ⟨C,rfl,⟨⟨ws,hs,hrep⟩,hb⟩⟩;have hz:=hb.size;have HS:=qH hs;have HREP:=qH hrep;have HB:=qH hb;clear hs hrep hb;go_wp2;go_ret;refine ⟨w1.heap.size,C,ws,rfl,hz,HS.out.1,by simp [World.cell?_alloc_at],HS.out.below ((Below.refl _ _).alloc (Nat.le_refl _) _),HREP.out,HB.out.alloc hz _⟩
theorem qj1.reads {r:List Bool} {w w':World} {D C:Nat} {ws:List Wd} (h:qj1 r w D C ws w') (hT:Tab w) {X:Nat->Prop} (hX:∀ k,X k->k<w.heap.size) (hg:¬ X 0):qf5 X D C r.length ws w':=by
 obtain ⟨h1,h2,h3,h4,h5,h6⟩:=h;refine ⟨h3,h4.low (Nat.zero_le _),hT.below h6 hT.lt,fun e=> ?_,fun e=> ?_,fun g hgo e=> ?_,hg⟩
 ·have :=hX D e;omega
 ·have :=hX C e;omega
 ·have :=hX g e
  have :=(h4.own g hgo).1;omega
theorem qv1 (n D C:Nat) (hn:1<=n) (X:Nat->Prop) (r:List Bool) (ws:List Wd) (hrep:Rep r ws) (hN:r.length<=big) (w:World) (hX:∀ k,X k->k<w.heap.size) (hR:qf5 X D C r.length ws w):
  SeqStopsK Fence.wide n Tryz.prog 170 #[.pointer (some ⟨D,0,none⟩)] (fun x:Nat=>#[Value.int .i64 ((x:Nat):Int)]) (KpX X) (fun ys=>ys=ones r) (fun pre=>pre<+:ones r) (ones r).length w:=by
 intro l J Jx W hW hJ _ hY h0;rw [<- Plain.elems_eq hrep] at*;exact qvU n l D C r.length hn X ws hrep.wds hN J Jx W (fun k hk=>Nat.lt_of_lt_of_le (hX k hk) hW.size) hJ hY (hR.keep (KpX.of_below hW)) h0
theorem qv2 (base B:Nat) (r:List Bool) (w:World) (h:qci w base B r) (hn:r.length<=big) (hT:Tab w):
  Calls Tryz.prog 81 #[.pointer (some ⟨B,0,none⟩)] w (qk7 (ones r) w):=by
 obtain ⟨i0,hi0,hz0,hz1,hz2⟩:=info_parts qq0;refine (callsIn_wide (n:=6)).1 ?_;have HC:=qH (qqV base B r w h hn);have HA:Hid (∀ w2,qci w2 base B r->Calls Tryz.prog 130 #[.pointer (some ⟨B,0,none⟩)] w2 (qoK r w2)):=qH fun w2 h2=>qv0 base B r w2 h2 hn
 have hk:=Plain.ones_length r;have H:=qH h;have HT:=qH hT;have HN:=qH hn;unfold big at hn;obtain ⟨K,hK⟩:∃ K,K=(ones r).length:=⟨_,rfl⟩;rw [<- hK] at HC hk;have HK:=qH hK;have hKb:K<=1073741824:=by omega
 clear h hT hn hK hk;refine callsIn_of_wp_marks Tryz.func81 rfl trivial ?_ rfl;simp only [Tryz.ntmps81,List.size_toArray,List.length_cons,List.length_nil,Nat.reduceAdd,Nat.reduceSub,Array.replicate_succ,Array.replicate_zero,List.push_toArray,List.append_toArray,List.nil_append,List.cons_append]
 gi_wp2_with (first
  |(refine ⟨trivial,?_⟩;gi_at_call 129;refine (callsIn_wide.2 HC.out).mono ?_;rintro e w' ⟨rfl,rfl⟩)
  |(gi_at_call 129;refine (callsIn_wide.2 HC.out).mono ?_;rintro e w' ⟨rfl,rfl⟩)
  |(gi_at_make;refine wpListIn_make_own _ rfl _ _ 23 rfl w.heap.size 3 i0 _ 1 Tryz.underlying23 hi0 hz0 hz1 _ _ _ K rfl rfl rfl (by rw [hz2];omega) (by unfold maxLen;omega) (Nat.le_refl _) ?_))
 intro w1 hown hgrow;have hb1:Below w.heap.size w w1:=(Below.refl _ _).grown hgrow (Nat.le_refl _) (fun k hk=>by cases hk);have hz1':=hb1.size;have hrlt:=(hown.lt w.heap.size rfl).2;have HB1:=qH hb1;have HO1:=qH hown;clear hb1 hown hgrow;have hb2:Below w.heap.size w (w1.alloc (.cells #[.slice (some ⟨w.heap.size,0,none⟩) 0 K] 23)):=HB1.out.alloc hz1' _;have HA2:=qH (HA.out _ (H.out.below hb2));have HB2:=qH hb2;clear hb2
 gi_wp2_with (first
  |(refine ⟨trivial,?_⟩;gi_at_call 130;refine (callsIn_wide.2 HA2.out).mono ?_)
  |(gi_at_call 130;refine (callsIn_wide.2 HA2.out).mono ?_))
 rintro e w3 ⟨D,C,ws,rfl,hall⟩;have hrep:=hall.2.2.2.2.1;have hb23:=hall.2.2.2.2.2;have hz3:=hb23.size;simp only [World.size_alloc] at hz3;have hbox:Boxed w3 w1.heap.size 23 (.slice (some ⟨w.heap.size,0,none⟩) 0 K):=(hb23.block w1.heap.size (by simp)).trans (World.alloc_heap_new w1 _);have hrow3:w3.ownsRow w.heap.size 3 1 (.slice (some ⟨w.heap.size,0,none⟩) 0 K) 0 []:=qan (HO1.out.alloc _) hb23;have hB3:Below w.heap.size w w3:=HB2.out.trans (hb23.mono HB2.out.size);have hT2:=HT.out.below HB2.out HT.out.lt;have hTlt:=HT.out.lt;have hR3:=hall.reads hT2 (X:=fun k=>k=w1.heap.size∨k=w.heap.size) (fun k hk=>by simp;omega) (by omega);have hst:=qv1 5 D C (by omega) (fun k=>k=w1.heap.size∨k=w.heap.size) r ws hrep HN.out w3 (fun k hk=>by omega) hR3;rw [<- HK.out] at hst;obtain ⟨Bl,hBl⟩:∃ Bl,Bl=w1.heap.size:=⟨_,rfl⟩;obtain ⟨Rl,hRl⟩:∃ Rl,Rl=w.heap.size:=⟨_,rfl⟩;rw [<- hBl,<- hRl] at hst hbox;rw [<- hRl] at hrow3 hB3;have hBR:Rl<=Bl:=by omega
 have hRw3:Rl<=w3.heap.size:=by omega
 have HBL:=qH hBl;have HRL:=qH hRl;have HST:=qH hst;gi_wp2;rw [<- hBl,<- hRl];have HFIN:Hid (∀ e w',qk7 (ones r) w e w'↔∃ v,e= .returned v/\w'.ownsRow Rl 3 1 v (ones r).length (qdr (ones r))/\Below Rl w w'):=qH fun e w'=>by rw [HRL.out];exact Iff.rfl
 clear hall hb23 hz3 hR3 hst hT2 hBl hRl hrep;refine wpIn_rangeFunc_ownF rfl (by omega) (gf:=170) (lb:=#[.pointer (some ⟨D,0,none⟩)]) rfl trivial (enters_of Tryz.func170 (by kernel_rfl) rfl)
  HST.out (fun h k=>h.trans k) (fun W l o o' _ ho hc _=>KpX.putObj _ W l o o' ho hc) (Below.refl _ _) (fun _=>rfl)
  (fun pre W=>(∃ v,Boxed W Bl 23 v/\W.ownsRow Rl 3 1 v pre.length (qdr pre)/\v= .slice (some ⟨Rl,0,none⟩) pre.length K)/\Below Rl w W)
  (fun _ _ _=>False)
  (OwnFrom.and (Own.from (holdsRow_own Rl Bl 23 3 1 (fun pre=>pre.length) (fun pre=>qdr pre) (fun pre v=>v= .slice (some ⟨Rl,0,none⟩) pre.length K)) _) (ownFrom_below (by rw [HRL.out];exact Nat.le_refl _) hRw3))
  (fun _ _ _ _ _ hs _ _=>hs)
  ⟨⟨_,hbox,hrow3,rfl⟩,hB3⟩
  (fun x=>{tmps:=#[.pointer (some ⟨B,0,none⟩),undef,.slice none 0 0,.pointer (some ⟨Bl,0,none⟩),.int .i64 ((x:Nat):Int),.pointer (some ⟨B,0,none⟩),.int .i64 K,.slice (some ⟨Rl,0,none⟩) 0 K,.pointer (some ⟨B,0,none⟩),.func (.func 170) #[] #[.pointer (some ⟨D,0,none⟩)],.int .i64 ((x:Nat):Int),undef,undef,undef,undef,undef],defers:=[]}) ?assign ?body ?done ?stop
 case assign=>
  intro l x W K' hK';gi_wp2;exact hK'
 case body=>
  rintro l pre x W ⟨⟨v,hbx,hown,rfl⟩,hB⟩ hlen;have hcell:=hbx.cell;have hz:=hB.size;have HO:=qH hown;have HBX:=qH hbx;have HBW:=qH hB;clear hown hbx hB
  gi_wp2_with (gi_at_builtin;refine wpListIn_append_fits _ rfl (.tmp 11) (.tmp 13) 23 rfl Rl 3 i0 1 Tryz.underlying23 hi0 hz1 Rl pre.length K (qdr pre) rfl (HO.out.alloc _) ⟨W.heap.size,0,none⟩ 1 1 (qdr [x]) rfl rfl (cell_one_new _ _ _) (qqZ _) hlen ?_)
  intro w4 hown4 hgrow4;have hzW:Rl<=W.heap.size:=by have :=HRL.out;omega
  obtain ⟨a1,a2,a3,a4,a5⟩:=HBX.out.appended (by decide) HO.out hzW hBR hown4 hgrow4;have hc4:=a1.cell;have hf4:=a1.frozen;have hKP:KpX (fun k=>k=Bl∨k=Rl) W (w4.setCell ⟨Bl,0,none⟩ (.slice (some ⟨Rl,0,none⟩) (pre.length+1) K)):=by
   refine ⟨a5.size,fun k hk hx o ho hc=> ?_⟩;rw [Below.heap_setCell _ _ _ _ (fun e=>hx (.inl e)),hgrow4.block k (by simp;omega) (fun e=>hx (.inr (by injection e))),Below.heap_alloc _ _ _ hk];exact ho
  have HKP:=qH hKP;have H2:=qH a2;have H3:=qH a3;have H4:=qH a4;have H5:=qH a5;clear hKP a1 a2 a3 a4 a5 hown4 hgrow4;gi_wp2;exact ⟨H4.out,HKP.out,⟨_,H2.out,by rw [List.length_append,qqY];exact H3.out,by rw [List.length_append];rfl⟩,HBW.out.trans H5.out⟩
 case done=>
  rintro D' ys W hD rfl ⟨⟨v,hbx,hown,rfl⟩,hB⟩ hK';have hcell:=hbx.cell;have HO:=qH hown;have HBW:=qH hB;clear hown hB hbx;gi_wp2;refine ⟨by simp,.inl ⟨_,_,rfl,run_takeDeferred hK',?_⟩⟩;refine ⟨_,results_tmp rfl _ _ _,?_⟩;rw [HFIN.out];exact ⟨_,rfl,ownsRow_putObj HO.out _ hK' rfl,HBW.out.trans (belowK_b (w:=w) (by rw [HRL.out];exact Nat.le_refl _) W D' _ _ (by have :=HRL.out;omega) hK' rfl rfl)⟩
 case stop=>
  rintro D' c pre W _ _ h _;exact h.elim
end Go.Proofs.YtpehcaidjlemiaaGreatDoor
