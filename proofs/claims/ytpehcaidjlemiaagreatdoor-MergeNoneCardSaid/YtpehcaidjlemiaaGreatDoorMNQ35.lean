import Derived.Test.YtpehcaidjlemiaaGreatDoorMNZz
import Derived.Test.YtpehcaidjlemiaaGreatDoorMNQ10
import Derived.Test.YtpehcaidjlemiaaGreatDoorMNQ17
import Derived.Lib.SliceRun
import Derived.Test.YtpehcaidjlemiaaGreatDoorMNQ21
import Derived.Test.YtpehcaidjlemiaaGreatDoorMNQ19
import Derived.Shelf.SlSorted.Search
import Derived.Test.YtpehcaidjlemiaaGreatDoorProg
import Derived.Test.YtpehcaidjlemiaaGreatDoorMNQ06
import Derived.Test.YtpehcaidjlemiaaGreatDoorMNQ30
import Derived.Test.YtpehcaidjlemiaaGreatDoorMNQ09
import Derived.Deep.QuietTactic
import Derived.BigQuiet
import Derived.Deep.RegionHeld3
import Derived.StillTailTactics
import Derived.Test.YtpehcaidjlemiaaGreatDoorMNQ12
import Derived.Test.YtpehcaidjlemiaaGreatDoorMNQ33
import Derived.Test.YtpehcaidjlemiaaGreatDoorMNQ34
import Derived.Test.YtpehcaidjlemiaaGreatDoorMNQ15
set_option maxHeartbeats 8000000
set_option maxRecDepth 100000
set_option linter.unusedVariables false
namespace Go.Proofs.YtpehcaidjlemiaaGreatDoor
open Go Go.RowKit
attribute [local go_sem] Oper.semAt_some
def qpQ (n1 n2 n3 n4:Nat) (x:qbc) (w:World) (e:Ending) (w':World):Prop:=∃ A1 c1 A2 c2 A3 c3 A4 c4,e= .returned (.agg #[.slice A1 n1 c1,.slice A2 n2 c2,.slice A3 n3 c3,.slice A4 n4 c4])/\PAt w' w'.heap.size A1 A2 A3 A4 x/\Below w.heap.size w w'
theorem qzc {S T:Nat} {x y:qbc} {w:World} (hS:qbC w S x) (hT:qbC w T y) (fx:qgw x) (fy:qgw y):Calls Tryz.prog 21 #[.pointer (some ⟨S,0,none⟩),.pointer (some ⟨T,0,none⟩)] w fun e w'=>e= .returned (.bool (decide (x=y)))/\Below w.heap.size w w':=by
  obtain ⟨z,hz⟩:∃ z,z=decide (x=y):=⟨_,rfl⟩;rw [<- hz];obtain ⟨z1,hz1⟩:∃ z,z=decide (x.ids=y.ids):=⟨_,rfl⟩;obtain ⟨z2,hz2⟩:∃ z,z=decide (x.seqs=y.seqs):=⟨_,rfl⟩;obtain ⟨z3,hz3⟩:∃ z,z=decide (x.keys=y.keys):=⟨_,rfl⟩;obtain ⟨z4,hz4⟩:∃ z,z=decide (x.lists=y.lists):=⟨_,rfl⟩;have hzz:z=(z1&&(z2&&(z3&&z4))):=by
    rw [hz,hz1,hz2,hz3,hz4,Bool.eq_iff_iff];simp only [Bool.and_eq_true,decide_eq_true_eq];exact ⟨fun e=>by subst e;exact ⟨rfl,rfl,rfl,rfl⟩,fun ⟨a,b,c,d⟩=>qum a b c d⟩
  obtain ⟨n1,hn1⟩:∃ n,n=x.ids.length:=⟨_,rfl⟩;obtain ⟨n2,hn2⟩:∃ n,n=x.seqs.length:=⟨_,rfl⟩;obtain ⟨n3,hn3⟩:∃ n,n=x.keys.length:=⟨_,rfl⟩;obtain ⟨n4,hn4⟩:∃ n,n=x.lists.length:=⟨_,rfl⟩;obtain ⟨m1,hm1⟩:∃ n,n=y.ids.length:=⟨_,rfl⟩;obtain ⟨m2,hm2⟩:∃ n,n=y.seqs.length:=⟨_,rfl⟩;obtain ⟨m3,hm3⟩:∃ n,n=y.keys.length:=⟨_,rfl⟩;obtain ⟨m4,hm4⟩:∃ n,n=y.lists.length:=⟨_,rfl⟩;have HPX:Hid (Calls Tryz.prog 23 #[.pointer (some ⟨S,0,none⟩)] w (qpQ n1 n2 n3 n4 x w)):=qH (by subst hn1 hn2 hn3 hn4;exact qpP hS);have HPY:Hid (∀ w',Below w.heap.size w w'->Calls Tryz.prog 23 #[.pointer (some ⟨T,0,none⟩)] w' (qpQ m1 m2 m3 m4 y w')):=qH fun w' h=>by subst hm1 hm2 hm3 hm4;exact qpP (hT.below h)
  have HE1:Hid (∀ (A C:Option Addr) (c d:Nat) w',Row w' w'.heap.size A (qaa x.ids)->Row w' w'.heap.size C (qaa y.ids)->Calls Tryz.prog 49 #[.slice A n1 c,.slice C m1 d] w' fun e w''=>e= .returned (.bool z1)/\Below w'.heap.size w' w''):=qH fun A C c d w' h1 h2=>by
    rw [hz1];exact qkz A C n1 m1 c d _ _ w' hn1.symm hm1.symm h1 h2 (hn1▸fx.1) (hm1▸fy.1)
  have HE2:Hid (∀ (A C:Option Addr) (c d:Nat) w',Row w' w'.heap.size A (qaa x.seqs)->Row w' w'.heap.size C (qaa y.seqs)->Calls Tryz.prog 49 #[.slice A n2 c,.slice C m2 d] w' fun e w''=>e= .returned (.bool z2)/\Below w'.heap.size w' w''):=qH fun A C c d w' h1 h2=>by
    rw [hz2];exact qkz A C n2 m2 c d _ _ w' hn2.symm hm2.symm h1 h2 (hn2▸fx.2.1) (hm2▸fy.2.1)
  have HE3:Hid (∀ (A C:Option Addr) (c d:Nat) w',Row w' w'.heap.size A (qac x.keys)->Row w' w'.heap.size C (qac y.keys)->Calls Tryz.prog 50 #[.slice A n3 c,.slice C m3 d] w' fun e w''=>e= .returned (.bool z3)/\Below w'.heap.size w' w''):=qH fun A C c d w' h1 h2=>by
    rw [hz3];exact qy4 A C n3 m3 c d _ _ w' hn3.symm hm3.symm h1 h2 (hn3▸fx.2.2.1) (hm3▸fy.2.2.1)
  have HE4:Hid (∀ (A C:Option Addr) (c d:Nat) w',qbR w' w'.heap.size A x.lists->qbR w' w'.heap.size C y.lists->Calls Tryz.prog 51 #[.slice A n4 c,.slice C m4 d,.func (.func 52) #[] #[]] w' fun e w''=>e= .returned (.bool z4)/\Below w'.heap.size w' w''):=qH fun A C c d w' h1 h2=>by
    rw [hz4];exact qza A C n4 c m4 d _ _ w' hn4.symm hm4.symm h1 h2 (hn4▸fx.2.2.2.1) (hm4▸fy.2.2.2.1) fx.2.2.2.2 fy.2.2.2.2
  have HZZ:=qH hzz;clear hS hT fx fy hz hz1 hz2 hz3 hz4 hzz hn1 hn2 hn3 hn4 hm1 hm2 hm3 hm4
  go_enter Tryz.func21,Tryz.ntmps21
  go_upto_region 4 with (first
    | (go_at_call 23; (with_reducible refine HPX.out.mono ?_); rintro e w2 ⟨A1, c1, A2, c2, A3, c3, A4, c4, rfl, hp2, hb2⟩
       have HP2:=qH hp2;have HB2:=qH hb2;clear hp2 hb2)
    | (go_at_call 23; (with_reducible refine (HPY.out w2 HB2.out).mono ?_); rintro e w3 ⟨B1, d1, B2, d2, B3, d3, B4, d4, rfl, hp3, hb3⟩
       have HP3:=qH hp3;have HQ3:=qH (HP2.out.later hb3);have HB3:=qH (HB2.out.trans (hb3.mono HB2.out.size));clear hp3 hb3))
  obtain ⟨w4,hw4⟩:∃ w4,w4=(w3.alloc (.cells #[.slice A1 n1 c1,.slice A2 n2 c2,.slice A3 n3 c3,.slice A4 n4 c4] 62)).alloc (.cells #[.slice B1 m1 d1,.slice B2 m2 d2,.slice B3 m3 d3,.slice B4 m4 d4] 62):=⟨_,rfl⟩;have hb4:Below w3.heap.size w3 w4:=by rw [hw4];exact ((Below.refl _ w3).alloc (Nat.le_refl _) _).alloc (by simp) _
  have hP1:w4.heap[w3.heap.size]?=some (.cells #[.slice A1 n1 c1,.slice A2 n2 c2,.slice A3 n3 c3,.slice A4 n4 c4] 62 (0,0)):=by rw [hw4,Below.heap_alloc _ _ _ (by simp)];exact heap_alloc_new w3 _
  have hP2:w4.heap[w3.heap.size+1]?=some (.cells #[.slice B1 m1 d1,.slice B2 m2 d2,.slice B3 m3 d3,.slice B4 m4 d4] 62 (0,0)):=by rw [hw4];simpa using heap_alloc_new (w3.alloc (.cells #[.slice A1 n1 c1,.slice A2 n2 c2,.slice A3 n3 c3,.slice A4 n4 c4] 62)) (.cells #[.slice B1 m1 d1,.slice B2 m2 d2,.slice B3 m3 d3,.slice B4 m4 d4] 62)
  have HRC:Hid (∀ w',Below w4.heap.size w4 w'->((w'.cell? ⟨w3.heap.size,0,none⟩=some (.slice A1 n1 c1)/\w'.cell? ⟨w3.heap.size,1,none⟩=some (.slice A2 n2 c2)/\w'.cell? ⟨w3.heap.size,2,none⟩=some (.slice A3 n3 c3)/\w'.cell? ⟨w3.heap.size,3,none⟩=some (.slice A4 n4 c4))/\
      w'.cell? ⟨w3.heap.size+1,0,none⟩=some (.slice B1 m1 d1)/\w'.cell? ⟨w3.heap.size+1,1,none⟩=some (.slice B2 m2 d2)/\w'.cell? ⟨w3.heap.size+1,2,none⟩=some (.slice B3 m3 d3)/\w'.cell? ⟨w3.heap.size+1,3,none⟩=some (.slice B4 m4 d4))):=qH fun w' h=>
    ⟨qhq ((h.block _ (lt_of_block hP1)).trans hP1),qhq ((h.block _ (lt_of_block hP2)).trans hP2)⟩
  have HPXX:Hid (∀ w',Below w4.heap.size w4 w'->PAt w' w'.heap.size A1 A2 A3 A4 x):=qH fun w' h=>(HQ3.out.later hb4).later h
  have HPYY:Hid (∀ w',Below w4.heap.size w4 w'->PAt w' w'.heap.size B1 B2 B3 B4 y):=qH fun w' h=>(HP3.out.later hb4).later h
  have HB0:Hid (Below w4.heap.size w4 w4):=qH (Below.refl _ _);have HB4:=qH (HB3.out.trans (hb4.mono HB3.out.size));have HW4:=qH hw4;clear hw4 hb4 hP1 hP2;have hzr:=HZZ.out;cases z1 with
  |false=>
    obtain rfl:z=false:=by rw [hzr];rfl
    clear hzr;obtain ⟨⟨q0,q1,q2,q3⟩,r0,r1,r2,r3⟩:=HRC.out _ HB0.out;rw [HW4.out] at q0 q1 q2 q3 r0 r1 r2 r3
    go_wp2_with (first
      | (go_at_call 49; rw [show (w3.alloc _).alloc _ = w4 from HW4.out.symm]; (with_reducible refine (HE1.out _ _ _ _ _ (HPXX.out _ HB0.out).ids (HPYY.out _ HB0.out).ids).mono ?_); rintro e v1 ⟨rfl, hb⟩
         have HC1:Hid (Below w4.heap.size w4 v1):=qH (hb);clear hb q0 q1 q2 q3 r0 r1 r2 r3;obtain ⟨⟨q0,q1,q2,q3⟩,r0,r1,r2,r3⟩:=HRC.out _ HC1.out))
    go_ret;exact ⟨rfl,HB4.out.trans (HC1.out.mono HB4.out.size)⟩
  |true=>
    cases z2 with
    |false=>
      obtain rfl:z=false:=by rw [hzr];rfl
      clear hzr;obtain ⟨⟨q0,q1,q2,q3⟩,r0,r1,r2,r3⟩:=HRC.out _ HB0.out;rw [HW4.out] at q0 q1 q2 q3 r0 r1 r2 r3
      go_wp2_with (first
        | (go_at_call 49; rw [show (w3.alloc _).alloc _ = w4 from HW4.out.symm]; (with_reducible refine (HE1.out _ _ _ _ _ (HPXX.out _ HB0.out).ids (HPYY.out _ HB0.out).ids).mono ?_); rintro e v1 ⟨rfl, hb⟩
           have HC1:Hid (Below w4.heap.size w4 v1):=qH (hb);clear hb q0 q1 q2 q3 r0 r1 r2 r3;obtain ⟨⟨q0,q1,q2,q3⟩,r0,r1,r2,r3⟩:=HRC.out _ HC1.out)
        | (go_at_call 49; (with_reducible refine (HE2.out _ _ _ _ _ (HPXX.out _ HC1.out).seqs (HPYY.out _ HC1.out).seqs).mono ?_); rintro e v2 ⟨rfl, hb⟩
           have HC2:Hid (Below w4.heap.size w4 v2):=qH (HC1.out.trans (hb.mono HC1.out.size));clear hb q0 q1 q2 q3 r0 r1 r2 r3;obtain ⟨⟨q0,q1,q2,q3⟩,r0,r1,r2,r3⟩:=HRC.out _ HC2.out))
      go_ret;exact ⟨rfl,HB4.out.trans (HC2.out.mono HB4.out.size)⟩
    |true=>
      cases z3 with
      |false=>
        obtain rfl:z=false:=by rw [hzr];rfl
        clear hzr;obtain ⟨⟨q0,q1,q2,q3⟩,r0,r1,r2,r3⟩:=HRC.out _ HB0.out;rw [HW4.out] at q0 q1 q2 q3 r0 r1 r2 r3
        go_wp2_with (first
          | (go_at_call 49; rw [show (w3.alloc _).alloc _ = w4 from HW4.out.symm]; (with_reducible refine (HE1.out _ _ _ _ _ (HPXX.out _ HB0.out).ids (HPYY.out _ HB0.out).ids).mono ?_); rintro e v1 ⟨rfl, hb⟩
             have HC1:Hid (Below w4.heap.size w4 v1):=qH (hb);clear hb q0 q1 q2 q3 r0 r1 r2 r3;obtain ⟨⟨q0,q1,q2,q3⟩,r0,r1,r2,r3⟩:=HRC.out _ HC1.out)
          | (go_at_call 49; (with_reducible refine (HE2.out _ _ _ _ _ (HPXX.out _ HC1.out).seqs (HPYY.out _ HC1.out).seqs).mono ?_); rintro e v2 ⟨rfl, hb⟩
             have HC2:Hid (Below w4.heap.size w4 v2):=qH (HC1.out.trans (hb.mono HC1.out.size));clear hb q0 q1 q2 q3 r0 r1 r2 r3;obtain ⟨⟨q0,q1,q2,q3⟩,r0,r1,r2,r3⟩:=HRC.out _ HC2.out)
          | (go_at_call 50; (with_reducible refine (HE3.out _ _ _ _ _ (HPXX.out _ HC2.out).keys (HPYY.out _ HC2.out).keys).mono ?_); rintro e v3 ⟨rfl, hb⟩
             have HC3:Hid (Below w4.heap.size w4 v3):=qH (HC2.out.trans (hb.mono HC2.out.size));clear hb q0 q1 q2 q3 r0 r1 r2 r3;obtain ⟨⟨q0,q1,q2,q3⟩,r0,r1,r2,r3⟩:=HRC.out _ HC3.out))
        go_ret;exact ⟨rfl,HB4.out.trans (HC3.out.mono HB4.out.size)⟩
      |true=>
        obtain rfl:z=z4:=by rw [hzr];rfl
        clear hzr;obtain ⟨⟨q0,q1,q2,q3⟩,r0,r1,r2,r3⟩:=HRC.out _ HB0.out;rw [HW4.out] at q0 q1 q2 q3 r0 r1 r2 r3
        go_wp2_with (first
          | (go_at_call 49; rw [show (w3.alloc _).alloc _ = w4 from HW4.out.symm]; (with_reducible refine (HE1.out _ _ _ _ _ (HPXX.out _ HB0.out).ids (HPYY.out _ HB0.out).ids).mono ?_); rintro e v1 ⟨rfl, hb⟩
             have HC1:Hid (Below w4.heap.size w4 v1):=qH (hb);clear hb q0 q1 q2 q3 r0 r1 r2 r3;obtain ⟨⟨q0,q1,q2,q3⟩,r0,r1,r2,r3⟩:=HRC.out _ HC1.out)
          | (go_at_call 49; (with_reducible refine (HE2.out _ _ _ _ _ (HPXX.out _ HC1.out).seqs (HPYY.out _ HC1.out).seqs).mono ?_); rintro e v2 ⟨rfl, hb⟩
             have HC2:Hid (Below w4.heap.size w4 v2):=qH (HC1.out.trans (hb.mono HC1.out.size));clear hb q0 q1 q2 q3 r0 r1 r2 r3;obtain ⟨⟨q0,q1,q2,q3⟩,r0,r1,r2,r3⟩:=HRC.out _ HC2.out)
          | (go_at_call 50; (with_reducible refine (HE3.out _ _ _ _ _ (HPXX.out _ HC2.out).keys (HPYY.out _ HC2.out).keys).mono ?_); rintro e v3 ⟨rfl, hb⟩
             have HC3:Hid (Below w4.heap.size w4 v3):=qH (HC2.out.trans (hb.mono HC2.out.size));clear hb q0 q1 q2 q3 r0 r1 r2 r3;obtain ⟨⟨q0,q1,q2,q3⟩,r0,r1,r2,r3⟩:=HRC.out _ HC3.out)
          | (go_at_call 51; (with_reducible refine (HE4.out _ _ _ _ _ (HPXX.out _ HC3.out).lists (HPYY.out _ HC3.out).lists).mono ?_); rintro e v4 ⟨rfl, hb⟩
             have HC4:Hid (Below w4.heap.size w4 v4):=qH (HC3.out.trans (hb.mono HC3.out.size));clear hb q0 q1 q2 q3 r0 r1 r2 r3;obtain ⟨⟨q0,q1,q2,q3⟩,r0,r1,r2,r3⟩:=HRC.out _ HC4.out))
        go_ret;exact ⟨by cases z<;>rfl,HB4.out.trans (HC4.out.mono HB4.out.size)⟩
theorem qzd:qnb where
 order:=fun A m c l w hL hm hm2 hl=>(qon A m c l w hL hm hm2 hl).mono fun _ _ ⟨err,o,A',c',h1,h2,h3,h4,h5,_⟩=>⟨err,o,A',c',h1,h2,h3,h4,h5⟩
 places:=fun A m c n o i w hr hm hmx ho _ hn=>qnc A m c n o i w hr hm hmx ho hn
end Go.Proofs.YtpehcaidjlemiaaGreatDoor
