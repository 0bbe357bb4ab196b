import Derived.Test.YtpehcaidjlemiaaGreatDoorMNZz
import Derived.Test.YtpehcaidjlemiaaGreatDoorMNQ30
import Derived.Test.YtpehcaidjlemiaaGreatDoorMNQ32
import Derived.Test.YtpehcaidjlemiaaGreatDoorMNQ35
import Derived.Test.YtpehcaidjlemiaaGreatDoorMNQ21
import Derived.Test.YtpehcaidjlemiaaGreatDoorMNQ29
import Derived.Test.YtpehcaidjlemiaaGreatDoorMNQ05
import Derived.Deep.CutRange
import Derived.Deep.RegionLaw
set_option maxHeartbeats 8000000
set_option maxRecDepth 100000
set_option linter.unusedVariables false
namespace Go.Proofs.YtpehcaidjlemiaaGreatDoor
open Go Go.RowKit
theorem walk_MergeNone (a0:Option Addr) (len0 cap0:Nat) (z0:List Dc) (W:World) (h0:qiH W a0 len0 cap0 z0) (hT:Tab W):
    Calls Tryz.prog 7 #[.slice a0 len0 cap0] W fun e W'=>e= .returned (.bool true)/\Below W.heap.size W W':=by
  obtain ⟨g1,g2,g3,g4,g5⟩:=h0;have HG1:Calls Tryz.prog 10 #[.slice a0 len0 cap0,.int .i64 8,.int .i64 0,.int .i64 1] W (qpu (qck z0 8 0 1) W):=qx2 a0 len0 cap0 z0 8 0 1 W g3 g4 (by unfold maxLen at g2;omega) (by omega) (by omega) (by omega) fun q hq f hf=>by
    have :=g5 q hq f hf;unfold maxLen at this;omega
  obtain ⟨G,hG⟩:∃ G,G=qck z0 8 0 1:=⟨_,rfl⟩;have hadd:qcf G:=by rw [hG];exact qyr _ _ _ _ (by omega) (by omega) (by omega)
  have hlen:G.length<=8:=by rw [hG,qiF];omega
  rw [<- hG] at HG1;have HGOOD:=qH HG1;have HADD:=qH hadd;obtain ⟨N,hN⟩:∃ N,N=G.length:=⟨_,rfl⟩;rw [<- hN] at hlen;have HN:=qH hN;have HT:=qH hT;clear g1 g2 g3 g4 g5 hG hadd hN hT HG1
  go_enter Tryz.func7,Tryz.ntmps7
  go_upto_region 5 with (first
    | (go_at_call 10; (with_reducible refine HGOOD.out.mono ?_); rintro e w1 ⟨V, rfl, ho1, hb1⟩
       obtain ⟨AG,cG,rfl,hcG,hu⟩:=ho1.nest;rw [<- HN.out] at hcG ⊢;have HO1:Hid (qa6 (fun k=>W.heap.size<=k) w1 (.slice AG N cG) G):=qH (by rw [HN.out];exact ho1);have HB1:=qH hb1;clear ho1 hb1 hu)
    | (go_at_call 11; (with_reducible refine (qy1 (.slice AG N cG) G w1 HO1.out.small HADD.out).mono ?_); rintro e w2 ⟨S, rfl, hs2, -, hb2⟩
       have HS2:=qH hs2;have HB2:=qH (HB1.out.trans (hb2.mono HB1.out.size));clear hs2 hb2))
  have HMN:Hid (∀ (w':World) (b1 b2 B:Nat),qkv w2 S B b1 b2 (List.replicate N false) w'->Calls Tryz.prog 14 #[.slice (some ⟨b1,0,none⟩) 1 1,.slice (some ⟨b2,0,none⟩) 1 1] w' (qd1 (qad []) w')):=qH fun w' b1 b2 B h=>by
    obtain ⟨base,hset⟩:=h.set;have :=qpI 1 1 h.c1 h.c2 (HS2.out.below h.below) hset (HT.out.below (HB2.out.trans (h.below.mono HB2.out.size)) HT.out.lt) HADD.out (by rw [<- HN.out];omega) (by rw [List.length_replicate];exact HN.out);rwa [qyE] at this
  have HMF:Hid (∀ (w':World) (b1 b2 B:Nat),qkv w2 S B b1 b2 (List.replicate N true) w'->Calls Tryz.prog 14 #[.slice (some ⟨b1,0,none⟩) 1 1,.slice (some ⟨b2,0,none⟩) 1 1] w' (qd1 (qad G) w')):=qH fun w' b1 b2 B h=>by
    obtain ⟨base,hset⟩:=h.set;have :=qpI 1 1 h.c1 h.c2 (HS2.out.below h.below) hset (HT.out.below (HB2.out.trans (h.below.mono HB2.out.size)) HT.out.lt) HADD.out (by rw [<- HN.out];omega) (by rw [List.length_replicate];exact HN.out);rwa [HN.out,qyD] at this
  have HAL:Hid (∀ w',Below w2.heap.size w2 w'->Below w2.heap.size w2 (w'.alloc (.cells #[.pointer (some ⟨S,0,none⟩)] 33))/\(w'.alloc (.cells #[.pointer (some ⟨S,0,none⟩)] 33)).heap[w'.heap.size]?=some (.cells #[.pointer (some ⟨S,0,none⟩)] 33 (0,0))):=qH fun w' h=>⟨h.alloc h.size _,heap_alloc_new w' _⟩
  obtain ⟨wa,hwa⟩:∃ wa,wa=w2.alloc (.cells #[.pointer (some ⟨S,0,none⟩)] 33):=⟨_,rfl⟩;obtain ⟨k1,k2⟩:=HAL.out w2 (Below.refl _ _);rw [<- hwa] at k1 k2;have HK1:=qH k1;have HK2:=qH k2;have HWA:=qH hwa;clear hwa k1 k2
  go_upto_region 6 with (first
    | (go_at_call 22; rw [<- HWA.out]; (with_reducible refine (qpz _ _ (by omega)).mono ?_); rintro e w5 ⟨rfl, hs5, hb5⟩
       rw [Int.toNat_natCast] at hs5;have HL5:=qH (qpJ (HK1.out.trans (hb5.mono HK1.out.size)) ((hb5.block _ (Array.getElem?_eq_some_iff.1 HK2.out).1).trans HK2.out) hs5);clear hs5 hb5)
    | (go_at_call 14; (with_reducible refine (HMN.out _ _ _ _ HL5.out).mono ?_); rintro e w6 ⟨S6, rfl, hs6, -, hb6⟩
       have HS6:=qH hs6;have HB6:=qH (HL5.out.below.trans (hb6.mono HL5.out.below.size));clear hs6 hb6))
  clear HWA HK1 HK2 HMN;obtain ⟨wb,hwb⟩:∃ wb,wb=w6.alloc (.cells #[.pointer (some ⟨S,0,none⟩)] 33):=⟨_,rfl⟩;obtain ⟨k1,k2⟩:=HAL.out w6 HB6.out;rw [<- hwb] at k1 k2;have HK1:=qH k1;have HK2:=qH k2;have HWB:=qH hwb;have HS6b:Hid (qbC wb S6 (qad [])):=qH (by rw [hwb];exact HS6.out.below ((Below.refl _ w6).alloc (Nat.le_refl _) _));have hb6b:Below w6.heap.size w6 wb:=by rw [hwb];exact (Below.refl _ w6).alloc (Nat.le_refl _) _
  clear hwb k1 k2 hb6b
  go_wp2_with (first
    | (go_at_call 19; rw [<- HWB.out]; (with_reducible refine (qyy _ _ (by omega)).mono ?_); rintro e w7 ⟨rfl, hs7, hb7⟩
       rw [Int.toNat_natCast] at hs7;have HL7:=qH (qpJ (HK1.out.trans (hb7.mono HK1.out.size)) ((hb7.block _ (Array.getElem?_eq_some_iff.1 HK2.out).1).trans HK2.out) (qyK hs7));have hal7:=(Below.refl w7.heap.size w7).alloc (Nat.le_refl _) (.cells #[.pointer (some ⟨wb.heap.size,0,none⟩)] 37);have HS7:=qH ((HS6b.out.below hb7).below hal7);clear hs7 hb7 hal7)
    | (go_at_call 14; (with_reducible refine (HMF.out _ _ _ _ HL7.out).mono ?_); rintro e w8 ⟨S8, rfl, hs8, -, hb8⟩
       have HS8:=qH hs8;have HS7b:=qH (HS7.out.below hb8);have HB8:=qH (HL7.out.below.trans (hb8.mono HL7.out.below.size));have HSS:=qH (HS2.out.below HB8.out);clear hs8 hb8)
    | (go_at_call 20; (with_reducible refine (qjx HS7b.out).mono ?_); rintro e w9 ⟨rfl, hb9⟩
       have HB9:=qH (HB8.out.trans (hb9.mono HB8.out.size));have HS9:=qH (HS7b.out.below hb9);have HT9:=qH (HS8.out.below hb9);have HU9:=qH (HSS.out.below hb9);clear hb9)
    | (go_at_call 25; (with_reducible refine (qo4 HS9.out).mono ?_); rintro e w10 ⟨v10, rfl, ho10, hb10⟩
       obtain ⟨A10,c10,rfl,_,_⟩:=ho10.row;have HB10:=qH (HB9.out.trans (hb10.mono HB9.out.size));have HSM:=qH (qzc (HT9.out.below hb10) (HU9.out.below hb10) (qhD HADD.out) (qhD HADD.out));rw [decide_eq_true rfl] at HSM;clear ho10 hb10)
    | (go_at_call 21; (with_reducible refine HSM.out.mono ?_); rintro e w11 ⟨rfl, hb11⟩
       have HB11:=qH (HB10.out.trans (hb11.mono HB10.out.size));clear hb11)
    | (go_at_call 18; (with_reducible refine (qtK qzd w11).mono ?_); rintro e w12 ⟨rfl, hb12⟩
       have HB12:=qH (HB11.out.trans (hb12.mono HB11.out.size));clear hb12))
  go_ret;exact ⟨rfl,HB2.out.trans (HB12.out.mono HB2.out.size)⟩
end Go.Proofs.YtpehcaidjlemiaaGreatDoor
