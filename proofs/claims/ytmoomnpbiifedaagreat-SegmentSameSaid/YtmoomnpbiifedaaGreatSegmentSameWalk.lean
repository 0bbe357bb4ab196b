import Derived.Test.YtmoomnpbiifedaaGreatMSQ17
import Derived.Test.YtmoomnpbiifedaaGreatMSQ24
import Derived.Test.YtmoomnpbiifedaaGreatMSQ25
import Derived.Test.YtmoomnpbiifedaaGreatMSQ26
import Derived.Test.YtmoomnpbiifedaaGreatMSQ23
import Derived.Deep.DeepCutAuto
set_option linter.unusedVariables false
namespace Go.Proofs.YtmoomnpbiifedaaGreat
open Go Go.RowKit
set_option maxHeartbeats 8000000 in
set_option maxRecDepth 100000 in
theorem walk_SegmentSame (a0:Option Addr) (len0 cap0:Nat) (z0:List Dc) (a1:Option Addr) (len1 cap1:Nat) (z1:List Dc) (W:World) (h0:InDocs W a0 len0 cap0 z0) (h1:InDocs W a1 len1 cap1 z1):
    Calls Tryz.prog 5 #[.slice a0 len0 cap0,.slice a1 len1 cap1] W fun e W'=>e= .returned (.bool true)∧Below W.heap.size W W':=by
  have HGOOD:Hid (∀ (a:Option Addr) (len cap:Nat) (z:List Dc) (w:World),InDocs W a len cap z→Below W.heap.size W w→Calls Tryz.prog 14 #[.slice a len cap,.int .i64 5,.int .i64 0,.int .i64 1] w (GaveEn (goodsE z 5 0 1) w)):=Lib.hid fun a len cap z w ⟨g1,g2,g3,g4,g5⟩ hb=>
    ref09_Good a len cap z 5 0 1 w g3 (Nest.later g4 hb) (by unfold maxLen at g2;omega) (by omega) (by omega) (by omega) fun q hq f hf=>by
      have :=g5 q hq f hf
      unfold maxLen at this
      omega
  obtain ⟨G,hG⟩:∃ G,G=goodsE z0 5 0 1:=⟨_,rfl⟩
  obtain ⟨H,hH⟩:∃ H,H=goodsE z1 5 0 1:=⟨_,rfl⟩
  have HADG:Hid (AddOk G):=Lib.hid (by rw [hG];exact goodsE_add _ _ _ _ (by omega) (by omega) (by omega))
  have HADH:Hid (AddOk H):=Lib.hid (by rw [hH];exact goodsE_add _ _ _ _ (by omega) (by omega) (by omega))
  have HG1:Hid (Calls Tryz.prog 14 #[.slice a0 len0 cap0,.int .i64 5,.int .i64 0,.int .i64 1] W (GaveEn G W)):=Lib.hid (by rw [hG];exact HGOOD.out _ _ _ _ W h0 (Below.refl _ _))
  have HG2:Hid (∀ w,Below W.heap.size W w→Calls Tryz.prog 14 #[.slice a1 len1 cap1,.int .i64 5,.int .i64 0,.int .i64 1] w (GaveEn H w)):=Lib.hid fun w hb=>by rw [hH];exact HGOOD.out _ _ _ _ w h1 hb
  obtain ⟨N,hN⟩:∃ N,N=G.length:=⟨_,rfl⟩
  obtain ⟨M,hM⟩:∃ M,M=H.length:=⟨_,rfl⟩
  have HN:=Lib.hid hN
  have HM:=Lib.hid hM
  obtain ⟨zz,hzz⟩:∃ z,z=decide (buildP G=buildP H):=⟨_,rfl⟩
  have HZZ:=Lib.hid hzz
  clear h0 h1 HGOOD hG hH hN hM hzz
  go_enter Tryz.func5,Tryz.ntmps5
  go_wp2_with (first
    | (go_at_call 14; (with_reducible refine HG1.out.mono ?_); rintro e w1 ⟨V, rfl, ho, hb⟩
       obtain ⟨AG,cG,rfl,hcG,hu⟩:=ho.nest
       rw [← HN.out] at hcG ⊢
       have HOG:Hid (OwnES (fun k=>W.heap.size≤k) w1 (.slice AG N cG) G):=Lib.hid (by rw [HN.out];exact ho)
       have HUG:=Lib.hid hu
       have HW1:=Lib.hid hb
       clear ho hb hu)
    | (go_at_call 14; (with_reducible refine (HG2.out w1 HW1.out).mono ?_); rintro e w2 ⟨V, rfl, ho, hb⟩
       obtain ⟨AH,cH,rfl,hcH,hu⟩:=ho.nest
       rw [← HM.out] at hcH ⊢
       have HOH:Hid (OwnES (fun k=>w1.heap.size≤k) w2 (.slice AH M cH) H):=Lib.hid (by rw [HM.out];exact ho)
       have HUH:=Lib.hid hu
       have HOG2:=Lib.hid (HOG.out.later hb)
       have HUG2:=Lib.hid (Nest.later HUG.out hb)
       have HW2:=Lib.hid (HW1.out.trans (hb.mono HW1.out.size))
       clear ho hb hu)
    | (go_at_call 16; (with_reducible refine (seg_Build (.slice AG N cG) G w2 HOG2.out.small HADG.out).mono ?_); rintro e w3 ⟨S, rfl, hs, -, hb⟩
       have HS3:=Lib.hid hs
       have HOH3:=Lib.hid (HOH.out.later hb)
       have HUG3:=Lib.hid (Nest.later HUG2.out hb)
       have HUH3:=Lib.hid (Nest.later HUH.out hb)
       have HW3:=Lib.hid (HW2.out.trans (hb.mono HW2.out.size))
       clear hs hb)
    | (go_at_call 16; (with_reducible refine (seg_Build (.slice AH M cH) H w3 HOH3.out.small HADH.out).mono ?_); rintro e w4 ⟨T, rfl, hs, -, hb⟩
       have HT4:=Lib.hid hs
       have HS4:=Lib.hid (HS3.out.below hb)
       have HUG4:=Lib.hid (Nest.later HUG3.out hb)
       have HUH4:=Lib.hid (Nest.later HUH3.out hb)
       have HW4:=Lib.hid (HW3.out.trans (hb.mono HW3.out.size))
       clear hs hb)
    | (go_at_call 17; (with_reducible refine (seg_Parts HS4.out).mono ?_); rintro e w5 ⟨A1, c1, A2, c2, A3, c3, A4, c4, rfl, hp, hb⟩
       have HMK:=Lib.hid (seg_Make A1 A2 A3 A4 _ c1 _ c2 _ c3 _ c4 (buildP G) w5 rfl rfl rfl rfl hp (build_few HADG.out) (build_small HADG.out) (build_may HADG.out))
       have HS5:=Lib.hid (HS4.out.below hb)
       have HT5:=Lib.hid (HT4.out.below hb)
       have HUG5:=Lib.hid (Nest.later HUG4.out hb)
       have HUH5:=Lib.hid (Nest.later HUH4.out hb)
       have HW5:=Lib.hid (HW4.out.trans (hb.mono HW4.out.size))
       clear hp hb)
    | (go_at_call 9; (with_reducible refine HMK.out.mono ?_); rintro e w6 ⟨Z, rfl, hz, -, hb⟩
       have HZ6:=Lib.hid hz
       have HS6:=Lib.hid (HS5.out.below hb)
       have HSS:=Lib.hid (seg_Same HS6.out (HT5.out.below hb) (build_few HADG.out) (build_few HADH.out))
       rw [← HZZ.out] at HSS
       have HUG6:=Lib.hid (Nest.later HUG5.out hb)
       have HUH6:=Lib.hid (Nest.later HUH5.out hb)
       have HW6:=Lib.hid (HW5.out.trans (hb.mono HW5.out.size))
       clear hz hb)
    | (go_at_call 18; (with_reducible refine HSS.out.mono ?_); rintro e w7 ⟨rfl, hb⟩
       have HZ7:=Lib.hid (HZ6.out.below hb)
       have HS7:=Lib.hid (HS6.out.below hb)
       have HUG7:=Lib.hid (Nest.later HUG6.out hb)
       have HUH7:=Lib.hid (Nest.later HUH6.out hb)
       have HW7:=Lib.hid (HW6.out.trans (hb.mono HW6.out.size))
       clear hb)
    | (go_at_call 13; (with_reducible refine (ref10_Build AG N cG G w7 HN.out.symm HUG7.out HADG.out).mono ?_); rintro e w8 ⟨D1, d1, D2, d2, D3, d3, D4, d4, rfl, hp, hb⟩
       have HP8:=Lib.hid hp
       have HZ8:=Lib.hid (HZ7.out.below hb)
       have HS8:=Lib.hid (HS7.out.below hb)
       have HUH8:=Lib.hid (Nest.later HUH7.out hb)
       have HW8:=Lib.hid (HW7.out.trans (hb.mono HW7.out.size))
       clear hp hb)
    | (go_at_call 13; (with_reducible refine (ref10_Build AH M cH H w8 HM.out.symm HUH8.out HADH.out).mono ?_); rintro e w9 ⟨E1, e1, E2, e2, E3, e3, E4, e4, rfl, hp, hb⟩
       have HRS:=Lib.hid (ref10_Same D1 D2 D3 D4 E1 E2 E3 E4 _ d1 _ d2 _ d3 _ d4 _ e1 _ e2 _ e3 _ e4 (buildP G) (buildP H) w9 rfl rfl rfl rfl rfl rfl rfl rfl (HP8.out.later hb) hp (build_few HADG.out) (build_few HADH.out))
       rw [← HZZ.out] at HRS
       have HZ9:=Lib.hid (HZ8.out.below hb)
       have HS9:=Lib.hid (HS8.out.below hb)
       have HW9:=Lib.hid (HW8.out.trans (hb.mono HW8.out.size))
       clear hp hb)
    | (go_at_call 19; (with_reducible refine HRS.out.mono ?_); rintro e w10 ⟨rfl, hb⟩
       have HSZ:=Lib.hid (seg_Same (HS9.out.below hb) (HZ9.out.below hb) (build_few HADG.out) (build_few HADG.out))
       rw [decide_eq_true rfl] at HSZ
       have HW10:=Lib.hid (HW9.out.trans (hb.mono HW9.out.size))
       clear hb)
    | (go_at_call 18; (with_reducible refine HSZ.out.mono ?_); rintro e w11 ⟨rfl, hb⟩
       have HW11:=Lib.hid (HW10.out.trans (hb.mono HW10.out.size))
       clear hb)
    | (go_at_call 18; (with_reducible refine (seg_Same_nil w11).mono ?_); rintro e w12 ⟨rfl, hb⟩
       have HW12:=Lib.hid (HW11.out.trans (hb.mono HW11.out.size))
       clear hb)
    | (go_at_call 18; (with_reducible refine (seg_Same_left S w12).mono ?_); rintro e w13 ⟨rfl, hb⟩
       have HW13:=Lib.hid (HW12.out.trans (hb.mono HW12.out.size))
       clear hb)
    | (go_at_call 18; (with_reducible refine (seg_Same_right S w13).mono ?_); rintro e w14 ⟨rfl, hb⟩
       have HW14:=Lib.hid (HW13.out.trans (hb.mono HW13.out.size))
       clear hb)
    | (go_at_call 15; (with_reducible refine (law10_lives w14).mono ?_); rintro e w15 ⟨rfl, hb⟩
       have HW15:=Lib.hid (HW14.out.trans (hb.mono HW14.out.size))
       clear hb))
  go_ret
  exact ⟨rfl,HW15.out⟩
end Go.Proofs.YtmoomnpbiifedaaGreat
