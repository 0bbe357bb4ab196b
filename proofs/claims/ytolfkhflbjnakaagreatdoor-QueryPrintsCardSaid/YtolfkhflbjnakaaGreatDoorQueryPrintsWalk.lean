/- QueryPrints' walk: the text of a query, and back. -/
import Derived.Test.YtolfkhflbjnakaaGreatDoorQueryMayWalk
import Derived.Test.YtolfkhflbjnakaaGreatDoorNAQ23
import Derived.Test.YtolfkhflbjnakaaGreatDoorNAQ15
import Derived.Test.YtolfkhflbjnakaaGreatDoorNAQ22
import Derived.Test.YtolfkhflbjnakaaGreatDoorNAQ21
set_option linter.unusedVariables false
namespace Go.Proofs.YtolfkhflbjnakaaGreatDoor
open Go Go.RowKit

set_option maxHeartbeats 4000000 in
set_option maxRecDepth 100000 in
theorem walk_QueryPrints (w : World) (hg : Glob w) (q : Qy) (v : Value) (hq : QIn w q v) (hraw : RawQ maxLen q) :
    Calls Tryz.prog 4 #[v] w fun e w' => e = .returned (.bool true) ∧ Below w.heap.size w w' := by
  obtain ⟨q7, hq7⟩ : ∃ q7, q7 = fewQ 7 q := ⟨_, rfl⟩
  have HFEW : Hid (∀ w1, Below w.heap.size w w1 → Calls Tryz.prog 12 #[v, .int .i64 7] w1 (GaveQ q7 w1)) := Lib.hid fun w1 hb => by rw [hq7]; exact law12_few 7 q v w1 (by omega) hraw (hq.later hb)
  have hraw7 : RawQ 100000000 q7 := by rw [hq7]; exact raw_more (by decide) (few_raw 7 hraw)
  have hdeep7 : deepQ q7 ≤ 8 := by rw [hq7]; exact few_deep 7 q
  have hfine7 : FineQ q7 := by rw [hq7]; exact few_fine 7 q
  obtain ⟨hm, hdp⟩ := good_may 3 (d := 1) (q := q7) (by omega) (by omega)
  have HGQ : Hid (∀ (v : Value) (w1 : World), QIn w1 q7 v → Calls Tryz.prog 13 #[v, .int .i64 1] w1 (GaveQ (goodQ 1 q7) w1)) := Lib.hid fun v w1 hv => ref12_Good 3 q7 1 v w1 (by omega) (by omega) hraw7 hv
  obtain ⟨g, hgq⟩ : ∃ g, g = goodQ 1 q7 := ⟨_, rfl⟩
  rw [← hgq] at hm hdp HGQ
  have hfg : FineQ g := may_fine 4 hdp hm
  obtain ⟨R, hR⟩ : ∃ R, R = mayQ 1 q7 := ⟨_, rfl⟩
  obtain ⟨S, hS⟩ : ∃ S : ByteArray, S = ⟨(printQ q7).toArray⟩ := ⟨_, rfl⟩
  obtain ⟨T, hT⟩ : ∃ T : ByteArray, T = ⟨(textQ g).toArray⟩ := ⟨_, rfl⟩
  have HPR : Hid (∀ (v : Value) (w2 : World), Below w.heap.size w w2 → QIn w2 q7 v → Calls Tryz.prog 19 #[v] w2 fun e w' => e = .returned (.tuple #[.string S, .int .i64 R]) ∧ Below w2.heap.size w2 w') := Lib.hid fun v w2 hb hv => by rw [hR, hS]; exact query_Print q7 v w2 (hg.below hb hg.size) (by omega) hv hfine7
  have HPG : Hid (∀ (v : Value) (w2 : World), Below w.heap.size w w2 → QIn w2 g v → Calls Tryz.prog 19 #[v] w2 fun e w' => e = .returned (.tuple #[.string T, .int .i64 0]) ∧ Below w2.heap.size w2 w') := Lib.hid fun v w2 hb hv => by
    have := query_Print g v w2 (hg.below hb hg.size) (by omega) hv hfg
    rw [printQ, if_pos hm, hm] at this
    rw [hT]
    exact this
  have HRM : Hid (∀ (v : Value) (w2 : World), QIn w2 q7 v → Calls Tryz.prog 15 #[v] w2 fun e w' => e = .returned (.int .i64 R) ∧ Below w2.heap.size w2 w') := Lib.hid fun v w2 hv => by rw [hR]; exact ref12_May _ v w2 (by omega) hv hfine7
  have HS0 : Hid (R ≠ 0 → S = ⟨#[]⟩) := Lib.hid fun h => by rw [hS, printQ, if_neg (hR ▸ h)]
  have HTX : Hid (R = 0 → ∀ (v : Value) (w2 : World), QIn w2 q7 v → Calls Tryz.prog 20 #[v] w2 fun e w' => e = .returned (.string S) ∧ Below w2.heap.size w2 w') := Lib.hid fun h v w2 hv => by
    have hm0 : mayQ 1 q7 = 0 := by rw [← hR]; exact h
    rw [hS, printQ, if_pos hm0]
    exact ref12_Text 8 q7 v w2 hdeep7 ⟨1, Nat.le_refl _, hm0⟩ hv
  have HTG : Hid (∀ (v : Value) (w2 : World), QIn w2 g v → Calls Tryz.prog 20 #[v] w2 fun e w' => e = .returned (.string T) ∧ Below w2.heap.size w2 w') := Lib.hid fun v w2 hv => by rw [hT]; exact ref12_Text 8 g v w2 (by omega) ⟨1, Nat.le_refl _, hm⟩ hv
  have HPA : Hid (∀ w2 : World, Below w.heap.size w w2 → Calls Tryz.prog 21 #[.string T] w2 fun e w' => ∃ k f x A n c K m d, e = .returned (.tuple #[qV k f x A n c K m d, .int .i64 0]) ∧ QIn w' g (qV k f x A n c K m d) ∧ Below w2.heap.size w2 w') := Lib.hid fun w2 hb => by
    have := query_Parse (textQ g) w2 (hg.below hb hg.size) (Nat.le_trans (textQ_length 4 hdp hm) (by decide))
    rw [parse_of hm, ← hT] at this
    refine this.mono fun e w' h => ?_
    obtain ⟨hb, v, he, k, f, x, A, n, c, K, m, d, rfl, hq⟩ := h
    exact ⟨k, f, x, A, n, c, K, m, d, he, ⟨_, _, _, _, _, _, _, _, _, rfl, hq.imp fun b hb => hb.2⟩, hb⟩
  have HRS : Hid (∀ (v v2 : Value) (w2 : World), QIn w2 g v → QIn w2 g v2 → Calls Tryz.prog 22 #[v, v2] w2 fun e w' => e = .returned (.bool true) ∧ Below w2.heap.size w2 w') := Lib.hid fun v v2 w2 h1 h2 => by
    have := ref12_Same 8 g g v v2 w2 (by omega) hfg hfg h1 h2
    rwa [same_self] at this
  have HQS : Hid (∀ (v v2 : Value) (w2 : World), QIn w2 g v → QIn w2 g v2 → Calls Tryz.prog 23 #[v, v2] w2 fun e w' => e = .returned (.bool true) ∧ Below w2.heap.size w2 w') := Lib.hid fun v v2 w2 h1 h2 => by
    have := query_Same g g v v2 w2 hfg hfg (by omega) h1 h2
    rwa [same_self] at this
  have HL : Hid (∀ w2, Below w.heap.size w w2 → Calls Tryz.prog 18 #[] w2 fun e w' => e = .returned (.bool true) ∧ Below w2.heap.size w2 w') := Lib.hid fun w2 hb => law12_lives w2 (hg.below hb hg.size)
  obtain ⟨k, t, ws, ks, f, x, A, c, K, m, ds, he, rfl, -⟩ := hq.open_
  obtain ⟨w1, hw1⟩ : ∃ w1, w1 = boxQ w k f x A ws.length c K ks.length m := ⟨_, rfl⟩
  have HB1 : Hid (Below w.heap.size w w1) := Lib.hid (by rw [hw1]; exact boxQ_below)
  obtain ⟨-, a0, a1, a2, a3, a4⟩ := boxQ_of (w := w) (k := k) (f := f) (x := x) (A := A) (n := ws.length) (c := c) (K := K) (m := ks.length) (d := m) (wr := w1) (by rw [hw1]; exact Below.refl _ _)
  have HW1 := Lib.hid hw1
  clear hR hS hT hgq hm hdp hfg hq7 hraw7 hdeep7 hfine7 he hq hraw hg hw1
  go_enter Tryz.func4, Tryz.ntmps4
  go_upto_region 1 with fail
  rw [show w.alloc _ = w1 from HW1.out.symm]
  go_upto_region 2 with (go_at_call 12; (with_reducible refine (HFEW.out _ HB1.out).mono ?_); rintro e w2 ⟨v2, rfl, hq2, hb2⟩; obtain ⟨k2, f2, x2, A2, n2, c2, K2, m2, d2, e2, hq3⟩ := hq2; subst e2; obtain ⟨hb3, hv3, ⟨g0, g1, g2, g3, g4⟩, b0, b1, b2, b3, b4⟩ := VQ.put HW1.out hb2 ⟨_, _, _, _, _, _, _, _, _, rfl, hq3⟩; have HB3 := Lib.hid hb3; have HV3 := Lib.hid hv3; clear hb2 hq3 hb3 hv3 a0 a1 a2 a3 a4)
  obtain ⟨w3, hw3⟩ : ∃ w3, w3 = set5 w2 w.heap.size (.int .i64 k2) (.string f2) (.string x2) (.slice A2 n2 c2) (.slice K2 m2 d2) := ⟨_, rfl⟩
  rw [← hw3] at HB3 HV3
  rw [show (((((w2.setCell _ _).setCell _ _).setCell _ _).setCell _ _).setCell _ _) = w3 from hw3.symm]
  obtain ⟨B, hB⟩ : ∃ B, B = w.heap.size := ⟨_, rfl⟩
  rw [← hB] at HV3 ⊢
  clear hw3 g0 g1 g2 g3 g4 b0 b1 b2 b3 b4 hB
  obtain ⟨a0, a1, a2, a3, a4⟩ := HV3.out.cells
  go_upto_region 3 with (go_at_call 19; (with_reducible refine (HPR.out _ _ HB3.out HV3.out.in_).mono ?_); rintro e w4 ⟨rfl, hb4⟩; have HV4 := Lib.hid (HV3.out.later hb4); have HB4 := Lib.hid (HB3.out.trans (hb4.mono HB3.out.size)); clear hb4 a0 a1 a2 a3 a4; obtain ⟨a0, a1, a2, a3, a4⟩ := HV4.out.cells)
  go_upto_region 4 with (go_at_call 15; (with_reducible refine (HRM.out _ _ HV4.out.in_).mono ?_); rintro e w5 ⟨rfl, hb5⟩; have HV := Lib.hid (HV4.out.later hb5); have HX := Lib.hid (HB4.out.trans (hb5.mono HB4.out.size)); clear hb5 a0 a1 a2 a3 a4; obtain ⟨a0, a1, a2, a3, a4⟩ := HV.out.cells)
  clear HV3 HB3 HV4 HB4
  by_cases h0 : R = 0
  · subst h0
    go_upto_region 7 with (first
      | (go_at_call 20; (with_reducible refine (HTX.out (by first | trivial | rfl) _ _ HV.out.in_).mono ?_); rintro e wn ⟨rfl, hbn⟩; have HV := Lib.hid (HV.out.later hbn); have HX := Lib.hid (HX.out.trans (hbn.mono HX.out.size)); clear hbn a0 a1 a2 a3 a4; obtain ⟨a0, a1, a2, a3, a4⟩ := HV.out.cells)
      | (go_at_call 13; (with_reducible refine (HGQ.out _ _ HV.out.in_).mono ?_); rintro e w6 ⟨v6, rfl, hq6, hb6⟩; obtain ⟨k6, f6, x6, A6, n6, c6, K6, m6, d6, e6, hq7⟩ := hq6; subst e6; have HQ6 : Hid (QIn w6 g (qV k6 f6 x6 A6 n6 c6 K6 m6 d6)) := Lib.hid ⟨_, _, _, _, _, _, _, _, _, rfl, hq7.imp fun b hb => hb.2⟩; have HB6 := Lib.hid (HX.out.trans (hb6.mono HX.out.size)); clear hq7 hb6 a0 a1 a2 a3 a4))
    obtain ⟨w7, hw7⟩ : ∃ w7, w7 = boxQ w6 k6 f6 x6 A6 n6 c6 K6 m6 d6 := ⟨_, rfl⟩
    rw [show w6.alloc _ = w7 from hw7.symm]
    obtain ⟨B2, hB2⟩ : ∃ B2, B2 = w6.heap.size := ⟨_, rfl⟩
    have hv7 : VQ w7 B2 g k6 f6 x6 A6 n6 c6 K6 m6 d6 := by rw [hw7, hB2]; exact VQ.made HQ6.out
    have hb7 : Below w.heap.size w w7 := by rw [hw7]; exact HB6.out.trans (boxQ_below.mono HB6.out.size)
    rw [← hB2]
    have HV7 := Lib.hid hv7
    have HB7 := Lib.hid hb7
    clear hw7 hB2 hv7 hb7 HQ6 HB6 HV HX HGQ HRM HTX
    obtain ⟨b0, b1, b2, b3, b4⟩ := HV7.out.cells
    go_upto_region 8 with (go_at_call 19; (with_reducible refine (HPG.out _ _ HB7.out HV7.out.in_).mono ?_); rintro e w8 ⟨rfl, hb8⟩; have HV8 := Lib.hid (HV7.out.later hb8); have HB8 := Lib.hid (HB7.out.trans (hb8.mono HB7.out.size)); clear hb8 b0 b1 b2 b3 b4)
    go_upto_region 9 with (go_at_call 21; (with_reducible refine (HPA.out _ HB8.out).mono ?_); rintro e w9 ⟨k9, f9, x9, A9, n9, c9, K9, m9, d9, rfl, hq9, hb9⟩; have HV9 := Lib.hid (HV8.out.later hb9); have HB9 := Lib.hid (HB8.out.trans (hb9.mono HB8.out.size)); have HQ9 := Lib.hid hq9; clear hb9 hq9)
    obtain ⟨w10, hw10⟩ : ∃ w10, w10 = boxQ w9 k9 f9 x9 A9 n9 c9 K9 m9 d9 := ⟨_, rfl⟩
    rw [show w9.alloc _ = w10 from hw10.symm]
    obtain ⟨B3, hB3⟩ : ∃ B3, B3 = w9.heap.size := ⟨_, rfl⟩
    have hb10 : Below w9.heap.size w9 w10 := by rw [hw10]; exact boxQ_below
    have hz : TwoQ w B2 B3 k6 f6 x6 A6 n6 c6 K6 m6 d6 k9 f9 x9 A9 n9 c9 K9 m9 d9 g g w10 := ⟨HB9.out.trans (hb10.mono HB9.out.size), HV9.out.later hb10, by rw [hw10, hB3]; exact VQ.made HQ9.out⟩
    rw [← hB3]
    have HZ := Lib.hid hz
    clear hw10 hB3 hb10 hz HV9 HB9 HQ9 HV8 HB8 HV7 HB7
    obtain ⟨a0, a1, a2, a3, a4⟩ := HZ.out.vq.cells
    obtain ⟨b0, b1, b2, b3, b4⟩ := HZ.out.vg.cells
    go_wp2_with (first
      | (go_at_call 20; (with_reducible refine (HTG.out _ _ HZ.out.vq.in_).mono ?_); rintro e wn ⟨rfl, hbn⟩; have HZ := Lib.hid (HZ.out.later hbn); clear hbn a0 a1 a2 a3 a4 b0 b1 b2 b3 b4; obtain ⟨a0, a1, a2, a3, a4⟩ := HZ.out.vq.cells; obtain ⟨b0, b1, b2, b3, b4⟩ := HZ.out.vg.cells)
      | (go_at_call 22; (with_reducible refine (HRS.out _ _ _ HZ.out.vg.in_ HZ.out.vq.in_).mono ?_); rintro e wn ⟨rfl, hbn⟩; have HZ := Lib.hid (HZ.out.later hbn); clear hbn a0 a1 a2 a3 a4 b0 b1 b2 b3 b4; obtain ⟨a0, a1, a2, a3, a4⟩ := HZ.out.vq.cells; obtain ⟨b0, b1, b2, b3, b4⟩ := HZ.out.vg.cells)
      | (go_at_call 23; (with_reducible refine (HQS.out _ _ _ HZ.out.vg.in_ HZ.out.vq.in_).mono ?_); rintro e wn ⟨rfl, hbn⟩; have HZ := Lib.hid (HZ.out.later hbn); clear hbn a0 a1 a2 a3 a4 b0 b1 b2 b3 b4; obtain ⟨a0, a1, a2, a3, a4⟩ := HZ.out.vq.cells; obtain ⟨b0, b1, b2, b3, b4⟩ := HZ.out.vg.cells)
      | (go_at_call 18; (with_reducible refine (HL.out _ HZ.out.bel).mono ?_); rintro e wn ⟨rfl, hbn⟩; have HZ := Lib.hid (HZ.out.later hbn); clear hbn a0 a1 a2 a3 a4 b0 b1 b2 b3 b4; obtain ⟨a0, a1, a2, a3, a4⟩ := HZ.out.vq.cells; obtain ⟨b0, b1, b2, b3, b4⟩ := HZ.out.vg.cells))
    go_ret
    exact ⟨rfl, HZ.out.bel⟩
  · obtain rfl := HS0.out h0
    go_upto_region 7 with (go_at_call 13; (with_reducible refine (HGQ.out _ _ HV.out.in_).mono ?_); rintro e w6 ⟨v6, rfl, hq6, hb6⟩; obtain ⟨k6, f6, x6, A6, n6, c6, K6, m6, d6, e6, hq7⟩ := hq6; subst e6; have HQ6 : Hid (QIn w6 g (qV k6 f6 x6 A6 n6 c6 K6 m6 d6)) := Lib.hid ⟨_, _, _, _, _, _, _, _, _, rfl, hq7.imp fun b hb => hb.2⟩; have HB6 := Lib.hid (HX.out.trans (hb6.mono HX.out.size)); clear hq7 hb6 a0 a1 a2 a3 a4)
    obtain ⟨w7, hw7⟩ : ∃ w7, w7 = boxQ w6 k6 f6 x6 A6 n6 c6 K6 m6 d6 := ⟨_, rfl⟩
    rw [show w6.alloc _ = w7 from hw7.symm]
    obtain ⟨B2, hB2⟩ : ∃ B2, B2 = w6.heap.size := ⟨_, rfl⟩
    have hv7 : VQ w7 B2 g k6 f6 x6 A6 n6 c6 K6 m6 d6 := by rw [hw7, hB2]; exact VQ.made HQ6.out
    have hb7 : Below w.heap.size w w7 := by rw [hw7]; exact HB6.out.trans (boxQ_below.mono HB6.out.size)
    rw [← hB2]
    have HV7 := Lib.hid hv7
    have HB7 := Lib.hid hb7
    clear hw7 hB2 hv7 hb7 HQ6 HB6 HV HX HGQ HRM HTX
    obtain ⟨b0, b1, b2, b3, b4⟩ := HV7.out.cells
    go_upto_region 8 with (go_at_call 19; (with_reducible refine (HPG.out _ _ HB7.out HV7.out.in_).mono ?_); rintro e w8 ⟨rfl, hb8⟩; have HV8 := Lib.hid (HV7.out.later hb8); have HB8 := Lib.hid (HB7.out.trans (hb8.mono HB7.out.size)); clear hb8 b0 b1 b2 b3 b4)
    go_upto_region 9 with (go_at_call 21; (with_reducible refine (HPA.out _ HB8.out).mono ?_); rintro e w9 ⟨k9, f9, x9, A9, n9, c9, K9, m9, d9, rfl, hq9, hb9⟩; have HV9 := Lib.hid (HV8.out.later hb9); have HB9 := Lib.hid (HB8.out.trans (hb9.mono HB8.out.size)); have HQ9 := Lib.hid hq9; clear hb9 hq9)
    obtain ⟨w10, hw10⟩ : ∃ w10, w10 = boxQ w9 k9 f9 x9 A9 n9 c9 K9 m9 d9 := ⟨_, rfl⟩
    rw [show w9.alloc _ = w10 from hw10.symm]
    obtain ⟨B3, hB3⟩ : ∃ B3, B3 = w9.heap.size := ⟨_, rfl⟩
    have hb10 : Below w9.heap.size w9 w10 := by rw [hw10]; exact boxQ_below
    have hz : TwoQ w B2 B3 k6 f6 x6 A6 n6 c6 K6 m6 d6 k9 f9 x9 A9 n9 c9 K9 m9 d9 g g w10 := ⟨HB9.out.trans (hb10.mono HB9.out.size), HV9.out.later hb10, by rw [hw10, hB3]; exact VQ.made HQ9.out⟩
    rw [← hB3]
    have HZ := Lib.hid hz
    clear hw10 hB3 hb10 hz HV9 HB9 HQ9 HV8 HB8 HV7 HB7
    obtain ⟨a0, a1, a2, a3, a4⟩ := HZ.out.vq.cells
    obtain ⟨b0, b1, b2, b3, b4⟩ := HZ.out.vg.cells
    go_wp2_with (first
      | (go_at_call 20; (with_reducible refine (HTG.out _ _ HZ.out.vq.in_).mono ?_); rintro e wn ⟨rfl, hbn⟩; have HZ := Lib.hid (HZ.out.later hbn); clear hbn a0 a1 a2 a3 a4 b0 b1 b2 b3 b4; obtain ⟨a0, a1, a2, a3, a4⟩ := HZ.out.vq.cells; obtain ⟨b0, b1, b2, b3, b4⟩ := HZ.out.vg.cells)
      | (go_at_call 22; (with_reducible refine (HRS.out _ _ _ HZ.out.vg.in_ HZ.out.vq.in_).mono ?_); rintro e wn ⟨rfl, hbn⟩; have HZ := Lib.hid (HZ.out.later hbn); clear hbn a0 a1 a2 a3 a4 b0 b1 b2 b3 b4; obtain ⟨a0, a1, a2, a3, a4⟩ := HZ.out.vq.cells; obtain ⟨b0, b1, b2, b3, b4⟩ := HZ.out.vg.cells)
      | (go_at_call 23; (with_reducible refine (HQS.out _ _ _ HZ.out.vg.in_ HZ.out.vq.in_).mono ?_); rintro e wn ⟨rfl, hbn⟩; have HZ := Lib.hid (HZ.out.later hbn); clear hbn a0 a1 a2 a3 a4 b0 b1 b2 b3 b4; obtain ⟨a0, a1, a2, a3, a4⟩ := HZ.out.vq.cells; obtain ⟨b0, b1, b2, b3, b4⟩ := HZ.out.vg.cells)
      | (go_at_call 18; (with_reducible refine (HL.out _ HZ.out.bel).mono ?_); rintro e wn ⟨rfl, hbn⟩; have HZ := Lib.hid (HZ.out.later hbn); clear hbn a0 a1 a2 a3 a4 b0 b1 b2 b3 b4; obtain ⟨a0, a1, a2, a3, a4⟩ := HZ.out.vq.cells; obtain ⟨b0, b1, b2, b3, b4⟩ := HZ.out.vg.cells))
    go_ret
    exact ⟨rfl, HZ.out.bel⟩
end Go.Proofs.YtolfkhflbjnakaaGreatDoor
