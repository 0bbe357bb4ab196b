/- QueryMay's walk: which queries may be, and how deep they are. -/
import Derived.Test.YtolfkhflbjnakaaGreatDoorNAQ19
import Derived.Test.YtolfkhflbjnakaaGreatDoorNAQ16
import Derived.Test.YtolfkhflbjnakaaGreatDoorNAQ17
import Derived.Test.YtolfkhflbjnakaaGreatDoorNAQ20
import Derived.Test.YtolfkhflbjnakaaGreatDoorNAQ12
import Derived.Deep.RegionHeld3
set_option linter.unusedVariables false
namespace Go.Proofs.YtolfkhflbjnakaaGreatDoor
open Go Go.RowKit

/-- A query's variable that another query is written into. -/
theorem VQ.put {w w1 w2 : World} {q : Qy} {k k2 : Int} {f x f2 x2 : ByteArray} {A K A2 K2 : Option Addr} {n c m d n2 c2 m2 d2 : Nat} (hw1 : w1 = boxQ w k f x A n c K m d) (hb : Below w1.heap.size w1 w2)
    (hq : QV (fun b => w1.heap.size ≤ b ∧ b < w2.heap.size) w2 q (qV k2 f2 x2 A2 n2 c2 K2 m2 d2)) :
    Below w.heap.size w (set5 w2 w.heap.size (.int .i64 k2) (.string f2) (.string x2) (.slice A2 n2 c2) (.slice K2 m2 d2)) ∧
    VQ (set5 w2 w.heap.size (.int .i64 k2) (.string f2) (.string x2) (.slice A2 n2 c2) (.slice K2 m2 d2)) w.heap.size q k2 f2 x2 A2 n2 c2 K2 m2 d2 ∧
    (w2.frozen? ⟨w.heap.size, 0, none⟩ = false ∧ w2.frozen? ⟨w.heap.size, 1, none⟩ = false ∧ w2.frozen? ⟨w.heap.size, 2, none⟩ = false ∧ w2.frozen? ⟨w.heap.size, 3, none⟩ = false ∧ w2.frozen? ⟨w.heap.size, 4, none⟩ = false) ∧
    (w2.cell? ⟨w.heap.size, 0, none⟩ = some (.int .i64 k) ∧ w2.cell? ⟨w.heap.size, 1, none⟩ = some (.string f) ∧ w2.cell? ⟨w.heap.size, 2, none⟩ = some (.string x) ∧ w2.cell? ⟨w.heap.size, 3, none⟩ = some (.slice A n c) ∧ w2.cell? ⟨w.heap.size, 4, none⟩ = some (.slice K m d)) := by
  have hs : w1.heap.size = w.heap.size + 1 := by rw [hw1]; exact boxQ_size
  have h1 : w1.heap[w.heap.size]? = some (.cells #[.int .i64 k, .string f, .string x, .slice A n c, .slice K m d] 27 (0, 0)) := by rw [hw1]; exact heap_alloc_new _ _
  have h2 := (hb.block _ (by omega)).trans h1
  have h01 : Below w.heap.size w w1 := by rw [hw1]; exact boxQ_below
  obtain ⟨c5, f5⟩ := five_cells h2
  refine ⟨set5_below (h01.trans (hb.mono h01.size)) (Nat.le_refl _), ⟨set5_at h2, ?_⟩, f5, c5⟩
  exact (hq.keep fun b hb => set5_ne (by omega)).imp fun b hb => by rw [set5_size]; exact hb.2

/-- Two queries in variables. -/
structure TwoQ (w0 : World) (B B2 : Nat) (k : Int) (f x : ByteArray) (A : Option Addr) (n c : Nat) (K : Option Addr) (m d : Nat) (k2 : Int) (f2 x2 : ByteArray) (A2 : Option Addr) (n2 c2 : Nat) (K2 : Option Addr) (m2 d2 : Nat) (q g : Qy) (wr : World) : Prop where
  bel : Below w0.heap.size w0 wr
  vq : VQ wr B q k f x A n c K m d
  vg : VQ wr B2 g k2 f2 x2 A2 n2 c2 K2 m2 d2
theorem TwoQ.later {w0 : World} {B B2 : Nat} {k : Int} {f x : ByteArray} {A : Option Addr} {n c : Nat} {K : Option Addr} {m d : Nat} {k2 : Int} {f2 x2 : ByteArray} {A2 : Option Addr} {n2 c2 : Nat} {K2 : Option Addr} {m2 d2 : Nat} {q g : Qy} {wr w' : World}
    (h : TwoQ w0 B B2 k f x A n c K m d k2 f2 x2 A2 n2 c2 K2 m2 d2 q g wr) (hb : Below wr.heap.size wr w') : TwoQ w0 B B2 k f x A n c K m d k2 f2 x2 A2 n2 c2 K2 m2 d2 q g w' := ⟨h.bel.trans (hb.mono h.bel.size), h.vq.later hb, h.vg.later hb⟩

set_option maxHeartbeats 4000000 in
set_option maxRecDepth 100000 in
theorem walk_QueryMay (w : World) (hg : Glob w) (q : Qy) (v : Value) (hq : QIn w q v) (hraw : RawQ maxLen q) :
    Calls Tryz.prog 3 #[v] w fun e w' => e = .returned (.bool true) ∧ Below w.heap.size w w' := by
  obtain ⟨q7, hq7⟩ : ∃ q7, q7 = fewQ 7 q := ⟨_, rfl⟩
  have HFEW : Hid (∀ w1, Below w.heap.size w w1 → Calls Tryz.prog 12 #[v, .int .i64 7] w1 (GaveQ q7 w1)) := Lib.hid fun w1 hb => by rw [hq7]; exact law12_few 7 q v w1 (by omega) hraw (hq.later hb)
  have hraw7 : RawQ 100000000 q7 := by rw [hq7]; exact raw_more (by decide) (few_raw 7 hraw)
  have hdeep7 : deepQ q7 ≤ 8 := by rw [hq7]; exact few_deep 7 q
  have hfine7 : FineQ q7 := by rw [hq7]; exact few_fine 7 q
  obtain ⟨hm, hdp⟩ := good_may 3 (d := 1) (q := q7) (by omega) (by omega)
  have HGQ : Hid (∀ (v : Value) (w1 : World), QIn w1 q7 v → Calls Tryz.prog 13 #[v, .int .i64 1] w1 (GaveQ (goodQ 1 q7) w1)) := Lib.hid fun v w1 hv => ref12_Good 3 q7 1 v w1 (by omega) (by omega) hraw7 hv
  obtain ⟨g, hgq⟩ : ∃ g, g = goodQ 1 q7 := ⟨_, rfl⟩
  rw [← hgq] at hm hdp HGQ
  obtain ⟨R, hR⟩ : ∃ R, R = mayQ 1 q7 := ⟨_, rfl⟩
  obtain ⟨D, hD⟩ : ∃ D, D = deepQ q7 := ⟨_, rfl⟩
  have HM : Hid (∀ (v : Value) (w2 : World), QIn w2 q7 v → Calls Tryz.prog 14 #[v] w2 fun e w' => e = .returned (.int .i64 R) ∧ Below w2.heap.size w2 w') := Lib.hid fun v w2 hv => by rw [hR]; exact query_May _ v w2 (by omega) hv hfine7
  have HRM : Hid (∀ (v : Value) (w2 : World), QIn w2 q7 v → Calls Tryz.prog 15 #[v] w2 fun e w' => e = .returned (.int .i64 R) ∧ Below w2.heap.size w2 w') := Lib.hid fun v w2 hv => by rw [hR]; exact ref12_May _ v w2 (by omega) hv hfine7
  have HMG : Hid (∀ (v : Value) (w2 : World), QIn w2 g v → Calls Tryz.prog 14 #[v] w2 fun e w' => e = .returned (.int .i64 0) ∧ Below w2.heap.size w2 w') := Lib.hid fun v w2 hv => by
    have := query_May g v w2 (by omega) hv (may_fine 4 (d := 1) (by omega) hm)
    rwa [hm] at this
  have HD : Hid (∀ (v : Value) (w2 : World), QIn w2 q7 v → Calls Tryz.prog 16 #[v] w2 fun e w' => e = .returned (.int .i64 (D : Int)) ∧ Below w2.heap.size w2 w') := Lib.hid fun v w2 hv => by rw [hD]; exact query_Deep _ v w2 hv (by omega)
  have HRD : Hid (∀ (v : Value) (w2 : World), QIn w2 q7 v → Calls Tryz.prog 17 #[v] w2 fun e w' => e = .returned (.int .i64 (D : Int)) ∧ Below w2.heap.size w2 w') := Lib.hid fun v w2 hv => by rw [hD]; exact ref12_Deep 1000 _ v w2 (by omega) (by omega) hfine7 hv
  have HL : Hid (∀ w2, Below w.heap.size w w2 → Calls Tryz.prog 18 #[] w2 fun e w' => e = .returned (.bool true) ∧ Below w2.heap.size w2 w') := Lib.hid fun w2 hb => law12_lives w2 (hg.below hb hg.size)
  obtain ⟨k, t, ws, ks, f, x, A, c, K, m, ds, he, rfl, -⟩ := hq.open_
  obtain ⟨w1, hw1⟩ : ∃ w1, w1 = boxQ w k f x A ws.length c K ks.length m := ⟨_, rfl⟩
  have HB1 : Hid (Below w.heap.size w w1) := Lib.hid (by rw [hw1]; exact boxQ_below)
  obtain ⟨-, a0, a1, a2, a3, a4⟩ := boxQ_of (w := w) (k := k) (f := f) (x := x) (A := A) (n := ws.length) (c := c) (K := K) (m := ks.length) (d := m) (wr := w1) (by rw [hw1]; exact Below.refl _ _)
  have HW1 := Lib.hid hw1
  clear hR hD hgq hm hdp hq7 hraw7 hdeep7 hfine7 he hq hraw hg hw1
  go_enter Tryz.func3, Tryz.ntmps3
  go_upto_region 1 with fail
  rw [show w.alloc _ = w1 from HW1.out.symm]
  go_upto_region 2 with (go_at_call 12; (with_reducible refine (HFEW.out _ HB1.out).mono ?_); rintro e w2 ⟨v2, rfl, hq2, hb2⟩; obtain ⟨k2, f2, x2, A2, n2, c2, K2, m2, d2, e2, hq3⟩ := hq2; subst e2; obtain ⟨hb3, hv3, ⟨g0, g1, g2, g3, g4⟩, b0, b1, b2, b3, b4⟩ := VQ.put HW1.out hb2 ⟨_, _, _, _, _, _, _, _, _, rfl, hq3⟩; have HB3 := Lib.hid hb3; have HV3 := Lib.hid hv3; clear hb2 hq3 hb3 hv3 a0 a1 a2 a3 a4)
  obtain ⟨w3, hw3⟩ : ∃ w3, w3 = set5 w2 w.heap.size (.int .i64 k2) (.string f2) (.string x2) (.slice A2 n2 c2) (.slice K2 m2 d2) := ⟨_, rfl⟩
  rw [← hw3] at HB3 HV3
  rw [show (((((w2.setCell _ _).setCell _ _).setCell _ _).setCell _ _).setCell _ _) = w3 from hw3.symm]
  obtain ⟨B, hB⟩ : ∃ B, B = w.heap.size := ⟨_, rfl⟩
  rw [← hB] at HV3 ⊢
  clear hw3 g0 g1 g2 g3 g4 b0 b1 b2 b3 b4 hB
  obtain ⟨a0, a1, a2, a3, a4⟩ := HV3.out.cells
  go_upto_region 3 with (go_at_call 13; (with_reducible refine (HGQ.out _ _ HV3.out.in_).mono ?_); rintro e w4 ⟨v4, rfl, hq4, hb4⟩; obtain ⟨k4, f4, x4, A4, n4, c4, K4, m4, d4, e4, hq5⟩ := hq4; subst e4; have HQ4 : Hid (QIn w4 g (qV k4 f4 x4 A4 n4 c4 K4 m4 d4)) := Lib.hid ⟨_, _, _, _, _, _, _, _, _, rfl, hq5.imp fun b hb => hb.2⟩; have HB4 := Lib.hid hb4; clear hq5 hb4 a0 a1 a2 a3 a4)
  obtain ⟨w5, hw5⟩ : ∃ w5, w5 = boxQ w4 k4 f4 x4 A4 n4 c4 K4 m4 d4 := ⟨_, rfl⟩
  rw [show w4.alloc _ = w5 from hw5.symm]
  have hb5 : Below w4.heap.size w4 w5 := by rw [hw5]; exact boxQ_below
  have hb35 : Below w3.heap.size w3 w5 := HB4.out.trans (hb5.mono HB4.out.size)
  obtain ⟨B2, hB2⟩ : ∃ B2, B2 = w4.heap.size := ⟨_, rfl⟩
  have hz : TwoQ w B B2 k2 f2 x2 A2 n2 c2 K2 m2 d2 k4 f4 x4 A4 n4 c4 K4 m4 d4 q7 g w5 := ⟨HB3.out.trans (hb35.mono HB3.out.size), HV3.out.later hb35, by rw [hw5, hB2]; exact VQ.made HQ4.out⟩
  rw [← hB2]
  have HX := Lib.hid (hz.later (Below.refl _ w5).drew)
  clear hB2 hw5 hb5 hb35 hz HV3 HQ4 HB4 HB3
  go_region_held3 (fun w' => (w'.cell? ⟨B, 0, none⟩ = some (.int .i64 k2) ∧ w'.cell? ⟨B, 1, none⟩ = some (.string f2) ∧ w'.cell? ⟨B, 2, none⟩ = some (.string x2) ∧ w'.cell? ⟨B, 3, none⟩ = some (.slice A2 n2 c2) ∧ w'.cell? ⟨B, 4, none⟩ = some (.slice K2 m2 d2)) ∧
      (w'.cell? ⟨B2, 0, none⟩ = some (.int .i64 k4) ∧ w'.cell? ⟨B2, 1, none⟩ = some (.string f4) ∧ w'.cell? ⟨B2, 2, none⟩ = some (.string x4) ∧ w'.cell? ⟨B2, 3, none⟩ = some (.slice A4 n4 c4) ∧ w'.cell? ⟨B2, 4, none⟩ = some (.slice K4 m4 d4)))
    (exact ⟨HX.out.vq.cells, HX.out.vg.cells⟩)
    (first
      | (go_at_call 14; (with_reducible refine (HM.out _ _ HX.out.vq.in_).mono ?_); rintro e wn ⟨rfl, hbn⟩; have HX := Lib.hid (HX.out.later hbn); clear hbn)
      | (go_at_call 14; (with_reducible refine (HMG.out _ _ HX.out.vg.in_).mono ?_); rintro e wn ⟨rfl, hbn⟩; have HX := Lib.hid (HX.out.later hbn); clear hbn)
      | (go_at_call 15; (with_reducible refine (HRM.out _ _ HX.out.vq.in_).mono ?_); rintro e wn ⟨rfl, hbn⟩; have HX := Lib.hid (HX.out.later hbn); clear hbn)
      | (go_at_call 16; (with_reducible refine (HD.out _ _ HX.out.vq.in_).mono ?_); rintro e wn ⟨rfl, hbn⟩; have HX := Lib.hid (HX.out.later hbn); clear hbn)
      | (go_at_call 17; (with_reducible refine (HRD.out _ _ HX.out.vq.in_).mono ?_); rintro e wn ⟨rfl, hbn⟩; have HX := Lib.hid (HX.out.later hbn); clear hbn)
      | (go_at_call 18; (with_reducible refine (HL.out _ HX.out.bel).mono ?_); rintro e wn ⟨rfl, hbn⟩; have HX := Lib.hid (HX.out.later hbn); clear hbn))
  all_goals
    go_wp2
    go_ret
    exact ⟨rfl, HX.out.bel⟩
end Go.Proofs.YtolfkhflbjnakaaGreatDoor
