/- QuerySame's walk: whether two queries are the same. -/
import Derived.Test.YtolfkhflbjnakaaGreatDoorQueryMayWalk
import Derived.Test.YtolfkhflbjnakaaGreatDoorNAQ22
set_option linter.unusedVariables false
namespace Go.Proofs.YtolfkhflbjnakaaGreatDoor
open Go Go.RowKit

set_option maxHeartbeats 4000000 in
set_option maxRecDepth 100000 in
theorem walk_QuerySame (w : World) (hg : Glob w) (p : Qy) (u : Value) (hp : QIn w p u) (hrawp : RawQ maxLen p) (q : Qy) (v : Value) (hq : QIn w q v) (hraw : RawQ maxLen q) :
    Calls Tryz.prog 9 #[u, v] w fun e w' => e = .returned (.bool true) ∧ Below w.heap.size w w' := by
  obtain ⟨a, ha⟩ : ∃ a, a = fewQ 7 p := ⟨_, rfl⟩
  obtain ⟨b, hb⟩ : ∃ b, b = fewQ 7 q := ⟨_, rfl⟩
  have HFA : Hid (∀ w1, Below w.heap.size w w1 → Calls Tryz.prog 12 #[u, .int .i64 7] w1 (GaveQ a w1)) := Lib.hid fun w1 h => by rw [ha]; exact law12_few 7 p u w1 (by omega) hrawp (hp.later h)
  have HFB : Hid (∀ w1, Below w.heap.size w w1 → Calls Tryz.prog 12 #[v, .int .i64 7] w1 (GaveQ b w1)) := Lib.hid fun w1 h => by rw [hb]; exact law12_few 7 q v w1 (by omega) hraw (hq.later h)
  have hda : deepQ a ≤ 8 := by rw [ha]; exact few_deep 7 p
  have hfa : FineQ a := by rw [ha]; exact few_fine 7 p
  have hfb : FineQ b := by rw [hb]; exact few_fine 7 q
  obtain ⟨R, hR⟩ : ∃ R, R = sameQ a b := ⟨_, rfl⟩
  have HS : Hid (∀ (v v2 : Value) (w2 : World), QIn w2 a v → QIn w2 b v2 → Calls Tryz.prog 23 #[v, v2] w2 fun e w' => e = .returned (.bool R) ∧ Below w2.heap.size w2 w') := Lib.hid fun v v2 w2 h1 h2 => by rw [hR]; exact query_Same a b v v2 w2 hfa hfb hda h1 h2
  have HRS : Hid (∀ (v v2 : Value) (w2 : World), QIn w2 a v → QIn w2 b v2 → Calls Tryz.prog 22 #[v, v2] w2 fun e w' => e = .returned (.bool R) ∧ Below w2.heap.size w2 w') := Lib.hid fun v v2 w2 h1 h2 => by rw [hR]; exact ref12_Same 8 a b v v2 w2 hda hfa hfb h1 h2
  have HSS : Hid (∀ (v : Value) (w2 : World), QIn w2 a v → Calls Tryz.prog 23 #[v, v] w2 fun e w' => e = .returned (.bool true) ∧ Below w2.heap.size w2 w') := Lib.hid fun v w2 h1 => by
    have := query_Same a a v v w2 hfa hfa hda h1 h1
    rwa [same_self] at this
  have HL : Hid (∀ w2, Below w.heap.size w w2 → Calls Tryz.prog 18 #[] w2 fun e w' => e = .returned (.bool true) ∧ Below w2.heap.size w2 w') := Lib.hid fun w2 hb => law12_lives w2 (hg.below hb hg.size)
  obtain ⟨k1, t1, ws1, ks1, f1, x1, A1, c1, K1, m1, ds1, he1, rfl, -⟩ := hp.open_
  obtain ⟨k2, t2, ws2, ks2, f2, x2, A2, c2, K2, m2, ds2, he2, rfl, -⟩ := hq.open_
  obtain ⟨w1, hw1⟩ : ∃ w1, w1 = boxQ (boxQ w k1 f1 x1 A1 ws1.length c1 K1 ks1.length m1) k2 f2 x2 A2 ws2.length c2 K2 ks2.length m2 := ⟨_, rfl⟩
  have hs1 : w1.heap.size = w.heap.size + 2 := by rw [hw1, boxQ_size, boxQ_size]
  obtain ⟨hb0, ⟨a0, a1, a2, a3, a4⟩, ⟨b0, b1, b2, b3, b4⟩⟩ := two_boxes (w := w) (wr := w1) (by rw [← hs1, ← hw1]; exact Below.refl _ _)
  have hh1 : w1.heap[w.heap.size]? = some (.cells #[.int .i64 k1, .string f1, .string x1, .slice A1 ws1.length c1, .slice K1 ks1.length m1] 27 (0, 0)) := by
    rw [hw1, boxQ_below.block _ (by rw [boxQ_size]; omega)]
    exact heap_alloc_new _ _
  have hh2 : w1.heap[w.heap.size + 1]? = some (.cells #[.int .i64 k2, .string f2, .string x2, .slice A2 ws2.length c2, .slice K2 ks2.length m2] 27 (0, 0)) := by
    have := heap_alloc_new (boxQ w k1 f1 x1 A1 ws1.length c1 K1 ks1.length m1) (.cells #[.int .i64 k2, .string f2, .string x2, .slice A2 ws2.length c2, .slice K2 ks2.length m2] 27)
    rw [boxQ_size] at this
    rw [hw1]
    exact this
  have HB1 := Lib.hid hb0
  have HW1 := Lib.hid hw1
  have HH1 := Lib.hid hh1
  have HH2 := Lib.hid hh2
  have HS1 := Lib.hid hs1
  clear hR ha hb hda hfa hfb he1 he2 hp hq hraw hrawp hg hw1 hb0 hh1 hh2 hs1
  go_enter Tryz.func9, Tryz.ntmps9
  go_upto_region 1 with fail
  rw [show (w.alloc _).alloc _ = w1 from HW1.out.symm]
  go_upto_region 2 with (go_at_call 12; (with_reducible refine (HFA.out _ HB1.out).mono ?_); rintro e w2 ⟨v2, rfl, hq2, hb2⟩; obtain ⟨k3, f3, x3, A3, n3, c3, K3, m3, d3, e2, hq3⟩ := hq2; subst e2; have HB2 := Lib.hid hb2; have HQ3 := Lib.hid hq3; obtain ⟨⟨z0, z1, z2, z3, z4⟩, g0, g1, g2, g3, g4⟩ := five_cells ((hb2.block _ (by rw [HS1.out]; omega)).trans HH1.out); clear hb2 hq3 a0 a1 a2 a3 a4 b0 b1 b2 b3 b4)
  obtain ⟨w3, hw3⟩ : ∃ w3, w3 = set5 w2 w.heap.size (.int .i64 k3) (.string f3) (.string x3) (.slice A3 n3 c3) (.slice K3 m3 d3) := ⟨_, rfl⟩
  rw [show (((((w2.setCell _ _).setCell _ _).setCell _ _).setCell _ _).setCell _ _) = w3 from hw3.symm]
  have hs3 : w3.heap.size = w2.heap.size := by rw [hw3, set5_size]
  have hsz2 : w.heap.size + 2 ≤ w2.heap.size := by have := HB2.out.size; have := HS1.out; omega
  have HB3 : Hid (Below w.heap.size w w3) := Lib.hid (by rw [hw3]; exact set5_below (HB1.out.trans (HB2.out.mono HB1.out.size)) (Nat.le_refl _))
  have hc3 : w3.heap[w.heap.size]? = some (.cells #[.int .i64 k3, .string f3, .string x3, .slice A3 n3 c3, .slice K3 m3 d3] 27 (0, 0)) := by rw [hw3]; exact set5_at ((HB2.out.block _ (by rw [HS1.out]; omega)).trans HH1.out)
  have hc4 : w3.heap[w.heap.size + 1]? = some (.cells #[.int .i64 k2, .string f2, .string x2, .slice A2 ws2.length c2, .slice K2 ks2.length m2] 27 (0, 0)) := by
    rw [hw3, set5_ne (by omega)]
    exact (HB2.out.block _ (by rw [HS1.out]; omega)).trans HH2.out
  have hqa : QV (fun b => w.heap.size + 2 ≤ b ∧ b < w3.heap.size) w3 a (qV k3 f3 x3 A3 n3 c3 K3 m3 d3) := by
    refine QV.imp (p := fun b => w.heap.size + 2 ≤ b ∧ b < w2.heap.size) ?_ fun b hb => by rw [hs3]; exact hb
    have : QV (fun b => w.heap.size + 2 ≤ b ∧ b < w2.heap.size) w2 a (qV k3 f3 x3 A3 n3 c3 K3 m3 d3) := ⟨_, _, _, _, _, _, _, _, _, rfl, HQ3.out.imp fun b hb => by have := HS1.out; omega⟩
    exact this.keep fun b hb => by rw [hw3]; exact set5_ne (by omega)
  obtain ⟨⟨b0, b1, b2, b3, b4⟩, -⟩ := five_cells hc4
  have HC3 := Lib.hid hc3
  have HC4 := Lib.hid hc4
  have HQA := Lib.hid hqa
  clear hw3 hs3 hc3 hc4 hqa z0 z1 z2 z3 z4 g0 g1 g2 g3 g4
  have hsz3 : w.heap.size + 1 < w3.heap.size := (Array.getElem?_eq_some_iff.1 HC4.out).1
  go_upto_region 3 with (go_at_call 12; (with_reducible refine (HFB.out _ HB3.out).mono ?_); rintro e w4 ⟨v4, rfl, hq4, hb4⟩; obtain ⟨k5, f5, x5, A5, n5, c5, K5, m5, d5, e4, hq5⟩ := hq4; subst e4; have HB4 := Lib.hid hb4; have HQ5 := Lib.hid hq5; obtain ⟨⟨z0, z1, z2, z3, z4⟩, g0, g1, g2, g3, g4⟩ := five_cells ((hb4.block _ hsz3).trans HC4.out); clear hb4 hq5 b0 b1 b2 b3 b4)
  obtain ⟨w5, hw5⟩ : ∃ w5, w5 = set5 w4 (w.heap.size + 1) (.int .i64 k5) (.string f5) (.string x5) (.slice A5 n5 c5) (.slice K5 m5 d5) := ⟨_, rfl⟩
  rw [show (((((w4.setCell _ _).setCell _ _).setCell _ _).setCell _ _).setCell _ _) = w5 from hw5.symm]
  have hs5 : w5.heap.size = w4.heap.size := by rw [hw5, set5_size]
  have hz : TwoQ w w.heap.size (w.heap.size + 1) k3 f3 x3 A3 n3 c3 K3 m3 d3 k5 f5 x5 A5 n5 c5 K5 m5 d5 a b w5 := by
    refine ⟨by rw [hw5]; exact set5_below (HB3.out.trans (HB4.out.mono HB3.out.size)) (by omega), ⟨?_, ?_⟩, ⟨?_, ?_⟩⟩
    · rw [hw5, set5_ne (by omega), HB4.out.block _ (by omega)]
      exact HC3.out
    · refine QV.imp (p := fun b => w.heap.size + 2 ≤ b ∧ b < w3.heap.size) (HQA.out.keep fun b hb => ?_) fun b hb => by show b < _; rw [hs5]; have := HB4.out.size; omega
      rw [hw5, set5_ne (by omega)]
      exact HB4.out.block _ hb.2
    · rw [hw5]
      exact set5_at ((HB4.out.block _ hsz3).trans HC4.out)
    · have h : QV (fun b => w3.heap.size ≤ b ∧ b < w4.heap.size) w4 b (qV k5 f5 x5 A5 n5 c5 K5 m5 d5) := ⟨_, _, _, _, _, _, _, _, _, rfl, HQ5.out⟩
      exact (h.keep fun b hb => by rw [hw5]; exact set5_ne (by omega)).imp fun b hb => by show b < _; rw [hs5]; exact hb.2
  obtain ⟨B, hB⟩ : ∃ B, B = w.heap.size := ⟨_, rfl⟩
  obtain ⟨B2, hB2⟩ : ∃ B2, B2 = w.heap.size + 1 := ⟨_, rfl⟩
  have HX : Hid (TwoQ w B B2 k3 f3 x3 A3 n3 c3 K3 m3 d3 k5 f5 x5 A5 n5 c5 K5 m5 d5 a b w5.drew) := Lib.hid (by rw [hB, hB2]; exact hz.later (Below.refl _ w5).drew)
  rw [← hB2, ← hB]
  clear hw5 hs5 hz hB hB2 z0 z1 z2 z3 z4 g0 g1 g2 g3 g4 hsz3 hsz2
  cases R
  all_goals
    go_region_held3 (fun w' => (w'.cell? ⟨B, 0, none⟩ = some (.int .i64 k3) ∧ w'.cell? ⟨B, 1, none⟩ = some (.string f3) ∧ w'.cell? ⟨B, 2, none⟩ = some (.string x3) ∧ w'.cell? ⟨B, 3, none⟩ = some (.slice A3 n3 c3) ∧ w'.cell? ⟨B, 4, none⟩ = some (.slice K3 m3 d3)) ∧
        (w'.cell? ⟨B2, 0, none⟩ = some (.int .i64 k5) ∧ w'.cell? ⟨B2, 1, none⟩ = some (.string f5) ∧ w'.cell? ⟨B2, 2, none⟩ = some (.string x5) ∧ w'.cell? ⟨B2, 3, none⟩ = some (.slice A5 n5 c5) ∧ w'.cell? ⟨B2, 4, none⟩ = some (.slice K5 m5 d5)))
      (exact ⟨HX.out.vq.cells, HX.out.vg.cells⟩)
      (first
        | (go_at_call 23; (with_reducible refine (HS.out _ _ _ HX.out.vq.in_ HX.out.vg.in_).mono ?_); rintro e wn ⟨rfl, hbn⟩; have HX := Lib.hid (HX.out.later hbn); clear hbn)
        | (go_at_call 23; (with_reducible refine (HSS.out _ _ HX.out.vq.in_).mono ?_); rintro e wn ⟨rfl, hbn⟩; have HX := Lib.hid (HX.out.later hbn); clear hbn)
        | (go_at_call 22; (with_reducible refine (HRS.out _ _ _ HX.out.vq.in_ HX.out.vg.in_).mono ?_); rintro e wn ⟨rfl, hbn⟩; have HX := Lib.hid (HX.out.later hbn); clear hbn)
        | (go_at_call 18; (with_reducible refine (HL.out _ HX.out.bel).mono ?_); rintro e wn ⟨rfl, hbn⟩; have HX := Lib.hid (HX.out.later hbn); clear hbn))
    all_goals
      go_wp2
      go_ret
      exact ⟨rfl, HX.out.bel⟩
end Go.Proofs.YtolfkhflbjnakaaGreatDoor
