/- The walk of DocMay. -/
import Derived.Test.YthpecegifilgoaaCloneD08
import Derived.Test.YthpecegifilgoaaFewD08
import Derived.Test.YthpecegifilgoaaQ15
import Derived.Test.YthpecegifilgoaaQ17
set_option linter.unusedVariables false
namespace Go.Proofs.Ythpecegifilgoaa
open Go Go.RowKit

theorem OwnFd.room {base : Nat} {w : World} {v : Value} {l : List Fd} (h : OwnFd base w v l) : ∃ A c, v = .slice A l.length c ∧ l.length ≤ c ∧ FRow w w.heap.size A l ∧ (A = none ∨ ∃ b o, A = some ⟨b, o, none⟩) := by
  obtain ⟨A, c, rfl, hc, hr⟩ := h.row
  refine ⟨A, c, rfl, hc, hr, ?_⟩
  rcases h.2 with ⟨hv, _⟩ | ⟨g, cap, cur, hv, _⟩
  · injection hv with e
    exact .inl e
  · injection hv with e
    exact .inr ⟨g, 0, e⟩
/-- What the round of DocMay keeps. -/
def MayRelW (m Bq C : Nat) (id : Int) (V : Value) (w7 : World) (i : Value) (wr : World) : Prop :=
  ∃ (k : Nat) (cs : List Value), k ≤ m ∧ i = .int .i64 (k : Int) ∧ Below Bq w7 wr ∧ wr.heap[C]? = some (.cells #[.int .i64 id, V] 24 (0, 0)) ∧ wr.ownsRow Bq 31 2 V m cs

set_option maxHeartbeats 8000000 in
set_option maxRecDepth 100000 in
theorem walk_DocMay (id0 : Int) (A0 : Option Addr) (n0 c0 : Nat) (l0 : List Fd) (id1 : Int) (A1 : Option Addr) (n1 c1 : Nat) (l1 : List Fd) (s : ByteArray) (w : World) (hid0 : (Lit.int .i64 id0).wf = true) (hin0 : InFlds w A0 n0 c0 l0) (hid1 : (Lit.int .i64 id1).wf = true) (hin1 : InFlds w A1 n1 c1 l1) (hs : s.size ≤ maxLen) :
    Calls Try.prog 3 #[.agg #[.int .i64 id0, .slice A0 n0 c0], .agg #[.int .i64 id1, .slice A1 n1 c1], .string s] w fun e w' => e = .returned (.bool true) ∧ Below w.heap.size w w' := by
  obtain ⟨_, hcm0, hln0, hrow0, hbd0⟩ := hin0
  obtain ⟨_, hcm1, hln1, hrow1, hbd1⟩ := hin1
  unfold maxLen at hcm0 hcm1 hs
  obtain ⟨w1, hw1⟩ : ∃ w1, w1 = boxDD w id0 id1 A0 A1 n0 c0 n1 c1 := ⟨_, rfl⟩
  have hbx := boxDD_of (w := w) (i := id0) (j := id1) (A := A0) (C := A1) (n := n0) (c := c0) (m := n1) (d := c1) (Below.refl _ _)
  rw [← hw1] at hbx
  have hb1 := hbx.1
  have hk0 : w1.heap[w.heap.size]? = some (.cells #[.int .i64 id0, .slice A0 n0 c0] 24 (0, 0)) := by
    rw [hw1, boxDD, boxD, Below.heap_alloc _ _ _ (by simp)]
    exact heap_alloc_new w _
  have hk1 : w1.heap[w.heap.size + 1]? = some (.cells #[.int .i64 id1, .slice A1 n1 c1] 24 (0, 0)) := by
    rw [hw1, boxDD, boxD]
    simpa using heap_alloc_new (w.alloc (.cells #[.int .i64 id0, .slice A0 n0 c0] 24)) (.cells #[.int .i64 id1, .slice A1 n1 c1] 24)
  have hs1 : w1.heap.size = w.heap.size + 2 := by rw [hw1]; simp [boxDD, boxD]
  have HF0 := Lib.hid (law08_few id0 A0 n0 c0 l0 w1 hln0 (hrow0.later hb1) (by omega) (fun f hf => by have := hbd0 f hf; unfold maxLen at this; omega))
  have HF1 : Hid (∀ w', Below w.heap.size w w' → Calls Try.prog 9 #[docV id1 A1 n1 c1] w' fun e w'' => ∃ v, e = .returned (.agg #[.int .i64 id1, v]) ∧ OwnFd w'.heap.size w'' v (fewD l1) ∧ Below w'.heap.size w' w'') := Lib.hid fun w' h => law08_few id1 A1 n1 c1 l1 w' hln1 (hrow1.later h) (by omega) (fun f hf => by have := hbd1 f hf; unfold maxLen at this; omega)
  obtain ⟨x0, hx0⟩ : ∃ x0, x0 = fewD l0 := ⟨_, rfl⟩
  obtain ⟨x1, hx1⟩ : ∃ x1, x1 = fewD l1 := ⟨_, rfl⟩
  rw [← hx0] at HF0
  rw [← hx1] at HF1
  have hl10 : x0.length ≤ 10 := by rw [hx0]; exact fewD_length l0
  have hl11 : x1.length ≤ 10 := by rw [hx1]; exact fewD_length l1
  have HD0 : Hid (∀ f ∈ x0, f.1.length ≤ 20 ∧ f.2.length ≤ 60) := Lib.hid (by rw [hx0]; exact fewD_bd l0)
  obtain ⟨m0, hm0⟩ : ∃ m0, m0 = x0.length := ⟨_, rfl⟩
  obtain ⟨m1, hm1⟩ : ∃ m1, m1 = x1.length := ⟨_, rfl⟩
  rw [← hm0] at hl10
  rw [← hm1] at hl11
  have HM0 := Lib.hid hm0
  have HM1 := Lib.hid hm1
  obtain ⟨mm, hmm⟩ : ∃ mm : Nat, mm = min s.size 20 := ⟨_, rfl⟩
  have hns : ∀ (w : World) (ts : Array TypeId) (ty : TypeId), (Builtin.min_ ts ty #[.int .i64 s.size, .int .i64 20]).run Try.prog w = .ok (.int .i64 (mm : Int)) w := fun w ts ty => by rw [run_min_int2, hmm]; congr 2; split <;> omega
  obtain ⟨s', hs'⟩ : ∃ s', s' = s.extract 0 mm := ⟨_, rfl⟩
  have hss : s'.size ≤ 9223372036854775807 := by rw [hs', ByteArray.size_extract]; omega
  have hex : s.extract 0 mm = s' := hs'.symm
  have hmm1 : mm ≤ s.size := by omega
  have HW1 := Lib.hid hw1
  have HB1 := Lib.hid hb1
  have HK0 := Lib.hid hk0
  have HK1 := Lib.hid hk1
  have HS1 := Lib.hid hs1
  have HSS := Lib.hid hss
  have HLV : Hid (∀ w', Calls Try.prog 18 #[] w' fun e w'' => e = .returned (.bool true) ∧ Below w'.heap.size w' w'') := Lib.hid law08_lives
  clear hw1 hbx hb1 hk0 hk1 hs1 hrow0 hrow1 hbd0 hbd1 hln0 hln1 hx0 hx1 hm0 hm1 hmm hs' hss hid0 hid1 hcm0 hcm1
  go_enter Try.func3, Try.ntmps3
  go_upto_region 2 with (first
    | (go_at_call 9; rw [show (w.alloc _).alloc _ = w1 from HW1.out.symm]
       (with_reducible refine HF0.out.mono ?_)
       rintro e w2 ⟨v2, rfl, ho2, hb2⟩
       obtain ⟨A2, c2, rfl, hc2, hr2, hA2⟩ := ho2.room
       rw [← HM0.out] at hc2 ⊢
       have hk2 := (hb2.block _ (by have := HS1.out; omega)).trans HK0.out
       have hq2 := (hb2.block _ (by have := HS1.out; omega)).trans HK1.out
       have HK2 := Lib.hid hk2
       have HQ2 := Lib.hid hq2
       have p0 := (two_cells hk2).1
       have p1 := (two_cells hk2).2.1
       have p2 := (two_cells hk2).2.2.1
       have p3 := (two_cells hk2).2.2.2
       have HO2 := Lib.hid ho2
       have HA2 := Lib.hid hA2
       have HB2 := Lib.hid hb2
       have HR2 := Lib.hid hr2
       clear ho2 hb2 hr2 hA2 hk2 hq2))
  obtain ⟨w3, hw3⟩ : ∃ w3, w3 = (w2.setCell ⟨w.heap.size, 0, none⟩ (.int .i64 id0)).setCell ⟨w.heap.size, 1, none⟩ (.slice A2 m0 c2) := ⟨_, rfl⟩
  have hk3 : w3.heap[w.heap.size]? = some (.cells #[.int .i64 id0, .slice A2 m0 c2] 24 (0, 0)) := by rw [hw3, set_at (set_at HK2.out)]; rfl
  have hq3 : w3.heap[w.heap.size + 1]? = some (.cells #[.int .i64 id1, .slice A1 n1 c1] 24 (0, 0)) := by rw [hw3, set_ne (by omega), set_ne (by omega)]; exact HQ2.out
  have hb3 : Below w.heap.size w w3 := by rw [hw3]; exact ((HB1.out.trans (HB2.out.mono HB1.out.size)).setCell (Nat.le_refl _) _).setCell (Nat.le_refl _) _
  have ho3 : OwnFd w1.heap.size w3 (.slice A2 m0 c2) x0 := by
    have hs1 := HS1.out
    have := HO2.out
    rw [← HM0.out] at this
    rw [hw3]
    exact ownsRow_setCell_below (ownsRow_setCell_below this (a := ⟨w.heap.size, 0, none⟩) (by simp; omega) _) (a := ⟨w.heap.size, 1, none⟩) (by simp; omega) _
  rw [show (w2.setCell _ _).setCell _ _ = w3 from hw3.symm]
  have z0 := (two_cells hq3).1
  have z1 := (two_cells hq3).2.1
  have HK3 := Lib.hid hk3
  have HQ3 := Lib.hid hq3
  have HB3 := Lib.hid hb3
  have HO3 := Lib.hid ho3
  clear hw3 hk3 hq3 hb3 ho3 p0 p1 p2 p3
  go_upto_region 3 with (first
    | (go_at_call 9
       (with_reducible refine (HF1.out _ HB3.out).mono ?_)
       rintro e w4 ⟨v4, rfl, ho4, hb4⟩
       obtain ⟨A4, c4, rfl, hc4, hr4, _⟩ := ho4.room
       rw [← HM1.out] at hc4 ⊢
       have hk4 := (hb4.block _ (lt_of_block HK3.out)).trans HK3.out
       have hq4 := (hb4.block _ (lt_of_block HQ3.out)).trans HQ3.out
       have HK4 := Lib.hid hk4
       have HQ4 := Lib.hid hq4
       have p0 := (two_cells hq4).1
       have p1 := (two_cells hq4).2.1
       have p2 := (two_cells hq4).2.2.1
       have p3 := (two_cells hq4).2.2.2
       have HO4 := Lib.hid ho4
       have HB4 := Lib.hid hb4
       clear ho4 hb4 hr4 hk4 hq4))
  obtain ⟨w5, hw5⟩ : ∃ w5, w5 = (w4.setCell ⟨w.heap.size + 1, 0, none⟩ (.int .i64 id1)).setCell ⟨w.heap.size + 1, 1, none⟩ (.slice A4 m1 c4) := ⟨_, rfl⟩
  have hk5 : w5.heap[w.heap.size]? = some (.cells #[.int .i64 id0, .slice A2 m0 c2] 24 (0, 0)) := by rw [hw5, set_ne (by omega), set_ne (by omega)]; exact HK4.out
  have hq5 : w5.heap[w.heap.size + 1]? = some (.cells #[.int .i64 id1, .slice A4 m1 c4] 24 (0, 0)) := by rw [hw5, set_at (set_at HQ4.out)]; rfl
  have hb5 : Below w.heap.size w w5 := by rw [hw5]; exact ((HB3.out.trans (HB4.out.mono HB3.out.size)).setCell (by simp) _).setCell (by simp) _
  have hlt3 := lt_of_block HQ3.out
  have ho5 : OwnFd w3.heap.size w5 (.slice A4 m1 c4) x1 := by
    have := HO4.out
    rw [← HM1.out] at this
    rw [hw5]
    exact ownsRow_setCell_below (ownsRow_setCell_below this (a := ⟨w.heap.size + 1, 0, none⟩) hlt3 _) (a := ⟨w.heap.size + 1, 1, none⟩) hlt3 _
  have hr5 : FRow w5 w5.heap.size A4 x1 := by
    obtain ⟨_, _, e, _, h⟩ := ho5.row
    injection e with e1 e2 e3
    rw [e1]
    exact h
  have ho50 : OwnFd w1.heap.size w5 (.slice A2 m0 c2) x0 := by
    have hs1 := HS1.out
    rw [hw5]
    exact ownsRow_setCell_below (ownsRow_setCell_below (HO3.out.below HB4.out) (a := ⟨w.heap.size + 1, 0, none⟩) (by simp; omega) _) (a := ⟨w.heap.size + 1, 1, none⟩) (by simp; omega) _
  have hr50 : FRow w5 w5.heap.size A2 x0 := by
    obtain ⟨_, _, e, _, h⟩ := ho50.row
    injection e with e1 e2 e3
    rw [e1]
    exact h
  rw [show (w4.setCell _ _).setCell _ _ = w5 from hw5.symm]
  have HCL := Lib.hid (doc_Clone id0 A2 m0 c2 x0 w5 HM0.out.symm hr50 HA2.out (by omega))
  have q0 := (two_cells hk5).1
  have q1 := (two_cells hk5).2.1
  have HK5 := Lib.hid hk5
  have HQ5 := Lib.hid hq5
  have HB5 := Lib.hid hb5
  have HR5 := Lib.hid hr5
  have HR50 := Lib.hid hr50
  clear hw5 hk5 hq5 hb5 ho5 hr5 ho50 hr50 hlt3 p0 p1 p2 p3 z0 z1
  go_upto_region 5 with (first
    | (go_at_call 10
       (with_reducible refine HCL.out.mono ?_)
       rintro e w6 ⟨v6, rfl, ho6, hb6⟩
       obtain ⟨A6, c6, rfl, hc6, hr6, _⟩ := ho6.room
       rw [← HM0.out] at hc6 ⊢
       have HO6 := Lib.hid ho6
       have HR6 := Lib.hid hr6
       have HB6 := Lib.hid hb6
       clear ho6 hb6 hr6))
  obtain ⟨w7, hw7⟩ : ∃ w7, w7 = w6.alloc (.cells #[.int .i64 id0, .slice A6 m0 c6] 24) := ⟨_, rfl⟩
  rw [show w6.alloc _ = w7 from hw7.symm]
  have hc7 : w7.heap[w6.heap.size]? = some (.cells #[.int .i64 id0, .slice A6 m0 c6] 24 (0, 0)) := by rw [hw7]; exact heap_alloc_new _ _
  have hb67 : Below w6.heap.size w6 w7 := by rw [hw7]; exact (Below.refl _ _).alloc (Nat.le_refl _) _
  have hb57 : Below w5.heap.size w5 w7 := HB6.out.trans (hb67.mono HB6.out.size)
  have hs5 := HB6.out.size
  have hs67 := hb67.size
  have ho7 : OwnFd w5.heap.size w7 (.slice A6 m0 c6) x0 := by
    have := HO6.out.below hb67
    rwa [← HM0.out] at this
  have HBB : Hid (∀ w', Below w7.heap.size w7 w' → Below w5.heap.size w5 w' ∧ Below w.heap.size w w' ∧ FRow w' w'.heap.size A2 x0 ∧ FRow w' w'.heap.size A4 x1 ∧ FRow w' w'.heap.size A6 x0) := Lib.hid fun w' h => by
    have h5 : Below w5.heap.size w5 w' := hb57.trans (h.mono (by omega))
    exact ⟨h5, HB5.out.trans (h5.mono HB5.out.size), HR50.out.later h5, HR5.out.later h5, HR6.out.later (hb67.trans (h.mono hs67))⟩
  have HS : Hid (∀ w', Below w7.heap.size w7 w' → w'.cell? ⟨w.heap.size, 0, none⟩ = some (.int .i64 id0) ∧ w'.cell? ⟨w.heap.size, 1, none⟩ = some (.slice A2 m0 c2) ∧ w'.cell? ⟨w.heap.size + 1, 0, none⟩ = some (.int .i64 id1) ∧ w'.cell? ⟨w.heap.size + 1, 1, none⟩ = some (.slice A4 m1 c4) ∧ w'.cell? ⟨w6.heap.size, 0, none⟩ = some (.int .i64 id0) ∧ w'.cell? ⟨w6.heap.size, 1, none⟩ = some (.slice A6 m0 c6)) := Lib.hid fun w' h => by
    have h5 := (HBB.out w' h).1
    have e0 := two_cells ((h5.block _ (lt_of_block HK5.out)).trans HK5.out)
    have e1 := two_cells ((h5.block _ (lt_of_block HQ5.out)).trans HQ5.out)
    have e2 := two_cells ((h.block _ (lt_of_block hc7)).trans hc7)
    exact ⟨e0.1, e0.2.1, e1.1, e1.2.1, e2.1, e2.2.1⟩
  obtain ⟨E, hE⟩ : ∃ E, E = mayD x0 := ⟨_, rfl⟩
  obtain ⟨z, hz⟩ : ∃ z, z = (decide (id0 = id1) && decide (x0 = x1)) := ⟨_, rfl⟩
  obtain ⟨nm, hnm⟩ : ∃ nm, nm = nameB s'.data.toList := ⟨_, rfl⟩
  have hd20 : ∀ f ∈ x0, f.1.length ≤ 1073741824 ∧ f.2.length ≤ 268435456 := fun f hf => by have := HD0.out f hf; omega
  have C1 : Hid (∀ w', Below w7.heap.size w7 w' → Calls Try.prog 11 #[docV id0 A2 m0 c2] w' fun e w'' => e = .returned (.int .i64 E) ∧ Below w'.heap.size w' w'') := Lib.hid fun w' h => by
    rw [hE]
    exact doc_May id0 A2 m0 c2 x0 w' HM0.out.symm (HBB.out w' h).2.2.1 (by omega) hc2 hd20
  have C2 : Hid (∀ w', Below w7.heap.size w7 w' → Calls Try.prog 12 #[docV id0 A2 m0 c2] w' fun e w'' => e = .returned (.int .i64 E) ∧ Below w'.heap.size w' w'') := Lib.hid fun w' h => by
    rw [hE]
    exact ref08_May id0 A2 m0 c2 x0 w' HM0.out.symm (HBB.out w' h).2.2.1 (by omega) hd20
  have C3 : Hid (∀ w', Below w7.heap.size w7 w' → Calls Try.prog 13 #[docV id0 A2 m0 c2, docV id1 A4 m1 c4] w' fun e w'' => e = .returned (.bool z) ∧ Below w'.heap.size w' w'') := Lib.hid fun w' h => by
    rw [hz]
    exact doc_Same id0 id1 A2 A4 m0 c2 m1 c4 x0 x1 w' HM0.out.symm HM1.out.symm (HBB.out w' h).2.2.1 (HBB.out w' h).2.2.2.1 (by omega) (by omega)
  have C4 : Hid (∀ w', Below w7.heap.size w7 w' → Calls Try.prog 14 #[docV id0 A2 m0 c2, docV id1 A4 m1 c4] w' fun e w'' => e = .returned (.bool z) ∧ Below w'.heap.size w' w'') := Lib.hid fun w' h => by
    rw [hz]
    exact ref08_Same id0 id1 A2 A4 m0 c2 m1 c4 x0 x1 w' HM0.out.symm HM1.out.symm (HBB.out w' h).2.2.1 (HBB.out w' h).2.2.2.1 (by omega) (by omega)
  have C5 : Hid (∀ w', Below w7.heap.size w7 w' → Calls Try.prog 14 #[docV id0 A6 m0 c6, docV id0 A2 m0 c2] w' fun e w'' => e = .returned (.bool true) ∧ Below w'.heap.size w' w'') := Lib.hid fun w' h => by
    have := ref08_Same id0 id0 A6 A2 m0 c6 m0 c2 x0 x0 w' HM0.out.symm HM0.out.symm (HBB.out w' h).2.2.2.2 (HBB.out w' h).2.2.1 (by omega) (by omega)
    rwa [decide_eq_true rfl, decide_eq_true rfl] at this
  have C6 : Hid (∀ w', Calls Try.prog 15 #[.string s'] w' fun e w'' => e = .returned (.bool nm) ∧ Below w'.heap.size w' w'') := Lib.hid fun w' => by
    rw [hnm]
    exact doc_Name s' w' HSS.out
  have C7 : Hid (∀ w', Calls Try.prog 16 #[.string s'] w' fun e w'' => e = .returned (.bool nm) ∧ Below w'.heap.size w' w'') := Lib.hid fun w' => by
    rw [hnm]
    exact ref08_Name s' w' HSS.out
  have HC7 := Lib.hid hc7
  have HO7 := Lib.hid ho7
  have HB67 := Lib.hid hb67
  have HB57 := Lib.hid hb57
  clear hw7 hc7 hb67 hb57 ho7 hE hz hnm hd20 q0 q1
  go_region_held3 (fun w' => w'.cell? ⟨w.heap.size, 0, none⟩ = some (.int .i64 id0) ∧ w'.cell? ⟨w.heap.size, 1, none⟩ = some (.slice A2 m0 c2) ∧ w'.cell? ⟨w.heap.size + 1, 0, none⟩ = some (.int .i64 id1) ∧ w'.cell? ⟨w.heap.size + 1, 1, none⟩ = some (.slice A4 m1 c4) ∧ w'.cell? ⟨w6.heap.size, 0, none⟩ = some (.int .i64 id0) ∧ w'.cell? ⟨w6.heap.size, 1, none⟩ = some (.slice A6 m0 c6))
    (first | exact HS.out _ (Below.refl _ _).drew | exact HS.out _ G1.out | exact HS.out _ G2.out | exact HS.out _ G3.out | exact HS.out _ G4.out | exact HS.out _ G5.out | exact HS.out _ G6.out | exact HS.out _ G7.out)
    (first
      | (go_at_call 11; (with_reducible refine (C1.out _ (Below.refl _ w7).drew).mono ?_); rintro e g1 ⟨rfl, hg1⟩
         have G1 : Hid (Below w7.heap.size w7 g1) := Lib.hid ((Below.refl _ w7).drew.trans hg1)
         clear hg1)
      | (go_at_call 12; (with_reducible refine (C2.out _ G1.out).mono ?_); rintro e g2 ⟨rfl, hg2⟩
         have G2 : Hid (Below w7.heap.size w7 g2) := Lib.hid (G1.out.trans (hg2.mono G1.out.size))
         clear hg2)
      | (go_at_call 13; (with_reducible refine (C3.out _ G2.out).mono ?_); rintro e g3 ⟨rfl, hg3⟩
         have G3 : Hid (Below w7.heap.size w7 g3) := Lib.hid (G2.out.trans (hg3.mono G2.out.size))
         clear hg3)
      | (go_at_call 14; (with_reducible refine (C4.out _ G3.out).mono ?_); rintro e g4 ⟨rfl, hg4⟩
         have G4 : Hid (Below w7.heap.size w7 g4) := Lib.hid (G3.out.trans (hg4.mono G3.out.size))
         clear hg4)
      | (go_at_call 14; (with_reducible refine (C5.out _ G4.out).mono ?_); rintro e g5 ⟨rfl, hg5⟩
         have G5 : Hid (Below w7.heap.size w7 g5) := Lib.hid (G4.out.trans (hg5.mono G4.out.size))
         clear hg5)
      | (go_at_call 15; (with_reducible refine (C6.out _).mono ?_); rintro e g6 ⟨rfl, hg6⟩
         have G6 : Hid (Below w7.heap.size w7 g6) := Lib.hid (G5.out.trans (hg6.mono G5.out.size))
         clear hg6)
      | (go_at_call 16; (with_reducible refine (C7.out _).mono ?_); rintro e g7 ⟨rfl, hg7⟩
         have G7 : Hid (Below w7.heap.size w7 g7) := Lib.hid (G6.out.trans (hg7.mono G6.out.size))
         clear hg7))
  have HB7 : Hid (Below w.heap.size w g7) := Lib.hid (HBB.out _ G7.out).2.1
  have HGC : Hid (g7.heap[w6.heap.size]? = some (.cells #[.int .i64 id0, .slice A6 m0 c6] 24 (0, 0))) := Lib.hid ((G7.out.block _ (lt_of_block HC7.out)).trans HC7.out)
  have HGO : Hid (g7.ownsRow w5.heap.size 31 2 (.slice A6 m0 c6) m0 (flds x0)) := Lib.hid (by
    have := owned_below HO7.out G7.out
    rwa [← HM0.out] at this)
  have HGS : Hid (∀ wr, Below w5.heap.size g7 wr → Below w.heap.size w wr ∧ wr.cell? ⟨w.heap.size, 0, none⟩ = some (.int .i64 id0) ∧ wr.cell? ⟨w.heap.size, 1, none⟩ = some (.slice A2 m0 c2) ∧ FRow wr wr.heap.size A2 x0 ∧ FRow wr w5.heap.size A2 x0) := Lib.hid fun wr h => by
    have h5 : Below w5.heap.size w5 wr := (HBB.out _ G7.out).1.trans h
    have e0 := two_cells ((h5.block _ (lt_of_block HK5.out)).trans HK5.out)
    exact ⟨HB5.out.trans (h5.mono HB5.out.size), e0.1, e0.2.1, HR50.out.later h5, HR50.out.below h5⟩
  have HCW : w5.heap.size ≤ w6.heap.size := HB6.out.size
  have HGB : Hid (∀ j, (Value.slice A6 m0 c6).ownBlock = some j → j < w6.heap.size) := Lib.hid fun j hj => by
    have := HO6.out
    rw [← HM0.out] at this
    exact (World.ownsRow.lt this j hj).2
  have HSZ5 := Lib.hid HB5.out.size
  clear HF0 HF1 C1 C2 C3 C4 C5 C6 C7 HS HBB hns hex hmm1 hs5 hs67 HCW
  go_wp2
  go_loopw [8, 9] (fun i _ wr => MayRelW m0 w5.heap.size w6.heap.size id0 (.slice A6 m0 c6) g7 i wr) (fun i _ _ => m0 - (intOf i).toNat)
  case atStart => exact ⟨0, _, by omega, rfl, Below.refl _ _, HGC.out, HGO.out⟩
  case round =>
    obtain ⟨k, cs, hk, rfl, hbw, hcc, hown⟩ := hrel
    obtain ⟨hb0, a0, a1, hrw, hra⟩ := HGS.out _ hbw
    have q0 := (two_cells hcc).1
    have q1 := (two_cells hcc).2.1
    by_cases hlt : k < m0
    · have hkx : k < x0.length := by rw [← HM0.out]; exact hlt
      obtain ⟨b2, o2, e2, hb2, hx0, hx1⟩ := hra.at_ hkx
      subst e2
      obtain ⟨g, e6⟩ : ∃ g, A6 = some ⟨g, 0, none⟩ := by
        rcases hown.2 with ⟨hv, h5⟩ | ⟨g', cap, cur, hv, _⟩
        · omega
        · injection hv with e
          exact ⟨g', e⟩
      subst e6
      obtain ⟨x, hx, hxe⟩ := as_text x0[k].1
      have hxs : x.size ≤ 20 := by rw [hx, size_nm]; exact (HD0.out _ (List.getElem_mem hkx)).1
      rw [← hx] at hx0
      have hg5 := (hown.lt g rfl).1
      have hg6 := HGB.out g rfl
      have hcl : cs.length = m0 * 2 := hown.1
      have hcg : wr.cell? ⟨g, k * 2, none⟩ = some (cs[k * 2]'(by omega)) := by
        rw [hown.cellAt (k * 2) (by omega), List.getElem?_eq_getElem (by omega)]
      have hfg := hown.frozenAt (k * 2)
      obtain ⟨u, hu⟩ : ∃ u, u = cs[k * 2]'(by omega) := ⟨_, rfl⟩
      rw [← hu] at hcg
      have f0 : ∀ v, (wr.setCell ⟨g, k * 2, none⟩ v).cell? ⟨w.heap.size, 1, none⟩ = some (.slice (some ⟨b2, o2, none⟩) m0 c2) := fun v => (HGS.out _ (hbw.setCell hg5 v)).2.2.1
      have f1 : ∀ v, (wr.setCell ⟨g, k * 2, none⟩ v).cell? ⟨b2, o2 + k * 2, none⟩ = some (.string x) := fun v => (((Below.refl _ wr).setCell hg5 v).cell (p := ⟨b2, o2 + k * 2, none⟩) hb2).trans hx0
      have HN : Hid (∀ v, MayRelW m0 w5.heap.size w6.heap.size id0 (.slice (some ⟨g, 0, none⟩) m0 c6) g7 (.int .i64 ((k : Int) + 1)) (wr.setCell ⟨g, k * 2, none⟩ v)) := Lib.hid fun v =>
        ⟨k + 1, _, by omega, by simp, hbw.setCell hg5 v, by rw [set_ne (by omega)]; exact hcc, (hown.stored (k * 2) v).1⟩
      have i0 : (0 : Int) ≤ k := by omega
      have i1 : (k : Int) < m0 := by omega
      clear hx hxe hx1 hcl hu hown hra hrw hbw hb0 hcc hkx hb2
      go_wp2
      exact ⟨HN.out _, by simp [intOf]; omega⟩
    · have HBR := Lib.hid hb0
      have HGD := Lib.hid (ref08_Good id0 A2 m0 c2 x0 wr HM0.out.symm hrw (by omega) (fun f hf => by have := HD0.out f hf; omega))
      have HGM := Lib.hid (goodD_may x0)
      have HGF := Lib.hid (goodD_good x0)
      obtain ⟨gl, hgl⟩ : ∃ gl, gl = goodD x0 := ⟨_, rfl⟩
      rw [← hgl] at HGD HGM HGF
      have j0 : (m0 : Int) ≤ k := by omega
      clear hgl hown hra hrw hbw hb0 hcc hlt
      go_wp2_with (first
        | (go_at_call 17; (with_reducible refine HGD.out.mono ?_); rintro e r1 ⟨v1, rfl, ho1, hb1⟩
           obtain ⟨B1, d1, rfl, hd1, hr1, _⟩ := ho1.room
           have HB1' := Lib.hid (HBR.out.trans (hb1.mono HBR.out.size))
           have HMY := Lib.hid (doc_May id0 B1 gl.length d1 gl r1 rfl hr1 (by have := HGF.out.len; omega) hd1 (fun f hf => by have := HGF.out.names f hf; have := HGF.out.texts f hf; omega))
           rw [HGM.out] at HMY
           clear ho1 hb1 hr1 hd1)
        | (go_at_call 11; (with_reducible refine HMY.out.mono ?_); rintro e r2 ⟨rfl, hb2⟩
           have HB2' := Lib.hid (HB1'.out.trans (hb2.mono HB1'.out.size))
           clear hb2)
        | (go_at_call 18; (with_reducible refine (HLV.out _).mono ?_); rintro e r3 ⟨rfl, hb3⟩))
      go_ret
      exact ⟨rfl, HB2'.out.trans (hb3.mono HB2'.out.size)⟩
end Go.Proofs.Ythpecegifilgoaa
