/- QueryFits' walk: whether a document fits a query, and how well. -/
import Derived.Test.YtolfkhflbjnakaaGreatDoorNAQ18
import Derived.Test.YtolfkhflbjnakaaGreatDoorNAQ16
import Derived.Test.YtolfkhflbjnakaaGreatDoorNAQ17
import Derived.Test.YtolfkhflbjnakaaGreatDoorNAQ07
set_option linter.unusedVariables false
namespace Go.Proofs.YtolfkhflbjnakaaGreatDoor
open Go Go.RowKit

/-- A query and a document in variables of their own, and behind them. -/
structure QDAt (w0 : World) (Bq Bd : Nat) (k : Int) (f x : ByteArray) (A : Option Addr) (n c : Nat) (K : Option Addr) (m d : Nat) (id : Int) (D : Option Addr) (dn dc : Nat) (q : Qy) (l : List Fd) (wr : World) : Prop where
  bel : Below w0.heap.size w0 wr
  qc : wr.cell? ⟨Bq, 0, none⟩ = some (.int .i64 k) ∧ wr.cell? ⟨Bq, 1, none⟩ = some (.string f) ∧ wr.cell? ⟨Bq, 2, none⟩ = some (.string x) ∧ wr.cell? ⟨Bq, 3, none⟩ = some (.slice A n c) ∧ wr.cell? ⟨Bq, 4, none⟩ = some (.slice K m d)
  dc : wr.cell? ⟨Bd, 0, none⟩ = some (.int .i64 id) ∧ wr.cell? ⟨Bd, 1, none⟩ = some (.slice D dn dc)
  lq : Bq < wr.heap.size
  ld : Bd < wr.heap.size
  qin : QIn wr q (qV k f x A n c K m d)
  len : l.length = dn
  row : FRow wr wr.heap.size D l
theorem QDAt.later {w0 : World} {Bq Bd : Nat} {k : Int} {f x : ByteArray} {A : Option Addr} {n c : Nat} {K : Option Addr} {m d : Nat} {id : Int} {D : Option Addr} {dn dc : Nat} {q : Qy} {l : List Fd} {wr w' : World} (h : QDAt w0 Bq Bd k f x A n c K m d id D dn dc q l wr) (hb : Below wr.heap.size wr w') : QDAt w0 Bq Bd k f x A n c K m d id D dn dc q l w' := by
  have e1 := hb.block Bq h.lq
  have e2 := hb.block Bd h.ld
  refine ⟨h.bel.trans (hb.mono h.bel.size), ?_, ?_, Nat.lt_of_lt_of_le h.lq hb.size, Nat.lt_of_lt_of_le h.ld hb.size, h.qin.later hb, h.len, h.row.later hb⟩
  · simp only [World.cell?, e1]; exact h.qc
  · simp only [World.cell?, e2]; exact h.dc

set_option maxHeartbeats 4000000 in
set_option maxRecDepth 100000 in
theorem walk_QueryFits (w : World) (hg : Glob w) (q : Qy) (v : Value) (hq : QIn w q v) (hraw : RawQ 100000000 q) (id : Int) (D : Option Addr) (dn dc : Nat) (fs : List Fd) (hd : InFlds w D dn dc fs) :
    Calls Tryz.prog 7 #[v, docV id D dn dc] w fun e w' => e = .returned (.bool true) ∧ Below w.heap.size w w' := by
  obtain ⟨hnc, hcm, hln, hrow, hbd⟩ := hd
  have HGQ : Hid (∀ w1, Below w.heap.size w w1 → Calls Tryz.prog 13 #[v, .int .i64 1] w1 (GaveQ (goodQ 1 q) w1)) := Lib.hid fun w1 hb => ref12_Good 3 q 1 v w1 (by omega) (by omega) hraw (hq.later hb)
  have HGD : Hid (∀ w1, Below w.heap.size w w1 → Calls Tryz.prog 26 #[docV id D dn dc] w1 fun e w' => ∃ v, e = .returned (.agg #[.int .i64 id, v]) ∧ OwnFd w1.heap.size w' v (goodD fs) ∧ Below w1.heap.size w1 w') := Lib.hid fun w1 hb =>
    ref08_Good id D dn dc fs w1 hln (hrow.later hb) (by unfold maxLen at hcm; omega) (fun f hf => by have := hbd f hf; unfold maxLen at this; omega)
  have hmay := good_may 3 (d := 1) (q := q) (by omega) (by omega)
  have hgood := goodD_good fs
  obtain ⟨g, hgq⟩ : ∃ g, g = goodQ 1 q := ⟨_, rfl⟩
  obtain ⟨l, hl⟩ : ∃ l, l = goodD fs := ⟨_, rfl⟩
  rw [← hgq] at hmay HGQ
  rw [← hl] at hgood HGD
  obtain ⟨hm, hdp⟩ := hmay
  have hdp7 : deepQ g ≤ 7 := by omega
  obtain ⟨F, hF⟩ : ∃ F, F = fitsQ l g := ⟨_, rfl⟩
  obtain ⟨S, hS⟩ : ∃ S : Int, S = (scoreQ l g : Int) := ⟨_, rfl⟩
  have HF : Hid (∀ (v : Value) (id : Int) (D : Option Addr) (dn dc : Nat) (w2 : World), QIn w2 g v → l.length = dn → FRow w2 w2.heap.size D l → Calls Tryz.prog 27 #[v, docV id D dn dc] w2 fun e w' => e = .returned (.bool F) ∧ Below w2.heap.size w2 w') := Lib.hid fun v id D dn dc w2 h1 h2 h3 => by
    rw [hF]; exact query_Fits hgood g v id D dn dc w2 hm h1 h2 h3
  have HRF : Hid (∀ (v : Value) (id : Int) (D : Option Addr) (dn dc : Nat) (w2 : World), QIn w2 g v → l.length = dn → FRow w2 w2.heap.size D l → Calls Tryz.prog 28 #[v, docV id D dn dc] w2 fun e w' => e = .returned (.bool F) ∧ Below w2.heap.size w2 w') := Lib.hid fun v id D dn dc w2 h1 h2 h3 => by
    rw [hF]; exact ref12_Fits hgood 7 g v id D dn dc w2 hdp7 ⟨1, Nat.le_refl _, hm⟩ h1 h2 h3
  have HS : Hid (∀ (v : Value) (id : Int) (D : Option Addr) (dn dc : Nat) (w2 : World), QIn w2 g v → l.length = dn → FRow w2 w2.heap.size D l → Calls Tryz.prog 29 #[v, docV id D dn dc] w2 fun e w' => e = .returned (.int .i64 S) ∧ Below w2.heap.size w2 w') := Lib.hid fun v id D dn dc w2 h1 h2 h3 => by
    rw [hS]; exact query_Score hgood g v id D dn dc w2 hm h1 h2 h3
  have HRS : Hid (∀ (v : Value) (id : Int) (D : Option Addr) (dn dc : Nat) (w2 : World), QIn w2 g v → l.length = dn → FRow w2 w2.heap.size D l → Calls Tryz.prog 30 #[v, docV id D dn dc] w2 fun e w' => e = .returned (.int .i64 S) ∧ Below w2.heap.size w2 w') := Lib.hid fun v id D dn dc w2 h1 h2 h3 => by
    rw [hS]; exact ref12_Score hgood 7 g v id D dn dc w2 hdp7 ⟨1, Nat.le_refl _, hm⟩ h1 h2 h3
  have HL : Hid (∀ w2, Below w.heap.size w w2 → Calls Tryz.prog 18 #[] w2 fun e w' => e = .returned (.bool true) ∧ Below w2.heap.size w2 w') := Lib.hid fun w2 hb => law12_lives w2 (hg.below hb hg.size)
  obtain ⟨k, t, ws, ks, f, x, A, c, K, m, ds, he, rfl, -⟩ := hq.open_
  obtain ⟨w1, hw1⟩ : ∃ w1, w1 = box2 w k f x A ws.length c K ks.length m id D dn dc := ⟨_, rfl⟩
  have hs1 : w1.heap.size = w.heap.size + 2 := by rw [hw1]; simp [box2, boxQ]
  have HB : Hid (∀ wr, Below w1.heap.size w1 wr → _) := Lib.hid fun wr h => box2_of (wr := wr) (by rw [hs1, hw1] at h; exact h)
  obtain ⟨hb0, ⟨a0, a1, a2, a3, a4⟩, b0, b1⟩ := HB.out _ (Below.refl _ _)
  have HB0 := Lib.hid hb0
  have HW1 := Lib.hid hw1
  clear hF hS hgq hl hgood hm hdp hdp7 he hq hraw hrow hbd hg hw1 hs1 hb0 hnc hcm hln
  go_enter Tryz.func7, Tryz.ntmps7
  go_upto_region 1 with fail
  rw [show (w.alloc _).alloc _ = w1 from HW1.out.symm]
  go_upto_region 2 with (go_at_call 13; (with_reducible refine (HGQ.out _ HB0.out).mono ?_); rintro e w3 ⟨v3, rfl, hq3, hb3⟩; obtain ⟨k3, f3, x3, A3, n3, c3, K3, m3, d3, e3, hq4⟩ := hq3; subst e3; have HQ3 : Hid (QIn w3 g (qV k3 f3 x3 A3 n3 c3 K3 m3 d3)) := Lib.hid ⟨_, _, _, _, _, _, _, _, _, rfl, hq4.imp fun b hb => hb.2⟩; have HB3 := Lib.hid hb3; clear hq4 hb3 a0 a1 a2 a3 a4 b0 b1)
  obtain ⟨w4, hw4⟩ : ∃ w4, w4 = boxQ w3 k3 f3 x3 A3 n3 c3 K3 m3 d3 := ⟨_, rfl⟩
  rw [show w3.alloc _ = w4 from hw4.symm]
  have hb4 : Below w3.heap.size w3 w4 := by rw [hw4]; exact boxQ_below
  have HB4 : Hid (Below w1.heap.size w1 w4) := Lib.hid (HB3.out.trans (hb4.mono HB3.out.size))
  have HQ4 : Hid (QIn w4 g (qV k3 f3 x3 A3 n3 c3 K3 m3 d3)) := Lib.hid (HQ3.out.later hb4)
  have HC4 : Hid (w4.heap[w3.heap.size]? = some (.cells #[.int .i64 k3, .string f3, .string x3, .slice A3 n3 c3, .slice K3 m3 d3] 27 (0, 0))) := Lib.hid (by rw [hw4]; exact heap_alloc_new _ _)
  obtain ⟨-, -, b0, b1⟩ := HB.out _ HB4.out
  clear hw4 hb4
  go_upto_region 3 with (go_at_call 26; (with_reducible refine (HGD.out _ (HB0.out.trans (HB4.out.mono HB0.out.size))).mono ?_); rintro e w5 ⟨v5, rfl, ho5, hb5⟩; obtain ⟨A5, c5, rfl, hc5, hr5⟩ := ho5.row; have HR5 := Lib.hid hr5; have HB5 := Lib.hid hb5; clear ho5 hr5 hb5 b0 b1)
  obtain ⟨w6, hw6⟩ : ∃ w6, w6 = w5.alloc (.cells #[.int .i64 id, .slice A5 l.length c5] 46) := ⟨_, rfl⟩
  have hb6 : Below w5.heap.size w5 w6 := by rw [hw6]; exact (Below.refl _ _).alloc (Nat.le_refl _) _
  have hb46 : Below w4.heap.size w4 w6 := HB5.out.trans (hb6.mono HB5.out.size)
  have hQD : QDAt w w3.heap.size w5.heap.size k3 f3 x3 A3 n3 c3 K3 m3 d3 id A5 l.length c5 g l w6 := by
    have hc : w6.heap[w3.heap.size]? = some (.cells #[.int .i64 k3, .string f3, .string x3, .slice A3 n3 c3, .slice K3 m3 d3] 27 (0, 0)) := (hb46.block _ (Array.getElem?_eq_some_iff.1 HC4.out).1).trans HC4.out
    have hd : w6.heap[w5.heap.size]? = some (.cells #[.int .i64 id, .slice A5 l.length c5] 46 (0, 0)) := by rw [hw6]; exact heap_alloc_new _ _
    have h06 : Below w.heap.size w w6 := (HB0.out.trans (HB4.out.mono HB0.out.size)).trans (hb46.mono (Nat.le_trans HB0.out.size HB4.out.size))
    exact ⟨h06, (five_cells hc).1, (two_cells12 hd).1, (Array.getElem?_eq_some_iff.1 hc).1, (Array.getElem?_eq_some_iff.1 hd).1, HQ4.out.later hb46, rfl, HR5.out.later hb6⟩
  rw [show w5.alloc _ = w6 from hw6.symm]
  obtain ⟨Bq, hBq⟩ : ∃ Bq, Bq = w3.heap.size := ⟨_, rfl⟩
  obtain ⟨Bd, hBd⟩ : ∃ Bd, Bd = w5.heap.size := ⟨_, rfl⟩
  rw [← hBq, ← hBd] at hQD ⊢
  obtain ⟨dl, hdl⟩ : ∃ dl, dl = l.length := ⟨_, rfl⟩
  rw [← hdl] at hQD ⊢
  have HX : Hid (QDAt w Bq Bd k3 f3 x3 A3 n3 c3 K3 m3 d3 id A5 dl c5 g l w6.drew) := Lib.hid (hQD.later (Below.refl _ _).drew)
  obtain ⟨a0, a1, a2, a3, a4⟩ := hQD.qc
  obtain ⟨b0, b1⟩ := hQD.dc
  clear hBq hBd hdl hQD hw6 hb6 hb46
  go_region_held3 (fun w' => (w'.cell? ⟨Bq, 0, none⟩ = some (.int .i64 k3) ∧ w'.cell? ⟨Bq, 1, none⟩ = some (.string f3) ∧ w'.cell? ⟨Bq, 2, none⟩ = some (.string x3) ∧ w'.cell? ⟨Bq, 3, none⟩ = some (.slice A3 n3 c3) ∧ w'.cell? ⟨Bq, 4, none⟩ = some (.slice K3 m3 d3)) ∧ w'.cell? ⟨Bd, 0, none⟩ = some (.int .i64 id) ∧ w'.cell? ⟨Bd, 1, none⟩ = some (.slice A5 dl c5))
    (exact ⟨HX.out.qc, HX.out.dc⟩)
    (first
      | (go_at_call 27; (with_reducible refine (HF.out _ _ _ _ _ _ HX.out.qin HX.out.len HX.out.row).mono ?_); rintro e wn ⟨rfl, hbn⟩; have HX := Lib.hid (HX.out.later hbn); clear hbn)
      | (go_at_call 28; (with_reducible refine (HRF.out _ _ _ _ _ _ HX.out.qin HX.out.len HX.out.row).mono ?_); rintro e wn ⟨rfl, hbn⟩; have HX := Lib.hid (HX.out.later hbn); clear hbn)
      | (go_at_call 29; (with_reducible refine (HS.out _ _ _ _ _ _ HX.out.qin HX.out.len HX.out.row).mono ?_); rintro e wn ⟨rfl, hbn⟩; have HX := Lib.hid (HX.out.later hbn); clear hbn)
      | (go_at_call 30; (with_reducible refine (HRS.out _ _ _ _ _ _ HX.out.qin HX.out.len HX.out.row).mono ?_); rintro e wn ⟨rfl, hbn⟩; have HX := Lib.hid (HX.out.later hbn); clear hbn)
      | (go_at_call 18; (with_reducible refine (HL.out _ HX.out.bel).mono ?_); rintro e wn ⟨rfl, hbn⟩; have HX := Lib.hid (HX.out.later hbn); clear hbn))
  all_goals
    go_wp2
    go_ret
    exact ⟨rfl, HX.out.bel⟩
end Go.Proofs.YtolfkhflbjnakaaGreatDoor
