/- What the document's own Advance answers. -/
import Derived.Test.YtnmnbckaccicaaaRef06
set_option linter.unusedVariables false
namespace Go.Proofs.Ytnmnbckaccicaaa
open Go Go.RowKit

theorem cellsPair {w : World} {B : Nat} {x y : Value} {t : TypeId} (h : w.heap[B]? = some (.cells #[x, y] t (0, 0))) : w.cell? ⟨B, 0, none⟩ = some x ∧ w.cell? ⟨B, 1, none⟩ = some y ∧ w.frozen? ⟨B, 0, none⟩ = false ∧ w.frozen? ⟨B, 1, none⟩ = false := by
  simp [World.cell?, World.frozen?, h]
theorem setSnd {w : World} {B : Nat} {x y u : Value} {t : TypeId} (h : w.heap[B]? = some (.cells #[x, y] t (0, 0))) : (w.setCell ⟨B, 1, none⟩ u).heap[B]? = some (.cells #[x, u] t (0, 0)) :=
  heap_setCell_same w B 1 #[x, y] t u h
theorem setPair {w : World} {B : Nat} {a b x y : Value} {t : TypeId} (h : w.heap[B]? = some (.cells #[a, b] t (0, 0))) : ((w.setCell ⟨B, 0, none⟩ x).setCell ⟨B, 1, none⟩ y).heap[B]? = some (.cells #[x, y] t (0, 0)) :=
  heap_setCell_same _ B 1 #[x, b] t y (heap_setCell_same w B 0 #[a, b] t x h)
/-- The place that a struct in memory bears. -/
def placeIn (B : Nat) (w : World) : Int := match w.cell? ⟨B, 1, none⟩ with | some (.int _ z) => z | _ => 0

def AdvRel (A : Option Addr) (n c : Nat) (g : List Po) (doc i : Int) (w : World) (wr : World) : Prop :=
  ∃ j : Int, -1 ≤ j ∧ j ≤ (n : Int) ∧ advC g doc i = advC g doc j ∧ wr.heap[w.heap.size]? = some (.cells #[.slice A n c, .int .i64 j] 32 (0, 0)) ∧
    (∃ x y, wr.heap[w.heap.size + 1]? = some (.cells #[x, y] 32 (0, 0))) ∧ Below w.heap.size w wr

set_option maxHeartbeats 2000000 in
set_option maxRecDepth 100000 in
theorem ref06_Advance (A : Option Addr) (n c : Nat) (g : List Po) (doc i : Int) (w : World) (hn : g.length = n) (hnx : n ≤ 1000000) (hpo : Posts w w.heap.size A g) (h0 : -1 ≤ i) (h1 : i ≤ (n : Int)) :
    Calls Try.prog 16 #[curV A n c i, .int .i64 doc] w fun e w' => e = .returned (curV A n c (advC g doc i)) ∧ Below w.heap.size w w' := by
  have HPO := Lib.hid hpo
  have HN := Lib.hid hn
  have hb0 := ((Below.refl w.heap.size w).alloc (Nat.le_refl _) (.cells #[.slice A n c, .int .i64 i] 32)).alloc (by simp) (.cells #[.slice none 0 0, .int .i64 0] 32)
  have hw0 : AdvRel A n c g doc i w ((w.alloc (.cells #[.slice A n c, .int .i64 i] 32)).alloc (.cells #[.slice none 0 0, .int .i64 0] 32)) :=
    ⟨i, h0, h1, rfl, (Below.heap_alloc _ _ _ (by simp)).trans (heap_alloc_new w _), ⟨_, _, heap_alloc2_new _ _ _⟩, hb0⟩
  have HW0 := Lib.hid hw0
  clear hpo hn hb0 hw0
  obtain ⟨cv, hcv⟩ : ∃ cv, cv = curV A n c i := ⟨_, rfl⟩
  unfold curV at hcv ⊢
  subst hcv
  go_enter Try.func16, Try.ntmps16
  go_wp2
  go_loopw [] (fun wr => AdvRel A n c g doc i w wr) (fun wr => ((n : Int) - placeIn w.heap.size wr).toNat)
  case atStart => exact HW0.out
  case round =>
    obtain ⟨j, hj0, hj1, hadv, hbx, ⟨rx, ry, hrx⟩, hbw⟩ := hrel
    obtain ⟨c0, c1, f0, f1⟩ := cellsPair hbx
    have hpl : placeIn w.heap.size wr = j := by simp [placeIn, c1]
    have hsz := hbw.size
    have hd := ref06_Doc A n c g j wr HN.out hnx ((HPO.out.below hbw).more hsz) hj0 hj1
    unfold curV at hd
    obtain ⟨x, hx⟩ : ∃ x, x = docC g j := ⟨_, rfl⟩
    rw [← hx] at hd
    have HD := Lib.hid hd
    have HX := Lib.hid hx
    have HBX := Lib.hid hbx
    have HRX := Lib.hid hrx
    have HBW := Lib.hid hbw
    have HADV := Lib.hid hadv
    have HPL := Lib.hid hpl
    have hblt := lt_of_block hbx
    have hrlt := lt_of_block hrx
    have hkeep : ∀ w', Below wr.heap.size wr w' → w'.heap[w.heap.size]? = some (.cells #[.slice A n c, .int .i64 j] 32 (0, 0)) ∧ w'.heap[w.heap.size + 1]? = some (.cells #[rx, ry] 32 (0, 0)) := fun w' h => ⟨(h.block _ hblt).trans HBX.out, (h.block _ hrlt).trans HRX.out⟩
    have HK := Lib.hid hkeep
    clear hd hx hbx hrx hbw hadv hpl hkeep
    have hback : ∀ w' : World, Below wr.heap.size wr w' → w'.cell? ⟨w.heap.size, 1, none⟩ = some (.int .i64 j) ∧ w'.cell? ⟨w.heap.size, 0, none⟩ = some (.slice A n c) := fun w' h => ⟨(cellsPair (HK.out w' h).1).2.1, (cellsPair (HK.out w' h).1).1⟩
    have hfrz : ∀ w' : World, Below wr.heap.size wr w' → w'.frozen? ⟨w.heap.size, 1, none⟩ = false := fun w' h => (cellsPair (HK.out w' h).1).2.2.2
    by_cases hx : x < doc
    · have hdx : decide (x < doc) = true := decide_eq_true hx
      by_cases hjn : j < (n : Int)
      · have hdj : decide (j < (n : Int)) = true := decide_eq_true hjn
        have hadv2 : advC g doc i = advC g doc (j + 1) := by rw [HADV.out, advC_step ⟨by rw [← HX.out]; exact hx, by rw [HN.out]; exact hjn⟩]
        have HA2 := Lib.hid hadv2
        clear hadv2
        go_wp2_with (go_at_call 17; refine HD.out.mono ?_)
        rintro e w3 ⟨rfl, hb3⟩
        obtain ⟨d1, d0⟩ := hback w3 hb3
        have e1 := hfrz w3 hb3
        have hfin : AdvRel A n c g doc i w (w3.setCell ⟨w.heap.size, 1, none⟩ (.int .i64 (j + 1))) :=
          ⟨j + 1, by omega, by omega, HA2.out, setSnd (HK.out w3 hb3).1, ⟨rx, ry, (Below.heap_setCell _ _ _ _ (show w.heap.size + 1 ≠ w.heap.size by omega)).trans (HK.out w3 hb3).2⟩, (HBW.out.trans (hb3.mono hsz)).setCell (Nat.le_refl _) _⟩
        have hpl2 : placeIn w.heap.size (w3.setCell ⟨w.heap.size, 1, none⟩ (.int .i64 (j + 1))) = j + 1 := by simp [placeIn, (cellsPair (setSnd (u := .int .i64 (j + 1)) (HK.out w3 hb3).1)).2.1]
        have HF := Lib.hid hfin
        have HP2 := Lib.hid hpl2
        clear hfin hpl2 hb3
        go_wp2
        go_roundw
        case rel => exact HF.out
        case measure => rw [HPL.out, HP2.out]; omega
      · have hdj : decide (j < (n : Int)) = false := decide_eq_false hjn
        have hres : advC g doc i = j := by rw [HADV.out, advC_stay (by rw [HN.out]; omega)]
        have HRES := Lib.hid hres
        clear hres
        go_wp2_with (go_at_call 17; refine HD.out.mono ?_; rintro e w3 ⟨rfl, hb3⟩; obtain ⟨d1, d0⟩ := hback w3 hb3; obtain ⟨r0, r1, s0, s1⟩ := cellsPair (HK.out w3 hb3).2; have HR3 := Lib.hid (HK.out w3 hb3).2; have HB3 := Lib.hid (HBW.out.trans (hb3.mono hsz)); clear hb3)
        refine bodyPost_ret (results_cell_row (P := Try.prog) rfl _ _ (w.heap.size + 1) 32 _ (0, 0) _ rfl (setPair HR3.out) Try.underlying32 rfl (by kernel_rfl)) rfl ?_
        exact ⟨by rw [HRES.out], (HB3.out.setCell (show w.heap.size ≤ w.heap.size + 1 by omega) _).setCell (show w.heap.size ≤ w.heap.size + 1 by omega) _⟩
    · have hdx : decide (x < doc) = false := decide_eq_false hx
      have hres : advC g doc i = j := by rw [HADV.out, advC_stay (by rw [← HX.out]; omega)]
      have HRES := Lib.hid hres
      clear hres
      go_wp2_with (go_at_call 17; refine HD.out.mono ?_; rintro e w3 ⟨rfl, hb3⟩; obtain ⟨d1, d0⟩ := hback w3 hb3; obtain ⟨r0, r1, s0, s1⟩ := cellsPair (HK.out w3 hb3).2; have HR3 := Lib.hid (HK.out w3 hb3).2; have HB3 := Lib.hid (HBW.out.trans (hb3.mono hsz)); clear hb3)
      refine bodyPost_ret (results_cell_row (P := Try.prog) rfl _ _ (w.heap.size + 1) 32 _ (0, 0) _ rfl (setPair HR3.out) Try.underlying32 rfl (by kernel_rfl)) rfl ?_
      exact ⟨by rw [HRES.out], (HB3.out.setCell (show w.heap.size ≤ w.heap.size + 1 by omega) _).setCell (show w.heap.size ≤ w.heap.size + 1 by omega) _⟩
end Go.Proofs.Ytnmnbckaccicaaa
