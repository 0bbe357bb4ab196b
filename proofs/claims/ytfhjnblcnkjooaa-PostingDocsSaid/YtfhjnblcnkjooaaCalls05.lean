/- What more of package posting's short calls answer: where all blocks end, a block's last document, which places and postings may be. -/
import Derived.Test.YtfhjnblcnkjooaaList05
import Derived.Test.YtfhjnblcnkjooaaRefRises04
set_option linter.unusedVariables false
namespace Go.Proofs.Ytfhjnblcnkjooaa
open Go Go.RowKit

theorem set_two {w : World} {B : Nat} {a b x y : Value} {t : TypeId} (h : w.heap[B]? = some (.cells #[a, b] t (0, 0))) : ((w.setCell ⟨B, 0, none⟩ x).setCell ⟨B, 1, none⟩ y).heap[B]? = some (.cells #[x, y] t (0, 0)) :=
  heap_setCell_same _ B 1 #[x, b] t y (heap_setCell_same w B 0 #[a, b] t x h)
theorem cells_two {w : World} {B : Nat} {x y : Value} {t : TypeId} (h : w.heap[B]? = some (.cells #[x, y] t (0, 0))) : w.cell? ⟨B, 0, none⟩ = some x ∧ w.cell? ⟨B, 1, none⟩ = some y ∧ w.frozen? ⟨B, 0, none⟩ = false ∧ w.frozen? ⟨B, 1, none⟩ = false := by
  simp [World.cell?, World.frozen?, h]
theorem take_blocks (l : List Po) : l.take (8 * blocksP l.length) = l := List.take_of_length_le (by unfold blocksP; omega)

/-- Where all blocks end. -/
theorem list_last (base B : Nat) (bs : List UInt8) (l : List Po) (w : World) (h : LAt w base B bs l) (hl : l.length ≤ 1073741824) :
    Calls Try.prog 26 #[.pointer (some ⟨B, 0, none⟩)] w fun e w' => e = .returned (.agg #[.int .i64 (docOf (-1) l), .int .i64 ((bytesP (-1) l).length : Int)]) ∧ Below w.heap.size w w' := by
  have hal := (Below.refl w.heap.size w).alloc (Nat.le_refl _) (.cells #[.int .i64 0, .int .i64 0] 55)
  have h1 := h.below hal
  have hb := list_Blocks base B bs l _ h1
  have ha := list_ahead base B bs l _ h1 (blocksP l.length) (Nat.le_refl _) hl
  rw [take_blocks] at ha
  have HAL := Lib.hid hal
  have HB := Lib.hid hb
  have HA := Lib.hid ha
  obtain ⟨n, hn⟩ : ∃ n, n = blocksP l.length := ⟨_, rfl⟩
  rw [← hn] at HA HB
  obtain ⟨x, hx⟩ : ∃ x, x = docOf (-1) l := ⟨_, rfl⟩
  obtain ⟨y, hy⟩ : ∃ y, y = (bytesP (-1) l).length := ⟨_, rfl⟩
  rw [← hx, ← hy] at HA ⊢
  clear h h1 hal hb ha hn hx hy
  go_enter Try.func26, Try.ntmps26
  go_wp2_with (first
    | (go_at_call 18; refine HB.out.mono ?_; rintro e w' ⟨rfl, rfl⟩)
    | (go_at_call 43; refine HA.out.mono ?_))
  rintro e w3 ⟨rfl, hb3⟩
  have hres : w3.heap[w.heap.size]? = some (.cells #[.int .i64 0, .int .i64 0] 55 (0, 0)) := (hb3.block w.heap.size (by simp)).trans (heap_alloc_new w _)
  obtain ⟨c0, c1, f0, f1⟩ := cells_two hres
  have hb4 := HAL.out.trans (hb3.mono (by simp))
  have HR := Lib.hid hres
  have HB4 := Lib.hid hb4
  clear hres hb4 hb3
  go_wp2
  refine bodyPost_ret (results_cell_row (P := Try.prog) rfl _ _ w.heap.size 55 _ (0, 0) _ rfl (set_two HR.out) Try.underlying55 rfl (by kernel_rfl)) rfl ?_
  exact ⟨rfl, (HB4.out.setCell (Nat.le_refl _) _).setCell (Nat.le_refl _) _⟩

/-- A block's last document. -/
theorem list_Last (base B : Nat) (bs : List UInt8) (l : List Po) (w : World) (h : LAt w base B bs l) (hl : l.length ≤ 1073741824) (k : Int) (hk0 : -1 ≤ k) :
    Calls Try.prog 20 #[.pointer (some ⟨B, 0, none⟩), .int .i64 k] w fun e w' => e = .returned (.int .i64 (lastP l k)) ∧ w = w' := by
  have HH := Lib.hid (list_has base B bs l w h k hk0)
  obtain ⟨Ab, cb, Ae, ce, ⟨c0, c1, c2, c3⟩, _, _, hce, _, hre, _⟩ := h.read
  clear h c0 c2 c3
  by_cases hin : 0 ≤ k ∧ k < (blocksP l.length : Int)
  · obtain ⟨j, rfl⟩ : ∃ j : Nat, k = (j : Int) := ⟨k.toNat, by omega⟩
    have hj : j < blocksP l.length := by omega
    obtain ⟨b, o, rfl, _, e0, _⟩ := row_end hre hj
    rw [← lastP_end hj] at e0
    rw [decide_eq_true hin] at HH
    obtain ⟨n, hn⟩ : ∃ n, n = blocksP l.length := ⟨_, rfl⟩
    rw [← hn] at c1 hj hce
    obtain ⟨x, hx⟩ : ∃ x, x = lastP l (j : Int) := ⟨_, rfl⟩
    rw [← hx] at e0 ⊢
    have hnb : n ≤ 1073741824 := by rw [hn]; unfold blocksP; omega
    clear hn hx hre hin
    go_enter Try.func20, Try.ntmps20
    go_wp2_with (go_at_call 42; refine HH.out.mono ?_; rintro e w' ⟨rfl, rfl⟩)
    go_ret
    exact ⟨rfl, rfl⟩
  · have hx : lastP l k = -1 := by
      unfold lastP
      by_cases hz : k < 0
      · rw [blockP_neg hz]; rfl
      · obtain ⟨j, rfl⟩ : ∃ j : Nat, k = (j : Int) := ⟨k.toNat, by omega⟩
        rw [blockP_out (by omega)]; rfl
    rw [hx]
    rw [decide_eq_false hin] at HH
    clear hx hre c1 hin
    go_enter Try.func20, Try.ntmps20
    go_wp2_with (go_at_call 42; refine HH.out.mono ?_; rintro e w' ⟨rfl, rfl⟩)
    go_ret
    exact ⟨rfl, rfl⟩

def PlacesRel (l : List Int) (r last i : Value) : Prop := r = .bool false ∧ ∃ (k : Nat) (x : Int), k ≤ l.length ∧ i = .int .i64 (k : Int) ∧ last = .int .i64 x ∧ placesOn x (l.drop k) = placesOn (-1) l

set_option maxHeartbeats 1000000 in
set_option maxRecDepth 100000 in
theorem may_places (A : Option Addr) (m c : Nat) (l : List Int) (w : World) (hr : Row w w.heap.size A (ints l)) (hm : l.length = m) (hl : m ≤ 1073741824) :
    Calls Try.prog 28 #[.slice A m c] w fun e w' => e = .returned (.bool (placesB l)) ∧ w = w' := by
  have HR := Lib.hid hr
  clear hr
  subst hm
  rw [placesB_on]
  obtain ⟨ans, hans⟩ : ∃ ans, ans = placesOn (-1) l := ⟨_, rfl⟩
  rw [← hans]
  have HA := Lib.hid hans
  clear hans
  go_enter Try.func28, Try.ntmps28
  go_wp2
  go_loop [2, 3, 8] (fun r last i => PlacesRel l r last i) (fun _ _ i => l.length - (intOf i).toNat)
  case atStart => exact ⟨rfl, 0, -1, by omega, rfl, rfl, rfl⟩
  case round =>
    obtain ⟨rfl, k, x, hk, rfl, rfl, hx⟩ := hrel
    by_cases hlt : k < l.length
    · obtain ⟨b1, o1, e1, _, hc1⟩ := row_int' HR.out hlt
      subst e1
      rw [placesOn_cut hlt] at hx
      obtain ⟨y, hy⟩ : ∃ y, y = l.getD k 0 := ⟨_, rfl⟩
      rw [← hy] at hc1 hx
      clear hy
      by_cases hxy : y ≤ x
      · rw [decide_eq_false (by omega), Bool.false_and, Bool.false_and, ← HA.out] at hx
        subst hx
        have hd : decide (y ≤ x) = true := decide_eq_true hxy
        go_wp2
        go_ret
        exact ⟨rfl, rfl⟩
      · have hd : decide (y ≤ x) = false := decide_eq_false hxy
        by_cases hyb : 2147483648 ≤ y
        · rw [decide_eq_false (p := y < 2147483648) (by omega), Bool.and_false, Bool.false_and, ← HA.out] at hx
          subst hx
          have hd2 : decide (2147483648 ≤ y) = true := decide_eq_true hyb
          go_wp2
          go_ret
          exact ⟨rfl, rfl⟩
        · rw [decide_eq_true (p := x < y) (by omega), decide_eq_true (p := y < 2147483648) (by omega), Bool.true_and, Bool.true_and] at hx
          have hd2 : decide (2147483648 ≤ y) = false := decide_eq_false hyb
          have HX := Lib.hid hx
          clear hx
          go_wp2
          go_round
          case rel => exact ⟨rfl, k + 1, y, by omega, by go_num, rfl, HX.out⟩
          case measure => simp [intOf]; omega
    · have hx2 : placesOn x (l.drop k) = true := by rw [List.drop_eq_nil_of_le (by omega)]; rfl
      rw [hx2, ← HA.out] at hx
      subst hx
      clear hx2
      go_wp2
      go_ret
      exact ⟨rfl, rfl⟩
end Go.Proofs.Ytfhjnblcnkjooaa
