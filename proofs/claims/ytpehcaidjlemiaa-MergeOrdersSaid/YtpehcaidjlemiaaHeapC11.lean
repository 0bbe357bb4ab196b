/- What the calls on heads answer: Len, Less, Swap, Pop, Push. -/
import Derived.Test.YtpehcaidjlemiaaHeapM11
import Derived.Test.YtpehcaidjlemiaaHeapF11
import Derived.Test.YtpehcaidjlemiaaRefOrdP11
import Derived.Lib.Hide
import Derived.BigCall
import Derived.BigQuiet
import Derived.Deep.QuietTactic
import Derived.BigRegion
set_option linter.unusedVariables false
namespace Go.Proofs.Ytpehcaidjlemiaa
open Go Go.RowKit

theorem heads_Len (A : Option Addr) (n c : Nat) (w : World) : Calls Try.prog 14 #[.slice A n c] w fun e w' => e = .returned (.int .i64 (n : Int)) ∧ w' = w := by
  go_enter Try.func14, Try.ntmps14
  go_wp2
  go_ret
  exact ⟨rfl, rfl⟩
set_option maxHeartbeats 1000000 in
theorem heads_Less (g n c a b : Nat) (x y : Int) (w : World) (ha : a < n) (hb : b < n) (hn : n ≤ c ∧ c ≤ maxLen) (hx : w.cell? ⟨g, a * 3, none⟩ = some (.int .i64 x)) (hy : w.cell? ⟨g, b * 3, none⟩ = some (.int .i64 y)) :
    Calls Try.prog 42 #[.slice (some ⟨g, 0, none⟩) n c, .int .i64 (a : Int), .int .i64 (b : Int)] w fun e w' => e = .returned (.bool (decide (x < y))) ∧ Below w.heap.size w w' := by
  have hz1 : 0 + a * 3 + 0 = a * 3 := by omega
  obtain ⟨q1, q2⟩ := hn
  unfold maxLen at q2
  go_enter Try.func42, Try.ntmps42
  go_wp2
  go_quiet (fail)
  go_wp2
  go_ret
  exact ⟨rfl, rfl, rfl, rfl, Nat.le_refl _, fun _ _ => rfl⟩
/-- A head is put at a place of a row. -/
def put3 (w : World) (g k : Nat) (x : Int) (l p : Nat) : World := ((w.setCell ⟨g, k * 3, none⟩ (.int .i64 x)).setCell ⟨g, k * 3 + 1, none⟩ (.int .i64 (l : Int))).setCell ⟨g, k * 3 + 2, none⟩ (.int .i64 (p : Int))
set_option maxHeartbeats 1000000 in
theorem heads_Swap (g n c a b : Nat) (x1 y1 : Int) (x2 x3 y2 y3 : Nat) (w : World) (ha : a < n) (hb : b < n) (hn : n ≤ c ∧ c ≤ maxLen)
    (hx1 : w.cell? ⟨g, a * 3, none⟩ = some (.int .i64 x1)) (hx2 : w.cell? ⟨g, a * 3 + 1, none⟩ = some (.int .i64 (x2 : Int))) (hx3 : w.cell? ⟨g, a * 3 + 2, none⟩ = some (.int .i64 (x3 : Int)))
    (hy1 : w.cell? ⟨g, b * 3, none⟩ = some (.int .i64 y1)) (hy2 : w.cell? ⟨g, b * 3 + 1, none⟩ = some (.int .i64 (y2 : Int))) (hy3 : w.cell? ⟨g, b * 3 + 2, none⟩ = some (.int .i64 (y3 : Int))) (hfr : ∀ j, w.frozen? ⟨g, j, none⟩ = false) :
    Calls Try.prog 43 #[.slice (some ⟨g, 0, none⟩) n c, .int .i64 (a : Int), .int .i64 (b : Int)] w fun e w' => (∃ v, e = .returned v) ∧ w' = (put3 (put3 w g a y1 y2 y3) g b x1 x2 x3).drew := by
  obtain ⟨q1, q2⟩ := hn
  unfold maxLen at q2
  by_cases hab : a = b
  · subst hab
    have e1 : y1 = x1 := by have := hy1.symm.trans hx1; simpa using this
    have e2 : y2 = x2 := by have := hy2.symm.trans hx2; simp at this; omega
    have e3 : y3 = x3 := by have := hy3.symm.trans hx3; simp at this; omega
    subst e1 e2 e3
    clear hy1 hy2 hy3 hb
    go_enter Try.func43, Try.ntmps43
    go_wp2
    go_region
    go_end0
    exact ⟨⟨_, rfl⟩, rfl⟩
  · have hba : ¬ b = a := fun e => hab e.symm
    go_enter Try.func43, Try.ntmps43
    go_wp2
    go_region
    go_end0
    exact ⟨⟨_, rfl⟩, rfl⟩
theorem meth_less (B : Nat) (v : Value) (w : World) (h : w.cell? ⟨B, 0, none⟩ = some v) (k : Nat) : (method (k + 1) 41 (.pointer (some ⟨B, 0, none⟩)) "Less").run Try.prog w = .ok (42, v) w := by
  have e : (method (k + 1) 41 (.pointer (some ⟨B, 0, none⟩)) "Less").run Try.prog w = ((loadVar 38 ⟨B, 0, none⟩) >>= fun v => pure (42, v)).run Try.prog w := by kernel_rfl
  rw [e]
  simp [loadVar, h]
theorem meth_swap (B : Nat) (v : Value) (w : World) (h : w.cell? ⟨B, 0, none⟩ = some v) (k : Nat) : (method (k + 1) 41 (.pointer (some ⟨B, 0, none⟩)) "Swap").run Try.prog w = .ok (43, v) w := by
  have e : (method (k + 1) 41 (.pointer (some ⟨B, 0, none⟩)) "Swap").run Try.prog w = ((loadVar 38 ⟨B, 0, none⟩) >>= fun v => pure (43, v)).run Try.prog w := by kernel_rfl
  rw [e]
  simp [loadVar, h]
theorem meth_len (B : Nat) (v : Value) (w : World) (h : w.cell? ⟨B, 0, none⟩ = some v) (k : Nat) : (method (k + 1) 41 (.pointer (some ⟨B, 0, none⟩)) "Len").run Try.prog w = .ok (14, v) w := by
  have e : (method (k + 1) 41 (.pointer (some ⟨B, 0, none⟩)) "Len").run Try.prog w = ((loadVar 38 ⟨B, 0, none⟩) >>= fun v => pure (14, v)).run Try.prog w := by kernel_rfl
  rw [e]
  simp [loadVar, h]
theorem meth_pop (B : Nat) (w : World) (k : Nat) : (method (k + 1) 41 (.pointer (some ⟨B, 0, none⟩)) "Pop").run Try.prog w = .ok (44, .pointer (some ⟨B, 0, none⟩)) w := by kernel_rfl
theorem meth_push (B : Nat) (w : World) (k : Nat) : (method (k + 1) 41 (.pointer (some ⟨B, 0, none⟩)) "Push").run Try.prog w = .ok (45, .pointer (some ⟨B, 0, none⟩)) w := by kernel_rfl
abbrev hkey (x : Hd) : Int := x.1
/-- A heap at block B is turned: what is in it stays, but for its row. -/
theorem put3_hat {base B g n c k : Nat} {w : World} {H : List Hd} {x : Hd} (hBg : g ≠ B) (hb : base ≤ B) (h2 : w.heap[B]? = some (.cells #[.slice (some ⟨g, 0, none⟩) H.length c] 38 (0, 0))) (h3 : w.ownsRow base 44 3 (.slice (some ⟨g, 0, none⟩) H.length c) H.length (hds H)) :
    (put3 w g k x.1 x.2.1 x.2.2).heap[B]? = some (.cells #[.slice (some ⟨g, 0, none⟩) (H.set k x).length c] 38 (0, 0)) ∧ (put3 w g k x.1 x.2.1 x.2.2).ownsRow base 44 3 (.slice (some ⟨g, 0, none⟩) (H.set k x).length c) (H.set k x).length (hds (H.set k x)) ∧ MildH base w (put3 w g k x.1 x.2.1 x.2.2) := by
  have hgo : base ≤ g ∧ ∃ cs, w.heap[g]? = some (.cells cs 44 (0, 0)) := ⟨(h3.lt g rfl).1, owned_kind h3 rfl⟩
  refine ⟨?_, ?_, ?_⟩
  · rw [List.length_set]
    unfold put3
    rw [Below.heap_setCell _ _ _ _ (fun e => hBg e.symm), Below.heap_setCell _ _ _ _ (fun e => hBg e.symm), Below.heap_setCell _ _ _ _ (fun e => hBg e.symm), h2]
  · rw [List.length_set, hds_set]
    exact (((h3.stored _ _).1.stored _ _).1.stored _ _).1
  · obtain ⟨hg1, cs, hg2⟩ := hgo
    have s1 := MildH.setCell (i := k * 3) hg2 (.inl rfl) hg1 (.int .i64 x.1)
    have k1 := heap_setCell_same w g (k * 3) _ _ (.int .i64 x.1) hg2
    have s2 := MildH.setCell (i := k * 3 + 1) k1 (.inl rfl) hg1 (.int .i64 (x.2.1 : Int))
    have k2 := heap_setCell_same _ g (k * 3 + 1) _ _ (.int .i64 (x.2.1 : Int)) k1
    have s3 := MildH.setCell (i := k * 3 + 2) k2 (.inl rfl) hg1 (.int .i64 (x.2.2 : Int))
    exact (s1.trans s2).trans s3
theorem MildH.drew {base : Nat} {w w' : World} (h : MildH base w w') : MildH base w w'.drew := ⟨h.below.drew, h.keep⟩
theorem HAt.drew {base B : Nat} {w : World} {H : List Hd} (h : HAt base w B H) : HAt base w.drew B H := h
/-- Two change places. -/
theorem HAt.swap {base B : Nat} {w : World} {H : List Hd} (h : HAt base w B H) {a b : Nat} (ha : a < H.length) (hb : b < H.length) {g c : Nat} (h2 : w.heap[B]? = some (.cells #[.slice (some ⟨g, 0, none⟩) H.length c] 38 (0, 0))) (h3 : w.ownsRow base 44 3 (.slice (some ⟨g, 0, none⟩) H.length c) H.length (hds H)) (hBg : g ≠ B) :
    HAt base (put3 (put3 w g a H[b].1 H[b].2.1 H[b].2.2) g b H[a].1 H[a].2.1 H[a].2.2).drew B (swapL H a b ha hb) ∧ MildH base w (put3 (put3 w g a H[b].1 H[b].2.1 H[b].2.2) g b H[a].1 H[a].2.1 H[a].2.2).drew := by
  obtain ⟨e1, e2, e3⟩ := put3_hat (k := a) (x := H[b]) (n := 0) hBg h.1 h2 h3
  obtain ⟨f1, f2, f3⟩ := put3_hat (k := b) (x := H[a]) (n := 0) hBg h.1 e1 e2
  refine ⟨HAt.drew ?_, (e3.trans f3).drew⟩
  rw [show swapL H a b ha hb = (H.set a H[b]).set b H[a] from rfl]
  exact ⟨h.1, _, f1, f2⟩
/-- What Less answers, called on the variable. -/
theorem HAt.less {base B : Nat} {w : World} {H : List Hd} (h : HAt base w B H) {a b : Nat} (ha : a < H.length) (hb : b < H.length) : ∃ v, (∀ k, (method (k + 1) 41 (.pointer (some ⟨B, 0, none⟩)) "Less").run Try.prog w = .ok (42, v) w) ∧
    Calls Try.prog 42 #[v, .int .i64 (a : Int), .int .i64 (b : Int)] w fun e w' => e = .returned (.bool (decide (H[a].1 < H[b].1))) ∧ Below w.heap.size w w' := by
  obtain ⟨g, c, q1, q2, q3, q4, q5, x1, x2, x3⟩ := h.at_ ha
  obtain ⟨g', c', q1', _, _, _, _, y1, y2, y3⟩ := h.at_ hb
  rw [q1] at q1'
  simp only [Option.some.injEq, Obj.cells.injEq, Array.mk.injEq, List.cons.injEq, Value.slice.injEq, Addr.mk.injEq, true_and, and_true] at q1'
  obtain ⟨rfl, rfl⟩ := q1'
  exact ⟨_, meth_less B _ w (cell_of_one q1), heads_Less g _ c a b _ _ w ha hb ⟨q3, q4⟩ x1 y1⟩
theorem HAt.swaps {base B : Nat} {w : World} {H : List Hd} (h : HAt base w B H) {a b : Nat} (ha : a < H.length) (hb : b < H.length) : ∃ v, (∀ k, (method (k + 1) 41 (.pointer (some ⟨B, 0, none⟩)) "Swap").run Try.prog w = .ok (43, v) w) ∧
    Calls Try.prog 43 #[v, .int .i64 (a : Int), .int .i64 (b : Int)] w fun e w' => (∃ v, e = .returned v) ∧ HAt base w' B (swapL H a b ha hb) ∧ MildH base w w' := by
  obtain ⟨g, c, q1, q2, q3, q4, q5, x1, x2, x3⟩ := h.at_ ha
  obtain ⟨g', c', q1', _, _, _, _, y1, y2, y3⟩ := h.at_ hb
  rw [q1] at q1'
  simp only [Option.some.injEq, Obj.cells.injEq, Array.mk.injEq, List.cons.injEq, Value.slice.injEq, Addr.mk.injEq, true_and, and_true] at q1'
  obtain ⟨rfl, rfl⟩ := q1'
  refine ⟨_, meth_swap B _ w (cell_of_one q1), (heads_Swap g _ c a b _ _ _ _ _ _ w ha hb ⟨q3, q4⟩ x1 x2 x3 y1 y2 y3 q2.frozenAt).mono ?_⟩
  rintro e w' ⟨h1, rfl⟩
  exact ⟨h1, h.swap ha hb q1 q2 q5⟩
theorem HAt.len_ {base B : Nat} {w : World} {H : List Hd} (h : HAt base w B H) : ∃ v, (∀ k, (method (k + 1) 41 (.pointer (some ⟨B, 0, none⟩)) "Len").run Try.prog w = .ok (14, v) w) ∧
    Calls Try.prog 14 #[v] w fun e w' => e = .returned (.int .i64 (H.length : Int)) ∧ w' = w := by
  obtain ⟨A, c, h1, _⟩ := h.read
  exact ⟨_, meth_len B _ w h1, heads_Len A _ c w⟩
/-- What an interface of the variable calls. -/
abbrev ifH (B : Nat) : Value := .iface 41 (.pointer (some ⟨B, 0, none⟩))
/-- A heap again, of the same heads. -/
def HeapGot (base B : Nat) (l : List Hd) (w : World) (e : Ending) (w' : World) : Prop := (∃ v, e = .returned v) ∧ ∃ l', l'.Perm l ∧ HeapN hkey l' l'.length ∧ HAt base w' B l' ∧ MildH base w w'
def UpRel (base B : Nat) (l : List Hd) (w : World) (v1 : Value) (wr : World) : Prop := ∃ (j : Nat) (l' : List Hd), v1 = .int .i64 (j : Int) ∧ j < l'.length ∧ l'.Perm l ∧ HeapUp hkey l' j ∧ HAt base wr B l' ∧ MildH base w wr
end Go.Proofs.Ytpehcaidjlemiaa
