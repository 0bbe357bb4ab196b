/- The document's example. -/
import Derived.Test.YtldcadpemnpbmaaOps13
import Derived.Test.YtldcadpemnpbmaaSideF13
import Derived.Deep.RegionHeld3
set_option linter.unusedVariables false
namespace Go.Proofs.Ytldcadpemnpbmaa
open Go Go.RowKit

theorem lives_and : andF [(1, 2), (3, 1)] [(3, 4)] = [(3, 5)] := by
  have h1 : RiseF [(1, 2), (3, 1)] := by unfold RiseF; simp
  have h2 : RiseF [(3, 4)] := by unfold RiseF; simp
  have h3 : RiseF [(3, 5)] := by unfold RiseF; simp
  refine sc_ext (kept_rise _ h1 h2) h3 fun d => ?_
  rw [andF, kept_sc _ h1 h2]
  simp only [scF]
  by_cases e1 : 1 = d
  · subst e1; rfl
  · by_cases e3 : 3 = d
    · subst e3; rfl
    · simp [e1, e3, bothF]
theorem lives_side : sideF [[0, 4], [1]] = 1 := by decide

set_option maxHeartbeats 4000000 in
set_option maxRecDepth 100000 in
theorem law13_lives (w : World) : Calls Try.prog 14 #[] w fun e w' => e = .returned (.bool true) ∧ Below w.heap.size w w' := by
  obtain ⟨w1, hw1⟩ : ∃ w1, w1 = (w.alloc (.cells #[.int .i64 1, .int .i64 2, .int .i64 3, .int .i64 1] 36)).alloc (.cells #[.int .i64 3, .int .i64 4] 36) := ⟨_, rfl⟩
  have hb1 : Below w.heap.size w w1 := by rw [hw1]; exact ((Below.refl _ w).alloc (Nat.le_refl _) _).alloc (by simp) _
  have h0 : w1.heap[w.heap.size]? = some (.cells #[.int .i64 1, .int .i64 2, .int .i64 3, .int .i64 1] 36 (0, 0)) := by rw [hw1]; exact (Below.heap_alloc _ _ _ (by simp)).trans (heap_alloc_new w _)
  have h1 : w1.heap[w.heap.size + 1]? = some (.cells #[.int .i64 3, .int .i64 4] 36 (0, 0)) := by rw [hw1]; exact heap_alloc2_new _ _ _
  have hA : InFo w1 (.slice (some ⟨w.heap.size, 0, none⟩) 2 2) [(1, 2), (3, 1)] := ⟨_, _, rfl, by simp, by unfold maxLen; omega, .inr ⟨_, _, rfl, lt_of_block h0, fun j u hu => by
    rw [cell_of_row _ _ _ _ _ _ h0]
    simpa [foC] using hu⟩⟩
  have hB : InFo w1 (.slice (some ⟨w.heap.size + 1, 0, none⟩) 1 1) [(3, 4)] := ⟨_, _, rfl, by simp, by unfold maxLen; omega, .inr ⟨_, _, rfl, lt_of_block h1, fun j u hu => by
    rw [cell_of_row _ _ _ _ _ _ h1]
    simpa [foC] using hu⟩⟩
  have CA := Lib.hid (match_And _ _ _ _ w1 hA hB ⟨by simp, by intro x hx; simp at hx; rcases hx with rfl | rfl <;> simp⟩ ⟨by simp, by intro x hx; simp at hx; subst hx; simp⟩)
  rw [lives_and] at CA
  have HB1 := Lib.hid hb1
  have HW1 := Lib.hid hw1
  clear hA hB hb1 hw1 h0 h1
  go_enter Try.func14, Try.ntmps14
  go_wp2_with (go_at_call 8; rw [← HW1.out]; refine CA.out.mono ?_)
  rintro e w2 ⟨v, rfl, ho, hb2⟩
  have hrow := ho
  obtain ⟨A, c, rfl, -, hr⟩ := owned_row hrow
  obtain ⟨b1, o1, rfl, hlt, p0, p1, -⟩ := FoRow.cons hr
  have HB2 := Lib.hid (HB1.out.trans (hb2.mono HB1.out.size))
  clear hb2 ho hrow hr
  simp only [List.length_singleton] at p0 p1 ⊢
  have p0 : w2.cell? ⟨b1, o1, none⟩ = some (.int .i64 3) := p0
  have hz2 : w2.heap.size = w2.heap.size := rfl
  obtain ⟨w3, hw3⟩ : ∃ w3, w3 = (w2.alloc (.cells #[.int .i64 0, .int .i64 4] 3)).alloc (.cells #[.int .i64 1] 3) := ⟨_, rfl⟩
  have e0 : w3.heap[w2.heap.size]? = some (.cells #[.int .i64 0, .int .i64 4] 3 (0, 0)) := by rw [hw3]; exact (Below.heap_alloc _ _ _ (by simp)).trans (heap_alloc_new w2 _)
  have e1 : w3.heap[w2.heap.size + 1]? = some (.cells #[.int .i64 1] 3 (0, 0)) := by rw [hw3]; exact heap_alloc2_new _ _ _
  have hb3 : Below w2.heap.size w2 w3 := by rw [hw3]; exact ((Below.refl _ w2).alloc (Nat.le_refl _) _).alloc (by simp) _
  have hs3 : w3.heap.size = w2.heap.size + 2 := by rw [hw3]; simp
  obtain ⟨w4, hw4⟩ : ∃ w4, w4 = w3.alloc (.cells #[.slice (some ⟨w2.heap.size, 0, none⟩) 2 2, .slice (some ⟨w2.heap.size + 1, 0, none⟩) 1 1] 31) := ⟨_, rfl⟩
  have hb4 : Below w3.heap.size w3 w4 := by rw [hw4]; exact (Below.refl _ _).alloc (Nat.le_refl _) _
  have f2 : w4.heap[w3.heap.size]? = some (.cells #[.slice (some ⟨w2.heap.size, 0, none⟩) 2 2, .slice (some ⟨w2.heap.size + 1, 0, none⟩) 1 1] 31 (0, 0)) := by rw [hw4]; exact heap_alloc_new w3 _
  have f0 := (hb4.block _ (lt_of_block e0)).trans e0
  have f1 := (hb4.block _ (lt_of_block e1)).trans e1
  have hlis : Lis w4 w4.heap.size (some ⟨w3.heap.size, 0, none⟩) [[0, 4], [1]] := by
    refine ⟨[.slice (some ⟨w2.heap.size, 0, none⟩) 2 2, .slice (some ⟨w2.heap.size + 1, 0, none⟩) 1 1], ⟨rfl, fun i hi => ?_⟩, .inr ⟨_, _, rfl, lt_of_block f2, fun j u hu => by rw [cell_of_row _ _ _ _ _ _ f2]; simpa using hu⟩⟩
    match i, hi with
    | 0, _ => exact ⟨_, 2, rfl, .inr ⟨_, _, rfl, lt_of_block f0, fun j u hu => by rw [cell_of_row _ _ _ _ _ _ f0]; simpa [ints] using hu⟩⟩
    | 1, _ => exact ⟨_, 1, rfl, .inr ⟨_, _, rfl, lt_of_block f1, fun j u hu => by rw [cell_of_row _ _ _ _ _ _ f1]; simpa [ints] using hu⟩⟩
  have CS := Lib.hid (match_Side (some ⟨w3.heap.size, 0, none⟩) 2 2 [[0, 4], [1]] w4 hlis rfl (Nat.le_refl _) (by intro s hs; simp at hs; rcases hs with rfl | rfl <;> simp) (by omega))
  rw [lives_side, hs3] at CS
  have HW4 : Hid (w4 = ((w2.alloc (.cells #[.int .i64 0, .int .i64 4] 3)).alloc (.cells #[.int .i64 1] 3)).alloc (.cells #[.slice (some ⟨w2.heap.size, 0, none⟩) 2 2, .slice (some ⟨w2.heap.size + 1, 0, none⟩) 1 1] 31)) := Lib.hid (by rw [hw4, hw3])
  have HB4 := Lib.hid (HB2.out.trans ((hb3.trans (hb4.mono hb3.size)).mono HB2.out.size))
  clear hz2 hw3 e0 e1 hb3 hs3 hw4 hb4 f0 f1 f2 hlis
  go_wp2_with (go_at_call 16; rw [← HW4.out]; refine CS.out.mono ?_; rintro e w5 ⟨rfl, hb5⟩)
  go_ret
  exact ⟨rfl, HB4.out.trans (hb5.mono HB4.out.size)⟩
end Go.Proofs.Ytldcadpemnpbmaa
