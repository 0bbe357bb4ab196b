/- How New makes a cursor. -/
import Derived.Test.YtnmnbckaccicaaaCurAt06
import Derived.Laws.Rows
set_option linter.unusedVariables false
namespace Go.Proofs.Ytnmnbckaccicaaa
open Go Go.RowKit

set_option maxHeartbeats 1000000 in
set_option maxRecDepth 100000 in
theorem cur_New {fu : Prop × Nat} (base B : Nat) (g : List Po) (w : World) (h : LAt w base B (bytesP (-1) g) g) (hg : GoodG g) (hfu : fu.2 ≤ w.heap.size) :
    Calls Try.prog 10 #[.pointer (some ⟨B, 0, none⟩)] w fun e w' => ∃ C, e = .returned (.pointer (some ⟨C, 0, none⟩)) ∧ w.heap.size ≤ C ∧ CAt fu C g (-1) w' ∧ Below w.heap.size w w' := by
  obtain ⟨vb, ve, hb, hl⟩ := ListN.of_at h
  obtain ⟨⟨c0, c1, c2, c3⟩, _⟩ := cell_four hb
  have HL := Lib.hid hl
  clear h hl
  go_enter Try.func10, Try.ntmps10
  go_wp2
  go_ret
  have hal : Below w.heap.size w (w.alloc (.cells #[vb, ve, .int .i64 (g.length : Int), .int .i64 (totalP g : Int), .slice none 0 0, .int .i64 0, .bool false, .int .i64 0] 68)) := (Below.refl _ w).alloc (Nat.le_refl _) _
  refine ⟨w.heap.size, rfl, Nat.le_refl _, ⟨vb, ve, none, 0, 0, false, 0, [], heap_alloc_new w _, HL.out.only (S := fun _ => False) (OnlyIn.of_below hal) (fun D hD => hD.elim), .inl ⟨rfl, rfl, rfl, rfl⟩, Nat.le_refl _, Nat.zero_le _, PostsN.nil (Nat.le_trans hfu hal.size), hg⟩, hal⟩
end Go.Proofs.Ytnmnbckaccicaaa
