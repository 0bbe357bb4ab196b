/- What package word's Less answers: whether a term's key comes ahead of another one's. -/
import Derived.Test.YtagcaebmboikbaaTerm02
import Derived.Deep.RegionHeld3
namespace Go.Proofs.Ytagcaebmboikbaa
open Go Go.RowKit
set_option linter.unusedVariables false

/-- Two variables of terms, and what lies in them. -/
def Boxes (B C : Nat) (x y u v : ByteArray) (w : World) : Prop :=
  w.heap[B]? = some (.cells #[.string x, .string y] 37 (0, 0)) ∧ w.heap[C]? = some (.cells #[.string u, .string v] 37 (0, 0))
theorem Boxes.keep {B C : Nat} {x y u v : ByteArray} {w w' : World} (h : Boxes B C x y u v w) (hb : Below w.heap.size w w') : Boxes B C x y u v w' :=
  ⟨(hb.block B (lt_of_block h.1)).trans h.1, (hb.block C (lt_of_block h.2)).trans h.2⟩
/-- The same, and that nothing has turned that was there in the world a. -/
def Boxed (a : World) (B C : Nat) (x y u v : ByteArray) (w : World) : Prop := Boxes B C x y u v w ∧ Below a.heap.size a w
theorem keepBoxed {a : World} {B C : Nat} {x y u v : ByteArray} {w w1 w' : World} (h : Boxed a B C x y u v w) (hb : Below w1.heap.size w1 w') (hw : Below w.heap.size w w1 := by first | exact Below.refl _ _ | exact (Below.refl _ _).drew) : Boxed a B C x y u v w' :=
  have hb2 := hw.trans (hb.mono hw.size)
  ⟨h.1.keep hb2, h.2.trans (hb2.mono h.2.size)⟩
theorem Boxes.cells {B C : Nat} {x y u v : ByteArray} {w : World} (h : Boxes B C x y u v w) :
    w.cell? ⟨B, 0, none⟩ = some (.string x) ∧ w.cell? ⟨B, 1, none⟩ = some (.string y) ∧ w.cell? ⟨C, 0, none⟩ = some (.string u) ∧ w.cell? ⟨C, 1, none⟩ = some (.string v) :=
  ⟨(two_cells h.1).1, (two_cells h.1).2.1, (two_cells h.2).1, (two_cells h.2).2.1⟩
theorem boxes_new (w : World) (x y u v : ByteArray) : Boxes w.heap.size (w.heap.size + 1) x y u v ((w.alloc (.cells #[.string x, .string y] 37)).alloc (.cells #[.string u, .string v] 37)) := by
  refine ⟨(Below.heap_alloc _ _ _ (by simp)).trans (heap_alloc_new w _), ?_⟩
  have := heap_alloc_new (w.alloc (.cells #[.string x, .string y] 37)) (.cells #[.string u, .string v] 37)
  simpa using this

theorem Boxed.drew {a : World} {B C : Nat} {x y u v : ByteArray} {w : World} (h : Boxed a B C x y u v w) : Boxed a B C x y u v w.drew := ⟨h.1, h.2.drew⟩
theorem Boxed.set1 {a : World} {B C : Nat} {x y u v : ByteArray} {w : World} (h : Boxed a B C x y u v w) (x' y' : ByteArray) (hB : a.heap.size ≤ B) (hne : C ≠ B) : Boxed a B C x' y' u v ((w.setCell ⟨B, 0, none⟩ (.string x')).setCell ⟨B, 1, none⟩ (.string y')) :=
  ⟨⟨two_set h.1.1, (Below.heap_setCell _ _ _ _ hne).trans ((Below.heap_setCell _ _ _ _ hne).trans h.1.2)⟩, (h.2.setCell hB _).setCell hB _⟩
theorem Boxed.set2 {a : World} {B C : Nat} {x y u v : ByteArray} {w : World} (h : Boxed a B C x y u v w) (u' v' : ByteArray) (hC : a.heap.size ≤ C) (hne : B ≠ C) : Boxed a B C x y u' v' ((w.setCell ⟨C, 0, none⟩ (.string u')).setCell ⟨C, 1, none⟩ (.string v')) :=
  ⟨⟨(Below.heap_setCell _ _ _ _ hne).trans ((Below.heap_setCell _ _ _ _ hne).trans h.1.1), two_set h.1.2⟩, (h.2.setCell hC _).setCell hC _⟩
theorem Boxed.all {a : World} {B C : Nat} {x y u v : ByteArray} {w : World} (h : Boxed a B C x y u v w) :
    (w.cell? ⟨B, 0, none⟩ = some (.string x) ∧ w.cell? ⟨B, 1, none⟩ = some (.string y) ∧ w.cell? ⟨C, 0, none⟩ = some (.string u) ∧ w.cell? ⟨C, 1, none⟩ = some (.string v)) ∧
      w.frozen? ⟨B, 0, none⟩ = false ∧ w.frozen? ⟨B, 1, none⟩ = false ∧ w.frozen? ⟨C, 0, none⟩ = false ∧ w.frozen? ⟨C, 1, none⟩ = false :=
  ⟨h.1.cells, (two_cells h.1.1).2.2.1, (two_cells h.1.1).2.2.2, (two_cells h.1.2).2.2.1, (two_cells h.1.2).2.2.2⟩

set_option maxHeartbeats 2000000 in
set_option maxRecDepth 100000 in
theorem word_Less (x y u v : ByteArray) (w : World) (hx : x.size ≤ 1073741824) (hy : y.size ≤ 1073741824) (hu : u.size ≤ 1073741824) (hv : v.size ≤ 1073741824) :
    Calls Try.prog 21 #[.agg #[.string x, .string y], .agg #[.string u, .string v]] w fun e w' => e = .returned (.bool (Op.bytesLess (keyB x y).toList (keyB u v).toList)) ∧ Below w.heap.size w w' := by
  have hbx0 := boxes_new w x y u v
  obtain ⟨w0, hw0⟩ : ∃ w0, w0 = (w.alloc (.cells #[.string x, .string y] 37)).alloc (.cells #[.string u, .string v] 37) := ⟨_, rfl⟩
  have hb0 : Below w.heap.size w w0 := by rw [hw0]; exact ((Below.refl _ _).alloc (Nat.le_refl _) _).alloc (by simp) _
  rw [← hw0] at hbx0
  have hbx : Boxed w w.heap.size (w.heap.size + 1) x y u v w0 := ⟨hbx0, hb0⟩
  obtain ⟨d0, d1, d2, d3⟩ := hbx0.cells
  clear hbx0
  have HW := Lib.hid hw0
  go_enter Try.func21, Try.ntmps21
  go_wp2
  rw [← hw0]
  clear hw0
  go_region_held3 (fun w' => w'.cell? ⟨w.heap.size, 0, none⟩ = some (.string x) ∧ w'.cell? ⟨w.heap.size, 1, none⟩ = some (.string y) ∧ w'.cell? ⟨w.heap.size + 1, 0, none⟩ = some (.string u) ∧ w'.cell? ⟨w.heap.size + 1, 1, none⟩ = some (.string v))
    (first | go_keep | exact hbx.1.cells)
    (first
      | (go_at_call 19; (with_reducible refine (word_Key x y _ hx hy).mono ?_); rintro e w2 ⟨rfl, hb2⟩; have hbx := keepBoxed hbx hb2)
      | (go_at_call 19; (with_reducible refine (word_Key u v _ hu hv).mono ?_); rintro e w2 ⟨rfl, hb2⟩; have hbx := keepBoxed hbx hb2))
  go_wp2
  go_ret
  exact ⟨rfl, hbx.2⟩
end Go.Proofs.Ytagcaebmboikbaa
