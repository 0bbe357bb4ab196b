/- Texts laid together: VarQ12. -/
import Derived.Test.YtolfkhflbjnakaaGreatDoorNAQ08

/- Queries in variables, and queries made of them. -/
set_option linter.unusedVariables false
namespace Go.Proofs.YtolfkhflbjnakaaGreatDoor
open Go Go.RowKit

/-- A query in a variable of its own. -/
def VQ (w : World) (B : Nat) (q : Qy) (k : Int) (f x : ByteArray) (A : Option Addr) (n c : Nat) (K : Option Addr) (m d : Nat) : Prop :=
  w.heap[B]? = some (.cells #[.int .i64 k, .string f, .string x, .slice A n c, .slice K m d] 27 (0, 0)) ∧ QIn w q (qV k f x A n c K m d)
section
variable {w w' : World} {B g : Nat} {q a b : Qy} {k k1 k2 : Int} {f f2 x x2 : ByteArray} {A A2 : Option Addr} {n n2 c c2 : Nat} {K K2 : Option Addr} {m m2 d d2 : Nat}
theorem VQ.later (h : VQ w B q k f x A n c K m d) (hb : Below w.heap.size w w') : VQ w' B q k f x A n c K m d := ⟨(hb.block B (Array.getElem?_eq_some_iff.1 h.1).1).trans h.1, h.2.later hb⟩
theorem VQ.cells (h : VQ w B q k f x A n c K m d) : w.cell? ⟨B, 0, none⟩ = some (.int .i64 k) ∧ w.cell? ⟨B, 1, none⟩ = some (.string f) ∧ w.cell? ⟨B, 2, none⟩ = some (.string x) ∧ w.cell? ⟨B, 3, none⟩ = some (.slice A n c) ∧ w.cell? ⟨B, 4, none⟩ = some (.slice K m d) := (five_cells h.1).1
theorem VQ.made (h : QIn w q (qV k f x A n c K m d)) : VQ (boxQ w k f x A n c K m d) w.heap.size q k f x A n c K m d := ⟨heap_alloc_new _ _, h.later boxQ_below⟩
theorem VQ.in_ (h : VQ w B q k f x A n c K m d) : QIn w q (qV k f x A n c K m d) := h.2
/-- Not of one, in a variable. -/
theorem VQ.not (h : QIn w a (qV k f x A n c K m d)) : Below w.heap.size w (boxQ (boxQ w k f x A n c K m d) 4 ⟨#[]⟩ ⟨#[]⟩ none 0 0 (some ⟨w.heap.size, 0, none⟩) 1 1) ∧
    VQ (boxQ (boxQ w k f x A n c K m d) 4 ⟨#[]⟩ ⟨#[]⟩ none 0 0 (some ⟨w.heap.size, 0, none⟩) 1 1) (w.heap.size + 1) (notQ a) 4 ⟨#[]⟩ ⟨#[]⟩ none 0 0 (some ⟨w.heap.size, 0, none⟩) 1 1 := by
  have h1 : QIn (boxQ w k f x A n c K m d) (notQ a) (qV 4 ⟨#[]⟩ ⟨#[]⟩ none 0 0 (some ⟨w.heap.size, 0, none⟩) 1 1) :=
    not_val h (fun b hb => boxQ_below.block b hb) (fun b hb => by rw [boxQ_size]; omega) (by show _ < _; rw [boxQ_size]; omega) (heap_alloc_new _ _)
  have h2 := VQ.made h1
  rw [boxQ_size] at h2
  exact ⟨boxQ_below.trans (boxQ_below.mono (by rw [boxQ_size]; omega)), h2⟩
/-- Two in a row. -/
abbrev two10 (k : Int) (f x : ByteArray) (A : Option Addr) (n c : Nat) (K : Option Addr) (m d : Nat) (k2 : Int) (f2 x2 : ByteArray) (A2 : Option Addr) (n2 c2 : Nat) (K2 : Option Addr) (m2 d2 : Nat) : Obj :=
  .cells #[.int .i64 k, .string f, .string x, .slice A n c, .slice K m d, .int .i64 k2, .string f2, .string x2, .slice A2 n2 c2, .slice K2 m2 d2] 27
theorem QV.at_ {p : Nat → Prop} (h : QV p w q (qV k f x A n c K m d)) : QAt p w q (qC k f x A n c K m d) := by
  obtain ⟨k1, f1, x1, A1, n1, c1, K1, m1, d1, e, h⟩ := h
  injection e with e
  simp only [Array.mk.injEq, List.cons.injEq, Value.int.injEq, true_and, Value.string.injEq, Value.slice.injEq, and_true] at e
  obtain ⟨rfl, rfl, rfl, ⟨rfl, rfl, rfl⟩, rfl, rfl, rfl⟩ := e
  exact h
theorem VQ.two (k3 : Int) (ha : QIn w a (qV k f x A n c K m d)) (hb : QIn w b (qV k2 f2 x2 A2 n2 c2 K2 m2 d2)) :
    Below w.heap.size w (boxQ (w.alloc (two10 k f x A n c K m d k2 f2 x2 A2 n2 c2 K2 m2 d2)) k3 ⟨#[]⟩ ⟨#[]⟩ none 0 0 (some ⟨w.heap.size, 0, none⟩) 2 2) ∧
    VQ (boxQ (w.alloc (two10 k f x A n c K m d k2 f2 x2 A2 n2 c2 K2 m2 d2)) k3 ⟨#[]⟩ ⟨#[]⟩ none 0 0 (some ⟨w.heap.size, 0, none⟩) 2 2) (w.heap.size + 1) (.mk k3 ([], []) [] [a, b]) k3 ⟨#[]⟩ ⟨#[]⟩ none 0 0 (some ⟨w.heap.size, 0, none⟩) 2 2 := by
  obtain ⟨w1, hw1⟩ : ∃ w1, w1 = w.alloc (two10 k f x A n c K m d k2 f2 x2 A2 n2 c2 K2 m2 d2) := ⟨_, rfl⟩
  have hs : w1.heap.size = w.heap.size + 1 := by rw [hw1]; simp
  have hb1 : Below w.heap.size w w1 := by rw [hw1]; exact (Below.refl _ _).alloc (Nat.le_refl _) _
  have hc : w1.heap[w.heap.size]? = some (two10 k f x A n c K m d k2 f2 x2 A2 n2 c2 K2 m2 d2) := by rw [hw1]; exact heap_alloc_new _ _
  have h1 : QIn w1 (.mk k3 ([], []) [] [a, b]) (qV k3 ⟨#[]⟩ ⟨#[]⟩ none 0 0 (some ⟨w.heap.size, 0, none⟩) 2 2) := by
    refine QV.mk (ds := qC k f x A n c K m d ++ qC k2 f2 x2 A2 n2 c2 K2 m2 d2) rfl rfl rfl rfl (Nat.le_refl _) (Nat.le_refl _) (.inl rfl) (.inr ⟨w.heap.size, 0, rfl, by show _ < _; rw [hs]; omega, fun j u hu => ?_⟩) ?_
    · have := news_at w (qC k f x A n c K m d ++ qC k2 f2 x2 A2 n2 c2 K2 m2 d2) 27 j u hu
      rw [Addr.add_lit] at this
      rw [hw1]
      exact this
    · rw [QsAt]
      refine ⟨_, _, rfl, ?_, ?_⟩
      · exact (QV.at_ (ha.later hb1))
      · rw [QsAt]
        exact ⟨_, [], by simp, QV.at_ (hb.later hb1), QsAt.nil⟩
  have h2 := VQ.made h1
  rw [hs] at h2
  rw [← hw1]
  exact ⟨hb1.trans (boxQ_below.mono hb1.size), h2⟩
end
end Go.Proofs.YtolfkhflbjnakaaGreatDoor
