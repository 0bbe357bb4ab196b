/- A variable that leads to a row of the call's own, of things of any size: what an append onto it turns. No program. -/
import Derived.Test.YtldcadpemnpbmaaVars
import Derived.Test.YtldcadpemnpbmaaFirm
set_option linter.unusedVariables false
namespace Go.Proofs.Ytldcadpemnpbmaa
open Go Go.RowKit

/-- The variable at block B leads to a row of the call's own. -/
def VarOf (T E : TypeId) (z base B n : Nat) (xs : List Value) (w : World) : Prop := ∃ v, w.heap[B]? = some (.cells #[v] T (0, 0)) ∧ w.ownsRow base E z v n xs
section
variable {T E : TypeId} {z base B n m : Nat} {xs ys : List Value} {v v' : Value} {w w' w0 w1 : World}
theorem VarOf.below (h : VarOf T E z base B n xs w) (hb : Below w.heap.size w w') : VarOf T E z base B n xs w' := by
  obtain ⟨v, hv, hown⟩ := h
  exact ⟨v, (hb.block B (lt_of_block hv)).trans hv, owned_below hown hb⟩
theorem VarOf.lt (h : VarOf T E z base B n xs w) : B < w.heap.size := by obtain ⟨v, hv, _⟩ := h; exact lt_of_block hv
theorem Firm.varOf (N : Nat) : Firm N (fun W => VarOf T E z base B n xs W) := fun W l o o' _ ho hc ⟨v, h1, h2⟩ => by
  have hB : B ≠ l := fun e => by subst e; rw [h1] at ho; injection ho with ho; rw [← ho] at hc; cases hc
  refine ⟨v, (World.putObj_heap_other hB).trans h1, owned_keep h2 fun g hg => World.putObj_heap_other fun e => ?_⟩
  subst e
  rcases h2.2 with ⟨rfl, _⟩ | ⟨g', cap, cur, rfl, _, hh, _⟩
  · cases hg
  · simp only [Value.ownBlock, Option.some.injEq] at hg
    subst hg
    rw [hh] at ho
    injection ho with ho
    rw [← ho] at hc
    cases hc
theorem var_push (hTE : T ≠ E) (hv : w.heap[B]? = some (.cells #[v] T (0, 0))) (hown : w.ownsRow base E z v n xs) (hbB : base ≤ B) (hs : base ≤ w.heap.size) (hb : Below w.heap.size w w0) (hg : w0.grownBy w1 v.ownBlock) (hown1 : w1.ownsRow base E z v' m ys) :
    (w1.cell? ⟨B, 0, none⟩ = some v ∧ w1.frozen? ⟨B, 0, none⟩ = false) ∧ VarOf T E z base B m ys (w1.setCell ⟨B, 0, none⟩ v') ∧ Below base w (w1.setCell ⟨B, 0, none⟩ v') ∧ KeepsOthers w (w1.setCell ⟨B, 0, none⟩ v') ∧
      ∀ (k : Nat) (cs : Array Value) (t : TypeId) (fr : Nat × Nat), w.heap[k]? = some (.cells cs t fr) → t ≠ T → t ≠ E → (w1.setCell ⟨B, 0, none⟩ v').heap[k]? = some (.cells cs t fr) := by
  have hBlt := lt_of_block hv
  have hne : v.ownBlock ≠ some B := owned_apart hown hv hTE
  have hv1 : w1.heap[B]? = some (.cells #[v] T (0, 0)) := (hg.block B (by have := hb.size; omega) (fun e => hne e.symm)).trans ((hb.block B hBlt).trans hv)
  have hne' : v'.ownBlock ≠ some B := owned_apart hown1 hv1 hTE
  refine ⟨⟨cell_of_one hv1, free_of_one hv1⟩, ⟨v', one_setCell hv1, ownsRow_setCell_other hown1 hne' v'⟩, ?_, ?_, fun k cs t fr hk h1 h2 => ?_⟩
  · exact ((hb.mono hs).grown hg (Nat.le_trans hs hb.size) (fun k e => (hown.lt k e).1)).setCell hbB _
  · refine (KeepsOthers.trans (⟨hb.size, fun q o hq _ => (hb.block q (Array.getElem?_eq_some_iff.1 hq).1).trans hq⟩ : KeepsOthers w w0) (KeepsOthers.of_grownBy hg fun j o ej hj => ?_)).trans (KeepsOthers.setCell _ _ _)
    rcases hown.2 with ⟨rfl, _⟩ | ⟨g', cap, cur, rfl, _, hh, _⟩
    · cases ej
    · simp only [Value.ownBlock, Option.some.injEq] at ej
      subst ej
      rw [hb.block _ (Array.getElem?_eq_some_iff.1 hh).1, hh] at hj
      injection hj with hj
      subst hj
      rfl
  · have h3 : k ≠ B := by rintro rfl; rw [hk] at hv; simp at hv; exact h1 hv.2.1
    rw [Below.heap_setCell _ _ _ _ h3, hg.block k (by have := hb.size; have := lt_of_block hk; omega) (fun e => owned_apart hown hk h2 e.symm), hb.block k (lt_of_block hk), hk]
end
end Go.Proofs.Ytldcadpemnpbmaa
