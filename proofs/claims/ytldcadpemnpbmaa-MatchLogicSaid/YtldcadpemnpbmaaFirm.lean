/- Things that stay while a range over a function keeps its books. No program. -/
import Derived.Test.YtldcadpemnpbmaaTold05
set_option linter.unusedVariables false
namespace Go.Proofs.Ytldcadpemnpbmaa
open Go Go.RowKit

theorem Firm.block {N k : Nat} (hk : k < N) (o : Obj) : Firm N (fun W => W.heap[k]? = some o) := fun W l u u' hl _ _ h => (World.putObj_heap_other (by omega)).trans h
theorem Firm.belowW {N n0 : Nat} {w0 : World} (hN : n0 ≤ N) : Firm N (fun W => Below n0 w0 W) := fun W l o o' hl ho _ h =>
  h.trans ((Below.refl n0 W).grown (grownBy_putObj' W l o') (by have := (Array.getElem?_eq_some_iff.1 ho).1; omega) (fun k e => by cases e; omega))
theorem Firm.and {N : Nat} {p q : World → Prop} (h : Firm N p) (k : Firm N q) : Firm N (fun W => p W ∧ q W) := fun W l o o' hl ho hc hp => ⟨h W l o o' hl ho hc hp.1, k W l o o' hl ho hc hp.2⟩
theorem Firm.pure {N : Nat} {p : Prop} : Firm N (fun _ => p) := fun _ _ _ _ _ _ _ h => h
end Go.Proofs.Ytldcadpemnpbmaa
