/- Small facts for the walks of the laws: arguments that stay, texts that are joined, numbers made from 0 on. No program. -/
import Derived.Test.YtldcadpemnpbmaaRow04
import Derived.Test.YtldcadpemnpbmaaNat
import Derived.Deep.RegionLaw
import Derived.Deep.CutRange
namespace Go.Proofs.Ytldcadpemnpbmaa
open Go Go.RowKit
set_option linter.unusedVariables false

theorem InRow.below {k : IntKind} {w w' : World} {a : Option Addr} {len cap : Nat} {zs : List Int} (h : InRow k w a len cap zs) (hb : Below w.heap.size w w') : InRow k w' a len cap zs :=
  ⟨h.1, h.2.1, h.2.2.1, (h.2.2.2.1.below hb).more hb.size, h.2.2.2.2⟩
theorem Own.room {base : Nat} {w : World} {v : Value} {bs : List UInt8} (h : Own base w v bs) : ∃ A c, v = .slice A bs.length c ∧ bs.length ≤ c ∧ c ≤ maxLen ∧ Row w w.heap.size A (Lib.byteCells bs) := by
  obtain ⟨A, c, rfl, h1, h2⟩ := h.row
  refine ⟨A, c, rfl, h1, ?_, h2⟩
  rcases h.2 with ⟨h3, _⟩ | ⟨g, cap, cur, h3, _, _, _, h4, _⟩
  · injection h3 with _ _ h3; omega
  · injection h3 with _ _ h3; rw [h3]; exact h4

theorem goodZ_drop {l : List Int} {k : Nat} (hk : k < l.length) (x : Int) {g : Nat} (hneg : l.getD k 0 < 0 → -(l.getD k 0 + 1) = (g : Int)) (hpos : ¬ l.getD k 0 < 0 → l.getD k 0 = (g : Int)) :
    goodZ x (l.drop k) = (x + 1 + (g : Int) % 1000) :: goodZ (x + 1 + (g : Int) % 1000) (l.drop (k + 1)) := by
  have e : (if l.getD k 0 < 0 then -(l.getD k 0 + 1) else l.getD k 0) = (g : Int) := by
    split
    · exact hneg (by assumption)
    · exact hpos (by assumption)
  have e2 : l[k] = l.getD k 0 := by rw [List.getD_eq_getElem?_getD, List.getElem?_eq_getElem hk]; rfl
  rw [List.drop_eq_getElem_cons hk, goodZ, e2, e]
theorem goodZ_end {l : List Int} {k : Nat} (hk : l.length ≤ k) (x : Int) : goodZ x (l.drop k) = [] := by rw [List.drop_eq_nil_of_le hk]; rfl

end Go.Proofs.Ytldcadpemnpbmaa
