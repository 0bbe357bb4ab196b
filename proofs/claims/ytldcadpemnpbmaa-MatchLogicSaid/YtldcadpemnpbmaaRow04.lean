/- Rising numbers from a place on, and a row of ints. No program. -/
import Derived.Test.YtldcadpemnpbmaaBytes04
set_option linter.unusedVariables false
namespace Go.Proofs.Ytldcadpemnpbmaa
open Go Go.RowKit

/-- The number ahead of place k: -1 ahead of the first. -/
def ahead (l : List Int) (k : Nat) : Int := if k = 0 then -1 else l.getD (k - 1) 0

theorem ahead_succ {l : List Int} {k : Nat} : ahead l (k + 1) = l.getD k 0 := by simp [ahead]
theorem risesZ_drop {l : List Int} {k : Nat} (hk : k < l.length) (last : Int) : risesZ last (l.drop k) = (decide (last < l.getD k 0) && risesZ (l.getD k 0) (l.drop (k + 1))) := by
  rw [List.drop_eq_getElem_cons hk, risesZ, List.getD_eq_getElem?_getD, List.getElem?_eq_getElem hk]
  rfl
theorem risesZ_end {l : List Int} {k : Nat} (hk : l.length ≤ k) (last : Int) : risesZ last (l.drop k) = true := by rw [List.drop_eq_nil_of_le hk]; rfl
theorem row_int' {w : World} {B : Nat} {A : Option Addr} {xs : List Int} (h : Row w B A (ints xs)) {k : Nat} (hk : k < xs.length) :
    ∃ b off, A = some ⟨b, off, none⟩ ∧ b < B ∧ w.cell? ⟨b, off + k, none⟩ = some (.int .i64 (xs.getD k 0)) := by
  obtain ⟨b, off, h1, h2, h3⟩ := row_int h hk
  refine ⟨b, off, h1, h2, ?_⟩
  rw [h3, List.getD_eq_getElem?_getD, List.getElem?_eq_getElem hk]
  rfl
theorem dB_drop {l : List Int} {k : Nat} (hk : k < l.length) (last : Int) : dB last (l.drop k) = putB (l.getD k 0 - (last + 1)).toNat ++ dB (l.getD k 0) (l.drop (k + 1)) := by
  rw [List.drop_eq_getElem_cons hk, dB, List.getD_eq_getElem?_getD, List.getElem?_eq_getElem hk]
  rfl
theorem dB_end {l : List Int} {k : Nat} (hk : l.length ≤ k) (last : Int) : dB last (l.drop k) = [] := by rw [List.drop_eq_nil_of_le hk]; rfl
end Go.Proofs.Ytldcadpemnpbmaa
