/- Small facts for the walks of the laws: numbers made from 0 on, texts that are joined. No program. -/
import Derived.Test.YtldcadpemnpbmaaBase
namespace Go.Proofs.Ytldcadpemnpbmaa
open Go Go.RowKit
set_option linter.unusedVariables false

theorem wf_bd {a : Int} (h : (Lit.int .i64 a).wf = true) : -9223372036854775808 ≤ a ∧ a ≤ 9223372036854775807 := by
  have e1 : IntKind.i64.min = -9223372036854775808 := rfl
  have e2 : IntKind.i64.max = 9223372036854775807 := rfl
  simp [Lit.wf] at h
  omega
/-- A number, made one from 0 on. -/
theorem made_nat {a : Int} (h : -9223372036854775808 ≤ a ∧ a ≤ 9223372036854775807) : ∃ n : Nat, n < 9223372036854775808 ∧ (a < 0 → -(a + 1) = (n : Int)) ∧ (¬ a < 0 → a = (n : Int)) :=
  ⟨(if a < 0 then -(a + 1) else a).toNat, by split <;> omega, fun h0 => by rw [if_pos h0]; omega, fun h0 => by rw [if_neg h0]; omega⟩
theorem str_cat (a b : List UInt8) : (⟨a.toArray⟩ : ByteArray) ++ ⟨b.toArray⟩ = ⟨(a ++ b).toArray⟩ := by
  apply ByteArray.ext
  simp
theorem str_size (a : List UInt8) : (⟨a.toArray⟩ : ByteArray).size = a.length := by simp [ByteArray.size]
end Go.Proofs.Ytldcadpemnpbmaa
