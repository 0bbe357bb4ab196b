/- Ints in a row of memory. No program but the number of the type int. -/
import Derived.Test.YtldcadpemnpbmaaProg
import Derived.Test.YtldcadpemnpbmaaBase
set_option linter.unusedVariables false
namespace Go.Proofs.Ytldcadpemnpbmaa
open Go Go.RowKit

def ints (l : List Int) : List Value := l.map (Value.int .i64)
theorem ints_length (l : List Int) : (ints l).length = l.length := by simp [ints]
theorem info_int : (Try.prog.info? 3).map (fun i => (i.zero, i.size, i.bytes)) = some (some (.int .i64 0), 1, 8) := by kernel_rfl
theorem row_int {w : World} {B : Nat} {A : Option Addr} {xs : List Int} (h : Row w B A (ints xs)) {k : Nat} (hk : k < xs.length) :
    ∃ b off, A = some ⟨b, off, none⟩ ∧ b < B ∧ w.cell? ⟨b, off + k, none⟩ = some (.int .i64 xs[k]) := by
  obtain ⟨b, off, rfl, hb, hc⟩ := h.at_ (by rw [ints_length]; omega)
  refine ⟨b, off, rfl, hb, hc k _ ?_⟩
  simp [ints, hk]
end Go.Proofs.Ytldcadpemnpbmaa
