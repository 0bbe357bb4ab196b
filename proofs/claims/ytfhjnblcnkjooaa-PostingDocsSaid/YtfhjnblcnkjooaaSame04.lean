/- What the document's Same answers of two lists of ints: whether they are the same; nothing turns but draws. -/
import Derived.Test.YtfhjnblcnkjooaaBytes04
import Derived.BigQuiet
import Derived.Deep.QuietTactic
namespace Go.Proofs.Ytfhjnblcnkjooaa
open Go Go.RowKit
set_option linter.unusedVariables false

set_option maxHeartbeats 1000000 in
set_option maxRecDepth 100000 in
theorem ref_Same (A C : Option Addr) (c d : Nat) (xs : List Int) (w : World) (hx : Row w w.heap.size A (ints xs)) (hy : Row w w.heap.size C (ints xs)) (hxl : xs.length ≤ 1073741824) :
    Calls Try.prog 21 #[.slice A xs.length c, .slice C xs.length d] w fun e w' => e = .returned (.bool true) ∧ Below w.heap.size w w' := by
  have HX := Lib.hid hx
  have HY := Lib.hid hy
  clear hx hy
  go_enter Try.func21, Try.ntmps21
  go_wp2
  go_loopw [5] (fun i wr => ∃ k : Nat, k ≤ xs.length ∧ i = .int .i64 k ∧ Below w.heap.size w wr) (fun i _ => xs.length - (intOf i).toNat)
  case atStart => exact ⟨0, Nat.zero_le _, rfl, Below.refl _ _⟩
  case round =>
    obtain ⟨k, hk, rfl, hbw⟩ := hrel
    by_cases hlt : k < xs.length
    · obtain ⟨b1, o1, e1, _, hc1⟩ := row_int (HX.out.below hbw) hlt
      obtain ⟨b2, o2, e2, _, hc2⟩ := row_int (HY.out.below hbw) hlt
      subst e1 e2
      obtain ⟨x, hx⟩ : ∃ x, x = xs[k] := ⟨_, rfl⟩
      rw [← hx] at hc1 hc2
      clear hx
      have hi0 : (0 : Int) ≤ k := by omega
      have hi1 : (k : Int) < xs.length := by omega
      go_wp2
      go_quiet (fail)
      go_wp2
      go_roundw
      case rel => exact ⟨k + 1, by omega, by go_num, hbw.trans ⟨rfl, rfl, rfl, Nat.le_refl _, fun _ _ => rfl⟩⟩
      case measure => simp [intOf]; omega
    · go_wp2
      go_ret
      exact ⟨rfl, hbw⟩
theorem ref_Same_at (A C : Option Addr) (n m c d : Nat) (xs : List Int) (w : World) (hn : xs.length = n) (hm : xs.length = m) (hx : Row w w.heap.size A (ints xs)) (hy : Row w w.heap.size C (ints xs)) (hxl : n ≤ 1073741824) :
    Calls Try.prog 21 #[.slice A n c, .slice C m d] w fun e w' => e = .returned (.bool true) ∧ Below w.heap.size w w' := by
  subst hn hm
  exact ref_Same A C c d xs w hx hy hxl
end Go.Proofs.Ytfhjnblcnkjooaa
