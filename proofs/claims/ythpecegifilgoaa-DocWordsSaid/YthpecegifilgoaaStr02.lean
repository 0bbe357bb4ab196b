/- Texts in a row of memory; what the document's Same answers of two lists of texts that are the same. -/
import Derived.Test.YthpecegifilgoaaProg
import Derived.Test.YthpecegifilgoaaBase
import Derived.BigQuiet
import Derived.Deep.QuietTactic
import Derived.Lib.Hide
import Derived.OneCell
namespace Go.Proofs.Ythpecegifilgoaa
open Go Go.RowKit
set_option linter.unusedVariables false

def strs (l : List (List UInt8)) : List Value := l.map fun s => .string ⟨s.toArray⟩
theorem strs_length (l : List (List UInt8)) : (strs l).length = l.length := by simp [strs]
theorem info_string : (Try.prog.info? 9).map (fun i => (i.zero, i.size, i.bytes)) = some (some (.string ByteArray.empty), 1, 16) := by kernel_rfl

theorem row_str {w : World} {B : Nat} {A : Option Addr} {xs : List (List UInt8)} (h : Row w B A (strs xs)) {k : Nat} (hk : k < xs.length) :
    ∃ b off, A = some ⟨b, off, none⟩ ∧ b < B ∧ w.cell? ⟨b, off + k, none⟩ = some (.string ⟨xs[k].toArray⟩) := by
  obtain ⟨b, off, rfl, hb, hc⟩ := h.at_ (by rw [strs_length]; omega)
  refine ⟨b, off, rfl, hb, hc k _ ?_⟩
  simp [strs, hk]

set_option maxHeartbeats 1000000 in
set_option maxRecDepth 100000 in
theorem ref02_Same (A C : Option Addr) (n m c d : Nat) (xs : List (List UInt8)) (w : World) (hn : xs.length = n) (hm : xs.length = m) (hx : Row w w.heap.size A (strs xs)) (hy : Row w w.heap.size C (strs xs)) (hxl : xs.length ≤ 1073741824) :
    Calls Try.prog 45 #[.slice A n c, .slice C m d] w fun e w' => e = .returned (.bool true) ∧ Below w.heap.size w w' := by
  subst hn hm
  have HX := Lib.hid hx
  have HY := Lib.hid hy
  clear hx hy
  go_enter Try.func45, Try.ntmps45
  go_wp2
  go_loopw [5] (fun i wr => ∃ k : Nat, k ≤ xs.length ∧ i = .int .i64 k ∧ Below w.heap.size w wr) (fun i _ => xs.length - (intOf i).toNat)
  case atStart => exact ⟨0, Nat.zero_le _, rfl, Below.refl _ _⟩
  case round =>
    obtain ⟨k, hk, rfl, hbw⟩ := hrel
    by_cases hlt : k < xs.length
    · obtain ⟨b1, o1, e1, _, hc1⟩ := row_str (HX.out.below hbw) hlt
      obtain ⟨b2, o2, e2, _, hc2⟩ := row_str (HY.out.below hbw) hlt
      subst e1 e2
      obtain ⟨x, hx⟩ : ∃ x : ByteArray, x = ⟨xs[k].toArray⟩ := ⟨_, rfl⟩
      rw [← hx] at hc1 hc2
      clear hx
      have hi0 : (0 : Int) ≤ k := by omega
      have hi1 : (k : Int) < xs.length := by omega
      go_wp2
      go_quiet (fail)
      go_wp2
      go_roundw
      case rel => exact ⟨k + 1, by omega, by go_num, hbw.trans ⟨rfl, rfl, rfl, Nat.le_refl _, fun _ _ => rfl⟩⟩
      case measure => simp [intOf]; omega
    · go_wp2
      go_ret
      exact ⟨rfl, hbw⟩

end Go.Proofs.Ythpecegifilgoaa
