/- What the document's Place of layer 11 answers. -/
import Derived.Test.YtpehcaidjlemiaaPls11
import Derived.Test.YtpehcaidjlemiaaInts
import Derived.BigCall
import Derived.BigQuiet
import Derived.Deep.QuietTactic
import Derived.Lib.Hide
namespace Go.Proofs.Ytpehcaidjlemiaa
open Go Go.RowKit
set_option linter.unusedVariables false

def RefPlaceRel (o : List Pl) (i k : Int) (r j : Value) : Prop := r = .int .i64 0 ∧ ∃ m : Nat, m ≤ o.length ∧ j = .int .i64 (m : Int) ∧ placeO (o.drop m) m i k = placeO o 0 i k

set_option maxHeartbeats 1000000 in
set_option maxRecDepth 100000 in
theorem ref11_Place (A : Option Addr) (m c : Nat) (o : List Pl) (i k : Int) (w : World) (hr : Row w w.heap.size A (plc o)) (hm : o.length = m) (hl : m ≤ 1000000) :
    Calls Try.prog 8 #[.slice A m c, .int .i64 i, .int .i64 k] w fun e w' => e = .returned (.int .i64 (placeO o 0 i k)) ∧ Below w.heap.size w w' := by
  have HR := Lib.hid hr
  clear hr
  subst hm
  obtain ⟨ans, hans⟩ : ∃ ans, ans = placeO o 0 i k := ⟨_, rfl⟩
  rw [← hans]
  have HA := Lib.hid hans
  clear hans
  go_enter Try.func8, Try.ntmps8
  go_wp2
  go_loopw [6, 7] (fun r j wr => RefPlaceRel o i k r j ∧ Below w.heap.size w wr) (fun _ j _ => o.length - (intOf j).toNat)
  case atStart => exact ⟨⟨rfl, 0, by omega, rfl, rfl⟩, Below.refl _ _⟩
  case round =>
    obtain ⟨⟨rfl, j, hj, rfl, hx⟩, hbw⟩ := hrel
    by_cases hlt : j < o.length
    · obtain ⟨b1, o1, e1, _, hc1, hc2⟩ := row_plc (HR.out.below hbw) hlt
      subst e1
      rw [placeO_drop hlt, ← HA.out] at hx
      obtain ⟨p, hp⟩ : ∃ p, p = o[j] := ⟨_, rfl⟩
      rw [← hp] at hc1 hc2 hx
      obtain ⟨p1, p2⟩ := p
      simp only at hc1 hc2 hx
      have HX := Lib.hid hx
      clear hp hx
      by_cases h1 : (p1 : Int) = i
      · by_cases h2 : (p2 : Int) = k
        · have hans : ans = (j : Int) := by rw [← HX.out, if_pos ⟨h1, h2⟩]
          subst h1 h2 hans
          go_wp2
          go_ret
          exact ⟨rfl, hbw.trans ⟨rfl, rfl, rfl, Nat.le_refl _, fun _ _ => rfl⟩⟩
        · have hd2 : ((p2 : Int) == k) = false := beq_eq_false_iff_ne.2 h2
          have HN : Hid (placeO (o.drop (j + 1)) (j + 1) i k = ans) := Lib.hid (by rw [← HX.out, if_neg (fun h => h2 h.2)])
          subst h1
          clear h2 HX
          go_wp2
          go_roundw
          case rel => exact ⟨⟨rfl, j + 1, by omega, by go_num, by rw [← HA.out]; exact HN.out⟩, hbw.trans ⟨rfl, rfl, rfl, Nat.le_refl _, fun _ _ => rfl⟩⟩
          case measure => simp [intOf]; omega
      · have hd1 : ((p1 : Int) == i) = false := beq_eq_false_iff_ne.2 h1
        have HN : Hid (placeO (o.drop (j + 1)) (j + 1) i k = ans) := Lib.hid (by rw [← HX.out, if_neg (fun h => h1 h.1)])
        clear h1 HX
        go_wp2
        go_roundw
        case rel => exact ⟨⟨rfl, j + 1, by omega, by go_num, by rw [← HA.out]; exact HN.out⟩, hbw.trans ⟨rfl, rfl, rfl, Nat.le_refl _, fun _ _ => rfl⟩⟩
        case measure => simp [intOf]; omega
    · rw [placeO_end (by omega), ← HA.out] at hx
      subst hx
      go_wp2
      go_ret
      exact ⟨rfl, hbw⟩
end Go.Proofs.Ytpehcaidjlemiaa
