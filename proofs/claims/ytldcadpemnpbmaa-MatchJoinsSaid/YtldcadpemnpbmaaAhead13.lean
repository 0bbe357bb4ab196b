/- Whether a list's first document is not behind that of another one, as the program tells it. -/
import Derived.Test.YtldcadpemnpbmaaFo13
import Derived.BigCall
import Derived.BigQuiet
import Derived.Lib.Hide
import Derived.Deep.CutRange
import Derived.Deep.RegionHeld3
set_option linter.unusedVariables false
namespace Go.Proofs.Ytldcadpemnpbmaa
open Go Go.RowKit

set_option maxHeartbeats 1000000 in
set_option maxRecDepth 100000 in
theorem match_ahead (v u : Value) (a b : List Fo) (w : World) (ha : InFo w v a) (hb : InFo w u b) : Calls Try.prog 29 #[v, u] w fun e w' => e = .returned (.bool (aheadF a b)) ∧ Below w.heap.size w w' := by
  obtain ⟨A, c, rfl, hac, hcm, hra⟩ := ha
  obtain ⟨A2, c2, rfl, hbc, hcm2, hrb⟩ := hb
  rcases a with _ | ⟨x, a⟩
  · have hv : aheadF [] b = false := rfl
    rw [hv]
    obtain ⟨m, hm⟩ : ∃ m, m = b.length := ⟨_, rfl⟩
    rw [← hm]
    rw [List.length_nil]
    clear hra hrb hac hbc hm hv hcm hcm2
    go_enter Try.func29, Try.ntmps29
    go_wp2
    go_quiet (fail)
    go_wp2
    go_ret
    exact ⟨rfl, ⟨rfl, rfl, rfl, Nat.le_refl _, fun _ _ => rfl⟩⟩
  · obtain ⟨n, hn⟩ : ∃ n, n = (x :: a).length := ⟨_, rfl⟩
    rw [← hn]
    have hn0 : 0 < n := by rw [hn]; simp
    have d0 : decide ((n : Int) > 0) = true := decide_eq_true (by omega)
    have d0' : decide ((0 : Int) < (n : Int)) = true := decide_eq_true (by omega)
    rcases b with _ | ⟨y, b⟩
    · have hv : aheadF (x :: a) [] = true := rfl
      rw [hv, List.length_nil]
      clear hra hrb hac hbc hn hv hcm hcm2
      go_enter Try.func29, Try.ntmps29
      go_wp2
      go_quiet (fail)
      go_wp2
      go_ret
      exact ⟨rfl, ⟨rfl, rfl, rfl, Nat.le_refl _, fun _ _ => rfl⟩⟩
    · obtain ⟨m, hm⟩ : ∃ m, m = (y :: b).length := ⟨_, rfl⟩
      rw [← hm]
      have hm0 : ((m : Int) == 0) = false := beq_eq_false_iff_ne.2 (by rw [hm]; simp; omega)
      have hm1 : 0 < m := by rw [hm]; simp
      obtain ⟨b1, o1, rfl, _, g1, _, _⟩ := FoRow.cons hra
      obtain ⟨b2, o2, rfl, _, k1, _, _⟩ := FoRow.cons hrb
      have hv : aheadF (x :: a) (y :: b) = decide ((x.1 : Int) ≤ (y.1 : Int)) := by simp [aheadF]
      rw [hv]
      obtain ⟨p, hp⟩ : ∃ p : Int, p = (x.1 : Int) := ⟨_, rfl⟩
      obtain ⟨q, hq⟩ : ∃ q : Int, q = (y.1 : Int) := ⟨_, rfl⟩
      rw [← hp] at g1 ⊢
      rw [← hq] at k1 ⊢
      clear hra hrb hac hbc hn hv hcm hcm2 hm hp hq
      go_enter Try.func29, Try.ntmps29
      go_wp2
      go_quiet (fail)
      go_wp2
      go_ret
      exact ⟨rfl, ⟨rfl, rfl, rfl, Nat.le_refl _, fun _ _ => rfl⟩⟩
end Go.Proofs.Ytldcadpemnpbmaa
