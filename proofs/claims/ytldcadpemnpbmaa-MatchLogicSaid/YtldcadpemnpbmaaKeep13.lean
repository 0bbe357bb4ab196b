/- Which documents of two lists And, Or and Not keep. -/
import Derived.Test.YtldcadpemnpbmaaAhead13
import Derived.Shelf.RegionOpen
import Derived.RangeFuncNested
set_option linter.unusedVariables false
namespace Go.Proofs.Ytldcadpemnpbmaa
open Go Go.RowKit

/-- A document of two lists, as a value. -/
abbrev prV (p : Pr) : Value := .agg #[.int .i64 (p.1.1 : Int), .int .i64 p.1.2, .bool p.2.1, .bool p.2.2]
/-- A function that tells whether such a document is to be kept. -/
def Keeps (K : Nat) (f : Bool → Bool → Bool) : Prop := (∀ args w, (callFunc K args).run Try.prog w = .ok (.enter K args) w) ∧ ∀ (p : Pr) (w : World), Calls Try.prog K #[prV p] w fun e w' => e = .returned (.bool (f p.2.1 p.2.2)) ∧ Below w.heap.size w w'

set_option maxHeartbeats 1000000 in
set_option maxRecDepth 100000 in
theorem match_and1 : Keeps 19 andB := by
  refine ⟨enters_of Try.func19 (by kernel_rfl) rfl, ?_⟩
  rintro ⟨⟨d, s⟩, l, r⟩ w
  obtain ⟨z, hz⟩ : ∃ z : Int, z = (d : Int) := ⟨_, rfl⟩
  have hb : Below w.heap.size w (w.alloc (.cells #[.int .i64 z, .int .i64 s, .bool l, .bool r] 39)) := (Below.refl _ w).alloc (Nat.le_refl _) _
  have HB := Lib.hid hb
  unfold prV
  simp only
  rw [← hz]
  clear hb hz
  cases l with
  | false =>
    go_enter Try.func19, Try.ntmps19
    go_wp2
    go_ret
    exact ⟨rfl, HB.out⟩
  | true =>
    go_enter Try.func19, Try.ntmps19
    go_wp2
    go_ret
    exact ⟨by cases r <;> rfl, HB.out⟩
set_option maxHeartbeats 1000000 in
set_option maxRecDepth 100000 in
theorem match_or1 : Keeps 21 orB := by
  refine ⟨enters_of Try.func21 (by kernel_rfl) rfl, ?_⟩
  rintro ⟨⟨d, s⟩, l, r⟩ w
  obtain ⟨z, hz⟩ : ∃ z : Int, z = (d : Int) := ⟨_, rfl⟩
  have hb : Below w.heap.size w (w.alloc (.cells #[.int .i64 z, .int .i64 s, .bool l, .bool r] 39)) := (Below.refl _ w).alloc (Nat.le_refl _) _
  have HB := Lib.hid hb
  unfold prV
  simp only
  rw [← hz]
  clear hb hz
  cases l with
  | false =>
    go_enter Try.func21, Try.ntmps21
    go_wp2
    go_ret
    exact ⟨by cases r <;> rfl, HB.out⟩
  | true =>
    go_enter Try.func21, Try.ntmps21
    go_wp2
    go_ret
    exact ⟨rfl, HB.out⟩
set_option maxHeartbeats 1000000 in
set_option maxRecDepth 100000 in
theorem match_not1 : Keeps 23 notB' := by
  refine ⟨enters_of Try.func23 (by kernel_rfl) rfl, ?_⟩
  rintro ⟨⟨d, s⟩, l, r⟩ w
  obtain ⟨z, hz⟩ : ∃ z : Int, z = (d : Int) := ⟨_, rfl⟩
  have hb : Below w.heap.size w (w.alloc (.cells #[.int .i64 z, .int .i64 s, .bool l, .bool r] 39)) := (Below.refl _ w).alloc (Nat.le_refl _) _
  have HB := Lib.hid hb
  unfold prV
  simp only
  rw [← hz]
  clear hb hz
  cases l with
  | false =>
    go_enter Try.func23, Try.ntmps23
    go_wp2
    go_ret
    exact ⟨rfl, HB.out⟩
  | true =>
    go_enter Try.func23, Try.ntmps23
    go_wp2
    go_ret
    exact ⟨by cases r <;> rfl, HB.out⟩
end Go.Proofs.Ytldcadpemnpbmaa
