/- Numbers that stand side by side, plain. No program. -/
import Derived.WalkKit
set_option linter.unusedVariables false
namespace Go.Proofs.Ytldcadpemnpbmaa

/-- Do the numbers behind n stand in lists, the next one in the first of them, and so on? -/
def followF : List (List Int) → Int → Bool
  | [], _ => true
  | l :: ls, n => decide (n + 1 ∈ l) && followF ls (n + 1)
/-- How many numbers stand side by side. -/
def sideF : List (List Int) → Nat
  | [] => 0
  | l :: ls => l.countP (followF ls)
theorem side_nil {l : List (List Int)} (h : [] ∈ l) : sideF l = 0 := by
  have hf : ∀ (ls : List (List Int)) (n : Int), [] ∈ ls → followF ls n = false := by
    intro ls
    induction ls with
    | nil => intro n h; cases h
    | cons a ls ih =>
      intro n h
      rw [followF]
      rcases List.mem_cons.1 h with rfl | h
      · simp
      · rw [ih _ h, Bool.and_false]
  rcases l with _ | ⟨a, l⟩
  · cases h
  · rw [sideF]
    rcases List.mem_cons.1 h with rfl | h
    · rfl
    · rw [List.countP_eq_zero]
      intro x _
      rw [hf _ _ h]
      decide
theorem side_le : ∀ l : List (List Int), ∀ a, l.head? = some a → sideF l ≤ a.length
  | b :: l, a, h => by
    simp at h
    subst h
    exact List.countP_le_length
end Go.Proofs.Ytldcadpemnpbmaa
