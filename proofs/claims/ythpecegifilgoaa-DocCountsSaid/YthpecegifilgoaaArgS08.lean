/- A list of texts that came in, read as data: what a walk is told of it. -/
import Derived.Test.YthpecegifilgoaaQ07
import Derived.Deep.SlicePairs
import Derived.ProofKit
import Derived.OpenShut
import Derived.SliceStrings
namespace Go.Proofs.Ythpecegifilgoaa
open Go Go.RowKit Go.ChangeShapes Go.WideShapes Go.ChangeAt
set_option linter.unusedVariables false

/-- What a walk is told of a list of texts that came in. -/
def InStrs (w : World) (a : Option Addr) (len cap : Nat) (xs : List Nm) : Prop :=
  len ≤ cap ∧ cap ≤ maxLen ∧ xs.length = len ∧ Row w w.heap.size a (strs xs) ∧ ∀ x ∈ xs, x.length ≤ maxLen
theorem string_cells : Try.prog.cellsOf 9 = 1 := by kernel_rfl

theorem in_strs {H : Type} {enc : TypeId × Value → H} {W : World} {fuel : Nat} {a : Option Addr} {len cap : Nat} {x : DataW H × List MemPlace}
    (h : DataW.trod enc Try.prog W 0 (fun _ => true) true fuel 48 [Value.slice a len cap] = some x) : ∃ xs, InStrs W a len cap xs := by
  rcases open_strings Try.underlying48 Try.underlying9 string_cells h with ⟨hcs, _⟩ | ⟨ad, l, c, ss, hcs, _, hl, hm, hss, _, hcell, hwf⟩
  · simp only [List.cons.injEq, and_true] at hcs
    injection hcs with h1 h2 h3
    subst h1 h2 h3
    exact ⟨[], Nat.le_refl _, Nat.zero_le _, rfl, .inl rfl, fun x hx => by cases hx⟩
  · simp only [List.cons.injEq, and_true] at hcs
    injection hcs with h1 h2 h3
    subst h1 h2 h3
    simp only [if_true] at hss
    refine ⟨(ss.take len).map fun s => s.data.toList, hl, hm, by rw [List.length_map, List.length_take]; omega, ?_, fun x hx => ?_⟩
    · by_cases h0 : ss.length = 0
      · have : ss = [] := List.eq_nil_of_length_eq_zero h0
        subst this
        exact .inl (by simp [strs])
      · have hc0 := hcell 0 (by omega)
        obtain ⟨b, off, spot⟩ := ad
        have hs : spot = none := by simpa [Addr.add] using World.cell?_spot hc0
        subst hs
        refine .inr ⟨b, off, rfl, by simpa [Addr.add_lit] using World.block_lt_of_cell? W _ hc0, fun j u hu => ?_⟩
        simp only [strs, List.map_map] at hu
        rw [List.getElem?_map, List.getElem?_take] at hu
        split at hu
        · obtain ⟨y, hy, rfl⟩ := Option.map_eq_some_iff.1 hu
          have hj : j < ss.length := (List.getElem?_eq_some_iff.1 hy).1
          have := hcell j hj
          rw [Addr.add_lit] at this
          rw [this, List.getD_eq_getElem?_getD, hy]
          simp
        · cases hu
    · obtain ⟨s, hs, rfl⟩ := List.mem_map.1 hx
      rw [Array.length_toList]
      exact hwf s (List.mem_of_mem_take hs)
end Go.Proofs.Ythpecegifilgoaa
