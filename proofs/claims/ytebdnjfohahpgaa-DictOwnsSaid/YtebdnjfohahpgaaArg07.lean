/- Lists of texts, and lists of them, that came in, read as data: what a walk is told of them. -/
import Derived.Test.YtebdnjfohahpgaaLists07
import Derived.Deep.SlicePairs
import Derived.ProofKit
import Derived.OpenShut
import Derived.SliceStrings
namespace Go.Proofs.Ytebdnjfohahpgaa
open Go Go.RowKit Go.ChangeShapes Go.WideShapes Go.ChangeAt
set_option linter.unusedVariables false

/-- What a walk is told of a list of texts that came in. -/
def InStrs (w : World) (a : Option Addr) (len cap : Nat) (xs : List Nm) : Prop :=
  len ≤ cap ∧ cap ≤ maxLen ∧ xs.length = len ∧ Row w w.heap.size a (strs xs) ∧ ∀ x ∈ xs, x.length ≤ maxLen
/-- .. of lists of texts that came in. -/
def InLists (w : World) (a : Option Addr) (len cap : Nat) (ls : List (List Nm)) : Prop :=
  len ≤ cap ∧ cap ≤ maxLen ∧ ls.length = len ∧ Lists w w.heap.size a ls ∧ ∀ l ∈ ls, ∀ x ∈ l, x.length ≤ maxLen
theorem string_cells : Try.prog.cellsOf 9 = 1 := by kernel_rfl

theorem in_strs {H : Type} {enc : TypeId × Value → H} {W : World} {fuel : Nat} {a : Option Addr} {len cap : Nat} {x : DataW H × List MemPlace}
    (h : DataW.trod enc Try.prog W 0 (fun _ => true) true fuel 22 [Value.slice a len cap] = some x) : ∃ xs, InStrs W a len cap xs := by
  rcases open_strings Try.underlying22 Try.underlying9 string_cells h with ⟨hcs, _⟩ | ⟨ad, l, c, ss, hcs, _, hl, hm, hss, _, hcell, hwf⟩
  · simp only [List.cons.injEq, and_true] at hcs
    injection hcs with h1 h2 h3
    subst h1 h2 h3
    exact ⟨[], Nat.le_refl _, Nat.zero_le _, rfl, .inl rfl, fun x hx => by cases hx⟩
  · simp only [List.cons.injEq, and_true] at hcs
    injection hcs with h1 h2 h3
    subst h1 h2 h3
    simp only [if_true] at hss
    refine ⟨(ss.take len).map fun s => s.data.toList, hl, hm, by rw [List.length_map, List.length_take]; omega, ?_, fun x hx => ?_⟩
    · by_cases h0 : ss.length = 0
      · have : ss = [] := List.eq_nil_of_length_eq_zero h0
        subst this
        exact .inl (by simp [strs])
      · have hc0 := hcell 0 (by omega)
        obtain ⟨b, off, spot⟩ := ad
        have hs : spot = none := by simpa [Addr.add] using World.cell?_spot hc0
        subst hs
        refine .inr ⟨b, off, rfl, by simpa [Addr.add_lit] using World.block_lt_of_cell? W _ hc0, fun j u hu => ?_⟩
        simp only [strs, List.map_map] at hu
        rw [List.getElem?_map, List.getElem?_take] at hu
        split at hu
        · obtain ⟨y, hy, rfl⟩ := Option.map_eq_some_iff.1 hu
          have hj : j < ss.length := (List.getElem?_eq_some_iff.1 hy).1
          have := hcell j hj
          rw [Addr.add_lit] at this
          rw [this, List.getD_eq_getElem?_getD, hy]
          simp
        · cases hu
    · obtain ⟨s, hs, rfl⟩ := List.mem_map.1 hx
      rw [Array.length_toList]
      exact hwf s (List.mem_of_mem_take hs)

theorem lists_of {R : Option Addr → List Value → Prop} {V : Nat → Value} {f : Nat → List Nm} {n : Nat} (h : ∀ i, i < n → ∃ A c, V i = .slice A (f i).length c ∧ (f i).length ≤ c ∧ c ≤ maxLen ∧ R A (strs (f i))) :
    ∀ k, k ≤ n → ∃ cs, LsCells R ((List.range k).map f) cs ∧ cs = (List.range k).map V
  | 0, _ => ⟨[], rfl, rfl⟩
  | k + 1, hk => by
    obtain ⟨cs, ih, hcs⟩ := lists_of h k (by omega)
    obtain ⟨A, c, h1, h2, h3, h4⟩ := h k (by omega)
    have snoc : ∀ {l : List (List Nm)} {cs : List Value}, LsCells R l cs → LsCells R (l ++ [f k]) (cs ++ [V k]) := by
      intro l
      induction l with
      | nil => intro cs hh; simp only [LsCells] at hh; subst hh; exact ⟨A, c, [], by rw [h1]; rfl, h2, h3, h4, rfl⟩
      | cons y r ih =>
        intro cs hh
        obtain ⟨A', c', cs', rfl, g1, g2, g3, g'⟩ := hh
        exact ⟨A', c', cs' ++ [V k], rfl, g1, g2, g3, ih g'⟩
    refine ⟨cs ++ [V k], ?_, by rw [hcs, List.range_succ, List.map_append]; rfl⟩
    rw [List.range_succ, List.map_append]
    exact snoc ih

theorem in_lists {H : Type} {enc : TypeId × Value → H} {W : World} {fuel : Nat} {a : Option Addr} {len cap : Nat} {x : DataW H × List MemPlace}
    (h : DataW.trod enc Try.prog W 0 (fun _ => true) true fuel 50 [Value.slice a len cap] = some x) : ∃ ls, InLists W a len cap ls := by
  rcases Deep.open_slice1 Try.underlying50 (by kernel_rfl) h with ⟨hcs, _⟩ | ⟨ad, l, c, m, n, V, D, Pl, hcs, _, hl, hm, hmm, _, hx⟩
  · simp only [List.cons.injEq, and_true] at hcs
    injection hcs with h1 h2 h3
    subst h1 h2 h3
    exact ⟨[], Nat.le_refl _, Nat.zero_le _, rfl, ⟨[], rfl, .inl rfl⟩, fun l hl => by cases hl⟩
  · simp only [List.cons.injEq, and_true] at hcs
    injection hcs with h1 h2 h3
    subst h1 h2 h3
    simp only [if_true] at hmm
    subst hmm
    have each : ∀ i, i < m → ∃ q : List Nm, (∃ A c, V i = .slice A q.length c ∧ q.length ≤ c ∧ c ≤ maxLen ∧ Row W W.heap.size A (strs q)) ∧ ∀ x ∈ q, x.length ≤ maxLen := fun i hi => by
      obtain ⟨_, g1⟩ := hx i hi
      have hv : ∃ A l c, V i = .slice A l c := by
        rcases open_strings Try.underlying22 Try.underlying9 string_cells g1 with ⟨hcs, _⟩ | ⟨ad, l, c, ss, hcs, _⟩
        · simp only [List.cons.injEq, and_true] at hcs
          exact ⟨_, _, _, hcs⟩
        · simp only [List.cons.injEq, and_true] at hcs
          exact ⟨_, _, _, hcs⟩
      obtain ⟨A, l, c, hv⟩ := hv
      rw [hv] at g1
      obtain ⟨q, h1, h2, h3, h4, h5⟩ := in_strs g1
      exact ⟨q, ⟨A, c, by rw [h3]; exact hv, by rw [h3]; exact h1, h2, h4⟩, h5⟩
    obtain ⟨f, hf⟩ := Deep.choose_lt each
    obtain ⟨cs, hcs1, hcs2⟩ := lists_of (V := V) (f := f) (n := m) (fun i hi => (hf i hi).1) len hl
    refine ⟨(List.range len).map f, hl, hm, by simp, ⟨cs, hcs1, ?_⟩, fun l hl' => ?_⟩
    · by_cases h0 : len = 0
      · subst h0
        exact .inl (by rw [hcs2]; rfl)
      · obtain ⟨c00, _⟩ := hx 0 (by omega)
        obtain ⟨b, off, spot⟩ := ad
        have hs : spot = none := by simpa [Addr.add] using World.cell?_spot c00
        subst hs
        refine .inr ⟨b, off, rfl, by simpa [Addr.add_lit] using World.block_lt_of_cell? W _ c00, fun j u hu => ?_⟩
        rw [hcs2, List.getElem?_map] at hu
        obtain ⟨i, hi, rfl⟩ := Option.map_eq_some_iff.1 hu
        obtain ⟨hj, rfl⟩ := List.getElem?_eq_some_iff.1 hi
        rw [List.length_range] at hj
        have := (hx j (by omega)).1
        rw [Addr.add_lit] at this
        simpa using this
    · obtain ⟨i, hi, rfl⟩ := List.mem_map.1 hl'
      have hil := List.mem_range.1 hi
      exact (hf i (by omega)).2
end Go.Proofs.Ytebdnjfohahpgaa
