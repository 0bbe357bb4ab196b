/- Lists of lists of numbers that came in, read as data: what a walk is told of them. -/
import Derived.Test.YtldcadpemnpbmaaLol11
import Derived.Test.YtldcadpemnpbmaaInts
import Derived.Deep.SlicePairs
import Derived.ProofKit
import Derived.OpenShut
import Derived.ChangeSlices
namespace Go.Proofs.Ytldcadpemnpbmaa
open Go Go.RowKit Go.ChangeShapes Go.WideShapes Go.ChangeAt
set_option linter.unusedVariables false

/-- What a walk is told of lists of numbers that came in. -/
def InLols (w : World) (a : Option Addr) (len cap : Nat) (ls : List (List Int)) : Prop :=
  len ≤ cap ∧ cap ≤ maxLen ∧ ls.length = len ∧ Lol (Value.int .i64) w w.heap.size a ls ∧ ∀ s ∈ ls, s.length ≤ 9223372036854775807 ∧ ∀ x ∈ s, (Lit.int .i64 x).wf = true
theorem in_ints11 {H : Type} {enc : TypeId × Value → H} {W : World} {fuel : Nat} {a : Option Addr} {len cap : Nat} {x : DataW H × List MemPlace}
    (h : DataW.trod enc Try.prog W 0 (fun _ => true) true fuel 31 [Value.slice a len cap] = some x) : ∃ zs, InRow .i64 W a len cap zs := by
  rcases open_ints Try.underlying31 Try.underlying3 (by kernel_rfl) h with ⟨hcs, _⟩ | ⟨y, l, c, zs, hcs, _, hl, hm, hz, _, hcell, hwz⟩
  · simp only [List.cons.injEq, and_true] at hcs
    injection hcs with h1 h2 h3
    subst h1 h2 h3
    exact ⟨[], inRow_nil⟩
  · simp only [List.cons.injEq, and_true] at hcs
    injection hcs with h1 h2 h3
    subst h1 h2 h3
    exact ⟨_, inRow_of hl hm (by simpa using hz) hcell hwz⟩
theorem in_lols {H : Type} {enc : TypeId × Value → H} {W : World} {fuel : Nat} {a : Option Addr} {len cap : Nat} {x : DataW H × List MemPlace}
    (h : DataW.trod enc Try.prog W 0 (fun _ => true) true fuel 30 [Value.slice a len cap] = some x) : ∃ ls, InLols W a len cap ls := by
  rcases Deep.open_slice1 Try.underlying30 (by kernel_rfl) h with ⟨hcs, _⟩ | ⟨ad, l, c, m, n, V, D, Pl, hcs, _, hl, hm, hmm, _, hx⟩
  · simp only [List.cons.injEq, and_true] at hcs
    injection hcs with h1 h2 h3
    subst h1 h2 h3
    exact ⟨[], Nat.le_refl _, Nat.zero_le _, rfl, Lol.nil, fun l hl => by cases hl⟩
  · simp only [List.cons.injEq, and_true] at hcs
    injection hcs with h1 h2 h3
    subst h1 h2 h3
    simp only [if_true] at hmm
    subst hmm
    have each : ∀ i, i < m → ∃ q : List Int, (∃ A c, V i = .slice A q.length c ∧ (q.length ≤ c ∧ c ≤ maxLen) ∧ Row W W.heap.size A (q.map (Value.int .i64))) ∧ ∀ x ∈ q, (Lit.int .i64 x).wf = true := fun i hi => by
      obtain ⟨_, g1⟩ := hx i hi
      have hv : ∃ A l c, V i = .slice A l c := by
        rcases open_ints Try.underlying31 Try.underlying3 (by kernel_rfl) g1 with ⟨hcs, _⟩ | ⟨y, l, c, zs, hcs, _⟩
        · simp only [List.cons.injEq, and_true] at hcs
          exact ⟨_, _, _, hcs⟩
        · simp only [List.cons.injEq, and_true] at hcs
          exact ⟨_, _, _, hcs⟩
      obtain ⟨A, l, c, hv⟩ := hv
      rw [hv] at g1
      obtain ⟨q, h1, h2, h3, h4, h5⟩ := in_ints11 g1
      exact ⟨q, ⟨A, c, by rw [h3]; exact hv, ⟨by rw [h3]; exact h1, h2⟩, h4⟩, h5⟩
    obtain ⟨f, hf⟩ := Deep.choose_lt each
    refine ⟨(List.range len).map f, hl, hm, by simp, ⟨(List.range len).map V, ⟨by simp, fun i hi => ?_⟩, ?_⟩, fun l hl' => ?_⟩
    · have hil : i < len := by simpa using hi
      obtain ⟨A, c, g1, g2, g3⟩ := (hf i (by omega)).1
      exact ⟨A, c, by simp [hil, g1], by simpa using g2, by simpa using g3⟩
    · by_cases h0 : len = 0
      · subst h0
        exact .inl rfl
      · obtain ⟨c00, _⟩ := hx 0 (by omega)
        obtain ⟨b, off, spot⟩ := ad
        have hs : spot = none := by simpa [Addr.add] using World.cell?_spot c00
        subst hs
        refine .inr ⟨b, off, rfl, by simpa [Addr.add_lit] using World.block_lt_of_cell? W _ c00, fun j u hu => ?_⟩
        rw [List.getElem?_map] at hu
        obtain ⟨i, hi, rfl⟩ := Option.map_eq_some_iff.1 hu
        obtain ⟨hj, rfl⟩ := List.getElem?_eq_some_iff.1 hi
        rw [List.length_range] at hj
        have := (hx j (by omega)).1
        rw [Addr.add_lit] at this
        simpa using this
    · obtain ⟨i, hi, rfl⟩ := List.mem_map.1 hl'
      have hil := List.mem_range.1 hi
      obtain ⟨⟨A, c, g1, ⟨g2, g3⟩, _⟩, g5⟩ := hf i (by omega)
      exact ⟨by unfold maxLen at g3; omega, g5⟩
end Go.Proofs.Ytldcadpemnpbmaa
