/- A list of documents that came in, read as data: what a walk is told of it. -/
import Derived.Test.YtldcadpemnpbmaaGoodF13
import Derived.Deep.SlicePairs
import Derived.ProofKit
import Derived.OpenShut
namespace Go.Proofs.Ytldcadpemnpbmaa
open Go Go.RowKit Go.ChangeShapes Go.WideShapes Go.ChangeAt
set_option linter.unusedVariables false

theorem found_cells : Try.prog.cellsOf 36 = 2 := by kernel_rfl
theorem int_cellF : Try.prog.cellsOf 3 = 1 := by kernel_rfl
theorem raC_append : ∀ a b : List (Int × Int), raC (a ++ b) = raC a ++ raC b
  | [], _ => rfl
  | x :: a, b => by simp [raC, raC_append a b]
theorem raC_range {f : Nat → Int × Int} {V0 V1 : Nat → Value} {w : World} {b off n : Nat} (h : ∀ i, i < n → V0 i = .int .i64 (f i).1 ∧ V1 i = .int .i64 (f i).2)
    (hc : ∀ i, i < n → w.cell? ⟨b, off + i * 2, none⟩ = some (V0 i) ∧ w.cell? ⟨b, off + (i * 2 + 1), none⟩ = some (V1 i)) :
    ∀ k, k ≤ n → ∀ j u, (raC ((List.range k).map f))[j]? = some u → w.cell? ⟨b, off + j, none⟩ = some u
  | 0, _, j, u, hu => by simp [raC] at hu
  | k + 1, hk, j, u, hu => by
    rw [List.range_succ, List.map_append, raC_append] at hu
    have hl : (raC ((List.range k).map f)).length = k * 2 := by rw [raC_length, List.length_map, List.length_range]
    by_cases hj : j < k * 2
    · rw [List.getElem?_append_left (by rw [hl]; exact hj)] at hu
      exact raC_range h hc k (by omega) j u hu
    · rw [List.getElem?_append_right (by rw [hl]; omega), hl] at hu
      obtain ⟨h0, h1⟩ := h k (by omega)
      obtain ⟨c0, c1⟩ := hc k (by omega)
      rcases hq : j - k * 2 with _ | _ | q
      · rw [hq] at hu
        simp [raC] at hu
        rw [show j = k * 2 by omega, c0, h0, hu]
      · rw [hq] at hu
        simp [raC] at hu
        rw [show j = k * 2 + 1 by omega, c1, h1, hu]
      · rw [hq] at hu
        simp [raC] at hu
theorem in_raw {H : Type} {enc : TypeId × Value → H} {W : World} {fuel : Nat} {a : Option Addr} {len cap : Nat} {x : DataW H × List MemPlace}
    (h : DataW.trod enc Try.prog W 0 (fun _ => true) true fuel 22 [Value.slice a len cap] = some x) : ∃ l, InRaw W a len cap l := by
  rcases Deep.open_slice_pairs Try.underlying22 Try.underlying36 found_cells rfl rfl int_cellF int_cellF h with ⟨hcs, _⟩ | ⟨ad, l, c, m, n, V0, V1, D0, D1, P0, P1, hcs, _, hl, hm, hmm, _, hx⟩
  · simp at hcs
    obtain ⟨rfl, rfl, rfl⟩ := hcs
    exact ⟨[], Nat.le_refl _, Nat.zero_le _, rfl, .inl rfl, fun p hp => by cases hp⟩
  · simp at hcs
    obtain ⟨rfl, rfl, rfl⟩ := hcs
    simp only [if_true] at hmm
    subst hmm
    have each : ∀ i, i < m → ∃ q : Int × Int, (V0 i = .int .i64 q.1 ∧ V1 i = .int .i64 q.2) ∧ (-9223372036854775808 ≤ q.1 ∧ q.1 ≤ 9223372036854775807) ∧ (-9223372036854775808 ≤ q.2 ∧ q.2 ≤ 9223372036854775807) := fun i hi => by
      obtain ⟨_, _, g0, g1⟩ := hx i hi
      obtain ⟨s0, e0, _, k0⟩ := DataW.trod_int Try.underlying3 g0
      obtain ⟨s1, e1, _, k1⟩ := DataW.trod_int Try.underlying3 g1
      simp only [List.cons.injEq, and_true] at e0 e1
      exact ⟨(s0, s1), ⟨e0, e1⟩, wf_bd k0, wf_bd k1⟩
    obtain ⟨f, hf⟩ := Deep.choose_lt each
    refine ⟨(List.range len).map f, hl, hm, by simp, ?_, fun y hy => ?_⟩
    · by_cases h0 : len = 0
      · subst h0
        exact .inl rfl
      · obtain ⟨c00, c01, _⟩ := hx 0 (by omega)
        obtain ⟨b, off, spot⟩ := ad
        have hs : spot = none := by simpa [Addr.add] using World.cell?_spot c00
        subst hs
        refine .inr ⟨b, off, rfl, by simpa [Addr.add_lit] using World.block_lt_of_cell? W _ c00, ?_⟩
        refine raC_range (fun i hi => (hf i hi).1) (fun i hi => ?_) len (by omega)
        obtain ⟨d0, d1, _⟩ := hx i hi
        rw [Addr.add_lit] at d0 d1
        exact ⟨by simpa using d0, by simpa using d1⟩
    · obtain ⟨i, hi, rfl⟩ := List.mem_map.1 hy
      exact (hf i (by have := List.mem_range.1 hi; omega)).2
end Go.Proofs.Ytldcadpemnpbmaa
