/- A list of postings that came in, read as data: what a walk is told of it. -/
import Derived.Test.YtfhjnblcnkjooaaGood05
import Derived.Deep.SlicePairs
import Derived.ProofKit
import Derived.OpenShut
namespace Go.Proofs.Ytfhjnblcnkjooaa
open Go Go.RowKit Go.ChangeShapes Go.WideShapes Go.ChangeAt
set_option linter.unusedVariables false

/-- The cells of the first k elements. -/
def cellsTo (V0 V1 : Nat → Value) : Nat → List Value
  | 0 => []
  | k + 1 => cellsTo V0 V1 k ++ [V0 k, V1 k]
theorem cellsTo_length (V0 V1 : Nat → Value) : ∀ k, (cellsTo V0 V1 k).length = k * 2
  | 0 => rfl
  | k + 1 => by rw [cellsTo, List.length_append, cellsTo_length V0 V1 k]; simp; omega
theorem cellsTo_row {w : World} {b off : Nat} {V0 V1 : Nat → Value} {n : Nat} (h : ∀ i, i < n → w.cell? ⟨b, off + i * 2, none⟩ = some (V0 i) ∧ w.cell? ⟨b, off + (i * 2 + 1), none⟩ = some (V1 i)) :
    ∀ k, k ≤ n → ∀ j u, (cellsTo V0 V1 k)[j]? = some u → w.cell? ⟨b, off + j, none⟩ = some u
  | 0, _, j, u, hu => by simp [cellsTo] at hu
  | k + 1, hk, j, u, hu => by
    rw [cellsTo] at hu
    by_cases hj : j < k * 2
    · rw [List.getElem?_append_left (by rw [cellsTo_length]; exact hj)] at hu
      exact cellsTo_row h k (by omega) j u hu
    · rw [List.getElem?_append_right (by rw [cellsTo_length]; omega), cellsTo_length] at hu
      obtain ⟨h0, h1⟩ := h k (by omega)
      rcases hq : j - k * 2 with _ | _ | q
      · rw [hq] at hu
        simp at hu
        rw [show j = k * 2 by omega, h0, hu]
      · rw [hq] at hu
        simp at hu
        rw [show j = k * 2 + 1 by omega, h1, hu]
      · rw [hq] at hu
        simp at hu
theorem cellsTo_po {R : Option Addr → List Value → Prop} {V0 V1 : Nat → Value} {f : Nat → Po} {n : Nat} (h : ∀ i, i < n → V0 i = .int .i64 (f i).1 ∧ ∃ A c, V1 i = .slice A (f i).2.length c ∧ (f i).2.length ≤ c ∧ c ≤ maxLen ∧ R A (ints (f i).2)) :
    ∀ k, k ≤ n → PoCells R ((List.range k).map f) (cellsTo V0 V1 k)
  | 0, _ => rfl
  | k + 1, hk => by
    have ih := cellsTo_po h k (by omega)
    obtain ⟨h0, A, c, h1, h2, h3, h4⟩ := h k (by omega)
    rw [List.range_succ, List.map_append, cellsTo, h0, h1]
    exact ih.snoc h2 h3 h4

theorem po_cells : Try.prog.cellsOf 43 = 2 := by kernel_rfl
theorem int_cells : Try.prog.cellsOf 3 = 1 := by kernel_rfl
theorem ints_cells : Try.prog.cellsOf 39 = 1 := by kernel_rfl

theorem in_posts {H : Type} {enc : TypeId × Value → H} {W : World} {fuel : Nat} {a : Option Addr} {len cap : Nat} {x : DataW H × List MemPlace}
    (h : DataW.trod enc Try.prog W 0 (fun _ => true) true fuel 22 (Value.slice a len cap).cells.toList = some x) : ∃ ps, InPosts W a len cap ps := by
  rcases Deep.open_slice_pairs Try.underlying22 Try.underlying43 po_cells rfl rfl int_cells ints_cells h with ⟨hcs, _⟩ | ⟨ad, l, c, m, n, V0, V1, D0, D1, P0, P1, hcs, _, hl, hm, hmm, _, hx⟩
  · simp [Value.cells] at hcs
    obtain ⟨rfl, rfl, rfl⟩ := hcs
    exact ⟨[], Nat.le_refl _, Nat.zero_le _, rfl, Posts.nil, fun p hp => by cases hp⟩
  · simp [Value.cells] at hcs
    obtain ⟨rfl, rfl, rfl⟩ := hcs
    simp only [if_true] at hmm
    subst hmm
    have each : ∀ i, i < m → ∃ q : Po, (V0 i = .int .i64 q.1 ∧ ∃ A c, V1 i = .slice A q.2.length c ∧ q.2.length ≤ c ∧ c ≤ maxLen ∧ Row W W.heap.size A (ints q.2)) ∧ (Lit.int .i64 q.1).wf = true ∧ ∀ y ∈ q.2, (Lit.int .i64 y).wf = true := fun i hi => by
      obtain ⟨_, _, g0, g1⟩ := hx i hi
      obtain ⟨d, e0, _, hd⟩ := DataW.trod_int Try.underlying3 g0
      simp only [List.cons.injEq, and_true] at e0
      rcases open_ints Try.underlying39 Try.underlying3 int_cells g1 with ⟨e1, _⟩ | ⟨b, l2, c2, zs, e1, _, hl2, hm2, hz2, _, hcell, hwz⟩
      · simp only [List.cons.injEq, and_true] at e1
        exact ⟨(d, []), ⟨e0, none, 0, e1, Nat.le_refl _, Nat.zero_le _, Row.nil⟩, hd, fun y hy => by cases hy⟩
      · simp only [List.cons.injEq, and_true] at e1
        simp only [if_true] at hz2
        obtain ⟨h1, h2, h3, h4, h5⟩ := inRow_of (k := .i64) hl2 hm2 hz2 hcell hwz
        exact ⟨(d, zs.take l2), ⟨e0, some b, c2, by rw [h3]; exact e1, by rw [h3]; exact h1, h2, h4⟩, hd, h5⟩
    obtain ⟨f, hf⟩ := Deep.choose_lt each
    by_cases h0 : m = 0
    · have hl0 : len = 0 := by omega
      subst hl0
      exact ⟨[], hl, hm, rfl, Posts.nil, fun p hp => by cases hp⟩
    · obtain ⟨c00, _, _, _⟩ := hx 0 (by omega)
      obtain ⟨b, off, spot⟩ := ad
      have hs : spot = none := by simpa [Addr.add] using World.cell?_spot c00
      subst hs
      have hblt : b < W.heap.size := by simpa [Addr.add_lit] using World.block_lt_of_cell? W _ c00
      refine ⟨(List.range len).map f, hl, hm, by simp, ⟨cellsTo V0 V1 len, cellsTo_po (n := m) (fun i hi => (hf i hi).1) len hl, .inr ⟨b, off, rfl, hblt, cellsTo_row (n := m) (fun i hi => ?_) len hl⟩⟩, fun p hp => ?_⟩
      · obtain ⟨g0, g1, _, _⟩ := hx i hi
        rw [Addr.add_lit] at g0 g1
        exact ⟨g0, g1⟩
      · obtain ⟨i, hi, rfl⟩ := List.mem_map.1 hp
        have hil := List.mem_range.1 hi
        exact (hf i (by omega)).2
end Go.Proofs.Ytfhjnblcnkjooaa
