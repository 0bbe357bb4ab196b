/- A list of postings in memory: a struct of its bytes, where its blocks end, how many postings and places there are; what its short calls answer. -/
import Derived.Test.YtfhjnblcnkjooaaExact05
import Derived.Test.YtfhjnblcnkjooaaGood05
import Derived.Laws.Rows
import Derived.RangeFuncOwn
set_option linter.unusedVariables false
namespace Go.Proofs.Ytfhjnblcnkjooaa
open Go Go.RowKit

def endCells : List (Int × Nat) → List Value
  | [] => []
  | p :: r => .int .i64 p.1 :: .int .i64 (p.2 : Int) :: endCells r
theorem endCells_length : ∀ l : List (Int × Nat), (endCells l).length = l.length * 2
  | [] => rfl
  | p :: r => by simp only [endCells, List.length_cons, endCells_length r]; omega
theorem endCells_append : ∀ a b : List (Int × Nat), endCells (a ++ b) = endCells a ++ endCells b
  | [], b => rfl
  | p :: a, b => by simp only [List.cons_append, endCells, endCells_append a b]
theorem endCells_at : ∀ (l : List (Int × Nat)) (k : Nat) (p : Int × Nat), l[k]? = some p → (endCells l)[k * 2]? = some (.int .i64 p.1) ∧ (endCells l)[k * 2 + 1]? = some (.int .i64 (p.2 : Int))
  | [], k, p, h => by simp at h
  | q :: l, 0, p, h => by
    simp only [List.getElem?_cons_zero, Option.some.injEq] at h
    subst h
    exact ⟨rfl, rfl⟩
  | q :: l, k + 1, p, h => by
    rw [List.getElem?_cons_succ] at h
    have ih := endCells_at l k p h
    rw [endCells, show (k + 1) * 2 = k * 2 + 1 + 1 by omega]
    exact ih
theorem endCells_one : ∀ (l : List (Int × Nat)), ∀ u ∈ endCells l, u.oneCell' = true
  | [], u, h => by cases h
  | p :: l, u, h => by
    simp only [endCells, List.mem_cons] at h
    rcases h with rfl | rfl | h
    · rfl
    · rfl
    · exact endCells_one l u h
theorem info_end : (Try.prog.info? 55).map (fun i => (i.zero, i.size, i.bytes)) = some (some (.agg #[.int .i64 0, .int .i64 0]), 2, 16) := by kernel_rfl

/-- Where the blocks of a list end, in memory. -/
def endsV (l : List Po) : List Value := endCells (endsC l (blocksP l.length))
theorem endsV_length (l : List Po) : (endsV l).length = blocksP l.length * 2 := by rw [endsV, endCells_length, endsC_length]

/-- The struct lies at block B: the bytes bs, and all else of the postings l; its rows are its own, from base on. -/
def LAt (w : World) (base B : Nat) (bs : List UInt8) (l : List Po) : Prop :=
  base ≤ B ∧ ∃ vb ve, w.heap[B]? = some (.cells #[vb, ve, .int .i64 (l.length : Int), .int .i64 (totalP l : Int)] 49 (0, 0)) ∧
    w.ownsRow base 5 1 vb bs.length (Lib.byteCells bs) ∧ w.ownsRow base 55 2 ve (blocksP l.length) (endsV l)
theorem cell_four {w : World} {B : Nat} {a b c d : Value} {t : TypeId} (h : w.heap[B]? = some (.cells #[a, b, c, d] t (0, 0))) :
    (w.cell? ⟨B, 0, none⟩ = some a ∧ w.cell? ⟨B, 1, none⟩ = some b ∧ w.cell? ⟨B, 2, none⟩ = some c ∧ w.cell? ⟨B, 3, none⟩ = some d) ∧
    w.frozen? ⟨B, 0, none⟩ = false ∧ w.frozen? ⟨B, 1, none⟩ = false ∧ w.frozen? ⟨B, 2, none⟩ = false ∧ w.frozen? ⟨B, 3, none⟩ = false := by
  simp [World.cell?, World.frozen?, h]
section
variable {w w' : World} {base B : Nat} {bs : List UInt8} {l : List Po}
theorem LAt.lt (h : LAt w base B bs l) : B < w.heap.size := by
  obtain ⟨_, vb, ve, hv, _⟩ := h
  exact (Array.getElem?_eq_some_iff.1 hv).1
theorem LAt.below (h : LAt w base B bs l) (hb : Below w.heap.size w w') : LAt w' base B bs l := by
  have hl := h.lt
  obtain ⟨h1, vb, ve, hv, ho, he⟩ := h
  exact ⟨h1, vb, ve, (hb.block B hl).trans hv, owned_below ho hb, owned_below he hb⟩
/-- It stays where all cells stay. -/
theorem LAt.cellsKept (h : LAt w base B bs l) (hk : ∀ (k : Nat) (o : Obj), w.heap[k]? = some o → o.isCells = true → w'.heap[k]? = some o) : LAt w' base B bs l := by
  obtain ⟨h1, vb, ve, hv, ho, he⟩ := h
  have key : ∀ {E : TypeId} {size : Nat} {v : Value} {n : Nat} {xs : List Value}, w.ownsRow base E size v n xs → w'.ownsRow base E size v n xs := fun ho => by
    refine owned_keep ho fun g hg => ?_
    rcases ho.2 with ⟨rfl, _⟩ | ⟨g', cap, cur, rfl, _, hh, _⟩
    · cases hg
    · simp only [Value.ownBlock, Option.some.injEq] at hg
      subst hg
      rw [hk _ _ hh rfl, hh]
  exact ⟨h1, vb, ve, hk B _ hv rfl, key ho, key he⟩
/-- What a reader of it has. -/
theorem LAt.read (h : LAt w base B bs l) : ∃ Ab cb Ae ce, (w.cell? ⟨B, 0, none⟩ = some (.slice Ab bs.length cb) ∧ w.cell? ⟨B, 1, none⟩ = some (.slice Ae (blocksP l.length) ce) ∧ w.cell? ⟨B, 2, none⟩ = some (.int .i64 (l.length : Int)) ∧ w.cell? ⟨B, 3, none⟩ = some (.int .i64 (totalP l : Int))) ∧
    bs.length ≤ cb ∧ cb ≤ maxLen ∧ blocksP l.length ≤ ce ∧ Row w w.heap.size Ab (Lib.byteCells bs) ∧ Row w w.heap.size Ae (endsV l) ∧ (Ab = none → bs.length = 0 ∧ cb = 0) := by
  obtain ⟨_, vb, ve, hv, ho, he⟩ := h
  have hx := (cell_four hv).1
  obtain ⟨Ae, ce, rfl, hce, hre⟩ := owned_row he
  rcases ho.2 with ⟨rfl, h0⟩ | ⟨g, c, cur, rfl, _, _, hnc, hcm, _, _⟩
  · exact ⟨none, 0, Ae, ce, by rw [h0]; exact hx, by omega, by unfold maxLen; omega, hce, by rw [List.eq_nil_of_length_eq_zero h0]; exact Row.nil, hre, fun _ => ⟨h0, rfl⟩⟩
  · exact ⟨_, c, Ae, ce, hx, hnc, hcm, hce, owned_row_of ho, hre, fun e => by cases e⟩
end
/-- Where block k ends, in memory. -/
theorem row_end {w : World} {D : Nat} {A : Option Addr} {l : List Po} (h : Row w D A (endsV l)) {k : Nat} (hk : k < blocksP l.length) :
    ∃ b off, A = some ⟨b, off, none⟩ ∧ b < D ∧ w.cell? ⟨b, off + k * 2, none⟩ = some (.int .i64 (docOf (-1) (l.take (8 * (k + 1))))) ∧ w.cell? ⟨b, off + k * 2 + 1, none⟩ = some (.int .i64 ((bytesP (-1) (l.take (8 * (k + 1)))).length : Int)) := by
  obtain ⟨b, off, rfl, hb, hc⟩ := h.at_ (by rw [endsV_length]; omega)
  have h2 := endCells_at _ _ _ (endsC_at l (blocksP l.length) k hk)
  exact ⟨b, off, rfl, hb, hc _ _ h2.1, by rw [Nat.add_assoc]; exact hc _ _ h2.2⟩

/-! ## The short calls -/

section
variable (base B : Nat) (bs : List UInt8) (l : List Po) (w : World) (h : LAt w base B bs l)
include h
theorem list_Len : Calls Try.prog 22 #[.pointer (some ⟨B, 0, none⟩)] w fun e w' => e = .returned (.int .i64 (l.length : Int)) ∧ w = w' := by
  obtain ⟨Ab, cb, Ae, ce, ⟨c0, c1, c2, c3⟩, _⟩ := h.read
  clear h
  go_enter Try.func22, Try.ntmps22
  go_wp2
  go_ret
  exact ⟨rfl, rfl⟩
theorem list_Total : Calls Try.prog 31 #[.pointer (some ⟨B, 0, none⟩)] w fun e w' => e = .returned (.int .i64 (totalP l : Int)) ∧ w = w' := by
  obtain ⟨Ab, cb, Ae, ce, ⟨c0, c1, c2, c3⟩, _⟩ := h.read
  clear h
  go_enter Try.func31, Try.ntmps31
  go_wp2
  go_ret
  exact ⟨rfl, rfl⟩
theorem list_Blocks : Calls Try.prog 18 #[.pointer (some ⟨B, 0, none⟩)] w fun e w' => e = .returned (.int .i64 (blocksP l.length : Int)) ∧ w = w' := by
  obtain ⟨Ab, cb, Ae, ce, ⟨c0, c1, c2, c3⟩, _⟩ := h.read
  clear h
  go_enter Try.func18, Try.ntmps18
  go_wp2
  go_ret
  exact ⟨rfl, rfl⟩
theorem list_has (k : Int) (hk0 : -1 ≤ k) : Calls Try.prog 42 #[.pointer (some ⟨B, 0, none⟩), .int .i64 k] w fun e w' => e = .returned (.bool (decide (0 ≤ k ∧ k < (blocksP l.length : Int)))) ∧ w = w' := by
  have HB := Lib.hid (list_Blocks base B bs l w h)
  clear h
  obtain ⟨n, hn⟩ : ∃ n, n = blocksP l.length := ⟨_, rfl⟩
  rw [← hn] at HB
  rw [← hn]
  clear hn
  by_cases hz : k < 0
  · have hd : decide (0 ≤ k ∧ k < (n : Int)) = false := decide_eq_false (by omega)
    rw [hd]
    have hg : decide (0 ≤ k) = false := decide_eq_false (by omega)
    go_enter Try.func42, Try.ntmps42
    go_wp2
    go_ret
    exact ⟨rfl, rfl⟩
  · have hg : decide (0 ≤ k) = true := decide_eq_true (by omega)
    have hd : decide (0 ≤ k ∧ k < (n : Int)) = decide (k < (n : Int)) := by
      by_cases h2 : k < (n : Int)
      · rw [decide_eq_true h2, decide_eq_true ⟨by omega, h2⟩]
      · rw [decide_eq_false h2, decide_eq_false (fun h => h2 h.2)]
    rw [hd]
    clear hd
    go_enter Try.func42, Try.ntmps42
    go_wp2_with (go_at_call 18; refine HB.out.mono ?_; rintro e w' ⟨rfl, rfl⟩)
    go_ret
    exact ⟨rfl, rfl⟩
/-- Where what stands ahead of block k ends. -/
theorem list_ahead (k : Nat) (hk : k ≤ blocksP l.length) (hl : l.length ≤ 1073741824) : Calls Try.prog 43 #[.pointer (some ⟨B, 0, none⟩), .int .i64 (k : Int)] w fun e w' =>
    e = .returned (.agg #[.int .i64 (docOf (-1) (l.take (8 * k))), .int .i64 ((bytesP (-1) (l.take (8 * k))).length : Int)]) ∧ Below w.heap.size w w' := by
  obtain ⟨Ab, cb, Ae, ce, ⟨c0, c1, c2, c3⟩, _, _, hce, _, hre, _⟩ := h.read
  have hlt := h.lt
  have hbl : blocksP l.length ≤ 1073741824 := by unfold blocksP; omega
  clear h c0 c2 c3
  rcases Nat.eq_zero_or_pos k with rfl | hpos
  · go_enter Try.func43, Try.ntmps43
    go_wp2
    refine bodyPost_ret (results_cell_row (P := Try.prog) rfl _ _ w.heap.size 55 _ (0, 0) _ rfl (by first | rfl | exact heap_alloc_new _ _) Try.underlying55 rfl (by kernel_rfl)) rfl ?_
    exact ⟨rfl, by repeat (first | exact (Below.refl _ _).alloc (Nat.le_refl _) _ | refine Below.setCell ?_ (by simp) _)⟩
  · obtain ⟨j, rfl⟩ : ∃ j, k = j + 1 := ⟨k - 1, by omega⟩
    obtain ⟨b, o, rfl, hb, e0, e1⟩ := row_end hre (k := j) (by omega)
    obtain ⟨n, hn⟩ : ∃ n, n = blocksP l.length := ⟨_, rfl⟩
    rw [← hn] at c1 hk hce hbl
    obtain ⟨x, hx⟩ : ∃ x, x = docOf (-1) (l.take (8 * (j + 1))) := ⟨_, rfl⟩
    obtain ⟨y, hy⟩ : ∃ y, y = (bytesP (-1) (l.take (8 * (j + 1)))).length := ⟨_, rfl⟩
    rw [← hx] at e0 ⊢
    rw [← hy] at e1 ⊢
    have hj : ((j + 1 : Nat) : Int) = (j : Int) + 1 := by omega
    have hz : ((j : Int) + 1 == 0) = false := by rw [beq_eq_false_iff_ne]; omega
    rw [hj]
    have hjn : j < n := by omega
    clear hn hx hy hre hj hk hpos
    go_enter Try.func43, Try.ntmps43
    go_wp2
    refine bodyPost_ret (results_cell_row (P := Try.prog) rfl _ _ w.heap.size 55 _ (0, 0) _ rfl (by first | rfl | exact heap_alloc_new _ _) Try.underlying55 rfl (by kernel_rfl)) rfl ?_
    exact ⟨rfl, by repeat (first | exact (Below.refl _ _).alloc (Nat.le_refl _) _ | refine Below.setCell ?_ (by simp) _)⟩
end
end Go.Proofs.Ytfhjnblcnkjooaa
