/- A slice of deeds that came in, opened; the table of TrailingZeros64, out of what the row lists. -/
import Derived.Test.YtkflmhpmnceniaaDoorRows
import Derived.Test.YtkflmhpmnceniaaDoorMade03
import Derived.Deep.SlicePairs
import Derived.Lib.LaidTab
import Derived.MakeChecks
namespace Go.Proofs.YtkflmhpmnceniaaDoor
open Go Go.RowKit Go.Deep Go.ChangeShapes Go.WideShapes
set_option linter.unusedVariables false

theorem dcells_row {w : World} {b : Nat} : ∀ (ds : List (Int × Int)) (off : Nat), (∀ (i : Nat) (d : Int × Int), ds[i]? = some d → w.cell? ⟨b, off + i * 2, none⟩ = some (.int .i64 d.1) ∧ w.cell? ⟨b, off + i * 2 + 1, none⟩ = some (.int .i64 d.2)) →
    ∀ j u, (dcells ds)[j]? = some u → w.cell? ⟨b, off + j, none⟩ = some u
  | [], off, h, j, u, hu => by simp [dcells] at hu
  | d :: ds, off, h, 0, u, hu => by
    have := (h 0 d rfl).1
    simp [dcells] at hu
    subst hu
    simpa using this
  | d :: ds, off, h, 1, u, hu => by
    have := (h 0 d rfl).2
    simp [dcells] at hu
    subst hu
    simpa using this
  | d :: ds, off, h, j + 2, u, hu => by
    have ih := dcells_row ds (off + 2) (fun i e he => by
      have := h (i + 1) e he
      rw [show off + (i + 1) * 2 = off + 2 + i * 2 by omega] at this
      exact this) j u hu
    rw [show off + (j + 2) = off + 2 + j by omega]
    exact ih

theorem wf64 {z : Int} (h : (Lit.int .i64 z).wf = true) : -9223372036854775808 ≤ z ∧ z < 9223372036854775808 := by
  have : -9223372036854775808 ≤ z ∧ z ≤ 9223372036854775807 := by simpa [Lit.wf, IntKind.min, IntKind.max, IntKind.signed, IntKind.bits] using h
  omega

theorem deed_struct : ∃ f0 f1 : Field, Tryd.prog.underlying 48 = some (.struct #[f0, f1]) ∧ f0.offset = 0 ∧ f1.offset = 1 ∧ f0.type = 3 ∧ f1.type = 3 := ⟨_, _, Tryd.underlying48, rfl, rfl, rfl, rfl⟩
theorem deed_cells : Tryd.prog.cellsOf 48 = 2 := by kernel_rfl
theorem int_cells : Tryd.prog.cellsOf 3 = 1 := by kernel_rfl

theorem open_deeds {H : Type} {enc : TypeId × Value → H} {W : World} {spare : Nat → Bool} {held : Bool} {fuel : Nat} {a : Option Addr} {len cap : Nat} {x : DataW H × List MemPlace}
    (h : DataW.trod enc Tryd.prog W 0 spare held fuel 22 [.slice a len cap] = some x) : ∃ ds, InDeeds W a len cap ds := by
  obtain ⟨f0, f1, hs, o0, o1, t0, t1⟩ := deed_struct
  rcases open_slice_pairs Tryd.underlying22 hs deed_cells o0 o1 (by rw [t0]; exact int_cells) (by rw [t1]; exact int_cells) h with ⟨hcs, _⟩ | ⟨ad, l, c, m, n, V0, V1, D0, D1, P0, P1, hcs, _, hl, hm, hmm, _, hall⟩
  · simp at hcs
    obtain ⟨rfl, rfl, rfl⟩ := hcs
    exact ⟨[], Nat.le_refl _, Nat.zero_le _, rfl, .inl rfl, fun d hd => absurd hd List.not_mem_nil⟩
  · simp at hcs
    obtain ⟨rfl, rfl, rfl⟩ := hcs
    have hlm : len ≤ m := by rw [hmm]; split <;> omega
    have hv : ∀ i, i < m → ∃ p q : Int, W.cell? (ad.add (i * 2)) = some (.int .i64 p) ∧ W.cell? (ad.add (i * 2 + 1)) = some (.int .i64 q) ∧ (Lit.int .i64 p).wf = true ∧ (Lit.int .i64 q).wf = true := by
      intro i hi
      obtain ⟨c0, c1, d0, d1⟩ := hall i hi
      rw [t0] at d0
      rw [t1] at d1
      obtain ⟨p, e0, _, w0⟩ := DataW.trod_int Tryd.underlying3 d0
      obtain ⟨q, e1, _, w1⟩ := DataW.trod_int Tryd.underlying3 d1
      simp only [List.cons.injEq, and_true] at e0 e1
      rw [e0] at c0
      rw [e1] at c1
      exact ⟨p, q, c0, c1, w0, w1⟩
    refine ⟨(List.range len).map fun i => (intOf (V0 i), intOf (V1 i)), hl, hm, by simp, ?_, fun d hd => ?_⟩
    · by_cases h0 : len = 0
      · subst h0
        exact .inl (by simp [dcells])
      · obtain ⟨p, q, c0, _, _, _⟩ := hv 0 (by omega)
        obtain ⟨b, off, spot⟩ := ad
        have hsp : spot = none := by simpa [Addr.add] using World.cell?_spot c0
        subst hsp
        refine .inr ⟨b, off, rfl, by simpa [Addr.add_lit] using World.block_lt_of_cell? W _ c0, dcells_row _ _ fun i d hd => ?_⟩
        rw [List.getElem?_map] at hd
        obtain ⟨i', hi', rfl⟩ := Option.map_eq_some_iff.1 hd
        obtain ⟨hil, hie⟩ := List.getElem?_eq_some_iff.1 hi'
        simp at hil hie
        subst hie
        obtain ⟨c0, c1, _, _⟩ := hall i (by omega)
        obtain ⟨p, q, e0, e1, _, _⟩ := hv i (by omega)
        rw [c0] at e0
        rw [c1] at e1
        injection e0 with e0
        injection e1 with e1
        rw [e0] at c0 ⊢
        rw [e1] at c1 ⊢
        rw [Addr.add_lit] at c0 c1
        exact ⟨c0, by rw [Nat.add_assoc]; exact c1⟩
    · obtain ⟨i, hi, rfl⟩ := List.mem_map.1 hd
      have hil := List.mem_range.1 hi
      obtain ⟨c0, c1, _, _⟩ := hall i (by omega)
      obtain ⟨p, q, e0, e1, w0, w1⟩ := hv i (by omega)
      rw [c0] at e0
      rw [c1] at e1
      injection e0 with e0
      injection e1 with e1
      rw [e0, e1]
      exact ⟨wf64 w0, wf64 w1⟩

/-- What the rows list. -/
def laid03 : List (String × DataW Unit) := [("math/bits.deBruijn64tab", Rows.laid_math_bits_deBruijn64tab)]
def tab64 : List Int := Lib.deBruijn64tab.map fun (n : Nat) => (n : Int)
theorem laid_tab : (Rows.laid_math_bits_deBruijn64tab : DataW Unit) = Lib.tabData .u8 tab64 := by
  simp [Rows.laid_math_bits_deBruijn64tab, Lib.tabData, tab64, Lib.deBruijn64tab]
theorem gTab : Tryd.prog.globalNamed "math/bits.deBruijn64tab" = some 0 := by kernel_rfl
theorem tab_of_laid {W : World} (h : laidMetH Tryd.prog laid03 W) : Tab W := by
  rw [MakeChecks.laidMetH_plain _ _ _ (by kernel_rfl)] at h
  unfold laid03 at h
  rw [laid_tab] at h
  have hT := Lib.tabIs_of_head (t := 73) (e := 5) (n := 64) gTab (by kernel_rfl) Tryd.underlying73 Tryd.underlying5 (by kernel_rfl) (by kernel_rfl) h
  intro j hj
  have hc := hT.cell gTab j (by unfold tab64; rw [List.length_map]; exact hj)
  rw [hc]
  congr 2
  unfold tab64
  rw [List.getD_eq_getElem?_getD, List.getD_eq_getElem?_getD, List.getElem?_map]
  rw [List.getElem?_eq_getElem hj]
  rfl
end Go.Proofs.YtkflmhpmnceniaaDoor
