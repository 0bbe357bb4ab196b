/- A list of deeds that came in, read as data. -/
import Derived.Test.YtgcdekaceimdnaaGreatQ16
namespace Go.Proofs.YtgcdekaceimdnaaGreat
open Go Go.RowKit Go.ChangeShapes Go.WideShapes Go.ChangeAt
set_option linter.unusedVariables false

/-- A deed: its kind, its number, a document's number and fields, whether raw. -/
abbrev Dd := Int × Int × Int × List Fd × Bool
def deedS : Shape Dd := ⟨3, 1, fun q => [.int .i64 q.1, .int .i64 q.2.1, .int .i64 q.2.2.1], fun q => q.2.2.2.1, fun q => [.bool q.2.2.2.2], fun _ => rfl, fun _ => rfl⟩
theorem deedS_at {p : Nat → Prop} {w : World} {A : Option Addr} {l : List Dd} (h : NestP deedS p w A l) {k : Nat} (hk : k < l.length) :
    ∃ b off A' c', A = some ⟨b, off, none⟩ ∧ p b ∧ w.cell? ⟨b, off + k * 5, none⟩ = some (.int .i64 l[k].1) ∧ w.cell? ⟨b, off + k * 5 + 1, none⟩ = some (.int .i64 l[k].2.1) ∧ w.cell? ⟨b, off + k * 5 + 2, none⟩ = some (.int .i64 l[k].2.2.1) ∧
      w.cell? ⟨b, off + k * 5 + 3, none⟩ = some (.slice A' l[k].2.2.2.1.length c') ∧ w.cell? ⟨b, off + k * 5 + 4, none⟩ = some (.bool l[k].2.2.2.2) ∧ l[k].2.2.2.1.length ≤ c' ∧ c' ≤ maxLen ∧ RowP p w A' (flds l[k].2.2.2.1) := by
  obtain ⟨b, off, A', c', e, hb, g1, g2, g3, g4, g5, g6⟩ := h.at_ hk
  exact ⟨b, off, A', c', e, hb, g5 0 _ rfl, g5 1 _ rfl, g5 2 _ rfl, g1, g6 0 _ rfl, g2, g3, g4⟩
theorem deed_cells : Tryz.prog.cellsOf 32 = 5 := by kernel_rfl
abbrev GoodDd (q : Dd) : Prop := (Lit.int .i64 q.1).wf = true ∧ (Lit.int .i64 q.2.1).wf = true ∧ InFd q.2.2.2.1
theorem open_deed {H : Type} {enc : TypeId × Value → H} {W : World} {fuel : Nat} {cs : List Value} {x : DataW H × List MemPlace} (h : DataW.trod enc Tryz.prog W 0 (fun _ => true) true fuel 32 cs = some x) :
    ∃ (q : Dd) (A : Option Addr) (c : Nat), cs = deedS.pre q ++ (.slice A (deedS.mid q).length c :: deedS.post q) ∧ (deedS.mid q).length ≤ c ∧ c ≤ maxLen ∧ FRow W W.heap.size A (deedS.mid q) ∧ GoodDd q := by
  obtain ⟨xs, n, _, _, hl, hlen, hf⟩ := DataW.trod_struct Tryz.underlying32 h
  rw [deed_cells] at hl
  have ci : Tryz.prog.cellsOf 3 = 1 := by kernel_rfl
  have cb : Tryz.prog.cellsOf 4 = 1 := by kernel_rfl
  obtain ⟨y0, y1, y2, y3, rfl⟩ : ∃ y0 y1 y2 y3, xs = [y0, y1, y2, y3] := by
    rcases xs with _ | ⟨v0, _ | ⟨v1, _ | ⟨v2, _ | ⟨v3, _ | ⟨v4, xs⟩⟩⟩⟩⟩
    · cases hlen
    · cases hlen
    · cases hlen
    · cases hlen
    · exact ⟨_, _, _, _, rfl⟩
    · simp only [List.length_cons] at hlen; exact absurd hlen (by simp)
  obtain ⟨v0, v1, v2, v3, v4, rfl⟩ : ∃ v0 v1 v2 v3 v4, cs = [v0, v1, v2, v3, v4] := by
    rcases cs with _ | ⟨v0, _ | ⟨v1, _ | ⟨v2, _ | ⟨v3, _ | ⟨v4, _ | ⟨v5, cs⟩⟩⟩⟩⟩⟩
    · cases hl
    · cases hl
    · cases hl
    · cases hl
    · cases hl
    · exact ⟨_, _, _, _, _, rfl⟩
    · simp only [List.length_cons] at hl; omega
  · have g0 := hf 0 _ rfl
    have g1 := hf 1 _ rfl
    have g2 := hf 2 _ rfl
    have g3 := hf 3 _ rfl
    simp [ci] at g0 g1
    simp [doc_cells] at g2
    simp [cb] at g3
    obtain ⟨k, e0, _, w0⟩ := DataW.trod_int Tryz.underlying3 g0
    obtain ⟨m, e1, _, w1⟩ := DataW.trod_int Tryz.underlying3 g1
    obtain ⟨q, A, c, e2, h1, h2, h3, h4⟩ := open_doc g2
    obtain ⟨r, e3, _⟩ := DataW.trod_bool Tryz.underlying4 g3
    simp only [List.cons.injEq, and_true] at e0 e1 e2 e3
    obtain ⟨rfl, rfl⟩ := e2
    subst e0 e1 e3
    exact ⟨(k, m, q.1, q.2, r), A, c, rfl, h1, h2, h3, w0, w1, h4⟩
abbrev InDeeds09 := InNest deedS GoodDd
theorem in_deeds {H : Type} {enc : TypeId × Value → H} {W : World} {fuel : Nat} {a : Option Addr} {len cap : Nat} {x : DataW H × List MemPlace}
    (h : DataW.trod enc Tryz.prog W 0 (fun _ => true) true fuel 22 (Value.slice a len cap).cells.toList = some x) : ∃ l, InDeeds09 W a len cap l :=
  in_nest deedS GoodDd Tryz.underlying22 deed_cells (fun h => open_deed h) (by simpa [Value.cells] using h)
end Go.Proofs.YtgcdekaceimdnaaGreat
