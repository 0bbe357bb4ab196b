/- Documents that were found, in memory: two cells each; lists of them of the call's own. -/
import Derived.Test.YtldcadpemnpbmaaPlain13
import Derived.Test.YtldcadpemnpbmaaBase
import Derived.Laws.OwnMore
import Derived.Test.YtldcadpemnpbmaaProg
set_option linter.unusedVariables false
namespace Go.Proofs.Ytldcadpemnpbmaa
open Go Go.RowKit

abbrev foV (x : Fo) : Value := .agg #[.int .i64 (x.1 : Int), .int .i64 x.2]
def foC : List Fo → List Value
  | [] => []
  | x :: l => .int .i64 (x.1 : Int) :: .int .i64 x.2 :: foC l
theorem foC_length : ∀ l : List Fo, (foC l).length = l.length * 2
  | [] => rfl
  | x :: l => by simp only [foC, List.length_cons, foC_length l]; omega
theorem foC_append : ∀ a b : List Fo, foC (a ++ b) = foC a ++ foC b
  | [], _ => rfl
  | x :: a, b => by simp [foC, foC_append a b]
theorem foC_at : ∀ {l : List Fo} {k : Nat} (hk : k < l.length), (foC l)[k * 2]? = some (.int .i64 (l[k].1 : Int)) ∧ (foC l)[k * 2 + 1]? = some (.int .i64 l[k].2)
  | [], _, h => by simp at h
  | x :: l, 0, _ => ⟨rfl, rfl⟩
  | x :: l, k + 1, h => by
    have := foC_at (l := l) (k := k) (by simpa using h)
    rw [show (k + 1) * 2 = k * 2 + 1 + 1 by omega]
    simpa [foC] using this
theorem foC_oneCell : ∀ l : List Fo, ∀ u ∈ foC l, u.oneCell' = true
  | [], u, h => by cases h
  | x :: l, u, h => by
    rw [foC, List.mem_cons, List.mem_cons] at h
    rcases h with rfl | rfl | h
    · rfl
    · rfl
    · exact foC_oneCell l u h
theorem foC_drop : ∀ (l : List Fo) (k : Nat), foC (l.drop k) = (foC l).drop (k * 2)
  | l, 0 => by simp
  | [], k + 1 => by simp [foC]
  | x :: l, k + 1 => by rw [show (k + 1) * 2 = k * 2 + 1 + 1 by omega]; simp [foC, foC_drop l k]
theorem info_found : (Try.prog.info? 36).map (fun i => (i.zero, i.size, i.bytes)) = some (some (.agg #[.int .i64 0, .int .i64 0]), 2, 16) := by kernel_rfl
/-- Documents behind an address. -/
def FoRow (w : World) (A : Option Addr) (l : List Fo) : Prop := Row w w.heap.size A (foC l)
theorem FoRow.later {w w' : World} {A : Option Addr} {l : List Fo} (h : FoRow w A l) (hb : Below w.heap.size w w') : FoRow w' A l := Row.more (Row.below h hb) hb.size
theorem FoRow.at_ {w : World} {A : Option Addr} {l : List Fo} (h : FoRow w A l) {k : Nat} (hk : k < l.length) :
    ∃ b off, A = some ⟨b, off, none⟩ ∧ b < w.heap.size ∧ w.cell? ⟨b, off + k * 2, none⟩ = some (.int .i64 (l[k].1 : Int)) ∧ w.cell? ⟨b, off + k * 2 + 1, none⟩ = some (.int .i64 l[k].2) := by
  obtain ⟨b, off, rfl, hb, hc⟩ := Row.at_ h (by rw [foC_length]; omega)
  obtain ⟨g1, g2⟩ := foC_at hk
  exact ⟨b, off, rfl, hb, hc _ _ g1, by have := hc _ _ g2; rwa [← Nat.add_assoc] at this⟩
/-- .. with the first one's cells, and where the others stand. -/
theorem FoRow.cons {w : World} {A : Option Addr} {x : Fo} {l : List Fo} (h : FoRow w A (x :: l)) :
    ∃ b off, A = some ⟨b, off, none⟩ ∧ b < w.heap.size ∧ w.cell? ⟨b, off, none⟩ = some (.int .i64 (x.1 : Int)) ∧ w.cell? ⟨b, off + 1, none⟩ = some (.int .i64 x.2) ∧ FoRow w (some ⟨b, off + 2, none⟩) l := by
  obtain ⟨b, off, rfl, hb, hc⟩ := Row.at_ h (by simp [foC])
  refine ⟨b, off, rfl, hb, hc 0 _ rfl, hc 1 _ rfl, .inr ⟨b, off + 2, rfl, hb, fun j u hu => ?_⟩⟩
  have := hc (j + 2) u (by simpa [foC] using hu)
  rwa [show off + 2 + j = off + (j + 2) by omega]
/-- A list of them of the call's own. -/
def OwnFo (base : Nat) (w : World) (v : Value) (l : List Fo) : Prop := w.ownsRow base 36 2 v l.length (foC l)
theorem OwnFo.nil {base : Nat} {w : World} : OwnFo base w (.slice none 0 0) [] := World.ownsRow_nil _ _ _ _
theorem OwnFo.below {base : Nat} {w w' : World} {v : Value} {l : List Fo} (h : OwnFo base w v l) (hb : Below w.heap.size w w') : OwnFo base w' v l := owned_below h hb
theorem OwnFo.low {base b : Nat} {w : World} {v : Value} {l : List Fo} (h : OwnFo base w v l) (hb : b ≤ base) : OwnFo b w v l := owned_low h hb
/-- A list that a call is handed. -/
def InFo (w : World) (v : Value) (l : List Fo) : Prop := ∃ A c, v = .slice A l.length c ∧ l.length ≤ c ∧ c ≤ maxLen ∧ FoRow w A l
theorem InFo.later {w w' : World} {v : Value} {l : List Fo} (h : InFo w v l) (hb : Below w.heap.size w w') : InFo w' v l := by
  obtain ⟨A, c, h1, h2, h3, h4⟩ := h
  exact ⟨A, c, h1, h2, h3, h4.later hb⟩
theorem OwnFo.in_ {base : Nat} {w : World} {v : Value} {l : List Fo} (h : OwnFo base w v l) : InFo w v l := by
  obtain ⟨A, c, rfl, hc, hr⟩ := owned_row h
  refine ⟨A, c, rfl, hc, ?_, hr⟩
  rcases h.2 with ⟨hv, _⟩ | ⟨g, cap, cur, hv, _, _, _, hcp, _⟩
  · injection hv with _ _ e
    rw [e]
    exact Nat.zero_le _
  · injection hv with _ _ e
    rw [e]
    exact hcp
theorem InFo.nil {w : World} : InFo w (.slice none 0 0) [] := ⟨none, 0, rfl, Nat.le_refl _, Nat.zero_le _, .inl rfl⟩
/-- .. that lies below a block. -/
def InFoB (w : World) (B : Nat) (v : Value) (l : List Fo) : Prop := ∃ A c, v = .slice A l.length c ∧ l.length ≤ c ∧ c ≤ maxLen ∧ Row w B A (foC l)
theorem InFoB.below {w w' : World} {B : Nat} {v : Value} {l : List Fo} (h : InFoB w B v l) (hb : Below B w w') : InFoB w' B v l := by
  obtain ⟨A, c, h1, h2, h3, h4⟩ := h
  exact ⟨A, c, h1, h2, h3, Row.below h4 hb⟩
theorem InFoB.in_ {w : World} {B : Nat} {v : Value} {l : List Fo} (h : InFoB w B v l) (hb : B ≤ w.heap.size) : InFo w v l := by
  obtain ⟨A, c, h1, h2, h3, h4⟩ := h
  exact ⟨A, c, h1, h2, h3, Row.more h4 hb⟩
theorem InFo.b {w : World} {v : Value} {l : List Fo} (h : InFo w v l) : InFoB w w.heap.size v l := h
theorem fo_next {w : World} {B b o c : Nat} {x : Fo} {l : List Fo} {AN : Addr} (h : Row w B (some ⟨b, o, none⟩) (foC (x :: l))) (hc : l.length + 1 ≤ c) (hA : (if c = 1 then some (⟨b, o, none⟩ : Addr) else some ⟨b, o + 2, none⟩) = some AN) : Row w B (some AN) (foC l) := by
  by_cases e : c = 1
  · have : l = [] := List.eq_nil_of_length_eq_zero (by omega)
    rw [this]
    exact .inl rfl
  · rw [if_neg e] at hA
    injection hA with hA
    subst hA
    rcases h with h | ⟨b', o', e', hb, hc⟩
    · cases h
    · injection e' with e'
      injection e' with e1 e2
      subst e1 e2
      refine .inr ⟨b, o + 2, rfl, hb, fun i u hu => ?_⟩
      have := hc (i + 2) u (by simpa [foC] using hu)
      rwa [show o + (i + 2) = o + 2 + i by omega] at this
theorem fo_head {w : World} {B : Nat} {A : Option Addr} {x : Fo} {l : List Fo} (h : Row w B A (foC (x :: l))) :
    ∃ b off, A = some ⟨b, off, none⟩ ∧ b < B ∧ w.cell? ⟨b, off, none⟩ = some (.int .i64 (x.1 : Int)) ∧ w.cell? ⟨b, off + 1, none⟩ = some (.int .i64 x.2) := by
  obtain ⟨b, off, rfl, hb, hc⟩ := Row.at_ h (by simp [foC])
  exact ⟨b, off, rfl, hb, hc 0 _ rfl, hc 1 _ rfl⟩
def lenF (v : Value) : Nat := match v with | .slice _ n _ => n | _ => 0
/-- Lists that are not too long, of Scores that can be added. -/
def FewF (l : List Fo) : Prop := l.length ≤ 1073741824 ∧ ∀ x ∈ l, -1152921504606846976 ≤ x.2 ∧ x.2 ≤ 1152921504606846976
theorem FewF.tail {x : Fo} {l : List Fo} (h : FewF (x :: l)) : FewF l := ⟨by have := h.1; rw [List.length_cons] at this; omega, fun y hy => h.2 y (List.mem_cons_of_mem _ hy)⟩
theorem FewF.rest {a b : List Fo} (h : FewF a) : FewF (restF a b) := by
  unfold restF
  split
  · rcases a with _ | ⟨x, a⟩
    · exact h
    · exact h.tail
  · exact h
/-- What a call answers that gives such a list. -/
def GaveFo (l : List Fo) (w : World) (e : Ending) (w' : World) : Prop := ∃ v, e = .returned v ∧ OwnFo w.heap.size w' v l ∧ Below w.heap.size w w'
end Go.Proofs.Ytldcadpemnpbmaa
