/- Heads in memory: a row of them, and the variable that holds it; what their heap turns. No program. -/
import Derived.Test.YtpehcaidjlemiaaHeads11
import Derived.Test.YtpehcaidjlemiaaLol11
import Derived.OneCell
import Derived.Laws.OwnMore
set_option linter.unusedVariables false
namespace Go.Proofs.Ytpehcaidjlemiaa
open Go Go.RowKit

def hds : List Hd → List Value
  | [] => []
  | x :: H => .int .i64 x.1 :: .int .i64 (x.2.1 : Int) :: .int .i64 (x.2.2 : Int) :: hds H
theorem hds_length : ∀ H : List Hd, (hds H).length = H.length * 3
  | [] => rfl
  | x :: H => by simp [hds, hds_length H]; omega
theorem hds_append : ∀ a b : List Hd, hds (a ++ b) = hds a ++ hds b
  | [], b => rfl
  | x :: a, b => by simp [hds, hds_append a b]
theorem hds_take : ∀ (H : List Hd) (k : Nat), hds (H.take k) = (hds H).take (k * 3)
  | H, 0 => by simp [hds]
  | [], k + 1 => by simp [hds]
  | x :: H, k + 1 => by rw [show (k + 1) * 3 = k * 3 + 1 + 1 + 1 by omega]; simp [hds, hds_take H k]
theorem hds_at : ∀ {H : List Hd} {k : Nat} (hk : k < H.length), (hds H)[k * 3]? = some (.int .i64 H[k].1) ∧ (hds H)[k * 3 + 1]? = some (.int .i64 (H[k].2.1 : Int)) ∧ (hds H)[k * 3 + 2]? = some (.int .i64 (H[k].2.2 : Int))
  | [], k, hk => by simp at hk
  | x :: H, 0, hk => ⟨rfl, rfl, rfl⟩
  | x :: H, k + 1, hk => by
    have := hds_at (H := H) (k := k) (by simpa using hk)
    rw [show (k + 1) * 3 = k * 3 + 1 + 1 + 1 by omega]
    simpa [hds] using this
theorem hds_set : ∀ (H : List Hd) (k : Nat) (x : Hd), hds (H.set k x) = (((hds H).set (k * 3) (.int .i64 x.1)).set (k * 3 + 1) (.int .i64 (x.2.1 : Int))).set (k * 3 + 2) (.int .i64 (x.2.2 : Int))
  | [], k, x => by simp [hds]
  | y :: H, 0, x => by simp [hds]
  | y :: H, k + 1, x => by
    rw [List.set_cons_succ, hds, hds, hds_set H k x, show (k + 1) * 3 = k * 3 + 1 + 1 + 1 by omega]
    simp

/-- Types of blocks that a heap of heads turns. -/
def TurnH (t : TypeId) : Prop := t = 44 ∨ t = 38
/-- Nothing below base has turned, nor any block of another type. -/
structure MildH (base : Nat) (w w' : World) : Prop where
  below : Below base w w'
  keep : ∀ (k : Nat) (o : Obj), w.heap[k]? = some o → (∀ cs t fr, o = .cells cs t fr → ¬ TurnH t) → w'.heap[k]? = some o
section
variable {base : Nat} {w w' w'' : World}
theorem MildH.refl (base : Nat) (w : World) : MildH base w w := ⟨Below.refl _ _, fun _ _ h _ => h⟩
theorem MildH.trans (h : MildH base w w') (k : MildH base w' w'') : MildH base w w'' := ⟨h.below.trans k.below, fun i o hi ho => k.keep i o (h.keep i o hi ho) ho⟩
theorem MildH.of_below (h : Below w.heap.size w w') (hb : base ≤ w.heap.size) : MildH base w w' :=
  ⟨h.mono hb, fun k o hk _ => by rw [h.block k (Array.getElem?_eq_some_iff.1 hk).1, hk]⟩
theorem MildH.setCell {B i : Nat} {cs : Array Value} {t : TypeId} {fr : Nat × Nat} (h : w.heap[B]? = some (.cells cs t fr)) (ht : TurnH t) (hb : base ≤ B) (v : Value) : MildH base w (w.setCell ⟨B, i, none⟩ v) :=
  ⟨(Below.refl base w).setCell (p := ⟨B, i, none⟩) hb v, fun k o hk ho => by
    by_cases e : k = B
    · subst e
      rw [h] at hk
      injection hk with hk
      exact absurd ht (ho _ _ _ hk.symm)
    · rw [Below.heap_setCell _ _ _ _ e, hk]⟩
theorem MildH.grown {row : Option Nat} (hg : w.grownBy w' row) (hr : ∀ k, row = some k → base ≤ k ∧ ∃ cs t fr, w.heap[k]? = some (.cells cs t fr) ∧ TurnH t) (hb : base ≤ w.heap.size) : MildH base w w' :=
  ⟨(Below.refl base w).grown hg hb (fun k e => (hr k e).1), fun k o hk ho => by
    rw [hg.block k (Array.getElem?_eq_some_iff.1 hk).1 ?_, hk]
    intro e
    obtain ⟨_, cs, t, fr, h1, h2⟩ := hr k e.symm
    rw [h1] at hk
    injection hk with hk
    exact ho _ _ _ hk.symm h2⟩
theorem owned_kind {b : Nat} {e : TypeId} {size n : Nat} {v : Value} {xs : List Value} (h : w.ownsRow b e size v n xs) {g : Nat} (hg : v.ownBlock = some g) : ∃ cs, w.heap[g]? = some (.cells cs e (0, 0)) := by
  rcases h.2 with ⟨rfl, _⟩ | ⟨g', cap, cur, rfl, _, hh, r⟩
  · cases hg
  · simp only [Value.ownBlock, Option.some.injEq] at hg
    subst hg
    exact ⟨_, hh⟩
theorem MildH.grownOwn {e : TypeId} {size n : Nat} {v : Value} {xs : List Value} (ho : w.ownsRow base e size v n xs) (he : TurnH e) (hg : w.grownBy w' v.ownBlock) (hb : base ≤ w.heap.size) : MildH base w w' :=
  MildH.grown hg (fun k hk => ⟨(ho.lt k hk).1, by obtain ⟨cs, h⟩ := owned_kind ho hk; exact ⟨cs, e, _, h, he⟩⟩) hb
/-- What is owned, of another type, stays. -/
theorem MildH.owned (h : MildH base w w') {b : Nat} {e : TypeId} {size n : Nat} {v : Value} {xs : List Value} (ho : w.ownsRow b e size v n xs) (he : ¬ TurnH e) : w'.ownsRow b e size v n xs := by
  refine ⟨ho.1, ?_⟩
  rcases ho.2 with hn | ⟨g, cap, cur, hv, hg, hh, r⟩
  · exact .inl hn
  · exact .inr ⟨g, cap, cur, hv, hg, h.keep g _ hh (fun cs t fr e' => by cases e'; exact he), r⟩
theorem ownedH_cut {b : Nat} {e : TypeId} {size g n m cap : Nat} {xs : List Value} (h : w.ownsRow b e size (.slice (some ⟨g, 0, none⟩) n cap) n xs) (hm : m ≤ n) : w.ownsRow b e size (.slice (some ⟨g, 0, none⟩) m cap) m (xs.take (m * size)) := by
  have hmn : m * size ≤ n * size := Nat.mul_le_mul_right _ hm
  refine ⟨by rw [List.length_take, h.1]; omega, ?_⟩
  rcases h.2 with ⟨hv, _⟩ | ⟨g', cap', cur, hv, hg, hh, h1, h2, h3, h4⟩
  · cases hv
  · cases hv
    refine .inr ⟨g, cap, cur, rfl, hg, hh, by omega, h2, h3, ?_⟩
    rw [← h4, List.take_take, Nat.min_eq_left hmn]
end

/-- The variable at block B holds the heads H, in a row of their own; both lie from base on. -/
def HAt (base : Nat) (w : World) (B : Nat) (H : List Hd) : Prop :=
  base ≤ B ∧ ∃ v, w.heap[B]? = some (.cells #[v] 38 (0, 0)) ∧ w.ownsRow base 44 3 v H.length (hds H)
section
variable {base B : Nat} {w w' : World} {H : List Hd}
theorem HAt.below (h : HAt base w B H) (hb : Below w.heap.size w w') : HAt base w' B H := by
  obtain ⟨h1, v, h2, h3⟩ := h
  exact ⟨h1, v, by rw [hb.block B (Array.getElem?_eq_some_iff.1 h2).1, h2], owned_below h3 hb⟩
theorem HAt.lt (h : HAt base w B H) : B < w.heap.size := by
  obtain ⟨_, v, h2, _⟩ := h
  exact (Array.getElem?_eq_some_iff.1 h2).1
/-- What is read of it. -/
theorem HAt.read (h : HAt base w B H) : ∃ A c, w.cell? ⟨B, 0, none⟩ = some (.slice A H.length c) ∧ H.length ≤ c ∧ c ≤ maxLen ∧ Row w w.heap.size A (hds H) := by
  obtain ⟨_, v, h2, h3⟩ := h
  obtain ⟨A, c, rfl, h4, h5, h6⟩ := owned_roomy h3
  exact ⟨A, c, cell_of_one h2, h4, h5, h6⟩
/-- One that is there. -/
theorem HAt.at_ (h : HAt base w B H) {k : Nat} (hk : k < H.length) : ∃ g c, w.heap[B]? = some (.cells #[.slice (some ⟨g, 0, none⟩) H.length c] 38 (0, 0)) ∧ w.ownsRow base 44 3 (.slice (some ⟨g, 0, none⟩) H.length c) H.length (hds H) ∧ H.length ≤ c ∧ c ≤ maxLen ∧ g ≠ B ∧
    w.cell? ⟨g, k * 3, none⟩ = some (.int .i64 H[k].1) ∧ w.cell? ⟨g, k * 3 + 1, none⟩ = some (.int .i64 (H[k].2.1 : Int)) ∧ w.cell? ⟨g, k * 3 + 2, none⟩ = some (.int .i64 (H[k].2.2 : Int)) := by
  obtain ⟨_, v, h2, h3⟩ := h
  rcases h3.2 with ⟨rfl, e⟩ | ⟨g, cap, cur, rfl, hg, hh, h5, h6, _⟩
  · have := h3.1
    rw [e, hds_length] at *
    simp at this
    omega
  · obtain ⟨e1, e2, e3⟩ := hds_at hk
    have hlt : k * 3 + 2 < H.length * 3 := by omega
    refine ⟨g, cap, h2, h3, h5, h6, fun e => ?_, ?_, ?_, ?_⟩
    · subst e
      rw [h2] at hh
      injection hh with hh
      injection hh with _ hh
      exact absurd hh (by decide)
    · rw [h3.cellAt _ (by omega)]; exact e1
    · rw [h3.cellAt _ (by omega)]; exact e2
    · rw [h3.cellAt _ (by omega)]; exact e3
end
end Go.Proofs.Ytpehcaidjlemiaa
