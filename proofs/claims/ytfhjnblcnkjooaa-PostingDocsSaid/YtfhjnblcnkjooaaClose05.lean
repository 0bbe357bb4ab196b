/- A list that takes a block in: its struct's cells turn, and the row of where blocks end grows; what else lies there stays. -/
import Derived.Test.YtfhjnblcnkjooaaBlock05
import Derived.Deep.AppendLies
import Derived.Deep.RegionLaw
set_option linter.unusedVariables false
namespace Go.Proofs.Ytfhjnblcnkjooaa
open Go Go.RowKit

/-- Types of blocks that a list's own building turns. -/
def Turning (t : TypeId) : Prop := t = 49 ∨ t = 55 ∨ t = 5
/-- Nothing below base has turned, nor any block of another type. -/
structure Mild (base : Nat) (w w' : World) : Prop where
  below : Below base w w'
  keep : ∀ (k : Nat) (o : Obj), w.heap[k]? = some o → (∀ cs t fr, o = .cells cs t fr → ¬ Turning t) → w'.heap[k]? = some o
section
variable {base : Nat} {w w' w'' : World}
theorem Mild.refl (base : Nat) (w : World) : Mild base w w := ⟨Below.refl _ _, fun _ _ h _ => h⟩
theorem Mild.trans (h : Mild base w w') (k : Mild base w' w'') : Mild base w w'' := ⟨h.below.trans k.below, fun i o hi ho => k.keep i o (h.keep i o hi ho) ho⟩
theorem Mild.of_below (h : Below w.heap.size w w') (hb : base ≤ w.heap.size) : Mild base w w' :=
  ⟨h.mono hb, fun k o hk _ => by rw [h.block k (Array.getElem?_eq_some_iff.1 hk).1, hk]⟩
theorem Mild.setCell {B i : Nat} {cs : Array Value} {t : TypeId} {fr : Nat × Nat} (h : w.heap[B]? = some (.cells cs t fr)) (ht : Turning t) (hb : base ≤ B) (v : Value) : Mild base w (w.setCell ⟨B, i, none⟩ v) :=
  ⟨(Below.refl base w).setCell (p := ⟨B, i, none⟩) hb v, fun k o hk ho => by
    by_cases e : k = B
    · subst e
      rw [h] at hk
      injection hk with hk
      exact absurd ht (ho _ _ _ hk.symm)
    · rw [Below.heap_setCell _ _ _ _ e, hk]⟩
theorem Mild.grown {row : Option Nat} (hg : w.grownBy w' row) (hr : ∀ k, row = some k → base ≤ k ∧ ∃ cs t fr, w.heap[k]? = some (.cells cs t fr) ∧ Turning t) (hb : base ≤ w.heap.size) : Mild base w w' :=
  ⟨(Below.refl base w).grown hg hb (fun k e => (hr k e).1), fun k o hk ho => by
    rw [hg.block k (Array.getElem?_eq_some_iff.1 hk).1 ?_, hk]
    intro e
    obtain ⟨_, cs, t, fr, h1, h2⟩ := hr k e.symm
    rw [h1] at hk
    injection hk with hk
    exact ho _ _ _ hk.symm h2⟩
theorem Mild.keepsOthers (h : Mild base w w') : KeepsOthers w w' :=
  ⟨h.below.size, fun k o hk hc => h.keep k o hk fun cs t fr e => by subst e; cases hc⟩
theorem owned_type {b : Nat} {e : TypeId} {size n : Nat} {v : Value} {xs : List Value} (h : w.ownsRow b e size v n xs) {g : Nat} (hg : v.ownBlock = some g) : ∃ cs fr, w.heap[g]? = some (.cells cs e fr) := by
  rcases h.2 with ⟨rfl, _⟩ | ⟨g', cap, cur, rfl, _, hh, r⟩
  · cases hg
  · simp only [Value.ownBlock, Option.some.injEq] at hg
    subst hg
    exact ⟨_, _, hh⟩
theorem Mild.grownOwn {e : TypeId} {size n : Nat} {v : Value} {xs : List Value} (ho : w.ownsRow base e size v n xs) (he : Turning e) (hg : w.grownBy w' v.ownBlock) (hb : base ≤ w.heap.size) : Mild base w w' :=
  Mild.grown hg (fun k hk => ⟨(ho.lt k hk).1, by obtain ⟨cs, fr, h⟩ := owned_type ho hk; exact ⟨cs, e, fr, h, he⟩⟩) hb

/-- Cells that stay while a list is built. -/
def RowM (base : Nat) (w : World) (A : Option Addr) (xs : List Value) : Prop :=
  xs = [] ∨ ∃ b off, A = some ⟨b, off, none⟩ ∧ b < w.heap.size ∧ (b < base ∨ ∃ cs t fr, w.heap[b]? = some (.cells cs t fr) ∧ ¬ Turning t) ∧ ∀ j u, xs[j]? = some u → w.cell? ⟨b, off + j, none⟩ = some u
theorem RowM.mild {A : Option Addr} {xs : List Value} (h : RowM base w A xs) (hm : Mild base w w') : RowM base w' A xs := by
  rcases h with h | ⟨b, off, e, hlt, hs, hc⟩
  · exact .inl h
  · have hblk : w'.heap[b]? = w.heap[b]? := by
      rcases hs with hs | ⟨cs, t, fr, h1, h2⟩
      · exact hm.below.block b hs
      · rw [hm.keep b _ h1 (fun cs' t' fr' e => by cases e; exact h2), h1]
    refine .inr ⟨b, off, e, Nat.lt_of_lt_of_le hlt hm.below.size, hs.imp id (fun ⟨cs, t, fr, h1, h2⟩ => ⟨cs, t, fr, hblk.trans h1, h2⟩), fun j u hu => ?_⟩
    rw [World.cell?_of_block (a := ⟨b, off + j, none⟩) hblk]
    exact hc j u hu
theorem RowM.at_ {A : Option Addr} {xs : List Value} (h : RowM base w A xs) (hn : 0 < xs.length) : ∃ b off, A = some ⟨b, off, none⟩ ∧ b < w.heap.size ∧ ∀ j u, xs[j]? = some u → w.cell? ⟨b, off + j, none⟩ = some u := by
  rcases h with rfl | ⟨b, off, e, h1, _, h2⟩
  · simp at hn
  · exact ⟨b, off, e, h1, h2⟩
theorem RowM.of_row {A : Option Addr} {xs : List Value} (h : Row w base A xs) (hb : base ≤ w.heap.size) : RowM base w A xs := by
  rcases h with h | ⟨b, off, e, h1, h2⟩
  · exact .inl h
  · exact .inr ⟨b, off, e, by omega, .inl h1, h2⟩
theorem RowM.of_own {b : Nat} {e : TypeId} {size n c : Nat} {A : Option Addr} {xs : List Value} (h : w.ownsRow b e size (.slice A n c) n xs) (he : ¬ Turning e) : RowM base w A xs := by
  have hr := owned_row_of h
  rcases hr with hr | ⟨b', off, rfl, h1, h2⟩
  · exact .inl hr
  · rcases h.2 with ⟨hv, _⟩ | ⟨g, cap, cur, hv, _, hh, _⟩
    · cases hv
    · injection hv with hv
      injection hv with hv
      injection hv with hv1 hv2
      subst hv1
      exact .inr ⟨_, off, rfl, h1, .inr ⟨_, _, _, hh, he⟩, h2⟩
end

/-- The struct, all cells on their own. -/
def LMid (w : World) (base B : Nat) (bs : List UInt8) (es : List (Int × Nat)) (many total : Int) : Prop :=
  base ≤ B ∧ ∃ vb ve, w.heap[B]? = some (.cells #[vb, ve, .int .i64 many, .int .i64 total] 49 (0, 0)) ∧
    w.ownsRow base 5 1 vb bs.length (Lib.byteCells bs) ∧ w.ownsRow base 55 2 ve es.length (endCells es)
theorem lat_mid {w : World} {base B : Nat} {bs : List UInt8} {l : List Po} : LAt w base B bs l ↔ LMid w base B bs (endsC l (blocksP l.length)) (l.length : Int) (totalP l : Int) := by
  unfold LAt LMid endsV
  rw [endsC_length]
section
variable {w w' : World} {base B : Nat} {bs : List UInt8} {es : List (Int × Nat)} {many total : Int}
theorem LMid.lt (h : LMid w base B bs es many total) : B < w.heap.size := by
  obtain ⟨_, vb, ve, hv, _⟩ := h
  exact (Array.getElem?_eq_some_iff.1 hv).1
theorem LMid.below (h : LMid w base B bs es many total) (hb : Below w.heap.size w w') : LMid w' base B bs es many total := by
  have hl := h.lt
  obtain ⟨h1, vb, ve, hv, ho, he⟩ := h
  exact ⟨h1, vb, ve, (hb.block B hl).trans hv, owned_below ho hb, owned_below he hb⟩
theorem owned_setCell {b : Nat} {e : TypeId} {size n : Nat} {v : Value} {xs : List Value} (h : w.ownsRow b e size v n xs) {B i : Nat} (hB : v.ownBlock ≠ some B) (u : Value) : (w.setCell ⟨B, i, none⟩ u).ownsRow b e size v n xs :=
  owned_keep h fun g hg => Below.heap_setCell _ _ _ _ fun e => hB (by rw [hg, e])
theorem LMid.setMany (h : LMid w base B bs es many total) (m : Int) : LMid (w.setCell ⟨B, 2, none⟩ (.int .i64 m)) base B bs es m total ∧ Mild base w (w.setCell ⟨B, 2, none⟩ (.int .i64 m)) := by
  obtain ⟨h1, vb, ve, hv, ho, he⟩ := h
  exact ⟨⟨h1, vb, ve, heap_setCell_same w B 2 _ _ _ hv, owned_setCell ho (owned_apart ho hv (by decide)) _, owned_setCell he (owned_apart he hv (by decide)) _⟩, Mild.setCell hv (.inl rfl) h1 _⟩
theorem LMid.setTotal (h : LMid w base B bs es many total) (m : Int) : LMid (w.setCell ⟨B, 3, none⟩ (.int .i64 m)) base B bs es many m ∧ Mild base w (w.setCell ⟨B, 3, none⟩ (.int .i64 m)) := by
  obtain ⟨h1, vb, ve, hv, ho, he⟩ := h
  exact ⟨⟨h1, vb, ve, heap_setCell_same w B 3 _ _ _ hv, owned_setCell ho (owned_apart ho hv (by decide)) _, owned_setCell he (owned_apart he hv (by decide)) _⟩, Mild.setCell hv (.inl rfl) h1 _⟩
/-- The row of ends has grown, and the struct leads to it. -/
theorem LMid.pushed {vb ve v' : Value} {w0 w1 : World} {x : Int} {z : Nat} (hB : base ≤ B) (hv : w.heap[B]? = some (.cells #[vb, ve, .int .i64 many, .int .i64 total] 49 (0, 0))) (ho : w.ownsRow base 5 1 vb bs.length (Lib.byteCells bs)) (he : w.ownsRow base 55 2 ve es.length (endCells es))
    (hb : Below w.heap.size w w0) (hg : w0.grownBy w1 ve.ownBlock) (hown : w1.ownsRow base 55 2 v' (es.length + 1) (endCells es ++ [.int .i64 x, .int .i64 (z : Int)])) :
    w1.heap[B]? = some (.cells #[vb, ve, .int .i64 many, .int .i64 total] 49 (0, 0)) ∧ LMid (w1.setCell ⟨B, 1, none⟩ v') base B bs (es ++ [(x, z)]) many total ∧ Mild base w (w1.setCell ⟨B, 1, none⟩ v') := by
  have hlt : B < w.heap.size := (Array.getElem?_eq_some_iff.1 hv).1
  have hv0 := (hb.block B hlt).trans hv
  have he0 := owned_below he hb
  have ho0 := owned_below ho hb
  have hv1 : w1.heap[B]? = some (.cells #[vb, ve, .int .i64 many, .int .i64 total] 49 (0, 0)) := (hg.block B (by have := hb.size; omega) (fun e => owned_apart he0 hv0 (by decide) e.symm)).trans hv0
  have ho1 : w1.ownsRow base 5 1 vb bs.length (Lib.byteCells bs) := owned_keep ho0 fun g hg' => hg.block g (ho0.lt g hg').2 fun e => owned_apart2 he0 ho0 (by decide) hg' e.symm
  refine ⟨hv1, ⟨hB, vb, v', heap_setCell_same w1 B 1 _ _ _ hv1, owned_setCell ho1 (owned_apart ho1 hv1 (by decide)) _, ?_⟩, ?_⟩
  · refine owned_setCell ?_ (owned_apart hown hv1 (by decide)) _
    rw [endCells_append, List.length_append, List.length_singleton]
    exact hown
  · have hbw : base ≤ w.heap.size := by omega
    exact (Mild.of_below hb hbw).trans ((Mild.grownOwn he0 (.inr (.inl rfl)) hg (by have := hb.size; omega)).trans (Mild.setCell hv1 (.inl rfl) hB _))
end
end Go.Proofs.Ytfhjnblcnkjooaa
