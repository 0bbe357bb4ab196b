/- A cursor in memory: a struct of its list, the rest of the block that was read last, the number of the next one. -/
import Derived.Test.YtnmnbckaccicaaaAdv06
import Derived.Test.YtnmnbckaccicaaaOnlyIn06
import Derived.Test.YtnmnbckaccicaaaP05
set_option linter.unusedVariables false
namespace Go.Proofs.Ytnmnbckaccicaaa
open Go Go.RowKit

/-- All blocks of S are cursors. -/
def Curs (S : Nat → Prop) (w : World) : Prop := ∀ D, S D → ∃ cs fr, w.heap[D]? = some (.cells cs 68 fr)
theorem not_kept_cursor (p : Prop × Nat) (k : Nat) : ¬ Kept p k 68 := by
  rintro (h | h | h | ⟨_, _, h⟩) <;> exact absurd h (by decide)
theorem Soft.of_only {p : Prop × Nat} {X S : Nat → Prop} {w w' : World} (ho : OnlyIn S w w') (hs : Curs S w) (hX : ∀ k, X k → ¬ S k) : Soft p X w w' :=
  ⟨ho.os, ho.tape, ho.output, ho.size, fun k hk => by
    by_cases h : S k
    · obtain ⟨cs, fr, e⟩ := hs k h
      exact .inr ⟨fun hx => hX k hx h, _, e, fun cs' t' fr' e' => by injection e' with _ e' _; rw [← e']; exact not_kept_cursor p k⟩
    · exact .inl (ho.block k hk h)⟩
/-- Cells that lie in a block of type t. -/
def RowT (t : TypeId) (w : World) (A : Option Addr) (xs : List Value) : Prop :=
  xs = [] ∨ ∃ b off, A = some ⟨b, off, none⟩ ∧ (∃ cs fr, w.heap[b]? = some (.cells cs t fr)) ∧ ∀ j u, xs[j]? = some u → w.cell? ⟨b, off + j, none⟩ = some u
section
variable {w w' : World} {A : Option Addr} {xs : List Value} {S X : Nat → Prop} {t : TypeId} {p : Prop × Nat}
theorem RowT.nil : RowT t w A [] := .inl rfl
theorem RowT.row (h : RowT t w A xs) : Row w w.heap.size A xs := by
  rcases h with h | ⟨b, off, e, ⟨cs, fr, h1⟩, h2⟩
  · exact .inl h
  · exact .inr ⟨b, off, e, (Array.getElem?_eq_some_iff.1 h1).1, h2⟩
theorem RowT.soft (h : RowT t w A xs) (hs : Soft p X w w') (ht : ∀ b, Kept p b t) : RowT t w' A xs := by
  rcases h with h | ⟨b, off, e, ⟨cs, fr, h1⟩, h2⟩
  · exact .inl h
  · have hblk := hs.kept h1 (ht b)
    refine .inr ⟨b, off, e, ⟨cs, fr, hblk⟩, fun j u hu => ?_⟩
    rw [World.cell?_of_block (a := ⟨b, off + j, none⟩) (hblk.trans h1.symm)]
    exact h2 j u hu
theorem RowT.of_own {b : Nat} {e : TypeId} {size n c : Nat} (h : w.ownsRow b e size (.slice A n c) n xs) : RowT e w A xs := by
  have hr := owned_row_of h
  rcases hr with hr | ⟨b', off, rfl, h1, h2⟩
  · exact .inl hr
  · rcases h.2 with ⟨hv, _⟩ | ⟨g, cap, cur, hv, _, hh, _⟩
    · cases hv
    · injection hv with hv
      injection hv with hv
      injection hv with hv1 hv2
      subst hv1
      exact .inr ⟨_, off, rfl, ⟨_, _, hh⟩, h2⟩
end
/-- Ints that lie in a block from b0 on. -/
def RowB (b0 : Nat) (w : World) (A : Option Addr) (xs : List Value) : Prop :=
  xs = [] ∨ ∃ b off, A = some ⟨b, off, none⟩ ∧ b0 ≤ b ∧ (∃ cs fr, w.heap[b]? = some (.cells cs 3 fr)) ∧ ∀ j u, xs[j]? = some u → w.cell? ⟨b, off + j, none⟩ = some u
section
variable {w w' : World} {A : Option Addr} {xs : List Value} {X : Nat → Prop} {p : Prop × Nat}
theorem RowB.row {b0 : Nat} (h : RowB b0 w A xs) : Row w w.heap.size A xs := by
  rcases h with h | ⟨b, off, e, _, ⟨cs, fr, h1⟩, h2⟩
  · exact .inl h
  · exact .inr ⟨b, off, e, (Array.getElem?_eq_some_iff.1 h1).1, h2⟩
theorem RowB.soft (h : RowB p.2 w A xs) (hs : Soft p X w w') (hp : p.1) : RowB p.2 w' A xs := by
  rcases h with h | ⟨b, off, e, hb, ⟨cs, fr, h1⟩, h2⟩
  · exact .inl h
  · have hblk := hs.kept h1 (.inr (.inr (.inr ⟨hp, hb, rfl⟩)))
    refine .inr ⟨b, off, e, hb, ⟨cs, fr, hblk⟩, fun j u hu => ?_⟩
    rw [World.cell?_of_block (a := ⟨b, off + j, none⟩) (hblk.trans h1.symm)]
    exact h2 j u hu
theorem RowB.of_new {b0 base : Nat} (h : RowL base w A xs) (hb : b0 ≤ base) : RowB b0 w A xs := by
  rcases h.1 with h1 | ⟨b, off, e, ⟨h1, h2⟩, hc⟩
  · exact .inl h1
  · rcases h.2 with h3 | ⟨b', off', e', h3⟩
    · exact .inl h3
    · obtain ⟨cs, fr, h2⟩ := h2.resolve_left (Nat.not_lt_zero _)
      rw [e] at e'
      injection e' with e'
      injection e' with e1 e2
      subst e1
      exact .inr ⟨b, off, e, by omega, ⟨cs, fr, h2⟩, hc⟩
end

/-- Postings that a cursor keeps (p.1: their places, too). -/
def PostsN (p : Prop × Nat) (w : World) (A : Option Addr) (l : List Po) : Prop := p.2 ≤ w.heap.size ∧ ∃ cs, PoCells (fun A xs => p.1 → RowB p.2 w A xs) l cs ∧ RowT 46 w A cs
section
variable {w w' : World} {A : Option Addr} {l : List Po} {S X : Nat → Prop} {p : Prop × Nat}
theorem PostsN.nil (h : p.2 ≤ w.heap.size) : PostsN p w A [] := ⟨h, [], rfl, .inl rfl⟩
theorem PostsN.soft (h : PostsN p w A l) (hs : Soft p X w w') : PostsN p w' A l := by
  obtain ⟨h0, cs, h1, h2⟩ := h
  exact ⟨Nat.le_trans h0 hs.size, cs, h1.imp fun _ _ h hp => (h hp).soft hs hp, h2.soft hs (fun b => .inr (.inr (.inl rfl)))⟩
theorem PostsN.only (h : PostsN p w A l) (ho : OnlyIn S w w') (hs : Curs S w) : PostsN p w' A l := h.soft (Soft.of_only (X := fun _ => False) ho hs (fun _ h => h.elim))
theorem PostsN.weak (h : PostsN p w A l) : PostsN (False, 0) w A l := by
  obtain ⟨_, cs, h1, h2⟩ := h
  exact ⟨Nat.zero_le _, cs, h1.imp fun _ _ _ hp => hp.elim, h2⟩
theorem PostsN.of_new {base : Nat} {v : Value} (h : NewPo base w v l) (hp : p.2 ≤ base) (hb : base ≤ w.heap.size) : ∃ A c, v = .slice A l.length c ∧ l.length ≤ c ∧ c ≤ maxLen ∧ PostsN p w A l := by
  obtain ⟨A, c, rfl, h1, h2, _⟩ := h.room
  obtain ⟨cs, h3, h4⟩ := h
  exact ⟨A, c, rfl, h1, h2, by omega, cs, h4.imp fun _ _ h _ => RowB.of_new h hp, RowT.of_own h3⟩
theorem PostsN.tail {b off : Nat} {q : Po} (h : PostsN p w (some ⟨b, off, none⟩) (q :: l)) : PostsN p w (some ⟨b, off + 2, none⟩) l := by
  obtain ⟨h0, cs, ⟨A', c', cs', rfl, _, _, _, h'⟩, h2⟩ := h
  refine ⟨h0, cs', h', ?_⟩
  rcases h2 with h2 | ⟨b2, off2, e, h3, h4⟩
  · cases h2
  · injection e with e
    injection e with e1 e2
    subst e1 e2
    refine .inr ⟨b, off + 2, rfl, h3, fun j u hu => ?_⟩
    have := h4 (2 + j) u (by rw [show 2 + j = j + 1 + 1 by omega]; simpa using hu)
    rwa [← Nat.add_assoc] at this
theorem PostsN.head {q : Po} (h : PostsN p w A (q :: l)) : ∃ b off A' c', A = some ⟨b, off, none⟩ ∧ w.cell? ⟨b, off, none⟩ = some (.int .i64 q.1) ∧ w.cell? ⟨b, off + 1, none⟩ = some (.slice A' q.2.length c') ∧ q.2.length ≤ c' ∧ c' ≤ maxLen ∧ (p.1 → Row w w.heap.size A' (ints q.2)) := by
  obtain ⟨_, cs, ⟨A', c', cs', rfl, h3, h4, h5, _⟩, h2⟩ := h
  rcases h2 with h2 | ⟨b, off, e, _, hc⟩
  · cases h2
  · exact ⟨b, off, A', c', e, hc 0 _ rfl, hc 1 _ rfl, h3, h4, fun hp => (h5 hp).row⟩
end

/-- What a list's slices lead to. -/
def ListN (w : World) (vb ve : Value) (g : List Po) : Prop :=
  ∃ Ab cb Ae ce, vb = .slice Ab (bytesP (-1) g).length cb ∧ ve = .slice Ae (blocksP g.length) ce ∧ (bytesP (-1) g).length ≤ cb ∧ cb ≤ maxLen ∧ blocksP g.length ≤ ce ∧ RowT 5 w Ab (Lib.byteCells (bytesP (-1) g)) ∧ RowT 64 w Ae (endsV g)
structure GoodG (g : List Po) : Prop where
  may : mayB' (-1) g = true
  len : g.length ≤ 1000
  bytes : (bytesP (-1) g).length ≤ 1000000

/-- The cursor's block. -/
def CBlk (C : Nat) (vb ve : Value) (g : List Po) (A : Option Addr) (m c nx : Nat) (bh : Bool) (rd : Int) (w : World) : Prop :=
  w.heap[C]? = some (.cells #[vb, ve, .int .i64 (g.length : Int), .int .i64 (totalP g : Int), .slice A m c, .int .i64 (nx : Int), .bool bh, .int .i64 rd] 68 (0, 0))
/-- The cursor in block C goes through g and stands at place i. -/
def CAt (p : Prop × Nat) (C : Nat) (g : List Po) (i : Int) (w : World) : Prop :=
  ∃ vb ve A c nx bh rd rest, CBlk C vb ve g A (List.length rest) c nx bh rd w ∧ ListN w vb ve g ∧ Pos g i nx bh rest ∧ rest.length ≤ c ∧ c ≤ maxLen ∧ PostsN p w A rest ∧ GoodG g

theorem cell_eight {w : World} {B : Nat} {a b c d e f g h : Value} {t : TypeId} (hh : w.heap[B]? = some (.cells #[a, b, c, d, e, f, g, h] t (0, 0))) :
    (w.cell? ⟨B, 0, none⟩ = some a ∧ w.cell? ⟨B, 1, none⟩ = some b ∧ w.cell? ⟨B, 2, none⟩ = some c ∧ w.cell? ⟨B, 3, none⟩ = some d ∧ w.cell? ⟨B, 4, none⟩ = some e ∧ w.cell? ⟨B, 5, none⟩ = some f ∧ w.cell? ⟨B, 6, none⟩ = some g ∧ w.cell? ⟨B, 7, none⟩ = some h) ∧
    w.frozen? ⟨B, 4, none⟩ = false ∧ w.frozen? ⟨B, 5, none⟩ = false ∧ w.frozen? ⟨B, 6, none⟩ = false ∧ w.frozen? ⟨B, 7, none⟩ = false := by
  simp [World.cell?, World.frozen?, hh]
section
variable {C nx : Nat} {vb ve : Value} {g : List Po} {A : Option Addr} {m c : Nat} {bh : Bool} {rd : Int} {w w' : World} {S X : Nat → Prop} {i : Int} {p : Prop × Nat}
theorem CBlk.lt (h : CBlk C vb ve g A m c nx bh rd w) : C < w.heap.size := (Array.getElem?_eq_some_iff.1 h).1
theorem CBlk.curs (h : CBlk C vb ve g A m c nx bh rd w) : Curs (fun k => k = C) w := fun D hD => by subst hD; exact ⟨_, _, h⟩
theorem CBlk.only (h : CBlk C vb ve g A m c nx bh rd w) (ho : OnlyIn S w w') (hC : ¬ S C) : CBlk C vb ve g A m c nx bh rd w' := (ho.block C h.lt hC).trans h
theorem ListN.soft (h : ListN w vb ve g) (hs : Soft p X w w') : ListN w' vb ve g := by
  obtain ⟨Ab, cb, Ae, ce, h1, h2, h3, h4, h5, h6, h7⟩ := h
  exact ⟨Ab, cb, Ae, ce, h1, h2, h3, h4, h5, h6.soft hs (fun _ => .inl rfl), h7.soft hs (fun _ => .inr (.inl rfl))⟩
theorem ListN.only (h : ListN w vb ve g) (ho : OnlyIn S w w') (hs : Curs S w) : ListN w' vb ve g := h.soft (p := (False, 0)) (Soft.of_only (X := fun _ => False) ho hs (fun _ h => h.elim))
theorem CAt.soft (h : CAt p C g i w) (hs : Soft p X w w') (hC : X C) : CAt p C g i w' := by
  obtain ⟨vb, ve, A, c, nx, bh, rd, rest, h1, h2, h3, h4, h5, h6, h7⟩ := h
  exact ⟨vb, ve, A, c, nx, bh, rd, rest, hs.keep h1 hC, h2.soft hs, h3, h4, h5, h6.soft hs, h7⟩
theorem CAt.weak (h : CAt p C g i w) : CAt (False, 0) C g i w := by
  obtain ⟨vb, ve, A, c, nx, bh, rd, rest, h1, h2, h3, h4, h5, h6, h7⟩ := h
  exact ⟨vb, ve, A, c, nx, bh, rd, rest, h1, h2, h3, h4, h5, h6.weak, h7⟩
theorem CAt.only (h : CAt p C g i w) (ho : OnlyIn S w w') (hs : Curs S w) (hC : ¬ S C) : CAt p C g i w' := by
  obtain ⟨vb, ve, A, c, nx, bh, rd, rest, h1, h2, h3, h4, h5, h6, h7⟩ := h
  exact ⟨vb, ve, A, c, nx, bh, rd, rest, h1.only ho hC, h2.only ho hs, h3, h4, h5, h6.only ho hs, h7⟩
theorem CAt.below (h : CAt p C g i w) (hb : Below w.heap.size w w') : CAt p C g i w' := h.only (S := fun _ => False) (OnlyIn.of_below hb) (fun D hD => hD.elim) (fun h => h)
theorem CAt.bd (h : CAt p C g i w) : -1 ≤ i ∧ i ≤ (g.length : Int) := by
  obtain ⟨vb, ve, A, c, nx, bh, rd, rest, _, _, h3, _⟩ := h
  exact ⟨h3.bd.1, h3.bd.2.1⟩
theorem CBlk.lin (h : CBlk C vb ve g A m c nx bh rd w) (hl : ListN w vb ve g) : LIn w C (bytesP (-1) g) g := by
  obtain ⟨Ab, cb, Ae, ce, rfl, rfl, h3, h4, h5, h6, h7⟩ := hl
  obtain ⟨⟨c0, c1, c2, c3, _⟩, _⟩ := cell_eight h
  exact ⟨h.lt, Ab, cb, Ae, ce, ⟨c0, c1, c2, c3⟩, h3, h4, h5, h6.row, h7.row⟩
end
theorem ListN.of_at {w : World} {base B : Nat} {g : List Po} (h : LAt w base B (bytesP (-1) g) g) : ∃ vb ve, w.heap[B]? = some (.cells #[vb, ve, .int .i64 (g.length : Int), .int .i64 (totalP g : Int)] 58 (0, 0)) ∧ ListN w vb ve g := by
  obtain ⟨_, vb, ve, hv, ho, he⟩ := h
  refine ⟨vb, ve, hv, ?_⟩
  obtain ⟨Ae, ce, rfl, hce, hre⟩ := owned_row he
  rcases ho.2 with ⟨rfl, h0⟩ | ⟨g', c, cur, rfl, _, _, hnc, hcm, _, _⟩
  · exact ⟨none, 0, Ae, ce, by rw [h0], rfl, by omega, by unfold maxLen; omega, hce, by rw [List.eq_nil_of_length_eq_zero h0]; exact RowT.nil, RowT.of_own he⟩
  · exact ⟨_, c, Ae, ce, rfl, rfl, hnc, hcm, hce, RowT.of_own ho, RowT.of_own he⟩
end Go.Proofs.Ytnmnbckaccicaaa
