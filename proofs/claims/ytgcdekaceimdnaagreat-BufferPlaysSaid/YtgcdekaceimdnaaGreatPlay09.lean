/- A buffer, and the document's entries beside it: what stands while deeds are done. -/
import Derived.Test.YtgcdekaceimdnaaGreatQ15
set_option linter.unusedVariables false
namespace Go.Proofs.YtgcdekaceimdnaaGreat
open Go Go.RowKit

theorem OwnFd.room9 {base : Nat} {w : World} {v : Value} {l : List Fd} (h : OwnFd base w v l) : ∃ A c, v = .slice A l.length c ∧ (l.length ≤ c ∧ c ≤ maxLen) ∧ FRow w w.heap.size A l ∧ (A = none ∨ ∃ b o, A = some ⟨b, o, none⟩) := by
  obtain ⟨A, c, rfl, hc, hr⟩ := owned_roomed h
  refine ⟨A, c, rfl, hc, hr, ?_⟩
  rcases h.2 with ⟨hv, _⟩ | ⟨g, cap, cur, hv, _⟩
  · injection hv with e
    exact .inl e
  · injection hv with e
    exact .inr ⟨g, 0, e⟩
def Beside (S : Nat → Prop) (R : Nat) (w : World) (b : Nat) : Prop := b < w.heap.size ∧ ¬ S b ∧ b ≠ R
/-- The buffer at B has Lb; the document's B at block R has Lr (behind A), and the number last. -/
structure PlayAt (S : Nat → Prop) (B R : Nat) (Lb : List En) (up : Int) (A : Option Addr) (n c : Nat) (Lr : List En) (last : Int) (w wr : World) : Prop where
  buf : BufAt S wr B Lb up
  ge : ∀ k, S k → w.heap.size ≤ k
  rb : wr.heap[R]? = some (.cells #[.slice A n c, .int .i64 last] 27 (0, 0))
  rs : ¬ S R
  rge : w.heap.size ≤ R
  len : Lr.length = n
  nest : NestP enS (Beside S R wr) wr A Lr
  bel : Below w.heap.size w wr
section
variable {S : Nat → Prop} {B R : Nat} {Lb Lr : List En} {up last : Int} {A : Option Addr} {n c : Nat} {w wr w' : World}
theorem PlayAt.cells (h : PlayAt S B R Lb up A n c Lr last w wr) : wr.cell? ⟨R, 0, none⟩ = some (.slice A n c) ∧ wr.cell? ⟨R, 1, none⟩ = some (.int .i64 last) ∧ wr.frozen? ⟨R, 0, none⟩ = false ∧ wr.frozen? ⟨R, 1, none⟩ = false := by
  have := h.rb
  simp [World.cell?, World.frozen?, this]
theorem PlayAt.below (h : PlayAt S B R Lb up A n c Lr last w wr) (hb : Below wr.heap.size wr w') : PlayAt S B R Lb up A n c Lr last w w' :=
  ⟨h.buf.below hb, h.ge, (hb.block _ (lt_of_block h.rb)).trans h.rb, h.rs, h.rge, h.len, (h.nest.keep fun k hk => hb.block k hk.1).imp fun k hk => ⟨Nat.lt_of_lt_of_le hk.1 hb.size, hk.2⟩, h.bel.trans (hb.mono h.bel.size)⟩
theorem PlayAt.added (h : PlayAt S B R Lb up A n c Lr last w wr) {S' : Nat → Prop} {L' : List En} {up' : Int} (hb : BufAt S' w' B L' up') (hS : ∀ k, S' k → S k ∨ wr.heap.size ≤ k) (ho : OnlyIn S wr w') : PlayAt S' B R L' up' A n c Lr last w w' := by
  have hR := lt_of_block h.rb
  exact ⟨hb, fun k hk => (hS k hk).elim (h.ge k) fun hk => Nat.le_trans h.bel.size hk, (ho.block _ hR h.rs).trans h.rb, fun hk => (hS _ hk).elim h.rs fun hk => by omega, h.rge, h.len,
    (h.nest.keep fun k hk => ho.block k hk.1 hk.2.1).imp fun k hk => ⟨Nat.lt_of_lt_of_le hk.1 ho.size, fun hk' => (hS _ hk').elim hk.2.1 fun hk' => by have := hk.1; omega, hk.2.2⟩, h.bel.trans (ho.below h.ge h.bel.size)⟩
theorem PlayAt.sealed (h : PlayAt S B R Lb up A n c Lr last w wr) {e : Ending} (hs : GotSeal S B Lb up wr e w') : ∃ S' A1 c1, e = .returned (.slice A1 Lb.length c1) ∧ PlayAt S' B R [] up A n c Lr last w w' ∧ Nest enS w' w'.heap.size A1 Lb := by
  obtain ⟨S', A1, c1, he, hc, hb, hS, hn, ho⟩ := hs
  exact ⟨S', A1, c1, he, h.added hb (fun k hk => .inl (hS k hk)) ho, hn.imp fun k hk => hk.1⟩
/-- Two stores into the document's B. -/
theorem PlayAt.put (h : PlayAt S B R Lb up A n c Lr last w wr) {A' : Option Addr} {n' c' : Nat} {L' : List En} {last' : Int} (hR : w'.heap[R]? = some (.cells #[.slice A' n' c', .int .i64 last'] 27 (0, 0))) (hk : ∀ k, k ≠ R → w'.heap[k]? = wr.heap[k]?)
    (hs : w'.heap.size = wr.heap.size) (ho : w'.os = wr.os) (ht : w'.tape = wr.tape) (hu : w'.output = wr.output) (hl : L'.length = n') (hn : NestP enS (Beside S R wr) wr A' L') : PlayAt S B R Lb up A' n' c' L' last' w w' := by
  have hlt := lt_of_block h.rb
  refine ⟨h.buf.keep (fun k hs' => hk k fun e => h.rs (e ▸ hs')) (by omega), h.ge, hR, h.rs, h.rge, hl, (hn.keep fun k hk' => hk k hk'.2.2).imp fun k hk' => ⟨by have := hk'.1; omega, hk'.2⟩, ⟨ho.trans h.bel.os, ht.trans h.bel.tape, hu.trans h.bel.output, by have := h.bel.size; omega, fun k hk' => ?_⟩⟩
  rw [hk k (by have := h.rge; omega)]
  exact h.bel.block k hk'
end
/-- What a round leaves behind. -/
def PlayMid (B R : Nat) (k : Nat) (w wr : World) : Prop := ∃ (S : Nat → Prop) (L : List En) (up : Int) (A : Option Addr) (n c : Nat), n ≤ k ∧ PlayAt S B R L up A n c L up w wr
end Go.Proofs.YtgcdekaceimdnaaGreat
