/- A range over a function whose body always goes on: of each thing that it is told the body knows what holds of it in the world in which it is told. -/
import Derived.RangeFuncNested
import Derived.RangeFuncBound
import Derived.RangeFuncCalls
import Derived.RangeFuncLeaves
import Derived.RangeFuncBox
import Derived.OwnWalkIn
import Derived.TacticsInMore
import Derived.LoopNIn
import Derived.LoopIn
import Derived.Maps.AppendAt
import Derived.Shelf.Abstract
import Derived.Shelf.RegionOpen
import Derived.Test.YtldcadpemnpbmaaBase
set_option linter.unusedVariables false
namespace Go.Proofs.Ytldcadpemnpbmaa
open Go Go.RowKit

/-- What is called g hands things on, each with Ok, and in the end S holds of all; rounds keep Kp. -/
def Told {α : Type} (n : Nat) (P : Program) (g : Nat) (lb : Array Value) (encs : α → Array Value) (Kp : World → World → Prop) (Ok : List α → α → World → Prop) (S : List α → Prop) (w : World) : Prop :=
  ∀ (l : Nat) (J : List α → World → Prop) (W : World), Below w.heap.size w W → (∀ s A B, J s A → Below A.heap.size A B → J s B) →
    (∀ pre x W1, J pre W1 → Ok pre x W1 → YieldAt Fence.wide (n - 1) P l (encs x) W1 fun e W' => e = .returned (.bool true) ∧ J (pre ++ [x]) W' ∧ Kp W1 W') →
    J [] W → CallsIn Fence.wide n P g (#[.func (.yield l) #[] #[]] ++ lb) W fun e W' => (∃ v, e = .returned v) ∧ ∃ xs, S xs ∧ J xs W'

/-- A thing that stays while a block that is no cells, from B on, is turned. -/
def Firm (B : Nat) (p : World → Prop) : Prop := ∀ W l (o o' : Obj), B ≤ l → W.heap[l]? = some o → o.isCells = false → p W → p (W.putObj l o')

variable {n : Nat} {P : Program}
theorem wpIn_range_told {α : Type} {g : Operand} {ps : Array Tmp} {assign body : Code} {Q : Exit → Act → World → Prop} {a : Act} {w : World} (h1 : 1 ≤ n) {gf : Nat} {lb : Array Value} (hg : a.eval g = .func (.func gf) #[] lb)
    (eg : ∀ args w, (callFunc gf args).run P w = .ok (.enter gf args) w) {encs : α → Array Value} {Kp : World → World → Prop} {Ok : List α → α → World → Prop} {S : List α → Prop} (hseq : Told (n - 1) P gf lb encs Kp Ok S w)
    (hKt : ∀ {A B C : World}, Kp A B → Kp B C → Kp A C) (hKp : ∀ (W : World) (l : Nat) (o o' : Obj), w.heap.size ≤ l → W.heap[l]? = some o → o.isCells = false → Kp W (W.putObj l o')) (hps : ∀ x, (encs x).size = ps.size)
    (I : List α → World → Prop) (hIb : ∀ s A B, I s A → Below A.heap.size A B → I s B) (hIp : ∀ s, Firm w.heap.size (I s)) (hOk : ∀ s x, Firm w.heap.size (Ok s x)) (h0 : I [] w) (a₁ : α → Act)
    (hassign : ∀ (l : Nat) (x : α) (W : World) (K : Act → World → Prop), K (a₁ x) W → assign.wpIn (Fence.wide.inRound l) (n - 1 - 1) P (Exit.then K (fun _ _ _ => False)) { tmps := (ps.zip (encs x)).foldl (fun t (p, v) => t.setIfInBounds p v) a.tmps, defers := [] } W)
    (hbody : ∀ (l : Nat) (pre : List α) (x : α) (W : World), I pre W → Ok pre x W → body.wpIn (Fence.wide.inRound l) (n - 1 - 1) P (ownPostK Kp I (fun _ _ _ => False) (pre ++ [x]) W) (a₁ x) W)
    (hdone : ∀ (D : Nat) (xs : List α) (W : World), w.heap.size ≤ D → S xs → I xs W → W.heap[D]? = some (.deferred (some [])) → Q .normal { a with defers := { target := .collected D, args := #[] } :: a.defers } W) :
    (Code.rangeFunc g ps assign body).wpIn Fence.wide n P Q a w := by
  refine wpIn_rangeFunc fun fn hfn => ?_
  have enter := run_enterLoop_outer (P := P) (w := w) fn a.tmps ps assign body
  obtain ⟨D, hD⟩ : ∃ D, D = w.heap.size := ⟨_, rfl⟩
  obtain ⟨st, hst⟩ : ∃ st : LoopState → Loop, st = fun s => { state := s, pending := none, fn := fn, tmps := a.tmps, params := ps, assign := assign, body := body, defers := w.heap.size } := ⟨_, rfl⟩
  obtain ⟨V, hV⟩ : ∃ V, V = (w.alloc (.deferred (some []))).alloc (.loop (st .ready)) := ⟨_, rfl⟩
  have enter' : (Instr.enterLoop fn a.tmps ps assign body Fence.wide.round).run P w = .ok (D + 1, [{ target := .collected D, args := #[] }]) V := by rw [hV, hst, hD]; exact enter
  have bel : Below w.heap.size w V := by rw [hV]; exact ((Below.refl _ w).alloc (Nat.le_refl _) _).alloc (by simp) _
  have hdV : V.heap[D]? = some (.deferred (some [])) := by rw [hV, hD]; exact (Below.heap_alloc _ _ _ (by simp)).trans (World.alloc_heap_new w _)
  have hlV : V.heap[D + 1]? = some (.loop (st .ready)) := by
    have := World.alloc_heap_new (w.alloc (.deferred (some []))) (.loop (st .ready))
    rwa [World.size_alloc, ← hV, ← hD] at this
  -- what a round meets: the caller's own invariant, the record ready, the block of deferred calls
  have stay : ∀ (s : List α) (A B : World), (I s A ∧ A.heap[D + 1]? = some (.loop (st .ready)) ∧ A.heap[D]? = some (.deferred (some []))) → Below A.heap.size A B → (I s B ∧ B.heap[D + 1]? = some (.loop (st .ready)) ∧ B.heap[D]? = some (.deferred (some []))) := by
    rintro s A B ⟨i1, i2, i3⟩ hb
    exact ⟨hIb s A B i1 hb, (hb.block _ (Array.getElem?_eq_some_iff.1 i2).1).trans i2, (hb.block _ (Array.getElem?_eq_some_iff.1 i3).1).trans i3⟩
  have round : ∀ (pre : List α) (x : α) (A : World), (I pre A ∧ A.heap[D + 1]? = some (.loop (st .ready)) ∧ A.heap[D]? = some (.deferred (some []))) → Ok pre x A →
      YieldAt Fence.wide (n - 1 - 1) P (D + 1) (encs x) A fun e B => e = .returned (.bool true) ∧ (I (pre ++ [x]) B ∧ B.heap[D + 1]? = some (.loop (st .ready)) ∧ B.heap[D]? = some (.deferred (some []))) ∧ Kp A B := by
    rintro pre x A ⟨i1, i2, i3⟩ hx
    have hl : D + 1 < A.heap.size := (Array.getElem?_eq_some_iff.1 i2).1
    have y := run_yield (P := P) (args := encs x) i2 (by rw [hst]; exact hps x)
    have beg := run_beginRound (P := P) i2 (by rw [hst])
    rw [hst] at y
    refine ⟨fn, _, assign, body, y, roundIn_of_wpIn hfn (hassign _ x A _ ⟨_, beg, ?_⟩)⟩
    obtain ⟨A1, hA1⟩ : ∃ A1, A1 = A.putObj (D + 1) (.loop { st .ready with state := .busy }) := ⟨_, rfl⟩
    rw [← hA1]
    have l1 : A1.heap[D + 1]? = some (.loop { st .ready with state := .busy }) := by rw [hA1]; exact World.putObj_heap_same hl
    have d1 : A1.heap[D]? = some (.deferred (some [])) := by rw [hA1]; exact (World.putObj_heap_other (by omega)).trans i3
    have k1 : Kp A A1 := by rw [hA1]; exact hKp A _ _ _ (by omega) i2 rfl
    have b1 := hbody (D + 1) pre x A1 (by rw [hA1]; exact hIp pre A _ _ _ (by omega) i2 rfl i1) (by rw [hA1]; exact hOk pre x A _ _ _ (by omega) i2 rfl hx)
    refine wpIn_mono b1 ?_
    rintro ex a2 A2 hp
    cases ex with
    | normal =>
      obtain ⟨ko, k2, i4⟩ := hp
      have l2 := ko.same _ _ l1 rfl
      have d2 := ko.same _ _ d1 rfl
      have fin := run_endRound (P := P) none l2
      have hl2 : D + 1 < A2.heap.size := (Array.getElem?_eq_some_iff.1 l2).1
      refine ⟨_, _, fin, rfl, ⟨hIp _ A2 _ _ _ (by omega) l2 rfl i4, ?_, (World.putObj_heap_other (by omega)).trans d2⟩, hKt (hKt k1 k2) (hKp A2 _ _ _ (by omega) l2 rfl)⟩
      rw [World.putObj_heap_same hl2, hst]
      rfl
    | ret => exact hp.2.elim
    | exit id => exact hp.2.elim
    | goto t => exact hp.2.elim
    | panic c => exact hp.elim
    | outgrown => exact hp.elim
  refine ⟨D + 1, _, V, { target := .fn (.func gf) lb, args := #[.func (.yield (D + 1)) #[] #[]] }, V, gf, #[.func (.yield (D + 1)) #[] #[]] ++ lb, V, enter', ?_, ?_, ?_, fun _ => h1, ?_⟩
  · simp only [resolve, hg]
    simp [go_sem]
  · intro f' _
    trivial
  · simp [invoke, go_sem, eg]
  · refine (hseq (D + 1) _ V bel stay round ⟨hIb [] w V h0 bel, hlV, hdV⟩).mono ?_
    rintro e A ⟨⟨v, rfl⟩, xs, hS, i1, i2, i3⟩
    have fin := run_endLoop (P := P) i2 (by rw [hst]; simp)
    rw [hst] at fin
    refine ⟨none, _, fin, hdone D xs _ (by omega) hS (hIp xs A _ _ _ (by omega) i2 rfl i1) ((World.putObj_heap_other (by omega)).trans i3)⟩
end Go.Proofs.Ytldcadpemnpbmaa
