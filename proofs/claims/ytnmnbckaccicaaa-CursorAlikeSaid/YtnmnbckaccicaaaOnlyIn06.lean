/- Nothing turns but some blocks; nothing turns that a cursor reads. -/
import Derived.Test.YtnmnbckaccicaaaP00
set_option linter.unusedVariables false
namespace Go.Proofs.Ytnmnbckaccicaaa
open Go Go.RowKit

/-- Nothing that was there has turned but the blocks of S. -/
structure OnlyIn (S : Nat → Prop) (w w' : World) : Prop where
  os : w'.os = w.os
  tape : w'.tape = w.tape
  output : w'.output = w.output
  size : w.heap.size ≤ w'.heap.size
  block : ∀ k, k < w.heap.size → ¬ S k → w'.heap[k]? = w.heap[k]?
theorem OnlyIn.of_below {S : Nat → Prop} {w w' : World} (h : Below w.heap.size w w') : OnlyIn S w w' := ⟨h.os, h.tape, h.output, h.size, fun k hk _ => h.block k hk⟩
theorem OnlyIn.trans {S : Nat → Prop} {w w' w'' : World} (h : OnlyIn S w w') (k : OnlyIn S w' w'') : OnlyIn S w w'' :=
  ⟨k.os.trans h.os, k.tape.trans h.tape, k.output.trans h.output, Nat.le_trans h.size k.size, fun i hi hne => (k.block i (Nat.lt_of_lt_of_le hi h.size) hne).trans (h.block i hi hne)⟩
theorem OnlyIn.below {S : Nat → Prop} {base : Nat} {w w' : World} (h : OnlyIn S w w') (hb : ∀ k, S k → base ≤ k) (hw : base ≤ w.heap.size) : Below base w w' :=
  ⟨h.os, h.tape, h.output, h.size, fun k hk => h.block k (by omega) (fun hs => by have := hb k hs; omega)⟩
abbrev OnlyAt (C : Nat) := OnlyIn (fun k => k = C)


/-- The blocks that a cursor reads, besides its own, by their types (int: the places, from block p.2 on, if p.1). -/
def Kept (p : Prop × Nat) (k : Nat) (t : TypeId) : Prop := t = 5 ∨ t = 64 ∨ t = 46 ∨ (p.1 ∧ p.2 ≤ k ∧ t = 3)
/-- Nothing has turned that is of X, or of a type that a cursor reads. -/
structure Soft (p : Prop × Nat) (X : Nat → Prop) (w w' : World) : Prop where
  os : w'.os = w.os
  tape : w'.tape = w.tape
  output : w'.output = w.output
  size : w.heap.size ≤ w'.heap.size
  block : ∀ k, k < w.heap.size → w'.heap[k]? = w.heap[k]? ∨ (¬ X k ∧ ∃ o, w.heap[k]? = some o ∧ ∀ cs t fr, o = .cells cs t fr → ¬ Kept p k t)
section
variable {p : Prop × Nat} {X : Nat → Prop} {w w' w'' : World}
theorem Soft.of_below (h : Below w.heap.size w w') : Soft p X w w' := ⟨h.os, h.tape, h.output, h.size, fun k hk => .inl (h.block k hk)⟩
theorem Soft.trans (h : Soft p X w w') (k : Soft p X w' w'') : Soft p X w w'' := by
  refine ⟨k.os.trans h.os, k.tape.trans h.tape, k.output.trans h.output, Nat.le_trans h.size k.size, fun i hi => ?_⟩
  rcases h.block i hi with h1 | h1
  · rcases k.block i (Nat.lt_of_lt_of_le hi h.size) with h2 | ⟨h2, o, h3, h4⟩
    · exact .inl (h2.trans h1)
    · exact .inr ⟨h2, o, h1.symm.trans h3, h4⟩
  · exact .inr h1
theorem Soft.keep (h : Soft p X w w') {k : Nat} {o : Obj} (ho : w.heap[k]? = some o) (hX : X k) : w'.heap[k]? = some o := by
  rcases h.block k (Array.getElem?_eq_some_iff.1 ho).1 with h1 | ⟨h1, _⟩
  · exact h1.trans ho
  · exact absurd hX h1
theorem Soft.kept (h : Soft p X w w') {k : Nat} {cs : Array Value} {t : TypeId} {fr : Nat × Nat} (ho : w.heap[k]? = some (.cells cs t fr)) (ht : Kept p k t) : w'.heap[k]? = some (.cells cs t fr) := by
  rcases h.block k (Array.getElem?_eq_some_iff.1 ho).1 with h1 | ⟨_, o, h2, h3⟩
  · exact h1.trans ho
  · rw [ho] at h2
    injection h2 with h2
    exact absurd ht (h3 _ _ _ h2.symm)
/-- A block that is none of X, and of no type that a cursor reads, is set. -/
theorem Soft.of_one {k : Nat} {o : Obj} (hk : w.heap[k]? = some o) (hX : ¬ X k) (ht : ∀ cs t fr, o = .cells cs t fr → ¬ Kept p k t) (hos : w'.os = w.os) (htp : w'.tape = w.tape) (hou : w'.output = w.output) (hs : w.heap.size ≤ w'.heap.size)
    (hb : ∀ i, i ≠ k → i < w.heap.size → w'.heap[i]? = w.heap[i]?) : Soft p X w w' :=
  ⟨hos, htp, hou, hs, fun i hi => by
    by_cases e : i = k
    · subst e; exact .inr ⟨hX, o, hk, ht⟩
    · exact .inl (hb i e hi)⟩
end
end Go.Proofs.Ytnmnbckaccicaaa
