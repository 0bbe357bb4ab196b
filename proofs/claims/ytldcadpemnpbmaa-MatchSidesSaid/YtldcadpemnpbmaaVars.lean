/- Variables that a closure keeps, each a block of one cell that leads to a row of the call's own: what stays while another one is written. No program. -/
import Derived.Test.YtldcadpemnpbmaaBase
import Derived.OneCell
set_option linter.unusedVariables false
namespace Go.Proofs.Ytldcadpemnpbmaa
open Go Go.RowKit

section
variable {w w' w1 : World} {base : Nat} {e : TypeId} {size : Nat} {v : Value} {n : Nat} {xs : List Value}

/-- What is owned stays where its own block stays. -/
theorem owned_keep (h : w.ownsRow base e size v n xs) (hk : ∀ g, v.ownBlock = some g → w'.heap[g]? = w.heap[g]?) : w'.ownsRow base e size v n xs := by
  refine ⟨h.1, ?_⟩
  rcases h.2 with hn | ⟨g, cap, cur, rfl, hg, hh, r⟩
  · exact .inl hn
  · exact .inr ⟨g, cap, cur, rfl, hg, (hk g rfl).trans hh, r⟩
/-- A block of another kind is not the owned one. -/
theorem owned_apart (h : w.ownsRow base e size v n xs) {B : Nat} {cs : Array Value} {t : TypeId} {fr : Nat × Nat} (hB : w.heap[B]? = some (.cells cs t fr)) (ht : t ≠ e) : v.ownBlock ≠ some B := by
  intro he
  rcases h.2 with ⟨rfl, _⟩ | ⟨g, cap, cur, rfl, hg, hh, r⟩
  · cases he
  · simp only [Value.ownBlock, Option.some.injEq] at he
    subst he
    rw [hh] at hB
    simp at hB
    exact ht hB.2.1.symm
/-- Two owned rows of other kinds are two blocks. -/
theorem owned_apart2 {base' : Nat} {e' : TypeId} {size' : Nat} {v' : Value} {n' : Nat} {xs' : List Value} (h : w.ownsRow base e size v n xs) (h' : w.ownsRow base' e' size' v' n' xs') (ht : e ≠ e') {g : Nat} (hg : v'.ownBlock = some g) : v.ownBlock ≠ some g := by
  rcases h'.2 with ⟨rfl, _⟩ | ⟨g', cap, cur, rfl, _, hh, r⟩
  · cases hg
  · simp only [Value.ownBlock, Option.some.injEq] at hg
    subst hg
    exact owned_apart h hh ht.symm
theorem owned_other {base' : Nat} {e' : TypeId} {size' : Nat} {v' : Value} {n' : Nat} {xs' : List Value} (h : w.ownsRow base e size v n xs) (h' : w.ownsRow base' e' size' v' n' xs') (ht : e ≠ e') : v.ownBlock = none ∨ v.ownBlock ≠ v'.ownBlock := by
  rcases hv : v'.ownBlock with _ | g
  · by_cases h0 : v.ownBlock = none
    · exact .inl h0
    · exact .inr h0
  · exact .inr (owned_apart2 h h' ht hv)
/-- Cut to nothing, a row is owned still. -/
theorem owned_cut {g cap : Nat} (h : w.ownsRow base e size (.slice (some ⟨g, 0, none⟩) n cap) n xs) : w.ownsRow base e size (.slice (some ⟨g, 0, none⟩) 0 cap) 0 [] := by
  refine ⟨by simp, ?_⟩
  rcases h.2 with ⟨hv, _⟩ | ⟨g', cap', cur, hv, hg, hh, hnc, hcp, hcs, htake⟩
  · cases hv
  · injection hv with h1 h2 h3
    injection h1 with h1
    injection h1 with h1
    subst h1 h3
    exact .inr ⟨g, cap, cur, rfl, hg, hh, Nat.zero_le _, hcp, hcs, by simp⟩
end

/-- The variable at block B leads to a row of the call's own with the cells xs, of one cell each. -/
def RowVar (T E : TypeId) (base B : Nat) (xs : List Value) (w : World) : Prop := ∃ v, w.heap[B]? = some (.cells #[v] T (0, 0)) ∧ w.ownsRow base E 1 v xs.length xs
/-- Nothing that was there has turned but the variable at block B and the row that it leads to. -/
def Touched (B : Nat) (w w' : World) : Prop :=
  w'.os = w.os ∧ w'.tape = w.tape ∧ w'.output = w.output ∧ w.heap.size ≤ w'.heap.size ∧ ∀ k, k < w.heap.size → k ≠ B → (∀ v t, w.heap[B]? = some (.cells #[v] t (0, 0)) → v.ownBlock ≠ some k) → w'.heap[k]? = w.heap[k]?

section
variable {T E T' E' : TypeId} {base base' B B' : Nat} {xs xs' : List Value} {w w' : World}
theorem RowVar.lt (h : RowVar T E base B xs w) : B < w.heap.size := by obtain ⟨v, hv, _⟩ := h; exact lt_of_block hv
theorem RowVar.ne (h : RowVar T E base B xs w) (h' : RowVar T' E' base' B' xs' w) (ht : T ≠ T') : B ≠ B' := by
  rintro rfl
  obtain ⟨v, hv, _⟩ := h
  obtain ⟨v', hv', _⟩ := h'
  rw [hv] at hv'
  simp at hv'
  exact ht hv'.2
/-- A block of another kind stays while a variable is written. -/
theorem Touched.block (h : RowVar T E base B xs w) (ht : Touched B w w') {k : Nat} {cs : Array Value} {t : TypeId} {fr : Nat × Nat} (hk : w.heap[k]? = some (.cells cs t fr)) (h1 : t ≠ T) (h2 : t ≠ E) : w'.heap[k]? = some (.cells cs t fr) := by
  obtain ⟨v, hv, hown⟩ := h
  rw [ht.2.2.2.2 k (lt_of_block hk) ?_ ?_, hk]
  · rintro rfl; rw [hk] at hv; simp at hv; exact h1 hv.2.1
  · intro u t' hu
    rw [hv] at hu
    simp at hu
    rw [← hu.1]
    exact owned_apart hown hk h2
theorem RowVar.other (h' : RowVar T' E' base' B' xs' w) (h : RowVar T E base B xs w) (ht : Touched B w w') (h1 : T' ≠ T) (h2 : T' ≠ E) (h3 : E' ≠ T) (h4 : E' ≠ E) : RowVar T' E' base' B' xs' w' := by
  obtain ⟨v', hv', hown'⟩ := h'
  refine ⟨v', Touched.block h ht hv' h1 h2, owned_keep hown' fun g hg => ?_⟩
  rcases hown'.2 with ⟨rfl, _⟩ | ⟨g', cap, cur, rfl, _, hh, r⟩
  · cases hg
  · simp only [Value.ownBlock, Option.some.injEq] at hg
    subst hg
    rw [Touched.block h ht hh h3 h4, hh]
theorem Touched.below (h : RowVar T E base B xs w) (hB : base ≤ B) (hs : base ≤ w.heap.size) (ht : Touched B w w') : Below base w w' := by
  obtain ⟨v, hv, hown⟩ := h
  refine ⟨ht.1, ht.2.1, ht.2.2.1, ht.2.2.2.1, fun k hk => ht.2.2.2.2 k (by omega) (by omega) fun u t hu he => ?_⟩
  rw [hv] at hu
  simp at hu
  rw [← hu.1] at he
  have := (hown.lt k he).1
  omega
/-- Nothing below base has turned, but what lies at B and C. -/
def Aside (base B C : Nat) (w w' : World) : Prop :=
  w'.os = w.os ∧ w'.tape = w.tape ∧ w'.output = w.output ∧ w.heap.size ≤ w'.heap.size ∧ ∀ k, k < base → k ≠ B → k ≠ C → w'.heap[k]? = w.heap[k]?
theorem Aside.refl (base B C : Nat) (w : World) : Aside base B C w w := ⟨rfl, rfl, rfl, Nat.le_refl _, fun _ _ _ _ => rfl⟩
theorem Aside.trans {B C : Nat} {w w1 w2 : World} (h : Aside base B C w w1) (k : Aside base B C w1 w2) : Aside base B C w w2 :=
  ⟨k.1.trans h.1, k.2.1.trans h.2.1, k.2.2.1.trans h.2.2.1, Nat.le_trans h.2.2.2.1 k.2.2.2.1, fun i hi h1 h2 => (k.2.2.2.2 i hi h1 h2).trans (h.2.2.2.2 i hi h1 h2)⟩
theorem Aside.of {B C : Nat} {w w1 : World} (h : Below base w w1) : Aside base B C w w1 := ⟨h.os, h.tape, h.output, h.size, fun k hk _ _ => h.block k hk⟩
theorem Aside.swap {B C : Nat} {w w1 : World} (h : Aside base B C w w1) : Aside base C B w w1 := ⟨h.1, h.2.1, h.2.2.1, h.2.2.2.1, fun k hk h1 h2 => h.2.2.2.2 k hk h2 h1⟩
theorem Aside.below {B C : Nat} {w w1 : World} (h : Aside base B C w w1) {b : Nat} (hb : b ≤ base) (hB : b ≤ B) (hC : b ≤ C) : Below b w w1 := ⟨h.1, h.2.1, h.2.2.1, h.2.2.2.1, fun k hk => h.2.2.2.2 k (by omega) (by omega) (by omega)⟩
theorem Touched.aside {C : Nat} (h : RowVar T E base B xs w) (hs : base ≤ w.heap.size) (ht : Touched B w w') : Aside base B C w w' := by
  obtain ⟨v, hv, hown⟩ := h
  refine ⟨ht.1, ht.2.1, ht.2.2.1, ht.2.2.2.1, fun k hk hkB _ => ht.2.2.2.2 k (by omega) hkB fun u t hu he => ?_⟩
  rw [hv] at hu
  simp at hu
  rw [← hu.1] at he
  have := (hown.lt k he).1
  omega
theorem RowVar.below (h : RowVar T E base B xs w) (hb : Below w.heap.size w w') : RowVar T E base B xs w' := by
  obtain ⟨v, hv, hown⟩ := h
  exact ⟨v, (hb.block B (lt_of_block hv)).trans hv, owned_below hown hb⟩
theorem RowVar.alloc (h : RowVar T E base B xs w) (o : Obj) : RowVar T E base B xs (w.alloc o) := h.below ((Below.refl _ _).alloc (Nat.le_refl _) o)
theorem RowVar.drew (h : RowVar T E base B xs w) : RowVar T E base B xs w.drew := h
/-- Behind an append onto the variable's row, and the store of what came of it. -/
theorem pushed {v v' : Value} {w0 w1 : World} {n m : Nat} {u : List Value} (hTE : T ≠ E) (hv : w.heap[B]? = some (.cells #[v] T (0, 0))) (hn : xs.length = n) (hown : w.ownsRow base E 1 v n xs)
    (hb : Below w.heap.size w w0) (hg : w0.grownBy w1 v.ownBlock) (hown1 : w1.ownsRow base E 1 v' m (xs ++ u)) (hm : m = n + u.length) :
    w1.cell? ⟨B, 0, none⟩ = some v ∧ w1.frozen? ⟨B, 0, none⟩ = false ∧ RowVar T E base B (xs ++ u) (w1.setCell ⟨B, 0, none⟩ v') ∧ Touched B w (w1.setCell ⟨B, 0, none⟩ v') := by
  have hBlt := lt_of_block hv
  have hne : v.ownBlock ≠ some B := owned_apart hown hv hTE
  have hv1 : w1.heap[B]? = some (.cells #[v] T (0, 0)) := (hg.block B (by have := hb.size; omega) (fun e => hne e.symm)).trans ((hb.block B hBlt).trans hv)
  have hne' : v'.ownBlock ≠ some B := owned_apart hown1 hv1 hTE
  have hl : m = (xs ++ u).length := by simp [hm, hn]
  rw [hl] at hown1
  refine ⟨cell_of_one hv1, free_of_one hv1, ⟨v', one_setCell hv1, ownsRow_setCell_other hown1 hne' v'⟩, hg.os.trans hb.os, hg.tape.trans hb.tape, hg.output.trans hb.output, ?_, fun k hk hkB hkv => ?_⟩
  · have h1 := hb.size
    have h2 := hg.size
    simp
    omega
  · rw [Below.heap_setCell _ _ _ _ hkB, hg.block k (by have := hb.size; omega) (fun e => hkv v T hv e.symm), hb.block k hk]
/-- Behind the store of the same row, cut to nothing. -/
theorem emptied {g n cap : Nat} (hTE : T ≠ E) (hv : w.heap[B]? = some (.cells #[.slice (some ⟨g, 0, none⟩) n cap] T (0, 0))) (hown : w.ownsRow base E 1 (.slice (some ⟨g, 0, none⟩) n cap) n xs) :
    RowVar T E base B [] (w.setCell ⟨B, 0, none⟩ (.slice (some ⟨g, 0, none⟩) 0 cap)) ∧ Touched B w (w.setCell ⟨B, 0, none⟩ (.slice (some ⟨g, 0, none⟩) 0 cap)) := by
  have hne := owned_apart hown hv hTE
  refine ⟨⟨_, one_setCell hv, ownsRow_setCell_other (owned_cut hown) (by simpa [Value.ownBlock] using hne) _⟩, rfl, rfl, rfl, by simp, fun k hk hkB _ => ?_⟩
  rw [Below.heap_setCell _ _ _ _ hkB]
theorem owned_row_of {e : TypeId} {size : Nat} {A : Option Addr} {n m c : Nat} (h : w.ownsRow base e size (.slice A m c) n xs) : Row w w.heap.size A xs := by
  obtain ⟨A', c', he, _, hr⟩ := owned_row h
  injection he with h1 h2 h3
  rw [h1]
  exact hr
theorem owned_aside {e : TypeId} {size : Nat} {v : Value} {n : Nat} (h : w.ownsRow base' e size v n xs) {C : Nat} (hB : B < base') (hC : C < base') (hs : w.heap.size ≤ base) (hk : Aside base B C w w') : w'.ownsRow base' e size v n xs :=
  owned_keep h fun g hg => by
    have := h.lt g hg
    exact hk.2.2.2.2 g (by omega) (by omega) (by omega)
end
end Go.Proofs.Ytldcadpemnpbmaa
