/- Lists of lists of names in memory. -/
import Derived.Test.YtebdnjfohahpgaaPut07
import Derived.Test.YtebdnjfohahpgaaVars
set_option linter.unusedVariables false
namespace Go.Proofs.Ytebdnjfohahpgaa
open Go Go.RowKit

/-- The cells of lists of names; R says where the names lie. -/
def LsCells (R : Option Addr → List Value → Prop) : List (List Nm) → List Value → Prop
  | [], cs => cs = []
  | x :: r, cs => ∃ A c cs', cs = .slice A x.length c :: cs' ∧ x.length ≤ c ∧ c ≤ maxLen ∧ R A (strs x) ∧ LsCells R r cs'
section
variable {R R' : Option Addr → List Value → Prop}
theorem LsCells.len : ∀ {l : List (List Nm)} {cs : List Value}, LsCells R l cs → cs.length = l.length
  | [], cs, h => by simp only [LsCells] at h; subst h; rfl
  | x :: r, cs, h => by
    obtain ⟨A, c, cs', rfl, _, _, _, h'⟩ := h
    simp only [List.length_cons, LsCells.len h']
theorem LsCells.imp : ∀ {l : List (List Nm)} {cs : List Value}, LsCells R l cs → (∀ A xs, R A xs → R' A xs) → LsCells R' l cs
  | [], cs, h, _ => h
  | x :: r, cs, h, hi => by
    obtain ⟨A, c, cs', rfl, h1, h2, h3, h'⟩ := h
    exact ⟨A, c, cs', rfl, h1, h2, hi _ _ h3, LsCells.imp h' hi⟩
theorem LsCells.at_ : ∀ {l : List (List Nm)} {cs : List Value} {k : Nat}, LsCells R l cs → (hk : k < l.length) →
    ∃ A c, cs[k]? = some (.slice A l[k].length c) ∧ l[k].length ≤ c ∧ c ≤ maxLen ∧ R A (strs l[k])
  | [], _, k, _, h => by simp at h
  | x :: r, cs, 0, h, _ => by
    obtain ⟨A, c, cs', rfl, h1, h2, h3, h'⟩ := h
    exact ⟨A, c, rfl, h1, h2, h3⟩
  | x :: r, cs, k + 1, h, hk => by
    obtain ⟨A, c, cs', rfl, h1, h2, h3, h'⟩ := h
    have := LsCells.at_ (k := k) h' (by simpa using hk)
    simpa using this
theorem LsCells.take : ∀ {l : List (List Nm)} {cs : List Value} (k : Nat), LsCells R l cs → LsCells R (l.take k) (cs.take k)
  | _, cs, 0, _ => by simp [LsCells]
  | [], cs, k + 1, h => by simp only [LsCells] at h; subst h; simp [LsCells]
  | x :: r, cs, k + 1, h => by
    obtain ⟨A, c, cs', rfl, h1, h2, h3, h'⟩ := h
    exact ⟨A, c, _, rfl, h1, h2, h3, LsCells.take k h'⟩
theorem LsCells.drop : ∀ {l : List (List Nm)} {cs : List Value} (k : Nat), LsCells R l cs → LsCells R (l.drop k) (cs.drop k)
  | l, cs, 0, h => by simpa using h
  | [], cs, k + 1, h => by simp only [LsCells] at h; subst h; simp [LsCells]
  | x :: r, cs, k + 1, h => by
    obtain ⟨A, c, cs', rfl, h1, h2, h3, h'⟩ := h
    rw [List.drop_succ_cons, List.drop_succ_cons]
    exact LsCells.drop k h'
end

/-- Lists of names lie behind the address A, all of it below block B. -/
def Lists (w : World) (B : Nat) (A : Option Addr) (l : List (List Nm)) : Prop := ∃ cs, LsCells (Row w B) l cs ∧ Row w B A cs
theorem Lists.below {w w' : World} {B : Nat} {A : Option Addr} {l : List (List Nm)} (h : Lists w B A l) (hb : Below B w w') : Lists w' B A l := by
  obtain ⟨cs, h1, h2⟩ := h
  exact ⟨cs, h1.imp fun _ _ h => h.below hb, h2.below hb⟩
theorem Lists.more {w : World} {B B' : Nat} {A : Option Addr} {l : List (List Nm)} (h : Lists w B A l) (hB : B ≤ B') : Lists w B' A l := by
  obtain ⟨cs, h1, h2⟩ := h
  exact ⟨cs, h1.imp fun _ _ h => h.more hB, h2.more hB⟩
theorem Lists.later {w w' : World} {A : Option Addr} {l : List (List Nm)} (h : Lists w w.heap.size A l) (hb : Below w.heap.size w w') : Lists w' w'.heap.size A l := (h.below hb).more hb.size
theorem Lists.at_ {w : World} {B : Nat} {A : Option Addr} {l : List (List Nm)} (h : Lists w B A l) {k : Nat} (hk : k < l.length) :
    ∃ b off, A = some ⟨b, off, none⟩ ∧ b < B ∧ ∃ A' c', w.cell? ⟨b, off + k, none⟩ = some (.slice A' l[k].length c') ∧ l[k].length ≤ c' ∧ c' ≤ maxLen ∧ Row w B A' (strs l[k]) := by
  obtain ⟨cs, h1, h2⟩ := h
  obtain ⟨b, off, rfl, hb, hc⟩ := h2.at_ (by rw [h1.len]; omega)
  obtain ⟨A', c', g2, g3, g4, g5⟩ := h1.at_ hk
  exact ⟨b, off, rfl, hb, A', c', hc _ _ g2, g3, g4, g5⟩
theorem Lists.cut {w : World} {B : Nat} {A : Option Addr} {l : List (List Nm)} (h : Lists w B A l) (k : Nat) : Lists w B A (l.take k) := by
  obtain ⟨cs, h1, h2⟩ := h
  exact ⟨_, h1.take k, h2.cut k⟩
theorem Lists.drop {w : World} {B b off : Nat} {l : List (List Nm)} (h : Lists w B (some ⟨b, off, none⟩) l) (k : Nat) : Lists w B (some ⟨b, off + k, none⟩) (l.drop k) := by
  obtain ⟨cs, h1, h2⟩ := h
  refine ⟨_, h1.drop k, ?_⟩
  rcases h2 with rfl | ⟨b', o', e, hb, hc⟩
  · exact .inl (by simp)
  · injection e with e
    injection e with e1 e2
    subst e1 e2
    refine .inr ⟨b, off + k, rfl, hb, fun j u hu => ?_⟩
    have := hc (k + j) u (by rw [← hu]; simp)
    rwa [← Nat.add_assoc] at this

/-- Lists of names of the call's own, each in a row of the call's own. -/
def LsOwn (base : Nat) (w : World) : List (List Nm) → List Value → Prop
  | [], cs => cs = []
  | x :: r, cs => ∃ u cs', cs = u :: cs' ∧ OwnNm base w u x ∧ LsOwn base w r cs'
def OwnLs (base : Nat) (w : World) (v : Value) (l : List (List Nm)) : Prop := ∃ cs, w.ownsRow base 22 1 v l.length cs ∧ LsOwn base w l cs
theorem OwnLs.nil {base : Nat} {w : World} : OwnLs base w (.slice none 0 0) [] := ⟨[], World.ownsRow_nil _ _ _ _, rfl⟩
theorem LsOwn.imp {base : Nat} {w w' : World} : ∀ {l : List (List Nm)} {cs : List Value}, LsOwn base w l cs → (∀ u x, OwnNm base w u x → OwnNm base w' u x) → LsOwn base w' l cs
  | [], cs, h, _ => h
  | x :: r, cs, h, hi => by
    obtain ⟨u, cs', rfl, h1, h'⟩ := h
    exact ⟨u, cs', rfl, hi _ _ h1, LsOwn.imp h' hi⟩
theorem LsOwn.snoc {base : Nat} {w : World} : ∀ {l : List (List Nm)} {cs : List Value} {u : Value} {x : List Nm}, LsOwn base w l cs → OwnNm base w u x → LsOwn base w (l ++ [x]) (cs ++ [u])
  | [], cs, u, x, h, hu => by simp only [LsOwn] at h; subst h; exact ⟨u, [], rfl, hu, rfl⟩
  | y :: r, cs, u, x, h, hu => by
    obtain ⟨v, cs', rfl, h1, h'⟩ := h
    exact ⟨v, cs' ++ [u], rfl, h1, LsOwn.snoc h' hu⟩
theorem OwnNm.room {base : Nat} {w : World} {v : Value} {l : List Nm} (h : OwnNm base w v l) : ∃ A c, v = .slice A l.length c ∧ l.length ≤ c ∧ c ≤ maxLen ∧ Row w w.heap.size A (strs l) := by
  obtain ⟨A, c, rfl, hc, hr⟩ := h.row
  refine ⟨A, c, rfl, hc, ?_, hr⟩
  rcases h.2 with ⟨h4, _⟩ | ⟨g, cap, cur, h4, _, _, _, h5, _⟩
  · injection h4 with _ _ h4; omega
  · injection h4 with _ _ h4; rw [h4]; exact h5
theorem LsOwn.cells {base : Nat} {w : World} : ∀ {l : List (List Nm)} {cs : List Value}, LsOwn base w l cs → LsCells (Row w w.heap.size) l cs
  | [], cs, h => h
  | x :: r, cs, h => by
    obtain ⟨u, cs', rfl, h1, h'⟩ := h
    obtain ⟨A, c, rfl, h2, h3, h4⟩ := h1.room
    exact ⟨A, c, cs', rfl, h2, h3, h4, LsOwn.cells h'⟩
theorem OwnLs.lists {base : Nat} {w : World} {v : Value} {l : List (List Nm)} (h : OwnLs base w v l) : ∃ A c, v = .slice A l.length c ∧ l.length ≤ c ∧ Lists w w.heap.size A l := by
  obtain ⟨cs, h1, h2⟩ := h
  obtain ⟨A, c, rfl, hc, hr⟩ := owned_row h1
  exact ⟨A, c, rfl, hc, cs, h2.cells, hr⟩
theorem OwnLs.below {base : Nat} {w w' : World} {v : Value} {l : List (List Nm)} (h : OwnLs base w v l) (hb : Below w.heap.size w w') : OwnLs base w' v l := by
  obtain ⟨cs, h1, h2⟩ := h
  exact ⟨cs, owned_below h1 hb, h2.imp fun _ _ h => h.below hb⟩
/-- What is owned of another kind stays where a row grows. -/
theorem OwnNm.grown {base : Nat} {w w' : World} {u v : Value} {x : List Nm} {n : Nat} {ys : List Value} (h : OwnNm base w u x) (hv : w.ownsRow base 22 1 v n ys) (hg : w.grownBy w' v.ownBlock) : OwnNm base w' u x := by
  refine owned_keep h fun g hu => hg.block g ?_ ?_
  · exact (h.lt g hu).2
  · intro e
    exact owned_apart2 hv h (by decide) hu e.symm
theorem OwnLs.push {base : Nat} {w w' : World} {v v' u : Value} {l : List (List Nm)} {x : List Nm} {cs : List Value} (h1 : w.ownsRow base 22 1 v l.length cs) (h2 : LsOwn base w l cs) (hu : OwnNm base w u x)
    (hown : w'.ownsRow base 22 1 v' (l.length + 1) (cs ++ [u])) (hg : w.grownBy w' v.ownBlock) : OwnLs base w' v' (l ++ [x]) := by
  refine ⟨_, ?_, (h2.imp fun _ _ h => h.grown h1 hg).snoc (hu.grown h1 hg)⟩
  rw [List.length_append, List.length_singleton]
  exact hown
end Go.Proofs.Ytebdnjfohahpgaa
