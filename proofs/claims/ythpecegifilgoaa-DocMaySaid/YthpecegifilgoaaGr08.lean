/- Groups in memory: a map whose keys are terms, each thing in it a row of numbers of the call's own. What the closure of stands does with one term and its place. -/
import Derived.Test.YthpecegifilgoaaMap08
import Derived.Test.YthpecegifilgoaaTell08
import Derived.Test.YthpecegifilgoaaQ02
import Derived.Test.YthpecegifilgoaaVars
set_option linter.unusedVariables false
namespace Go.Proofs.Ythpecegifilgoaa
open Go Go.RowKit

/-- A row of numbers of the call's own. -/
def OwnI (base : Nat) (w : World) (v : Value) (l : List Int) : Prop := w.ownsRow base 3 1 v l.length (ints l)
theorem OwnI.nil {base : Nat} {w : World} : OwnI base w (.slice none 0 0) [] := World.ownsRow_nil _ _ _ _
/-- The map at block B has the groups g. -/
def GrAt (base : Nat) (w : World) (B : Nat) (g : List Gr) : Prop := ∃ m : List Ent, MapAt w B m ∧ base ≤ B ∧ m.length = g.length ∧
  (∀ (i : Nat) (e : Ent) (p : Gr), m[i]? = some e → g[i]? = some p → e.1 = p.1 ∧ OwnI base w e.2 p.2) ∧
  ∀ (i j : Nat) (e f : Ent) (k : Nat), i ≠ j → m[i]? = some e → m[j]? = some f → e.2.ownBlock = some k → f.2.ownBlock ≠ some k
theorem owned_not_map {base : Nat} {w : World} {v : Value} {l : List Int} (h : OwnI base w v l) {B : Nat} {es : Array MapEntry} {c : Nat} (hB : w.heap[B]? = some (.map es c)) : v.ownBlock ≠ some B := by
  intro he
  rcases h.2 with ⟨rfl, _⟩ | ⟨g, cap, cur, rfl, _, hh, _⟩
  · cases he
  · simp only [Value.ownBlock, Option.some.injEq] at he
    subst he
    rw [hh] at hB
    cases hB
theorem GrAt.map {base : Nat} {w : World} {B : Nat} {g : List Gr} (h : GrAt base w B g) : ∃ es c, w.heap[B]? = some (.map es c) := by obtain ⟨m, h1, _⟩ := h; exact ⟨_, _, h1⟩
theorem GrAt.lt {base : Nat} {w : World} {B : Nat} {g : List Gr} (h : GrAt base w B g) : B < w.heap.size := by obtain ⟨m, h1, _⟩ := h; exact (Array.getElem?_eq_some_iff.1 h1).1
theorem GrAt.made (w : World) : GrAt w.heap.size (w.alloc (.map #[] 0)) w.heap.size [] := ⟨[], heap_alloc_new w _, Nat.le_refl _, rfl, by simp, by simp⟩
theorem GrAt.below {base : Nat} {w w' : World} {B : Nat} {g : List Gr} (h : GrAt base w B g) (hb : Below w.heap.size w w') : GrAt base w' B g := by
  have hlt := h.lt
  obtain ⟨m, h1, h2, h3, h4, h5⟩ := h
  exact ⟨m, (hb.block B hlt).trans h1, h2, h3, fun i e p he hp => ⟨(h4 i e p he hp).1, owned_below (h4 i e p he hp).2 hb⟩, h5⟩
theorem posM_getG {base : Nat} {w : World} : ∀ {m : List Ent} {g : List Gr} (t : Tm), m.length = g.length → (∀ (i : Nat) (e : Ent) (p : Gr), m[i]? = some e → g[i]? = some p → e.1 = p.1 ∧ OwnI base w e.2 p.2) → OwnI base w (valM m t) (getG g t)
  | [], g, t, hl, h => by
    cases g with
    | nil => exact OwnI.nil
    | cons p g => cases hl
  | e :: m, g, t, hl, h => by
    cases g with
    | nil => cases hl
    | cons p g =>
      obtain ⟨h1, h2⟩ := h 0 e p rfl rfl
      have ih := posM_getG (m := m) (g := g) t (by simpa using hl) fun i e' p' he hp => h (i + 1) e' p' (by simpa using he) (by simpa using hp)
      rw [getG]
      by_cases ht : e.1 = t
      · have hp : posM (e :: m) t = 0 := by unfold posM; rw [List.findIdx_cons]; simp [ht]
        have hv : valM (e :: m) t = e.2 := by unfold valM; simp [hp]
        rw [if_pos (by rw [← h1]; exact ht), hv]
        exact h2
      · have hp : posM (e :: m) t = posM m t + 1 := by unfold posM; rw [List.findIdx_cons]; simp [ht]
        have hv : valM (e :: m) t = valM m t := by unfold valM; simp [hp]
        rw [if_neg (by rw [← h1]; exact ht), hv]
        exact ih
/-- What is looked up is the group's row. -/
theorem GrAt.look {base : Nat} {w : World} {B : Nat} {g : List Gr} (h : GrAt base w B g) (t : Tm) : ∃ v, (∃ m, MapAt w B m ∧ valM m t = v) ∧ OwnI base w v (getG g t) := by
  obtain ⟨m, h1, h2, h3, h4, h5⟩ := h
  exact ⟨_, ⟨m, h1, rfl⟩, posM_getG t h3 h4⟩
theorem addG_at : ∀ {m : List Ent} {g : List Gr} {t : Tm} {a : Int}, m.length = g.length → (∀ (i : Nat) (e : Ent) (p : Gr), m[i]? = some e → g[i]? = some p → e.1 = p.1) →
    (addG g t a).length = (entM m t).length ∧ (addG g t a)[posM m t]? = some (t, getG g t ++ [a]) ∧ ∀ i p, i ≠ posM m t → (addG g t a)[i]? = some p → g[i]? = some p
  | [], g, t, a, hl, h => by
    cases g with
    | nil => refine ⟨by simp [addG, entM, posM], by simp [addG, posM, getG], fun i p hi hp => ?_⟩; cases i with | zero => simp [posM] at hi | succ i => simp [addG] at hp
    | cons p g => cases hl
  | e :: m, g, t, a, hl, h => by
    cases g with
    | nil => cases hl
    | cons p g =>
      have h1 := h 0 e p rfl rfl
      obtain ⟨i1, i2, i3⟩ := addG_at (m := m) (g := g) (t := t) (a := a) (by simpa using hl) fun i e' p' he hp => h (i + 1) e' p' (by simpa using he) (by simpa using hp)
      have hl' : m.length = g.length := by simpa using hl
      rw [addG]
      by_cases ht : e.1 = t
      · have hp : posM (e :: m) t = 0 := by unfold posM; rw [List.findIdx_cons]; simp [ht]
        have ht' : p.1 = t := by rw [← h1]; exact ht
        rw [if_pos ht', hp]
        refine ⟨by simp [entM, hp, hl'], by simp [getG, ht'], fun i q hi hq => ?_⟩
        cases i with
        | zero => exact absurd rfl hi
        | succ i => simpa using hq
      · have hp : posM (e :: m) t = posM m t + 1 := by unfold posM; rw [List.findIdx_cons]; simp [ht]
        have ht' : ¬ p.1 = t := by rw [← h1]; exact ht
        have he : (entM (e :: m) t).length = (entM m t).length + 1 := by
          unfold entM
          rw [hp]
          by_cases hq : posM m t < m.length
          · rw [if_pos hq, if_pos (by simpa using hq)]; rfl
          · rw [if_neg hq, if_neg (by simpa using hq)]; simp
        rw [if_neg ht', hp]
        refine ⟨by rw [he, List.length_cons, i1], by rw [List.getElem?_cons_succ, i2, getG, if_neg ht'], fun i q hi hq => ?_⟩
        cases i with
        | zero => simpa using hq
        | succ i => simpa using i3 i q (by omega) (by simpa using hq)
/-- The groups behind the entry, the append and the store. -/
theorem GrAt.added {base : Nat} {w w3 : World} {B : Nat} {g : List Gr} {m : List Ent} {t : Tm} {a : Int} {v' : Value}
    (h1 : MapAt w B m) (h2 : base ≤ B) (h3 : m.length = g.length) (h4 : ∀ (i : Nat) (e : Ent) (p : Gr), m[i]? = some e → g[i]? = some p → e.1 = p.1 ∧ OwnI base w e.2 p.2)
    (h5 : ∀ (i j : Nat) (e f : Ent) (k : Nat), i ≠ j → m[i]? = some e → m[j]? = some f → e.2.ownBlock = some k → f.2.ownBlock ≠ some k)
    (hk : ∀ (k : Nat), k < w.heap.size → k ≠ B → (valM m t).ownBlock ≠ some k → w3.heap[k]? = w.heap[k]?)
    (hm : ∀ hp : posM m t < (entM m t).length, MapAt w3 B ((entM m t).set (posM m t) ((entM m t)[posM m t].1, v'))) (ho : OwnI base w3 v' (getG g t ++ [a])) (hn : v'.ownBlock = (valM m t).ownBlock ∨ ∀ k, v'.ownBlock = some k → w.heap.size ≤ k) : GrAt base w3 B (addG g t a) := by
  obtain ⟨p1, p2⟩ := posM_entM m t
  obtain ⟨q1, q2, q3⟩ := addG_at (a := a) (t := t) h3 fun i e p he hp => (h4 i e p he hp).1
  have hB : B < w.heap.size := (Array.getElem?_eq_some_iff.1 h1).1
  have hp2 : (entM m t)[posM m t] = (t, valM m t) := by rw [List.getElem?_eq_getElem p1] at p2; exact Option.some.inj p2
  have hm' := hm p1
  rw [hp2] at hm'
  have hm2 : MapAt w3 B ((entM m t).set (posM m t) (t, v')) := hm'
  have hent : ∀ (i : Nat) (e : Ent), i ≠ posM m t → (entM m t)[i]? = some e → m[i]? = some e := fun i e hi he => by
    unfold entM at he
    split at he
    · exact he
    · rename_i hlt
      have hle : posM m t ≤ m.length := List.findIdx_le_length
      rw [List.getElem?_append] at he
      split at he
      · exact he
      · rename_i h6
        have : i ≠ m.length := by omega
        rw [List.getElem?_eq_none (by simp; omega)] at he
        cases he
  have hval : ∀ (i : Nat) (e : Ent) (k : Nat), i ≠ posM m t → m[i]? = some e → e.2.ownBlock = some k → (valM m t).ownBlock ≠ some k := fun i e k hi he hk' => by
    unfold valM
    split
    · rename_i hlt
      exact h5 i (posM m t) e _ k hi he (List.getElem?_eq_getElem hlt) hk'
    · intro hh; cases hh
  refine ⟨_, hm2, h2, by rw [List.length_set, q1], fun i e p he hp => ?_, fun i j e f k hij he hf hk' => ?_⟩
  · rw [List.getElem?_set] at he
    by_cases hi : posM m t = i
    · subst hi
      rw [if_pos rfl, if_pos p1] at he
      rw [q2] at hp
      cases he
      cases hp
      exact ⟨rfl, ho⟩
    · rw [if_neg hi] at he
      have he' := hent i e (fun h => hi h.symm) he
      have hp' := q3 i p (fun h => hi h.symm) hp
      obtain ⟨r1, r2⟩ := h4 i e p he' hp'
      refine ⟨r1, owned_keep r2 fun k hk' => ?_⟩
      exact hk k (r2.lt k hk').2 (fun e => owned_not_map r2 h1 (by rw [hk', e])) (hval i e k (fun h => hi h.symm) he' hk')
  · rw [List.getElem?_set] at he hf
    have hother : ∀ (x : Nat) (u : Ent), posM m t ≠ x → (entM m t)[x]? = some u → ∀ k, u.2.ownBlock = some k → v'.ownBlock ≠ some k := fun x u hx hu k hk2 hv => by
      have hu' := hent x u (fun h => hx h.symm) hu
      rcases hn with hn | hn
      · rw [hn] at hv
        exact hval x u k (fun h => hx h.symm) hu' hk2 hv
      · have hlx : x < g.length := by rw [← h3]; exact (List.getElem?_eq_some_iff.1 hu').1
        have := ((h4 x u _ hu' (List.getElem?_eq_getElem hlx)).2.lt k hk2).2
        have := hn k hv
        omega
    by_cases hi : posM m t = i
    · subst hi
      rw [if_pos rfl, if_pos p1] at he
      cases he
      rw [if_neg hij] at hf
      intro hf2
      exact hother j f hij hf k hf2 hk'
    · rw [if_neg hi] at he
      by_cases hj : posM m t = j
      · subst hj
        rw [if_pos rfl, if_pos p1] at hf
        cases hf
        exact hother i e hi he k hk'
      · rw [if_neg hj] at hf
        exact h5 i j e f k hij (hent i e (fun h => hi h.symm) he) (hent j f (fun h => hj h.symm) hf) hk'
end Go.Proofs.Ythpecegifilgoaa
