/- Documents that were found, plain: two lists told side by side, what is kept of them, tables of documents. No program. -/
import Derived.WalkKit
set_option linter.unusedVariables false
namespace Go.Proofs.Ytldcadpemnpbmaa

/-- A document that was found: its place, its Score. -/
abbrev Fo := Nat × Int
/-- A document of two lists: with its Scores, added; does it stand in the first one, in the second one? -/
abbrev Pr := Fo × Bool × Bool
def aheadF : List Fo → List Fo → Bool
  | [], _ => false
  | _ :: _, [] => true
  | x :: _, y :: _ => decide (x.1 ≤ y.1)
def restF (a b : List Fo) : List Fo := if aheadF a b = true then a.tail else a
def topF (a b : List Fo) : Fo :=
  match a, b with
  | [], [] => (0, 0)
  | x :: _, [] => x
  | [], y :: _ => (y.1, 0 + y.2)
  | x :: _, y :: _ => if x.1 < y.1 then x else (y.1, (if x.1 ≤ y.1 then x.2 else 0) + y.2)
def headF (a b : List Fo) : Pr := (topF a b, aheadF a b, aheadF b a)
theorem rest_le (a b : List Fo) : (restF a b).length ≤ a.length := by
  unfold restF
  split
  · simp
  · exact Nat.le_refl _
theorem rest_lt (a b : List Fo) (h : ¬ (a = [] ∧ b = [])) : (restF a b).length + (restF b a).length < a.length + b.length := by
  have h1 := rest_le a b
  have h2 := rest_le b a
  rcases a with _ | ⟨x, a⟩
  · rcases b with _ | ⟨y, b⟩
    · exact absurd ⟨rfl, rfl⟩ h
    · simp [restF, aheadF]
  · rcases b with _ | ⟨y, b⟩
    · simp [restF, aheadF]
    · by_cases h3 : x.1 ≤ y.1
      · have : (restF (x :: a) (y :: b)).length = a.length := by simp [restF, aheadF, h3]
        simp only [List.length_cons] at h1 h2 ⊢
        omega
      · have h4 : y.1 ≤ x.1 := by omega
        have : (restF (y :: b) (x :: a)).length = b.length := by simp [restF, aheadF, h4]
        simp only [List.length_cons] at h1 h2 ⊢
        omega
/-- The documents of two lists, side by side. -/
def pairsF (a b : List Fo) : List Pr := if h : a = [] ∧ b = [] then [] else headF a b :: pairsF (restF a b) (restF b a)
termination_by a.length + b.length
decreasing_by exact rest_lt a b h
theorem pairs_nil : pairsF [] [] = [] := by rw [pairsF]; simp
theorem pairs_step {a b : List Fo} (h : ¬ (a = [] ∧ b = [])) : pairsF a b = headF a b :: pairsF (restF a b) (restF b a) := by rw [pairsF, dif_neg h]
theorem pairs_length : ∀ (n : Nat) (a b : List Fo), a.length + b.length ≤ n → (pairsF a b).length ≤ a.length + b.length
  | n, a, b, hn => by
    by_cases h : a = [] ∧ b = []
    · rw [h.1, h.2, pairs_nil]; exact Nat.le_refl _
    · have h1 := rest_lt a b h
      rw [pairs_step h, List.length_cons]
      cases n with
      | zero => omega
      | succ n =>
        have := pairs_length n (restF a b) (restF b a) (by omega)
        omega
/-- Those of them that are to be kept. -/
def keptL (f : Bool → Bool → Bool) (l : List Pr) : List Fo := (l.filter fun p => f p.2.1 p.2.2).map (·.1)
def keptF (f : Bool → Bool → Bool) (a b : List Fo) : List Fo := keptL f (pairsF a b)
theorem keptL_append (f : Bool → Bool → Bool) (a b : List Pr) : keptL f (a ++ b) = keptL f a ++ keptL f b := by simp [keptL]
theorem keptL_one (f : Bool → Bool → Bool) (p : Pr) : keptL f [p] = if f p.2.1 p.2.2 = true then [p.1] else [] := by
  unfold keptL
  by_cases h : f p.2.1 p.2.2 = true
  · simp [h]
  · simp [h]
theorem keptL_length (f : Bool → Bool → Bool) (l : List Pr) : (keptL f l).length ≤ l.length := by
  unfold keptL
  rw [List.length_map]
  exact List.length_filter_le _ _

/-- A document's Score in a list, if it stands there. -/
def scF : List Fo → Nat → Option Int
  | [], _ => none
  | x :: l, d => if x.1 = d then some x.2 else scF l d
/-- Documents rise. -/
def RiseF (l : List Fo) : Prop := l.Pairwise fun x y => x.1 < y.1
/-- All documents are from d on. -/
def LowF (d : Nat) (l : List Fo) : Prop := ∀ x ∈ l, d ≤ x.1
theorem sc_low {d e : Nat} : ∀ {l : List Fo}, LowF d l → e < d → scF l e = none
  | [], _, _ => rfl
  | x :: l, h, he => by
    have := h x (List.mem_cons_self ..)
    rw [scF, if_neg (by omega)]
    exact sc_low (fun y hy => h y (List.mem_cons_of_mem _ hy)) he
theorem rise_tail {x : Fo} {l : List Fo} (h : RiseF (x :: l)) : RiseF l ∧ LowF (x.1 + 1) l := ⟨(List.pairwise_cons.1 h).2, fun y hy => (List.pairwise_cons.1 h).1 y hy⟩
theorem sc_mem {l : List Fo} {d : Nat} {s : Int} (h : scF l d = some s) : (d, s) ∈ l := by
  induction l with
  | nil => cases h
  | cons x l ih =>
    rw [scF] at h
    split at h
    · rename_i h1
      injection h with h
      rw [← h1, ← h]
      exact List.mem_cons_self ..
    · exact List.mem_cons_of_mem _ (ih h)
theorem sc_of_mem : ∀ {l : List Fo} {x : Fo}, RiseF l → x ∈ l → scF l x.1 = some x.2
  | y :: l, x, h, hx => by
    obtain ⟨h1, h2⟩ := rise_tail h
    rcases List.mem_cons.1 hx with rfl | hx
    · rw [scF, if_pos rfl]
    · have := h2 x hx
      rw [scF, if_neg (by omega)]
      exact sc_of_mem h1 hx
theorem sc_ext : ∀ {a b : List Fo}, RiseF a → RiseF b → (∀ d, scF a d = scF b d) → a = b
  | [], [], _, _, _ => rfl
  | [], y :: b, _, _, h => by have := h y.1; simp [scF] at this
  | x :: a, [], _, _, h => by have := h x.1; simp [scF] at this
  | x :: a, y :: b, ha, hb, h => by
    obtain ⟨a1, a2⟩ := rise_tail ha
    obtain ⟨b1, b2⟩ := rise_tail hb
    have hx := h x.1
    have hy := h y.1
    have hd : x.1 = y.1 := by
      rcases Nat.lt_trichotomy x.1 y.1 with e | e | e
      · rw [scF, if_pos rfl, scF, if_neg (by omega), sc_low b2 (by omega)] at hx; cases hx
      · exact e
      · rw [scF, if_neg (by omega), scF, if_pos rfl, sc_low a2 (by omega)] at hy; cases hy
    have hs : x.2 = y.2 := by
      rw [scF, if_pos rfl, scF, if_pos hd.symm] at hx
      injection hx
    rw [Prod.ext hd hs, sc_ext a1 b1 fun d => ?_]
    by_cases hdx : d = x.1
    · rw [hdx, sc_low a2 (by omega), sc_low b2 (by omega)]
    · have := h d
      rwa [scF, if_neg (fun e => hdx e.symm), scF, if_neg (fun e => hdx (by rw [hd]; exact e.symm))] at this
theorem low_more {d e : Nat} {l : List Fo} (h : LowF d l) (he : e ≤ d) : LowF e l := fun x hx => Nat.le_trans he (h x hx)

/-- What both lists tell of a document. -/
def bothF (f : Bool → Bool → Bool) (x y : Option Int) : Option Int := if (x.isSome || y.isSome) && f x.isSome y.isSome then some (x.getD 0 + y.getD 0) else none
/-- What a step does to the lists: the least document is told, and it is the least. -/
theorem step_sc {a b : List Fo} (ha : RiseF a) (hb : RiseF b) (h : ¬ (a = [] ∧ b = [])) :
    ∃ d, (topF a b).1 = d ∧ RiseF (restF a b) ∧ LowF (d + 1) (restF a b) ∧ LowF d a ∧ scF a d = (if aheadF a b = true then scF a d else none) ∧ (aheadF a b = (scF a d).isSome) ∧ (∀ e, e ≠ d → scF (restF a b) e = scF a e) ∧
      RiseF (restF b a) ∧ LowF (d + 1) (restF b a) ∧ LowF d b ∧ (aheadF b a = (scF b d).isSome) ∧ (∀ e, e ≠ d → scF (restF b a) e = scF b e) ∧ (topF a b).2 = (scF a d).getD 0 + (scF b d).getD 0 := by
  rcases a with _ | ⟨x, a⟩
  · rcases b with _ | ⟨y, b⟩
    · exact absurd ⟨rfl, rfl⟩ h
    · obtain ⟨b1, b2⟩ := rise_tail hb
      refine ⟨y.1, rfl, List.Pairwise.nil, (fun z hz => by cases hz), (fun z hz => by cases hz), rfl, rfl, fun e _ => rfl, ?_, ?_, ?_, ?_, ?_, ?_⟩
      · simpa [restF, aheadF] using b1
      · simpa [restF, aheadF] using b2
      · intro z hz
        rcases List.mem_cons.1 hz with rfl | hz
        · exact Nat.le_refl _
        · have := b2 z hz; omega
      · simp [aheadF, scF]
      · intro e he
        rw [scF, if_neg (fun q => he q.symm)]
        rfl
      · simp [topF, scF]
  · obtain ⟨a1, a2⟩ := rise_tail ha
    have la : LowF x.1 (x :: a) := fun z hz => by
      rcases List.mem_cons.1 hz with rfl | hz
      · exact Nat.le_refl _
      · have := a2 z hz; omega
    rcases b with _ | ⟨y, b⟩
    · refine ⟨x.1, rfl, by simpa [restF, aheadF] using a1, by simpa [restF, aheadF] using a2, la, by simp [aheadF], by simp [aheadF, scF], fun e he => ?_, List.Pairwise.nil, (fun z hz => by cases hz), (fun z hz => by cases hz), rfl, fun e _ => rfl, by simp [topF, scF]⟩
      rw [scF, if_neg (fun q => he q.symm)]
      rfl
    · obtain ⟨b1, b2⟩ := rise_tail hb
      have lb : LowF y.1 (y :: b) := fun z hz => by
        rcases List.mem_cons.1 hz with rfl | hz
        · exact Nat.le_refl _
        · have := b2 z hz; omega
      rcases Nat.lt_trichotomy x.1 y.1 with e | e | e
      · have e1 : x.1 ≤ y.1 := by omega
        have e2 : ¬ y.1 ≤ x.1 := by omega
        have n1 : scF (y :: b) x.1 = none := sc_low lb e
        refine ⟨x.1, by simp [topF, e], by simpa [restF, aheadF, e1] using a1, by simpa [restF, aheadF, e1] using a2, la, by simp [aheadF, e1], by simp [aheadF, e1, scF], fun d hd => ?_, by simpa [restF, aheadF, e2] using hb, ?_, low_more lb (by omega), by simp [aheadF, e2, n1], fun d hd => by simp [restF, aheadF, e2], by rw [n1]; simp [topF, e, scF]⟩
        · rw [show restF (x :: a) (y :: b) = a by simp [restF, aheadF, e1], scF, if_neg (fun q => hd q.symm)]
        · rw [show restF (y :: b) (x :: a) = y :: b by simp [restF, aheadF, e2]]
          exact low_more lb (by omega)
      · have e1 : x.1 ≤ y.1 := by omega
        have e2 : y.1 ≤ x.1 := by omega
        have e3 : ¬ x.1 < y.1 := by omega
        refine ⟨x.1, by simp [topF, e], by simpa [restF, aheadF, e1] using a1, by simpa [restF, aheadF, e1] using a2, la, by simp [aheadF, e1], by simp [aheadF, e1, scF], fun d hd => ?_, by simpa [restF, aheadF, e2] using b1, ?_, low_more lb e1, by simp [aheadF, scF, e], fun d hd => ?_, by simp [topF, e, scF]⟩
        · rw [show restF (x :: a) (y :: b) = a by simp [restF, aheadF, e1], scF, if_neg (fun q => hd q.symm)]
        · rw [show restF (y :: b) (x :: a) = b by simp [restF, aheadF, e2], e]
          exact b2
        · rw [show restF (y :: b) (x :: a) = b by simp [restF, aheadF, e2], scF, if_neg (fun q => hd (by rw [e]; exact q.symm))]
      · have e1 : ¬ x.1 ≤ y.1 := by omega
        have e2 : y.1 ≤ x.1 := by omega
        have e3 : ¬ x.1 < y.1 := by omega
        have n1 : scF (x :: a) y.1 = none := sc_low la e
        refine ⟨y.1, by simp [topF, e3], by simpa [restF, aheadF, e1] using ha, ?_, low_more la e2, by simp [aheadF, e1, n1], by simp [aheadF, e1, n1], fun d hd => by simp [restF, aheadF, e1], by simpa [restF, aheadF, e2] using b1, by simpa [restF, aheadF, e2] using b2, lb, by simp [aheadF, e2, scF], fun d hd => ?_, by rw [n1]; simp [topF, e3, e1, scF]⟩
        · rw [show restF (x :: a) (y :: b) = x :: a by simp [restF, aheadF, e1]]
          exact low_more la (by omega)
        · rw [show restF (y :: b) (x :: a) = b by simp [restF, aheadF, e2], scF, if_neg (fun q => hd q.symm)]
theorem kept_is (f : Bool → Bool → Bool) : ∀ (n : Nat) {a b : List Fo}, a.length + b.length ≤ n → RiseF a → RiseF b →
    RiseF (keptF f a b) ∧ (∀ d, LowF d a → LowF d b → LowF d (keptF f a b)) ∧ ∀ d, scF (keptF f a b) d = bothF f (scF a d) (scF b d)
  | n, a, b, hn, ha, hb => by
    by_cases h : a = [] ∧ b = []
    · rw [h.1, h.2, keptF, pairs_nil]
      exact ⟨List.Pairwise.nil, (fun _ _ _ x hx => by cases hx), fun d => by simp [keptL, scF, bothF]⟩
    · have hl := rest_lt a b h
      obtain ⟨n, rfl⟩ : ∃ m, n = m + 1 := ⟨n - 1, by omega⟩
      obtain ⟨d0, t1, r1, r2, r3, -, r5, r6, q1, q2, q3, q4, q5, t2⟩ := step_sc ha hb h
      obtain ⟨i1, i2, i3⟩ := kept_is f n (by omega) r1 q1
      have e : keptF f a b = (if f (aheadF a b) (aheadF b a) = true then [topF a b] else []) ++ keptF f (restF a b) (restF b a) := by
        unfold keptF
        rw [pairs_step h, show headF a b :: pairsF (restF a b) (restF b a) = [headF a b] ++ pairsF (restF a b) (restF b a) from rfl, keptL_append, keptL_one]
        rfl
      have hlow := i2 (d0 + 1) r2 q2
      have hsome : (scF a d0).isSome || (scF b d0).isSome := by
        rw [← r5, ← q4]
        rcases a with _ | ⟨x, a⟩
        · rcases b with _ | ⟨y, b⟩
          · exact absurd ⟨rfl, rfl⟩ h
          · rfl
        · rcases b with _ | ⟨y, b⟩
          · rfl
          · simp only [aheadF]
            by_cases hh : x.1 ≤ y.1
            · simp [hh]
            · simp [show y.1 ≤ x.1 by omega]
      have htop : topF a b = (d0, (scF a d0).getD 0 + (scF b d0).getD 0) := Prod.ext t1 t2
      rw [e]
      rw [r5, q4]
      by_cases hf : f (scF a d0).isSome (scF b d0).isSome = true
      · rw [if_pos hf, List.singleton_append]
        refine ⟨List.pairwise_cons.2 ⟨fun y hy => by have := hlow y hy; omega, i1⟩, fun d h1 h2 x hx => ?_, fun d => ?_⟩
        · rcases List.mem_cons.1 hx with rfl | hx
          · rw [t1]
            rcases Bool.or_eq_true _ _ |>.mp hsome with hs | hs
            · obtain ⟨s, hs⟩ := Option.isSome_iff_exists.1 hs
              exact h1 _ (sc_mem hs)
            · obtain ⟨s, hs⟩ := Option.isSome_iff_exists.1 hs
              exact h2 _ (sc_mem hs)
          · exact i2 d (fun z hz => by
              by_cases hq : scF a z.1 = none
              · have := r6 z.1
                by_cases hz0 : z.1 = d0
                · have := r2 z hz; omega
                · rw [← this hz0, sc_of_mem r1 hz] at hq; cases hq
              · obtain ⟨s, hs⟩ := Option.isSome_iff_exists.1 (by simpa [Option.isSome_iff_ne_none] using hq)
                exact h1 (z.1, s) (sc_mem hs)) (fun z hz => by
              by_cases hq : scF b z.1 = none
              · have := q5 z.1
                by_cases hz0 : z.1 = d0
                · have := q2 z hz; omega
                · rw [← this hz0, sc_of_mem q1 hz] at hq; cases hq
              · obtain ⟨s, hs⟩ := Option.isSome_iff_exists.1 (by simpa [Option.isSome_iff_ne_none] using hq)
                exact h2 (z.1, s) (sc_mem hs)) x hx
        · rw [scF, t1]
          by_cases hd : d0 = d
          · subst hd
            rw [if_pos rfl, t2, bothF, hsome, hf]
            rfl
          · rw [if_neg hd, i3, r6 d (fun q => hd q.symm), q5 d (fun q => hd q.symm)]
      · rw [if_neg hf, List.nil_append]
        refine ⟨i1, fun d h1 h2 x hx => ?_, fun d => ?_⟩
        · have := hlow x hx
          rcases Bool.or_eq_true _ _ |>.mp hsome with hs | hs
          · obtain ⟨s, hs⟩ := Option.isSome_iff_exists.1 hs
            have := h1 _ (sc_mem hs)
            simp only at this
            omega
          · obtain ⟨s, hs⟩ := Option.isSome_iff_exists.1 hs
            have := h2 _ (sc_mem hs)
            simp only at this
            omega
        · by_cases hd : d0 = d
          · subst hd
            rw [sc_low hlow (by omega), bothF, if_neg]
            simp [hf]
          · rw [i3, r6 d (fun q => hd q.symm), q5 d (fun q => hd q.symm)]
theorem kept_rise (f : Bool → Bool → Bool) {a b : List Fo} (ha : RiseF a) (hb : RiseF b) : RiseF (keptF f a b) := (kept_is f _ (Nat.le_refl _) ha hb).1
theorem kept_sc (f : Bool → Bool → Bool) {a b : List Fo} (ha : RiseF a) (hb : RiseF b) (d : Nat) : scF (keptF f a b) d = bothF f (scF a d) (scF b d) := (kept_is f _ (Nat.le_refl _) ha hb).2.2 d

/-- A table of so many documents. -/
def tabF (n : Nat) (g : Nat → Option Int) : List Fo := (List.range n).filterMap fun d => (g d).map fun s => (d, s)
theorem tab_zero (g : Nat → Option Int) : tabF 0 g = [] := rfl
theorem tab_succ (n : Nat) (g : Nat → Option Int) : tabF (n + 1) g = tabF n g ++ (match g n with | none => [] | some s => [(n, s)]) := by
  unfold tabF
  rw [List.range_succ, List.filterMap_append]
  congr 1
  cases h : g n <;> simp [h]
theorem tab_low {n : Nat} {g : Nat → Option Int} : ∀ x ∈ tabF n g, x.1 < n ∧ g x.1 = some x.2 := by
  intro x hx
  unfold tabF at hx
  obtain ⟨d, hd, h⟩ := List.mem_filterMap.1 hx
  obtain ⟨s, hs, rfl⟩ := Option.map_eq_some_iff.1 h
  exact ⟨List.mem_range.1 hd, hs⟩
theorem tab_rise (g : Nat → Option Int) : ∀ n, RiseF (tabF n g)
  | 0 => List.Pairwise.nil
  | n + 1 => by
    rw [tab_succ]
    refine List.pairwise_append.2 ⟨tab_rise g n, ?_, fun x hx y hy => ?_⟩
    · cases g n with
      | none => exact List.Pairwise.nil
      | some s => exact List.pairwise_singleton _ _
    · cases h : g n with
      | none => rw [h] at hy; cases hy
      | some s =>
        rw [h] at hy
        rw [List.mem_singleton.1 hy]
        exact (tab_low x hx).1
theorem sc_append {a b : List Fo} (d : Nat) : scF (a ++ b) d = match scF a d with | some s => some s | none => scF b d := by
  induction a with
  | nil => rfl
  | cons x a ih =>
    rw [List.cons_append, scF, scF, ih]
    split <;> rfl
theorem tab_sc (g : Nat → Option Int) : ∀ (n d : Nat), scF (tabF n g) d = if d < n then g d else none
  | 0, d => by rw [if_neg (by omega)]; rfl
  | n + 1, d => by
    rw [tab_succ, sc_append, tab_sc g n d]
    by_cases h : d < n
    · rw [if_pos h, if_pos (by omega)]
      cases hg : g d with
      | some s => rfl
      | none => 
        simp only
        cases h2 : g n with
        | none => rfl
        | some s => simp [scF]; omega
    · rw [if_neg h]
      simp only
      by_cases h1 : d = n
      · subst h1
        rw [if_pos (by omega)]
        cases g d <;> simp [scF]
      · rw [if_neg (by omega)]
        cases h2 : g n with
        | none => rfl
        | some s => simp [scF]; omega
theorem tab_of {l : List Fo} {n : Nat} {g : Nat → Option Int} (h : RiseF l) (hs : ∀ d, scF l d = if d < n then g d else none) : l = tabF n g := sc_ext h (tab_rise g n) fun d => by rw [hs, tab_sc]
theorem tab_ext {n : Nat} {g h : Nat → Option Int} (hh : ∀ d, d < n → g d = h d) : tabF n g = tabF n h := tab_of (tab_rise g n) fun d => by
  rw [tab_sc]
  by_cases e : d < n
  · rw [if_pos e, if_pos e, hh d e]
  · rw [if_neg e, if_neg e]
theorem tab_length (g : Nat → Option Int) (n : Nat) : (tabF n g).length ≤ n := by
  unfold tabF
  have := List.length_filterMap_le (fun d => (g d).map fun s => (d, s)) (List.range n)
  rwa [List.length_range] at this
/-- All documents of so many. -/
def everyF (n : Nat) : List Fo := tabF n fun _ => some 0
theorem every_succ (n : Nat) : everyF (n + 1) = everyF n ++ [(n, 0)] := tab_succ n _
theorem every_length : ∀ n, (everyF n).length = n
  | 0 => rfl
  | n + 1 => by rw [every_succ, List.length_append, every_length n]; rfl
def andB (l r : Bool) : Bool := l && r
def orB (l r : Bool) : Bool := l || r
def notB' (l r : Bool) : Bool := l && !r
def andF : List Fo → List Fo → List Fo := keptF andB
def orF : List Fo → List Fo → List Fo := keptF orB
def notF (a : List Fo) (n : Nat) : List Fo := keptF notB' (everyF n) a
theorem not_is {a : List Fo} (ha : RiseF a) (n : Nat) : notF a n = tabF n fun d => if (scF a d).isSome = true then none else some 0 := by
  refine tab_of (kept_rise _ (tab_rise _ _) ha) fun d => ?_
  rw [notF, everyF, kept_sc _ (tab_rise _ _) ha, tab_sc]
  by_cases h : d < n
  · rw [if_pos h, if_pos h]
    cases scF a d <;> rfl
  · rw [if_neg h, if_neg h]
    cases scF a d <;> rfl
/-- What is filtered of a table. -/
theorem tab_filter (p : Nat → Bool) (g : Nat → Option Int) : ∀ n, (tabF n g).filter (fun x => p x.1) = tabF n fun d => if p d = true then g d else none
  | 0 => rfl
  | n + 1 => by
    rw [tab_succ, tab_succ, List.filter_append, tab_filter p g n]
    congr 1
    cases hp : p n <;> cases hg : g n <;> simp [hp]
/-- The document's join, document by document. -/
def joinD (or : Bool) (a b : List Fo) (most : Nat) : List Fo := tabF most fun d => bothF (if or = true then orB else andB) (scF a d) (scF b d)
theorem join_is (or : Bool) {a b : List Fo} (ha : RiseF a) (hb : RiseF b) {most : Nat} (h1 : ∀ x ∈ a, x.1 < most) (h2 : ∀ x ∈ b, x.1 < most) : keptF (if or = true then orB else andB) a b = joinD or a b most := by
  refine tab_of (kept_rise _ ha hb) fun d => ?_
  rw [kept_sc _ ha hb]
  by_cases h : d < most
  · rw [if_pos h]
  · rw [if_neg h]
    have g1 : scF a d = none := by
      cases e : scF a d with
      | none => rfl
      | some s => exact absurd (h1 _ (sc_mem e)) h
    have g2 : scF b d = none := by
      cases e : scF b d with
      | none => rfl
      | some s => exact absurd (h2 _ (sc_mem e)) h
    rw [g1, g2]
    cases or <;> rfl
theorem rise_last {l : List Fo} {x y : Fo} (h : RiseF l) (hl : l.getLast? = some y) (hx : x ∈ l) : x.1 < y.1 + 1 := by
  induction l with
  | nil => cases hx
  | cons z l ih =>
    obtain ⟨h1, h2⟩ := rise_tail h
    rcases l with _ | ⟨u, l⟩
    · simp at hl hx
      subst hl hx
      omega
    · have hl' : (u :: l).getLast? = some y := by simpa using hl
      rcases List.mem_cons.1 hx with rfl | hx
      · have := h2 y (List.mem_of_getLast? hl')
        omega
      · exact ih h1 hl' hx
/-- And is Not of Or of Nots, but for Scores. -/
theorem logic_is {a b : List Fo} (ha : RiseF a) (hb : RiseF b) {n : Nat} (h1 : ∀ x ∈ a, x.1 < n) (h2 : ∀ x ∈ b, x.1 < n) :
    notF (orF (notF a n) (notF b n)) n = (andF a b).map fun x => (x.1, 0) := by
  have hna : RiseF (notF a n) := kept_rise _ (tab_rise _ _) ha
  have hnb : RiseF (notF b n) := kept_rise _ (tab_rise _ _) hb
  have hor : RiseF (orF (notF a n) (notF b n)) := kept_rise _ hna hnb
  have hand : RiseF (andF a b) := kept_rise _ ha hb
  rw [not_is hor]
  symm
  have hm : ∀ {l : List Fo} (d : Nat), scF (l.map fun x => (x.1, (0 : Int))) d = (scF l d).map fun _ => 0 := by
    intro l d
    induction l with
    | nil => rfl
    | cons x l ih =>
      rw [List.map_cons, scF, scF, ih]
      split <;> rfl
  refine tab_of ?_ fun d => ?_
  · unfold RiseF
    rw [List.pairwise_map]
    exact hand
  · rw [hm, andF, kept_sc _ ha hb]
    have e1 : scF (notF a n) d = if d < n then (if (scF a d).isSome = true then none else some 0) else none := by rw [not_is ha, tab_sc]
    have e2 : scF (notF b n) d = if d < n then (if (scF b d).isSome = true then none else some 0) else none := by rw [not_is hb, tab_sc]
    rw [orF, kept_sc _ hna hnb, e1, e2]
    by_cases h : d < n
    · rw [if_pos h, if_pos h, if_pos h]
      cases scF a d <;> cases scF b d <;> simp [bothF, andB, orB]
    · rw [if_neg h]
      have g1 : scF a d = none := by
        cases e : scF a d with
        | none => rfl
        | some s => exact absurd (h1 _ (sc_mem e)) h
      rw [g1]
      cases scF b d <;> rfl
end Go.Proofs.Ytldcadpemnpbmaa
