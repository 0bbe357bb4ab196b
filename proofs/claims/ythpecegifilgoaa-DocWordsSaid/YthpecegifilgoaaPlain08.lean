/- Documents, plain: their names, their errors, their words, where terms stand, phrases, weights. No program. -/
import Derived.Test.YthpecegifilgoaaQ06
import Derived.Test.YthpecegifilgoaaPlain07
set_option linter.unusedVariables false
namespace Go.Proofs.Ythpecegifilgoaa
open Go

/-- A field: its name, its text. -/
abbrev Fd := Nm × Nm
/-- A term: a field's name, a word. -/
abbrev Tm := Nm × Nm
def smallB (c : UInt8) : Bool := decide (97 ≤ c.toNat) && decide (c.toNat ≤ 122)
def nameB (s : Nm) : Bool := s.all smallB && (decide (1 ≤ s.length) && decide (s.length ≤ 12))
theorem nameB_bad {s : Nm} {k : Nat} (hk : k < s.length) (h : smallB s[k] = false) : nameB s = false := by
  rw [← Bool.not_eq_true, nameB, Bool.and_eq_true]
  intro hh
  rw [List.all_eq_true.1 hh.1 _ (List.getElem_mem hk)] at h
  cases h
theorem nameB_good {s : Nm} (h : ∀ k (hk : k < s.length), smallB s[k] = true) : nameB s = (decide (1 ≤ s.length) && decide (s.length ≤ 12)) := by
  rw [nameB, List.all_eq_true.2 fun c hc => by obtain ⟨k, hk, rfl⟩ := List.getElem_of_mem hc; exact h k hk, Bool.true_and]
theorem nameB_zero {s : Nm} (h : nameB s = true) : (0 : UInt8) ∉ s := fun h0 => by
  rw [nameB, Bool.and_eq_true] at h
  exact absurd (List.all_eq_true.1 h.1 _ h0) (by decide)

/-- The first error of fields, behind fields of some names and of so many words. -/
def mayF : List Nm → Nat → List Fd → Int
  | _, n, [] => if 500 < n then 7 else 0
  | seen, n, f :: fs => if nameB f.1 = false then 4 else if f.1 ∈ seen then 5 else if errFrom 0 (words f.2) ≠ 0 then errFrom 0 (words f.2) else mayF (seen ++ [f.1]) (n + (words f.2).length) fs
def mayD (l : List Fd) : Int := if 8 < l.length then 7 else mayF [] 0 l
/-- The words of the field of a name. -/
def wordsD : List Fd → Nm → List Nm
  | [], _ => []
  | f :: fs, s => if f.1 = s then words f.2 else wordsD fs s
theorem wordsD_at {l : List Fd} {s : Nm} : ∀ {k : Nat} (hk : k < l.length), (∀ j (hj : j < l.length), j < k → l[j].1 ≠ s) → l[k].1 = s → wordsD l s = words l[k].2 := by
  induction l with
  | nil => intro k hk; simp at hk
  | cons f fs ih =>
    intro k hk h1 h2
    cases k with
    | zero => exact if_pos h2
    | succ k =>
      have e := h1 0 (by simp) (by omega)
      rw [List.getElem_cons_zero] at e
      rw [wordsD, if_neg e]
      exact ih (by simpa using hk) (fun j hj hjk => by have := h1 (j + 1) (by simpa using hj) (by omega); simpa using this) (by simpa using h2)
theorem wordsD_none {l : List Fd} {s : Nm} (h : ∀ j (hj : j < l.length), l[j].1 ≠ s) : wordsD l s = [] := by
  induction l with
  | nil => rfl
  | cons f fs ih =>
    have e := h 0 (by simp)
    rw [List.getElem_cons_zero] at e
    rw [wordsD, if_neg e]
    exact ih fun j hj => by have := h (j + 1) (by simpa using hj); simpa using this
/-- Where a word stands among words, counted from i on. -/
def placesW : Nat → List Nm → Nm → List Int
  | _, [], _ => []
  | i, y :: l, x => if y = x then (i : Int) :: placesW (i + 1) l x else placesW (i + 1) l x
theorem placesW_at {l : List Nm} {x : Nm} {i k : Nat} (hk : k < l.length) : placesW i (l.drop k) x = if l[k] = x then (i : Int) :: placesW (i + 1) (l.drop (k + 1)) x else placesW (i + 1) (l.drop (k + 1)) x := by
  rw [List.drop_eq_getElem_cons hk, placesW]
def placesD (l : List Fd) (t : Tm) : List Int := placesW 0 (wordsD l t.1) t.2
theorem placesW_length (x : Nm) : ∀ (l : List Nm) (i : Nat), (placesW i l x).length ≤ l.length
  | [], _ => Nat.le_refl _
  | y :: l, i => by
    have := placesW_length x l (i + 1)
    rw [placesW]
    split <;> simp <;> omega

def keyT (t : Tm) : Nm := keyL t.1 t.2
def atT (l : List Tm) (k : Nat) : Tm := l.getD k ([], [])
/-- Where a term belongs, looked for from place k down. -/
def backT (l : List Tm) (t : Tm) : Nat → Nat
  | 0 => 0
  | k + 1 => if keyT t < keyT (atT l k) then backT l t k else k + 1
theorem backT_le (l : List Tm) (t : Tm) : ∀ k, backT l t k ≤ k
  | 0 => Nat.le_refl _
  | k + 1 => by
    have := backT_le l t k
    rw [backT]
    split <;> omega
theorem backT_stop {l : List Tm} {t : Tm} : ∀ {k : Nat}, 0 < backT l t k → ¬ keyT t < keyT (atT l (backT l t k - 1))
  | 0, h => by simp [backT] at h
  | k + 1, h => by
    by_cases hk : keyT t < keyT (atT l k)
    · have e : backT l t (k + 1) = backT l t k := by rw [backT, if_pos hk]
      rw [e] at h ⊢
      exact backT_stop h
    · have e : backT l t (k + 1) = k + 1 := by rw [backT, if_neg hk]
      rw [e]
      exact hk
theorem backT_above {l : List Tm} {t : Tm} : ∀ {k j : Nat}, backT l t k ≤ j → j < k → keyT t < keyT (atT l j)
  | 0, j, _, h => by omega
  | k + 1, j, h1, h2 => by
    by_cases hk : keyT t < keyT (atT l k)
    · have e : backT l t (k + 1) = backT l t k := by rw [backT, if_pos hk]
      rw [e] at h1
      by_cases e : j = k
      · subst e; exact hk
      · exact backT_above h1 (by omega)
    · have e : backT l t (k + 1) = k + 1 := by rw [backT, if_neg hk]
      omega
/-- Is it there already, ahead of place k? -/
def hereT (l : List Tm) (t : Tm) (k : Nat) : Bool := decide (0 < k) && decide (atT l (k - 1) = t)
def putT (l : List Tm) (t : Tm) : List Tm := if hereT l t (backT l t l.length) = true then l else l.take (backT l t l.length) ++ t :: l.drop (backT l t l.length)
def termsD (l : List Fd) : List Tm := l.foldl (fun a f => (wordsD l f.1).foldl (fun b x => putT b (f.1, x)) a) []

/-- Terms whose keys rise. -/
def RiseT (l : List Tm) : Prop := Rise (l.map keyT)
theorem atT_lt {l : List Tm} {k : Nat} (hk : k < l.length) : atT l k = l[k] := by rw [atT, List.getD_eq_getElem?_getD, List.getElem?_eq_getElem hk]; rfl
theorem keyT_inj {s t : Tm} (h : keyT s = keyT t) (h0 : (0 : UInt8) ∉ s.1) (h1 : (0 : UInt8) ∉ t.1) : s = t := by
  obtain ⟨e1, e2⟩ := keyL_inj h h0 h1
  exact Prod.ext e1 e2
theorem mem_putT {l : List Tm} {s t : Tm} : s ∈ putT l t ↔ s ∈ l ∨ s = t := by
  unfold putT
  split
  · rename_i h
    rw [hereT, Bool.and_eq_true, decide_eq_true_iff, decide_eq_true_iff] at h
    have := backT_le l t l.length
    have hk : backT l t l.length - 1 < l.length := by omega
    rw [atT_lt hk] at h
    constructor
    · exact .inl
    · rintro (h1 | rfl)
      · exact h1
      · rw [← h.2]; exact List.getElem_mem hk
  · rw [List.mem_append, List.mem_cons]
    conv => rhs; rw [← List.take_append_drop (backT l t l.length) l, List.mem_append]
    constructor
    · rintro (h | h | h)
      · exact .inl (.inl h)
      · exact .inr h
      · exact .inl (.inr h)
    · rintro ((h | h) | h)
      · exact .inl h
      · exact .inr (.inr h)
      · exact .inr (.inl h)
theorem riseT_at {l : List Tm} (h : RiseT l) {i j : Nat} (hj : j < l.length) (hij : i < j) : keyT (atT l i) < keyT (atT l j) := by
  have := rise_at h (i := i) (j := j) (by simpa using hj) hij
  rwa [atT_lt hj, atT_lt (by omega), ← List.getElem_map keyT, ← List.getElem_map keyT]
  all_goals simp <;> omega
theorem riseT_put {l : List Tm} {t : Tm} (h : RiseT l) (h0 : ∀ s ∈ l, (0 : UInt8) ∉ s.1) (h1 : (0 : UInt8) ∉ t.1) : RiseT (putT l t) := by
  unfold putT
  split
  · exact h
  · rename_i hh
    obtain ⟨k, hk⟩ : ∃ k, k = backT l t l.length := ⟨_, rfl⟩
    have hle := backT_le l t l.length
    have habove : ∀ j, k ≤ j → j < l.length → keyT t < keyT (atT l j) := fun j a b => backT_above (k := l.length) (by omega) b
    have hstop : 0 < k → ¬ keyT t < keyT (atT l (k - 1)) := fun a => by rw [hk]; exact backT_stop (by omega)
    rw [← hk] at hh hle
    rw [← hk]
    have hlow : 0 < k → keyT (atT l (k - 1)) < keyT t := fun a => by
      rcases nm_tri (keyT (atT l (k - 1))) (keyT t) with e | e | e
      · exact e
      · refine absurd ?_ hh
        rw [hereT, Bool.and_eq_true, decide_eq_true_iff, decide_eq_true_iff]
        have hk1 : k - 1 < l.length := by omega
        exact ⟨a, keyT_inj e (by rw [atT_lt hk1]; exact h0 _ (List.getElem_mem hk1)) h1⟩
      · exact absurd e (hstop a)
    unfold RiseT Rise
    rw [List.map_append, List.map_cons]
    have hp : List.Pairwise (· < ·) (l.map keyT) := h
    refine List.pairwise_append.2 ⟨?_, List.pairwise_cons.2 ⟨?_, ?_⟩, ?_⟩
    · exact hp.sublist ((List.take_sublist k l).map keyT)
    · intro x hx
      obtain ⟨s, hs, rfl⟩ := List.mem_map.1 hx
      obtain ⟨j, hj, rfl⟩ := List.getElem_of_mem hs
      rw [List.length_drop] at hj
      have := habove (k + j) (by omega) (by omega)
      rw [atT_lt (by omega)] at this
      rwa [List.getElem_drop]
    · exact hp.sublist ((List.drop_sublist k l).map keyT)
    · intro x hx y hy
      obtain ⟨s, hs, rfl⟩ := List.mem_map.1 hx
      obtain ⟨i, hi, rfl⟩ := List.getElem_of_mem hs
      rw [List.length_take] at hi
      have hx : keyT (atT l i) < keyT t := by
        by_cases e : i = k - 1
        · subst e; exact hlow (by omega)
        · exact nm_trans (riseT_at h (i := i) (j := k - 1) (by omega) (by omega)) (hlow (by omega))
      rw [atT_lt (by omega)] at hx
      rw [List.getElem_take]
      rcases List.mem_cons.1 hy with rfl | hy
      · exact hx
      · obtain ⟨s, hs, rfl⟩ := List.mem_map.1 hy
        obtain ⟨j, hj, rfl⟩ := List.getElem_of_mem hs
        rw [List.length_drop] at hj
        have := habove (k + j) (by omega) (by omega)
        rw [atT_lt (by omega)] at this
        rw [List.getElem_drop]
        exact nm_trans hx this

/-- How often words begin to stand side by side. -/
def phraseW (ws : List Nm) : List Nm → Nat
  | [] => 0
  | y :: l => (if ws ≠ [] ∧ (y :: l).take ws.length = ws then 1 else 0) + phraseW ws l
def phraseD (l : List Fd) (s : Nm) (ws : List Nm) : Nat := phraseW ws (wordsD l s)
theorem phraseW_at {ws l : List Nm} {k : Nat} (hk : k < l.length) : phraseW ws (l.drop k) = (if ws ≠ [] ∧ (l.drop k).take ws.length = ws then 1 else 0) + phraseW ws (l.drop (k + 1)) := by
  rw [List.drop_eq_getElem_cons hk, phraseW]
theorem phraseW_nil (l : List Nm) : phraseW [] l = 0 := by
  induction l with
  | nil => rfl
  | cons y l ih => rw [phraseW, ih, if_neg (by simp)]
theorem phraseW_short {ws : List Nm} : ∀ {l : List Nm}, l.length < ws.length → phraseW ws l = 0
  | [], _ => rfl
  | y :: l, h => by
    rw [phraseW, phraseW_short (by simp at h; omega), if_neg]
    rintro ⟨_, h2⟩
    have := congrArg List.length h2
    rw [List.length_take] at this
    omega
theorem phraseW_one (x : Nm) : ∀ (l : List Nm) (i : Nat), phraseW [x] l = (placesW i l x).length
  | [], _ => rfl
  | y :: l, i => by
    rw [phraseW, placesW, phraseW_one x l (i + 1)]
    by_cases h : y = x
    · subst h; simp; omega
    · rw [if_neg (by simpa using h), if_neg h]; omega
def weightD (l : List Fd) : Nat := (l.map fun f => (wordsD l f.1).length).sum

/-- A field that may be, made of any: the i-th. -/
def poolN (i : Nat) : Nm := [116 + UInt8.ofNat i]
def goodF (i : Nat) (f : Fd) : Fd := (if nameB f.1 = true then f.1 else poolN i, f.2.take 40)
def goodUp (l : List Fd) : Nat → List Fd
  | 0 => []
  | k + 1 => if mayD (goodUp l k ++ [goodF k (l.getD k ([], []))]) = 0 then goodUp l k ++ [goodF k (l.getD k ([], []))] else goodUp l k
def goodD (l : List Fd) : List Fd := goodUp l (min l.length 4)
theorem mayF_nil (n : Nat) : mayF [] n [] = if 500 < n then 7 else 0 := rfl
theorem mayD_nil : mayD [] = 0 := rfl
theorem goodUp_may (l : List Fd) : ∀ k, mayD (goodUp l k) = 0
  | 0 => rfl
  | k + 1 => by
    rw [goodUp]
    split
    · rename_i h; exact h
    · exact goodUp_may l k
theorem goodD_may (l : List Fd) : mayD (goodD l) = 0 := goodUp_may _ _
theorem goodUp_length (l : List Fd) : ∀ k, (goodUp l k).length ≤ k
  | 0 => Nat.le_refl _
  | k + 1 => by
    have := goodUp_length l k
    rw [goodUp]
    split
    · simp; omega
    · omega
theorem goodF_text (i : Nat) (f : Fd) : (goodF i f).2.length ≤ 40 := by simp [goodF]; omega
theorem goodUp_text (l : List Fd) : ∀ k, ∀ f ∈ goodUp l k, f.2.length ≤ 40
  | 0, f, h => by cases h
  | k + 1, f, h => by
    rw [goodUp] at h
    split at h
    · rcases List.mem_append.1 h with h | h
      · exact goodUp_text l k f h
      · rw [List.mem_singleton.1 h]; exact goodF_text _ _
    · exact goodUp_text l k f h
end Go.Proofs.Ythpecegifilgoaa
