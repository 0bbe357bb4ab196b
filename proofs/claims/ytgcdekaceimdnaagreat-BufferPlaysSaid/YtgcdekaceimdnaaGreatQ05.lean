/- Texts laid together: Plain08, Nms07, Fld08, Map08, MapK09. -/
import Derived.Test.YtgcdekaceimdnaaGreatQ04
import Derived.Test.YtgcdekaceimdnaaGreatPlain07
import Derived.Sort.OwnSorted
import Derived.Test.YtgcdekaceimdnaaGreatQ03
import Derived.Maps.RangeRun
import Derived.MapKept

/- Documents, plain: their names, their errors, their words, where terms stand, phrases, weights. No program. -/
set_option linter.unusedVariables false
namespace Go.Proofs.YtgcdekaceimdnaaGreat
open Go

/-- A field: its name, its text. -/
abbrev Fd := Nm × Nm
/-- A term: a field's name, a word. -/
abbrev Tm := Nm × Nm
def smallB (c : UInt8) : Bool := decide (97 ≤ c.toNat) && decide (c.toNat ≤ 122)
def nameB (s : Nm) : Bool := s.all smallB && (decide (1 ≤ s.length) && decide (s.length ≤ 12))
theorem nameB_bad {s : Nm} {k : Nat} (hk : k < s.length) (h : smallB s[k] = false) : nameB s = false := by
  rw [← Bool.not_eq_true, nameB, Bool.and_eq_true]
  intro hh
  rw [List.all_eq_true.1 hh.1 _ (List.getElem_mem hk)] at h
  cases h
theorem nameB_good {s : Nm} (h : ∀ k (hk : k < s.length), smallB s[k] = true) : nameB s = (decide (1 ≤ s.length) && decide (s.length ≤ 12)) := by
  rw [nameB, List.all_eq_true.2 fun c hc => by obtain ⟨k, hk, rfl⟩ := List.getElem_of_mem hc; exact h k hk, Bool.true_and]
theorem nameB_zero {s : Nm} (h : nameB s = true) : (0 : UInt8) ∉ s := fun h0 => by
  rw [nameB, Bool.and_eq_true] at h
  exact absurd (List.all_eq_true.1 h.1 _ h0) (by decide)

/-- The first error of fields, behind fields of some names and of so many words. -/
def mayF : List Nm → Nat → List Fd → Int
  | _, n, [] => if 500 < n then 7 else 0
  | seen, n, f :: fs => if nameB f.1 = false then 4 else if f.1 ∈ seen then 5 else if errFrom 0 (words f.2) ≠ 0 then errFrom 0 (words f.2) else mayF (seen ++ [f.1]) (n + (words f.2).length) fs
def mayD (l : List Fd) : Int := if 8 < l.length then 7 else mayF [] 0 l
/-- The words of the field of a name. -/
def wordsD : List Fd → Nm → List Nm
  | [], _ => []
  | f :: fs, s => if f.1 = s then words f.2 else wordsD fs s
theorem wordsD_at {l : List Fd} {s : Nm} : ∀ {k : Nat} (hk : k < l.length), (∀ j (hj : j < l.length), j < k → l[j].1 ≠ s) → l[k].1 = s → wordsD l s = words l[k].2 := by
  induction l with
  | nil => intro k hk; simp at hk
  | cons f fs ih =>
    intro k hk h1 h2
    cases k with
    | zero => exact if_pos h2
    | succ k =>
      have e := h1 0 (by simp) (by omega)
      rw [List.getElem_cons_zero] at e
      rw [wordsD, if_neg e]
      exact ih (by simpa using hk) (fun j hj hjk => by have := h1 (j + 1) (by simpa using hj) (by omega); simpa using this) (by simpa using h2)
theorem wordsD_none {l : List Fd} {s : Nm} (h : ∀ j (hj : j < l.length), l[j].1 ≠ s) : wordsD l s = [] := by
  induction l with
  | nil => rfl
  | cons f fs ih =>
    have e := h 0 (by simp)
    rw [List.getElem_cons_zero] at e
    rw [wordsD, if_neg e]
    exact ih fun j hj => by have := h (j + 1) (by simpa using hj); simpa using this
/-- Where a word stands among words, counted from i on. -/
def placesW : Nat → List Nm → Nm → List Int
  | _, [], _ => []
  | i, y :: l, x => if y = x then (i : Int) :: placesW (i + 1) l x else placesW (i + 1) l x
theorem placesW_at {l : List Nm} {x : Nm} {i k : Nat} (hk : k < l.length) : placesW i (l.drop k) x = if l[k] = x then (i : Int) :: placesW (i + 1) (l.drop (k + 1)) x else placesW (i + 1) (l.drop (k + 1)) x := by
  rw [List.drop_eq_getElem_cons hk, placesW]
def placesD (l : List Fd) (t : Tm) : List Int := placesW 0 (wordsD l t.1) t.2
theorem placesW_length (x : Nm) : ∀ (l : List Nm) (i : Nat), (placesW i l x).length ≤ l.length
  | [], _ => Nat.le_refl _
  | y :: l, i => by
    have := placesW_length x l (i + 1)
    rw [placesW]
    split <;> simp <;> omega

def keyT (t : Tm) : Nm := keyL t.1 t.2
def atT (l : List Tm) (k : Nat) : Tm := l.getD k ([], [])
/-- Where a term belongs, looked for from place k down. -/
def backT (l : List Tm) (t : Tm) : Nat → Nat
  | 0 => 0
  | k + 1 => if keyT t < keyT (atT l k) then backT l t k else k + 1
theorem backT_le (l : List Tm) (t : Tm) : ∀ k, backT l t k ≤ k
  | 0 => Nat.le_refl _
  | k + 1 => by
    have := backT_le l t k
    rw [backT]
    split <;> omega
theorem backT_stop {l : List Tm} {t : Tm} : ∀ {k : Nat}, 0 < backT l t k → ¬ keyT t < keyT (atT l (backT l t k - 1))
  | 0, h => by simp [backT] at h
  | k + 1, h => by
    by_cases hk : keyT t < keyT (atT l k)
    · have e : backT l t (k + 1) = backT l t k := by rw [backT, if_pos hk]
      rw [e] at h ⊢
      exact backT_stop h
    · have e : backT l t (k + 1) = k + 1 := by rw [backT, if_neg hk]
      rw [e]
      exact hk
theorem backT_above {l : List Tm} {t : Tm} : ∀ {k j : Nat}, backT l t k ≤ j → j < k → keyT t < keyT (atT l j)
  | 0, j, _, h => by omega
  | k + 1, j, h1, h2 => by
    by_cases hk : keyT t < keyT (atT l k)
    · have e : backT l t (k + 1) = backT l t k := by rw [backT, if_pos hk]
      rw [e] at h1
      by_cases e : j = k
      · subst e; exact hk
      · exact backT_above h1 (by omega)
    · have e : backT l t (k + 1) = k + 1 := by rw [backT, if_neg hk]
      omega
/-- Is it there already, ahead of place k? -/
def hereT (l : List Tm) (t : Tm) (k : Nat) : Bool := decide (0 < k) && decide (atT l (k - 1) = t)
def putT (l : List Tm) (t : Tm) : List Tm := if hereT l t (backT l t l.length) = true then l else l.take (backT l t l.length) ++ t :: l.drop (backT l t l.length)
def termsD (l : List Fd) : List Tm := l.foldl (fun a f => (wordsD l f.1).foldl (fun b x => putT b (f.1, x)) a) []

/-- Terms whose keys rise. -/
def RiseT (l : List Tm) : Prop := Rise (l.map keyT)
theorem atT_lt {l : List Tm} {k : Nat} (hk : k < l.length) : atT l k = l[k] := by rw [atT, List.getD_eq_getElem?_getD, List.getElem?_eq_getElem hk]; rfl
theorem keyT_inj {s t : Tm} (h : keyT s = keyT t) (h0 : (0 : UInt8) ∉ s.1) (h1 : (0 : UInt8) ∉ t.1) : s = t := by
  obtain ⟨e1, e2⟩ := keyL_inj h h0 h1
  exact Prod.ext e1 e2
theorem mem_putT {l : List Tm} {s t : Tm} : s ∈ putT l t ↔ s ∈ l ∨ s = t := by
  unfold putT
  split
  · rename_i h
    rw [hereT, Bool.and_eq_true, decide_eq_true_iff, decide_eq_true_iff] at h
    have := backT_le l t l.length
    have hk : backT l t l.length - 1 < l.length := by omega
    rw [atT_lt hk] at h
    constructor
    · exact .inl
    · rintro (h1 | rfl)
      · exact h1
      · rw [← h.2]; exact List.getElem_mem hk
  · rw [List.mem_append, List.mem_cons]
    conv => rhs; rw [← List.take_append_drop (backT l t l.length) l, List.mem_append]
    constructor
    · rintro (h | h | h)
      · exact .inl (.inl h)
      · exact .inr h
      · exact .inl (.inr h)
    · rintro ((h | h) | h)
      · exact .inl h
      · exact .inr (.inr h)
      · exact .inr (.inl h)
theorem riseT_at {l : List Tm} (h : RiseT l) {i j : Nat} (hj : j < l.length) (hij : i < j) : keyT (atT l i) < keyT (atT l j) := by
  have := rise_at h (i := i) (j := j) (by simpa using hj) hij
  rwa [atT_lt hj, atT_lt (by omega), ← List.getElem_map keyT, ← List.getElem_map keyT]
  all_goals simp <;> omega
theorem riseT_put {l : List Tm} {t : Tm} (h : RiseT l) (h0 : ∀ s ∈ l, (0 : UInt8) ∉ s.1) (h1 : (0 : UInt8) ∉ t.1) : RiseT (putT l t) := by
  unfold putT
  split
  · exact h
  · rename_i hh
    obtain ⟨k, hk⟩ : ∃ k, k = backT l t l.length := ⟨_, rfl⟩
    have hle := backT_le l t l.length
    have habove : ∀ j, k ≤ j → j < l.length → keyT t < keyT (atT l j) := fun j a b => backT_above (k := l.length) (by omega) b
    have hstop : 0 < k → ¬ keyT t < keyT (atT l (k - 1)) := fun a => by rw [hk]; exact backT_stop (by omega)
    rw [← hk] at hh hle
    rw [← hk]
    have hlow : 0 < k → keyT (atT l (k - 1)) < keyT t := fun a => by
      rcases nm_tri (keyT (atT l (k - 1))) (keyT t) with e | e | e
      · exact e
      · refine absurd ?_ hh
        rw [hereT, Bool.and_eq_true, decide_eq_true_iff, decide_eq_true_iff]
        have hk1 : k - 1 < l.length := by omega
        exact ⟨a, keyT_inj e (by rw [atT_lt hk1]; exact h0 _ (List.getElem_mem hk1)) h1⟩
      · exact absurd e (hstop a)
    unfold RiseT Rise
    rw [List.map_append, List.map_cons]
    have hp : List.Pairwise (· < ·) (l.map keyT) := h
    refine List.pairwise_append.2 ⟨?_, List.pairwise_cons.2 ⟨?_, ?_⟩, ?_⟩
    · exact hp.sublist ((List.take_sublist k l).map keyT)
    · intro x hx
      obtain ⟨s, hs, rfl⟩ := List.mem_map.1 hx
      obtain ⟨j, hj, rfl⟩ := List.getElem_of_mem hs
      rw [List.length_drop] at hj
      have := habove (k + j) (by omega) (by omega)
      rw [atT_lt (by omega)] at this
      rwa [List.getElem_drop]
    · exact hp.sublist ((List.drop_sublist k l).map keyT)
    · intro x hx y hy
      obtain ⟨s, hs, rfl⟩ := List.mem_map.1 hx
      obtain ⟨i, hi, rfl⟩ := List.getElem_of_mem hs
      rw [List.length_take] at hi
      have hx : keyT (atT l i) < keyT t := by
        by_cases e : i = k - 1
        · subst e; exact hlow (by omega)
        · exact nm_trans (riseT_at h (i := i) (j := k - 1) (by omega) (by omega)) (hlow (by omega))
      rw [atT_lt (by omega)] at hx
      rw [List.getElem_take]
      rcases List.mem_cons.1 hy with rfl | hy
      · exact hx
      · obtain ⟨s, hs, rfl⟩ := List.mem_map.1 hy
        obtain ⟨j, hj, rfl⟩ := List.getElem_of_mem hs
        rw [List.length_drop] at hj
        have := habove (k + j) (by omega) (by omega)
        rw [atT_lt (by omega)] at this
        rw [List.getElem_drop]
        exact nm_trans hx this

/-- How often words begin to stand side by side. -/
def phraseW (ws : List Nm) : List Nm → Nat
  | [] => 0
  | y :: l => (if ws ≠ [] ∧ (y :: l).take ws.length = ws then 1 else 0) + phraseW ws l
def phraseD (l : List Fd) (s : Nm) (ws : List Nm) : Nat := phraseW ws (wordsD l s)
theorem phraseW_at {ws l : List Nm} {k : Nat} (hk : k < l.length) : phraseW ws (l.drop k) = (if ws ≠ [] ∧ (l.drop k).take ws.length = ws then 1 else 0) + phraseW ws (l.drop (k + 1)) := by
  rw [List.drop_eq_getElem_cons hk, phraseW]
theorem phraseW_nil (l : List Nm) : phraseW [] l = 0 := by
  induction l with
  | nil => rfl
  | cons y l ih => rw [phraseW, ih, if_neg (by simp)]
theorem phraseW_short {ws : List Nm} : ∀ {l : List Nm}, l.length < ws.length → phraseW ws l = 0
  | [], _ => rfl
  | y :: l, h => by
    rw [phraseW, phraseW_short (by simp at h; omega), if_neg]
    rintro ⟨_, h2⟩
    have := congrArg List.length h2
    rw [List.length_take] at this
    omega
theorem phraseW_one (x : Nm) : ∀ (l : List Nm) (i : Nat), phraseW [x] l = (placesW i l x).length
  | [], _ => rfl
  | y :: l, i => by
    rw [phraseW, placesW, phraseW_one x l (i + 1)]
    by_cases h : y = x
    · subst h; simp; omega
    · rw [if_neg (by simpa using h), if_neg h]; omega
def weightD (l : List Fd) : Nat := (l.map fun f => (wordsD l f.1).length).sum

/-- A field that may be, made of any: the i-th. -/
def poolN (i : Nat) : Nm := [116 + UInt8.ofNat i]
def goodF (i : Nat) (f : Fd) : Fd := (if nameB f.1 = true then f.1 else poolN i, f.2.take 40)
def goodUp (l : List Fd) : Nat → List Fd
  | 0 => []
  | k + 1 => if mayD (goodUp l k ++ [goodF k (l.getD k ([], []))]) = 0 then goodUp l k ++ [goodF k (l.getD k ([], []))] else goodUp l k
def goodD (l : List Fd) : List Fd := goodUp l (min l.length 4)
theorem mayF_nil (n : Nat) : mayF [] n [] = if 500 < n then 7 else 0 := rfl
theorem mayD_nil : mayD [] = 0 := rfl
theorem goodUp_may (l : List Fd) : ∀ k, mayD (goodUp l k) = 0
  | 0 => rfl
  | k + 1 => by
    rw [goodUp]
    split
    · rename_i h; exact h
    · exact goodUp_may l k
theorem goodD_may (l : List Fd) : mayD (goodD l) = 0 := goodUp_may _ _
theorem goodUp_length (l : List Fd) : ∀ k, (goodUp l k).length ≤ k
  | 0 => Nat.le_refl _
  | k + 1 => by
    have := goodUp_length l k
    rw [goodUp]
    split
    · simp; omega
    · omega
theorem goodF_text (i : Nat) (f : Fd) : (goodF i f).2.length ≤ 40 := by simp [goodF]; omega
theorem goodUp_text (l : List Fd) : ∀ k, ∀ f ∈ goodUp l k, f.2.length ≤ 40
  | 0, f, h => by cases h
  | k + 1, f, h => by
    rw [goodUp] at h
    split at h
    · rcases List.mem_append.1 h with h | h
      · exact goodUp_text l k f h
      · rw [List.mem_singleton.1 h]; exact goodF_text _ _
    · exact goodUp_text l k f h
end Go.Proofs.YtgcdekaceimdnaaGreat

/- Lists of texts of a call's own; names as texts, and how a test of texts comes out. -/
set_option linter.unusedVariables false
namespace Go.Proofs.YtgcdekaceimdnaaGreat
open Go Go.RowKit Go.Sort
/-- A list of texts of the call's own. -/
def OwnNm (base : Nat) (w : World) (v : Value) (l : List Nm) : Prop := w.ownsRow base 9 1 v l.length (strs l)
theorem OwnNm.below {base : Nat} {w w' : World} {v : Value} {l : List Nm} (h : OwnNm base w v l) (hb : Below w.heap.size w w') : OwnNm base w' v l := owned_below h hb
theorem OwnNm.low {base b : Nat} {w : World} {v : Value} {l : List Nm} (h : OwnNm base w v l) (hb : b ≤ base) : OwnNm b w v l := owned_low h hb
theorem OwnNm.row {base : Nat} {w : World} {v : Value} {l : List Nm} (h : OwnNm base w v l) : ∃ A c, v = .slice A l.length c ∧ l.length ≤ c ∧ Row w w.heap.size A (strs l) := owned_row h
theorem OwnNm.nil {base : Nat} {w : World} : OwnNm base w (.slice none 0 0) [] := World.ownsRow_nil _ _ _ _
/-- What a call gives that makes a list of texts. -/
def GaveNm (l : List Nm) (w : World) (e : Ending) (w' : World) : Prop := ∃ v, e = .returned v ∧ OwnNm w.heap.size w' v l ∧ Below w.heap.size w w'
theorem less_of {x y : Nm} : Op.bytesLess x y = decide (x < y) := bytesLess_eq x y
theorem ba_list (x : Nm) : ByteArray.toList ⟨x.toArray⟩ = x := by rw [Lib.toList_data]
theorem row_nm {w : World} {B : Nat} {A : Option Addr} {xs : List Nm} (h : Row w B A (strs xs)) {k : Nat} (hk : k < xs.length) :
    ∃ b off, A = some ⟨b, off, none⟩ ∧ b < B ∧ w.cell? ⟨b, off + k, none⟩ = some (.string ⟨xs[k].toArray⟩) := row_str h hk
/-- A name as a text, by a name of its own. -/
theorem as_text (x : Nm) : ∃ t : ByteArray, t = ⟨x.toArray⟩ ∧ t.data.toList = x := ⟨_, rfl, rfl⟩
theorem size_nm (x : Nm) : (⟨x.toArray⟩ : ByteArray).size = x.length := List.size_toArray
theorem less_true {s t : ByteArray} (h : s.data.toList < t.data.toList) : Op.bytesLess s.toList t.toList = true := by rw [Lib.toList_data, Lib.toList_data, less_of]; exact decide_eq_true h
theorem less_false {s t : ByteArray} (h : ¬ s.data.toList < t.data.toList) : Op.bytesLess s.toList t.toList = false := by rw [Lib.toList_data, Lib.toList_data, less_of]; exact decide_eq_false h
theorem same_true {s t : ByteArray} (h : s.data.toList = t.data.toList) : (s.toList == t.toList) = true := by rw [Lib.toList_data, Lib.toList_data, h]; exact beq_self_eq_true _
theorem same_false {s t : ByteArray} (h : s.data.toList ≠ t.data.toList) : (s.toList == t.toList) = false := by rw [Lib.toList_data, Lib.toList_data]; simpa using h
theorem strs_append (a b : List Nm) : strs (a ++ b) = strs a ++ strs b := by simp [strs]
theorem Row.dropped {w : World} {B b off : Nat} {l : List Nm} (h : Row w B (some ⟨b, off, none⟩) (strs l)) (k : Nat) : Row w B (some ⟨b, off + k, none⟩) (strs (l.drop k)) := by
  rcases h with h | ⟨b', o', e, hb, hc⟩
  · refine .inl ?_
    have : l = [] := by simpa [strs] using h
    simp [this, strs]
  · injection e with e
    injection e with e1 e2
    subst e1 e2
    refine .inr ⟨b, off + k, rfl, hb, fun j u hu => ?_⟩
    have := hc (k + j) u (by rw [← hu]; simp [strs])
    rwa [← Nat.add_assoc] at this
theorem strs_oneCell (l : List Nm) : ∀ u ∈ strs l, u.oneCell' = true := by
  intro u hu
  obtain ⟨x, _, rfl⟩ := List.mem_map.1 hu
  rfl
theorem Row.later {w w' : World} {A : Option Addr} {xs : List Value} (h : Row w w.heap.size A xs) (hb : Below w.heap.size w w') : Row w' w'.heap.size A xs := (h.below hb).more hb.size
end Go.Proofs.YtgcdekaceimdnaaGreat

/- Fields in memory: two texts each, one behind the other. -/
set_option linter.unusedVariables false
namespace Go.Proofs.YtgcdekaceimdnaaGreat
open Go Go.RowKit

def flds : List Fd → List Value
  | [] => []
  | f :: l => .string ⟨f.1.toArray⟩ :: .string ⟨f.2.toArray⟩ :: flds l
theorem flds_length : ∀ l : List Fd, (flds l).length = l.length * 2
  | [] => rfl
  | f :: l => by simp only [flds, List.length_cons, flds_length l]; omega
theorem flds_append : ∀ a b : List Fd, flds (a ++ b) = flds a ++ flds b
  | [], _ => rfl
  | f :: a, b => by simp [flds, flds_append a b]
theorem flds_at : ∀ {l : List Fd} {k : Nat} (hk : k < l.length), (flds l)[k * 2]? = some (.string ⟨l[k].1.toArray⟩) ∧ (flds l)[k * 2 + 1]? = some (.string ⟨l[k].2.toArray⟩)
  | [], _, h => by simp at h
  | f :: l, 0, _ => ⟨rfl, rfl⟩
  | f :: l, k + 1, h => by
    have := flds_at (l := l) (k := k) (by simpa using h)
    rw [show (k + 1) * 2 = k * 2 + 1 + 1 by omega]
    simpa [flds] using this
theorem flds_take : ∀ (l : List Fd) (k : Nat), flds (l.take k) = (flds l).take (k * 2)
  | l, 0 => by simp [flds]
  | [], k + 1 => by simp [flds]
  | f :: l, k + 1 => by rw [show (k + 1) * 2 = k * 2 + 1 + 1 by omega]; simp [flds, flds_take l k]
theorem flds_oneCell : ∀ (l : List Fd), ∀ u ∈ flds l, u.oneCell' = true
  | [], u, h => by cases h
  | f :: l, u, h => by
    simp only [flds, List.mem_cons] at h
    rcases h with rfl | rfl | h
    · rfl
    · rfl
    · exact flds_oneCell l u h
/-- Fields behind an address, below block B. -/
def FRow (w : World) (B : Nat) (A : Option Addr) (l : List Fd) : Prop := Row w B A (flds l)
theorem FRow.below {w w' : World} {B : Nat} {A : Option Addr} {l : List Fd} (h : FRow w B A l) (hb : Below B w w') : FRow w' B A l := Row.below h hb
theorem FRow.more {w : World} {B B' : Nat} {A : Option Addr} {l : List Fd} (h : FRow w B A l) (hB : B ≤ B') : FRow w B' A l := Row.more h hB
theorem FRow.nil {w : World} {B : Nat} {A : Option Addr} : FRow w B A [] := Row.nil
theorem FRow.later {w w' : World} {A : Option Addr} {l : List Fd} (h : FRow w w.heap.size A l) (hb : Below w.heap.size w w') : FRow w' w'.heap.size A l := (h.below hb).more hb.size
theorem FRow.at_ {w : World} {B : Nat} {A : Option Addr} {l : List Fd} (h : FRow w B A l) {k : Nat} (hk : k < l.length) :
    ∃ b off, A = some ⟨b, off, none⟩ ∧ b < B ∧ w.cell? ⟨b, off + k * 2, none⟩ = some (.string ⟨l[k].1.toArray⟩) ∧ w.cell? ⟨b, off + k * 2 + 1, none⟩ = some (.string ⟨l[k].2.toArray⟩) := by
  obtain ⟨b, off, rfl, hb, hc⟩ := Row.at_ h (by rw [flds_length]; omega)
  obtain ⟨g1, g2⟩ := flds_at hk
  exact ⟨b, off, rfl, hb, hc _ _ g1, by have := hc _ _ g2; rwa [← Nat.add_assoc] at this⟩
/-- A document as a value. -/
abbrev docV (id : Int) (A : Option Addr) (n c : Nat) : Value := .agg #[.int .i64 id, .slice A n c]
theorem info_field : (Tryz.prog.info? 59).map (fun i => (i.zero, i.size, i.bytes)) = some (some (.agg #[.string ByteArray.empty, .string ByteArray.empty]), 2, 32) := by kernel_rfl
end Go.Proofs.YtgcdekaceimdnaaGreat

/- A map whose keys are terms: what is found in it, what is put into it, how it is gone through. -/
set_option linter.unusedVariables false
namespace Go.Proofs.YtgcdekaceimdnaaGreat
open Go Go.RowKit
open Go.ChangeMaps (setBlock)

/-- A term as a value. -/
def tV (t : Tm) : Value := .agg #[.string ⟨t.1.toArray⟩, .string ⟨t.2.toArray⟩]
theorem str_eq (a b : Nm) : ((⟨a.toArray⟩ : ByteArray) == ⟨b.toArray⟩) = decide (a = b) := by
  have h : ((⟨a.toArray⟩ : ByteArray) == ⟨b.toArray⟩) = (a.toArray == b.toArray) := rfl
  rw [h, Bool.eq_iff_iff]
  simp
theorem tV_inj {s t : Tm} (h : tV s = tV t) : s = t := by
  simp only [tV, Value.agg.injEq, Array.mk.injEq, List.cons.injEq, Value.string.injEq, ByteArray.mk.injEq, and_true] at h
  exact Prod.ext (by simpa using h.1) (by simpa using h.2)

theorem run_equal_tm (s t : Tm) (w : World) : (Op.equal 92 (tV s) (tV t)).run Tryz.prog w = .ok (decide (s = t)) w := by
  have h : ∀ d : Nat, (Op.equalIn (d + 2) 92 (tV s) (tV t)).run Tryz.prog w = .ok (decide (s = t)) w := fun d => by
    simp only [Op.equalIn, tV, part]
    simp [run_underlying Tryz.underlying92, run_underlying Tryz.underlying9, Tryz.sizeOf9, Tryz.isAgg9, str_eq]
    obtain ⟨s1, s2⟩ := s
    obtain ⟨t1, t2⟩ := t
    by_cases h1 : s1 = t1 <;> by_cases h2 : s2 = t2 <;> simp [h1, h2]
  exact h 9998
theorem run_check_tm (em : Bool) (t : Tm) (w : World) : (Instr.checkKey em 10000 92 (tV t)).run Tryz.prog w = .ok () w := by
  have h : ∀ d : Nat, (Instr.checkKey em (d + 2) 92 (tV t)).run Tryz.prog w = .ok () w := fun d => by
    simp [Instr.checkKey, run_underlying Tryz.underlying92, run_underlying Tryz.underlying9, tV, part, Tryz.sizeOf9, Tryz.isAgg9]
  exact h 9998
theorem run_stays_tm (t : Tm) (w : World) : (Instr.keyThatStays (tV t) (tV t)).run Tryz.prog w = .ok (tV t) w := by
  have h : ∀ d : Nat, Instr.sameBits (d + 2) (tV t) (tV t) = true := fun d => by simp [Instr.sameBits, tV, str_eq]
  simp [Instr.keyThatStays, h 9998]

abbrev Ent := Tm × Value
def entsM : Nat → List Ent → List MapEntry
  | _, [] => []
  | i, e :: m => { key := tV e.1, val := e.2, born := i } :: entsM (i + 1) m
theorem entsM_length : ∀ (m : List Ent) (i : Nat), (entsM i m).length = m.length
  | [], _ => rfl
  | e :: m, i => by simp [entsM, entsM_length m (i + 1)]
theorem entsM_at : ∀ {m : List Ent} {i k : Nat} (hk : k < m.length), (entsM i m)[k]? = some { key := tV m[k].1, val := m[k].2, born := i + k }
  | [], _, _, h => by simp at h
  | e :: m, i, 0, _ => rfl
  | e :: m, i, k + 1, h => by
    have := entsM_at (m := m) (i := i + 1) (k := k) (by simpa using h)
    simp only [entsM, List.getElem?_cons_succ, List.getElem_cons_succ]
    rw [this, Nat.add_assoc, Nat.add_comm 1 k]
theorem entsM_append : ∀ (m : List Ent) (e : Ent) (i : Nat), entsM i (m ++ [e]) = entsM i m ++ [{ key := tV e.1, val := e.2, born := i + m.length }]
  | [], e, i => rfl
  | x :: m, e, i => by
    simp only [List.cons_append, entsM, entsM_append m e (i + 1), List.length_cons]
    rw [Nat.add_assoc, Nat.add_comm 1 m.length]
theorem entsM_set : ∀ (m : List Ent) (e : Ent) (i k : Nat), entsM i (m.set k e) = (entsM i m).set k { key := tV e.1, val := e.2, born := i + k }
  | [], e, i, k => by simp [entsM]
  | x :: m, e, i, 0 => by simp [entsM]
  | x :: m, e, i, k + 1 => by
    simp only [List.set_cons_succ, entsM, entsM_set m e (i + 1) k]
    rw [Nat.add_assoc, Nat.add_comm 1 k]
/-- The map at block B has the entries m, in the order in which they came. -/
def MapAt (w : World) (B : Nat) (m : List Ent) : Prop := w.heap[B]? = some (.map (entsM 0 m).toArray m.length)
/-- Where a key stands first; behind all, if it doesn't. -/
def posM (m : List Ent) (t : Tm) : Nat := m.findIdx (fun e => decide (e.1 = t))
def valM (m : List Ent) (t : Tm) : Value := if h : posM m t < m.length then m[posM m t].2 else .slice none 0 0
def entM (m : List Ent) (t : Tm) : List Ent := if posM m t < m.length then m else m ++ [(t, .slice none 0 0)]
theorem posM_key {m : List Ent} {t : Tm} (h : posM m t < m.length) : m[posM m t].1 = t := by
  have := List.findIdx_getElem (p := fun e : Ent => decide (e.1 = t)) (xs := m) (w := h)
  exact of_decide_eq_true this
theorem posM_entM (m : List Ent) (t : Tm) : posM m t < (entM m t).length ∧ (entM m t)[posM m t]? = some (t, valM m t) := by
  unfold entM valM
  split
  · rename_i h
    have e := posM_key h
    refine ⟨h, ?_⟩
    rw [List.getElem?_eq_getElem h]
    exact congrArg some (Prod.ext e rfl)
  · rename_i h
    have hle : posM m t ≤ m.length := List.findIdx_le_length
    have : posM m t = m.length := by omega
    rw [this]
    simp

theorem run_asking : ∀ (m : List Ent) (t : Tm) (w : World) (k i : Nat), (Instr.findAsking 92 (tV t) (entsM k m) i).run Tryz.prog w = .ok (if h : posM m t < m.length then some (i + posM m t, m[posM m t].2) else none) w
  | [], t, w, k, i => by simp [entsM, Instr.findAsking, posM]
  | e :: m, t, w, k, i => by
    have ih := run_asking m t w (k + 1) (i + 1)
    rw [entsM, Instr.findAsking]
    simp only [Sem.run_bind, run_equal_tm, Result.andThen]
    by_cases he : t = e.1
    · have hp : posM (e :: m) t = 0 := by unfold posM; rw [List.findIdx_cons]; simp [he]
      simp only [hp]
      simp [he]
    · have he' : ¬ e.1 = t := fun h => he h.symm
      have hp : posM (e :: m) t = posM m t + 1 := by unfold posM; rw [List.findIdx_cons]; simp [he']
      simp only [he, decide_false, Bool.false_eq_true, if_false, ih]
      rw [Result.ok.injEq]
      refine ⟨?_, rfl⟩
      by_cases h : posM m t < m.length
      · have h' : posM (e :: m) t < (e :: m).length := by rw [hp]; simpa using h
        rw [dif_pos h, dif_pos h']
        simp only [hp, List.getElem_cons_succ]
        rw [Nat.add_assoc, Nat.add_comm 1]
      · have h' : ¬ posM (e :: m) t < (e :: m).length := by rw [hp]; simpa using h
        rw [dif_neg h, dif_neg h']
theorem run_find_tm (m : List Ent) (t : Tm) (w : World) (k : Nat) : (Instr.findKey 92 (tV t) (entsM k m)).run Tryz.prog w = .ok (if h : posM m t < m.length then some (posM m t, m[posM m t].2) else none) w := by
  have h1 := run_asking m t w k 0
  rw [Nat.zero_add] at h1
  cases m with
  | nil => simp [Instr.findKey, run_underlying Tryz.underlying92, entsM, Instr.findNow, posM]
  | cons e m =>
    rw [← h1]
    simp [Instr.findKey, run_underlying Tryz.underlying92, entsM, Instr.findNow, Instr.sameNow]

theorem run_lookup_tm {w : World} {B : Nat} {m : List Ent} (h : MapAt w B m) (t : Tm) : (Instr.lookup 107 (.map (some B)) (tV t) false).run Tryz.prog w = .ok (valM m t) w := by
  unfold MapAt at h
  have hf := run_find_tm m t w 0
  unfold valM
  by_cases hp : posM m t < m.length
  · rw [dif_pos hp] at hf ⊢
    simp [Instr.lookup, run_underlying Tryz.underlying107, MapKept.run_getObj_map h, run_check_tm, hf, Result.andThen]
  · rw [dif_neg hp] at hf ⊢
    simp [Instr.lookup, run_underlying Tryz.underlying107, MapKept.run_getObj_map h, run_check_tm, hf, Result.andThen, Tryz.zeroValue52]

/-- 'm[k] = f(m[k])' begins: the entry is there, or is laid; what it holds comes with its number. -/
theorem run_entry_tm {w : World} {B : Nat} {m : List Ent} (h : MapAt w B m) (t : Tm) : ∃ w', (Instr.mapEntry 107 (.map (some B)) (tV t)).run Tryz.prog w = .ok (.tuple #[valM m t, .int .i64 (posM m t : Int)]) w' ∧ MapAt w' B (entM m t) ∧ w.grownBy w' (some B) := by
  unfold MapAt at h
  have hf := run_find_tm m t w 0
  unfold valM entM
  by_cases hp : posM m t < m.length
  · rw [dif_pos hp] at hf ⊢
    rw [if_pos hp]
    have hk := posM_key hp
    have he := entsM_at (i := 0) hp
    rw [hk, Nat.zero_add] at he
    have hmod : (entsM 0 m).modify (posM m t) (fun e => { e with key := tV t }) = entsM 0 m := by
      apply List.ext_getElem?
      intro j
      rw [List.getElem?_modify]
      by_cases hj : posM m t = j
      · subst hj; simp [he]
      · simp [hj]
    refine ⟨setBlock w B (.map (entsM 0 m).toArray m.length), ?_, ChangeMaps.heap_setBlock_same h _, ?_⟩
    · simp [Instr.mapEntry, run_underlying Tryz.underlying107, MapKept.run_getObj_map h, run_check_tm, hf, Result.andThen, he, run_stays_tm, MapKept.run_setObj_map _ h, hmod, goInt, setBlock]
    · exact ⟨rfl, rfl, rfl, by simp [setBlock], fun k _ hk => ChangeMaps.heap_setBlock_other h _ (fun e => hk (by rw [e]))⟩
  · rw [dif_neg hp] at hf ⊢
    rw [if_neg hp]
    have hle : posM m t ≤ m.length := List.findIdx_le_length
    have hpe : posM m t = m.length := by omega
    have hpush : (entsM 0 m).toArray.push { key := tV t, val := .slice none 0 0, born := m.length } = (entsM 0 (m ++ [(t, .slice none 0 0)])).toArray := by
      rw [entsM_append, Nat.zero_add, List.push_toArray]
    refine ⟨setBlock w B (.map (entsM 0 (m ++ [(t, Value.slice none 0 0)])).toArray (m ++ [(t, Value.slice none 0 0)]).length), ?_, ChangeMaps.heap_setBlock_same h _, ?_⟩
    · rw [hpe, ← hpush]
      simp [Instr.mapEntry, run_underlying Tryz.underlying107, MapKept.run_getObj_map h, run_check_tm, hf, Result.andThen, MapKept.run_setObj_map _ h, goInt, setBlock, Tryz.zeroValue52]
    · exact ⟨rfl, rfl, rfl, by simp [setBlock], fun k _ hk => ChangeMaps.heap_setBlock_other h _ (fun e => hk (by rw [e]))⟩
theorem find_born : ∀ (m : List Ent) (i k : Nat), k < m.length → (entsM i m).findIdx? (fun e => ((e.born : Nat) : Int) == ((i + k : Nat) : Int)) = some k
  | [], i, k, h => by simp at h
  | e :: m, i, 0, _ => by rw [entsM, List.findIdx?_cons]; simp
  | e :: m, i, k + 1, h => by
    have ih := find_born m (i + 1) k (by simpa using h)
    rw [entsM, List.findIdx?_cons, if_neg (by simp; omega)]
    rw [show i + (k + 1) = i + 1 + k by omega, ih]
    rfl
theorem run_stored_tm {w : World} {B : Nat} {m : List Ent} (h : MapAt w B m) {k : Nat} (hk : k < m.length) (v : Value) : ∃ w', (Instr.entryStore 107 (.map (some B)) (.int .i64 (k : Int)) v).run Tryz.prog w = .ok () w' ∧ MapAt w' B (m.set k (m[k].1, v)) ∧ w.grownBy w' (some B) := by
  unfold MapAt at h
  have hb := find_born m 0 k hk
  rw [Nat.zero_add] at hb
  have he := entsM_at (i := 0) hk
  rw [Nat.zero_add] at he
  have hmod : (entsM 0 m).modify k (fun e => { e with val := v }) = entsM 0 (m.set k (m[k].1, v)) := by
    rw [entsM_set, Nat.zero_add]
    apply List.ext_getElem?
    intro j
    rw [List.getElem?_modify, List.getElem?_set]
    by_cases hj : k = j
    · subst hj
      have hkl : k < (entsM 0 m).length := by rw [entsM_length]; exact hk
      rw [he, if_pos rfl, if_pos hkl]
      simp
    · simp [hj]
  refine ⟨setBlock w B (.map (entsM 0 (m.set k (m[k].1, v))).toArray (m.set k (m[k].1, v)).length), ?_, ChangeMaps.heap_setBlock_same h _, ?_⟩
  · rw [← hmod]
    simp [Instr.entryStore, MapKept.run_getObj_map h, asInt, asIntOf, hb, MapKept.run_setObj_map _ h, Result.andThen, setBlock]
  · exact ⟨rfl, rfl, rfl, by simp [setBlock], fun k _ hk => ChangeMaps.heap_setBlock_other h _ (fun e => hk (by rw [e]))⟩

section
variable {ops : Array Oper} {rest : List Oper} {o : Oper} {a : Act} {Q : Exit → Act → World → Prop}
theorem wpList_lookup_tm (w : World) (hg : o.guard = none) (x y : Operand) (hop : o.op = Op.lookup 107 x y false) (B : Nat) (m : List Ent) (t : Tm) (hx : a.eval x = .map (some B)) (hat : MapAt w B m) (hy : a.eval y = tV t)
    (hK : wpList Tryz.prog ops Q rest (a.put o.dst (valM m t)) w) : wpList Tryz.prog ops Q (o :: rest) a w := by
  refine wpList_plain hg fun K' hK' => ?_
  unfold Oper.wp
  simp [execOp, hop, hx, hy, run_lookup_tm hat, Result.andThen]
  exact hK' _ _ hK
theorem wpList_entry_tm (w : World) (hg : o.guard = none) (x y : Operand) (hop : o.op = Op.mapEntry 107 x y) (B : Nat) (m : List Ent) (t : Tm) (hx : a.eval x = .map (some B)) (hat : MapAt w B m) (hy : a.eval y = tV t)
    (hK : ∀ w', MapAt w' B (entM m t) → w.grownBy w' (some B) → wpList Tryz.prog ops Q rest (a.put o.dst (.tuple #[valM m t, .int .i64 (posM m t : Int)])) w') : wpList Tryz.prog ops Q (o :: rest) a w := by
  refine wpList_plain hg fun K' hK' => ?_
  obtain ⟨w', hrun, r1, r2⟩ := run_entry_tm hat t
  unfold Oper.wp
  simp [execOp, hop, hx, hy, hrun, Result.andThen]
  exact hK' _ _ (hK w' r1 r2)
theorem wpList_stored_tm (w : World) (hg : o.guard = none) (x y z : Operand) (hop : o.op = Op.entryStore 107 x y z) (B : Nat) (m : List Ent) (k : Nat) (hk : k < m.length) (v : Value) (hx : a.eval x = .map (some B)) (hat : MapAt w B m) (hy : a.eval y = .int .i64 (k : Int)) (hz : a.eval z = v)
    (hK : ∀ w', MapAt w' B (m.set k (m[k].1, v)) → w.grownBy w' (some B) → wpList Tryz.prog ops Q rest (a.put o.dst undef) w') : wpList Tryz.prog ops Q (o :: rest) a w := by
  refine wpList_plain hg fun K' hK' => ?_
  obtain ⟨w', hrun, r1, r2⟩ := run_stored_tm hat hk v
  unfold Oper.wp
  simp [execOp, hop, hx, hy, hz, hrun, Result.andThen]
  exact hK' _ _ (hK w' r1 r2)
end
end Go.Proofs.YtgcdekaceimdnaaGreat

/- A map whose keys are texts: what is found in it, what is put into it, how it is emptied. -/
set_option linter.unusedVariables false
namespace Go.Proofs.YtgcdekaceimdnaaGreat
open Go Go.RowKit
open Go.ChangeMaps (setBlock)

/-- A key as a value. -/
def kV (t : Nm) : Value := .string ⟨t.toArray⟩
theorem kV_inj {s t : Nm} (h : kV s = kV t) : s = t := by
  simp only [kV, Value.string.injEq, ByteArray.mk.injEq] at h
  simpa using h
theorem run_check_ks (em : Bool) (t : Nm) (w : World) : (Instr.checkKey em 10000 9 (kV t)).run Tryz.prog w = .ok () w := by
  have h : ∀ d : Nat, (Instr.checkKey em (d + 1) 9 (kV t)).run Tryz.prog w = .ok () w := fun d => by
    simp [Instr.checkKey, run_underlying Tryz.underlying9, kV]
  exact h 9999
theorem run_stays_ks (t : Nm) (w : World) : (Instr.keyThatStays (kV t) (kV t)).run Tryz.prog w = .ok (kV t) w := by
  have h : ∀ d : Nat, Instr.sameBits (d + 2) (kV t) (kV t) = true := fun d => by simp [Instr.sameBits, kV, str_eq]
  simp [Instr.keyThatStays, h 9998]

abbrev EntK := Nm × Value
def entsK : Nat → List EntK → List MapEntry
  | _, [] => []
  | i, e :: m => { key := kV e.1, val := e.2, born := i } :: entsK (i + 1) m
theorem entsK_length : ∀ (m : List EntK) (i : Nat), (entsK i m).length = m.length
  | [], _ => rfl
  | e :: m, i => by simp [entsK, entsK_length m (i + 1)]
theorem entsK_at : ∀ {m : List EntK} {i k : Nat} (hk : k < m.length), (entsK i m)[k]? = some { key := kV m[k].1, val := m[k].2, born := i + k }
  | [], _, _, h => by simp at h
  | e :: m, i, 0, _ => rfl
  | e :: m, i, k + 1, h => by
    have := entsK_at (m := m) (i := i + 1) (k := k) (by simpa using h)
    simp only [entsK, List.getElem?_cons_succ, List.getElem_cons_succ]
    rw [this, Nat.add_assoc, Nat.add_comm 1 k]
theorem entsK_append : ∀ (m : List EntK) (e : EntK) (i : Nat), entsK i (m ++ [e]) = entsK i m ++ [{ key := kV e.1, val := e.2, born := i + m.length }]
  | [], e, i => rfl
  | x :: m, e, i => by
    simp only [List.cons_append, entsK, entsK_append m e (i + 1), List.length_cons]
    rw [Nat.add_assoc, Nat.add_comm 1 m.length]
theorem entsK_set : ∀ (m : List EntK) (e : EntK) (i k : Nat), entsK i (m.set k e) = (entsK i m).set k { key := kV e.1, val := e.2, born := i + k }
  | [], e, i, k => by simp [entsK]
  | x :: m, e, i, 0 => by simp [entsK]
  | x :: m, e, i, k + 1 => by
    simp only [List.set_cons_succ, entsK, entsK_set m e (i + 1) k]
    rw [Nat.add_assoc, Nat.add_comm 1 k]
/-- The map at block B has the entries m, in the order in which they came; the first one came as number c. -/
def MapK (w : World) (B c : Nat) (m : List EntK) : Prop := w.heap[B]? = some (.map (entsK c m).toArray (c + m.length))
/-- Where a key stands first; behind all, if it doesn't. -/
def posK (m : List EntK) (t : Nm) : Nat := m.findIdx (fun e => decide (e.1 = t))
def valK (m : List EntK) (t : Nm) : Value := if h : posK m t < m.length then m[posK m t].2 else .slice none 0 0
def entK (m : List EntK) (t : Nm) : List EntK := if posK m t < m.length then m else m ++ [(t, .slice none 0 0)]
theorem posK_key {m : List EntK} {t : Nm} (h : posK m t < m.length) : m[posK m t].1 = t := by
  have := List.findIdx_getElem (p := fun e : EntK => decide (e.1 = t)) (xs := m) (w := h)
  exact of_decide_eq_true this
theorem posK_entK (m : List EntK) (t : Nm) : posK m t < (entK m t).length ∧ (entK m t)[posK m t]? = some (t, valK m t) := by
  unfold entK valK
  split
  · rename_i h
    have e := posK_key h
    refine ⟨h, ?_⟩
    rw [List.getElem?_eq_getElem h]
    exact congrArg some (Prod.ext e rfl)
  · rename_i h
    have hle : posK m t ≤ m.length := List.findIdx_le_length
    have : posK m t = m.length := by omega
    rw [this]
    simp

theorem find_now : ∀ (m : List EntK) (t : Nm) (k i : Nat), Instr.findNow .string (kV t) (entsK k m) i = some (if h : posK m t < m.length then some (i + posK m t, m[posK m t].2) else none)
  | [], t, k, i => by simp [entsK, Instr.findNow, posK]
  | e :: m, t, k, i => by
    have ih := find_now m t (k + 1) (i + 1)
    have hs : Instr.sameNow .string (kV t) (kV e.1) = some (decide (t = e.1)) := by simp only [Instr.sameNow, kV, str_eq]
    rw [entsK, Instr.findNow]
    simp only [hs]
    by_cases he : t = e.1
    · have hp : posK (e :: m) t = 0 := by unfold posK; rw [List.findIdx_cons]; simp [he]
      simp only [hp]
      simp [he]
    · have he' : ¬ e.1 = t := fun h => he h.symm
      have hp : posK (e :: m) t = posK m t + 1 := by unfold posK; rw [List.findIdx_cons]; simp [he']
      simp only [he, decide_false, ih]
      by_cases h : posK m t < m.length
      · have h' : posK (e :: m) t < (e :: m).length := by rw [hp]; simpa using h
        rw [dif_pos h, dif_pos h']
        simp only [hp, List.getElem_cons_succ]
        rw [Nat.add_assoc, Nat.add_comm 1]
      · have h' : ¬ posK (e :: m) t < (e :: m).length := by rw [hp]; simpa using h
        rw [dif_neg h, dif_neg h']
theorem run_find_ks (m : List EntK) (t : Nm) (w : World) (k : Nat) : (Instr.findKey 9 (kV t) (entsK k m)).run Tryz.prog w = .ok (if h : posK m t < m.length then some (posK m t, m[posK m t].2) else none) w := by
  have h := find_now m t k 0
  simp only [Nat.zero_add] at h
  simp only [Instr.findKey, Sem.run_bind, run_underlying Tryz.underlying9, Result.andThen, h]
  simp [Sem.run_pure]

theorem run_lookup_ks {w : World} {B c : Nat} {m : List EntK} (h : MapK w B c m) (t : Nm) : (Instr.lookup 61 (.map (some B)) (kV t) false).run Tryz.prog w = .ok (valK m t) w := by
  unfold MapK at h
  have hf := run_find_ks m t w c
  unfold valK
  by_cases hp : posK m t < m.length
  · rw [dif_pos hp] at hf ⊢
    simp [Instr.lookup, run_underlying Tryz.underlying61, MapKept.run_getObj_map h, run_check_ks, hf, Result.andThen]
  · rw [dif_neg hp] at hf ⊢
    simp [Instr.lookup, run_underlying Tryz.underlying61, MapKept.run_getObj_map h, run_check_ks, hf, Result.andThen, Tryz.zeroValue49]

/-- 'm[k] = v': the entry is there, or is laid. -/
theorem run_update_ks {w : World} {B c : Nat} {m : List EntK} (h : MapK w B c m) (t : Nm) (v : Value) : ∃ w', (Instr.mapUpdate 61 (.map (some B)) (kV t) v).run Tryz.prog w = .ok () w' ∧ MapK w' B c ((entK m t).set (posK m t) (t, v)) ∧ w.grownBy w' (some B) := by
  unfold MapK at h
  have hf := run_find_ks m t w c
  unfold entK
  by_cases hp : posK m t < m.length
  · rw [dif_pos hp] at hf
    rw [if_pos hp]
    have hk := posK_key hp
    have he := entsK_at (i := c) hp
    rw [hk] at he
    have hmod : (entsK c m).modify (posK m t) (fun e => { e with key := kV t, val := v }) = entsK c (m.set (posK m t) (t, v)) := by
      rw [entsK_set]
      apply List.ext_getElem?
      intro j
      rw [List.getElem?_modify, List.getElem?_set]
      by_cases hj : posK m t = j
      · subst hj
        have hkl : posK m t < (entsK c m).length := by rw [entsK_length]; exact hp
        rw [he, if_pos rfl, if_pos hkl]
        simp
      · simp [hj]
    refine ⟨setBlock w B (.map (entsK c (m.set (posK m t) (t, v))).toArray (c + (m.set (posK m t) (t, v)).length)), ?_, ChangeMaps.heap_setBlock_same h _, ?_⟩
    · rw [← hmod]
      simp [Instr.mapUpdate, run_underlying Tryz.underlying61, MapKept.run_getObj_map h, run_check_ks, hf, Result.andThen, he, run_stays_ks, MapKept.run_setObj_map _ h, setBlock]
    · exact ⟨rfl, rfl, rfl, by simp [setBlock], fun k _ hk => ChangeMaps.heap_setBlock_other h _ (fun e => hk (by rw [e]))⟩
  · rw [dif_neg hp] at hf
    rw [if_neg hp]
    have hle : posK m t ≤ m.length := List.findIdx_le_length
    have hpe : posK m t = m.length := by omega
    have hset : (m ++ [(t, Value.slice none 0 0)]).set (posK m t) (t, v) = m ++ [(t, v)] := by
      rw [hpe]
      simp
    have hpush : (entsK c m).toArray.push { key := kV t, val := v, born := c + m.length } = (entsK c (m ++ [(t, v)])).toArray := by
      rw [entsK_append, List.push_toArray]
    rw [hset]
    refine ⟨setBlock w B (.map (entsK c (m ++ [(t, v)])).toArray (c + (m ++ [(t, v)]).length)), ?_, ChangeMaps.heap_setBlock_same h _, ?_⟩
    · rw [← hpush]
      simp [Instr.mapUpdate, run_underlying Tryz.underlying61, MapKept.run_getObj_map h, run_check_ks, hf, Result.andThen, MapKept.run_setObj_map _ h, setBlock, Nat.add_assoc]
    · exact ⟨rfl, rfl, rfl, by simp [setBlock], fun k _ hk => ChangeMaps.heap_setBlock_other h _ (fun e => hk (by rw [e]))⟩

theorem run_clear_ks {w : World} {B c : Nat} {m : List EntK} (h : MapK w B c m) (ty : TypeId) : ∃ w', (Builtin.clear_ #[61] ty #[.map (some B)]).run Tryz.prog w = .ok (.tuple #[]) w' ∧ MapK w' B (c + m.length) [] ∧ w.grownBy w' (some B) := by
  unfold MapK at h
  refine ⟨setBlock w B (.map #[] (c + m.length)), ?_, ChangeMaps.heap_setBlock_same h _, ⟨rfl, rfl, rfl, by simp [setBlock], fun k _ hk => ChangeMaps.heap_setBlock_other h _ (fun e => hk (by rw [e]))⟩⟩
  simp [Builtin.clear_, run_underlying Tryz.underlying61, MapKept.run_getObj_map h, MapKept.run_setObj_map _ h, Result.andThen, setBlock]

section
variable {ops : Array Oper} {rest : List Oper} {o : Oper} {a : Act} {Q : Exit → Act → World → Prop}
theorem wpList_lookup_ks (w : World) (hg : o.guard = none) (x y : Operand) (hop : o.op = Op.lookup 61 x y false) (B c : Nat) (m : List EntK) (t : Nm) (hx : a.eval x = .map (some B)) (hat : MapK w B c m) (hy : a.eval y = kV t)
    (hK : wpList Tryz.prog ops Q rest (a.put o.dst (valK m t)) w) : wpList Tryz.prog ops Q (o :: rest) a w := by
  refine wpList_plain hg fun K' hK' => ?_
  unfold Oper.wp
  simp [execOp, hop, hx, hy, run_lookup_ks hat, Result.andThen]
  exact hK' _ _ hK
theorem wpList_update_ks (w : World) (hg : o.guard = none) (x y z : Operand) (hop : o.op = Op.mapUpdate 61 x y z) (B c : Nat) (m : List EntK) (t : Nm) (v : Value) (hx : a.eval x = .map (some B)) (hat : MapK w B c m) (hy : a.eval y = kV t) (hz : a.eval z = v)
    (hK : ∀ w', MapK w' B c ((entK m t).set (posK m t) (t, v)) → w.grownBy w' (some B) → wpList Tryz.prog ops Q rest (a.put o.dst undef) w') : wpList Tryz.prog ops Q (o :: rest) a w := by
  refine wpList_plain hg fun K' hK' => ?_
  obtain ⟨w', hrun, r1, r2⟩ := run_update_ks hat t v
  unfold Oper.wp
  simp [execOp, hop, hx, hy, hz, hrun, Result.andThen]
  exact hK' _ _ (hK w' r1 r2)
theorem wpList_clear_ks (w : World) (hg : o.guard = none) (x : Operand) (hop : o.op = .call { callee := .builtin .clear, args := #[x], argTypes := #[61] }) (B c : Nat) (m : List EntK) (hx : a.eval x = .map (some B)) (hat : MapK w B c m)
    (hK : ∀ w', MapK w' B (c + m.length) [] → w.grownBy w' (some B) → wpList Tryz.prog ops Q rest (a.put o.dst (.tuple #[])) w') : wpList Tryz.prog ops Q (o :: rest) a w := by
  refine wpList_plain hg fun K' hK' => ?_
  obtain ⟨w', hrun, r1, r2⟩ := run_clear_ks hat o.type
  unfold Oper.wp execOp
  simp only [hop, resolve, invoke, builtin, Sem.run_bind, Sem.run_pure, Result.andThen_ok, List.map_toArray, List.map_cons, List.map_nil, hx, hrun]
  exact hK' _ _ (hK w' r1 r2)
end
end Go.Proofs.YtgcdekaceimdnaaGreat
