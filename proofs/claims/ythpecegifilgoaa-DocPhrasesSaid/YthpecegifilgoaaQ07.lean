/- Texts laid together: Nms07, Fld08. -/
import Derived.Sort.OwnSorted
import Derived.Test.YthpecegifilgoaaStr02
import Derived.Test.YthpecegifilgoaaPlain07
import Derived.Test.YthpecegifilgoaaPlain08

/- Lists of texts of a call's own; names as texts, and how a test of texts comes out. -/
set_option linter.unusedVariables false
namespace Go.Proofs.Ythpecegifilgoaa
open Go Go.RowKit Go.Sort
/-- A list of texts of the call's own. -/
def OwnNm (base : Nat) (w : World) (v : Value) (l : List Nm) : Prop := w.ownsRow base 9 1 v l.length (strs l)
theorem OwnNm.below {base : Nat} {w w' : World} {v : Value} {l : List Nm} (h : OwnNm base w v l) (hb : Below w.heap.size w w') : OwnNm base w' v l := owned_below h hb
theorem OwnNm.low {base b : Nat} {w : World} {v : Value} {l : List Nm} (h : OwnNm base w v l) (hb : b ≤ base) : OwnNm b w v l := owned_low h hb
theorem OwnNm.row {base : Nat} {w : World} {v : Value} {l : List Nm} (h : OwnNm base w v l) : ∃ A c, v = .slice A l.length c ∧ l.length ≤ c ∧ Row w w.heap.size A (strs l) := owned_row h
theorem OwnNm.nil {base : Nat} {w : World} : OwnNm base w (.slice none 0 0) [] := World.ownsRow_nil _ _ _ _
/-- What a call gives that makes a list of texts. -/
def GaveNm (l : List Nm) (w : World) (e : Ending) (w' : World) : Prop := ∃ v, e = .returned v ∧ OwnNm w.heap.size w' v l ∧ Below w.heap.size w w'
theorem less_of {x y : Nm} : Op.bytesLess x y = decide (x < y) := bytesLess_eq x y
theorem ba_list (x : Nm) : ByteArray.toList ⟨x.toArray⟩ = x := by rw [Lib.toList_data]
theorem row_nm {w : World} {B : Nat} {A : Option Addr} {xs : List Nm} (h : Row w B A (strs xs)) {k : Nat} (hk : k < xs.length) :
    ∃ b off, A = some ⟨b, off, none⟩ ∧ b < B ∧ w.cell? ⟨b, off + k, none⟩ = some (.string ⟨xs[k].toArray⟩) := row_str h hk
/-- A name as a text, by a name of its own. -/
theorem as_text (x : Nm) : ∃ t : ByteArray, t = ⟨x.toArray⟩ ∧ t.data.toList = x := ⟨_, rfl, rfl⟩
theorem size_nm (x : Nm) : (⟨x.toArray⟩ : ByteArray).size = x.length := List.size_toArray
theorem less_true {s t : ByteArray} (h : s.data.toList < t.data.toList) : Op.bytesLess s.toList t.toList = true := by rw [Lib.toList_data, Lib.toList_data, less_of]; exact decide_eq_true h
theorem less_false {s t : ByteArray} (h : ¬ s.data.toList < t.data.toList) : Op.bytesLess s.toList t.toList = false := by rw [Lib.toList_data, Lib.toList_data, less_of]; exact decide_eq_false h
theorem same_true {s t : ByteArray} (h : s.data.toList = t.data.toList) : (s.toList == t.toList) = true := by rw [Lib.toList_data, Lib.toList_data, h]; exact beq_self_eq_true _
theorem same_false {s t : ByteArray} (h : s.data.toList ≠ t.data.toList) : (s.toList == t.toList) = false := by rw [Lib.toList_data, Lib.toList_data]; simpa using h
theorem strs_append (a b : List Nm) : strs (a ++ b) = strs a ++ strs b := by simp [strs]
theorem Row.dropped {w : World} {B b off : Nat} {l : List Nm} (h : Row w B (some ⟨b, off, none⟩) (strs l)) (k : Nat) : Row w B (some ⟨b, off + k, none⟩) (strs (l.drop k)) := by
  rcases h with h | ⟨b', o', e, hb, hc⟩
  · refine .inl ?_
    have : l = [] := by simpa [strs] using h
    simp [this, strs]
  · injection e with e
    injection e with e1 e2
    subst e1 e2
    refine .inr ⟨b, off + k, rfl, hb, fun j u hu => ?_⟩
    have := hc (k + j) u (by rw [← hu]; simp [strs])
    rwa [← Nat.add_assoc] at this
theorem strs_oneCell (l : List Nm) : ∀ u ∈ strs l, u.oneCell' = true := by
  intro u hu
  obtain ⟨x, _, rfl⟩ := List.mem_map.1 hu
  rfl
theorem Row.later {w w' : World} {A : Option Addr} {xs : List Value} (h : Row w w.heap.size A xs) (hb : Below w.heap.size w w') : Row w' w'.heap.size A xs := (h.below hb).more hb.size
end Go.Proofs.Ythpecegifilgoaa

/- Fields in memory: two texts each, one behind the other. -/
set_option linter.unusedVariables false
namespace Go.Proofs.Ythpecegifilgoaa
open Go Go.RowKit

def flds : List Fd → List Value
  | [] => []
  | f :: l => .string ⟨f.1.toArray⟩ :: .string ⟨f.2.toArray⟩ :: flds l
theorem flds_length : ∀ l : List Fd, (flds l).length = l.length * 2
  | [] => rfl
  | f :: l => by simp only [flds, List.length_cons, flds_length l]; omega
theorem flds_append : ∀ a b : List Fd, flds (a ++ b) = flds a ++ flds b
  | [], _ => rfl
  | f :: a, b => by simp [flds, flds_append a b]
theorem flds_at : ∀ {l : List Fd} {k : Nat} (hk : k < l.length), (flds l)[k * 2]? = some (.string ⟨l[k].1.toArray⟩) ∧ (flds l)[k * 2 + 1]? = some (.string ⟨l[k].2.toArray⟩)
  | [], _, h => by simp at h
  | f :: l, 0, _ => ⟨rfl, rfl⟩
  | f :: l, k + 1, h => by
    have := flds_at (l := l) (k := k) (by simpa using h)
    rw [show (k + 1) * 2 = k * 2 + 1 + 1 by omega]
    simpa [flds] using this
theorem flds_take : ∀ (l : List Fd) (k : Nat), flds (l.take k) = (flds l).take (k * 2)
  | l, 0 => by simp [flds]
  | [], k + 1 => by simp [flds]
  | f :: l, k + 1 => by rw [show (k + 1) * 2 = k * 2 + 1 + 1 by omega]; simp [flds, flds_take l k]
theorem flds_oneCell : ∀ (l : List Fd), ∀ u ∈ flds l, u.oneCell' = true
  | [], u, h => by cases h
  | f :: l, u, h => by
    simp only [flds, List.mem_cons] at h
    rcases h with rfl | rfl | h
    · rfl
    · rfl
    · exact flds_oneCell l u h
/-- Fields behind an address, below block B. -/
def FRow (w : World) (B : Nat) (A : Option Addr) (l : List Fd) : Prop := Row w B A (flds l)
theorem FRow.below {w w' : World} {B : Nat} {A : Option Addr} {l : List Fd} (h : FRow w B A l) (hb : Below B w w') : FRow w' B A l := Row.below h hb
theorem FRow.more {w : World} {B B' : Nat} {A : Option Addr} {l : List Fd} (h : FRow w B A l) (hB : B ≤ B') : FRow w B' A l := Row.more h hB
theorem FRow.nil {w : World} {B : Nat} {A : Option Addr} : FRow w B A [] := Row.nil
theorem FRow.later {w w' : World} {A : Option Addr} {l : List Fd} (h : FRow w w.heap.size A l) (hb : Below w.heap.size w w') : FRow w' w'.heap.size A l := (h.below hb).more hb.size
theorem FRow.at_ {w : World} {B : Nat} {A : Option Addr} {l : List Fd} (h : FRow w B A l) {k : Nat} (hk : k < l.length) :
    ∃ b off, A = some ⟨b, off, none⟩ ∧ b < B ∧ w.cell? ⟨b, off + k * 2, none⟩ = some (.string ⟨l[k].1.toArray⟩) ∧ w.cell? ⟨b, off + k * 2 + 1, none⟩ = some (.string ⟨l[k].2.toArray⟩) := by
  obtain ⟨b, off, rfl, hb, hc⟩ := Row.at_ h (by rw [flds_length]; omega)
  obtain ⟨g1, g2⟩ := flds_at hk
  exact ⟨b, off, rfl, hb, hc _ _ g1, by have := hc _ _ g2; rwa [← Nat.add_assoc] at this⟩
/-- A document as a value. -/
abbrev docV (id : Int) (A : Option Addr) (n c : Nat) : Value := .agg #[.int .i64 id, .slice A n c]
theorem info_field : (Try.prog.info? 31).map (fun i => (i.zero, i.size, i.bytes)) = some (some (.agg #[.string ByteArray.empty, .string ByteArray.empty]), 2, 32) := by kernel_rfl
end Go.Proofs.Ythpecegifilgoaa
