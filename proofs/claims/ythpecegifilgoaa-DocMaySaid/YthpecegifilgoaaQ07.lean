/- Texts laid together: Nms07, Fld08, App08, Name08, NameD08, Box08, RefToks02. -/
import Derived.Sort.OwnSorted
import Derived.Test.YthpecegifilgoaaStr02
import Derived.Test.YthpecegifilgoaaPlain07
import Derived.Test.YthpecegifilgoaaPlain08
import Derived.Deep.AppendLies
import Derived.BigCall
import Derived.BigQuiet
import Derived.Deep.QuietTactic
import Derived.Test.YthpecegifilgoaaQ06

/- Lists of texts of a call's own; names as texts, and how a test of texts comes out. -/
set_option linter.unusedVariables false
namespace Go.Proofs.Ythpecegifilgoaa
open Go Go.RowKit Go.Sort
/-- A list of texts of the call's own. -/
def OwnNm (base : Nat) (w : World) (v : Value) (l : List Nm) : Prop := w.ownsRow base 9 1 v l.length (strs l)
theorem OwnNm.below {base : Nat} {w w' : World} {v : Value} {l : List Nm} (h : OwnNm base w v l) (hb : Below w.heap.size w w') : OwnNm base w' v l := owned_below h hb
theorem OwnNm.low {base b : Nat} {w : World} {v : Value} {l : List Nm} (h : OwnNm base w v l) (hb : b ≤ base) : OwnNm b w v l := owned_low h hb
theorem OwnNm.row {base : Nat} {w : World} {v : Value} {l : List Nm} (h : OwnNm base w v l) : ∃ A c, v = .slice A l.length c ∧ l.length ≤ c ∧ Row w w.heap.size A (strs l) := owned_row h
theorem OwnNm.nil {base : Nat} {w : World} : OwnNm base w (.slice none 0 0) [] := World.ownsRow_nil _ _ _ _
/-- What a call gives that makes a list of texts. -/
def GaveNm (l : List Nm) (w : World) (e : Ending) (w' : World) : Prop := ∃ v, e = .returned v ∧ OwnNm w.heap.size w' v l ∧ Below w.heap.size w w'
theorem less_of {x y : Nm} : Op.bytesLess x y = decide (x < y) := bytesLess_eq x y
theorem ba_list (x : Nm) : ByteArray.toList ⟨x.toArray⟩ = x := by rw [Lib.toList_data]
theorem row_nm {w : World} {B : Nat} {A : Option Addr} {xs : List Nm} (h : Row w B A (strs xs)) {k : Nat} (hk : k < xs.length) :
    ∃ b off, A = some ⟨b, off, none⟩ ∧ b < B ∧ w.cell? ⟨b, off + k, none⟩ = some (.string ⟨xs[k].toArray⟩) := row_str h hk
/-- A name as a text, by a name of its own. -/
theorem as_text (x : Nm) : ∃ t : ByteArray, t = ⟨x.toArray⟩ ∧ t.data.toList = x := ⟨_, rfl, rfl⟩
theorem size_nm (x : Nm) : (⟨x.toArray⟩ : ByteArray).size = x.length := List.size_toArray
theorem less_true {s t : ByteArray} (h : s.data.toList < t.data.toList) : Op.bytesLess s.toList t.toList = true := by rw [Lib.toList_data, Lib.toList_data, less_of]; exact decide_eq_true h
theorem less_false {s t : ByteArray} (h : ¬ s.data.toList < t.data.toList) : Op.bytesLess s.toList t.toList = false := by rw [Lib.toList_data, Lib.toList_data, less_of]; exact decide_eq_false h
theorem same_true {s t : ByteArray} (h : s.data.toList = t.data.toList) : (s.toList == t.toList) = true := by rw [Lib.toList_data, Lib.toList_data, h]; exact beq_self_eq_true _
theorem same_false {s t : ByteArray} (h : s.data.toList ≠ t.data.toList) : (s.toList == t.toList) = false := by rw [Lib.toList_data, Lib.toList_data]; simpa using h
theorem strs_append (a b : List Nm) : strs (a ++ b) = strs a ++ strs b := by simp [strs]
theorem Row.dropped {w : World} {B b off : Nat} {l : List Nm} (h : Row w B (some ⟨b, off, none⟩) (strs l)) (k : Nat) : Row w B (some ⟨b, off + k, none⟩) (strs (l.drop k)) := by
  rcases h with h | ⟨b', o', e, hb, hc⟩
  · refine .inl ?_
    have : l = [] := by simpa [strs] using h
    simp [this, strs]
  · injection e with e
    injection e with e1 e2
    subst e1 e2
    refine .inr ⟨b, off + k, rfl, hb, fun j u hu => ?_⟩
    have := hc (k + j) u (by rw [← hu]; simp [strs])
    rwa [← Nat.add_assoc] at this
theorem strs_oneCell (l : List Nm) : ∀ u ∈ strs l, u.oneCell' = true := by
  intro u hu
  obtain ⟨x, _, rfl⟩ := List.mem_map.1 hu
  rfl
theorem Row.later {w w' : World} {A : Option Addr} {xs : List Value} (h : Row w w.heap.size A xs) (hb : Below w.heap.size w w') : Row w' w'.heap.size A xs := (h.below hb).more hb.size
end Go.Proofs.Ythpecegifilgoaa

/- Fields in memory: two texts each, one behind the other. -/
set_option linter.unusedVariables false
namespace Go.Proofs.Ythpecegifilgoaa
open Go Go.RowKit

def flds : List Fd → List Value
  | [] => []
  | f :: l => .string ⟨f.1.toArray⟩ :: .string ⟨f.2.toArray⟩ :: flds l
theorem flds_length : ∀ l : List Fd, (flds l).length = l.length * 2
  | [] => rfl
  | f :: l => by simp only [flds, List.length_cons, flds_length l]; omega
theorem flds_append : ∀ a b : List Fd, flds (a ++ b) = flds a ++ flds b
  | [], _ => rfl
  | f :: a, b => by simp [flds, flds_append a b]
theorem flds_at : ∀ {l : List Fd} {k : Nat} (hk : k < l.length), (flds l)[k * 2]? = some (.string ⟨l[k].1.toArray⟩) ∧ (flds l)[k * 2 + 1]? = some (.string ⟨l[k].2.toArray⟩)
  | [], _, h => by simp at h
  | f :: l, 0, _ => ⟨rfl, rfl⟩
  | f :: l, k + 1, h => by
    have := flds_at (l := l) (k := k) (by simpa using h)
    rw [show (k + 1) * 2 = k * 2 + 1 + 1 by omega]
    simpa [flds] using this
theorem flds_take : ∀ (l : List Fd) (k : Nat), flds (l.take k) = (flds l).take (k * 2)
  | l, 0 => by simp [flds]
  | [], k + 1 => by simp [flds]
  | f :: l, k + 1 => by rw [show (k + 1) * 2 = k * 2 + 1 + 1 by omega]; simp [flds, flds_take l k]
theorem flds_oneCell : ∀ (l : List Fd), ∀ u ∈ flds l, u.oneCell' = true
  | [], u, h => by cases h
  | f :: l, u, h => by
    simp only [flds, List.mem_cons] at h
    rcases h with rfl | rfl | h
    · rfl
    · rfl
    · exact flds_oneCell l u h
/-- Fields behind an address, below block B. -/
def FRow (w : World) (B : Nat) (A : Option Addr) (l : List Fd) : Prop := Row w B A (flds l)
theorem FRow.below {w w' : World} {B : Nat} {A : Option Addr} {l : List Fd} (h : FRow w B A l) (hb : Below B w w') : FRow w' B A l := Row.below h hb
theorem FRow.more {w : World} {B B' : Nat} {A : Option Addr} {l : List Fd} (h : FRow w B A l) (hB : B ≤ B') : FRow w B' A l := Row.more h hB
theorem FRow.nil {w : World} {B : Nat} {A : Option Addr} : FRow w B A [] := Row.nil
theorem FRow.later {w w' : World} {A : Option Addr} {l : List Fd} (h : FRow w w.heap.size A l) (hb : Below w.heap.size w w') : FRow w' w'.heap.size A l := (h.below hb).more hb.size
theorem FRow.at_ {w : World} {B : Nat} {A : Option Addr} {l : List Fd} (h : FRow w B A l) {k : Nat} (hk : k < l.length) :
    ∃ b off, A = some ⟨b, off, none⟩ ∧ b < B ∧ w.cell? ⟨b, off + k * 2, none⟩ = some (.string ⟨l[k].1.toArray⟩) ∧ w.cell? ⟨b, off + k * 2 + 1, none⟩ = some (.string ⟨l[k].2.toArray⟩) := by
  obtain ⟨b, off, rfl, hb, hc⟩ := Row.at_ h (by rw [flds_length]; omega)
  obtain ⟨g1, g2⟩ := flds_at hk
  exact ⟨b, off, rfl, hb, hc _ _ g1, by have := hc _ _ g2; rwa [← Nat.add_assoc] at this⟩
/-- A document as a value. -/
abbrev docV (id : Int) (A : Option Addr) (n c : Nat) : Value := .agg #[.int .i64 id, .slice A n c]
theorem info_field : (Try.prog.info? 31).map (fun i => (i.zero, i.size, i.bytes)) = some (some (.agg #[.string ByteArray.empty, .string ByteArray.empty]), 2, 32) := by kernel_rfl
end Go.Proofs.Ythpecegifilgoaa

/- append of terms, of fields, that lie in some row, onto a list of the call's own. -/
namespace Go.Proofs.Ythpecegifilgoaa
open Go Go.RowKit
set_option linter.unusedVariables false

/-- A list of terms of the call's own; one of fields. -/
def OwnTm (base : Nat) (w : World) (v : Value) (l : List Tm) : Prop := w.ownsRow base 43 2 v l.length (flds l)
def OwnFd (base : Nat) (w : World) (v : Value) (l : List Fd) : Prop := w.ownsRow base 31 2 v l.length (flds l)
theorem OwnTm.below {base : Nat} {w w' : World} {v : Value} {l : List Tm} (h : OwnTm base w v l) (hb : Below w.heap.size w w') : OwnTm base w' v l := owned_below h hb
theorem OwnTm.low {base b : Nat} {w : World} {v : Value} {l : List Tm} (h : OwnTm base w v l) (hb : b ≤ base) : OwnTm b w v l := owned_low h hb
theorem OwnTm.row {base : Nat} {w : World} {v : Value} {l : List Tm} (h : OwnTm base w v l) : ∃ A c, v = .slice A l.length c ∧ l.length ≤ c ∧ FRow w w.heap.size A l := owned_row h
theorem OwnTm.nil {base : Nat} {w : World} : OwnTm base w (.slice none 0 0) [] := World.ownsRow_nil _ _ _ _
theorem OwnFd.below {base : Nat} {w w' : World} {v : Value} {l : List Fd} (h : OwnFd base w v l) (hb : Below w.heap.size w w') : OwnFd base w' v l := owned_below h hb
theorem OwnFd.low {base b : Nat} {w : World} {v : Value} {l : List Fd} (h : OwnFd base w v l) (hb : b ≤ base) : OwnFd b w v l := owned_low h hb
theorem OwnFd.row {base : Nat} {w : World} {v : Value} {l : List Fd} (h : OwnFd base w v l) : ∃ A c, v = .slice A l.length c ∧ l.length ≤ c ∧ FRow w w.heap.size A l := owned_row h
theorem OwnFd.nil {base : Nat} {w : World} : OwnFd base w (.slice none 0 0) [] := World.ownsRow_nil _ _ _ _
theorem FRow.cut {w : World} {B : Nat} {A : Option Addr} {l : List Fd} (h : FRow w B A l) (k : Nat) : FRow w B A (l.take k) := by
  have := Row.cut h (k * 2)
  rwa [← flds_take] at this
theorem flds_drop : ∀ (l : List Fd) (k : Nat), flds (l.drop k) = (flds l).drop (k * 2)
  | l, 0 => by simp
  | [], k + 1 => by simp [flds]
  | f :: l, k + 1 => by rw [show (k + 1) * 2 = k * 2 + 1 + 1 by omega]; simp [flds, flds_drop l k]
theorem FRow.dropped {w : World} {B b off : Nat} {l : List Fd} (h : FRow w B (some ⟨b, off, none⟩) l) (k : Nat) : FRow w B (some ⟨b, off + k * 2, none⟩) (l.drop k) := by
  unfold FRow at h ⊢
  rw [flds_drop]
  rcases h with h | ⟨b', o', e, hb, hc⟩
  · exact .inl (by rw [h]; simp)
  · injection e with e
    injection e with e1 e2
    subst e1 e2
    refine .inr ⟨b, off + k * 2, rfl, hb, fun j u hu => ?_⟩
    rw [List.getElem?_drop] at hu
    have := hc (k * 2 + j) u hu
    rwa [← Nat.add_assoc] at this
/-- A pair of texts that was just laid in a block of its own. -/
theorem frow_new (w : World) (x : Fd) (t : TypeId) : FRow (w.alloc (.cells #[.string ⟨x.1.toArray⟩, .string ⟨x.2.toArray⟩] t)) (w.alloc (.cells #[.string ⟨x.1.toArray⟩, .string ⟨x.2.toArray⟩] t)).heap.size (some ⟨w.heap.size, 0, none⟩) [x] := by
  refine .inr ⟨w.heap.size, 0, rfl, by simp, fun j u hu => ?_⟩
  have := news_at w (flds [x]) t j u hu
  rw [Addr.add_lit] at this
  exact this
theorem info_term : (Try.prog.info? 43).map (fun i => (i.zero, i.size, i.bytes)) = some (some (.agg #[.string ByteArray.empty, .string ByteArray.empty]), 2, 32) := by kernel_rfl

theorem wpList_append_tm {ops : Array Oper} {rest : List Oper} {o : Oper} {a : Act} {Q : Exit → Act → World → Prop} (w : World) (hgd : o.guard = none) (s x : Operand)
    (ho : o.op = .call { callee := .builtin .append, args := #[s, x], argTypes := #[37, 37] })
    (base : Nat) (v : Value) (l : List Tm) (hs : a.eval s = v) (hown : OwnTm base w v l) (A : Option Addr) (m c : Nat) (news : List Tm) (hx : a.eval x = .slice A m c) (hl : news.length = m) (hr : FRow w w.heap.size A news)
    (hlen : l.length + m ≤ 1073741824) (hbase : base ≤ w.heap.size)
    (h : ∀ v' w', OwnTm base w' v' (l ++ news) → Below base w w' → wpList Try.prog ops Q rest (a.put o.dst v') w') : wpList Try.prog ops Q (o :: rest) a w := by
  obtain ⟨i0, hi0, hz0, hz1, hz2⟩ := info_parts info_term
  refine wpList_append_row w hgd s x 37 ho base 43 i0 _ 2 32 Try.underlying37 hi0 hz0 hz1 hz2 rfl (by decide) v l.length (flds l) hs hown w.heap.size A m c (flds news) hx (by rw [flds_length, hl]) hr (flds_oneCell _) (by unfold maxLen; omega) (by omega) hbase fun v' w' h1 h2 => h v' w' ?_ ?_
  · unfold OwnTm
    rw [List.length_append, hl, flds_append]
    exact h1
  · exact (Below.refl base w).grown h2 hbase fun k hk => (hown.lt k hk).1
theorem wpList_append_fd {ops : Array Oper} {rest : List Oper} {o : Oper} {a : Act} {Q : Exit → Act → World → Prop} (w : World) (hgd : o.guard = none) (s x : Operand)
    (ho : o.op = .call { callee := .builtin .append, args := #[s, x], argTypes := #[22, 22] })
    (base : Nat) (v : Value) (l : List Fd) (hs : a.eval s = v) (hown : OwnFd base w v l) (A : Option Addr) (m c : Nat) (news : List Fd) (hx : a.eval x = .slice A m c) (hl : news.length = m) (hr : FRow w w.heap.size A news)
    (hlen : l.length + m ≤ 1073741824) (hbase : base ≤ w.heap.size)
    (h : ∀ v' w', OwnFd base w' v' (l ++ news) → Below base w w' → w.grownBy w' v.ownBlock → wpList Try.prog ops Q rest (a.put o.dst v') w') : wpList Try.prog ops Q (o :: rest) a w := by
  obtain ⟨i0, hi0, hz0, hz1, hz2⟩ := info_parts info_field
  refine wpList_append_row w hgd s x 22 ho base 31 i0 _ 2 32 Try.underlying22 hi0 hz0 hz1 hz2 rfl (by decide) v l.length (flds l) hs hown w.heap.size A m c (flds news) hx (by rw [flds_length, hl]) hr (flds_oneCell _) (by unfold maxLen; omega) (by omega) hbase fun v' w' h1 h2 => h v' w' ?_ ?_ h2
  · unfold OwnFd
    rw [List.length_append, hl, flds_append]
    exact h1
  · exact (Below.refl base w).grown h2 hbase fun k hk => (hown.lt k hk).1
end Go.Proofs.Ythpecegifilgoaa

/- What the document's Name answers. -/
namespace Go.Proofs.Ythpecegifilgoaa
open Go Go.RowKit
set_option linter.unusedVariables false

def NameRel (s : Nm) (w : World) (i : Value) (wr : World) : Prop := ∃ k : Nat, k ≤ s.length ∧ i = .int .i64 (k : Int) ∧ Below w.heap.size w wr ∧ ∀ j (hj : j < s.length), j < k → smallB s[j] = true

set_option maxHeartbeats 1000000 in
set_option maxRecDepth 100000 in
theorem ref08_Name (s : ByteArray) (w : World) (hs : s.size ≤ 9223372036854775807) :
    Calls Try.prog 16 #[.string s] w fun e w' => e = .returned (.bool (nameB s.data.toList)) ∧ Below w.heap.size w w' := by
  have hsz : s.data.toList.length = s.size := Array.length_toList
  obtain ⟨z, hz⟩ : ∃ z, z = nameB s.data.toList := ⟨_, rfl⟩
  rw [← hz]
  have HZ := Lib.hid hz
  clear hz
  go_enter Try.func16, Try.ntmps16
  go_wp2
  go_loopw [2, 3] (fun r i wr => r = .bool false ∧ NameRel s.data.toList w i wr) (fun _ i _ => s.size - (intOf i).toNat)
  case atStart => exact ⟨rfl, 0, by omega, rfl, Below.refl _ _, fun j _ hj => by omega⟩
  case round =>
    obtain ⟨rfl, k, hk, rfl, hbw, hall⟩ := hrel
    rw [hsz] at hk
    by_cases hlt : k < s.size
    · have hkl : k < s.data.toList.length := by omega
      have i0 : (0 : Int) ≤ k := by omega
      have i1 : (k : Int) < s.size := by omega
      have hb : s[k] = s.data.toList[k] := rfl
      cases hsm : smallB s.data.toList[k] with
      | true =>
        have h2 := hsm
        rw [smallB, ← hb, Bool.and_eq_true, decide_eq_true_iff, decide_eq_true_iff] at h2
        have j1 : (97 : Int) ≤ s[k].toNat := by omega
        have j2 : (s[k].toNat : Int) ≤ 122 := by omega
        have HN : Hid (∀ j (hj : j < s.data.toList.length), j < k + 1 → smallB s.data.toList[j] = true) := Lib.hid fun j hj hjk => by
          by_cases e : j = k
          · subst e; exact hsm
          · exact hall j hj (by omega)
        have HSZ := Lib.hid hsz
        clear hall hsm h2 hb hsz
        go_wp2
        go_roundw
        case rel => exact ⟨rfl, k + 1, by have := HSZ.out; omega, by go_num, hbw, HN.out⟩
        case measure => simp [intOf]; omega
      | false =>
        have h2 := hsm
        rw [smallB, ← hb, Bool.and_eq_false_iff, decide_eq_false_iff_not, decide_eq_false_iff_not] at h2
        have hbad : z = false := by rw [HZ.out]; exact nameB_bad hkl hsm
        subst hbad
        have j1 : (s[k].toNat : Int) < 97 ∨ (97 : Int) ≤ s[k].toNat ∧ (122 : Int) < s[k].toNat := by omega
        clear hall hsm h2 hb hsz
        rcases j1 with j1 | ⟨j1, j2⟩
        all_goals
          go_wp2
          go_ret
          exact ⟨rfl, hbw⟩
    · have e := nameB_good (s := s.data.toList) (fun j hj => hall j hj (by omega))
      rw [hsz, ← HZ.out] at e
      clear hall hsz
      by_cases g1 : 1 ≤ s.size
      · by_cases g2 : s.size ≤ 12
        · have d1 : (decide (1 ≤ s.size) && decide (s.size ≤ 12)) = true := by simp [g1, g2]
          rw [d1] at e
          subst e
          clear d1
          go_wp2
          go_ret
          exact ⟨ret_bool (decide_eq_true (by omega)), hbw⟩
        · have d1 : (decide (1 ≤ s.size) && decide (s.size ≤ 12)) = false := by simp [g2]
          have g3 : 12 < s.size := by omega
          rw [d1] at e
          subst e
          clear d1 g2
          go_wp2
          go_ret
          exact ⟨ret_bool (decide_eq_false (by omega)), hbw⟩
      · have d1 : (decide (1 ≤ s.size) && decide (s.size ≤ 12)) = false := by simp [g1]
        have g3 : s.size < 1 := by omega
        rw [d1] at e
        subst e
        clear d1 g1
        go_wp2
        go_ret
        exact ⟨rfl, hbw⟩
end Go.Proofs.Ythpecegifilgoaa

/- What package doc's Name answers. -/
namespace Go.Proofs.Ythpecegifilgoaa
open Go Go.RowKit
set_option linter.unusedVariables false

set_option maxHeartbeats 1000000 in
set_option maxRecDepth 100000 in
theorem doc_Name (s : ByteArray) (w : World) (hs : s.size ≤ 9223372036854775807) :
    Calls Try.prog 15 #[.string s] w fun e w' => e = .returned (.bool (nameB s.data.toList)) ∧ Below w.heap.size w w' := by
  have hsz : s.data.toList.length = s.size := Array.length_toList
  by_cases h0 : s.size = 0
  · have he : s = ByteArray.empty := by
      have : s.data.toList = [] := List.eq_nil_of_length_eq_zero (by omega)
      cases s with | mk d => cases d with | mk l => simp at this; subst this; rfl
    have hm : nameB s.data.toList = false := by rw [he]; rfl
    rw [hm]
    subst he
    clear hm hsz h0
    go_enter Try.func15, Try.ntmps15
    go_wp2
    go_ret
    exact ⟨rfl, Below.refl _ _⟩
  · have hne : s.data.toList ≠ [] := fun h => h0 (by rw [← hsz, h]; rfl)
    have hs0 : (s.toList == []) = false := by
      rw [Lib.toList_data]
      simpa using hne
    obtain ⟨z, hz⟩ : ∃ z, z = nameB s.data.toList := ⟨_, rfl⟩
    rw [← hz]
    have HZ := Lib.hid hz
    clear hz hne
    by_cases h12 : 12 < s.size
    · have hzf : z = false := by
        rw [HZ.out, nameB, hsz]
        have d : decide (s.size ≤ 12) = false := decide_eq_false (by omega)
        rw [d]
        simp
      subst hzf
      clear hsz h0
      go_enter Try.func15, Try.ntmps15
      go_wp2
      go_ret
      exact ⟨rfl, Below.refl _ _⟩
    · have hs12 : s.size ≤ 12 := by omega
      have h1 : 1 ≤ s.size := by omega
      have HSZ := Lib.hid hsz
      clear hsz h0 h12
      go_enter Try.func15, Try.ntmps15
      go_wp2
      go_loopw [2, 13] (fun r i wr => r = .bool false ∧ NameRel s.data.toList w i wr) (fun _ i _ => s.size - (intOf i).toNat)
      case atStart => exact ⟨rfl, 0, by omega, rfl, Below.refl _ _, fun j _ hj => by omega⟩
      case round =>
        obtain ⟨rfl, k, hk, rfl, hbw, hall⟩ := hrel
        rw [HSZ.out] at hk
        by_cases hlt : k < s.size
        · have hkl : k < s.data.toList.length := by rw [HSZ.out]; exact hlt
          have i0 : (0 : Int) ≤ k := by omega
          have i1 : (k : Int) < s.size := by omega
          have hb : s[k] = s.data.toList[k] := rfl
          cases hsm : smallB s.data.toList[k] with
          | true =>
            have h2 := hsm
            rw [smallB, ← hb, Bool.and_eq_true, decide_eq_true_iff, decide_eq_true_iff] at h2
            have j1 : (97 : Int) ≤ s[k].toNat := by omega
            have j2 : (s[k].toNat : Int) ≤ 122 := by omega
            have HN : Hid (∀ j (hj : j < s.data.toList.length), j < k + 1 → smallB s.data.toList[j] = true) := Lib.hid fun j hj hjk => by
              by_cases e : j = k
              · subst e; exact hsm
              · exact hall j hj (by omega)
            clear hall hsm h2 hb
            go_wp2
            go_roundw
            case rel => exact ⟨rfl, k + 1, by have := HSZ.out; omega, by go_num, hbw, HN.out⟩
            case measure => simp [intOf]; omega
          | false =>
            have h2 := hsm
            rw [smallB, ← hb, Bool.and_eq_false_iff, decide_eq_false_iff_not, decide_eq_false_iff_not] at h2
            have hbad : z = false := by rw [HZ.out]; exact nameB_bad hkl hsm
            subst hbad
            have j1 : (s[k].toNat : Int) < 97 ∨ (97 : Int) ≤ s[k].toNat ∧ (122 : Int) < s[k].toNat := by omega
            clear hall hsm h2 hb
            rcases j1 with j1 | ⟨j1, j2⟩
            all_goals
              go_wp2
              go_ret
              exact ⟨rfl, hbw⟩
        · have e := nameB_good (s := s.data.toList) (fun j hj => hall j hj (by rw [HSZ.out] at hj; omega))
          have d1 : (decide (1 ≤ s.size) && decide (s.size ≤ 12)) = true := by simp [h1, hs12]
          rw [HSZ.out, ← HZ.out, d1] at e
          subst e
          clear hall d1
          go_wp2
          go_ret
          exact ⟨rfl, hbw⟩
end Go.Proofs.Ythpecegifilgoaa

/- A document in a block of its own. -/
namespace Go.Proofs.Ythpecegifilgoaa
open Go Go.RowKit
set_option linter.unusedVariables false

theorem drewN_below (w : World) (m : Nat) : Below w.heap.size w (w.drewN m) := ⟨rfl, rfl, rfl, Nat.le_refl _, fun _ _ => rfl⟩
/-- A document in a block of its own. -/
def boxD (w : World) (id : Int) (A : Option Addr) (n c : Nat) : World := w.alloc (.cells #[.int .i64 id, .slice A n c] 24)
theorem boxD_cells {w wr : World} {id : Int} {A : Option Addr} {n c : Nat} (h : Below (boxD w id A n c).heap.size (boxD w id A n c) wr) :
    wr.cell? ⟨w.heap.size, 0, none⟩ = some (.int .i64 id) ∧ wr.cell? ⟨w.heap.size, 1, none⟩ = some (.slice A n c) := by
  have hb : wr.heap[w.heap.size]? = some (.cells #[.int .i64 id, .slice A n c] 24 (0, 0)) := (h.block w.heap.size (by simp [boxD])).trans (heap_alloc_new w _)
  exact ⟨by simp [World.cell?, hb], by simp [World.cell?, hb]⟩
theorem boxD_below (w : World) (id : Int) (A : Option Addr) (n c : Nat) : Below w.heap.size w (boxD w id A n c) := (Below.refl _ w).alloc (Nat.le_refl _) _
theorem boxD_size (w : World) (id : Int) (A : Option Addr) (n c : Nat) : (boxD w id A n c).heap.size = w.heap.size + 1 := by simp [boxD]
/-- .. and what was there stands behind it. -/
theorem boxD_out {w wr : World} {id : Int} {A : Option Addr} {n c : Nat} (h : Below (boxD w id A n c).heap.size (boxD w id A n c) wr) : Below w.heap.size w wr :=
  (boxD_below w id A n c).trans (h.mono (by rw [boxD_size]; omega))
end Go.Proofs.Ythpecegifilgoaa

/- What the document's Tokens answers: each word with its place, or the first error; in new memory; nothing that was there turns. -/
namespace Go.Proofs.Ythpecegifilgoaa
open Go Go.RowKit
set_option linter.unusedVariables false

set_option maxHeartbeats 2000000 in
set_option maxRecDepth 100000 in
theorem ref_Tokens (s : ByteArray) (w : World) (hs : s.size ≤ 268435456) :
    Calls Try.prog 33 #[.string s] w (GaveToks (words s.data.toList) w) := by
  obtain ⟨i0, hi0, hz0, hz1, hz2⟩ := info_parts info_token
  have hwl := words_length s.data.toList
  have hsz : s.data.toList.length = s.size := Array.length_toList
  rw [hsz] at hwl
  go_enter Try.func33, Try.ntmps33
  go_wp2_with (go_at_call 46; refine (ref_Words s _ (by omega)).mono ?_)
  rintro e w1 ⟨v, rfl, hown, hb⟩
  obtain ⟨A, c, rfl, _, hrow⟩ := owned_row hown
  obtain ⟨ws, hl⟩ : ∃ ws, ws = words s.data.toList := ⟨_, rfl⟩
  rw [← hl] at hrow hwl
  rw [← hl]
  have FIN : Hid (∀ e w', GaveToks ws w e w' → GaveToks (words s.data.toList) w e w') := by rw [← hl]; exact fun _ _ h => h
  have HB := Lib.hid hb
  have HR := Lib.hid hrow
  clear hl hb hown hrow
  go_wp2
  go_loopw [2, 3, 5, 6] (fun a b o i wr => ToksRel ws w1 a b o i wr) (fun _ _ _ i _ => ws.length - (intOf i).toNat)
  case atStart => exact ⟨0, _, rfl, rfl, rfl, Nat.zero_le _, by omega, rfl, World.ownsRow_nil _ _ _ _, Below.refl _ _, rfl⟩
  case round =>
    obtain ⟨k, vo, rfl, rfl, rfl, hk, hk5, rfl, hown, hbw, her⟩ := hrel
    by_cases hlt : k < ws.length
    · obtain ⟨b1, o1, e1, _, hc1⟩ := row_str (HR.out.below hbw) hlt
      subst e1
      have hat := errFrom_at hlt
      have htk := tokCells_take hlt
      obtain ⟨tx, htx⟩ : ∃ tx : ByteArray, tx = ⟨ws[k].toArray⟩ := ⟨_, rfl⟩
      have htl : ws[k].length = tx.size := by rw [htx]; simp [ByteArray.size]
      rw [← htx] at hc1 htk
      rw [htl, her] at hat
      clear htx htl her
      have HTK := Lib.hid htk
      clear htk
      have hszj := hbw.size
      by_cases h30 : 30 < tx.size
      · rw [if_pos h30] at hat
        have HAT := Lib.hid hat
        clear hat
        go_wp2
        go_ret2
        exact FIN.out _ _ ⟨_, by rw [HAT.out]; rfl, fun h => by rw [HAT.out] at h; omega, fun _ => rfl, HB.out.trans (hbw.mono HB.out.size)⟩
      · rw [if_neg h30] at hat
        by_cases h500 : k = 500
        · rw [if_pos (by omega)] at hat
          have HAT := Lib.hid hat
          subst h500
          clear hat
          go_wp2
          go_ret2
          exact FIN.out _ _ ⟨_, by rw [HAT.out]; rfl, fun h => by rw [HAT.out] at h; omega, fun _ => rfl, HB.out.trans (hbw.mono HB.out.size)⟩
        · rw [if_neg (by omega)] at hat
          have HAT := Lib.hid hat
          clear hat
          have h5 : (k : Int) < 500 := by omega
          have h5' : ¬ (500 : Int) ≤ k := by omega
          go_wp2_with (at_builtin; refine wpList_append_own _ rfl (.tmp 23) (.tmp 30) 59 rfl w1.heap.size 82 i0 _ 2 24 Try.underlying59 hi0 hz0 hz1 hz2 rfl (by omega) _ k (tokCells 0 (ws.take k)) rfl (hown.alloc _) ⟨wr.heap.size, 0, none⟩ 1 1 [.string tx, .int .i64 k] rfl rfl (news_at wr [.string tx, .int .i64 k] 82) (by intro u hu; simp at hu; rcases hu with hu | hu <;> (subst hu; rfl)) (by unfold maxLen; omega) (by omega) (by simp; omega) ?_)
          intro v' w5 hown5 hgrow5 _
          have hbw5 := (hbw.alloc (by omega) _).grown hgrow5 (by simp; omega) (fun j hj => (hown.lt j hj).1)
          rw [← HTK.out] at hown5
          clear hgrow5
          go_wp2
          go_roundw
          case rel => exact ⟨k + 1, _, rfl, rfl, rfl, by omega, by omega, by go_num, hown5, hbw5, HAT.out.symm⟩
          case measure => simp [intOf]; omega
    · have hkl : k = ws.length := by omega
      have her0 : errFrom 0 ws = 0 := by rw [← her, List.drop_of_length_le (by omega)]; rfl
      rw [hkl, List.take_length] at hown
      have HE := Lib.hid her0
      clear her her0 hkl
      go_wp2
      go_ret2
      exact FIN.out _ _ ⟨_, by rw [HE.out]; rfl, fun _ => owned_low hown HB.out.size, fun h => absurd HE.out h, HB.out.trans (hbw.mono HB.out.size)⟩
end Go.Proofs.Ythpecegifilgoaa
