/- Package vint's taker: the closure that takes numbers one behind the other, and what Get answers. -/
import Derived.Test.YtfhjnblcnkjooaaFirst04
import Derived.Test.YtfhjnblcnkjooaaVars
import Derived.BigQuiet
import Derived.Deep.QuietTactic
namespace Go.Proofs.Ytfhjnblcnkjooaa
open Go Go.RowKit
set_option linter.unusedVariables false

/-- The closure's variables: the error at Be, the bytes at Bb, the place at Ba. -/
structure Taker (Be Bb Ba : Nat) (A : Option Addr) (m c : Nat) (e a : Int) (w : World) : Prop where
  err : w.heap[Be]? = some (.cells #[.int .i64 e] 26 (0, 0))
  bytes : w.heap[Bb]? = some (.cells #[.slice A m c] 32 (0, 0))
  place : w.heap[Ba]? = some (.cells #[.int .i64 a] 3 (0, 0))

theorem ne_of_types {w : World} {a b : Nat} {u v : Array Value} {t s : TypeId} {f g : Nat × Nat} (h : w.heap[a]? = some (.cells u t f)) (h2 : w.heap[b]? = some (.cells v s g)) (hne : t ≠ s) : a ≠ b := by
  rintro rfl
  rw [h] at h2
  simp at h2
  exact hne h2.2.1

section
variable {Be Bb Ba : Nat} {A : Option Addr} {m c : Nat} {e a : Int} {w w' : World}
theorem Taker.setErr (h : Taker Be Bb Ba A m c e a w) (x : Int) : Taker Be Bb Ba A m c x a (w.setCell ⟨Be, 0, none⟩ (.int .i64 x)) :=
  ⟨one_setCell h.err, (Below.heap_setCell _ _ _ _ (ne_of_types h.bytes h.err (by decide))).trans h.bytes, (Below.heap_setCell _ _ _ _ (ne_of_types h.place h.err (by decide))).trans h.place⟩
theorem Taker.setPlace (h : Taker Be Bb Ba A m c e a w) (x : Int) : Taker Be Bb Ba A m c e x (w.setCell ⟨Ba, 0, none⟩ (.int .i64 x)) :=
  ⟨(Below.heap_setCell _ _ _ _ (ne_of_types h.err h.place (by decide))).trans h.err, (Below.heap_setCell _ _ _ _ (ne_of_types h.bytes h.place (by decide))).trans h.bytes, one_setCell h.place⟩
theorem Taker.below (h : Taker Be Bb Ba A m c e a w) (hb : Below w.heap.size w w') : Taker Be Bb Ba A m c e a w' :=
  ⟨(hb.block _ (lt_of_block h.err)).trans h.err, (hb.block _ (lt_of_block h.bytes)).trans h.bytes, (hb.block _ (lt_of_block h.place)).trans h.place⟩
end

/-- What a call of the closure gives: n, the place behind it, the error; and the variables behind it. -/
def Took (Be Bb Ba : Nat) (A : Option Addr) (m c : Nat) (n b e : Int) (a' : Int) (w : World) (en : Ending) (w' : World) : Prop :=
  en = .returned (.tuple #[.int .i64 n, .int .i64 b, .int .i64 e]) ∧ Taker Be Bb Ba A m c e a' w' ∧ Aside w.heap.size Be Ba w w'

theorem aside_set {B C : Nat} {w : World} (x : Value) : Aside w.heap.size B C w (w.setCell ⟨B, 0, none⟩ x) :=
  ⟨rfl, rfl, rfl, by simp, fun k _ hk _ => Below.heap_setCell _ _ _ _ hk⟩
theorem Taker.drewN {Be Bb Ba : Nat} {A : Option Addr} {m c : Nat} {e a : Int} {w : World} (h : Taker Be Bb Ba A m c e a w) (n : Nat) : Taker Be Bb Ba A m c e a (w.drewN n) := ⟨h.1, h.2, h.3⟩
theorem Aside.drewN {base B C : Nat} {w w1 : World} (h : Aside base B C w w1) (n : Nat) : Aside base B C w (w1.drewN n) := ⟨h.1, h.2.1, h.2.2.1, h.2.2.2.1, h.2.2.2.2⟩

set_option maxHeartbeats 1000000 in
set_option maxRecDepth 100000 in
theorem take_none (Be Bb Ba : Nat) (A : Option Addr) (m c : Nat) (e a most : Int) (w : World) (ht : Taker Be Bb Ba A m c e a w) (he : e ≠ 0) :
    Calls Try.prog 54 #[.int .i64 most, .pointer (some ⟨Be, 0, none⟩), .pointer (some ⟨Bb, 0, none⟩), .pointer (some ⟨Ba, 0, none⟩)] w (Took Be Bb Ba A m c 0 0 e a w) := by
  have cE := cell_of_one ht.err
  have heb : (e == 0) = false := by rw [beq_eq_false_iff_ne]; exact he
  have HT := Lib.hid ht
  clear ht he
  go_enter Try.func54, Try.ntmps54
  go_wp2
  go_quiet (fail)
  go_wp2
  go_ret3
  exact ⟨rfl, HT.out.drewN _, (Aside.refl _ _ _ _).drewN _⟩

set_option maxHeartbeats 1000000 in
set_option maxRecDepth 100000 in
theorem take_bad (Be Bb Ba : Nat) (b off : Nat) (m c : Nat) (a : Nat) (most : Int) (l : List UInt8) (n k : Nat) (w : World) (ht : Taker Be Bb Ba (some ⟨b, off, none⟩) m c 0 a w) (hr : Row w w.heap.size (some ⟨b, off, none⟩) (Lib.byteCells l)) (hm : l.length = m) (hc : m ≤ c) (hcx : c ≤ maxLen) (ha : a ≤ m) (hl : m ≤ 1073741824)
    (hF : getF (l.drop a) = (n, k)) (hbad : k = 0 ∨ most < (n : Int)) :
    Calls Try.prog 54 #[.int .i64 most, .pointer (some ⟨Be, 0, none⟩), .pointer (some ⟨Bb, 0, none⟩), .pointer (some ⟨Ba, 0, none⟩)] w (Took Be Bb Ba (some ⟨b, off, none⟩) m c 0 0 2 a w) := by
  have cE := cell_of_one ht.err
  have fE := free_of_one ht.err
  have cB := cell_of_one ht.bytes
  have cA := cell_of_one ht.place
  have f1 := fun A' m' c' h1 h2 h3 => vint_first A' m' c' (l.drop a) w h1 h2 h3
  rw [hF] at f1
  have F1 := Lib.hid f1
  have HT := Lib.hid ht
  have HR := Lib.hid hr
  unfold maxLen at hcx
  clear ht hr f1
  have hfin : Hid (∀ nq, Took Be Bb Ba (some ⟨b, off, none⟩) m c 0 0 2 a w (.returned (.tuple #[.int .i64 0, .int .i64 0, .int .i64 2])) ((w.setCell ⟨Be, 0, none⟩ (.int .i64 2)).drewN nq)) :=
    Lib.hid fun nq => ⟨rfl, (HT.out.setErr 2).drewN _, (aside_set _).drewN _⟩
  rcases Nat.eq_zero_or_pos k with hk | hk
  · subst hk
    go_enter Try.func54, Try.ntmps54
    go_wp2_with (go_at_call 55; refine (F1.out _ _ _ (by rw [List.length_drop]; omega) (row_drop HR.out hm hc ha _ (by first | exact .inl ⟨rfl, by omega⟩ | exact .inr rfl)) (by omega)).mono ?_)
    all_goals
      rintro en w2 ⟨rfl, rfl⟩
      go_wp2
      go_quiet (fail)
      go_wp2
      go_ret3
      exact hfin.out _
  · have hkb : ((k : Int) == 0) = false := by rw [beq_eq_false_iff_ne]; omega
    have hmost : most < (n : Int) := by omega
    go_enter Try.func54, Try.ntmps54
    go_wp2_with (go_at_call 55; refine (F1.out _ _ _ (by rw [List.length_drop]; omega) (row_drop HR.out hm hc ha _ (by first | exact .inl ⟨rfl, by omega⟩ | exact .inr rfl)) (by omega)).mono ?_)
    all_goals
      rintro en w2 ⟨rfl, rfl⟩
      go_wp2
      go_quiet (fail)
      go_wp2
      go_ret3
      exact hfin.out _

set_option maxHeartbeats 1000000 in
set_option maxRecDepth 100000 in
theorem take_good (Be Bb Ba : Nat) (b off : Nat) (m c : Nat) (a : Nat) (most : Int) (l : List UInt8) (n k : Nat) (w : World) (ht : Taker Be Bb Ba (some ⟨b, off, none⟩) m c 0 a w) (hr : Row w w.heap.size (some ⟨b, off, none⟩) (Lib.byteCells l)) (hm : l.length = m) (hc : m ≤ c) (hcx : c ≤ maxLen) (ha : a ≤ m) (hl : m ≤ 1073741824)
    (hF : getF (l.drop a) = (n, k)) (hk : 0 < k) (hmost : (n : Int) ≤ most) :
    Calls Try.prog 54 #[.int .i64 most, .pointer (some ⟨Be, 0, none⟩), .pointer (some ⟨Bb, 0, none⟩), .pointer (some ⟨Ba, 0, none⟩)] w (Took Be Bb Ba (some ⟨b, off, none⟩) m c n ((a : Int) + k) 0 ((a : Int) + k) w) := by
  have cE := cell_of_one ht.err
  have cB := cell_of_one ht.bytes
  have cA := cell_of_one ht.place
  have fA := free_of_one ht.place
  have hbd := getF_bd (l.drop a)
  rw [hF, List.length_drop] at hbd
  simp only at hbd
  have f1 := fun A' m' c' h1 h2 h3 => vint_first A' m' c' (l.drop a) w h1 h2 h3
  rw [hF] at f1
  have F1 := Lib.hid f1
  have HT := Lib.hid ht
  have HR := Lib.hid hr
  unfold maxLen at hcx
  clear ht hr f1
  have hfin : Hid (∀ nq, Took Be Bb Ba (some ⟨b, off, none⟩) m c n ((a : Int) + k) 0 ((a : Int) + k) w (.returned (.tuple #[.int .i64 n, .int .i64 ((a : Int) + k), .int .i64 0])) ((w.setCell ⟨Ba, 0, none⟩ (.int .i64 ((a : Int) + k))).drewN nq)) :=
    Lib.hid fun nq => ⟨rfl, (HT.out.setPlace _).drewN _, (aside_set _).swap.drewN _⟩
  have hkb : ((k : Int) == 0) = false := by rw [beq_eq_false_iff_ne]; omega
  go_enter Try.func54, Try.ntmps54
  go_wp2_with (go_at_call 55; refine (F1.out _ _ _ (by rw [List.length_drop]; omega) (row_drop HR.out hm hc ha _ (by first | exact .inl ⟨rfl, by omega⟩ | exact .inr rfl)) (by omega)).mono ?_)
  all_goals
    rintro en w2 ⟨rfl, rfl⟩
    go_wp2
    go_quiet (fail)
    go_wp2
    go_ret3
    exact hfin.out _
end Go.Proofs.Ytfhjnblcnkjooaa
