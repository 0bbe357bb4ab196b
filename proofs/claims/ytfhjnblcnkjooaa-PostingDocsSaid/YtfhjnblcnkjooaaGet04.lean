/- What package vint's taker makes, what Get answers. -/
import Derived.Test.YtfhjnblcnkjooaaTake04
namespace Go.Proofs.Ytfhjnblcnkjooaa
open Go Go.RowKit
set_option linter.unusedVariables false

set_option maxHeartbeats 1000000 in
set_option maxRecDepth 100000 in
theorem take_nil (Be Bb Ba : Nat) (A : Option Addr) (m c : Nat) (most : Int) (w : World) (ht : Taker Be Bb Ba A m c 0 0 w) (hm : m = 0) (hcx : c ≤ maxLen) :
    Calls Try.prog 54 #[.int .i64 most, .pointer (some ⟨Be, 0, none⟩), .pointer (some ⟨Bb, 0, none⟩), .pointer (some ⟨Ba, 0, none⟩)] w (Took Be Bb Ba A m c 0 0 2 0 w) := by
  subst hm
  have cE := cell_of_one ht.err
  have fE := free_of_one ht.err
  have cB := cell_of_one ht.bytes
  have cA := cell_of_one ht.place
  have hF : getF [] = (0, 0) := by decide
  have f1 := fun A' m' c' h1 h2 h3 => vint_first A' m' c' [] w h1 h2 h3
  rw [hF] at f1
  have F1 := Lib.hid f1
  have HT := Lib.hid ht
  unfold maxLen at hcx
  clear ht f1 hF
  have hfin : Hid (∀ nq, Took Be Bb Ba A 0 c 0 0 2 0 w (.returned (.tuple #[.int .i64 0, .int .i64 0, .int .i64 2])) ((w.setCell ⟨Be, 0, none⟩ (.int .i64 2)).drewN nq)) :=
    Lib.hid fun nq => ⟨rfl, (HT.out.setErr 2).drewN _, (aside_set _).drewN _⟩
  rcases A with _ | ad
  · go_enter Try.func54, Try.ntmps54
    go_wp2_with (go_at_call 55; refine (F1.out none 0 _ rfl Row.nil (by omega)).mono ?_)
    all_goals
      rintro en w2 ⟨rfl, rfl⟩
      go_wp2
      go_quiet (fail)
      go_wp2
      go_ret3
      exact hfin.out _
  · go_enter Try.func54, Try.ntmps54
    go_wp2_with (go_at_call 55; refine (F1.out _ 0 _ rfl Row.nil (by omega)).mono ?_)
    all_goals
      rintro en w2 ⟨rfl, rfl⟩
      go_wp2
      go_quiet (fail)
      go_wp2
      go_ret3
      exact hfin.out _

/-- What the closure does with a number that is none, or too great. -/
theorem vint_take_bad (Be Bb Ba : Nat) (A : Option Addr) (m c : Nat) (a : Nat) (most : Int) (l : List UInt8) (w : World) (ht : Taker Be Bb Ba A m c 0 a w) (hr : Row w w.heap.size A (Lib.byteCells l)) (hm : l.length = m) (hc : m ≤ c) (hcx : c ≤ maxLen) (ha : a ≤ m) (hl : m ≤ 1073741824)
    (hbad : (getF (l.drop a)).2 = 0 ∨ most < ((getF (l.drop a)).1 : Int)) :
    Calls Try.prog 54 #[.int .i64 most, .pointer (some ⟨Be, 0, none⟩), .pointer (some ⟨Bb, 0, none⟩), .pointer (some ⟨Ba, 0, none⟩)] w (Took Be Bb Ba A m c 0 0 2 a w) := by
  by_cases h0 : l = []
  · subst h0
    have hm0 : m = 0 := by simpa using hm.symm
    have ha0 : a = 0 := by omega
    subst ha0
    exact take_nil Be Bb Ba A m c most w ht hm0 hcx
  · obtain ⟨b, off, rfl, _, _⟩ := hr.at_ (by rw [Lib.byteCells_length]; exact List.length_pos_iff.2 h0)
    exact take_bad Be Bb Ba b off m c a most l _ _ w ht hr hm hc hcx ha hl rfl hbad
theorem vint_take_good (Be Bb Ba : Nat) (A : Option Addr) (m c : Nat) (a : Nat) (most : Int) (l : List UInt8) (w : World) (ht : Taker Be Bb Ba A m c 0 a w) (hr : Row w w.heap.size A (Lib.byteCells l)) (hm : l.length = m) (hc : m ≤ c) (hcx : c ≤ maxLen) (ha : a ≤ m) (hl : m ≤ 1073741824)
    (hk : (getF (l.drop a)).2 ≠ 0) (hmost : ((getF (l.drop a)).1 : Int) ≤ most) :
    Calls Try.prog 54 #[.int .i64 most, .pointer (some ⟨Be, 0, none⟩), .pointer (some ⟨Bb, 0, none⟩), .pointer (some ⟨Ba, 0, none⟩)] w
      (Took Be Bb Ba A m c ((getF (l.drop a)).1 : Int) ((a : Int) + ((getF (l.drop a)).2 : Int)) 0 ((a : Int) + ((getF (l.drop a)).2 : Int)) w) := by
  have hbd := getF_bd (l.drop a)
  rw [List.length_drop] at hbd
  obtain ⟨b, off, rfl, _, _⟩ := hr.at_ (by rw [Lib.byteCells_length]; omega)
  exact take_good Be Bb Ba b off m c a most l _ _ w ht hr hm hc hcx ha hl rfl (by omega) hmost

/-- What taker gives: the closure, its variables in three new blocks. -/
def GaveTaker (A : Option Addr) (m c : Nat) (a : Int) (w : World) (e : Ending) (w' : World) : Prop :=
  e = .returned (.func (.func 54) #[] #[.pointer (some ⟨w.heap.size + 2, 0, none⟩), .pointer (some ⟨w.heap.size, 0, none⟩), .pointer (some ⟨w.heap.size + 1, 0, none⟩)]) ∧
  Taker (w.heap.size + 2) w.heap.size (w.heap.size + 1) A m c (if a < 0 ∨ (m : Int) < a then 1 else 0) a w' ∧ Below w.heap.size w w' ∧ w'.heap.size = w.heap.size + 3

set_option maxHeartbeats 1000000 in
set_option maxRecDepth 100000 in
theorem vint_taker (A : Option Addr) (m c : Nat) (a : Int) (w : World) (hl : m ≤ 1073741824) :
    Calls Try.prog 53 #[.slice A m c, .int .i64 a] w (GaveTaker A m c a w) := by
  have fin : Hid (∀ x : Int, x = (if a < 0 ∨ (m : Int) < a then 1 else 0) → GaveTaker A m c a w
      (.returned (.func (.func 54) #[] #[.pointer (some ⟨w.heap.size + 1 + 1, 0, none⟩), .pointer (some ⟨w.heap.size, 0, none⟩), .pointer (some ⟨w.heap.size + 1, 0, none⟩)]))
      (((w.alloc (.cells #[.slice A m c] 32)).alloc (.cells #[.int .i64 a] 3)).alloc (.cells #[.int .i64 x] 26))) := Lib.hid fun x hx => by
    have s1 : (w.alloc (.cells #[.slice A m c] 32)).heap.size = w.heap.size + 1 := by simp
    have s2 : ((w.alloc (.cells #[.slice A m c] 32)).alloc (.cells #[.int .i64 a] 3)).heap.size = w.heap.size + 2 := by simp
    refine ⟨rfl, ⟨?_, ?_, ?_⟩, ?_, by simp⟩
    · rw [← hx, ← s2]
      exact heap_alloc_new _ _
    · exact (heap_alloc_old _ _ (by omega)).trans ((heap_alloc_old _ _ (by omega)).trans (heap_alloc_new _ _))
    · refine (heap_alloc_old _ _ (by omega)).trans ?_
      rw [← s1]
      exact heap_alloc_new _ _
    · exact (((Below.refl _ w).alloc (Nat.le_refl _) _).alloc (by omega) _).alloc (by omega) _
  by_cases h0 : a < 0
  · go_enter Try.func53, Try.ntmps53
    go_wp2
    go_ret
    exact fin.out 1 (by rw [if_pos (.inl h0)])
  · by_cases h1 : (m : Int) < a
    · go_enter Try.func53, Try.ntmps53
      go_wp2
      go_ret
      exact fin.out 1 (by rw [if_pos (.inr h1)])
    · go_enter Try.func53, Try.ntmps53
      go_wp2
      go_ret
      exact fin.out 0 (by rw [if_neg (by omega)])

/-- What the first call of the closure gives. -/
def TookZ (Be Bb Ba : Nat) (A : Option Addr) (m c : Nat) (z : Int × Int × Int) (w : World) (e : Ending) (w' : World) : Prop :=
  e = .returned (.tuple #[.int .i64 z.1, .int .i64 z.2.1, .int .i64 z.2.2]) ∧ (∃ a', Taker Be Bb Ba A m c z.2.2 a' w' ∧ (z.2.2 = 0 → a' = z.2.1)) ∧ Aside w.heap.size Be Ba w w'
theorem take_first (Be Bb Ba : Nat) (A : Option Addr) (m c : Nat) (a : Int) (l : List UInt8) (w : World) (ht : Taker Be Bb Ba A m c (if a < 0 ∨ (m : Int) < a then 1 else 0) a w) (hr : Row w w.heap.size A (Lib.byteCells l)) (hm : l.length = m) (hc : m ≤ c) (hcx : c ≤ maxLen) (hl : m ≤ 1073741824) :
    Calls Try.prog 54 #[.int .i64 9223372036854775807, .pointer (some ⟨Be, 0, none⟩), .pointer (some ⟨Bb, 0, none⟩), .pointer (some ⟨Ba, 0, none⟩)] w (TookZ Be Bb Ba A m c (getZ l a) w) := by
  by_cases h0 : a < 0 ∨ (m : Int) < a
  · rw [if_pos h0] at ht
    rw [getZ_out (by rw [hm]; exact h0)]
    refine (take_none Be Bb Ba A m c 1 a _ w ht (by decide)).mono ?_
    rintro e w' ⟨h1, h2, h3⟩
    exact ⟨h1, ⟨_, h2, fun h => absurd h (by decide)⟩, h3⟩
  · rw [if_neg h0] at ht
    obtain ⟨k, rfl⟩ : ∃ k : Nat, a = k := ⟨a.toNat, by omega⟩
    have hkm : k ≤ m := by omega
    have hbd := getF_bd (l.drop k)
    by_cases h2 : (getF (l.drop k)).2 = 0
    · rw [getZ_form (by omega) h2]
      refine (vint_take_bad Be Bb Ba A m c k _ l w ht hr hm hc hcx hkm hl (.inl h2)).mono ?_
      rintro e w' ⟨h1, h2, h3⟩
      exact ⟨h1, ⟨_, h2, fun h => absurd h (by decide)⟩, h3⟩
    · obtain ⟨j, hj⟩ : ∃ j, (getF (l.drop k)).2 = j + 1 := ⟨(getF (l.drop k)).2 - 1, by omega⟩
      rw [getZ_ok (n := (getF (l.drop k)).1) (k := j) (by omega) (by rw [← hj]), ← hj]
      refine (vint_take_good Be Bb Ba A m c k _ l w ht hr hm hc hcx hkm hl h2 (by omega)).mono ?_
      rintro e w' ⟨h1, h2, h3⟩
      exact ⟨h1, ⟨_, h2, fun _ => rfl⟩, h3⟩

set_option maxHeartbeats 1000000 in
set_option maxRecDepth 100000 in
theorem vint_Get (A : Option Addr) (m c : Nat) (a : Int) (l : List UInt8) (w : World) (hr : Row w w.heap.size A (Lib.byteCells l)) (hm : l.length = m) (hc : m ≤ c) (hcx : c ≤ maxLen) (hl : m ≤ 1073741824) :
    Calls Try.prog 48 #[.slice A m c, .int .i64 a] w (GaveZ (getZ l a) w) := by
  have HR := Lib.hid hr
  clear hr
  obtain ⟨z, hz⟩ : ∃ z, z = getZ l a := ⟨_, rfl⟩
  rw [← hz]
  have HZ := Lib.hid hz
  clear hz
  go_enter Try.func48, Try.ntmps48
  go_wp2_with (go_at_call 53; refine (vint_taker A m c a _ hl).mono ?_)
  rintro en w2 ⟨rfl, ht, hb, hs⟩
  have hr2 := HR.out.below hb
  have t1 := take_first _ _ _ A m c a l w2 ht (hr2.more (by omega)) hm hc hcx hl
  rw [← HZ.out] at t1
  have T1 := Lib.hid t1
  have HB := Lib.hid hb
  clear t1 hr2 ht hb
  go_wp2_with (go_at_call 54; refine T1.out.mono ?_)
  rintro en w3 ⟨rfl, _, h3⟩
  have hb3 := HB.out.trans (h3.below (by omega) (by omega) (by omega))
  have HB3 := Lib.hid hb3
  clear hb3 h3
  go_wp2
  go_ret3
  exact ⟨rfl, HB3.out⟩
end Go.Proofs.Ytfhjnblcnkjooaa
