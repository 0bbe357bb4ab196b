/- What slices.Equal answers of any two lists of fields, and package doc's Same of two documents. -/
import Derived.Test.YthpecegifilgoaaMayD08
import Derived.Test.YthpecegifilgoaaSame08
import Derived.Test.YthpecegifilgoaaMap08
namespace Go.Proofs.Ythpecegifilgoaa
open Go Go.RowKit
set_option linter.unusedVariables false

theorem run_equal_fd (s t : Fd) (w : World) : (Op.equal 31 (.agg (encF s).toArray) (.agg (encF t).toArray)).run Try.prog w = .ok (decide (s = t)) w := by
  have h : ∀ d : Nat, (Op.equalIn (d + 2) 31 (.agg (encF s).toArray) (.agg (encF t).toArray)).run Try.prog w = .ok (decide (s = t)) w := fun d => by
    simp only [Op.equalIn, encF, part]
    simp [run_underlying Try.underlying31, run_underlying Try.underlying9, Try.sizeOf9, Try.isAgg9, str_eq]
    obtain ⟨s1, s2⟩ := s
    obtain ⟨t1, t2⟩ := t
    by_cases h1 : s1 = t1 <;> by_cases h2 : s2 = t2 <;> simp [h1, h2]
  exact h 9998
theorem neq_fd : NeqAt Try.prog 31 (fun f => .agg (encF f).toArray) (fun a b => decide (a = b)) := by
  refine ⟨fun x y w => ?_, fun op a b x y w => ?_⟩
  · simp [binOp, run_equal_fd]
  · simp [eqGuard]
theorem allEq_fd : ∀ {xs ys : List Fd}, Lib.allEq (fun a b => decide (a = b)) xs ys = decide (xs = ys)
  | [], [] => rfl
  | [], y :: ys => rfl
  | x :: xs, [] => rfl
  | x :: xs, y :: ys => by
    rw [Lib.allEq, allEq_fd (xs := xs) (ys := ys), Bool.eq_iff_iff, Bool.and_eq_true, decide_eq_true_iff, decide_eq_true_iff, decide_eq_true_iff, List.cons.injEq]

set_option maxHeartbeats 1000000 in
set_option maxRecDepth 100000 in
theorem equal_fd (A C : Option Addr) (n c m d : Nat) (xs ys : List Fd) (w : World) (hn : xs.length = n) (hm : ys.length = m) (hx : FRow w w.heap.size A xs) (hy : FRow w w.heap.size C ys) (hnl : n ≤ 1073741824) (hml : m ≤ 1073741824) :
    Calls Try.prog 34 #[.slice A n c, .slice C m d] w fun e w' => e = .returned (.bool (decide (xs = ys))) ∧ Below w.heap.size w w' := by
  by_cases hne : n = m
  · subst hne
    by_cases h0 : n = 0
    · subst h0
      obtain rfl : xs = [] := List.eq_nil_of_length_eq_zero hn
      obtain rfl : ys = [] := List.eq_nil_of_length_eq_zero hm
      clear hx hy hn hm
      go_enter Try.func34, Try.ntmps34
      go_wp2
      go_loopw [13] (fun i wr => i = .int .i64 0 ∧ wr = w) (fun _ _ => 0)
      case atStart => exact ⟨rfl, rfl⟩
      case round =>
        obtain ⟨rfl, rfl⟩ := hrel
        go_wp2
        go_ret
        exact ⟨rfl, Below.refl _ _⟩
    · obtain ⟨b1, o1, e1, _, _⟩ := hx.at_ (k := 0) (by omega)
      obtain ⟨b2, o2, e2, _, _⟩ := hy.at_ (k := 0) (by omega)
      subst e1 e2
      refine (AnyQ.slices_Equal layEqualFd 2 Try.isAgg31 Try.sizeOf31 encF (fun _ => rfl) (fun a b => decide (a = b)) neq_fd b1 o1 n c b2 o2 n d xs ys w (by omega) (by omega) (by omega) (by omega) (encF_row hx) (encF_row hy)).mono ?_
      rintro e w' ⟨rfl, q, rfl⟩
      rw [List.take_of_length_le (by omega), List.take_of_length_le (by omega), allEq_fd]
      exact ⟨rfl, drewN_below _ _⟩
  · have hf : decide (xs = ys) = false := decide_eq_false fun e => hne (by rw [← hn, ← hm, e])
    rw [hf]
    have hne2 : (n : Int) ≠ m := by omega
    clear hx hy hn hm hne hf
    go_enter Try.func34, Try.ntmps34
    go_wp2
    go_ret
    exact ⟨rfl, Below.refl _ _⟩

set_option maxHeartbeats 2000000 in
set_option maxRecDepth 100000 in
theorem doc_Same (i j : Int) (A C : Option Addr) (n c m d : Nat) (xs ys : List Fd) (w : World) (hn : xs.length = n) (hm : ys.length = m) (hx : FRow w w.heap.size A xs) (hy : FRow w w.heap.size C ys) (hnl : n ≤ 1073741824) (hml : m ≤ 1073741824) :
    Calls Try.prog 13 #[docV i A n c, docV j C m d] w fun e w' => e = .returned (.bool (decide (i = j) && decide (xs = ys))) ∧ Below w.heap.size w w' := by
  obtain ⟨w1, hw1⟩ : ∃ w1, w1 = boxDD w i j A C n c m d := ⟨_, rfl⟩
  have HB1 : Hid (∀ wr, Below w1.heap.size w1 wr → Below w.heap.size w wr) := Lib.hid fun wr h => by subst hw1; exact (boxDD_of h).1
  have HW1 := Lib.hid hw1
  have HE : Hid (∀ w', Below w.heap.size w w' → Calls Try.prog 34 #[.slice A n c, .slice C m d] w' fun e w'' => e = .returned (.bool (decide (xs = ys))) ∧ Below w'.heap.size w' w'') := Lib.hid fun w' h => equal_fd A C n c m d xs ys w' hn hm (hx.later h) (hy.later h) hnl hml
  obtain ⟨z, hz⟩ : ∃ z, z = decide (xs = ys) := ⟨_, rfl⟩
  rw [← hz] at HE ⊢
  clear hw1 hx hy hn hm hz
  by_cases hij : i = j
  · subst hij
    rw [decide_eq_true rfl, Bool.true_and]
    go_enter Try.func13, Try.ntmps13
    go_wp2_with (go_at_call 34; rw [show (w.alloc _).alloc _ = w1 from HW1.out.symm]; (with_reducible refine (HE.out _ (HB1.out _ (Below.refl _ _))).mono ?_); rintro e w2 ⟨rfl, hb2⟩)
    go_ret
    exact ⟨rfl, HB1.out _ hb2⟩
  · have hf : decide (i = j) = false := decide_eq_false hij
    rw [hf, Bool.false_and]
    go_enter Try.func13, Try.ntmps13
    go_wp2
    rw [show (w.alloc _).alloc _ = w1 from HW1.out.symm]
    go_ret
    exact ⟨rfl, HB1.out _ (Below.refl _ _)⟩
end Go.Proofs.Ythpecegifilgoaa
