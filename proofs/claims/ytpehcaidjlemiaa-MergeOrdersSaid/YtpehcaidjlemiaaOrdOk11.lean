/- What the calls Order and Places of package merge are to give; the example of layer 11. -/
import Derived.Test.YtpehcaidjlemiaaRefOrdP11
import Derived.Test.YtpehcaidjlemiaaEqPair11
import Derived.BigCall
import Derived.BigQuiet
import Derived.Deep.QuietTactic
set_option linter.unusedVariables false
namespace Go.Proofs.Ytpehcaidjlemiaa
open Go Go.RowKit

/-- Where the n numbers of a list stand in an order. -/
def GavePlc (o : List Pl) (i : Int) (n : Nat) (w : World) (e : Ending) (w' : World) : Prop := ∃ v, e = .returned v ∧ w'.ownsRow w.heap.size 3 1 v n (ints (placesO o i n)) ∧ Below w.heap.size w w'
structure OrdOk : Prop where
  order : ∀ (A : Option Addr) (m c : Nat) (l : List (List Int)) (w : World), Lol (Value.int .i64) w w.heap.size A l → l.length = m → m ≤ 1000 → (∀ s ∈ l, s.length ≤ 1000) →
    Calls Try.prog 5 #[.slice A m c] w (GaveOrd l w)
  places : ∀ (A : Option Addr) (m c n : Nat) (o : List Pl) (i : Int) (w : World), Row w w.heap.size A (plc o) → o.length = m → m ≤ 1000000 → o.Nodup → (∀ p ∈ o, p.1 ≤ 1000 ∧ p.2 ≤ 1000) → n ≤ 1000 →
    Calls Try.prog 7 #[.slice A m c, .int .i64 i, .int .i64 (n : Int)] w (GavePlc o i n w)
theorem ord_example : IsOrd [[1, 4], [2]] [(0, 0), (1, 0), (0, 1)] where
  rise := by decide
  mem := fun ⟨i, k⟩ => by
    constructor
    · intro h
      simp at h
      rcases h with ⟨rfl, rfl⟩ | ⟨rfl, rfl⟩ | ⟨rfl, rfl⟩ <;> exact ⟨by decide, by decide⟩
    · rintro ⟨h1, h2⟩
      simp only [List.length_cons, List.length_nil] at h1
      have hi : i = 0 ∨ i = 1 := by omega
      rcases hi with rfl | rfl
      · simp at h2
        have hk : k = 0 ∨ k = 1 := by omega
        rcases hk with rfl | rfl <;> simp
      · simp at h2
        subst h2
        simp
set_option maxHeartbeats 1000000 in
set_option maxRecDepth 100000 in
theorem law11_lives (OK : OrdOk) (w : World) : Calls Try.prog 9 #[] w fun e w' => e = .returned (.bool true) ∧ Below w.heap.size w w' := by
  obtain ⟨w1, hw1⟩ : ∃ w1, w1 = ((w.alloc (.cells #[.int .i64 1, .int .i64 4] 3)).alloc (.cells #[.int .i64 2] 3)).alloc (.cells #[.slice (some ⟨w.heap.size, 0, none⟩) 2 2, .slice (some ⟨w.heap.size + 1, 0, none⟩) 1 1] 23) := ⟨_, rfl⟩
  have hb1 : Below w.heap.size w w1 := by rw [hw1]; exact (((Below.refl _ _).alloc (Nat.le_refl _) _).alloc (by simp) _).alloc (by simp; omega) _
  have g1 : w1.heap[w.heap.size]? = some (.cells #[.int .i64 1, .int .i64 4] 3 (0, 0)) := by
    rw [hw1, Below.heap_alloc _ _ _ (by simp; omega), Below.heap_alloc _ _ _ (by simp)]; exact heap_alloc_new w _
  have g2 : w1.heap[w.heap.size + 1]? = some (.cells #[.int .i64 2] 3 (0, 0)) := by
    rw [hw1, Below.heap_alloc _ _ _ (by simp)]
    simpa using heap_alloc_new (w.alloc (.cells #[.int .i64 1, .int .i64 4] 3)) (.cells #[.int .i64 2] 3)
  have g3 : w1.heap[w.heap.size + 1 + 1]? = some (.cells #[.slice (some ⟨w.heap.size, 0, none⟩) 2 2, .slice (some ⟨w.heap.size + 1, 0, none⟩) 1 1] 23 (0, 0)) := by
    rw [hw1]
    simpa using heap_alloc_new ((w.alloc (.cells #[.int .i64 1, .int .i64 4] 3)).alloc (.cells #[.int .i64 2] 3)) (.cells #[.slice (some ⟨w.heap.size, 0, none⟩) 2 2, .slice (some ⟨w.heap.size + 1, 0, none⟩) 1 1] 23)
  have hs1 : w1.heap.size = w.heap.size + 1 + 1 + 1 := by rw [hw1]; simp
  have hrow : ∀ (b : Nat) (cs : Array Value) (t : TypeId), w1.heap[b]? = some (.cells cs t (0, 0)) → Row w1 w1.heap.size (some ⟨b, 0, none⟩) cs.toList := fun b cs t h =>
    .inr ⟨b, 0, rfl, (Array.getElem?_eq_some_iff.1 h).1, fun j u hu => by
      rw [Nat.zero_add, cell_of_row _ _ _ _ _ _ h]
      simpa using hu⟩
  have hL : Lol (Value.int .i64) w1 w1.heap.size (some ⟨w.heap.size + 1 + 1, 0, none⟩) [[1, 4], [2]] := by
    refine ⟨[.slice (some ⟨w.heap.size, 0, none⟩) 2 2, .slice (some ⟨w.heap.size + 1, 0, none⟩) 1 1], ⟨rfl, fun i hi => ?_⟩, hrow _ _ _ g3⟩
    simp only [List.length_cons, List.length_nil] at hi
    have hi2 : i = 0 ∨ i = 1 := by omega
    rcases hi2 with rfl | rfl
    · exact ⟨_, _, rfl, ⟨by simp, by unfold maxLen; omega⟩, hrow _ _ _ g1⟩
    · exact ⟨_, _, rfl, ⟨by simp, by unfold maxLen; omega⟩, hrow _ _ _ g2⟩
  have C1 := Lib.hid (OK.order (some ⟨w.heap.size + 1 + 1, 0, none⟩) 2 2 [[1, 4], [2]] w1 hL rfl (by omega) (by decide))
  have HW := Lib.hid hw1
  have HB := Lib.hid hb1
  clear hL hrow g1 g2 g3 hw1 hb1 hs1 OK
  go_enter Try.func9, Try.ntmps9
  go_wp2_with (go_at_call 5; rw [← HW.out]; refine (C1.out).mono ?_)
  rintro e w2 ⟨err, o, A, c, hord, rfl, hcc, hr, hb2⟩
  obtain ⟨rfl, rfl⟩ := hord.det (.ok (by decide) ord_example)
  obtain ⟨b, o1, rfl, _, x1, x2⟩ := row_plc hr (k := 0) (by simp)
  obtain ⟨b', o', e1, _, y1, y2⟩ := row_plc hr (k := 1) (by simp)
  injection e1 with e1
  injection e1 with e1 e2
  subst e1 e2
  obtain ⟨b', o', e1, _, z1, z2⟩ := row_plc hr (k := 2) (by simp)
  injection e1 with e1
  injection e1 with e1 e2
  subst e1 e2
  simp at x1 x2 y1 y2 z1 z2
  have HB2 := Lib.hid (HB.out.trans (hb2.mono HB.out.size))
  have hc3 : 3 ≤ c := by simpa using hcc.1
  clear hr hb2 hcc hord
  have q1 := run_equal_pair 0 0 0 0 w2
  have q2 := run_equal_pair 1 0 1 0 w2
  have q3 := run_equal_pair 0 1 0 1 w2
  go_wp2
  go_ret
  exact ⟨rfl, HB2.out⟩
end Go.Proofs.Ytpehcaidjlemiaa
