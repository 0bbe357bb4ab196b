/- What package doc's Clone answers: the same document, its fields in memory of its own. -/
import Derived.Test.YthpecegifilgoaaSameD08
import Derived.Test.YthpecegifilgoaaGood08
namespace Go.Proofs.Ythpecegifilgoaa
open Go Go.RowKit
set_option linter.unusedVariables false

theorem clone_fd (A : Option Addr) (n c : Nat) (l : List Fd) (w : World) (hl : l.length = n) (hr : FRow w w.heap.size A l) (hA : A = none ∨ ∃ b o, A = some ⟨b, o, none⟩) (hn : n ≤ 1048576) :
    Calls Try.prog 31 #[.slice A n c] w fun e w' => ∃ v, e = .returned v ∧ OwnFd w.heap.size w' v l ∧ Below w.heap.size w w' := by
  obtain ⟨i0, hi0, hz0, hz1, hz2⟩ := info_parts info_field
  rcases hA with rfl | ⟨b, o, rfl⟩
  · have hl0 : l = [] := by
      cases l with
      | nil => rfl
      | cons f l => obtain ⟨_, _, e, _⟩ := hr.at_ (k := 0) (by simp); cases e
    subst hl0
    refine (AnyE.slices_Clone_nil layCloneFd n c w).mono ?_
    rintro e w' ⟨rfl, rfl⟩
    exact ⟨_, rfl, OwnFd.nil, Below.refl _ _⟩
  · have hc : ∀ j u, (flds l)[j]? = some u → w.cell? ⟨b, o + j, none⟩ = some u := fun j u hu => by
      rcases hr with h | ⟨b', o', e, _, hc⟩
      · rw [h] at hu; simp at hu
      · cases e
        exact hc j u hu
    refine (AnyE.slices_Clone layCloneFd i0 _ 2 32 hi0 hz0 hz1 hz2 rfl (by decide) Try.sizeOf31 b o n c (flds l) w (by rw [flds_length, hl]) (by unfold maxLen; omega) (by omega) hc (flds_oneCell l)).mono ?_
    rintro e w' ⟨v, rfl, hown, _, hb⟩
    refine ⟨v, rfl, ?_, hb⟩
    unfold OwnFd
    rw [hl]
    exact hown

set_option maxHeartbeats 2000000 in
set_option maxRecDepth 100000 in
theorem doc_Clone (id : Int) (A : Option Addr) (n c : Nat) (l : List Fd) (w : World) (hl : l.length = n) (hr : FRow w w.heap.size A l) (hA : A = none ∨ ∃ b o, A = some ⟨b, o, none⟩) (hn : n ≤ 1048576) :
    Calls Try.prog 10 #[docV id A n c] w fun e w' => ∃ v, e = .returned (.agg #[.int .i64 id, v]) ∧ OwnFd w.heap.size w' v l ∧ Below w.heap.size w w' := by
  obtain ⟨w1, hw1⟩ : ∃ w1, w1 = (w.alloc (.cells #[.int .i64 id, .slice A n c] 24)).alloc (.cells #[.int .i64 0, .slice none 0 0] 24) := ⟨_, rfl⟩
  have hb1 : Below w.heap.size w w1 := by rw [hw1]; exact ((Below.refl _ w).alloc (Nat.le_refl _) _).alloc (by simp) _
  have hs1 : w1.heap.size = w.heap.size + 2 := by rw [hw1]; simp
  have hk0 : w1.heap[w.heap.size]? = some (.cells #[.int .i64 id, .slice A n c] 24 (0, 0)) := by
    rw [hw1, Below.heap_alloc _ _ _ (by simp)]
    exact heap_alloc_new w _
  have hk1 : w1.heap[w.heap.size + 1]? = some (.cells #[.int .i64 0, .slice none 0 0] 24 (0, 0)) := by
    rw [hw1]
    simpa using heap_alloc_new (w.alloc (.cells #[.int .i64 id, .slice A n c] 24)) (.cells #[.int .i64 0, .slice none 0 0] 24)
  have HS : Hid (∀ w', Below w1.heap.size w1 w' → w'.cell? ⟨w.heap.size, 0, none⟩ = some (.int .i64 id) ∧ w'.cell? ⟨w.heap.size, 1, none⟩ = some (.slice A n c)) := Lib.hid fun w' h => by
    have := (h.block w.heap.size (by omega)).trans hk0
    exact ⟨(two_cells this).1, (two_cells this).2.1⟩
  have HK1 : Hid (∀ w', Below w1.heap.size w1 w' → w'.heap[w.heap.size + 1]? = some (.cells #[.int .i64 0, .slice none 0 0] 24 (0, 0))) := Lib.hid fun w' h => (h.block _ (by omega)).trans hk1
  have HC : Hid (∀ w', Below w1.heap.size w1 w' → Calls Try.prog 31 #[.slice A n c] w' fun e w'' => ∃ v, e = .returned v ∧ OwnFd w'.heap.size w'' v l ∧ Below w'.heap.size w' w'') := Lib.hid fun w' h => clone_fd A n c l w' hl (hr.later (hb1.trans (h.mono hb1.size))) hA hn
  have HW1 := Lib.hid hw1
  have HB1 := Lib.hid hb1
  have HS1 := Lib.hid hs1
  clear hw1 hb1 hs1 hk0 hk1 hr hA hl
  go_enter Try.func10, Try.ntmps10
  go_wp2
  rw [show (w.alloc _).alloc _ = w1 from HW1.out.symm]
  go_region_held3 (fun w' => w'.cell? ⟨w.heap.size, 0, none⟩ = some (.int .i64 id) ∧ w'.cell? ⟨w.heap.size, 1, none⟩ = some (.slice A n c))
    (first | exact HS.out _ (Below.refl _ _).drew | exact HS.out _ HB4.out | exact HSE.out)
    (first
      | (go_at_call 31; (with_reducible refine (HC.out _ (Below.refl _ w1).drew).mono ?_); rintro e w4 ⟨v, rfl, ho4, hb4⟩
         obtain ⟨A4, c4, rfl, _, _⟩ := ho4.row
         have HB4 : Hid (Below w1.heap.size w1 w4) := Lib.hid ((Below.refl _ w1).drew.trans hb4)
         have HO4 : Hid (OwnFd w1.heap.size w4 (.slice A4 l.length c4) l) := Lib.hid ho4
         have hz := two_cells (HK1.out _ HB4.out)
         have r0 := hz.1
         have r1 := hz.2.1
         have r2 := hz.2.2.1
         have r3 := hz.2.2.2
         have HSE : Hid (((w4.setCell ⟨w.heap.size + 1, 0, none⟩ (.int .i64 id)).setCell ⟨w.heap.size + 1, 1, none⟩ (.slice A4 l.length c4)).cell? ⟨w.heap.size, 0, none⟩ = some (.int .i64 id) ∧ ((w4.setCell ⟨w.heap.size + 1, 0, none⟩ (.int .i64 id)).setCell ⟨w.heap.size + 1, 1, none⟩ (.slice A4 l.length c4)).cell? ⟨w.heap.size, 1, none⟩ = some (.slice A n c)) := Lib.hid (by
           have hq := HS.out _ HB4.out
           have hne : ∀ (u : World) (k : Nat) (v : Value) (o : Nat), (u.setCell ⟨w.heap.size + 1, k, none⟩ v).cell? ⟨w.heap.size, o, none⟩ = u.cell? ⟨w.heap.size, o, none⟩ := fun u k v o => by
             simp only [World.cell?]
             rw [set_ne (by omega)]
           rw [hne, hne, hne, hne]
           exact hq)
         clear ho4 hb4 hz))
  all_goals
    go_wp2
    obtain ⟨we, hwe⟩ : ∃ we, we = (w4.setCell ⟨w.heap.size + 1, 0, none⟩ (.int .i64 id)).setCell ⟨w.heap.size + 1, 1, none⟩ (.slice A4 l.length c4) := ⟨_, rfl⟩
    have h3 : we.heap[w.heap.size + 1]? = some (.cells #[.int .i64 id, .slice A4 l.length c4] 24 (0, 0)) := by rw [hwe, set_at (set_at (HK1.out _ HB4.out))]; rfl
    have hbe : Below w.heap.size w we := by rw [hwe]; exact ((HB1.out.trans (HB4.out.mono HB1.out.size)).setCell (by simp) _).setCell (by simp) _
    have hs1 := HS1.out
    have hoe : OwnFd w.heap.size we (.slice A4 l.length c4) l := by
      rw [hwe]
      exact (show OwnFd w1.heap.size _ _ _ from ownsRow_setCell_below (ownsRow_setCell_below HO4.out (a := ⟨w.heap.size + 1, 0, none⟩) (by simp; omega) _) (a := ⟨w.heap.size + 1, 1, none⟩) (by simp; omega) _).low (by omega)
    rw [← hwe]
    obtain ⟨d0, d1, _, _⟩ := two_cells h3
    exact bodyPost_ret (v := .agg #[.int .i64 id, .slice A4 l.length c4]) (by simp [results, Try.results10, go_sem, d0, d1]) rfl ⟨_, rfl, hoe, hbe⟩
end Go.Proofs.Ythpecegifilgoaa
