/- The statements' own 'made' and 'lives' of layer 7: the dictionary of names, each with its place and 10 more; the document's example. -/
import Derived.Test.YtebdnjfohahpgaaMake07
import Derived.Test.YtebdnjfohahpgaaPrefix07
set_option linter.unusedVariables false
namespace Go.Proofs.Ytebdnjfohahpgaa
open Go Go.RowKit

/-- The things, the first k of n laid. -/
def fillT (n k : Nat) : List Int := (List.range n).map fun i => if i < k then (i : Int) + 10 else 0
theorem fillT_length (n k : Nat) : (fillT n k).length = n := by simp [fillT]
theorem fillT_zero (n : Nat) : fillT n 0 = List.replicate n 0 := by
  apply List.ext_getElem
  · simp [fillT]
  · intro i h1 h2; simp [fillT]
theorem fillT_set {n k : Nat} : ints (fillT n (k + 1)) = (ints (fillT n k)).set k (.int .i64 ((k : Int) + 10)) := by
  apply List.ext_getElem
  · simp [ints, fillT]
  · intro i h1 h2
    rw [List.getElem_set]
    by_cases e : k = i
    · subst e
      simp [ints, fillT]
    · rw [if_neg e]
      simp only [ints, fillT, List.getElem_map, List.getElem_range]
      congr 1
      by_cases h : i < k
      · rw [if_pos h, if_pos (by omega)]
      · rw [if_neg h, if_neg (by omega)]
/-- Each with its place and 10 more. -/
def thingsN (n : Nat) : List Int := fillT n n
theorem thingsN_length (n : Nat) : (thingsN n).length = n := fillT_length n n
theorem thingsN_at {n i : Nat} (h : i < n) : (thingsN n).getD i 0 = (i : Int) + 10 := by
  rw [List.getD_eq_getElem?_getD, List.getElem?_eq_getElem (by rw [thingsN_length]; exact h)]
  simp [thingsN, fillT, h]

def MadeL (l : List Nm) (w : World) (e : Ending) (w' : World) : Prop := ∃ B, e = .returned (.pointer (some ⟨B, 0, none⟩)) ∧ DictAt w' w.heap.size B l (thingsN l.length) ∧ Below w.heap.size w w'
def FillRelT (n g : Nat) (w : World) (i : Value) (wr : World) : Prop :=
  ∃ k : Nat, k ≤ n ∧ i = .int .i64 (k : Int) ∧ wr.ownsRow w.heap.size 3 1 (.slice (some ⟨g, 0, none⟩) n n) n (ints (fillT n k)) ∧ Below w.heap.size w wr

set_option maxHeartbeats 2000000 in
set_option maxRecDepth 100000 in
theorem law07_made (A : Option Addr) (n c : Nat) (l : List Nm) (w : World) (hr : Row w w.heap.size A (strs l)) (hn : l.length = n) (hl : n ≤ 1048576) (hg : risesN l = true) :
    Calls Try.prog 13 #[.slice A n c] w (MadeL l w) := by
  obtain ⟨i0, hi0, hz0, hz1, hz2⟩ := info_parts info_int
  obtain ⟨w1, hrun, hown1, hgrow1⟩ := run_make_full (P := Try.prog) w w.heap.size 29 3 i0 _ 1 Try.underlying29 hi0 hz0 hz1 .i64 .i64 n (by rw [hz2]; omega) (by unfold maxLen; omega) (Nat.le_refl _)
  have hrep : (madeCells #[Value.int .i64 0] n).toList = ints (fillT n 0) := by rw [toList_madeCells_one, ints, fillT_zero, List.map_replicate]
  rw [Nat.mul_one] at hown1
  have hown1' : w1.ownsRow w.heap.size 3 1 (.slice (some ⟨w.heap.size, 0, none⟩) n n) n (ints (fillT n 0)) := by rw [← hrep]; exact hown1
  have hb1 : Below w.heap.size w w1 := (Below.refl _ w).grown hgrow1 (Nat.le_refl _) (fun k hk => by cases hk)
  obtain ⟨g, hge⟩ : ∃ g, g = w.heap.size := ⟨_, rfl⟩
  have HREL : Hid (FillRelT n g w (.int .i64 ((0 : Nat) : Int)) w1) := Lib.hid ⟨0, Nat.zero_le _, rfl, by rw [hge]; exact hown1', hb1⟩
  have HR := Lib.hid hr
  have HN := Lib.hid hn
  have HG := Lib.hid hg
  clear hr hn hg hrep hown1 hown1' hb1 hgrow1
  go_enter Try.func13, Try.ntmps13
  go_wp2
  rw [← hge]
  clear hrun hge
  go_loopw [4] (FillRelT n g w) (fun i _ => n - (intOf i).toNat)
  case atStart => exact HREL.out
  case round =>
    obtain ⟨k, hk, rfl, hown, hbw⟩ := hrel
    have hsz := hbw.size
    by_cases hlt : k < n
    · obtain ⟨st1, st2⟩ := hown.stored k (.int .i64 ((k : Int) + 10))
      have hgb := hown.lt g rfl
      have hfz := hown.frozenAt k
      have hcell := hown.cellAt k (by omega)
      obtain ⟨q, hq⟩ : ∃ q, (ints (fillT n k))[k]'(by rw [ints_length, fillT_length]; exact hlt) = .int .i64 q := ⟨(fillT n k)[k]'(by rw [fillT_length]; exact hlt), by simp [ints]⟩
      rw [List.getElem?_eq_getElem (by rw [ints_length, fillT_length]; exact hlt), hq] at hcell
      have hnext : FillRelT n g w (.int .i64 ((k : Int) + 1)) (wr.setCell ⟨g, k, none⟩ (.int .i64 ((k : Int) + 10))) :=
        ⟨k + 1, by omega, by go_num, by rw [fillT_set]; exact st1, hbw.grown st2 hbw.size (fun j hj => by cases hj; exact hgb.1)⟩
      have HNEXT := Lib.hid hnext
      have k1 : (0 : Int) ≤ (k : Int) := by omega
      have k2 : (k : Int) < (n : Int) := by omega
      clear st1 st2 hq hnext hown
      go_wp2
      go_roundw
      case rel => exact HNEXT.out
      case measure => simp [intOf]; omega
    · have hkn : k = n := by omega
      have hrow2 : Row wr wr.heap.size (some ⟨g, 0, none⟩) (ints (thingsN n)) := by
        rw [hkn] at hown
        exact owned_row_of hown
      have C1 := Lib.hid (dict_Make A (some ⟨g, 0, none⟩) n c n l (thingsN n) wr ((HR.out.below hbw).more hbw.size) HN.out hl hrow2 (thingsN_length n) HG.out)
      have HB := Lib.hid hbw
      clear hkn hown hbw hrow2
      go_wp2_with (go_at_call 11; refine (C1.out).mono ?_; rintro e w5 ⟨B, rfl, hd, hb5⟩)
      go_ret
      refine ⟨B, rfl, ?_, HB.out.trans (hb5.mono hsz)⟩
      rw [HN.out]
      exact hd.low hsz

set_option maxHeartbeats 1000000 in
set_option maxRecDepth 100000 in
theorem law07_lives (w : World) :
    Calls Try.prog 18 #[] w fun e w' => e = .returned (.bool true) ∧ Below w.heap.size w w' := by
  have e1 : risesN [[97], [99]] = true := by decide +kernel
  have e2 : placeN [[97], [99]] [98] = 1 := by decide +kernel
  have e3 : isN [[97], [99]] [98] = false := by decide +kernel
  have e4 : placeN [[97], [99]] [99] = 1 := by decide +kernel
  have e5 : endN [[97], [99]] [99] = 2 := by decide +kernel
  have hr := risesN_iff.1 e1
  obtain ⟨w1, hw1⟩ : ∃ w1, w1 = (w.alloc (.cells #[.string ⟨#[97]⟩, .string ⟨#[99]⟩] 9)).alloc (.cells #[.int .i64 1, .int .i64 2] 3) := ⟨_, rfl⟩
  have hb1 : Below w.heap.size w w1 := by rw [hw1]; exact ((Below.refl _ _).alloc (Nat.le_refl _) _).alloc (by simp) _
  have hrow1 : Row w1 w1.heap.size (some ⟨w.heap.size, 0, none⟩) (strs [[97], [99]]) := by
    refine .inr ⟨w.heap.size, 0, rfl, by rw [hw1]; simp; omega, fun j u hu => ?_⟩
    have h1 : w1.heap[w.heap.size]? = some (.cells #[.string ⟨#[97]⟩, .string ⟨#[99]⟩] 9 (0, 0)) := by rw [hw1, Below.heap_alloc _ _ _ (by simp)]; exact heap_alloc_new w _
    rw [cell_of_row _ _ _ _ _ _ h1]
    simpa [strs] using hu
  have hrow2 : Row w1 w1.heap.size (some ⟨w.heap.size + 1, 0, none⟩) (ints [1, 2]) := by
    refine .inr ⟨w.heap.size + 1, 0, rfl, by rw [hw1]; simp, fun j u hu => ?_⟩
    have h1 : w1.heap[w.heap.size + 1]? = some (.cells #[.int .i64 1, .int .i64 2] 3 (0, 0)) := by rw [hw1]; have := heap_alloc_new (w.alloc (.cells #[.string ⟨#[97]⟩, .string ⟨#[99]⟩] 9)) (.cells #[.int .i64 1, .int .i64 2] 3); simpa using this
    rw [cell_of_row _ _ _ _ _ _ h1]
    simpa [ints] using hu
  have C1 := Lib.hid (dict_Make (some ⟨w.heap.size, 0, none⟩) (some ⟨w.heap.size + 1, 0, none⟩) 2 2 2 [[97], [99]] [1, 2] w1 hrow1 rfl (by decide) hrow2 rfl e1)
  have HW := Lib.hid hw1
  have HB := Lib.hid hb1
  have HR := Lib.hid hr
  have E2 := Lib.hid e2
  have E3 := Lib.hid e3
  have E4 := Lib.hid e4
  have E5 := Lib.hid e5
  clear e1 e2 e3 e4 e5 hr hw1 hb1 hrow1 hrow2
  go_enter Try.func18, Try.ntmps18
  go_wp2_with (go_at_call 11; rw [← HW.out]; refine (C1.out).mono ?_)
  rintro e w2 ⟨B, rfl, hd, hb2⟩
  have c2 := fun w' (h : Below w2.heap.size w2 w') => dict_Place w1.heap.size B _ _ ⟨#[98]⟩ w' (hd.below h) HR.out (by decide)
  have c3 := fun w' (h : Below w2.heap.size w2 w') => dict_Prefix w1.heap.size B _ _ ⟨#[99]⟩ w' (hd.below h) HR.out (by decide)
  have c4 := fun w' (h : Below w2.heap.size w2 w') => dict_Len w1.heap.size B _ _ w' (hd.below h)
  simp only [] at c2 c3
  rw [E2.out, E3.out] at c2
  rw [E4.out, E5.out] at c3
  have C2 := Lib.hid c2
  have C3 := Lib.hid c3
  have C4 := Lib.hid c4
  have HB2 := Lib.hid (HB.out.trans (hb2.mono HB.out.size))
  clear c2 c3 c4 hd hb2
  go_wp2_with (first
    | (go_at_call 19; refine (C2.out _ (Below.refl _ _)).mono ?_; rintro e w3 ⟨rfl, hb3⟩)
    | (go_at_call 22; refine (C3.out _ hb3).mono ?_; rintro e w4 ⟨rfl, hb4⟩
       have hb34 := hb3.trans (hb4.mono hb3.size))
    | (go_at_call 15; refine (C4.out _ hb34).mono ?_; rintro e w5 ⟨rfl, rfl⟩))
  go_ret
  exact ⟨rfl, HB2.out.trans (hb34.mono HB2.out.size)⟩
end Go.Proofs.Ytebdnjfohahpgaa
