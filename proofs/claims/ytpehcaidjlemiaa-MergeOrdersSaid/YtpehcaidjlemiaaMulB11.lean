/- math/bits.Mul of 1 and a small number; what slices.Repeat makes of one -1. -/
import Derived.Test.YtpehcaidjlemiaaRefOrdP11
import Derived.Lib.EndianBits
import Derived.Laws.CopyOwn
import Derived.Deep.RegionLaw
import Derived.OneCell
import Derived.BigCall
import Derived.BigQuiet
import Derived.Deep.QuietTactic
set_option linter.unusedVariables false
namespace Go.Proofs.Ytpehcaidjlemiaa
open Go Go.RowKit

set_option maxHeartbeats 1000000 in
theorem bits_Mul64_one (n : Nat) (w : World) (hn : n ≤ 1000000) : Calls Try.prog 24 #[.int .u64 1, .int .u64 (n : Int)] w fun e w' => e = .returned (.tuple #[.int .u64 0, .int .u64 (n : Int)]) ∧ w' = w := by
  have b1 : bits BinOp.and IntKind.u64 1 4294967295 = 1 := by decide
  have b0 : bits BinOp.and IntKind.u64 0 4294967295 = 0 := by decide
  have b2 : bits BinOp.and IntKind.u64 (n : Int) 4294967295 = (n : Int) := by
    rw [show (4294967295 : Int) = 2 ^ 32 - 1 by decide, bits_mask .u64 64 (by decide) wraps_u64 32 (by decide) (n : Int) (by omega) (by omega)]
    omega
  have b3 : (n : Int) / 4294967296 = 0 := by omega
  go_enter Try.func24, Try.ntmps24
  go_wp2
  go_ret2
  exact ⟨rfl, rfl⟩
set_option maxHeartbeats 1000000 in
theorem bits_Mul_one (n : Nat) (w : World) (hn : n ≤ 1000000) : Calls Try.prog 22 #[.int .u64 1, .int .u64 (n : Int)] w fun e w' => e = .returned (.tuple #[.int .u64 0, .int .u64 (n : Int)]) ∧ w' = w := by
  go_enter Try.func22, Try.ntmps22
  go_wp2_with (go_at_call 24; refine (bits_Mul64_one n _ hn).mono ?_; rintro e w1 ⟨rfl, rfl⟩)
  go_ret2
  exact ⟨rfl, rfl⟩
/-- k numbers -1, then 0. -/
def fillC (k n : Nat) : List Value := List.replicate k (.int .i64 (-1)) ++ List.replicate (n - k) (.int .i64 0)
theorem fillC_length {k n : Nat} (h : k ≤ n) : (fillC k n).length = n := by simp [fillC]; omega
theorem fill_splice {k n : Nat} (h : k ≤ n) (j : Nat) (hj : k + j ≤ n) : splice (fillC k n) k (List.replicate j (.int .i64 (-1))) = fillC (k + j) n := by
  unfold splice fillC
  rw [List.length_replicate, List.take_append_of_le_length (by simp), List.take_of_length_le (by simp), List.drop_append, List.drop_of_length_le (by simp), List.length_replicate, List.drop_replicate, List.nil_append, ← List.append_assoc, List.replicate_append_replicate]
  congr 2
  omega
theorem fill_zero (n : Nat) : fillC 0 n = List.replicate n (.int .i64 0) := by simp [fillC]
theorem fill_all (n : Nat) : fillC n n = ints (List.replicate n (-1)) := by simp [fillC, ints]
def FillAt (n k : Nat) (w : World) (v : Value) (wr : World) : Prop := ∃ g, v = .slice (some ⟨g, 0, none⟩) n n ∧ w.heap.size ≤ g ∧ wr.heap[g]? = some (.cells (fillC k n).toArray 3 (0, 0)) ∧ Below w.heap.size w wr
theorem FillAt.own {n : Nat} {w wr : World} {v : Value} (h : FillAt n n w v wr) (hn : n ≤ maxLen) : wr.ownsRow w.heap.size 3 1 v n (ints (List.replicate n (-1))) := by
  obtain ⟨g, rfl, hg, hh, _⟩ := h
  refine ⟨by simp [ints], .inr ⟨g, n, _, rfl, hg, hh, Nat.le_refl _, hn, by simp [fillC], ?_⟩⟩
  rw [fill_all]
  simp [ints]
def RepRel (n : Nat) (w : World) (v7 v8 : Value) (wr : World) : Prop := ∃ k : Nat, v8 = .int .i64 (k : Int) ∧ k ≤ n ∧ (0 < n → 0 < k) ∧ FillAt n k w v7 wr
set_option maxHeartbeats 2000000 in
theorem slices_Repeat_one (A R : Option Addr) (r n : Nat) (w : World) (hR : R = some ⟨r, 0, none⟩) (hr : r < w.heap.size) (hc : w.cell? ⟨r, 0, none⟩ = some (.int .i64 (-1))) (hn : n ≤ 1000000) :
    Calls Try.prog 18 #[.slice R 1 1, .int .i64 (n : Int)] w fun e w' => (∃ v, e = .returned v ∧ w'.ownsRow w.heap.size 3 1 v n (ints (List.replicate n (-1)))) ∧ Below w.heap.size w w' := by
  obtain ⟨i0, hi0, hz0, hz1, hz2⟩ := info_parts info_int
  subst hR
  obtain ⟨w1, hrun, hown1, hgrow1⟩ := run_make_full (P := Try.prog) w w.heap.size 23 3 i0 _ 1 Try.underlying23 hi0 hz0 hz1 .i64 .i64 n (by rw [hz2]; omega) (by unfold maxLen; omega) (Nat.le_refl _)
  have hb1 : Below w.heap.size w w1 := (Below.refl _ w).grown hgrow1 (Nat.le_refl _) (fun k hk => by cases hk)
  have c1 := (hb1.cell (p := ⟨r, 0, none⟩) hr).trans hc
  have hg1 : w1.heap[w.heap.size]? = some (.cells (fillC 0 n).toArray 3 (0, 0)) := by
    rcases hown1.2 with ⟨h, _⟩ | ⟨g, cap, cur, h, _, hh, _, _, hcs, htk⟩
    · cases h
    · cases h
      rw [hh, fill_zero]
      rw [List.take_of_length_le (by simp; omega), show (Value.int .i64 0).cells = #[.int .i64 0] from rfl, toList_madeCells_one, Nat.mul_one] at htk
      rw [← htk]
  have e0 : decide ((n : Int) < 0) = false := decide_eq_false (by omega)
  have e1 : decide ((9223372036854775807 : Int) < (n : Int)) = false := decide_eq_false (by omega)
  have hsz : (Try.prog.info? 3).map (·.size) = some 1 := by rw [hi0]; simp [hz1]
  obtain ⟨m, hm⟩ : ∃ m, m = min 1 n := ⟨_, rfl⟩
  have hmN : m = Nat.min 1 n := hm
  have hm1 : m ≤ 1 := by omega
  have hmn : m ≤ n := by omega
  have hm0 : 0 < n → 0 < m := fun h => by omega
  have HMN := Lib.hid hmN
  clear hmN hm
  have hcs1 : ∀ j v, (List.replicate m (Value.int .i64 (-1)))[j]? = some v → w1.cell? ((⟨r, 0, none⟩ : Addr).add j) = some v := fun j v hv => by
    have hj : j = 0 := by
      have h2 := (List.getElem?_eq_some_iff.1 hv).1
      rw [List.length_replicate] at h2
      omega
    subst hj
    have : v = .int .i64 (-1) := by
      have := List.mem_of_getElem? hv
      exact (List.mem_replicate.1 this).2
    subst this
    exact c1
  have HG := Lib.hid hg1
  have HB1 := Lib.hid hb1
  have HS := Lib.hid hcs1
  obtain ⟨g, hgs⟩ : ∃ g, g = w.heap.size := ⟨_, rfl⟩
  rw [← hgs] at hrun HG HB1
  have HGS := Lib.hid hgs
  clear hg1 hb1 hcs1 hown1 hgrow1 hc hgs c1
  go_enter Try.func18, Try.ntmps18
  go_wp2_with (first
    | (go_at_call 22; refine (bits_Mul_one n _ hn).mono ?_; rintro e w2 ⟨rfl, h2⟩; obtain rfl : w = w2 := h2.symm)
    | (show wpList _ _ _ (⟨some 33, _, _, _, _, _⟩ :: _) _ _; refine wpList_copy_splice rfl (.tmp 31) (.tmp 32) 23 23 rfl 3 Try.underlying23 hsz (some ⟨g, 0, none⟩) (some ⟨r, 0, none⟩) n n 1 1 rfl rfl g 0 (fillC 0 n) 3 HG.out (List.replicate m (.int .i64 (-1))) (by rw [List.length_replicate]; exact HMN.out) (fun _ => ⟨rfl, ⟨r, 0, none⟩, rfl, HS.out⟩) (by rw [fillC_length (Nat.zero_le _), List.length_replicate]; omega) (fun v hv => by rw [(List.mem_replicate.1 hv).2]; rfl) g w HB1.out (Nat.le_refl _) ?_; intro w3 hw3 hb3; rw [fill_splice (Nat.zero_le _) _ (by omega), Nat.zero_add] at hw3))
  have hst : RepRel n w (.slice (some ⟨g, 0, none⟩) n n) (.int .i64 (m : Int)) w3 := ⟨m, rfl, hmn, hm0, g, rfl, by rw [HGS.out]; exact Nat.le_refl _, hw3.out, hb3.mono (by rw [HGS.out]; exact Nat.le_refl _)⟩
  have HST := Lib.hid hst
  clear hst hw3 hb3 hrun HG HB1 HS hm0 hm1 hmn HMN e1 e0
  go_loopw [8] (fun v8 wr => RepRel n w (.slice (some ⟨g, 0, none⟩) n n) v8 wr) (fun v8 _ => n - (intOf v8).toNat)
  case atStart => exact HST.out
  case round =>
    clear HST
    obtain ⟨k, rfl, hk, hk0, g', hv, hgb, hh, hbw⟩ := hrel
    simp only [Value.slice.injEq, Option.some.injEq, Addr.mk.injEq, and_true] at hv
    obtain rfl : g = g' := hv
    by_cases hlt : k < n
    · have hkp := hk0 (by omega)
      obtain ⟨j, hj⟩ : ∃ j, j = min k (n - k) := ⟨_, rfl⟩
      have hjN : j = Nat.min k (n - k) := hj
      have hj1 : j ≤ k := by omega
      have hj2 : k + j ≤ n := by omega
      have hj0 : 0 < j := by omega
      have HJ := Lib.hid hjN
      clear hj hjN
      have hsrc : ∀ i v, (List.replicate j (Value.int .i64 (-1)))[i]? = some v → wr.cell? ((⟨g, 0, none⟩ : Addr).add i) = some v := fun i v hv => by
        have h2 := (List.getElem?_eq_some_iff.1 hv).1
        rw [List.length_replicate] at h2
        have h3 := (List.mem_replicate.1 (List.mem_of_getElem? hv)).2
        subst h3
        rw [Addr.add_lit, cell_of_row _ _ _ _ _ _ hh]
        simp only [fillC, List.getElem?_toArray]
        rw [Nat.zero_add, List.getElem?_append_left (by simp; omega), List.getElem?_replicate, if_pos (by omega)]
      have HS := Lib.hid hsrc
      have HH := Lib.hid hh
      have HB := Lib.hid hbw
      have HGB := Lib.hid hgb
      clear hsrc hh hbw hgb hk0
      have hnk : ¬ n = k := by omega
      go_upto_region 9 with fail
      go_region_law (show (if Region.wanted ⟨some 45, _, _, _, _, _⟩ _ = true then _ else _); refine step_copy_splice (by rfl) (.tmp 41) (.tmp 44) 23 23 (by rfl) 3 Try.underlying23 hsz (some ⟨g, k, none⟩) (some ⟨g, 0, none⟩) (n - k) (n - k) k n (by simp [Act.eval, Act.put]) (by simp [Act.eval, Act.put]) g k (fillC k n) 3 HH.out (List.replicate j (.int .i64 (-1))) (by rw [List.length_replicate]; exact HJ.out) (fun _ => ⟨rfl, ⟨g, 0, none⟩, rfl, HS.out⟩) (by rw [fillC_length hk, List.length_replicate]; omega) (fun v hv => by rw [(List.mem_replicate.1 hv).2]; rfl) w.heap.size w HB.out.drew HGB.out ?_; intro w4 hw4 hb4; rw [fill_splice hk _ hj2] at hw4; rw [List.length_replicate])
      all_goals
        have hwr : IntKind.i64.wrap ((k : Int) + (j : Int)) = ((k + j : Nat) : Int) := by rw [IntKind.wrap_i64]; omega
        simp only [Act.put, List.getElem_toArray, List.getElem_cons_zero, List.getElem_cons_succ, List.setIfInBounds_toArray, List.set_cons_zero, List.set_cons_succ, hwr]
        go_roundw
        case rel => exact ⟨_, _, _, _, _, _, _, _, _, _, _, _, _, _, ⟨k + j, rfl, hj2, fun _ => by omega, g, rfl, HGB.out, hw4.out, hb4⟩, rfl⟩
        case measure => simp [intOf]; omega
    · have hkn : k = n := by omega
      subst hkn
      have HFIN := Lib.hid (show (∃ v, Ending.returned (.slice (some ⟨g, 0, none⟩) k k) = .returned v ∧ wr.ownsRow w.heap.size 3 1 v k (ints (List.replicate k (-1)))) ∧ Below w.heap.size w wr from ⟨⟨_, rfl, FillAt.own ⟨g, rfl, hgb, hh, hbw⟩ (by unfold maxLen; omega)⟩, hbw⟩)
      clear hgb hh hbw hk0
      go_wp2
      go_ret
      exact HFIN.out
end Go.Proofs.Ytpehcaidjlemiaa
