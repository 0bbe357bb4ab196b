/- BitsTurns, walked: true for every input. -/
import Derived.Test.YtkflmhpmnceniaaDoorMade03
set_option linter.unusedVariables false
namespace Go.Proofs.YtkflmhpmnceniaaDoor
open Go Go.RowKit
open Plain (Rep WS hasB mayB turnB turnedB ones nextB rankB)

namespace Plain
theorem ones_count (r : List Bool) : (ones r).length = r.countP id := by
  unfold ones
  rw [← List.countP_eq_length_filter]
  have e : r = (List.range r.length).map fun i => r.getD i false := by
    apply List.ext_getElem
    · simp
    · intro i h1 h2
      simp [h1]
  conv => rhs; rw [e, List.countP_map]
  rfl
theorem ones_set {r : List Bool} {m : Nat} (hm : m < r.length) (b : Bool) : (ones (r.set m b)).length = (ones r).length - (if r.getD m false then 1 else 0) + (if b then 1 else 0) := by
  rw [ones_count, ones_count, List.countP_set (h := hm)]
  have : r.getD m false = r[m] := by rw [List.getD_eq_getElem?_getD, List.getElem?_eq_getElem hm]; rfl
  rw [this]
  rfl
theorem ones_pos {r : List Bool} {m : Nat} (h : r.getD m false = true) : 0 < (ones r).length := List.length_pos_of_mem ((ones_mem' r m).2 h)
theorem turnB_out {r : List Bool} {i : Int} (h : mayB r.length i = false) (b : Bool) : turnB r i b = r := by
  unfold mayB at h
  unfold turnB
  split
  · rename_i h0
    simp only [h0, decide_true, Bool.true_and, decide_eq_false_iff_not] at h
    rw [List.set_eq_of_length_le (by omega)]
  · rfl
theorem hasB_out {r : List Bool} {i : Int} (h : mayB r.length i = false) : hasB r i = false := by
  unfold mayB at h
  unfold hasB
  by_cases h0 : 0 ≤ i
  · simp only [h0, decide_true, Bool.true_and, decide_eq_false_iff_not] at h
    rw [List.getD_eq_getElem?_getD, List.getElem?_eq_none (by omega)]
    simp
  · simp [h0]
theorem hasB_nat (r : List Bool) (m : Nat) : hasB r (m : Int) = r.getD m false := by unfold hasB; simp
theorem turnB_nat (r : List Bool) (m : Nat) (b : Bool) : turnB r (m : Int) b = r.set m b := by unfold turnB; rw [if_pos (by omega), Int.toNat_natCast]
theorem mayB_nat {r : List Bool} {m : Nat} (h : m < r.length) : mayB r.length (m : Int) = true := by unfold mayB; simp; omega

/-- All that a number that is put, and cut, tells. -/
theorem turns (r : List Bool) (i : Int) : ∃ (had a c : Bool) (k b d : Nat),
    hasB r i = had ∧ (mayB r.length i && !hasB r i) = a ∧ hasB (turnB r i true) i = c ∧ (ones r).length = k ∧ (ones (turnB r i true)).length = b ∧ (ones (turnB (turnB r i true) i false)).length = d ∧ hasB (turnB (turnB r i true) i false) i = false ∧
    ((had = false ∧ a = false ∧ c = false ∧ b = k ∧ d = k ∧ i < 0) ∨ (had = false ∧ a = false ∧ c = false ∧ b = k ∧ d = k ∧ 0 ≤ i ∧ (r.length : Int) ≤ i) ∨
      (0 ≤ i ∧ i < r.length ∧ had = true ∧ a = false ∧ c = true ∧ b = k ∧ k = d + 1) ∨ (0 ≤ i ∧ i < r.length ∧ had = false ∧ a = true ∧ c = true ∧ b = k + 1 ∧ d = k)) := by
  cases hm : mayB r.length i
  · have hh := hasB_out hm
    rw [turnB_out hm, turnB_out hm, hh]
    refine ⟨false, false, false, _, _, _, rfl, rfl, rfl, rfl, rfl, rfl, rfl, ?_⟩
    unfold mayB at hm
    by_cases h0 : 0 ≤ i
    · simp only [h0, decide_true, Bool.true_and, decide_eq_false_iff_not] at hm
      exact .inr (.inl ⟨rfl, rfl, rfl, rfl, rfl, h0, by omega⟩)
    · exact .inl ⟨rfl, rfl, rfl, rfl, rfl, by omega⟩
  · unfold mayB at hm
    simp only [Bool.and_eq_true, decide_eq_true_eq] at hm
    obtain ⟨m, rfl⟩ : ∃ m : Nat, i = (m : Int) := ⟨i.toNat, by omega⟩
    have hmn : m < r.length := by omega
    have hmn2 : m < (r.set m true).length := by simpa using hmn
    rw [turnB_nat, turnB_nat, hasB_nat, hasB_nat, hasB_nat, ones_set hmn2, ones_set hmn, getD_set _ _ _ _ hmn2, getD_set _ _ _ _ hmn]
    refine ⟨_, _, _, _, _, _, rfl, rfl, rfl, rfl, rfl, rfl, by simp, .inr (.inr ?_)⟩
    cases hg : r.getD m false
    · right
      simp
      omega
    · left
      have := ones_pos hg
      simp
      omega
end Plain

/-- The size that a statement takes. -/
def sizeI (n : Int) : Int := if 200 < n then n % 201 else n
theorem sizeI_le (n : Int) : sizeI n ≤ 200 := by unfold sizeI; split <;> omega
theorem sizeI_ge (n : Int) (h : -9223372036854775808 ≤ n) : -9223372036854775808 ≤ sizeI n := by unfold sizeI; split <;> omega
theorem law03_size (n : Int) (w : World) (hn : n < 9223372036854775808) (hn0 : -9223372036854775808 ≤ n) :
    Calls Tryd.prog 10 #[.int .i64 n] w fun e w' => e = .returned (.int .i64 (sizeI n)) ∧ w = w' := by
  by_cases h : 200 < n
  · have e : sizeI n = n % 201 := if_pos h
    rw [e]
    clear e
    go_enter Tryd.func10, Tryd.ntmps10
    go_wp2
    go_ret
    exact ⟨rfl, rfl⟩
  · have e : sizeI n = n := if_neg h
    rw [e]
    clear e
    go_enter Tryd.func10, Tryd.ntmps10
    go_wp2
    go_ret
    exact ⟨rfl, rfl⟩

set_option maxHeartbeats 8000000 in
set_option maxRecDepth 100000 in
theorem walk_BitsTurns (n : Int) (a : Option Addr) (len cap : Nat) (ds : List (Int × Int)) (i : Int) (w : World) (hn : n < 9223372036854775808) (hn0 : -9223372036854775808 ≤ n) (hd : InDeeds w a len cap ds) (hi63 : i < 9223372036854775808) (hi0 : -9223372036854775808 ≤ i) (hT : Tab w) :
    Calls Tryd.prog 8 #[.int .i64 n, .slice a len cap, .int .i64 i] w (GaveTrue w) := by
  have HZ := Lib.hid (law03_size n w hn hn0)
  have HM := Lib.hid (law03_made (sizeI n) a len cap ds w (sizeI_le n) (sizeI_ge n hn0) hd hT)
  have hN : (sizeI n).toNat ≤ 200 := by have := sizeI_le n; omega
  have HT := Lib.hid hT
  have HI1 := Lib.hid hi63
  have HI0 := Lib.hid hi0
  have HN1 := Lib.hid hn
  have HN0 := Lib.hid hn0
  obtain ⟨N, hNe⟩ : ∃ N, N = (sizeI n).toNat := ⟨_, rfl⟩
  rw [← hNe] at HM hN
  obtain ⟨Z, hZe⟩ : ∃ Z, Z = sizeI n := ⟨_, rfl⟩
  rw [← hZe] at HM HZ
  clear hNe hZe hd hT hi63 hi0 hn hn0
  go_enter Tryd.func8, Tryd.ntmps8
  go_wp2_with (first
    | (go_at_call 10; (with_reducible refine HZ.out.mono ?_); rintro e w' ⟨rfl, rfl⟩)
    | (go_at_call 9; (with_reducible refine HM.out.mono ?_)))
  rintro e w1 ⟨B, v, r, rfl, hrl, hboth⟩
  obtain ⟨hset, hown, hb1⟩ := hboth
  have hrb : r.length ≤ big := by unfold big; omega
  obtain ⟨A, c', rfl, hvc, hvr⟩ := owned_row hown
  have HHAS := Lib.hid (ref03_Has A r.length c' r i w1 rfl hvr hrb HI1.out HI0.out)
  have hl1 := Plain.turnB_length r i true
  have hl2 := Plain.turnB_length (Plain.turnB r i true) i false
  have HP := Lib.hid (set_Put w.heap.size B r i w1 hset hrb HI1.out HI0.out hb1.size)
  have HC0 := Lib.hid (set_Count_is w.heap.size B r w1 hset hrb)
  have HC1 := Lib.hid (fun w2 h => set_Count_is w.heap.size B (turnB r i true) w2 h (by rw [hl1]; exact hrb))
  have HCUT := Lib.hid (fun w2 h => set_Cut w.heap.size B (turnB r i true) i w2 h (by rw [hl1]; exact hrb) HI1.out HI0.out)
  have HC2 := Lib.hid (fun w2 h => set_Count_is w.heap.size B (turnB (turnB r i true) i false) w2 h (by rw [hl2, hl1]; exact hrb))
  have HH2 := Lib.hid (fun w2 h => set_Has w.heap.size B (turnB (turnB r i true) i false) i w2 h (by rw [hl2, hl1]; exact hrb) HI1.out HI0.out)
  have hk := Plain.ones_length r
  obtain ⟨had, aa, cc, k, b, d, e1, e2, e3, e4, e5, e6, e7, hcase⟩ := Plain.turns r i
  rw [e1] at HHAS
  rw [e2] at HP
  rw [e3] at HCUT
  rw [e4] at HC0 hk
  rw [e5] at HC1
  rw [e6] at HC2
  rw [e7] at HH2
  have HB1 := Lib.hid hb1
  obtain ⟨r1, hr1⟩ : ∃ r1, r1 = turnB r i true := ⟨_, rfl⟩
  obtain ⟨r2, hr2⟩ : ∃ r2, r2 = turnB (turnB r i true) i false := ⟨_, rfl⟩
  rw [← hr2] at HC2 HH2 HCUT
  rw [← hr1] at HP HC1 HCUT
  have HSET := Lib.hid hset
  have hzb := hb1.size
  clear e1 e2 e3 e4 e5 e6 e7 hr1 hr2 hl1 hl2 hset hown hb1 hvr hvc hrb
  have hrl2 : (r.length : Int) ≤ 200 := by omega
  have HRL := Lib.hid hrl
  clear hrl
  rcases hcase with ⟨rfl, rfl, rfl, rfl, rfl, hi⟩ | ⟨rfl, rfl, rfl, rfl, rfl, hi, hj⟩ | ⟨hi, hj, rfl, rfl, rfl, rfl, rfl⟩ | ⟨hi, hj, rfl, rfl, rfl, rfl, rfl⟩
  all_goals
    go_wp2_with (first
      | (go_at_call 32; (with_reducible refine HHAS.out.mono ?_); rintro e w' ⟨rfl, rfl⟩)
      | (go_at_call 23; (with_reducible refine HC0.out.mono ?_); rintro e w' ⟨rfl, rfl⟩)
      | (go_at_call 26; (with_reducible refine HP.out.mono ?_)))
    rintro e w2 ⟨rfl, hs2, ht2⟩
    have HS2 := Lib.hid hs2
    have HB2 := Lib.hid (HB1.out.trans (HSET.out.turned_below ht2))
    clear hs2 ht2
    go_wp2_with (first
      | (go_at_call 23; (with_reducible refine (HC1.out _ HS2.out).mono ?_); rintro e w' ⟨rfl, rfl⟩)
      | (go_at_call 27; (with_reducible refine (HCUT.out _ HS2.out).mono ?_)))
    rintro e w3 ⟨rfl, hs3, ht3⟩
    have HS3 := Lib.hid hs3
    have HB3 := Lib.hid (HB2.out.trans (HS2.out.turned_below ht3))
    have hz3 := HB3.out.size
    clear hs3 ht3
    go_wp2_with (first
      | (go_at_call 23; (with_reducible refine (HC2.out _ HS3.out).mono ?_); rintro e w' ⟨rfl, rfl⟩)
      | (go_at_call 31; (with_reducible refine (HH2.out _ HS3.out).mono ?_)))
    rintro e w4 ⟨rfl, hb4⟩
    have HB4 := Lib.hid (HB3.out.trans (hb4.mono hz3))
    have HT4 := Lib.hid (HT.out.below HB4.out HT.out.lt)
    have hz4 := HB4.out.size
    clear hb4
    go_wp2_with (go_at_call 12; (with_reducible refine (law03_lives _ HT4.out).mono ?_))
    rintro e w5 ⟨rfl, hb5⟩
    go_wp2
    go_ret
    exact ⟨rfl, HB4.out.trans (hb5.mono hz4)⟩
end Go.Proofs.YtkflmhpmnceniaaDoor
