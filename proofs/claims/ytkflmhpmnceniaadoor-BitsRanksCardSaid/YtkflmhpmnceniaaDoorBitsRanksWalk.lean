/- BitsRanks, walked: true for every input. -/
import Derived.Test.YtkflmhpmnceniaaDoorBitsTurnsWalk
set_option linter.unusedVariables false
namespace Go.Proofs.YtkflmhpmnceniaaDoor
open Go Go.RowKit
open Plain (Rep WS hasB mayB turnB turnedB ones nextB rankB)

namespace Plain
theorem find_parted {α : Type} (p : α → Bool) (l : List α) (j : Nat) (h1 : ∀ x ∈ l.take j, p x = false) (h2 : ∀ x ∈ l.drop j, p x = true) : l.find? p = l[j]? := by
  have e : l.find? p = (l.take j ++ l.drop j).find? p := by rw [List.take_append_drop]
  rw [e, List.find?_append, List.find?_eq_none.2 (fun x hx => by rw [h1 x hx]; simp), Option.none_or]
  by_cases hj : j < l.length
  · rw [List.drop_eq_getElem_cons hj, List.find?_cons, h2 _ (by rw [List.mem_iff_getElem?]; exact ⟨0, by rw [List.getElem?_drop, Nat.add_zero, List.getElem?_eq_getElem hj]⟩), List.getElem?_eq_getElem hj]
  · rw [List.drop_eq_nil_of_le (by omega), List.getElem?_eq_none (by omega)]
    rfl
theorem count_parted {α : Type} (p : α → Bool) (l : List α) (j : Nat) (hj : j ≤ l.length) (h1 : ∀ x ∈ l.take j, p x = true) (h2 : ∀ x ∈ l.drop j, p x = false) : l.countP p = j := by
  have e : l.countP p = (l.take j ++ l.drop j).countP p := by rw [List.take_append_drop]
  rw [e, List.countP_append, List.countP_eq_length.2 h1, List.countP_eq_zero.2 (fun x hx => by rw [h2 x hx]; simp), List.length_take]
  omega
theorem asc_take {l : List Nat} (h : l.Pairwise (· < ·)) {k : Nat} (hk : k < l.length) : (∀ x ∈ l.take k, x < l[k]) ∧ (∀ x ∈ l.drop k, l[k] ≤ x) ∧ (∀ x ∈ l.drop (k + 1), l[k] < x) := by
  rw [List.pairwise_iff_getElem] at h
  refine ⟨fun x hx => ?_, fun x hx => ?_, fun x hx => ?_⟩
  · obtain ⟨i, hi⟩ := List.getElem?_of_mem hx
    rw [List.getElem?_take] at hi
    split at hi
    · obtain ⟨hl, rfl⟩ := List.getElem?_eq_some_iff.1 hi
      exact h i k hl hk (by assumption)
    · cases hi
  · obtain ⟨i, hi⟩ := List.getElem?_of_mem hx
    rw [List.getElem?_drop] at hi
    obtain ⟨hl, rfl⟩ := List.getElem?_eq_some_iff.1 hi
    rcases Nat.eq_zero_or_pos i with rfl | h0
    · exact Nat.le_refl _
    · exact Nat.le_of_lt (h k (k + i) hk hl (by omega))
  · obtain ⟨i, hi⟩ := List.getElem?_of_mem hx
    rw [List.getElem?_drop] at hi
    obtain ⟨hl, rfl⟩ := List.getElem?_eq_some_iff.1 hi
    exact h k (k + 1 + i) hk hl (by omega)
/-- The k-th number that is in; -1, if there is none. -/
def nth (r : List Bool) (k : Nat) : Int := match (ones r)[k]? with | some x => (x : Int) | none => -1
theorem next_first (r : List Bool) (i : Int) (hi : i ≤ 0) : nextB r i = nth r 0 := by
  unfold nextB nth
  rw [find_parted _ (ones r) 0 (fun x hx => by simp at hx) (fun x hx => by simp; omega)]
  rfl
theorem next_nth (r : List Bool) {k : Nat} (hk : k < (ones r).length) : nextB r (((ones r)[k] : Int) + 1) = nth r (k + 1) := by
  have h := asc_take (ones_asc r) hk
  unfold nextB nth
  rw [find_parted _ (ones r) (k + 1) (fun x hx => ?_) (fun x hx => ?_)]
  · rfl
  · rw [List.take_succ_eq_append_getElem hk, List.mem_append, List.mem_singleton] at hx
    rcases hx with hx | rfl
    · have := h.1 x hx
      simp
      omega
    · simp
      omega
  · have := h.2.2 x hx
    simp
    omega
theorem rank_nth (r : List Bool) {k : Nat} (hk : k < (ones r).length) : rankB r ((ones r)[k] : Int) = k := by
  have h := asc_take (ones_asc r) hk
  unfold rankB
  refine count_parted _ _ k (by omega) (fun x hx => ?_) (fun x hx => ?_)
  · have := h.1 x hx
    simp
    omega
  · have := h.2.1 x hx
    simp
    omega
theorem has_nth (r : List Bool) {k : Nat} (hk : k < (ones r).length) : hasB r ((ones r)[k] : Int) = true ∧ (ones r)[k] < r.length := by
  have h := (ones_mem r _).1 (List.getElem_mem hk)
  rw [hasB_nat]
  exact ⟨h.2, h.1⟩
theorem rank_all (r : List Bool) (i : Int) (h : (r.length : Int) ≤ i) : rankB r i = (ones r).length := by
  unfold rankB
  refine List.countP_eq_length.2 fun x hx => ?_
  have := ones_lt r x hx
  simp
  omega
theorem rank_neg (r : List Bool) (i : Int) (h : i ≤ 0) : rankB r i = 0 := by
  unfold rankB
  refine List.countP_eq_zero.2 fun x hx => ?_
  simp
  omega
end Plain

def RanksRel (r : List Bool) (B : Nat) (w0 w1 : World) (K : Nat) (o k i : Value) (wr : World) : Prop :=
  ∃ m : Nat, m ≤ K ∧ o = .bool false ∧ k = .int .i64 m ∧ i = .int .i64 (Plain.nth r m) ∧ Below w1.heap.size w1 wr

set_option maxHeartbeats 8000000 in
set_option maxRecDepth 100000 in
theorem walk_BitsRanks (n : Int) (a : Option Addr) (len cap : Nat) (ds : List (Int × Int)) (w : World) (hn : n < 9223372036854775808) (hn0 : -9223372036854775808 ≤ n) (hd : InDeeds w a len cap ds) (hT : Tab w) :
    Calls Tryd.prog 7 #[.int .i64 n, .slice a len cap] w (GaveTrue w) := by
  have HZ := Lib.hid (law03_size n w hn hn0)
  have HM := Lib.hid (law03_made (sizeI n) a len cap ds w (sizeI_le n) (sizeI_ge n hn0) hd hT)
  have hN : (sizeI n).toNat ≤ 200 := by have := sizeI_le n; omega
  have HT := Lib.hid hT
  have HN1 := Lib.hid hn
  have HN0 := Lib.hid hn0
  obtain ⟨N, hNe⟩ : ∃ N, N = (sizeI n).toNat := ⟨_, rfl⟩
  rw [← hNe] at HM hN
  obtain ⟨Z, hZe⟩ : ∃ Z, Z = sizeI n := ⟨_, rfl⟩
  rw [← hZe] at HM HZ
  clear hNe hZe hd hT hn hn0
  go_enter Tryd.func7, Tryd.ntmps7
  go_wp2_with (first
    | (go_at_call 10; (with_reducible refine HZ.out.mono ?_); rintro e w' ⟨rfl, rfl⟩)
    | (go_at_call 9; (with_reducible refine HM.out.mono ?_)))
  rintro e w1 ⟨B, v, r, rfl, hrl, hboth⟩
  obtain ⟨hset, hown, hb1⟩ := hboth
  have hrb : r.length ≤ big := by unfold big; omega
  obtain ⟨A, c', rfl, hvc, hvr⟩ := owned_row hown
  have HRB := Lib.hid hrb
  have HVR := Lib.hid hvr
  have HSET := Lib.hid hset
  have HB1 := Lib.hid hb1
  have HT1 := Lib.hid (HT.out.below hb1 HT.out.lt)
  have hzb := hb1.size
  have hrl2 : (r.length : Int) ≤ 200 := by omega
  have hK := Plain.ones_length r
  have HNX := Lib.hid (Plain.next_first r (-5) (by omega))
  have HC : Hid (∀ w2, SetIs w2 w.heap.size B r → Calls Tryd.prog 23 #[.pointer (some ⟨B, 0, none⟩)] w2 fun e w' => e = .returned (.int .i64 ((ones r).length : Nat)) ∧ w2 = w') := Lib.hid fun w2 h => set_Count_is w.heap.size B r w2 h HRB.out
  have HN5 : Hid (Calls Tryd.prog 29 #[.pointer (some ⟨B, 0, none⟩), .int .i64 (-5)] w1 (GaveI (Plain.nth r 0) w1)) := Lib.hid (by rw [← HNX.out]; exact set_Next w.heap.size B r (-5) w1 hset hrb (by omega) (by omega) HT1.out)
  obtain ⟨K, hKe⟩ : ∃ K, K = (ones r).length := ⟨_, rfl⟩
  have HK := Lib.hid hKe
  rw [← hKe] at hK HC
  have HRL := Lib.hid hrl
  clear hKe hset hown hb1 hvr hvc hrb hrl
  go_wp2_with (go_at_call 29; (with_reducible refine HN5.out.mono ?_))
  rintro e w2 ⟨rfl, hb2⟩
  have HB2 := Lib.hid hb2
  clear hb2
  go_wp2
  go_loopw [4, 8, 9] (RanksRel r B w w1 K) (fun _ k _ _ => K - (intOf k).toNat)
  case atStart => exact ⟨0, Nat.zero_le _, rfl, rfl, rfl, HB2.out⟩
  case round =>
    obtain ⟨m, hm, rfl, rfl, rfl, hbr⟩ := hrel
    have HBR := Lib.hid hbr
    have HSR := Lib.hid (HSET.out.below hbr)
    have HVW := Lib.hid ((HVR.out.below hbr).more hbr.size)
    have HTW := Lib.hid (HT1.out.below hbr HT1.out.lt)
    have hzr := hbr.size
    clear hbr
    by_cases hlt : m < K
    · have hlt2 : m < (ones r).length := by rw [← HK.out]; exact hlt
      have hnth : Plain.nth r m = (((ones r)[m]'hlt2 : Nat) : Int) := by unfold Plain.nth; rw [List.getElem?_eq_getElem hlt2]
      obtain ⟨hhas, hol⟩ := Plain.has_nth r hlt2
      have hrank := Plain.rank_nth r hlt2
      have hnext := Plain.next_nth r hlt2
      rw [hnth]
      obtain ⟨o, ho⟩ : ∃ o, o = (ones r)[m]'hlt2 := ⟨_, rfl⟩
      rw [← ho] at hhas hol hrank hnext ⊢
      have HRK : Hid (∀ w2, SetIs w2 w.heap.size B r → Calls Tryd.prog 30 #[.pointer (some ⟨B, 0, none⟩), .int .i64 (o : Int)] w2 (GaveI (m : Nat) w2)) := Lib.hid fun w2 h => by rw [← hrank]; exact set_Rank w.heap.size B r o w2 h HRB.out (by omega) (by omega)
      have HHS : Hid (∀ w2, SetIs w2 w.heap.size B r → Calls Tryd.prog 31 #[.pointer (some ⟨B, 0, none⟩), .int .i64 (o : Int)] w2 (GaveB true w2)) := Lib.hid fun w2 h => by rw [← hhas]; exact set_Has w.heap.size B r o w2 h HRB.out (by omega) (by omega)
      have HRH : Hid (∀ w2, Row w2 w2.heap.size A (bcells r) → Calls Tryd.prog 32 #[.slice A r.length c', .int .i64 (o : Int)] w2 fun e w' => e = .returned (.bool true) ∧ w2 = w') := Lib.hid fun w2 h => by rw [← hhas]; exact ref03_Has A r.length c' r o w2 rfl h HRB.out (by omega) (by omega)
      have HNN : Hid (∀ w2, SetIs w2 w.heap.size B r → Tab w2 → Calls Tryd.prog 29 #[.pointer (some ⟨B, 0, none⟩), .int .i64 ((o : Int) + 1)] w2 (GaveI (Plain.nth r (m + 1)) w2)) := Lib.hid fun w2 h hT => by rw [← hnext]; exact set_Next w.heap.size B r _ w2 h HRB.out (by omega) (by omega) hT
      have hol2 : (o : Int) < 200 := by omega
      obtain ⟨nx, hnx⟩ : ∃ nx, nx = Plain.nth r (m + 1) := ⟨_, rfl⟩
      rw [← hnx] at HNN
      have HNX2 := Lib.hid hnx
      clear hnth hhas hrank hnext ho hnx hlt2
      have hm300 : (m : Int) + 1 ≤ 300 := by omega
      go_wp2_with (go_at_call 30; (with_reducible refine (HRK.out _ HSR.out).mono ?_))
      rintro e w3 ⟨rfl, hb3⟩
      have HS3 := Lib.hid (HSR.out.below hb3)
      have HV3 := Lib.hid ((HVW.out.below hb3).more hb3.size)
      have HT3 := Lib.hid (HTW.out.below hb3 HTW.out.lt)
      have HB3 := Lib.hid (HBR.out.trans (hb3.mono hzr))
      have hz3 := HB3.out.size
      clear hb3
      go_wp2_with (go_at_call 31; (with_reducible refine (HHS.out _ HS3.out).mono ?_))
      rintro e w4 ⟨rfl, hb4⟩
      have HS4 := Lib.hid (HS3.out.below hb4)
      have HV4 := Lib.hid ((HV3.out.below hb4).more hb4.size)
      have HT4 := Lib.hid (HT3.out.below hb4 HT3.out.lt)
      have HB4 := Lib.hid (HB3.out.trans (hb4.mono hz3))
      have hz4 := HB4.out.size
      clear hb4
      go_wp2_with (first
        | (go_at_call 32; (with_reducible refine (HRH.out _ HV4.out).mono ?_); rintro e w' ⟨rfl, rfl⟩)
        | (go_at_call 29; (with_reducible refine (HNN.out _ HS4.out HT4.out).mono ?_)))
      rintro e w5 ⟨rfl, hb5⟩
      have HB5 := Lib.hid (HB4.out.trans (hb5.mono hz4))
      clear hb5
      go_wp2
      go_roundw
      case rel => exact ⟨m + 1, by omega, rfl, by go_num, by rw [HNX2.out], HB5.out⟩
      case measure => simp [intOf]; omega
    · obtain rfl : m = K := by omega
      have hnth : Plain.nth r m = -1 := by unfold Plain.nth; rw [HK.out, List.getElem?_eq_none (Nat.le_refl _)]
      rw [hnth]
      have HSZ := Lib.hid (fun w2 h => set_Size_is w.heap.size B r w2 h)
      have HRA : Hid (∀ w2, SetIs w2 w.heap.size B r → Calls Tryd.prog 30 #[.pointer (some ⟨B, 0, none⟩), .int .i64 (r.length : Int)] w2 (GaveI (m : Nat) w2)) := Lib.hid fun w2 h => by rw [HK.out, ← Plain.rank_all r r.length (Int.le_refl _)]; exact set_Rank w.heap.size B r _ w2 h HRB.out (by omega) (by omega)
      have HRM : Hid (∀ w2, SetIs w2 w.heap.size B r → Calls Tryd.prog 30 #[.pointer (some ⟨B, 0, none⟩), .int .i64 1000] w2 (GaveI (m : Nat) w2)) := Lib.hid fun w2 h => by rw [HK.out, ← Plain.rank_all r 1000 (by omega)]; exact set_Rank w.heap.size B r _ w2 h HRB.out (by omega) (by omega)
      have HRN : Hid (∀ w2, SetIs w2 w.heap.size B r → Calls Tryd.prog 30 #[.pointer (some ⟨B, 0, none⟩), .int .i64 (-1)] w2 (GaveI 0 w2)) := Lib.hid fun w2 h => by have := set_Rank w.heap.size B r (-1) w2 h HRB.out (by omega) (by omega); rwa [Plain.rank_neg r (-1) (by omega)] at this
      clear hnth
      go_wp2_with (first
        | (go_at_call 23; (with_reducible refine (HC.out _ HSR.out).mono ?_); rintro e w' ⟨rfl, rfl⟩)
        | (go_at_call 24; (with_reducible refine (HSZ.out _ HSR.out).mono ?_); rintro e w' ⟨rfl, rfl⟩)
        | (go_at_call 30; (with_reducible refine (HRA.out _ HSR.out).mono ?_)))
      rintro e w3 ⟨rfl, hb3⟩
      have HS3 := Lib.hid (HSR.out.below hb3)
      have HB3 := Lib.hid (HBR.out.trans (hb3.mono hzr))
      have hz3 := HB3.out.size
      clear hb3
      go_wp2_with (go_at_call 30; (with_reducible refine (HRM.out _ HS3.out).mono ?_))
      rintro e w4 ⟨rfl, hb4⟩
      have HS4 := Lib.hid (HS3.out.below hb4)
      have HB4 := Lib.hid (HB3.out.trans (hb4.mono hz3))
      have hz4 := HB4.out.size
      clear hb4
      go_wp2_with (go_at_call 30; (with_reducible refine (HRN.out _ HS4.out).mono ?_))
      rintro e w5 ⟨rfl, hb5⟩
      have hB5 := HB1.out.trans ((HB4.out.trans (hb5.mono hz4)).mono hzb)
      have HB5 := Lib.hid hB5
      have HT5 := Lib.hid (HT.out.below hB5 HT.out.lt)
      have hz5 := hB5.size
      clear hb5 hB5
      go_wp2_with (go_at_call 12; (with_reducible refine (law03_lives _ HT5.out).mono ?_))
      rintro e w6 ⟨rfl, hb6⟩
      go_wp2
      go_ret
      exact ⟨rfl, HB5.out.trans (hb6.mono hz5)⟩
end Go.Proofs.YtkflmhpmnceniaaDoor
