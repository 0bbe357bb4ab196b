/- All names of lists, rising, each once: what package dict's Join answers, and the document's. -/
import Derived.Test.YtebdnjfohahpgaaMerge07
import Derived.Test.YtebdnjfohahpgaaGood07
namespace Go.Proofs.Ytebdnjfohahpgaa
open Go Go.RowKit
set_option linter.unusedVariables false

theorem wrap_small (h : Nat) (hh : h ≤ 1000000) : wrap64 (h : Int) = (h : Int) := by
  unfold wrap64
  have h1 : (0 : Int) ≤ (h : Int) + 9223372036854775808 := by omega
  have h2 : (h : Int) + 9223372036854775808 < 18446744073709551616 := by omega
  rw [Int.emod_eq_of_lt h1 h2]
  omega
theorem joinN_nil : joinN [] = [] := rfl
theorem joinN_one (a : List Nm) : joinN [a] = sortN a := (joinN_of (rise_sortN a) fun x => by simp [mem_sortN]).symm
theorem joinN_two (a b : List (List Nm)) : joinN (a ++ b) = mergeN (joinN a) (joinN b) := by
  refine (joinN_of (rise_mergeN (rise_joinN a) (rise_joinN b)) fun x => ?_).symm
  rw [mem_mergeN, mem_joinN, mem_joinN]
  constructor
  · rintro (⟨l, h1, h2⟩ | ⟨l, h1, h2⟩)
    · exact ⟨l, List.mem_append_left _ h1, h2⟩
    · exact ⟨l, List.mem_append_right _ h1, h2⟩
  · rintro ⟨l, h1, h2⟩
    rcases List.mem_append.1 h1 with h1 | h1
    · exact .inl ⟨l, h1, h2⟩
    · exact .inr ⟨l, h1, h2⟩
theorem joinN_length (ls : List (List Nm)) : (joinN ls).length ≤ ls.flatten.length := by
  have := foldl_putN_length ls.flatten []
  simpa [joinN] using this
theorem flat_take (ls : List (List Nm)) (h : Nat) : (ls.take h).flatten.length + (ls.drop h).flatten.length = ls.flatten.length := by
  rw [← List.length_append, ← List.flatten_append, List.take_append_drop]
theorem flat_at {ls : List (List Nm)} {i : Nat} (hi : i < ls.length) : (ls.take (i + 1)).flatten = (ls.take i).flatten ++ ls[i] := by
  rw [List.take_succ_eq_append_getElem hi, List.flatten_append]
  simp
theorem flat_le {ls : List (List Nm)} {i : Nat} (hi : i < ls.length) (k : Nat) : ((ls.take i).flatten ++ ls[i].take k).length ≤ ls.flatten.length := by
  have h1 := flat_take ls (i + 1)
  rw [flat_at hi] at h1
  simp only [List.length_append, List.length_take] at h1 ⊢
  omega

set_option maxHeartbeats 4000000 in
set_option maxRecDepth 100000 in
theorem dict_join (K : Nat) : ∀ (A : Option Addr) (n c : Nat) (ls : List (List Nm)) (w : World), ls.length = n → n ≤ K → n ≤ 1000 → n ≤ c → c ≤ maxLen → Lists w w.heap.size A ls → ls.flatten.length ≤ 1000 →
    Calls Try.prog 39 #[.slice A n c] w (GaveNm (joinN ls) w) := by
  induction K with
  | zero =>
    intro A n c ls w hn hK hk hnc hcm hl ht
    obtain rfl : n = 0 := by omega
    obtain rfl : ls = [] := List.eq_nil_of_length_eq_zero hn
    rw [joinN_nil]
    clear hl ht hK
    go_enter Try.func39, Try.ntmps39
    go_wp2
    go_ret
    exact ⟨_, rfl, OwnNm.nil, Below.refl _ _⟩
  | succ K ih =>
    intro A n c ls w hn hK hk hnc hcm hl ht
    by_cases h0 : n = 0
    · exact ih A n c ls w hn (by omega) hk hnc hcm hl ht
    by_cases h1 : n = 1
    · subst h1
      obtain ⟨x, rfl⟩ : ∃ x, ls = [x] := List.length_eq_one_iff.1 hn
      rw [joinN_one]
      obtain ⟨b, off, rfl, hb, A', c', hc1, hle, hcm', hrow⟩ := hl.at_ (k := 0) (by simp)
      rw [Nat.add_zero] at hc1
      simp only [List.getElem_cons_zero] at hc1 hle hrow
      have hxl : x.length ≤ 1000 := by simpa using ht
      obtain ⟨m, hm⟩ : ∃ m, m = x.length := ⟨_, rfl⟩
      rw [← hm] at hc1 hle hxl
      have C1 := Lib.hid (clone_own A' m c' x w hm.symm hrow (by omega))
      have HM := Lib.hid hm
      obtain ⟨ans, hans⟩ : ∃ a, a = sortN x := ⟨_, rfl⟩
      rw [← hans]
      have HA := Lib.hid hans
      have h1c : (1 : Int) ≤ (c : Int) := by omega
      clear hl ht hrow hm hn hK hans h0
      go_enter Try.func39, Try.ntmps39
      go_wp2_with (first
        | (go_at_call 43; refine (C1.out).mono ?_; rintro e w1 ⟨v, rfl, ho, hb1⟩
           have HO := Lib.hid ho
           have HB1 := Lib.hid hb1
           clear ho hb1)
        | (go_at_call 44; refine (sort_own w.heap.size v x _ HO.out HB1.out.size (by rw [← HM.out]; omega)).mono ?_; rintro e w2 ⟨rfl, ho2, hb2⟩
           have HO2 := Lib.hid ho2
           have HB2 := Lib.hid (HB1.out.trans hb2)
           clear ho2 hb2)
        | (go_at_call 45; refine (compact_own w.heap.size v _ _ HO2.out (by rw [List.length_mergeSort, ← HM.out]; omega)).mono ?_; rintro e w3 ⟨v3, rfl, ho3, hb3⟩
           have HO3 := Lib.hid ho3
           have HB3 := Lib.hid (HB2.out.trans hb3)
           clear ho3 hb3))
      go_ret
      exact ⟨_, rfl, by rw [HA.out]; exact HO3.out, HB3.out⟩
    · have e0 : ((n : Int) == 0) = false := by rw [beq_eq_false_iff_ne]; omega
      have e1 : ((n : Int) == 1) = false := by rw [beq_eq_false_iff_ne]; omega
      obtain ⟨h, hh⟩ : ∃ h : Nat, h = n / 2 := ⟨_, rfl⟩
      have hh2 : (n : Int) / 2 = (h : Int) := by omega
      have hp : 0 < h := by omega
      have hlt : h < n := by omega
      obtain ⟨b, off, rfl, hb, hrest⟩ := hl.at_ (k := 0) (by omega)
      clear hrest
      have hL1 := hl.cut h
      have hL2 := hl.drop h
      have hft := flat_take ls h
      have c1 := fun w' (hb' : Below w.heap.size w w') => ih (some ⟨b, off, none⟩) h c (ls.take h) w' (by rw [List.length_take]; omega) (by omega) (by omega) (by omega) hcm (hL1.later hb') (by omega)
      have c2 := fun w' (hb' : Below w.heap.size w w') => ih (some ⟨b, off + h, none⟩) (n - h) (c - h) (ls.drop h) w' (by rw [List.length_drop]; omega) (by omega) (by omega) (by omega) (by omega) (hL2.later hb') (by omega)
      have hj1 := joinN_length (ls.take h)
      have hj2 := joinN_length (ls.drop h)
      have hj : joinN ls = mergeN (joinN (ls.take h)) (joinN (ls.drop h)) := by rw [← joinN_two, List.take_append_drop]
      obtain ⟨r1, hr1⟩ : ∃ r, r = joinN (ls.take h) := ⟨_, rfl⟩
      obtain ⟨r2, hr2⟩ : ∃ r, r = joinN (ls.drop h) := ⟨_, rfl⟩
      rw [← hr1] at c1 hj hj1
      rw [← hr2] at c2 hj hj2
      have hN : r1.length + r2.length ≤ 1048576 := by omega
      have C1 := Lib.hid c1
      have C2 := Lib.hid c2
      obtain ⟨ans, hans⟩ : ∃ a, a = joinN ls := ⟨_, rfl⟩
      rw [← hans] at hj
      rw [← hans]
      have HJ := Lib.hid hj
      have k1 : (0 : Int) ≤ (h : Int) := by omega
      have k2 : (h : Int) ≤ (n : Int) := by omega
      have k3 : (n : Int) ≤ (c : Int) := by omega
      have hkI : (n : Int) ≤ 1000 := by omega
      have hkI0 : (0 : Int) ≤ (n : Int) := by omega
      have k4 : h < c := by omega
      have k6 : (h : Int) ≤ (c : Int) := by omega
      have k7 : (h : Int) < (c : Int) := by omega
      have k5 : ¬ c = h := by omega
      clear hh hp hL1 hL2 hft c1 c2 hj1 hj2 hj hr1 hr2 hans hl ht ih hn hK h0 h1
      go_enter Try.func39, Try.ntmps39
      go_wp2
      go_region_held3 (fun w' => True) (exact trivial)
        (first
          | (go_at_call 39; (with_reducible refine (C1.out _ (by first | exact (Below.refl _ _).drew | exact Below.refl _ _)).mono ?_); rintro e w1 ⟨v1, rfl, ho1, hb1⟩
             have HO1 := Lib.hid ho1
             have HB1 := Lib.hid ((show Below w.heap.size w _ from (by first | exact (Below.refl _ _).drew | exact Below.refl _ _)).trans hb1)
             clear ho1 hb1)
          | (go_at_call 39; (with_reducible refine (C2.out _ (by first | exact HB1.out | exact HB1.out.drew)).mono ?_); rintro e w2 ⟨v2, rfl, ho2, hb2⟩
             obtain ⟨A1, d1, rfl, f1, f2, f3⟩ := (HO1.out.below hb2).room
             obtain ⟨A2, d2, rfl, g1, g2, g3⟩ := ho2.room
             have CM := Lib.hid (dict_merge A1 A2 r1.length d1 r2.length d2 r1 r2 w2 rfl rfl f1 f2 g1 g2 f3 g3 hN)
             have HB2 := Lib.hid (HB1.out.trans (hb2.mono HB1.out.size))
             clear ho2 hb2 f1 f2 f3 g1 g2 g3)
          | (go_at_call 46; (with_reducible refine (CM.out).mono ?_); rintro e w3 ⟨v3, rfl, ho3, hb3⟩
             have HO3 := Lib.hid ho3
             have HB3 := Lib.hid (HB2.out.trans (hb3.mono HB2.out.size))
             clear ho3 hb3))
      go_wp2
      go_ret
      exact ⟨_, rfl, by rw [HJ.out]; exact HO3.out.low HB2.out.size, HB3.out⟩

set_option maxHeartbeats 1000000 in
theorem dict_Join (A : Option Addr) (n c : Nat) (ls : List (List Nm)) (w : World) (hn : ls.length = n) (hk : n ≤ 1000) (hc : n ≤ c) (hcm : c ≤ maxLen) (hl : Lists w w.heap.size A ls) (ht : ls.flatten.length ≤ 1000) :
    Calls Try.prog 25 #[.slice A n c] w (GaveNm (joinN ls) w) := by
  have C1 := Lib.hid (dict_join n A n c ls w hn (Nat.le_refl _) hk hc hcm hl ht)
  clear hl ht hn hc hcm hk
  go_enter Try.func25, Try.ntmps25
  go_wp2_with (go_at_call 39; refine (C1.out).mono ?_; rintro e w1 ⟨v, rfl, ho, hb⟩)
  go_ret
  exact ⟨_, rfl, ho, hb⟩

def JoinRel (ls : List (List Nm)) (w : World) (vo i : Value) (wr : World) : Prop :=
  ∃ k : Nat, k ≤ ls.length ∧ i = .int .i64 (k : Int) ∧ OwnNm w.heap.size wr vo ((ls.take k).flatten.foldl putN []) ∧ Below w.heap.size w wr
def JoinIn (ls : List (List Nm)) (x : List Nm) (i : Nat) (w : World) (vo kk : Value) (wr : World) : Prop :=
  ∃ k : Nat, k ≤ x.length ∧ kk = .int .i64 (k : Int) ∧ OwnNm w.heap.size wr vo (((ls.take i).flatten ++ x.take k).foldl putN []) ∧ Below w.heap.size w wr

set_option maxHeartbeats 4000000 in
set_option maxRecDepth 100000 in
theorem ref_Join07 (A : Option Addr) (n c : Nat) (ls : List (List Nm)) (w : World) (hn : ls.length = n) (hl : Lists w w.heap.size A ls) (ht : ls.flatten.length ≤ 1000) (hn2 : n ≤ 1000) (hx8 : ∀ a ∈ ls, ∀ x ∈ a, x.length ≤ 1048576) :
    Calls Try.prog 26 #[.slice A n c] w (GaveNm (joinN ls) w) := by
  subst hn
  have HL := Lib.hid hl
  clear hl hx8
  go_enter Try.func26, Try.ntmps26
  go_wp2
  go_loopw [3, 4] (JoinRel ls w) (fun _ i _ => ls.length - (intOf i).toNat)
  case atStart => exact ⟨0, Nat.zero_le _, rfl, OwnNm.nil, Below.refl _ _⟩
  case round =>
    obtain ⟨i, hi, rfl, hown, hbw⟩ := hrel
    by_cases hlt : i < ls.length
    · obtain ⟨b1, o1, rfl, hb1, A', c', hc1, hle, hcm, hrow⟩ := HL.out.at_ hlt
      have hf := flat_at hlt
      have hfl := fun k => flat_le hlt k
      obtain ⟨x, hx⟩ : ∃ x, x = ls[i] := ⟨_, rfl⟩
      rw [← hx] at hc1 hle hrow hf hfl
      have HF := Lib.hid hf
      have HFL : Hid (∀ k, (((ls.take i).flatten ++ x.take k).foldl putN []).length ≤ 1000) := Lib.hid fun k => by
        have h1 := foldl_putN_length ((ls.take i).flatten ++ x.take k) []
        have h2 := hfl k
        simp only [List.length_nil, Nat.add_zero] at h1
        omega
      have HROW := Lib.hid hrow
      have hxl : x.length ≤ 1000 := by
        have h1 := hfl x.length
        rw [List.take_length, List.length_append] at h1
        omega
      obtain ⟨m, hm⟩ : ∃ m, m = x.length := ⟨_, rfl⟩
      rw [← hm] at hc1 hle hxl
      have HM := Lib.hid hm
      have HIN0 : Hid (JoinIn ls x i w u3 (.int .i64 ((0 : Nat) : Int)) wr) := Lib.hid ⟨0, Nat.zero_le _, rfl, by simpa using hown, hbw⟩
      have HC : Hid (∀ w', Below w.heap.size w w' → w'.cell? ⟨b1, o1 + i, none⟩ = some (.slice A' m c')) := Lib.hid fun w' h => (h.cell (p := ⟨b1, o1 + i, none⟩) hb1).trans hc1
      clear hx hf hfl hrow hm hown hbw hc1
      go_wp2
      go_loopw [3, 5] (JoinIn ls x i w) (fun _ k _ => m - (intOf k).toNat)
      case atStart => exact HIN0.out
      case round =>
        obtain ⟨k, hk, rfl, hown, hbw⟩ := hrel
        rw [← HM.out] at hk
        have hc2 := HC.out _ hbw
        by_cases hkl : k < m
        · have hkl' : k < x.length := by rw [← HM.out]; exact hkl
          obtain ⟨b2, o2, rfl, hb2, hc3⟩ := row_nm (HROW.out.below hbw) hkl'
          obtain ⟨t, ht1, ht2⟩ := as_text x[k]
          rw [← ht1] at hc3
          have hs : ((ls.take i).flatten ++ x.take (k + 1)).foldl putN [] = putN (((ls.take i).flatten ++ x.take k).foldl putN []) x[k] := by
            rw [List.take_succ_eq_append_getElem hkl', ← List.append_assoc, List.foldl_append]; rfl
          have cp := ref_Put07 w.heap.size u3 _ t wr hown hbw.size (by have := HFL.out k; omega)
          rw [ht2, ← hs] at cp
          have CP := Lib.hid cp
          clear ht1 ht2 hs cp hown hkl'
          go_wp2_with (go_at_call 30; refine (CP.out).mono ?_; rintro e w5 ⟨v5, rfl, ho5, hb5⟩)
          go_roundw
          case rel => exact ⟨k + 1, by rw [← HM.out]; omega, by go_num, ho5, hbw.trans (hb5.mono hbw.size)⟩
          case measure => simp [intOf]; omega
        · have hkm : k = m := by omega
          have HNEXT : Hid (OwnNm w.heap.size wr u3 ((ls.take (i + 1)).flatten.foldl putN [])) := Lib.hid (by
            rw [HF.out]
            have e : x.take k = x := List.take_of_length_le (by rw [← HM.out]; omega)
            rw [e] at hown
            exact hown)
          clear hown hkm hk
          go_wp2
          go_roundw
          case rel => exact ⟨i + 1, by omega, by go_num, HNEXT.out, hbw⟩
          case measure => simp [intOf]; omega
    · have HFIN : Hid (GaveNm (joinN ls) w (.returned u3) wr) := Lib.hid ⟨_, rfl, by
        rw [List.take_of_length_le (by omega)] at hown
        exact hown, hbw⟩
      clear hown hbw
      go_wp2
      go_ret
      exact HFIN.out
end Go.Proofs.Ytebdnjfohahpgaa
