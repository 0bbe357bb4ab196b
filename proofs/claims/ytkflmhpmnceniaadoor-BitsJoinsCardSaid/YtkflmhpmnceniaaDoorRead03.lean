/- What is asked of a set: may, Has, Size, Count, Next, Rank; nothing that was there turns. -/
import Derived.Test.YtkflmhpmnceniaaDoorSet03
import Derived.Test.YtkflmhpmnceniaaDoorRank03
set_option linter.unusedVariables false
namespace Go.Proofs.YtkflmhpmnceniaaDoor
open Go Go.RowKit
open Plain (Wd WS Rep posW keptW getW hasB mayB ones nextB rankB countW pop fromW)

/-- A set in memory, and the truths that it is. -/
def SetIs (w : World) (base B : Nat) (r : List Bool) : Prop := ∃ ws, SetAt w base B r.length ws ∧ Rep r ws
theorem SetIs.below {w w' : World} {base B : Nat} {r : List Bool} (h : SetIs w base B r) (hb : Below w.heap.size w w') : SetIs w' base B r := by
  obtain ⟨ws, h1, h2⟩ := h
  exact ⟨ws, h1.below hb, h2⟩
theorem SetIs.low {w : World} {base base' B : Nat} {r : List Bool} (h : SetIs w base B r) (hb : base' ≤ base) : SetIs w base' B r := by
  obtain ⟨ws, h1, h2⟩ := h
  exact ⟨ws, h1.low hb, h2⟩
theorem SetIs.lt {w : World} {base B : Nat} {r : List Bool} (h : SetIs w base B r) : B < w.heap.size := by
  obtain ⟨ws, h1, h2⟩ := h
  exact h1.lt

set_option maxHeartbeats 1000000 in
theorem set_may (base B n : Nat) (ws : List Wd) (i : Int) (w : World) (h : SetAt w base B n ws) (hn : n ≤ big) :
    Calls Tryd.prog 43 #[.pointer (some ⟨B, 0, none⟩), .int .i64 i] w fun e w' => e = .returned (.bool (mayB n i)) ∧ w = w' := by
  obtain ⟨A, c, c0, c1, hc, hr⟩ := h.read
  clear hr h hc c1
  unfold big at hn
  by_cases hi : 0 ≤ i
  · go_enter Tryd.func43, Tryd.ntmps43
    go_wp2
    go_ret
    exact ⟨ret_bool (by unfold mayB; simp [hi]), rfl⟩
  · go_enter Tryd.func43, Tryd.ntmps43
    go_wp2
    go_ret
    exact ⟨ret_bool (by unfold mayB; simp; omega), rfl⟩

theorem set_Size (base B n : Nat) (ws : List Wd) (w : World) (h : SetAt w base B n ws) :
    Calls Tryd.prog 24 #[.pointer (some ⟨B, 0, none⟩)] w fun e w' => e = .returned (.int .i64 n) ∧ w = w' := by
  obtain ⟨A, c, c0, c1, hc, hr⟩ := h.read
  clear hr h hc c1
  go_enter Tryd.func24, Tryd.ntmps24
  go_wp2
  go_ret
  exact ⟨rfl, rfl⟩

def CountRel (ws : List Wd) (s t : Value) : Prop := ∃ k : Nat, k ≤ ws.length ∧ t = .int .i64 k ∧ s = .int .i64 (countW (ws.take k) : Nat)
set_option maxHeartbeats 1000000 in
set_option maxRecDepth 100000 in
theorem bits_count (A : Option Addr) (n c : Nat) (ws : List Wd) (w : World) (hn : ws.length = n) (hr : Row w w.heap.size A (wcells ws)) (hl : ws.length ≤ 33554432) (hf : ∀ p ∈ ws, p.2 < 18446744073709551616) :
    Calls Tryd.prog 41 #[.slice A n c] w fun e w' => e = .returned (.int .i64 (countW ws : Nat)) ∧ w = w' := by
  subst hn
  have HR := Lib.hid hr
  have HF := Lib.hid hf
  clear hr hf
  go_enter Tryd.func41, Tryd.ntmps41
  go_wp2
  go_loop [3, 7] (CountRel ws) (fun _ k => ws.length - (intOf k).toNat)
  case atStart => exact ⟨0, Nat.zero_le _, rfl, rfl⟩
  case round =>
    obtain ⟨k, hk, rfl, rfl⟩ := hrel
    by_cases hlt : k < ws.length
    · obtain ⟨b1, o1, e1, hb1, hc1, hc2⟩ := row_word HR.out hlt
      subst e1
      have hs := Plain.countW_take hlt
      have hle := Plain.countW_le (ws.take k)
      rw [List.length_take, Nat.min_eq_left hk] at hle
      have hp := Plain.pop_le (ws[k]'hlt).2
      have hfit := HF.out _ (List.getElem_mem hlt)
      obtain ⟨p, hpp⟩ : ∃ p, p = ws[k]'hlt := ⟨_, rfl⟩
      rw [← hpp] at hc1 hc2 hs hp hfit
      clear hpp
      have HS := Lib.hid hs
      clear hs
      obtain ⟨s, hse⟩ : ∃ s, s = countW (ws.take k) := ⟨_, rfl⟩
      rw [← hse] at hle HS ⊢
      have HE := Lib.hid hse
      clear hse
      have HO := Lib.hid (bits_OnesCount64 p.2 w hfit)
      obtain ⟨q, hq⟩ : ∃ q, q = pop p.2 := ⟨_, rfl⟩
      rw [← hq] at HO HS hp
      clear hq
      go_wp2_with (go_at_call 47; refine HO.out.mono ?_; rintro e w' ⟨rfl, rfl⟩)
      go_round
      case rel => exact ⟨k + 1, by omega, by go_num, by rw [HS.out]; go_num⟩
      case measure => simp [intOf]; omega
    · obtain rfl : k = ws.length := by omega
      go_wp2
      go_ret
      exact ⟨by first | rfl | (rw [List.take_length]; rfl), rfl⟩

set_option maxHeartbeats 1000000 in
theorem set_Count (base B n : Nat) (ws : List Wd) (w : World) (h : SetAt w base B n ws) (hw : WS n ws) (hn : n ≤ big) :
    Calls Tryd.prog 23 #[.pointer (some ⟨B, 0, none⟩)] w fun e w' => e = .returned (.int .i64 (countW ws : Nat)) ∧ w = w' := by
  obtain ⟨A, c, c0, c1, hc, hr⟩ := h.read
  have hl := (len_big hw hn).1
  have HC := Lib.hid (bits_count A ws.length c ws w rfl hr (by omega) hw.fits)
  clear hr h hc hw
  go_enter Tryd.func23, Tryd.ntmps23
  go_wp2_with (go_at_call 41; refine HC.out.mono ?_; rintro e w' ⟨rfl, rfl⟩)
  go_ret
  exact ⟨rfl, rfl⟩

/-- What a question that is answered by a bool gives. -/
def GaveB (b : Bool) (w : World) (e : Ending) (w' : World) : Prop := e = .returned (.bool b) ∧ Below w.heap.size w w'
def GaveI (n : Int) (w : World) (e : Ending) (w' : World) : Prop := e = .returned (.int .i64 n) ∧ Below w.heap.size w w'

set_option maxHeartbeats 1000000 in
set_option maxRecDepth 100000 in
theorem set_Has (base B : Nat) (r : List Bool) (i : Int) (w : World) (h : SetIs w base B r) (hn : r.length ≤ big) (hi63 : i < 9223372036854775808) (hi0 : -9223372036854775808 ≤ i) :
    Calls Tryd.prog 31 #[.pointer (some ⟨B, 0, none⟩), .int .i64 i] w (GaveB (hasB r i) w) := by
  obtain ⟨ws, hs, hrep⟩ := h
  have HM := Lib.hid (set_may base B r.length ws i w hs hn)
  cases hm : mayB r.length i
  · have hh : hasB r i = false := by
      unfold mayB at hm
      unfold hasB
      by_cases h0 : 0 ≤ i
      · simp only [h0, decide_true, Bool.true_and, decide_eq_false_iff_not] at hm
        rw [List.getD_eq_getElem?_getD, List.getElem?_eq_none (by omega)]
        simp
      · simp [h0]
    rw [hh]
    rw [hm] at HM
    clear hm hh hrep hs
    go_enter Tryd.func31, Tryd.ntmps31
    go_wp2_with (go_at_call 43; refine HM.out.mono ?_; rintro e w' ⟨rfl, rfl⟩)
    go_ret
    exact ⟨rfl, Below.refl _ _⟩
  · unfold mayB at hm
    simp only [Bool.and_eq_true, decide_eq_true_eq] at hm
    obtain ⟨m, rfl⟩ : ∃ m : Nat, i = (m : Int) := ⟨i.toNat, by omega⟩
    have hmn : m < r.length := by omega
    have hh : hasB r (m : Int) = (getW ws (m / 64)).testBit (m % 64) := by
      unfold hasB
      have := hrep.mem m
      unfold Plain.memW at this
      rw [← this]
      simp
    rw [hh, ← Plain.and_pow]
    have hmay : mayB r.length (m : Int) = true := by unfold mayB; simp; omega
    rw [hmay] at HM
    have HW := Lib.hid (set_word base B r.length ws (m / 64) w hs hrep.wds hn (by omega))
    have HB := Lib.hid (fun w => bits_bit m w (by omega))
    have hgf := Plain.getW_fits hrep.wds (m / 64)
    have hpf := Plain.bit_fits (Nat.mod_lt m (show 0 < 64 by decide))
    obtain ⟨q, hq⟩ : ∃ q, q = m / 64 := ⟨_, rfl⟩
    have hq2 : (m : Int) / 64 = (q : Int) := by omega
    rw [← hq] at HW hgf ⊢
    obtain ⟨x, hx⟩ : ∃ x, x = getW ws q := ⟨_, rfl⟩
    rw [← hx] at HW hgf ⊢
    obtain ⟨y, hy⟩ : ∃ y, y = 2 ^ (m % 64) := ⟨_, rfl⟩
    rw [← hy] at HB hpf ⊢
    have hand := bits_and_u64_nat x y hgf hpf
    obtain ⟨z, hz⟩ : ∃ z, z = x &&& y := ⟨_, rfl⟩
    rw [← hz] at hand ⊢
    clear hz hy hx hq hmay hh hm hs hrep
    go_enter Tryd.func31, Tryd.ntmps31
    go_wp2_with (first
      | (go_at_call 43; refine HM.out.mono ?_; rintro e w' ⟨rfl, rfl⟩)
      | (go_at_call 37; refine HW.out.mono ?_; rintro e w' ⟨rfl, hbb⟩)
      | (go_at_call 46; refine (HB.out _).mono ?_; rintro e w' ⟨rfl, rfl⟩))
    go_ret
    refine ⟨ret_bool ?_, hbb⟩
    rw [Bool.eq_iff_iff]
    simp
    try omega

theorem set_Count_is (base B : Nat) (r : List Bool) (w : World) (h : SetIs w base B r) (hn : r.length ≤ big) :
    Calls Tryd.prog 23 #[.pointer (some ⟨B, 0, none⟩)] w fun e w' => e = .returned (.int .i64 ((ones r).length : Nat)) ∧ w = w' := by
  obtain ⟨ws, hs, hrep⟩ := h
  rw [← hrep.count]
  exact set_Count base B r.length ws w hs hrep.wds hn
theorem set_Size_is (base B : Nat) (r : List Bool) (w : World) (h : SetIs w base B r) :
    Calls Tryd.prog 24 #[.pointer (some ⟨B, 0, none⟩)] w fun e w' => e = .returned (.int .i64 (r.length : Nat)) ∧ w = w' := by
  obtain ⟨ws, hs, hrep⟩ := h
  exact set_Size base B r.length ws w hs

set_option maxHeartbeats 2000000 in
set_option maxRecDepth 100000 in
theorem set_Rank (base B : Nat) (r : List Bool) (i : Int) (w : World) (h : SetIs w base B r) (hn : r.length ≤ big) (hi63 : i < 9223372036854775808) (hi0 : -9223372036854775808 ≤ i) :
    Calls Tryd.prog 30 #[.pointer (some ⟨B, 0, none⟩), .int .i64 i] w (GaveI (rankB r i : Nat) w) := by
  obtain ⟨m, hm, hmr⟩ : ∃ m : Nat, (if i ≤ 0 then m = 0 else i = (m : Int)) ∧ rankB r i = rankB r (m : Int) := by
    by_cases h0 : i ≤ 0
    · exact ⟨0, by simp [h0], Plain.rankB_neg r i h0⟩
    · exact ⟨i.toNat, by rw [if_neg h0]; omega, by rw [Int.toNat_of_nonneg (by omega)]⟩
  have hm63 : (m : Int) < 9223372036854775808 := by split at hm <;> omega
  have hmax : max i 0 = (m : Int) := by split at hm <;> omega
  rw [hmr]
  obtain ⟨ws, hs, hrep⟩ := h
  have hl := (len_big hrep.wds hn).1
  rw [← hrep.rank m]
  have HF := Lib.hid (fun w h => set_find base B r.length ws (m / 64) w h hrep.wds hn (by omega))
  have HW := Lib.hid (fun w h => set_word base B r.length ws (m / 64) w h hrep.wds hn (by omega))
  have HB := Lib.hid (fun w => bits_below m w (by omega))
  have hgf := Plain.getW_fits hrep.wds (m / 64)
  have hpf := Plain.bit_fits (Nat.mod_lt m (show 0 < 64 by decide))
  have hpl := Plain.posW_le ws (m / 64)
  have HREP := Lib.hid hrep
  have HS := Lib.hid hs
  obtain ⟨q, hq⟩ : ∃ q, q = m / 64 := ⟨_, rfl⟩
  have hq2 : (m : Int) / 64 = (q : Int) := by omega
  have hqb : q ≤ 144115188075855872 := by omega
  rw [← hq] at HW HF hgf hpl ⊢
  have ht := Plain.countW_le (ws.take (posW ws q))
  have hpp := Plain.pop_le (getW ws q &&& (2 ^ (m % 64) - 1))
  have HC := Lib.hid (fun w A c hr => bits_count A (posW ws q) c (ws.take (posW ws q)) w (by rw [List.length_take]; omega) hr (by rw [List.length_take]; omega) (fun p hp => hrep.wds.fits p (List.mem_of_mem_take hp)))
  obtain ⟨k, hk⟩ : ∃ k, k = posW ws q := ⟨_, rfl⟩
  obtain ⟨x, hx⟩ : ∃ x, x = getW ws q := ⟨_, rfl⟩
  rw [← hx] at HW hgf hpp ⊢
  obtain ⟨y, hy⟩ : ∃ y, y = 2 ^ (m % 64) - 1 := ⟨_, rfl⟩
  rw [← hy] at HB hpp ⊢
  have hyf : y < 18446744073709551616 := by omega
  have hand := bits_and_u64_nat x y hgf hyf
  have hzf : x &&& y < 18446744073709551616 := Nat.and_lt_two_pow (n := 64) x hyf
  obtain ⟨z, hz⟩ : ∃ z, z = x &&& y := ⟨_, rfl⟩
  rw [← hz] at hand hpp hzf ⊢
  have HO := Lib.hid (fun w => bits_OnesCount64 z w hzf)
  obtain ⟨pz, hpz⟩ : ∃ pz, pz = pop z := ⟨_, rfl⟩
  rw [← hpz] at HO hpp ⊢
  have hkl : k ≤ ws.length := by omega
  have KEEP : Hid (∀ w w1 : World, ∀ A : Option Addr, True) := Lib.hid (fun _ _ _ => trivial)
  rw [← hk] at HC ht ⊢
  obtain ⟨t, hte⟩ : ∃ t, t = countW (ws.take k) := ⟨_, rfl⟩
  rw [← hte] at HC ht ⊢
  rw [List.length_take, Nat.min_eq_left hkl] at ht
  have HTE := Lib.hid hte
  have HK := Lib.hid hk
  have hmx : ∀ (w : World) (ts : Array TypeId) (t : TypeId), (Builtin.max_ ts t #[.int .i64 i, .int .i64 0]).run Tryd.prog w = .ok (.int .i64 (m : Int)) w := fun w ts t => by rw [run_max_int2]; congr 2; split <;> omega
  have HI1 := Lib.hid hi63
  have HI2 := Lib.hid hi0
  have HI3 := Lib.hid hm63
  clear KEEP hte hpz hz hy hx hk hpf hgf hyf hzf hq hmr hm hrep hs hmax hi63 hi0 hm63
  go_enter Tryd.func30, Tryd.ntmps30
  go_wp2_with (go_at_call 44; (with_reducible refine (HF.out _ HS.out).mono ?_))
  rintro e w1 ⟨rfl, hb1⟩
  rw [← HK.out]
  have HS1 := Lib.hid (HS.out.below hb1)
  have HB1 := Lib.hid hb1
  clear hb1
  obtain ⟨c0, ⟨h0, c1⟩ | ⟨g, c, c1, hc, hcm, hr⟩⟩ := HS1.out.read2
  · have hk0 : k = 0 := by rw [h0] at hkl; simpa using hkl
    subst hk0
    have HR : Hid (Row w1 w1.heap.size none (wcells (ws.take 0))) := by rw [List.take_zero]; exact Row.nil
    clear h0 c0
    go_wp2_with (first
      | (go_at_call 41; (with_reducible refine (HC.out _ _ _ HR.out).mono ?_); rintro e w' ⟨rfl, rfl⟩)
      | (go_at_call 37; (with_reducible refine (HW.out _ HS1.out).mono ?_); rintro e w' ⟨rfl, hb2⟩)
      | (go_at_call 38; (with_reducible refine (HB.out _).mono ?_); rintro e w' ⟨rfl, rfl⟩)
      | (go_at_call 47; (with_reducible refine (HO.out _).mono ?_); rintro e w' ⟨rfl, rfl⟩))
    go_ret
    exact ⟨ret_int (by go_num), HB1.out.trans (hb2.mono HB1.out.size)⟩
  · have HR := Lib.hid (show Row w1 w1.heap.size (some ⟨g, 0, none⟩) (wcells (ws.take k)) by rw [wcells_take]; exact hr.cut _)
    clear hr c0
    unfold maxLen at hcm
    go_wp2_with (first
      | (go_at_call 41; (with_reducible refine (HC.out _ _ _ HR.out).mono ?_); rintro e w' ⟨rfl, rfl⟩)
      | (go_at_call 37; (with_reducible refine (HW.out _ HS1.out).mono ?_); rintro e w' ⟨rfl, hb2⟩)
      | (go_at_call 38; (with_reducible refine (HB.out _).mono ?_); rintro e w' ⟨rfl, rfl⟩)
      | (go_at_call 47; (with_reducible refine (HO.out _).mono ?_); rintro e w' ⟨rfl, rfl⟩))
    go_ret
    exact ⟨ret_int (by go_num), HB1.out.trans (hb2.mono HB1.out.size)⟩

/-! ### The next one -/

theorem Tab.drewN {w : World} (h : Tab w) (n : Nat) : Tab (w.drewN n) := fun j hj => h j hj
theorem Tab.alloc {w : World} (h : Tab w) (o : Obj) : Tab (w.alloc o) := h.below ((Below.refl _ _).alloc (Nat.le_refl _) _) h.lt

set_option maxHeartbeats 1000000 in
set_option maxRecDepth 100000 in
theorem least_any (a y : Nat) (w : World) (ha : a ≤ 33554432) (hy : y < 18446744073709551616) (h0 : y ≠ 0) (hT : Tab w) :
    Calls Tryd.prog 40 #[.agg #[.int .i64 a, .int .u64 y]] w (GaveI ((a * 64 + Lib.ctz 64 y : Nat) : Int) w) := by
  have hk := (Plain.ctz_bit hy h0).choose_spec.2
  have HT := Lib.hid (fun w hT => (bits_TrailingZeros64 y hy h0 w hT).mono fun _ _ h => And.intro h.1 h.2.symm)
  have HTB := Lib.hid (hT.alloc (.cells #[.int .i64 a, .int .u64 y] 59))
  obtain ⟨z, hz⟩ : ∃ z, z = Lib.ctz 64 y := ⟨_, rfl⟩
  rw [← hz] at HT hk ⊢
  have e0 : ((a * 64 + z : Nat) : Int) = (a : Int) * 64 + (z : Int) := by omega
  rw [e0]
  clear hz hT e0 hy
  have e1 : IntKind.i64.wrap ((a : Int) * 64) = (a : Int) * 64 := by rw [IntKind.wrap_i64]; omega
  have e2 : IntKind.i64.wrap ((a : Int) * 64 + (z : Int)) = (a : Int) * 64 + (z : Int) := by rw [IntKind.wrap_i64]; omega
  go_enter Tryd.func40, Tryd.ntmps40
  go_wp2
  go_quiet ((go_at_call 48; exact Calls.quiet_of_same (HT.out _ (HTB.out.drewN _))))
  go_wp2
  go_ret
  exact ⟨rfl, ((Below.refl _ _).alloc (Nat.le_refl _) _).trans ⟨rfl, rfl, rfl, Nat.le_refl _, fun _ _ => rfl⟩⟩
end Go.Proofs.YtkflmhpmnceniaaDoor
