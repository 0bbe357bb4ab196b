/- Not: what is in none. -/
import Derived.Test.YtkflmhpmnceniaaDoorFull03
import Derived.Test.YtkflmhpmnceniaaDoorJoin03
set_option linter.unusedVariables false
namespace Go.Proofs.YtkflmhpmnceniaaDoor
open Go Go.RowKit
open Plain (Wd WS Rep getW notB)

namespace Plain
def mW (n : Nat) : Nat := n / 64 + if 0 < n % 64 then 1 else 0
def fullBits (n j : Nat) : Nat := if j < n / 64 then allW else 2 ^ (n % 64) - 1
/-- A full set's words without those bits that words have. -/
def notW (n : Nat) (us : List Wd) : List Wd := (List.range (mW n)).map fun j => (j, andn (fullBits n j) (getW us j))
theorem notW_length (n : Nat) (us : List Wd) : (notW n us).length = mW n := by simp [notW]
theorem andn_zero (x : Nat) : andn x 0 = x := by simp [andn]
theorem notW_nil (n : Nat) : notW n [] = fullW n := by
  have h0 : ∀ j, getW [] j = 0 := fun j => rfl
  unfold notW fullW fullK mW
  simp only [h0, andn_zero]
  split
  · rw [List.range_succ, List.map_append]
    congr 1
    · apply List.map_congr_left
      intro j hj
      rw [List.mem_range] at hj
      unfold fullBits
      rw [if_pos hj]
    · simp [fullBits]
  · rw [Nat.add_zero, List.append_nil]
    apply List.map_congr_left
    intro j hj
    rw [List.mem_range] at hj
    unfold fullBits
    rw [if_pos hj]
theorem getW_append (xs ys : List Wd) (j : Nat) : getW (xs ++ ys) j = match xs.find? (fun p => p.1 == j) with | some p => p.2 | none => getW ys j := by
  unfold getW
  rw [List.find?_append]
  cases xs.find? (fun p => p.1 == j) <;> rfl
theorem take_lt {ws : List Wd} (h : ws.Pairwise fun p q => p.1 < q.1) {k : Nat} (hk : k < ws.length) : ∀ p ∈ ws.take k, p.1 < (ws[k]'hk).1 := by
  intro p hp
  obtain ⟨i, hi, rfl⟩ := List.getElem_of_mem hp
  rw [List.length_take] at hi
  rw [List.getElem_take]
  exact List.pairwise_iff_getElem.1 h i k (by omega) hk (by omega)
theorem getW_take {ws : List Wd} (h : ws.Pairwise fun p q => p.1 < q.1) {k : Nat} (hk : k < ws.length) (j : Nat) : getW (ws.take (k + 1)) j = if j = (ws[k]'hk).1 then (ws[k]'hk).2 else getW (ws.take k) j := by
  rw [List.take_succ_eq_append_getElem hk, getW_append]
  by_cases e : j = (ws[k]'hk).1
  · rw [if_pos e]
    have hn : (ws.take k).find? (fun p => p.1 == j) = none := by
      rw [List.find?_eq_none]
      intro p hp
      have := take_lt h hk p hp
      simp
      omega
    rw [hn]
    unfold getW
    simp [e]
  · rw [if_neg e]
    have h0 : getW [ws[k]'hk] j = 0 := getW_none (fun p hp => by rw [List.mem_singleton] at hp; rw [hp]; exact fun e' => e e'.symm)
    rw [h0]
    rfl
theorem getW_take_at {ws : List Wd} (h : ws.Pairwise fun p q => p.1 < q.1) {k : Nat} (hk : k < ws.length) : getW (ws.take k) (ws[k]'hk).1 = 0 :=
  getW_none fun p hp => by have := take_lt h hk p hp; omega
theorem notW_at {n : Nat} {ws : List Wd} (h : ws.Pairwise fun p q => p.1 < q.1) {k : Nat} (hk : k < ws.length) (ha : (ws[k]'hk).1 < mW n) : (notW n (ws.take k))[(ws[k]'hk).1]? = some ((ws[k]'hk).1, fullBits n (ws[k]'hk).1) := by
  unfold notW
  rw [List.getElem?_map, List.getElem?_range ha]
  simp [getW_take_at h hk, andn_zero]
theorem notW_step {n : Nat} {ws : List Wd} (h : ws.Pairwise fun p q => p.1 < q.1) {k : Nat} (hk : k < ws.length) :
    notW n (ws.take (k + 1)) = (notW n (ws.take k)).set (ws[k]'hk).1 ((ws[k]'hk).1, andn (fullBits n (ws[k]'hk).1) (ws[k]'hk).2) := by
  apply List.ext_getElem
  · simp [notW]
  · intro i h1 h2
    rw [List.getElem_set]
    by_cases e : (ws[k]'hk).1 = i
    · rw [if_pos e]
      simp only [notW, List.getElem_map, List.getElem_range]
      rw [getW_take h hk, if_pos e.symm, ← e]
    · rw [if_neg e]
      simp only [notW, List.getElem_map, List.getElem_range]
      rw [getW_take h hk, if_neg (fun e' => e e'.symm)]
theorem fullBits_fits (n j : Nat) : fullBits n j < 18446744073709551616 := by
  unfold fullBits
  split
  · decide
  · have := bit_fits (Nat.mod_lt n (show 0 < 64 by decide))
    omega
theorem mW_lt {n j : Nat} (h : j < mW n) : j * 64 < n := by
  unfold mW at h
  split at h <;> omega
theorem fullBits_bit {n j i : Nat} (h : j < mW n) : (fullBits n j).testBit i = (decide (i < 64) && decide (j * 64 + i < n)) := by
  unfold fullBits
  unfold mW at h
  split
  · rw [allW_bit]
    rw [Bool.eq_iff_iff]
    simp
    omega
  · rw [Nat.testBit_two_pow_sub_one]
    rw [Bool.eq_iff_iff]
    simp
    split at h <;> omega
theorem notW_rep {r : List Bool} {ws : List Wd} (h : Rep r ws) : Rep (notB r) (notW r.length ws) := by
  have hmem : ∀ p ∈ notW r.length ws, p.1 < mW r.length ∧ p.2 = andn (fullBits r.length p.1) (getW ws p.1) := by
    intro p hp
    simp only [notW, List.mem_map, List.mem_range] at hp
    obtain ⟨j, hj, rfl⟩ := hp
    exact ⟨hj, rfl⟩
  have hW : WS r.length (notW r.length ws) := by
    refine ⟨?_, fun p hp => ?_, fun p hp => mW_lt (hmem p hp).1, fun p hp i hi => ?_⟩
    · unfold notW
      rw [List.pairwise_map]
      exact List.pairwise_lt_range
    · rw [(hmem p hp).2]
      exact Nat.lt_of_le_of_lt (andn_le _ _) (fullBits_fits _ _)
    · rw [(hmem p hp).2, andn_bit, fullBits_bit (hmem p hp).1] at hi
      simp at hi
      exact hi.1.2
  refine ⟨by rw [notB_length]; exact hW, fun i => ?_⟩
  have hg : (notB r).getD i false = (decide (i < r.length) && !r.getD i false) := by
    by_cases hi : i < r.length
    · simp [notB, hi]
    · simp [notB, hi]
  rw [hg, h.mem i]
  unfold memW
  by_cases hj : i / 64 < mW r.length
  · have := getW_mem hW (p := (i / 64, andn (fullBits r.length (i / 64)) (getW ws (i / 64)))) (List.mem_map.2 ⟨i / 64, List.mem_range.2 hj, rfl⟩)
    simp only at this
    rw [this, andn_bit, fullBits_bit hj]
    have h1 : i % 64 < 64 := Nat.mod_lt _ (by decide)
    have h2 : i / 64 * 64 + i % 64 = i := by omega
    simp [h1, h2]
  · rw [getW_none (ws := notW r.length ws) (fun p hp => by have := (hmem p hp).1; omega), Nat.zero_testBit]
    have : ¬ i < r.length := by
      unfold mW at hj
      split at hj <;> omega
    simp [this]
end Plain

theorem getW_here {n : Nat} {ws : List Wd} (h : WS n ws) {k : Nat} (hk : k < ws.length) : (ws[k]'hk).1 < Plain.mW n := by
  have := h.here _ (List.getElem_mem hk)
  unfold Plain.mW
  split <;> omega

/-- What Not, And and Or give. -/
def NewSet (r : List Bool) (w : World) (e : Ending) (w' : World) : Prop := ∃ C, e = .returned (.pointer (some ⟨C, 0, none⟩)) ∧ SetIs w' w.heap.size C r ∧ Below w.heap.size w w'
def NotRel (n R : Nat) (ws : List Wd) (w : World) (i : Value) (wr : World) : Prop := ∃ k : Nat, k ≤ ws.length ∧ i = .int .i64 k ∧ SetAt wr R R n (Plain.notW n (ws.take k)) ∧ Below R w wr

set_option maxHeartbeats 4000000 in
set_option maxRecDepth 100000 in
theorem set_Not (base B : Nat) (r : List Bool) (w : World) (h : SetIs w base B r) (hn : r.length ≤ big) :
    Calls Tryd.prog 16 #[.pointer (some ⟨B, 0, none⟩)] w (NewSet (notB r) w) := by
  obtain ⟨ws, hs, hrep⟩ := h
  have hw := hrep.wds
  have hl := (len_big hw hn).1
  have hbb := (len_big hw hn).2
  have HREP := Lib.hid (Plain.notW_rep hrep)
  unfold big at hn
  have HFU := Lib.hid (bits_Full (r.length : Int) w (by omega))
  rw [Int.toNat_natCast] at HFU
  have HNL := Lib.hid (Plain.notB_length r)
  obtain ⟨n, hne⟩ : ∃ n, n = r.length := ⟨_, rfl⟩
  rw [← hne] at hs hw hn HFU HREP HNL
  have HS := Lib.hid hs
  have HW := Lib.hid hw
  have HBB := Lib.hid hbb
  have HMN : Hid (Plain.mW n ≤ 16777217) := Lib.hid (by unfold Plain.mW; split <;> omega)
  obtain ⟨A, c, c0, c1, hc, hr⟩ := hs.read
  clear hrep hne hs hw hr hbb
  go_enter Tryd.func16, Tryd.ntmps16
  go_wp2_with (go_at_call 20; (with_reducible refine HFU.out.mono ?_))
  rintro e w1 ⟨rfl, hf, hb1⟩
  rw [← Plain.notW_nil] at hf
  have c11 := (hb1.cell (p := ⟨B, 1, none⟩) HS.out.lt).trans c1
  obtain ⟨R, hR⟩ : ∃ R, R = w.heap.size := ⟨_, rfl⟩
  rw [← hR] at hf hb1
  have HRE := Lib.hid hR
  have hrel0 : NotRel n R ws w (.int .i64 ((0 : Nat) : Int)) w1 := ⟨0, Nat.zero_le _, rfl, hf, hb1⟩
  have HREL0 := Lib.hid hrel0
  clear hrel0 hf hb1 c0 c1
  go_wp2
  rw [← hR]
  clear hR c11 hc
  go_loopw [16] (NotRel n R ws w) (fun i _ => ws.length - (intOf i).toNat)
  case atStart => exact HREL0.out
  case round =>
    obtain ⟨k, hk, rfl, hset, hbw⟩ := hrel
    by_cases hlt : k < ws.length
    · have hbw2 : Below w.heap.size w wr := by have h := hbw; rwa [HRE.out] at h
      obtain ⟨A', c', d0, d1, hc', hr'⟩ := (HS.out.below hbw2).read
      obtain ⟨b1, o1, e1, hb1, hc1, hc2⟩ := row_word hr' hlt
      have hpf := HW.out.fits _ (List.getElem_mem hlt)
      have hat := Plain.notW_at (n := n) HW.out.asc hlt (getW_here HW.out hlt)
      have hst := Plain.notW_step (n := n) HW.out.asc hlt
      have hpa := getW_here HW.out hlt
      have hpb := HBB.out _ (List.getElem_mem hlt)
      obtain ⟨p, hp⟩ : ∃ p, p = ws[k]'hlt := ⟨_, rfl⟩
      rw [← hp] at hc1 hc2 hpf hat hst hpa hpb
      obtain ⟨a, y⟩ := p
      simp only at hc1 hc2 hpf hat hst hpa hpb
      have hkl : (k : Int) < ws.length := by omega
      have HSET := Lib.hid hset
      have HBW := Lib.hid hbw
      have HAT := Lib.hid hat
      have HST := Lib.hid hst
      subst e1
      clear hp hset hbw hat hst hr' hc' d0 hbw2
      go_wp2
      obtain ⟨w2, hw2⟩ : ∃ w2, w2 = wr.alloc (.cells #[.int .i64 a, .int .u64 y] 59) := ⟨_, rfl⟩
      rw [← hw2]
      have hb2 : Below wr.heap.size wr w2 := by rw [hw2]; exact (Below.refl _ _).alloc (Nat.le_refl _) _
      have hz2 := hb2.size
      have hnb := heap_alloc_new wr (.cells #[.int .i64 a, .int .u64 y] 59)
      rw [← hw2] at hnb
      obtain ⟨n0, n1, _, _⟩ := cell_two hnb
      obtain ⟨nb, hnbe⟩ : ∃ nb, nb = wr.heap.size := ⟨_, rfl⟩
      rw [← hnbe] at n0 n1
      have hBW2 : Below R w w2 := HBW.out.trans (hb2.mono (by have := HBW.out.size; have := HRE.out; omega))
      obtain ⟨us, hus⟩ : ∃ us, us = Plain.notW n (ws.take k) := ⟨_, rfl⟩
      have hul : us.length ≤ 16777217 := by rw [hus, Plain.notW_length]; exact HMN.out
      have hua : a < us.length := by rw [hus, Plain.notW_length]; exact hpa
      rw [← hus] at HAT HST HSET
      obtain ⟨hRR, v2, hv2, ho2⟩ := HSET.out.below hb2
      obtain ⟨A2, c2, rfl, hc2', hr2⟩ := owned_row ho2
      obtain ⟨g, o2, e2, _, hx1, hx2⟩ := row_word hr2 hua
      have hxe : us[a]'hua = (a, Plain.fullBits n a) := (List.getElem?_eq_some_iff.1 HAT.out).2
      have hxf := Plain.fullBits_fits n a
      obtain ⟨x, hx⟩ : ∃ x, x = Plain.fullBits n a := ⟨_, rfl⟩
      rw [← hx] at hxe hxf HAT HST
      rw [hxe] at hx1 hx2
      have hgA : o2 = 0 := by
        rcases ho2.2 with ⟨hv', _⟩ | ⟨g', _, _, hv', _⟩
        · rw [e2] at hv'; injection hv' with h1; cases h1
        · rw [e2] at hv'; injection hv' with h1; injection h1 with h1; injection h1
      subst e2
      subst hgA
      have hfz := ho2.frozenAt (a * 2 + 1)
      obtain ⟨_, cR, _, _⟩ := cell_two hv2
      have hand := bits_andNot_u64_nat x y hxf hpf
      obtain ⟨z, hz⟩ : ∃ z, z = Plain.andn x y := ⟨_, rfl⟩
      rw [← hz] at hand HST
      have HWT := Lib.hid (word_turned (y := z) hv2 hRR ho2 HAT.out)
      have hS2 : SetAt w2 R R n us := ⟨hRR, _, hv2, ho2⟩
      have hfin : NotRel n R ws w (.int .i64 ((k + 1 : Nat) : Int)) (w2.setCell ⟨g, a * 2 + 1, none⟩ (.int .u64 z)).drew := ⟨k + 1, by omega, rfl, by rw [HST.out]; exact HWT.out.1.drew, hBW2.trans (Turned.below hS2 HWT.out.2.drew)⟩
      have HFIN := Lib.hid hfin
      have hul2 : (a : Int) < us.length := by omega
      have hx2' : w2.cell? ⟨g, a * 2 + 1, none⟩ = some (.int .u64 x) := by rw [Nat.zero_add] at hx2; exact hx2
      clear hfin hS2 hz hv2 ho2 hr2 hx1 hx2 hxe hx hus hBW2 hb2 hnb hw2 hRR hc2'
      rw [← hnbe]
      clear hnbe
      go_region
      all_goals
        go_wp2
        go_roundw
        case rel => exact HFIN.out
        case measure => simp [intOf]; omega
    · obtain rfl : k = ws.length := by omega
      have HSET := Lib.hid hset
      have HBW := Lib.hid hbw
      clear hset hbw
      go_wp2
      go_ret
      have hfin := HSET.out
      rw [List.take_length] at hfin
      exact ⟨R, rfl, ⟨_, by rw [HNL.out, ← HRE.out]; exact hfin, HREP.out⟩, by rw [← HRE.out]; exact HBW.out⟩
end Go.Proofs.YtkflmhpmnceniaaDoor
