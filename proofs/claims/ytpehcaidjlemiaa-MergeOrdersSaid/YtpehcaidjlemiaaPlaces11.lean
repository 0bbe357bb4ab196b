/- What merge.Places answers. -/
import Derived.Test.YtpehcaidjlemiaaMulB11
import Derived.Test.YtpehcaidjlemiaaOrdOk11
set_option linter.unusedVariables false
namespace Go.Proofs.Ytpehcaidjlemiaa
open Go Go.RowKit

theorem placesO_at {o : List Pl} {i : Int} {n j : Nat} (hj : j < n) : (placesO o i n)[j]? = some (placeO o 0 i (j : Int)) := by
  unfold placesO
  rw [List.getElem?_map, List.getElem?_range hj]
  rfl
theorem placesO_length (o : List Pl) (i : Int) (n : Nat) : (placesO o i n).length = n := by simp [placesO]
theorem placesO_nil (i : Int) (n : Nat) : placesO [] i n = List.replicate n (-1) := by
  refine List.ext_getElem? fun j => ?_
  by_cases hj : j < n
  · rw [placesO_at hj, List.getElem?_replicate, if_pos hj]; rfl
  · rw [List.getElem?_eq_none (by rw [placesO_length]; omega), List.getElem?_eq_none (by simp; omega)]
theorem placesO_take {o : List Pl} (ho : o.Nodup) {k : Nat} (hk : k < o.length) (i : Int) (n : Nat) :
    placesO (o.take (k + 1)) i n = if (o[k].1 : Int) = i ∧ o[k].2 < n then (placesO (o.take k) i n).set o[k].2 (k : Int) else placesO (o.take k) i n := by
  refine List.ext_getElem? fun j => ?_
  by_cases hj : j < n
  · rw [placesO_at hj, placeO_take ho hk]
    by_cases hc : (o[k].1 : Int) = i ∧ o[k].2 < n
    · rw [if_pos hc]
      by_cases hjk : o[k].2 = j
      · rw [if_pos ⟨hc.1, by omega⟩, List.getElem?_set, if_pos hjk, if_pos (by rw [placesO_length]; omega)]
      · rw [if_neg (fun h => hjk (by have := h.2; omega)), List.getElem?_set, if_neg hjk, placesO_at hj]
    · rw [if_neg hc, if_neg (fun h => hc ⟨h.1, by have := h.2; omega⟩), placesO_at hj]
  · rw [List.getElem?_eq_none (by rw [placesO_length]; omega)]
    split
    · rw [List.getElem?_eq_none (by rw [List.length_set, placesO_length]; omega)]
    · rw [List.getElem?_eq_none (by rw [placesO_length]; omega)]
def PlcRel (o : List Pl) (i : Int) (n : Nat) (w : World) (v idx : Value) (wr : World) : Prop := ∃ k : Nat, k ≤ o.length ∧ idx = .int .i64 (k : Int) ∧ wr.ownsRow w.heap.size 3 1 v n (ints (placesO (o.take k) i n)) ∧ Below w.heap.size w wr
set_option maxHeartbeats 2000000 in
set_option maxRecDepth 100000 in
theorem merge_Places (A : Option Addr) (m c n : Nat) (o : List Pl) (i : Int) (w : World) (hr : Row w w.heap.size A (plc o)) (hm : o.length = m) (hmx : m ≤ 1000000) (ho : o.Nodup) (hn : n ≤ 1000) :
    Calls Try.prog 7 #[.slice A m c, .int .i64 i, .int .i64 (n : Int)] w (GavePlc o i n w) := by
  have HR := Lib.hid hr
  have HO := Lib.hid ho
  have HM := Lib.hid hm
  have e0 : max (n : Int) 0 = (n : Int) := by omega
  obtain ⟨w1, hw1⟩ : ∃ w1, w1 = w.alloc (.cells #[.int .i64 (-1)] 3) := ⟨_, rfl⟩
  have hb1 : Below w.heap.size w w1 := by rw [hw1]; exact (Below.refl _ w).alloc (Nat.le_refl _) _
  have hc1 : w1.cell? ⟨w.heap.size, 0, none⟩ = some (.int .i64 (-1)) := by
    rw [hw1]
    exact cell_of_one (heap_alloc_new w _)
  have hs1 : w.heap.size < w1.heap.size := by rw [hw1]; simp
  have C1 := Lib.hid (slices_Repeat_one none (some ⟨w.heap.size, 0, none⟩) w.heap.size n w1 rfl hs1 hc1 (by omega))
  have HB1 := Lib.hid hb1
  have HW1 := Lib.hid hw1
  clear hr ho hm hb1 hc1 hs1 hw1
  go_enter Try.func7, Try.ntmps7
  go_wp2_with (go_at_call 18; rw [← HW1.out]; refine (C1.out).mono ?_; rintro e w2 ⟨⟨v, rfl, hown⟩, hb2⟩)
  have hst : PlcRel o i n w v (.int .i64 0) w2 := ⟨0, Nat.zero_le _, rfl, by rw [List.take_zero, placesO_nil]; exact owned_low hown (HB1.out).size, (HB1.out).trans (hb2.mono (HB1.out).size)⟩
  have HST := Lib.hid hst
  clear hst hown hb2 C1
  go_loopw [8, 9, 16] (fun u8 u9 idx wr => PlcRel o i n w v idx wr) (fun _ _ idx _ => m - (intOf idx).toNat)
  case atStart => exact HST.out
  case round =>
    clear HST
    obtain ⟨k, hk, rfl, hown, hbw⟩ := hrel
    rw [HM.out] at hk
    by_cases hkm : k < m
    · have hko : k < o.length := by rw [HM.out]; exact hkm
      obtain ⟨b, off, rfl, hb, q1, q2⟩ := row_plc ((HR.out).below hbw) hko
      have htk := placesO_take (HO.out) hko i n
      obtain ⟨x, hx⟩ : ∃ x, x = o[k].1 := ⟨_, rfl⟩
      obtain ⟨y, hy⟩ : ∃ y, y = o[k].2 := ⟨_, rfl⟩
      rw [← hx] at q1 htk
      rw [← hy] at q2 htk
      have hi1 : (k : Int) < (m : Int) := by omega
      have d2 : decide ((0 : Int) ≤ (y : Int)) = true := decide_eq_true (by omega)
      by_cases hxi : (x : Int) = i
      · by_cases hyn : y < n
        · rw [if_pos ⟨hxi, hyn⟩] at htk
          rcases hown.2 with ⟨_, h0⟩ | ⟨g, cap, cur, rfl, hg, hh, hnc, hcap, hcs, htake⟩
          · have := hown.1
            rw [h0] at this
            simp [ints, placesO] at this
            omega
          · have hset := (hown.stored y (.int .i64 (k : Int))).1
            have hfree := hown.frozenAt y
            have hcell := hown.cellAt y (by omega)
            rw [show (ints (placesO (o.take k) i n))[y]? = some (.int .i64 (placeO (o.take k) 0 i (y : Int))) by rw [ints, List.getElem?_map, placesO_at hyn]; rfl] at hcell
            have hval : (ints (placesO (o.take k) i n)).set y (.int .i64 (k : Int)) = ints (placesO (o.take (k + 1)) i n) := by rw [htk, ints, ints, List.map_set]
            rw [hval] at hset
            have hfin : ∀ z, PlcRel o i n w (.slice (some ⟨g, 0, none⟩) n cap) (.int .i64 ((k : Int) + 1)) ((wr.setCell ⟨g, y, none⟩ (.int .i64 (k : Int))).alloc z) := fun z => ⟨k + 1, hko, rfl, hset.alloc z, (hbw.setCell hg _).alloc (by simp [World.setCell]; exact hbw.size) z⟩
            have HFIN := Lib.hid hfin
            obtain ⟨u, hu⟩ : ∃ u, u = placeO (o.take k) 0 i (y : Int) := ⟨_, rfl⟩
            rw [← hu] at hcell
            have hgs := (Array.getElem?_eq_some_iff.1 hh).1
            have hcA : ∀ z, (wr.alloc z).cell? ⟨g, y, none⟩ = some (.int .i64 u) := fun z => (((Below.refl wr.heap.size wr).alloc (Nat.le_refl _) z).cell (p := ⟨g, y, none⟩) hgs).trans hcell
            have hfA : ∀ z, (wr.alloc z).frozen? ⟨g, y, none⟩ = false := fun z => (((Below.refl wr.heap.size wr).alloc (Nat.le_refl _) z).frozen (p := ⟨g, y, none⟩) hgs).trans hfree
            have d3 : decide ((y : Int) < (n : Int)) = true := decide_eq_true (by omega)
            have d1 : ((x : Int) == i) = true := by rw [hxi]; exact beq_self_eq_true _
            have hyn2 : (y : Int) < (n : Int) := by omega
            unfold maxLen at hcap
            clear hown hh hset hval hfin htk hx hy hu hxi htake hcs hbw hb
            go_wp2
            go_roundw
            case rel => exact HFIN.out _
            case measure => simp [intOf]; omega
        · rw [if_neg (fun h => hyn h.2)] at htk
          have HFIN := Lib.hid (show ∀ z, PlcRel o i n w v (.int .i64 ((k : Int) + 1)) (wr.alloc z) from fun z => ⟨k + 1, hko, rfl, by rw [htk]; exact hown.alloc z, hbw.alloc hbw.size z⟩)
          have d3 : decide (y < n) = false := decide_eq_false hyn
          have d1 : ((x : Int) == i) = true := by rw [hxi]; exact beq_self_eq_true _
          clear hown htk hx hy hxi hbw hyn
          go_wp2
          go_roundw
          case rel => exact HFIN.out _
          case measure => simp [intOf]; omega
      · rw [if_neg (fun h => hxi h.1)] at htk
        have HFIN := Lib.hid (show ∀ z, PlcRel o i n w v (.int .i64 ((k : Int) + 1)) (wr.alloc z) from fun z => ⟨k + 1, hko, rfl, by rw [htk]; exact hown.alloc z, hbw.alloc hbw.size z⟩)
        have d1 : ((x : Int) == i) = false := beq_eq_false_iff_ne.2 hxi
        clear hown htk hx hy hxi hbw
        go_wp2
        go_roundw
        case rel => exact HFIN.out _
        case measure => simp [intOf]; omega
    · have hkm2 : k = o.length := by have := HM.out; omega
      subst hkm2
      rw [List.take_length] at hown
      have HFIN := Lib.hid (show GavePlc o i n w (.returned v) wr from ⟨v, rfl, hown, hbw⟩)
      clear hown hbw
      go_wp2
      go_ret
      exact HFIN.out
end Go.Proofs.Ytpehcaidjlemiaa
