/- DictPrefixes, walked: true for every input. -/
import Derived.Test.YtebdnjfohahpgaaMade07
import Derived.Test.YtebdnjfohahpgaaGood07
import Derived.Test.YtebdnjfohahpgaaArg07
set_option linter.unusedVariables false
namespace Go.Proofs.Ytebdnjfohahpgaa
open Go Go.RowKit

def PrefRelW (n : Nat) (w2 : World) (r i : Value) (wr : World) : Prop := r = .bool false ∧ ∃ k : Nat, k ≤ n ∧ i = .int .i64 (k : Int) ∧ Below w2.heap.size w2 wr

set_option maxHeartbeats 4000000 in
set_option maxRecDepth 100000 in
theorem walk_DictPrefixes (a0 : Option Addr) (len0 cap0 : Nat) (z0 : List Nm) (a1 : ByteArray) (w : World) (h0 : InStrs w a0 len0 cap0 z0) (h1 : a1.size ≤ maxLen) :
    Calls Try.prog 8 #[.slice a0 len0 cap0, .string a1] w fun e w' => e = .returned (.bool true) ∧ Below w.heap.size w w' := by
  obtain ⟨hlc, hcm, hzl, hrow, hzm⟩ := h0
  have C1 := Lib.hid (ref_Good07 a0 len0 cap0 20 z0 w hrow hzl hzm (by omega) (by omega))
  have hgood := good_goodN z0 20
  obtain ⟨g, hg⟩ : ∃ g, g = goodN z0 20 := ⟨_, rfl⟩
  rw [← hg] at C1 hgood
  obtain ⟨hgd, hgl⟩ := hgood
  have HGD := Lib.hid hgd
  have HGR := Lib.hid (risesN_iff.2 hgd.rise)
  obtain ⟨n, hn⟩ : ∃ n, n = g.length := ⟨_, rfl⟩
  have HN := Lib.hid hn
  have hn20 : n ≤ 20 := by omega
  unfold maxLen at h1
  obtain ⟨mm, hmm⟩ : ∃ mm : Nat, mm = min a1.size 4 := ⟨_, rfl⟩
  have hmn : ∀ (w : World) (ts : Array TypeId) (ty : TypeId), (Builtin.min_ ts ty #[.int .i64 a1.size, .int .i64 4]).run Try.prog w = .ok (.int .i64 (mm : Int)) w := fun w ts ty => by rw [run_min_int2, hmm]; congr 2; split <;> omega
  have hm1 : mm ≤ a1.size := by omega
  have hm4 : mm ≤ 4 := by omega
  obtain ⟨y, hy⟩ : ∃ y : ByteArray, y = a1.extract 0 mm := ⟨_, rfl⟩
  have hys : y.size ≤ 4 := by rw [hy, ByteArray.size_extract]; omega
  have HY := Lib.hid hy
  clear hrow hzm hg hgd hgl hn hmm hzl hlc hcm hy
  go_enter Try.func8, Try.ntmps8
  go_wp2_with (go_at_call 12; refine (C1.out).mono ?_)
  rintro e w1 ⟨v, rfl, ho, hb1⟩
  obtain ⟨A1, c1, rfl, hnc, hcm, hr1⟩ := ho.room
  have C2 := Lib.hid (law07_made A1 n c1 g w1 hr1 HN.out.symm (by omega) HGR.out)
  rw [← HN.out]
  have HB1 := Lib.hid hb1
  have HR1 := Lib.hid hr1
  clear ho hb1 hr1 hnc hcm
  go_wp2_with (go_at_call 13; refine (C2.out).mono ?_)
  rintro e w2 ⟨B, rfl, hd, hb2⟩
  have C3 := Lib.hid (dict_Prefix w1.heap.size B g _ y w2 hd HGD.out.rise (by rw [← HN.out]; omega))
  have HR2 := Lib.hid ((HR1.out.below hb2).more hb2.size)
  have HB2 := Lib.hid (HB1.out.trans (hb2.mono HB1.out.size))
  have hpl := placeN_le g y.data.toList
  have hel := endN_le g y.data.toList
  have hpe : placeN g y.data.toList ≤ endN g y.data.toList := by unfold endN; omega
  have hiff : ∀ i (hi : i < g.length), beginsN g[i] y.data.toList = decide (placeN g y.data.toList ≤ i ∧ i < endN g y.data.toList) := fun i hi => begins_iff HGD.out.rise hi
  obtain ⟨p, hp⟩ : ∃ p, p = placeN g y.data.toList := ⟨_, rfl⟩
  obtain ⟨q, hq⟩ : ∃ q, q = endN g y.data.toList := ⟨_, rfl⟩
  rw [← hp, ← hq] at C3 hiff hpe
  rw [← hp, ← HN.out] at hpl
  rw [← hq, ← HN.out] at hel
  have HIFF := Lib.hid hiff
  have i1 : (0 : Int) ≤ (p : Int) := by omega
  have i2 : (p : Int) ≤ (q : Int) := by omega
  have i3 : (q : Int) ≤ (n : Int) := by omega
  have hy2 := HY.out.symm
  clear hd hb2 hp hq hiff
  go_wp2_with (go_at_call 22; refine (C3.out).mono ?_)
  rintro e w3 ⟨rfl, hb3⟩
  have HR3 := Lib.hid ((HR2.out.below hb3).more hb3.size)
  have HB3 := Lib.hid (HB2.out.trans (hb3.mono HB2.out.size))
  clear hb3 hy2 hmn
  go_wp2
  go_loopw [4, 9] (PrefRelW n w3) (fun _ i _ => n - (intOf i).toNat)
  case atStart => exact ⟨rfl, 0, Nat.zero_le _, rfl, Below.refl _ _⟩
  case round =>
    obtain ⟨rfl, k, hk, rfl, hbw⟩ := hrel
    by_cases hlt : k < n
    · have hkl : k < g.length := by rw [← HN.out]; exact hlt
      obtain ⟨b1, o1, rfl, hb1, hc1⟩ := row_nm (HR3.out.below hbw) hkl
      have hx8 := HGD.out.eight _ (List.getElem_mem hkl)
      have hbi := HIFF.out k hkl
      obtain ⟨x, hx, hx2⟩ := as_text g[k]
      have hxs : x.size = g[k].length := by rw [hx]; exact size_nm _
      rw [← hx] at hc1
      rw [← hx2] at hbi
      have hysl : y.data.toList.length = y.size := Array.length_toList
      have hxsl : x.data.toList.length = x.size := Array.length_toList
      have hx8' : x.size ≤ 8 := by omega
      have k2 : (0 : Int) ≤ (k : Int) := by omega
      have k3 : (k : Int) < (n : Int) := by omega
      by_cases hlen : y.size ≤ x.size
      · have d1 : decide ((y.size : Int) ≤ (x.size : Int)) = true := decide_eq_true (by omega)
        have d1' : decide (y.size ≤ x.size) = true := decide_eq_true hlen
        have hmn : ∀ (w : World) (ts : Array TypeId) (ty : TypeId), (Builtin.min_ ts ty #[.int .i64 x.size, .int .i64 y.size]).run Try.prog w = .ok (.int .i64 (y.size : Int)) w := fun w ts ty => by rw [run_min_int2]; congr 2; split <;> omega
        by_cases hbe : beginsN x.data.toList y.data.toList = true
        · have ht := beginsN_take.1 hbe
          have t1 := same_true (s := x.extract 0 y.size) (t := y) (by rw [begins_ext hlen]; exact ht.2)
          rw [hbe] at hbi
          have hpq := of_decide_eq_true hbi.symm
          have d2 : decide ((p : Int) ≤ (k : Int)) = true := decide_eq_true (by omega)
          have d3 : decide ((k : Int) < (q : Int)) = true := decide_eq_true (by omega)
          have d2' : decide (p ≤ k) = true := decide_eq_true hpq.1
          have d3' : decide (k < q) = true := decide_eq_true hpq.2
          clear hx hx2 hxs hbi hbe ht hpq hysl hxsl hkl hx8
          go_wp2
          go_quiet (fail)
          go_wp2
          go_roundw
          case rel => exact ⟨rfl, k + 1, by omega, by go_num, hbw.trans ⟨rfl, rfl, rfl, Nat.le_refl _, fun _ _ => rfl⟩⟩
          case measure => simp [intOf]; omega
        · have t1 := same_false (s := x.extract 0 y.size) (t := y) (by rw [begins_ext hlen]; exact fun h => hbe (beginsN_take.2 ⟨by omega, h⟩))
          have hbf : beginsN x.data.toList y.data.toList = false := by simpa using hbe
          rw [hbf] at hbi
          have hnpq := of_decide_eq_false hbi.symm
          clear hx hx2 hxs hbi hbe hbf hysl hxsl hkl hx8
          by_cases hpk : p ≤ k
          · have d2 : decide ((p : Int) ≤ (k : Int)) = true := decide_eq_true (by omega)
            have d3 : decide ((k : Int) < (q : Int)) = false := decide_eq_false (by omega)
            have d2' : decide (p ≤ k) = true := decide_eq_true hpk
            have d3' : decide (k < q) = false := decide_eq_false (by omega)
            clear hnpq
            go_wp2
            go_quiet (fail)
            go_wp2
            go_roundw
            case rel => exact ⟨rfl, k + 1, by omega, by go_num, hbw.trans ⟨rfl, rfl, rfl, Nat.le_refl _, fun _ _ => rfl⟩⟩
            case measure => simp [intOf]; omega
          · have d2 : decide ((p : Int) ≤ (k : Int)) = false := decide_eq_false (by omega)
            have d2' : decide (p ≤ k) = false := decide_eq_false hpk
            clear hnpq hpk
            go_wp2
            go_quiet (fail)
            go_wp2
            go_roundw
            case rel => exact ⟨rfl, k + 1, by omega, by go_num, hbw.trans ⟨rfl, rfl, rfl, Nat.le_refl _, fun _ _ => rfl⟩⟩
            case measure => simp [intOf]; omega
      · have d1 : decide ((y.size : Int) ≤ (x.size : Int)) = false := decide_eq_false (by omega)
        have d1' : decide (y.size ≤ x.size) = false := decide_eq_false hlen
        have hbf : beginsN x.data.toList y.data.toList = false := by
          rw [← Bool.not_eq_true, beginsN_take]
          omega
        rw [hbf] at hbi
        have hnpq := of_decide_eq_false hbi.symm
        clear hx hx2 hxs hbi hbf hysl hxsl hkl hx8 hlen
        by_cases hpk : p ≤ k
        · have d2 : decide ((p : Int) ≤ (k : Int)) = true := decide_eq_true (by omega)
          have d3 : decide ((k : Int) < (q : Int)) = false := decide_eq_false (by omega)
          have d2' : decide (p ≤ k) = true := decide_eq_true hpk
          have d3' : decide (k < q) = false := decide_eq_false (by omega)
          clear hnpq
          go_wp2
          go_quiet (fail)
          go_wp2
          go_roundw
          case rel => exact ⟨rfl, k + 1, by omega, by go_num, hbw.trans ⟨rfl, rfl, rfl, Nat.le_refl _, fun _ _ => rfl⟩⟩
          case measure => simp [intOf]; omega
        · have d2 : decide ((p : Int) ≤ (k : Int)) = false := decide_eq_false (by omega)
          have d2' : decide (p ≤ k) = false := decide_eq_false hpk
          clear hnpq hpk
          go_wp2
          go_quiet (fail)
          go_wp2
          go_roundw
          case rel => exact ⟨rfl, k + 1, by omega, by go_num, hbw.trans ⟨rfl, rfl, rfl, Nat.le_refl _, fun _ _ => rfl⟩⟩
          case measure => simp [intOf]; omega
    · have LV := Lib.hid (law07_lives wr)
      have HBW := Lib.hid (HB3.out.trans (hbw.mono HB3.out.size))
      clear hbw
      go_wp2_with (go_at_call 18; refine (LV.out).mono ?_; rintro e w9 ⟨rfl, hb9⟩)
      go_ret
      exact ⟨rfl, HBW.out.trans (hb9.mono HBW.out.size)⟩
end Go.Proofs.Ytebdnjfohahpgaa
