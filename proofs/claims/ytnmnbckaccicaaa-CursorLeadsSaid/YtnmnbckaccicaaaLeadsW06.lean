/- The walk of CursorLeads, out of what package cursor's calls give. -/
import Derived.Test.YtnmnbckaccicaaaStart06
import Derived.Deep.CutRange
set_option linter.unusedVariables false
namespace Go.Proofs.Ytnmnbckaccicaaa
open Go Go.RowKit

def LeadRel (g : List Po) (doc : Int) (D : Nat) (At Bt : Int → World → Prop) (w : World) (i : Value) (wr : World) : Prop :=
  ∃ (k : Nat) (j : Int), i = .int .i64 (k : Int) ∧ (k : Int) = j + 1 ∧ -1 ≤ j ∧ j ≤ (g.length : Int) ∧ advC g doc (-1) = advC g doc j ∧ At (-1) wr ∧ Bt j wr ∧ OnlyAt D w wr

set_option maxHeartbeats 4000000 in
set_option maxRecDepth 100000 in
theorem leads_of (CK : CursorOk) (a0 : Option Addr) (len0 cap0 : Nat) (z0 : List Po) (doc : Int) (w : World) (w0 : InPosts w a0 len0 cap0 z0) (hd0 : -9223372036854775808 ≤ doc) (hd1 : doc ≤ 9223372036854775807) :
    Calls Try.prog 6 #[.slice a0 len0 cap0, .int .i64 doc] w fun e w' => e = .returned (.bool true) ∧ Below w.heap.size w w' := by
  obtain ⟨g, gg, hgo⟩ := good_gave a0 len0 cap0 z0 w w0
  have LV := Lib.hid (law06_lives CK)
  have CKH := Lib.hid CK
  have HGO := Lib.hid hgo
  have GG := Lib.hid gg
  clear hgo w0 CK gg
  go_enter Try.func6, Try.ntmps6
  go_wp2_with (go_at_call 8; (with_reducible refine HGO.out.mono ?_))
  rintro e w3 ⟨A2, c2, rfl, hc2, hx2, hp3, hb3⟩
  have HB3 := Lib.hid hb3
  have HP3 := Lib.hid hp3
  clear hb3 hp3 HGO
  obtain ⟨n, hn⟩ : ∃ n, n = g.length := ⟨_, rfl⟩
  rw [← hn] at hc2
  rw [← hn]
  have HN := Lib.hid hn
  clear hn
  go_wp2_with (go_at_call 9; (with_reducible refine (make_good GG.out A2 n c2 w3 HN.out.symm hc2 hx2 HP3.out).mono ?_))
  rintro e w5 ⟨B1, rfl, hl1, hb5⟩
  have HB5 := Lib.hid (HB3.out.trans (hb5.mono HB3.out.size))
  have HL5 := Lib.hid hl1
  clear hb5 hl1 HP3
  go_wp2_with (go_at_call 10; (with_reducible refine (CKH.out.new _ B1 g w5 HL5.out GG.out.may (by have := GG.out.len; omega) GG.out.bytes).mono ?_))
  rintro e w6 ⟨C, At, rfl, CO, hat6, hC, hb6⟩
  have HB6 := Lib.hid (HB5.out.trans (hb6.mono HB5.out.size))
  have HL6 := Lib.hid (HL5.out.below hb6)
  have HAT6 := Lib.hid hat6
  have HC := Lib.hid (Nat.le_trans HB5.out.size hC)
  have hown := CO.own _ _ hat6
  have hCl : C < w6.heap.size := by obtain ⟨cs, fr, h⟩ := hown; exact (Array.getElem?_eq_some_iff.1 h).1
  have HCL := Lib.hid hCl
  have HCO := Lib.hid CO
  clear hb6 hat6 hC hown hCl CO
  go_wp2_with (go_at_call 10; (with_reducible refine (CKH.out.new _ B1 g w6 HL6.out GG.out.may (by have := GG.out.len; omega) GG.out.bytes).mono ?_))
  rintro e w7 ⟨D, Bt, rfl, DO, hbt7, hD, hb7⟩
  have HB7 := Lib.hid (HB6.out.trans (hb7.mono HB6.out.size))
  have HAT7 := Lib.hid (HCO.out.stays _ _ _ HAT6.out hb7)
  have HBT7 := Lib.hid hbt7
  have HCD := Lib.hid (show D ≠ C by have := HCL.out; omega)
  have HD := Lib.hid (Nat.le_trans HB6.out.size hD)
  have HDO := Lib.hid DO
  have hown := DO.own _ _ hbt7
  have HDOWN := Lib.hid hown
  clear hb7 hbt7 hD DO hown CKH
  have adv := fun w' h => HCO.out.advance (-1) w' doc h (by omega) (by omega) hd0 hd1
  obtain ⟨z, hz⟩ : ∃ z, z = advC g doc (-1) := ⟨_, rfl⟩
  rw [← hz] at adv
  have HZ := Lib.hid hz
  have ADV := Lib.hid adv
  clear hz adv
  go_wp2
  go_loopw [10] (fun i wr => LeadRel g doc D At Bt w7 i wr) (fun i _ => 50 - (intOf i).toNat)
  case atStart => exact ⟨0, -1, rfl, rfl, by omega, by omega, rfl, HAT7.out, HBT7.out, OnlyIn.of_below (Below.refl _ _)⟩
  case round =>
    obtain ⟨k, j, rfl, hkj, hj0, hj1, hadv, hat, hbt, hon⟩ := hrel
    have hn40 : (g.length : Int) ≤ 40 := by have := GG.out.len; omega
    obtain ⟨x, hx⟩ : ∃ x, x = docC g j := ⟨_, rfl⟩
    have hdoc := fun w' h => HDO.out.doc j w' h hj0 hj1
    rw [← hx] at hdoc
    have hi50 : decide ((k : Int) < 50) = true := decide_eq_true (by omega)
    obtain ⟨b, hb⟩ : ∃ b, b = decide (x < doc ∧ x < 2147483648) := ⟨_, rfl⟩
    have HDOC := Lib.hid hdoc
    have HX := Lib.hid hx
    have HADV := Lib.hid hadv
    have HAT := Lib.hid hat
    have HBT := Lib.hid hbt
    have HON := Lib.hid hon
    have HBB := Lib.hid hb
    have hk41 : (k : Int) ≤ 41 := by omega
    have HKJ := Lib.hid hkj
    have HJ := Lib.hid (And.intro hj0 hj1)
    clear hdoc hx hadv hat hbt hon hb hkj hj0 hj1
    go_upto_region 8 with fail
    go_cut [40] from 28 to 40 (fun t wx => t = .bool b ∧ Below wr.heap.size wr wx)
    case first =>
      by_cases h1 : x < doc
      · have hd1 : decide (x < doc) = true := decide_eq_true h1
        by_cases h2 : x < 2147483648
        · have hd2 : decide (x < 2147483648) = true := decide_eq_true h2
          have hbb : b = true := by rw [HBB.out]; exact decide_eq_true ⟨h1, h2⟩
          have HBV := Lib.hid hbb
          clear hbb
          go_wp2_with (go_at_call 23; (with_reducible refine (HDOC.out _ HBT.out).mono ?_))
          rintro e w8 ⟨rfl, hb8⟩
          have HB8 := Lib.hid hb8
          have HBT8 := Lib.hid (HDO.out.stays _ _ _ HBT.out hb8)
          clear hb8
          go_wp2_with (go_at_call 23; (with_reducible refine (HDOC.out _ HBT8.out).mono ?_); rintro e w9 ⟨rfl, hb9⟩)
          go_meet
          exact ⟨by rw [HBV.out], HB8.out.trans (hb9.mono HB8.out.size)⟩
        · have hd2 : decide (x < 2147483648) = false := decide_eq_false h2
          have hbb : b = false := by rw [HBB.out]; exact decide_eq_false (fun h => h2 h.2)
          have HBV := Lib.hid hbb
          clear hbb h1 h2
          go_wp2_with (go_at_call 23; (with_reducible refine (HDOC.out _ HBT.out).mono ?_))
          rintro e w8 ⟨rfl, hb8⟩
          have HB8 := Lib.hid hb8
          have HBT8 := Lib.hid (HDO.out.stays _ _ _ HBT.out hb8)
          clear hb8
          go_wp2_with (go_at_call 23; (with_reducible refine (HDOC.out _ HBT8.out).mono ?_); rintro e w9 ⟨rfl, hb9⟩)
          go_meet
          exact ⟨by rw [HBV.out], HB8.out.trans (hb9.mono HB8.out.size)⟩
      · have hd1 : decide (x < doc) = false := decide_eq_false h1
        have hbb : b = false := by rw [HBB.out]; exact decide_eq_false (fun h => h1 h.1)
        have HBV := Lib.hid hbb
        clear hbb h1
        go_wp2_with (go_at_call 23; (with_reducible refine (HDOC.out _ HBT.out).mono ?_))
        rintro e w8 ⟨rfl, hb8⟩
        have HB8 := Lib.hid hb8
        clear hb8
        go_wp2_with fail
        go_meet
        exact ⟨by rw [HBV.out], HB8.out⟩
    case rest =>
      obtain ⟨rfl, hbx⟩ := hcut
      have hHD : Bt j _ := HDO.out.stays _ _ _ HBT.out hbx
      have HBTX := Lib.hid hHD
      have HATX := Lib.hid (HCO.out.stays _ _ _ HAT.out hbx)
      have HONX := Lib.hid (HON.out.trans (OnlyIn.of_below hbx))
      have HBXX := Lib.hid hbx
      clear hHD hbx
      have hj0 := HJ.out.1
      have hj1 := HJ.out.2
      by_cases hb : x < doc ∧ x < 2147483648
      · have hbb : b = true := by rw [HBB.out]; exact decide_eq_true hb
        subst hbb
        have hjl : j < (g.length : Int) := by
          refine Classical.byContradiction fun h => ?_
          have := HX.out
          rw [docC_behind (by have := GG.out.len; omega) (by omega)] at this
          omega
        have hnx : nextC g j = j + 1 := by unfold nextC; rw [if_pos hjl]
        have hnext := HDO.out.next j _ HBTX.out hj0 hj1
        rw [hnx] at hnext
        have hadv2 := HADV.out
        rw [advC_step (doc := doc) (i := j) ⟨by rw [← HX.out]; exact hb.1, hjl⟩] at hadv2
        have HA2 := Lib.hid hadv2
        have HNX := Lib.hid hnext
        have HJL := Lib.hid hjl
        clear hnext hadv2 hnx hb hjl hj0 hj1
        go_wp2_with (go_at_call 13; (with_reducible refine HNX.out.mono ?_); rintro e w10 ⟨rfl, hbt10, hon10⟩; have HBT10 := Lib.hid hbt10; have HON10 := Lib.hid hon10; clear hbt10 hon10)
        go_roundw
        case rel =>
          exact ⟨k + 1, j + 1, by go_num, by have := HKJ.out; omega, by have := HJ.out.1; omega, by have := HJL.out; omega, HA2.out,
            HCO.out.aside _ _ _ _ HATX.out (fun E hE => by subst hE; exact ⟨HCD.out, HDO.out.own _ _ HBTX.out⟩) HON10.out, HBT10.out, HONX.out.trans HON10.out⟩
        case measure => have := HKJ.out; have := HJ.out; have := GG.out.len; simp [intOf]; omega
      · have hbb : b = false := by rw [HBB.out]; exact decide_eq_false hb
        subst hbb
        have hstay : z = j := by
          rw [HZ.out, HADV.out]
          refine advC_stay fun h => hb ⟨by rw [HX.out]; exact h.1, ?_⟩
          rw [HX.out]
          rcases Int.lt_or_le j 0 with hn | hp
          · rw [docC_ahead hn]; omega
          · obtain ⟨q, rfl⟩ := Int.eq_ofNat_of_zero_le hp
            exact (docC_lt GG.out.may (by omega)).2
        have adv2 := ADV.out _ HATX.out
        rw [hstay, ← HX.out] at adv2
        have hdoc2 := HDOC.out
        have hpb := fun w' h => HDO.out.places j w' h hj0 hj1
        have hpa := fun w' h => HCO.out.places j w' h hj0 hj1
        have hpl := GG.out.placesC j
        obtain ⟨ps, hps⟩ : ∃ ps, ps = placesC g j := ⟨_, rfl⟩
        rw [← hps] at hpa hpb hpl
        obtain ⟨m, hm⟩ : ∃ m, m = ps.length := ⟨_, rfl⟩
        rw [← hm] at hpl
        have HM := Lib.hid hm
        have HPA := Lib.hid hpa
        have HPB := Lib.hid hpb
        have ADV2 := Lib.hid adv2
        clear hb hstay adv2 hdoc2 hpb hpa hps hm hj0 hj1
        have hxx : (x == x) = true := by simp
        go_wp2_with (go_at_call 15; (with_reducible refine ADV2.out.mono ?_))
        rintro e w10 ⟨rfl, hat10, hon10⟩
        have HAT10 := Lib.hid hat10
        have HBT10 := Lib.hid (HDO.out.aside _ _ _ _ HBTX.out (fun E hE => by subst hE; exact ⟨fun h => HCD.out h.symm, HCO.out.own _ _ HATX.out⟩) hon10)
        have hw7 : Below w.heap.size w w10 := HB7.out.trans ((HONX.out.below (base := w.heap.size) (fun E hE => by have hE' : E = D := hE; have := HD.out; omega) HB7.out.size).trans (hon10.below (fun E hE => by have hE' : E = C := hE; have := HC.out; omega) (Nat.le_trans HB7.out.size HONX.out.size)))
        have HB10 := Lib.hid hw7
        clear hat10 hon10 hw7
        go_wp2_with (go_at_call 23; (with_reducible refine (HDOC.out _ HBT10.out).mono ?_))
        intro e w11 h11
        obtain ⟨he, hb11⟩ := h11
        subst he
        have HB11 := Lib.hid (HB10.out.trans (hb11.mono HB10.out.size))
        have HAT11 := Lib.hid (HCO.out.stays _ _ _ HAT10.out hb11)
        have HBT11 := Lib.hid (HDO.out.stays _ _ _ HBT10.out hb11)
        clear hb11
        go_wp2_with (go_at_call 24; (with_reducible refine (HPA.out _ HAT11.out).mono ?_))
        rintro e w12 ⟨A12, c12, rfl, hr12, hb12⟩
        rw [← HM.out]
        have HR12 := Lib.hid hr12
        have HB12 := Lib.hid (HB11.out.trans (hb12.mono HB11.out.size))
        have HBT12 := Lib.hid (HDO.out.stays _ _ _ HBT11.out hb12)
        clear hr12 hb12
        go_wp2_with (go_at_call 24; (with_reducible refine (HPB.out _ HBT12.out).mono ?_))
        rintro e w13 ⟨A13, c13, rfl, hr13, hb13⟩
        rw [← HM.out]
        have HB13 := Lib.hid (HB12.out.trans (hb13.mono HB12.out.size))
        have HS := Lib.hid (ref_Same_at A12 A13 m m c12 c13 ps w13 HM.out.symm HM.out.symm ((HR12.out.below hb13).more hb13.size) hr13 (by omega))
        clear hr13 hb13
        go_wp2_with (go_at_call 20; (with_reducible refine HS.out.mono ?_); rintro e w14 ⟨rfl, hb14⟩; have HB14 := Lib.hid (HB13.out.trans (hb14.mono HB13.out.size)); clear hb14)
        go_wp2_with (go_at_call 18; (with_reducible refine (LV.out _).mono ?_); rintro e w15 ⟨rfl, hb15⟩)
        go_wp2
        go_ret
        exact ⟨rfl, HB14.out.trans (hb15.mono HB14.out.size)⟩
end Go.Proofs.Ytnmnbckaccicaaa
