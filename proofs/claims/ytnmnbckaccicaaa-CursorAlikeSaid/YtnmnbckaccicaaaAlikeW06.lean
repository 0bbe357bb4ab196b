/- The walk of CursorAlike, out of what package cursor's calls give. -/
import Derived.Test.YtnmnbckaccicaaaStart06
import Derived.Deep.CutRange
set_option linter.unusedVariables false
namespace Go.Proofs.Ytnmnbckaccicaaa
open Go Go.RowKit

/-- What is owned stays while blocks older than it turn. -/
theorem row_only {S : Nat → Prop} {base : Nat} {E : TypeId} {size n c : Nat} {A : Option Addr} {xs : List Value} {w w' : World} (ho : w.ownsRow base E size (.slice A n c) n xs) (hoi : OnlyIn S w w') (hS : ∀ k, S k → k < base) : Row w' w'.heap.size A xs := by
  have h : w'.ownsRow base E size (.slice A n c) n xs := owned_keep ho fun g hg => by
    rcases ho.2 with ⟨h, _⟩ | ⟨g', cap, cur, h, hgb, hh, _⟩
    · rw [h] at hg; cases hg
    · rw [h] at hg
      simp only [Value.ownBlock, Option.some.injEq] at hg
      subst hg
      exact hoi.block _ (Array.getElem?_eq_some_iff.1 hh).1 (fun hs => by have := hS _ hs; omega)
  obtain ⟨A', c', e, _, hr⟩ := owned_row h
  cases e
  exact hr

set_option maxHeartbeats 4000000 in
set_option maxRecDepth 100000 in
theorem alike_of (CK : CursorOk) (a0 : Option Addr) (len0 cap0 : Nat) (z0 : List Po) (a1 : Option Addr) (len1 cap1 : Nat) (z1 : List Po) (w : World) (w0 : InPosts w a0 len0 cap0 z0) (w1 : InPosts w a1 len1 cap1 z1) :
    Calls Try.prog 7 #[.slice a0 len0 cap0, .slice a1 len1 cap1] w fun e w' => e = .returned (.bool true) ∧ Below w.heap.size w w' := by
  obtain ⟨g, gg, hgo⟩ := good_gave a0 len0 cap0 z0 w w0
  have gh0 := fun w' h => good_gave a1 len1 cap1 z1 w' (w1.below h)
  have LV := Lib.hid (law06_lives CK)
  have CKH := Lib.hid CK
  have HGO := Lib.hid hgo
  have HGH := Lib.hid gh0
  clear hgo gh0 w0 w1 CK
  go_enter Try.func7, Try.ntmps7
  go_wp2_with (go_at_call 8; (with_reducible refine HGO.out.mono ?_))
  rintro e w2 ⟨A2, c2, rfl, hc2, hx2, hp2, hb2⟩
  obtain ⟨h, gh, hgh⟩ := HGH.out w2 hb2
  have HGH2 := Lib.hid hgh
  have HB2 := Lib.hid hb2
  have HP2 := Lib.hid hp2
  clear hgh hb2 hp2 HGO HGH
  go_wp2_with (go_at_call 8; (with_reducible refine HGH2.out.mono ?_))
  rintro e w3 ⟨A3, c3, rfl, hc3, hx3, hp3, hb3⟩
  have HB3 := Lib.hid (HB2.out.trans (hb3.mono HB2.out.size))
  have HP3 := Lib.hid (HP2.out.later hb3)
  have HQ3 := Lib.hid hp3
  clear hb3 hp3 HGH2
  obtain ⟨n, hn⟩ : ∃ n, n = g.length := ⟨_, rfl⟩
  obtain ⟨m, hm⟩ : ∃ m, m = h.length := ⟨_, rfl⟩
  rw [← hn] at hc2
  rw [← hm] at hc3
  rw [← hn, ← hm]
  have HN := Lib.hid hn
  have HM := Lib.hid hm
  have GG := Lib.hid gg
  have GH := Lib.hid gh
  clear hn hm gg gh
  go_wp2_with (go_at_call 9; (with_reducible refine (make_good GG.out A2 n c2 w3 HN.out.symm hc2 hx2 HP3.out).mono ?_))
  rintro e w4 ⟨B1, rfl, hl1, hb4⟩
  have HB4 := Lib.hid hb4
  have HP4 := Lib.hid (HP3.out.later hb4)
  have HQ4 := Lib.hid (HQ3.out.later hb4)
  have HL4 := Lib.hid hl1
  clear hb4 hl1
  go_wp2_with (go_at_call 9; (with_reducible refine (make_good GH.out A3 m c3 w4 HM.out.symm hc3 hx3 HQ4.out).mono ?_))
  rintro e w5 ⟨B2, rfl, hl2, hb5⟩
  have HB5 := Lib.hid (HB4.out.trans (hb5.mono HB4.out.size))
  have HP5 := Lib.hid (HP4.out.later hb5)
  have HQ5 := Lib.hid (HQ4.out.later hb5)
  have HL5 := Lib.hid (HL4.out.below hb5)
  have HM5 := Lib.hid hl2
  clear hb5 hl2
  go_wp2_with (go_at_call 10; (with_reducible refine (CKH.out.new _ B1 g w5 HL5.out GG.out.may (by have := GG.out.len; omega) GG.out.bytes).mono ?_))
  rintro e w6 ⟨C0, At0, rfl, CO, hat, hC, hb⟩
  have HB6 := Lib.hid (HB5.out.trans (hb.mono HB5.out.size))
  have HL6 := Lib.hid (HL5.out.below hb)
  have HM6 := Lib.hid (HM5.out.below hb)
  have HC0 := Lib.hid (show w3.heap.size ≤ C0 ∧ w5.heap.size ≤ C0 ∧ C0 < w6.heap.size from ⟨Nat.le_trans HB5.out.size hC, hC, by obtain ⟨cs, fr, h⟩ := CO.own _ _ hat; exact (Array.getElem?_eq_some_iff.1 h).1⟩)
  have HAT0_6 := Lib.hid hat
  have HCO0 := Lib.hid CO
  clear hb hat hC CO
  go_wp2_with (go_at_call 10; (with_reducible refine (CKH.out.new _ B2 h w6 HM6.out GH.out.may (by have := GH.out.len; omega) GH.out.bytes).mono ?_))
  rintro e w7 ⟨C1, At1, rfl, CO, hat, hC, hb⟩
  have HB7 := Lib.hid (HB6.out.trans (hb.mono HB6.out.size))
  have HL7 := Lib.hid (HL6.out.below hb)
  have HM7 := Lib.hid (HM6.out.below hb)
  have HC1 := Lib.hid (show w3.heap.size ≤ C1 ∧ w6.heap.size ≤ C1 ∧ C1 < w7.heap.size from ⟨Nat.le_trans HB6.out.size hC, hC, by obtain ⟨cs, fr, h⟩ := CO.own _ _ hat; exact (Array.getElem?_eq_some_iff.1 h).1⟩)
  have HAT1_7 := Lib.hid hat
  have HCO1 := Lib.hid CO
  have HAT0_7 := Lib.hid (HCO0.out.stays _ _ _ HAT0_6.out hb)
  clear hb hat hC CO
  go_wp2_with (go_at_call 10; (with_reducible refine (CKH.out.new _ B2 h w7 HM7.out GH.out.may (by have := GH.out.len; omega) GH.out.bytes).mono ?_))
  rintro e w8 ⟨C2, At2, rfl, CO, hat, hC, hb⟩
  have HB8 := Lib.hid (HB7.out.trans (hb.mono HB7.out.size))
  have HL8 := Lib.hid (HL7.out.below hb)
  have HM8 := Lib.hid (HM7.out.below hb)
  have HC2 := Lib.hid (show w3.heap.size ≤ C2 ∧ w7.heap.size ≤ C2 ∧ C2 < w8.heap.size from ⟨Nat.le_trans HB7.out.size hC, hC, by obtain ⟨cs, fr, h⟩ := CO.own _ _ hat; exact (Array.getElem?_eq_some_iff.1 h).1⟩)
  have HAT2_8 := Lib.hid hat
  have HCO2 := Lib.hid CO
  have HAT0_8 := Lib.hid (HCO0.out.stays _ _ _ HAT0_7.out hb)
  have HAT1_8 := Lib.hid (HCO1.out.stays _ _ _ HAT1_7.out hb)
  clear hb hat hC CO
  go_wp2_with (go_at_call 10; (with_reducible refine (CKH.out.new _ B1 g w8 HL8.out GG.out.may (by have := GG.out.len; omega) GG.out.bytes).mono ?_))
  rintro e w9 ⟨C3, At3, rfl, CO, hat, hC, hb⟩
  have HB9 := Lib.hid (HB8.out.trans (hb.mono HB8.out.size))
  have HL9 := Lib.hid (HL8.out.below hb)
  have HM9 := Lib.hid (HM8.out.below hb)
  have HC3 := Lib.hid (show w3.heap.size ≤ C3 ∧ w8.heap.size ≤ C3 ∧ C3 < w9.heap.size from ⟨Nat.le_trans HB8.out.size hC, hC, by obtain ⟨cs, fr, h⟩ := CO.own _ _ hat; exact (Array.getElem?_eq_some_iff.1 h).1⟩)
  have HAT3_9 := Lib.hid hat
  have HCO3 := Lib.hid CO
  have HAT0_9 := Lib.hid (HCO0.out.stays _ _ _ HAT0_8.out hb)
  have HAT1_9 := Lib.hid (HCO1.out.stays _ _ _ HAT1_8.out hb)
  have HAT2_9 := Lib.hid (HCO2.out.stays _ _ _ HAT2_8.out hb)
  clear hb hat hC CO
  go_wp2_with (go_at_call 10; (with_reducible refine (CKH.out.new _ B1 g w9 HL9.out GG.out.may (by have := GG.out.len; omega) GG.out.bytes).mono ?_))
  rintro e w10 ⟨C4, At4, rfl, CO, hat, hC, hb⟩
  have HB10 := Lib.hid (HB9.out.trans (hb.mono HB9.out.size))
  have HL10 := Lib.hid (HL9.out.below hb)
  have HM10 := Lib.hid (HM9.out.below hb)
  have HC4 := Lib.hid (show w3.heap.size ≤ C4 ∧ w9.heap.size ≤ C4 ∧ C4 < w10.heap.size from ⟨Nat.le_trans HB9.out.size hC, hC, by obtain ⟨cs, fr, h⟩ := CO.own _ _ hat; exact (Array.getElem?_eq_some_iff.1 h).1⟩)
  have HAT4_10 := Lib.hid hat
  have HCO4 := Lib.hid CO
  have HAT0_10 := Lib.hid (HCO0.out.stays _ _ _ HAT0_9.out hb)
  have HAT1_10 := Lib.hid (HCO1.out.stays _ _ _ HAT1_9.out hb)
  have HAT2_10 := Lib.hid (HCO2.out.stays _ _ _ HAT2_9.out hb)
  have HAT3_10 := Lib.hid (HCO3.out.stays _ _ _ HAT3_9.out hb)
  clear hb hat hC CO
  go_wp2_with (go_at_call 10; (with_reducible refine (CKH.out.new _ B1 g w10 HL10.out GG.out.may (by have := GG.out.len; omega) GG.out.bytes).mono ?_))
  rintro e w11 ⟨C5, At5, rfl, CO, hat, hC, hb⟩
  have HB11 := Lib.hid (HB10.out.trans (hb.mono HB10.out.size))
  have HL11 := Lib.hid (HL10.out.below hb)
  have HM11 := Lib.hid (HM10.out.below hb)
  have HC5 := Lib.hid (show w3.heap.size ≤ C5 ∧ w10.heap.size ≤ C5 ∧ C5 < w11.heap.size from ⟨Nat.le_trans HB10.out.size hC, hC, by obtain ⟨cs, fr, h⟩ := CO.own _ _ hat; exact (Array.getElem?_eq_some_iff.1 h).1⟩)
  have HAT5_11 := Lib.hid hat
  have HCO5 := Lib.hid CO
  have HAT0_11 := Lib.hid (HCO0.out.stays _ _ _ HAT0_10.out hb)
  have HAT1_11 := Lib.hid (HCO1.out.stays _ _ _ HAT1_10.out hb)
  have HAT2_11 := Lib.hid (HCO2.out.stays _ _ _ HAT2_10.out hb)
  have HAT3_11 := Lib.hid (HCO3.out.stays _ _ _ HAT3_10.out hb)
  have HAT4_11 := Lib.hid (HCO4.out.stays _ _ _ HAT4_10.out hb)
  clear hb hat hC CO
  have s6 : C0 < w6.heap.size := HC0.out.2.2
  have APART : Hid (C0 ≠ C1 ∧ C0 ≠ C2 ∧ C0 ≠ C3 ∧ C0 ≠ C4 ∧ C0 ≠ C5 ∧ C1 ≠ C2 ∧ C1 ≠ C3 ∧ C1 ≠ C4 ∧ C1 ≠ C5 ∧ C2 ≠ C3 ∧ C2 ≠ C4 ∧ C2 ≠ C5 ∧ C3 ≠ C4 ∧ C3 ≠ C5 ∧ C4 ≠ C5) := by
    have h0 := HC0.out; have h1 := HC1.out; have h2 := HC2.out; have h3 := HC3.out; have h4 := HC4.out; have h5 := HC5.out
    exact Lib.hid (by omega)
  have S11 := Lib.hid (show C2 < w11.heap.size ∧ C3 < w11.heap.size by have h2 := HC2.out; have h3 := HC3.out; have h4 := HC4.out; have h5 := HC5.out; omega)
  have gl := GG.out.len
  have hl := GH.out.len
  have bo := CKH.out.both C0 C1 g h At0 At1 w11 HCO0.out HCO1.out APART.out.1 HAT0_11.out HAT1_11.out GG.out.may GH.out.may (by omega) (by omega)
  have BO1 := Lib.hid bo
  clear bo s6
  go_wp2_with (go_at_call 21; (with_reducible refine BO1.out.mono ?_))
  rintro e w12 ⟨v, rfl, ho12, hoi12⟩
  have key := fun (i : Int) E g' (Et : Int → World → Prop) (EO : CurOk E g' Et) (he : C0 ≠ E ∧ C1 ≠ E) (h : Et i w11) => EO.aside i w11 w12 _ h (by
    rintro F (hF | hF)
    · rw [hF]; exact ⟨he.1, HCO0.out.own _ _ HAT0_11.out⟩
    · rw [hF]; exact ⟨he.2, HCO1.out.own _ _ HAT1_11.out⟩) hoi12
  have ap := APART.out
  have HAT2_12 := Lib.hid (key _ _ _ _ HCO2.out (by omega) HAT2_11.out)
  have HAT3_12 := Lib.hid (key _ _ _ _ HCO3.out (by omega) HAT3_11.out)
  have HAT4_12 := Lib.hid (key _ _ _ _ HCO4.out (by omega) HAT4_11.out)
  have HAT5_12 := Lib.hid (key _ _ _ _ HCO5.out (by omega) HAT5_11.out)
  have HB12 := Lib.hid (HB11.out.trans (hoi12.below (base := w3.heap.size) (fun k hk => by have h0 := HC0.out; have h1 := HC1.out; omega) HB11.out.size))
  obtain ⟨A12, c12, rfl, hc12, hr12⟩ := owned_row ho12
  have bo := CKH.out.both C2 C3 h g At2 At3 w12 HCO2.out HCO3.out (by omega) HAT2_12.out HAT3_12.out GH.out.may GG.out.may (by omega) (by omega)
  rw [inter_comm _ h g rfl] at bo
  have HI := inter_length g h
  obtain ⟨x, hx⟩ : ∃ x, x = interP g h := ⟨_, rfl⟩
  rw [← hx] at bo hr12 hc12 HI ho12
  rw [← hx]
  obtain ⟨k, hk⟩ : ∃ k, k = x.length := ⟨_, rfl⟩
  rw [← hk] at hc12 HI ho12
  rw [← hk]
  have hk40 : k ≤ 40 := by omega
  have HK := Lib.hid hk
  have BO2 := Lib.hid bo
  have HO12 := Lib.hid ho12
  clear bo key ap ho12 hoi12 hr12 hk HI hx
  go_wp2_with (go_at_call 21; (with_reducible refine BO2.out.mono ?_))
  rintro e w13 ⟨v13, rfl, ho13, hoi13⟩
  have ap := APART.out
  have hr12 := row_only HO12.out hoi13 (by
    have h2 := HC2.out; have h3 := HC3.out; have b9 := HB9.out.size; have s12 := S11.out
    rintro F (hF | hF) <;> omega)
  obtain ⟨A13, c13, rfl, hc13, hr13⟩ := owned_row ho13
  have key := fun (i : Int) E g' (Et : Int → World → Prop) (EO : CurOk E g' Et) (he : C2 ≠ E ∧ C3 ≠ E) (h : Et i w12) => EO.aside i w12 w13 _ h (by
    rintro F (hF | hF)
    · rw [hF]; exact ⟨he.1, HCO2.out.own _ _ HAT2_12.out⟩
    · rw [hF]; exact ⟨he.2, HCO3.out.own _ _ HAT3_12.out⟩) hoi13
  have HAT4_13 := Lib.hid (key _ _ _ _ HCO4.out (by omega) HAT4_12.out)
  have HAT5_13 := Lib.hid (key _ _ _ _ HCO5.out (by omega) HAT5_12.out)
  have HB13 := Lib.hid (HB12.out.trans (hoi13.below (base := w3.heap.size) (fun k hk => by have h0 := HC2.out; have h1 := HC3.out; omega) HB12.out.size))
  rw [← HK.out]
  have HS := Lib.hid (ref_Same_at A12 A13 k k c12 c13 x w13 HK.out.symm HK.out.symm hr12 hr13 (by omega))
  clear key hr12 hr13 ho13 hoi13
  go_wp2_with (go_at_call 20; (with_reducible refine HS.out.mono ?_))
  rintro e w14 ⟨rfl, hb14⟩
  have HB14 := Lib.hid (HB13.out.trans (hb14.mono HB13.out.size))
  have bo := CKH.out.both C4 C5 g g At4 At5 w14 HCO4.out HCO5.out (by omega) (HCO4.out.stays _ _ _ HAT4_13.out hb14) (HCO5.out.stays _ _ _ HAT5_13.out hb14) GG.out.may GG.out.may (by omega) (by omega)
  have hsl : (interP g g).length = n := by rw [inter_self, List.length_map, HN.out]
  obtain ⟨y, hy⟩ : ∃ y, y = interP g g := ⟨_, rfl⟩
  rw [← hy] at bo hsl
  have HSL := Lib.hid hsl
  have BO3 := Lib.hid bo
  have hnn : ((n : Int) == (n : Int)) = true := by simp
  clear bo hsl hy hb14 ap
  go_wp2_with (go_at_call 21; (with_reducible refine BO3.out.mono ?_))
  rintro e w15 ⟨v15, rfl, ho15, hoi15⟩
  obtain ⟨A15, c15, rfl, hc15, hr15⟩ := owned_row ho15
  have HB15 := Lib.hid (HB14.out.trans (hoi15.below (base := w3.heap.size) (fun k hk => by have h0 := HC4.out; have h1 := HC5.out; omega) HB14.out.size))
  rw [HSL.out]
  clear ho15 hoi15 hr15
  go_wp2_with (go_at_call 18; (with_reducible refine (LV.out _).mono ?_); rintro e w16 ⟨rfl, hb16⟩)
  go_wp2
  go_ret
  exact ⟨rfl, HB3.out.trans ((HB15.out.trans (hb16.mono HB15.out.size)).mono HB3.out.size)⟩
end Go.Proofs.Ytnmnbckaccicaaa
