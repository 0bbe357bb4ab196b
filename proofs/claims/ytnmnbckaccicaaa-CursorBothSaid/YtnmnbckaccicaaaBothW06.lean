/- The walk of CursorBoth, out of what package cursor's calls give. -/
import Derived.Test.YtnmnbckaccicaaaStart06
set_option linter.unusedVariables false
namespace Go.Proofs.Ytnmnbckaccicaaa
open Go Go.RowKit

set_option maxHeartbeats 4000000 in
set_option maxRecDepth 100000 in
theorem both_of (CK : CursorOk) (a0 : Option Addr) (len0 cap0 : Nat) (z0 : List Po) (a1 : Option Addr) (len1 cap1 : Nat) (z1 : List Po) (w : World) (w0 : InPosts w a0 len0 cap0 z0) (w1 : InPosts w a1 len1 cap1 z1) :
    Calls Try.prog 5 #[.slice a0 len0 cap0, .slice a1 len1 cap1] w fun e w' => e = .returned (.bool true) ∧ Below w.heap.size w w' := by
  obtain ⟨g, gg, hgo⟩ := good_gave a0 len0 cap0 z0 w w0
  have gh0 := fun w' h => good_gave a1 len1 cap1 z1 w' (w1.below h)
  have LV := Lib.hid (law06_lives CK)
  have CKH := Lib.hid CK
  have HGO := Lib.hid hgo
  have HGH := Lib.hid gh0
  clear hgo gh0 w0 w1 CK
  go_enter Try.func5, Try.ntmps5
  go_wp2_with (go_at_call 8; (with_reducible refine HGO.out.mono ?_))
  rintro e w2 ⟨A2, c2, rfl, hc2, hx2, hp2, hb2⟩
  obtain ⟨h, gh, hgh⟩ := HGH.out w2 hb2
  have HGH2 := Lib.hid hgh
  have HB2 := Lib.hid hb2
  have HP2 := Lib.hid hp2
  clear hgh hb2 hp2 HGO HGH
  go_wp2_with (go_at_call 8; (with_reducible refine HGH2.out.mono ?_))
  rintro e w3 ⟨A3, c3, rfl, hc3, hx3, hp3, hb3⟩
  have HB3 := Lib.hid (HB2.out.trans (hb3.mono HB2.out.size))
  have HP3 := Lib.hid (HP2.out.later hb3)
  have HQ3 := Lib.hid hp3
  clear hb3 hp3 HGH2
  obtain ⟨n, hn⟩ : ∃ n, n = g.length := ⟨_, rfl⟩
  obtain ⟨m, hm⟩ : ∃ m, m = h.length := ⟨_, rfl⟩
  rw [← hn] at hc2
  rw [← hm] at hc3
  rw [← hn, ← hm]
  have HN := Lib.hid hn
  have HM := Lib.hid hm
  have GG := Lib.hid gg
  have GH := Lib.hid gh
  clear hn hm gg gh
  go_wp2_with (go_at_call 9; (with_reducible refine (make_good GG.out A2 n c2 w3 HN.out.symm hc2 hx2 HP3.out).mono ?_))
  rintro e w4 ⟨B1, rfl, hl1, hb4⟩
  have HB4 := Lib.hid hb4
  have HP4 := Lib.hid (HP3.out.later hb4)
  have HQ4 := Lib.hid (HQ3.out.later hb4)
  have HL4 := Lib.hid hl1
  clear hb4 hl1
  go_wp2_with (go_at_call 9; (with_reducible refine (make_good GH.out A3 m c3 w4 HM.out.symm hc3 hx3 HQ4.out).mono ?_))
  rintro e w5 ⟨B2, rfl, hl2, hb5⟩
  have HB5 := Lib.hid (HB4.out.trans (hb5.mono HB4.out.size))
  have HP5 := Lib.hid (HP4.out.later hb5)
  have HQ5 := Lib.hid (HQ4.out.later hb5)
  have HL5 := Lib.hid (HL4.out.below hb5)
  have HM5 := Lib.hid hl2
  clear hb5 hl2
  go_wp2_with (go_at_call 10; (with_reducible refine (CKH.out.new _ B1 g w5 HL5.out GG.out.may (by have := GG.out.len; omega) GG.out.bytes).mono ?_))
  rintro e w6 ⟨C, At, rfl, CO, hat6, hC, hb6⟩
  have HB6 := Lib.hid (HB5.out.trans (hb6.mono HB5.out.size))
  have HP6 := Lib.hid (HP5.out.later hb6)
  have HQ6 := Lib.hid (HQ5.out.later hb6)
  have HM6 := Lib.hid (HM5.out.below hb6)
  have HAT6 := Lib.hid hat6
  have HC := Lib.hid (Nat.le_trans HB5.out.size hC)
  have hown := CO.own _ _ hat6
  have hCl : C < w6.heap.size := by obtain ⟨cs, fr, h⟩ := hown; exact (Array.getElem?_eq_some_iff.1 h).1
  have HCL := Lib.hid hCl
  have HCO := Lib.hid CO
  clear hb6 hat6 hC hown hCl CO
  go_wp2_with (go_at_call 10; (with_reducible refine (CKH.out.new _ B2 h w6 HM6.out GH.out.may (by have := GH.out.len; omega) GH.out.bytes).mono ?_))
  rintro e w7 ⟨D, Bt, rfl, DO, hbt7, hD, hb7⟩
  have HB7 := Lib.hid (HB6.out.trans (hb7.mono HB6.out.size))
  have HP7 := Lib.hid (HP6.out.later hb7)
  have HQ7 := Lib.hid (HQ6.out.later hb7)
  have HAT7 := Lib.hid (HCO.out.stays _ _ _ HAT6.out hb7)
  have HBT7 := Lib.hid hbt7
  have HCD := Lib.hid (show C ≠ D by have := HCL.out; omega)
  have HD := Lib.hid (Nat.le_trans HB6.out.size hD)
  have HDO := Lib.hid DO
  have hbo := CKH.out.both C D g h At Bt w7 HCO.out HDO.out HCD.out HAT7.out HBT7.out GG.out.may GH.out.may (by have := GG.out.len; omega) (by have := GH.out.len; omega)
  have HBO := Lib.hid hbo
  clear hb7 hbt7 hD DO hbo
  go_wp2_with (go_at_call 21; (with_reducible refine HBO.out.mono ?_))
  rintro e w8 ⟨v, rfl, ho8, hoi8⟩
  have hb8 : Below w3.heap.size w3 w8 := HB7.out.trans (hoi8.below (fun k hk => by have := HC.out; have := HD.out; omega) HB7.out.size)
  have hp8 := (HP3.out.below hb8).more hb8.size
  have hq8 := (HQ3.out.below hb8).more hb8.size
  have hrb := ref06_Both A2 n c2 A3 m c3 g h w8 HN.out.symm HM.out.symm (by have := GG.out.len; have := HN.out; omega) (by have := GH.out.len; have := HM.out; omega) hp8 hq8
  rw [both_inter _ g h (-1) (-1) rfl GG.out.may GH.out.may] at hrb
  obtain ⟨A8, c8, rfl, hc8, hr8⟩ := owned_row ho8
  have hl0 := inter_length g h
  have hl1 : (interP g h).length ≤ 40 := by have := GG.out.len; omega
  obtain ⟨x, hx⟩ : ∃ x, x = interP g h := ⟨_, rfl⟩
  rw [← hx] at hrb hr8 hc8 hl1
  rw [← hx]
  obtain ⟨k, hk⟩ : ∃ k, k = x.length := ⟨_, rfl⟩
  rw [← hk] at hc8 hl1
  rw [← hk]
  have HK := Lib.hid hk
  have HRB := Lib.hid hrb
  have HB8 := Lib.hid hb8
  have HR8 := Lib.hid hr8
  clear hrb hb8 hr8 ho8 hoi8 hp8 hq8 hl0 hk hx
  go_wp2_with (go_at_call 22; (with_reducible refine HRB.out.mono ?_))
  rintro e w9 ⟨v9, rfl, ho9, hb9⟩
  obtain ⟨A9, c9, rfl, hc9, hr9⟩ := owned_row ho9
  have HB9 := Lib.hid (HB8.out.trans (hb9.mono HB8.out.size))
  have HS := Lib.hid (ref_Same_at A8 A9 k k c8 c9 x w9 HK.out.symm HK.out.symm ((HR8.out.below hb9).more hb9.size) hr9 (by omega))
  rw [← HK.out]
  clear ho9 hb9 hr9
  go_wp2_with (go_at_call 20; (with_reducible refine HS.out.mono ?_); rintro e w10 ⟨rfl, hb10⟩; have HB10 := Lib.hid (HB9.out.trans (hb10.mono HB9.out.size)); clear hb10)
  go_wp2_with (go_at_call 18; (with_reducible refine (LV.out _).mono ?_); rintro e w11 ⟨rfl, hb11⟩)
  go_wp2
  go_ret
  exact ⟨rfl, HB3.out.trans ((HB10.out.trans (hb11.mono HB10.out.size)).mono HB3.out.size)⟩
end Go.Proofs.Ytnmnbckaccicaaa
