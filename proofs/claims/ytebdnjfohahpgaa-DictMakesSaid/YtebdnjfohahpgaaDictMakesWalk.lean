/- DictMakes, walked: true for every input. -/
import Derived.Test.YtebdnjfohahpgaaMade07
import Derived.Test.YtebdnjfohahpgaaGood07
import Derived.Test.YtebdnjfohahpgaaNames07
import Derived.Test.YtebdnjfohahpgaaArg07
import Derived.Test.YtebdnjfohahpgaaNat
import Derived.Test.YtebdnjfohahpgaaPut07
import Derived.Deep.RegionLaw
import Derived.Deep.CutRange
set_option linter.unusedVariables false
namespace Go.Proofs.Ytebdnjfohahpgaa
open Go Go.RowKit

theorem fewN_length (l : List Nm) : (fewN l).length ≤ 20 := by
  unfold fewN
  rw [List.length_map, List.length_take]
  omega
theorem fewN_eight (l : List Nm) : ∀ x ∈ fewN l, x.length ≤ 8 := by
  intro x hx
  obtain ⟨y, _, rfl⟩ := List.mem_map.1 hx
  rw [List.length_take]
  omega
def MakesRel (n : Nat) (w3 : World) (r i : Value) (wr : World) : Prop := r = .bool false ∧ ∃ k : Int, -1 ≤ k ∧ k ≤ (n : Int) + 1 ∧ i = .int .i64 k ∧ Below w3.heap.size w3 wr
theorem names_same {w : World} {A C : Option Addr} {n c d : Nat} {xs : List Nm} (hn : xs.length = n) (hx : Row w w.heap.size A (strs xs)) (hy : Row w w.heap.size C (strs xs)) (hl : xs.length ≤ 1073741824) :
    Calls Try.prog 16 #[.slice A n c, .slice C n d] w fun e w' => e = .returned (.bool true) ∧ Below w.heap.size w w' := ref02_Same A C n n c d xs w hn hn hx hy hl

set_option maxHeartbeats 8000000 in
set_option maxRecDepth 100000 in
theorem walk_DictMakes (a0 : Option Addr) (len0 cap0 : Nat) (z0 : List Nm) (a1 : Int) (w : World) (h0 : InStrs w a0 len0 cap0 z0) (h1 : (Lit.int .i64 a1).wf = true) :
    Calls Try.prog 3 #[.slice a0 len0 cap0, .int .i64 a1] w fun e w' => e = .returned (.bool true) ∧ Below w.heap.size w w' := by
  obtain ⟨i0, hi0, hz0, hz1, hz2⟩ := info_parts info_int
  obtain ⟨hlc, hcm, hzl, hrow, hzm⟩ := h0
  obtain ⟨N, hN, hneg0, hpos0⟩ := made_nat (wf_bd h1)
  have b0 := wf_bd h1
  have HN0 := Lib.hid hneg0
  have HP0 := Lib.hid hpos0
  have C1 := Lib.hid (law07_few a0 len0 cap0 z0 w hrow hzl hlc hcm hzm)
  obtain ⟨F, hF⟩ : ∃ F, F = fewN z0 := ⟨_, rfl⟩
  have hFl := fewN_length z0
  have hF8 := fewN_eight z0
  rw [← hF] at C1 hFl hF8
  have HF8 := Lib.hid hF8
  obtain ⟨f, hf⟩ : ∃ f, f = F.length := ⟨_, rfl⟩
  have HFN := Lib.hid hf
  have hf20 : f ≤ 20 := by omega
  clear hrow hzm hzl hlc hcm hneg0 hpos0 h1 hF hF8 hf hFl
  go_enter Try.func3, Try.ntmps3
  go_wp2_with (go_at_call 9; refine (C1.out).mono ?_)
  rintro e w1 ⟨v, rfl, ho, hb1⟩
  obtain ⟨A1, c1, rfl, hnc, hcm, hr1⟩ := ho.room
  rw [← HFN.out]
  have HB1 := Lib.hid hb1
  have HR1 := Lib.hid hr1
  clear ho hb1 hr1 hnc hcm C1
  go_upto_if 18 with fail
  go_cut [1] from 17 to 21 (fun s wx => s = .int .i64 (N : Int) ∧ w1 = wx)
  case first =>
    by_cases h0 : a1 < 0
    · have hng := HN0.out h0
      go_wp2_with fail
      go_meet
      exact ⟨rfl, rfl⟩
    · have hng := HP0.out (by omega)
      subst hng
      go_wp2_with fail
      go_meet
      exact ⟨rfl, rfl⟩
  case rest =>
    obtain ⟨rfl, rfl⟩ := hcut
    clear b0 HN0 HP0
    obtain ⟨m, hm⟩ : ∃ m : Nat, m = N % 25 := ⟨_, rfl⟩
    have hmI : (N : Int) % 25 = (m : Int) := by omega
    have hm25 : m < 25 := by omega
    have k5 : (0 : Int) ≤ (N : Int) := by omega
    have hNb : (N : Int) ≤ 9223372036854775807 := by omega
    have c2 := ref_Rises07 A1 f c1 F w1 HR1.out HFN.out.symm (by omega)
    clear hm hN
    by_cases hr : risesN F = true
    · rw [hr] at c2
      have C2 := Lib.hid c2
      by_cases hfm : f = m
      · subst hfm
        clear c2
        go_wp2_with (go_at_call 10; refine (C2.out).mono ?_)
        rintro e w2 ⟨rfl, hb2⟩
        obtain ⟨w3, hrun, hown3, hgrow3⟩ := run_make_full (P := Try.prog) w2 w2.heap.size 29 3 i0 _ 1 Try.underlying29 hi0 hz0 hz1 .i64 .i64 f (by rw [hz2]; omega) (by unfold maxLen; omega) (Nat.le_refl _)
        have hrep : (madeCells #[Value.int .i64 0] f).toList = ints (fillT f 0) := by rw [toList_madeCells_one, ints, fillT_zero, List.map_replicate]
        rw [Nat.mul_one] at hown3
        have hb3 : Below w2.heap.size w2 w3 := (Below.refl _ _).grown hgrow3 (Nat.le_refl _) (fun k hk => by cases hk)
        have hrow3 : Row w3 w3.heap.size (some ⟨w2.heap.size, 0, none⟩) (ints (fillT f 0)) := by rw [← hrep]; exact owned_row_of hown3
        have hb13 := hb2.trans (hb3.mono hb2.size)
        have C3 := Lib.hid (dict_Make A1 (some ⟨w2.heap.size, 0, none⟩) f c1 f F (fillT f 0) w3 (HR1.out.later hb13) HFN.out.symm (by omega) hrow3 (fillT_length f 0) hr)
        have HB3 := Lib.hid (HB1.out.trans (hb13.mono HB1.out.size))
        have HB13 := Lib.hid hb13
        clear hb2 hb3 hb13 hrow3 hrep hown3 hgrow3
        go_wp2_with (go_at_call 11; refine (C3.out).mono ?_)
        rintro e w4 ⟨B0, rfl, hd0, hb4⟩
        have HB4 := Lib.hid (HB3.out.trans (hb4.mono HB3.out.size))
        have HR4 := Lib.hid ((HR1.out.later HB13.out).later hb4)
        clear hd0 hb4 hrun C3
        have hgood := good_goodN F 20
        have C4 := Lib.hid (ref_Good07 A1 f c1 20 F w4 HR4.out HFN.out.symm (fun x hx => by have := HF8.out x hx; unfold maxLen; omega) (by unfold maxLen; omega) (by omega))
        obtain ⟨g, hg⟩ : ∃ g, g = goodN F 20 := ⟨_, rfl⟩
        rw [← hg] at C4 hgood
        obtain ⟨hgd, hgl⟩ := hgood
        have HGR := Lib.hid (risesN_iff.2 hgd.rise)
        obtain ⟨n, hn⟩ : ∃ n, n = g.length := ⟨_, rfl⟩
        have HN := Lib.hid hn
        have hn20 : n ≤ 20 := by omega
        clear hg hgd hgl hn
        go_wp2_with (go_at_call 12; refine (C4.out).mono ?_)
        rintro e w5 ⟨v5, rfl, ho5, hb5⟩
        obtain ⟨A5, c5, rfl, hnc5, hcm5, hr5⟩ := ho5.room
        have C5 := Lib.hid (law07_made A5 n c5 g w5 hr5 HN.out.symm (by omega) HGR.out)
        rw [← HN.out]
        have HB5 := Lib.hid (HB4.out.trans (hb5.mono HB4.out.size))
        have HR5 := Lib.hid hr5
        clear ho5 hb5 hr5 hnc5 hcm5 C4
        go_wp2_with (go_at_call 13; refine (C5.out).mono ?_)
        rintro e w6 ⟨B, rfl, hd, hb6⟩
        rw [← HN.out] at hd
        have HD := Lib.hid hd
        have HR6 := Lib.hid (HR5.out.later hb6)
        have HB6 := Lib.hid (HB5.out.trans (hb6.mono HB5.out.size))
        clear hd hb6 C5
        go_wp2
        go_loopw [4, 11] (MakesRel n w6) (fun _ i _ => ((n : Int) + 1 - intOf i).toNat)
        case atStart => exact ⟨rfl, -1, by omega, by omega, rfl, Below.refl _ _⟩
        case round =>
          obtain ⟨rfl, i, hi1, hi2, rfl, hbw⟩ := hrel
          by_cases hle : i ≤ (n : Int)
          · have d0 : decide (i ≤ (n : Int)) = true := decide_eq_true hle
            by_cases hin : 0 ≤ i ∧ i < (n : Int)
            · obtain ⟨k, rfl⟩ : ∃ k : Nat, i = (k : Int) := ⟨i.toNat, by omega⟩
              have hkn : k < n := by omega
              have hkg : k < g.length := by rw [← HN.out]; exact hkn
              have ca := dict_At_in _ B k g _ wr (HD.out.below hbw) hkg (by rw [← HN.out]; omega)
              rw [thingsN_at hkn] at ca
              obtain ⟨x, hx⟩ : ∃ x : ByteArray, x = ⟨g[k].toArray⟩ := ⟨_, rfl⟩
              obtain ⟨b7, o7, rfl, hb7, hc7⟩ := row_nm (HR6.out.below hbw) hkg
              rw [← hx] at ca hc7
              have CA := Lib.hid ca
              have HC : Hid (∀ W, Below wr.heap.size wr W → W.cell? ⟨b7, o7 + k, none⟩ = some (.string x)) := Lib.hid fun W h => (h.cell (p := ⟨b7, o7 + k, none⟩) (by show b7 < wr.heap.size; have := hbw.size; omega)).trans hc7
              have HBW := Lib.hid hbw
              have d1 : decide ((0 : Int) ≤ (k : Int)) = true := decide_eq_true (by omega)
              have d2 : decide ((k : Int) < (n : Int)) = true := decide_eq_true (by omega)
              have d2' : decide (k < n) = true := decide_eq_true hkn
              have d0' : decide (k ≤ n) = true := decide_eq_true (by omega)
              have k1 : (0 : Int) ≤ (k : Int) := by omega
              have k2 : (k : Int) < (n : Int) := by omega
              have k3 : (k : Int) ≤ 20 := by omega
              clear ca hx hkg hbw hin hc7
              go_wp2_with (go_at_call 14; refine (CA.out).mono ?_; rintro e w7 ⟨rfl, hb7'⟩; have HB7 := Lib.hid hb7'; have hc8 := HC.out _ hb7'; clear hb7')
              go_roundw
              case rel => exact ⟨rfl, (k : Int) + 1, by omega, by omega, rfl, HBW.out.trans (HB7.out.mono HBW.out.size)⟩
              case measure => simp [intOf]; omega
            · have CA := Lib.hid (dict_At_out _ B i g _ wr (HD.out.below hbw) (by rw [← HN.out]; omega))
              have HBW := Lib.hid hbw
              have hsp : decide ((0 : Int) ≤ i) = false ∨ decide ((0 : Int) ≤ i) = true ∧ decide (i < (n : Int)) = false := by
                by_cases h : 0 ≤ i
                · exact .inr ⟨decide_eq_true h, decide_eq_false (by omega)⟩
                · exact .inl (decide_eq_false h)
              have hle2 : i ≤ 20 := by omega
              clear hbw hin
              rcases hsp with d1 | ⟨d1, d2⟩
              all_goals
                go_wp2_with (go_at_call 14; refine (CA.out).mono ?_; rintro e w7 ⟨rfl, rfl⟩)
                go_roundw
                case rel => exact ⟨rfl, i + 1, by omega, by omega, rfl, HBW.out⟩
                case measure => simp [intOf]; omega
          · have d0 : decide (i ≤ (n : Int)) = false := decide_eq_false hle
            have CL := Lib.hid (fun W (h : Below wr.heap.size wr W) => dict_Len _ B g _ W ((HD.out.below hbw).below h))
            have CN := Lib.hid (dict_Names _ B g _ wr (HD.out.below hbw) (by rw [← HN.out]; omega))
            have HRG := Lib.hid ((HR6.out.below hbw).more hbw.size)
            have HBW := Lib.hid (HB6.out.trans (hbw.mono HB6.out.size))
            have LV := Lib.hid (fun W => law07_lives W)
            rw [← HN.out] at CL
            clear hbw
            go_wp2_with (first
              | (go_at_call 15; refine (CL.out _ (Below.refl _ _)).mono ?_; rintro e w7 ⟨rfl, rfl⟩)
              | (go_at_call 17; refine (CN.out).mono ?_; rintro e w8 ⟨v8, rfl, ho8, hb8⟩
                 obtain ⟨A8, c8, rfl, hn8, hm8, hr8⟩ := ho8.room
                 have CS := Lib.hid (names_same (w := w8) (A := A8) (C := A5) (n := n) (c := c8) (d := c5) (xs := g) HN.out.symm hr8 (HRG.out.later hb8) (by rw [← HN.out]; omega))
                 have HB8 := Lib.hid (HBW.out.trans (hb8.mono HBW.out.size))
                 rw [← HN.out]
                 clear ho8 hb8 hr8 hn8 hm8)
              | (go_at_call 16; refine (CS.out).mono ?_; rintro e w9 ⟨rfl, hb9⟩; have HB9 := Lib.hid (HB8.out.trans (hb9.mono HB8.out.size)); clear hb9)
              | (go_at_call 18; refine (LV.out _).mono ?_; rintro e w10 ⟨rfl, hb10⟩))
            go_ret
            exact ⟨rfl, HB9.out.trans (hb10.mono HB9.out.size)⟩
      · have hfm2 : ((m : Int) == (f : Int)) = false := by rw [beq_eq_false_iff_ne]; omega
        clear c2
        go_wp2_with (go_at_call 10; refine (C2.out).mono ?_)
        rintro e w2 ⟨rfl, hb2⟩
        obtain ⟨w3, hrun, hown3, hgrow3⟩ := run_make_full (P := Try.prog) w2 w2.heap.size 29 3 i0 _ 1 Try.underlying29 hi0 hz0 hz1 .i64 .i64 m (by rw [hz2]; omega) (by unfold maxLen; omega) (Nat.le_refl _)
        have hb3 : Below w2.heap.size w2 w3 := (Below.refl _ _).grown hgrow3 (Nat.le_refl _) (fun k hk => by cases hk)
        have hb13 := hb2.trans (hb3.mono hb2.size)
        have C3 := Lib.hid (dict_Make_no A1 (some ⟨w2.heap.size, 0, none⟩) f c1 m m F w3 (HR1.out.later hb13) HFN.out.symm (by omega) (.inl hfm))
        have HB3 := Lib.hid (HB1.out.trans (hb13.mono HB1.out.size))
        have HB13 := Lib.hid hb13
        clear hb2 hb3 hb13 hown3 hgrow3
        go_wp2_with (go_at_call 11; refine (C3.out).mono ?_)
        rintro e w4 ⟨rfl, hb4⟩
        have HB4 := Lib.hid (HB3.out.trans (hb4.mono HB3.out.size))
        have HR4 := Lib.hid ((HR1.out.later HB13.out).later hb4)
        clear hb4 hrun C3
        have hgood := good_goodN F 20
        have C4 := Lib.hid (ref_Good07 A1 f c1 20 F w4 HR4.out HFN.out.symm (fun x hx => by have := HF8.out x hx; unfold maxLen; omega) (by unfold maxLen; omega) (by omega))
        obtain ⟨g, hg⟩ : ∃ g, g = goodN F 20 := ⟨_, rfl⟩
        rw [← hg] at C4 hgood
        obtain ⟨hgd, hgl⟩ := hgood
        have HGR := Lib.hid (risesN_iff.2 hgd.rise)
        obtain ⟨n, hn⟩ : ∃ n, n = g.length := ⟨_, rfl⟩
        have HN := Lib.hid hn
        have hn20 : n ≤ 20 := by omega
        clear hg hgd hgl hn
        go_wp2_with (go_at_call 12; refine (C4.out).mono ?_)
        rintro e w5 ⟨v5, rfl, ho5, hb5⟩
        obtain ⟨A5, c5, rfl, hnc5, hcm5, hr5⟩ := ho5.room
        have C5 := Lib.hid (law07_made A5 n c5 g w5 hr5 HN.out.symm (by omega) HGR.out)
        rw [← HN.out]
        have HB5 := Lib.hid (HB4.out.trans (hb5.mono HB4.out.size))
        have HR5 := Lib.hid hr5
        clear ho5 hb5 hr5 hnc5 hcm5 C4
        go_wp2_with (go_at_call 13; refine (C5.out).mono ?_)
        rintro e w6 ⟨B, rfl, hd, hb6⟩
        rw [← HN.out] at hd
        have HD := Lib.hid hd
        have HR6 := Lib.hid (HR5.out.later hb6)
        have HB6 := Lib.hid (HB5.out.trans (hb6.mono HB5.out.size))
        clear hd hb6 C5
        go_wp2
        go_loopw [4, 11] (MakesRel n w6) (fun _ i _ => ((n : Int) + 1 - intOf i).toNat)
        case atStart => exact ⟨rfl, -1, by omega, by omega, rfl, Below.refl _ _⟩
        case round =>
          obtain ⟨rfl, i, hi1, hi2, rfl, hbw⟩ := hrel
          by_cases hle : i ≤ (n : Int)
          · have d0 : decide (i ≤ (n : Int)) = true := decide_eq_true hle
            by_cases hin : 0 ≤ i ∧ i < (n : Int)
            · obtain ⟨k, rfl⟩ : ∃ k : Nat, i = (k : Int) := ⟨i.toNat, by omega⟩
              have hkn : k < n := by omega
              have hkg : k < g.length := by rw [← HN.out]; exact hkn
              have ca := dict_At_in _ B k g _ wr (HD.out.below hbw) hkg (by rw [← HN.out]; omega)
              rw [thingsN_at hkn] at ca
              obtain ⟨x, hx⟩ : ∃ x : ByteArray, x = ⟨g[k].toArray⟩ := ⟨_, rfl⟩
              obtain ⟨b7, o7, rfl, hb7, hc7⟩ := row_nm (HR6.out.below hbw) hkg
              rw [← hx] at ca hc7
              have CA := Lib.hid ca
              have HC : Hid (∀ W, Below wr.heap.size wr W → W.cell? ⟨b7, o7 + k, none⟩ = some (.string x)) := Lib.hid fun W h => (h.cell (p := ⟨b7, o7 + k, none⟩) (by show b7 < wr.heap.size; have := hbw.size; omega)).trans hc7
              have HBW := Lib.hid hbw
              have d1 : decide ((0 : Int) ≤ (k : Int)) = true := decide_eq_true (by omega)
              have d2 : decide ((k : Int) < (n : Int)) = true := decide_eq_true (by omega)
              have d2' : decide (k < n) = true := decide_eq_true hkn
              have d0' : decide (k ≤ n) = true := decide_eq_true (by omega)
              have k1 : (0 : Int) ≤ (k : Int) := by omega
              have k2 : (k : Int) < (n : Int) := by omega
              have k3 : (k : Int) ≤ 20 := by omega
              clear ca hx hkg hbw hin hc7
              go_wp2_with (go_at_call 14; refine (CA.out).mono ?_; rintro e w7 ⟨rfl, hb7'⟩; have HB7 := Lib.hid hb7'; have hc8 := HC.out _ hb7'; clear hb7')
              go_roundw
              case rel => exact ⟨rfl, (k : Int) + 1, by omega, by omega, rfl, HBW.out.trans (HB7.out.mono HBW.out.size)⟩
              case measure => simp [intOf]; omega
            · have CA := Lib.hid (dict_At_out _ B i g _ wr (HD.out.below hbw) (by rw [← HN.out]; omega))
              have HBW := Lib.hid hbw
              have hsp : decide ((0 : Int) ≤ i) = false ∨ decide ((0 : Int) ≤ i) = true ∧ decide (i < (n : Int)) = false := by
                by_cases h : 0 ≤ i
                · exact .inr ⟨decide_eq_true h, decide_eq_false (by omega)⟩
                · exact .inl (decide_eq_false h)
              have hle2 : i ≤ 20 := by omega
              clear hbw hin
              rcases hsp with d1 | ⟨d1, d2⟩
              all_goals
                go_wp2_with (go_at_call 14; refine (CA.out).mono ?_; rintro e w7 ⟨rfl, rfl⟩)
                go_roundw
                case rel => exact ⟨rfl, i + 1, by omega, by omega, rfl, HBW.out⟩
                case measure => simp [intOf]; omega
          · have d0 : decide (i ≤ (n : Int)) = false := decide_eq_false hle
            have CL := Lib.hid (fun W (h : Below wr.heap.size wr W) => dict_Len _ B g _ W ((HD.out.below hbw).below h))
            have CN := Lib.hid (dict_Names _ B g _ wr (HD.out.below hbw) (by rw [← HN.out]; omega))
            have HRG := Lib.hid ((HR6.out.below hbw).more hbw.size)
            have HBW := Lib.hid (HB6.out.trans (hbw.mono HB6.out.size))
            have LV := Lib.hid (fun W => law07_lives W)
            rw [← HN.out] at CL
            clear hbw
            go_wp2_with (first
              | (go_at_call 15; refine (CL.out _ (Below.refl _ _)).mono ?_; rintro e w7 ⟨rfl, rfl⟩)
              | (go_at_call 17; refine (CN.out).mono ?_; rintro e w8 ⟨v8, rfl, ho8, hb8⟩
                 obtain ⟨A8, c8, rfl, hn8, hm8, hr8⟩ := ho8.room
                 have CS := Lib.hid (names_same (w := w8) (A := A8) (C := A5) (n := n) (c := c8) (d := c5) (xs := g) HN.out.symm hr8 (HRG.out.later hb8) (by rw [← HN.out]; omega))
                 have HB8 := Lib.hid (HBW.out.trans (hb8.mono HBW.out.size))
                 rw [← HN.out]
                 clear ho8 hb8 hr8 hn8 hm8)
              | (go_at_call 16; refine (CS.out).mono ?_; rintro e w9 ⟨rfl, hb9⟩; have HB9 := Lib.hid (HB8.out.trans (hb9.mono HB8.out.size)); clear hb9)
              | (go_at_call 18; refine (LV.out _).mono ?_; rintro e w10 ⟨rfl, hb10⟩))
            go_ret
            exact ⟨rfl, HB9.out.trans (hb10.mono HB9.out.size)⟩
    · have hrf : risesN F = false := by simpa using hr
      rw [hrf] at c2
      have C2 := Lib.hid c2
      clear c2
      go_wp2_with (go_at_call 10; refine (C2.out).mono ?_)
      rintro e w2 ⟨rfl, hb2⟩
      obtain ⟨w3, hrun, hown3, hgrow3⟩ := run_make_full (P := Try.prog) w2 w2.heap.size 29 3 i0 _ 1 Try.underlying29 hi0 hz0 hz1 .i64 .i64 m (by rw [hz2]; omega) (by unfold maxLen; omega) (Nat.le_refl _)
      have hb3 : Below w2.heap.size w2 w3 := (Below.refl _ _).grown hgrow3 (Nat.le_refl _) (fun k hk => by cases hk)
      have hb13 := hb2.trans (hb3.mono hb2.size)
      have C3 := Lib.hid (dict_Make_no A1 (some ⟨w2.heap.size, 0, none⟩) f c1 m m F w3 (HR1.out.later hb13) HFN.out.symm (by omega) (.inr hrf))
      have HB3 := Lib.hid (HB1.out.trans (hb13.mono HB1.out.size))
      have HB13 := Lib.hid hb13
      clear hb2 hb3 hb13 hown3 hgrow3 hr hrf
      go_wp2_with (go_at_call 11; refine (C3.out).mono ?_)
      rintro e w4 ⟨rfl, hb4⟩
      have HB4 := Lib.hid (HB3.out.trans (hb4.mono HB3.out.size))
      have HR4 := Lib.hid ((HR1.out.later HB13.out).later hb4)
      clear hb4 hrun C3
      have hgood := good_goodN F 20
      have C4 := Lib.hid (ref_Good07 A1 f c1 20 F w4 HR4.out HFN.out.symm (fun x hx => by have := HF8.out x hx; unfold maxLen; omega) (by unfold maxLen; omega) (by omega))
      obtain ⟨g, hg⟩ : ∃ g, g = goodN F 20 := ⟨_, rfl⟩
      rw [← hg] at C4 hgood
      obtain ⟨hgd, hgl⟩ := hgood
      have HGR := Lib.hid (risesN_iff.2 hgd.rise)
      obtain ⟨n, hn⟩ : ∃ n, n = g.length := ⟨_, rfl⟩
      have HN := Lib.hid hn
      have hn20 : n ≤ 20 := by omega
      clear hg hgd hgl hn
      go_wp2_with (go_at_call 12; refine (C4.out).mono ?_)
      rintro e w5 ⟨v5, rfl, ho5, hb5⟩
      obtain ⟨A5, c5, rfl, hnc5, hcm5, hr5⟩ := ho5.room
      have C5 := Lib.hid (law07_made A5 n c5 g w5 hr5 HN.out.symm (by omega) HGR.out)
      rw [← HN.out]
      have HB5 := Lib.hid (HB4.out.trans (hb5.mono HB4.out.size))
      have HR5 := Lib.hid hr5
      clear ho5 hb5 hr5 hnc5 hcm5 C4
      go_wp2_with (go_at_call 13; refine (C5.out).mono ?_)
      rintro e w6 ⟨B, rfl, hd, hb6⟩
      rw [← HN.out] at hd
      have HD := Lib.hid hd
      have HR6 := Lib.hid (HR5.out.later hb6)
      have HB6 := Lib.hid (HB5.out.trans (hb6.mono HB5.out.size))
      clear hd hb6 C5
      go_wp2
      go_loopw [4, 11] (MakesRel n w6) (fun _ i _ => ((n : Int) + 1 - intOf i).toNat)
      case atStart => exact ⟨rfl, -1, by omega, by omega, rfl, Below.refl _ _⟩
      case round =>
        obtain ⟨rfl, i, hi1, hi2, rfl, hbw⟩ := hrel
        by_cases hle : i ≤ (n : Int)
        · have d0 : decide (i ≤ (n : Int)) = true := decide_eq_true hle
          by_cases hin : 0 ≤ i ∧ i < (n : Int)
          · obtain ⟨k, rfl⟩ : ∃ k : Nat, i = (k : Int) := ⟨i.toNat, by omega⟩
            have hkn : k < n := by omega
            have hkg : k < g.length := by rw [← HN.out]; exact hkn
            have ca := dict_At_in _ B k g _ wr (HD.out.below hbw) hkg (by rw [← HN.out]; omega)
            rw [thingsN_at hkn] at ca
            obtain ⟨x, hx⟩ : ∃ x : ByteArray, x = ⟨g[k].toArray⟩ := ⟨_, rfl⟩
            obtain ⟨b7, o7, rfl, hb7, hc7⟩ := row_nm (HR6.out.below hbw) hkg
            rw [← hx] at ca hc7
            have CA := Lib.hid ca
            have HC : Hid (∀ W, Below wr.heap.size wr W → W.cell? ⟨b7, o7 + k, none⟩ = some (.string x)) := Lib.hid fun W h => (h.cell (p := ⟨b7, o7 + k, none⟩) (by show b7 < wr.heap.size; have := hbw.size; omega)).trans hc7
            have HBW := Lib.hid hbw
            have d1 : decide ((0 : Int) ≤ (k : Int)) = true := decide_eq_true (by omega)
            have d2 : decide ((k : Int) < (n : Int)) = true := decide_eq_true (by omega)
            have d2' : decide (k < n) = true := decide_eq_true hkn
            have d0' : decide (k ≤ n) = true := decide_eq_true (by omega)
            have k1 : (0 : Int) ≤ (k : Int) := by omega
            have k2 : (k : Int) < (n : Int) := by omega
            have k3 : (k : Int) ≤ 20 := by omega
            clear ca hx hkg hbw hin hc7
            go_wp2_with (go_at_call 14; refine (CA.out).mono ?_; rintro e w7 ⟨rfl, hb7'⟩; have HB7 := Lib.hid hb7'; have hc8 := HC.out _ hb7'; clear hb7')
            go_roundw
            case rel => exact ⟨rfl, (k : Int) + 1, by omega, by omega, rfl, HBW.out.trans (HB7.out.mono HBW.out.size)⟩
            case measure => simp [intOf]; omega
          · have CA := Lib.hid (dict_At_out _ B i g _ wr (HD.out.below hbw) (by rw [← HN.out]; omega))
            have HBW := Lib.hid hbw
            have hsp : decide ((0 : Int) ≤ i) = false ∨ decide ((0 : Int) ≤ i) = true ∧ decide (i < (n : Int)) = false := by
              by_cases h : 0 ≤ i
              · exact .inr ⟨decide_eq_true h, decide_eq_false (by omega)⟩
              · exact .inl (decide_eq_false h)
            have hle2 : i ≤ 20 := by omega
            clear hbw hin
            rcases hsp with d1 | ⟨d1, d2⟩
            all_goals
              go_wp2_with (go_at_call 14; refine (CA.out).mono ?_; rintro e w7 ⟨rfl, rfl⟩)
              go_roundw
              case rel => exact ⟨rfl, i + 1, by omega, by omega, rfl, HBW.out⟩
              case measure => simp [intOf]; omega
        · have d0 : decide (i ≤ (n : Int)) = false := decide_eq_false hle
          have CL := Lib.hid (fun W (h : Below wr.heap.size wr W) => dict_Len _ B g _ W ((HD.out.below hbw).below h))
          have CN := Lib.hid (dict_Names _ B g _ wr (HD.out.below hbw) (by rw [← HN.out]; omega))
          have HRG := Lib.hid ((HR6.out.below hbw).more hbw.size)
          have HBW := Lib.hid (HB6.out.trans (hbw.mono HB6.out.size))
          have LV := Lib.hid (fun W => law07_lives W)
          rw [← HN.out] at CL
          clear hbw
          go_wp2_with (first
            | (go_at_call 15; refine (CL.out _ (Below.refl _ _)).mono ?_; rintro e w7 ⟨rfl, rfl⟩)
            | (go_at_call 17; refine (CN.out).mono ?_; rintro e w8 ⟨v8, rfl, ho8, hb8⟩
               obtain ⟨A8, c8, rfl, hn8, hm8, hr8⟩ := ho8.room
               have CS := Lib.hid (names_same (w := w8) (A := A8) (C := A5) (n := n) (c := c8) (d := c5) (xs := g) HN.out.symm hr8 (HRG.out.later hb8) (by rw [← HN.out]; omega))
               have HB8 := Lib.hid (HBW.out.trans (hb8.mono HBW.out.size))
               rw [← HN.out]
               clear ho8 hb8 hr8 hn8 hm8)
            | (go_at_call 16; refine (CS.out).mono ?_; rintro e w9 ⟨rfl, hb9⟩; have HB9 := Lib.hid (HB8.out.trans (hb9.mono HB8.out.size)); clear hb9)
            | (go_at_call 18; refine (LV.out _).mono ?_; rintro e w10 ⟨rfl, hb10⟩))
          go_ret
          exact ⟨rfl, HB9.out.trans (hb10.mono HB9.out.size)⟩
end Go.Proofs.Ytebdnjfohahpgaa
