/- PostingBlocks, walked: true for every input. -/
import Derived.Test.YtfhjnblcnkjooaaOk05
set_option linter.unusedVariables false
namespace Go.Proofs.Ytfhjnblcnkjooaa
open Go Go.RowKit

theorem blockP_facts {g : List Po} {k : Nat} (h : k < blocksP g.length) : 0 < (blockP g (k : Int)).length ∧ (blockP g (k : Int)).length ≤ 8 ∧ (k + 1 < blocksP g.length → (blockP g (k : Int)).length = 8) ∧ (g.take (8 * k)).length + (blockP g (k : Int)).length = (g.take (8 * (k + 1))).length := by
  refine ⟨blockP_some h, ?_, blockP_full, ?_⟩
  · rw [blockP_length]; omega
  · rw [blocks_all, List.length_append]

def BkRel (g : List Po) (w : World) (r n k : Value) (wr : World) : Prop :=
  r = .bool false ∧ ∃ j : Nat, j ≤ blocksP g.length ∧ k = .int .i64 (j : Int) ∧ n = .int .i64 ((g.take (8 * j)).length : Int) ∧ Below w.heap.size w wr

set_option maxHeartbeats 4000000 in
set_option maxRecDepth 100000 in
theorem walk_PostingBlocks (a0 : Option Addr) (len0 cap0 : Nat) (z0 : List Po) (w : World) (w0 : InPosts w a0 len0 cap0 z0) :
    Calls Try.prog 7 #[.slice a0 len0 cap0] w fun e w' => e = .returned (.bool true) ∧ Below w.heap.size w w' := by
  have HW0 := Lib.hid w0
  clear w0
  go_enter Try.func7, Try.ntmps7
  go_wp2_with (go_at_call 12; refine (ref05_Good a0 len0 cap0 z0 40 _ HW0.out (by omega)).mono ?_)
  rintro e w5 ⟨v5, rfl, hown5, hb5⟩
  obtain ⟨A5, c5, rfl, hc5, hx5, hp5⟩ := hown5.room
  obtain ⟨hg1, hg2, hg3, hg4⟩ := good40 z0 40 (by omega)
  obtain ⟨g, hg⟩ : ∃ g, g = goodP (-1) (z0.take 40) := ⟨_, rfl⟩
  rw [← hg] at hc5 hp5 hg1 hg2 hg3 hg4
  rw [← hg]
  obtain ⟨n5, hn5⟩ : ∃ n5, n5 = g.length := ⟨_, rfl⟩
  rw [← hn5] at hc5 hg1
  rw [← hn5]
  have HN5 := Lib.hid hn5
  have HG2 := Lib.hid hg2
  have HG3 := Lib.hid hg3
  have HP5 := Lib.hid hp5
  have HB5 := Lib.hid hb5
  clear hown5 hg hn5 hg2 hg3 hg4 hp5 hb5
  go_wp2_with (go_at_call 10; refine (posting_ok.make_ok A5 n5 c5 g w5 HN5.out.symm hc5 hx5 (by omega) HP5.out (fun q hq => by have := (HG3.out q hq).1; omega) HG2.out).mono ?_)
  rintro e w6 ⟨p, L, rfl, LC, hL, hb6⟩
  obtain ⟨BN, hBN⟩ : ∃ BN, BN = blocksP g.length := ⟨_, rfl⟩
  have hbl := LC.blocks
  have hbk := LC.block
  have hle := LC.len
  rw [← hBN] at hbl
  rw [← HN5.out] at hle
  have hBN6 : BN ≤ 6 := by rw [hBN, ← HN5.out]; unfold blocksP; omega
  have HBL := Lib.hid hbl
  have HBK := Lib.hid hbk
  have HLE := Lib.hid hle
  have HST := Lib.hid LC.stays
  have HL6 := Lib.hid hL
  have HB6 := Lib.hid (HB5.out.trans (hb6.mono HB5.out.size))
  have HBN := Lib.hid hBN
  clear LC hL hb6 hbl hbk hle hBN HP5 HG2 HG3
  go_wp2
  go_loopw [2, 6, 7] (fun r n k wr => BkRel g w6 r n k wr) (fun _ _ k _ => BN - (intOf k).toNat)
  case atStart => exact ⟨rfl, 0, Nat.zero_le _, rfl, rfl, Below.refl _ _⟩
  case round =>
    obtain ⟨rfl, j, hj, rfl, rfl, hbw⟩ := hrel
    rw [← HBN.out] at hj
    have hsz := hbw.size
    have HLW := Lib.hid (HST.out _ _ HL6.out hbw)
    have HBW := Lib.hid hbw
    have hft : (g.take (8 * j)).length ≤ n5 := by rw [List.length_take, ← HN5.out]; omega
    by_cases hlt : j < BN
    · obtain ⟨f1, f2, f3, f4⟩ := blockP_facts (g := g) (k := j) (by rw [← HBN.out]; exact hlt)
      rw [← HBN.out] at f3
      obtain ⟨t, ht⟩ : ∃ t, t = (g.take (8 * j)).length := ⟨_, rfl⟩
      obtain ⟨m, hm⟩ : ∃ m, m = (blockP g (j : Int)).length := ⟨_, rfl⟩
      rw [← ht] at f4 hft
      rw [← hm] at f1 f2 f3 f4
      rw [← ht]
      have HF4 := Lib.hid f4
      have HM := Lib.hid hm
      clear ht hm f4 hbw
      have hm0 : ((m : Int) == 0) = false := by rw [beq_eq_false_iff_ne]; omega
      have hm8 : decide ((8 : Int) < (m : Int)) = false := decide_eq_false (by omega)
      have hjb : (j : Int) < (BN : Int) := by omega
      by_cases hk1 : j + 1 < BN
      · have hm9 : m = 8 := f3 hk1
        have hkd : decide ((j : Int) + 1 < (BN : Int)) = true := decide_eq_true (by omega)
        have hmn : ((m : Int) != 8) = false := by simp [hm9]
        have HM9 := Lib.hid hm9
        clear f3 hm9
        go_wp2_with (first
          | (go_at_call 18; (with_reducible refine (HBL.out _ HLW.out).mono ?_); rintro e w7 ⟨rfl, hb7⟩; have HB7 : Hid (Below wr.heap.size wr w7) := Lib.hid hb7; have HL7 := Lib.hid (HST.out _ _ HLW.out hb7); clear hb7)
          | (go_at_call 19; (with_reducible refine (HBK.out _ _ (by omega) (by omega) HL7.out).mono ?_)))
        rintro e w8 ⟨A8, c8, rfl, _, hb8⟩
        rw [← HM.out]
        have HB8 := Lib.hid (HB7.out.trans (hb8.mono HB7.out.size))
        have HL8 := Lib.hid (HST.out _ _ HL7.out hb8)
        clear hb8
        go_wp2_with (go_at_call 18; (with_reducible refine (HBL.out _ HL8.out).mono ?_); rintro e w9 ⟨rfl, hb9⟩; have HB9 := Lib.hid (HBW.out.trans ((HB8.out.trans (hb9.mono HB8.out.size)).mono hsz)); clear hb9)
        go_roundw
        case rel => exact ⟨rfl, j + 1, by rw [← HBN.out]; omega, by go_num, by rw [← HF4.out]; go_num, HB9.out⟩
        case measure => simp [intOf]; omega
      · have hkd : decide ((j : Int) + 1 < (BN : Int)) = false := decide_eq_false (by omega)
        clear f3
        go_wp2_with (first
          | (go_at_call 18; (with_reducible refine (HBL.out _ HLW.out).mono ?_); rintro e w7 ⟨rfl, hb7⟩; have HB7 : Hid (Below wr.heap.size wr w7) := Lib.hid hb7; have HL7 := Lib.hid (HST.out _ _ HLW.out hb7); clear hb7)
          | (go_at_call 19; (with_reducible refine (HBK.out _ _ (by omega) (by omega) HL7.out).mono ?_)))
        rintro e w8 ⟨A8, c8, rfl, _, hb8⟩
        rw [← HM.out]
        have HB8 := Lib.hid (HB7.out.trans (hb8.mono HB7.out.size))
        have HL8 := Lib.hid (HST.out _ _ HL7.out hb8)
        clear hb8
        go_wp2_with (go_at_call 18; (with_reducible refine (HBL.out _ HL8.out).mono ?_); rintro e w9 ⟨rfl, hb9⟩; have HB9 := Lib.hid (HBW.out.trans ((HB8.out.trans (hb9.mono HB8.out.size)).mono hsz)); clear hb9)
        go_roundw
        case rel => exact ⟨rfl, j + 1, by rw [← HBN.out]; omega, by go_num, by rw [← HF4.out]; go_num, HB9.out⟩
        case measure => simp [intOf]; omega
    · obtain rfl : j = BN := by omega
      have htk : (g.take (8 * j)).length = n5 := by rw [HBN.out, take_blocks, ← HN5.out]
      rw [htk]
      have hout : (blockP g (j : Int)).length = 0 := by rw [blockP_out (by rw [← HBN.out]; exact Nat.le_refl _)]; rfl
      have HOUT := Lib.hid hout
      clear htk hout hbw hft
      go_wp2_with (first
        | (go_at_call 18; (with_reducible refine (HBL.out _ HLW.out).mono ?_); rintro e w7 ⟨rfl, hb7⟩; have HB7 : Hid (Below wr.heap.size wr w7) := Lib.hid hb7; have HL7 := Lib.hid (HST.out _ _ HLW.out hb7); clear hb7)
        | (go_at_call 22; (with_reducible refine (HLE.out _ HL7.out).mono ?_)))
      rintro e w8 ⟨rfl, hb8⟩
      have HB8 := Lib.hid (HB7.out.trans (hb8.mono HB7.out.size))
      have HL8 := Lib.hid (HST.out _ _ HL7.out hb8)
      clear hb8
      go_wp2_with (first
        | (go_at_call 18; (with_reducible refine (HBL.out _ HL8.out).mono ?_); rintro e w9 ⟨rfl, hb9⟩; have HB9 : Hid (Below wr.heap.size wr w9) := Lib.hid (HB8.out.trans (hb9.mono HB8.out.size)); have HL9 := Lib.hid (HST.out _ _ HL8.out hb9); clear hb9)
        | (go_at_call 19; (with_reducible refine (HBK.out _ _ (by omega) (by omega) HL9.out).mono ?_)))
      rintro e w10 ⟨A10, c10, rfl, _, hb10⟩
      rw [HOUT.out]
      have HB10 := Lib.hid (HB6.out.trans ((HBW.out.trans ((HB9.out.trans (hb10.mono HB9.out.size)).mono hsz)).mono HB6.out.size))
      clear hb10
      go_wp2_with (go_at_call 14; refine (law05_lives posting_ok _).mono ?_; rintro e w11 ⟨rfl, hb11⟩)
      go_wp2
      go_ret
      exact ⟨rfl, HB10.out.trans (hb11.mono HB10.out.size)⟩
end Go.Proofs.Ytfhjnblcnkjooaa
