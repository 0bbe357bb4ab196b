/- The walk of VintShort: it returns true for every input, and nothing that was there turns. -/
import Derived.Test.YtmcfkdnilmbecaaMade04
namespace Go.Proofs.Ytmcfkdnilmbecaa
open Go Go.RowKit
set_option linter.unusedVariables false

theorem getZ_cut {n k : Nat} (hk : k < (putB n).length) : getZ ((putB n).take k) 0 = (0, 0, 2) := by
  have h := getZ_form (l := (putB n).take k) (a := 0) (by omega) (by rw [List.drop_zero, getF_cut hk])
  simpa using h

set_option maxHeartbeats 2000000 in
set_option maxRecDepth 100000 in
theorem walk_VintShort (a0 a1 a2 : Int) (w : World) (w0 : (Lit.int .i64 a0).wf = true) (w1 : (Lit.int .i64 a1).wf = true) (w2 : (Lit.int .i64 a2).wf = true) :
    Calls Try.prog 7 #[.int .i64 a0, .int .i64 a1, .int .i64 a2] w fun e w' => e = .returned (.bool true) ∧ Below w.heap.size w w' := by
  obtain ⟨n, hn, hneg0, hpos0⟩ := made_nat (wf_bd w0)
  obtain ⟨m, hm, hneg1, hpos1⟩ := made_nat (wf_bd w1)
  obtain ⟨d, hd, hneg2, hpos2⟩ := made_nat (wf_bd w2)
  have b0 := wf_bd w0
  have b1 := wf_bd w1
  have b2 := wf_bd w2
  have HN0 := Lib.hid hneg0
  have HP0 := Lib.hid hpos0
  have HN1 := Lib.hid hneg1
  have HP1 := Lib.hid hpos1
  have HN2 := Lib.hid hneg2
  have HP2 := Lib.hid hpos2
  clear hneg0 hpos0 hneg1 hpos1 hneg2 hpos2 w0 w1 w2
  go_enter Try.func7, Try.ntmps7
  go_upto_if 12 with fail
  go_cut [0] from 11 to 15 (fun s wx => s = .int .i64 (n : Int) ∧ w = wx)
  case first =>
    by_cases h0 : a0 < 0
    · have hng := HN0.out h0
      go_wp2_with fail
      go_meet
      exact ⟨rfl, rfl⟩
    · have hng := HP0.out h0
      subst hng
      go_wp2_with fail
      go_meet
      exact ⟨rfl, rfl⟩
  case rest =>
    obtain ⟨rfl, rfl⟩ := hcut
    clear b0 HN0 HP0
    go_upto_if 17 with fail
    go_cut [1] from 16 to 20 (fun s wx => s = .int .i64 (m : Int) ∧ w = wx)
    case first =>
      by_cases h0 : a1 < 0
      · have hng := HN1.out h0
        go_wp2_with fail
        go_meet
        exact ⟨rfl, rfl⟩
      · have hng := HP1.out h0
        subst hng
        go_wp2_with fail
        go_meet
        exact ⟨rfl, rfl⟩
    case rest =>
      obtain ⟨rfl, rfl⟩ := hcut
      clear b1 HN1 HP1
      go_upto_if 22 with fail
      go_cut [2] from 21 to 25 (fun s wx => s = .int .i64 (d : Int) ∧ w = wx)
      case first =>
        by_cases h0 : a2 < 0
        · have hng := HN2.out h0
          go_wp2_with fail
          go_meet
          exact ⟨rfl, rfl⟩
        · have hng := HP2.out h0
          subst hng
          go_wp2_with fail
          go_meet
          exact ⟨rfl, rfl⟩
      case rest =>
        obtain ⟨rfl, rfl⟩ := hcut
        clear b2 HN2 HP2
        have p1 := vint_Put none 0 0 [] n w rfl (Nat.le_refl _) Row.nil hn (by simp)
        rw [List.nil_append] at p1
        have h9 := putB_nine hn
        have hpos := putB_pos n
        have s1 := fun w2 => vint_Size n w2 hn
        have s2 := fun w2 => vint_Size m w2 hm
        have hmono : n ≤ m → (putB n).length ≤ (putB m).length := fun h => putB_mono h
        have h9m := putB_nine hm
        obtain ⟨L, hL⟩ : ∃ L, L = (putB n).length := ⟨_, rfl⟩
        obtain ⟨M, hM⟩ : ∃ M, M = (putB m).length := ⟨_, rfl⟩
        obtain ⟨k, hk⟩ : ∃ k, k = d % L := ⟨_, rfl⟩
        have hcut := getZ_cut (n := n) (k := k) (by rw [hk, hL]; exact Nat.mod_lt _ hpos)
        have hkL : k < L := by rw [hk]; exact Nat.mod_lt _ (by omega)
        have hkz : (d : Int) % (L : Int) = (k : Int) := by rw [hk]; simp
        rw [← hL] at s1 hmono h9 hpos
        rw [← hM] at s2 hmono h9m
        have P1 := Lib.hid p1
        have S1 := Lib.hid s1
        have S2 := Lib.hid s2
        have HL := Lib.hid hL
        have HCUT := Lib.hid hcut
        have HMONO := Lib.hid hmono
        clear p1 s1 s2 hL hM hcut hmono hk
        have hL0 : ((L : Int) == 0) = false := by rw [beq_eq_false_iff_ne]; omega
        go_wp2_with (go_at_call 10; refine P1.out.mono ?_)
        rintro e w2 ⟨v, rfl, hown, hb⟩
        obtain ⟨A, c, rfl, hc, hcx, hr⟩ := hown.room
        rw [← HL.out] at hc
        rw [← HL.out]
        have hr2 : Row w2 w2.heap.size A (Lib.byteCells ((putB n).take k)) := by
          have := hr.cut k
          rwa [show (Lib.byteCells (putB n)).take k = Lib.byteCells ((putB n).take k) by simp [Lib.byteCells, List.map_take]] at this
        have g1 := vint_Get A k c 0 ((putB n).take k) w2 hr2 (by rw [List.length_take, ← HL.out]; omega) (by omega) hcx (by omega)
        rw [HCUT.out] at g1
        obtain ⟨b', off, hA, _, _⟩ := hr.at_ (by rw [Lib.byteCells_length, ← HL.out]; omega)
        subst hA
        have G1 := Lib.hid g1
        have HB := Lib.hid hb
        unfold maxLen at hcx
        clear g1 hr2 hr hown hb
        go_wp2_with (go_at_call 13; refine G1.out.mono ?_)
        rintro e w3 ⟨rfl, hb3⟩
        have HB3 := Lib.hid (HB.out.trans (hb3.mono HB.out.size))
        clear hb3
        by_cases hnm : (m : Int) < (n : Int)
        · go_wp2_with (go_at_call 14; refine (law04_lives _).mono ?_)
          rintro e w9 ⟨rfl, hb9⟩
          go_wp2
          go_ret
          exact ⟨rfl, HB3.out.trans (hb9.mono HB3.out.size)⟩
        · have hLM : L ≤ M := HMONO.out (by omega)
          go_wp2_with (first
            | (go_at_call 12; (with_reducible refine (S1.out _).mono ?_); rintro e w' ⟨rfl, rfl⟩)
            | (go_at_call 12; (with_reducible refine (S2.out _).mono ?_); rintro e w' ⟨rfl, rfl⟩)
            | (go_at_call 14; refine (law04_lives _).mono ?_))
          rintro e w9 ⟨rfl, hb9⟩
          go_wp2
          go_ret
          exact ⟨rfl, HB3.out.trans (hb9.mono HB3.out.size)⟩
end Go.Proofs.Ytmcfkdnilmbecaa
