/- container/heap's up, over heads. -/
import Derived.Test.YtpehcaidjlemiaaHeapC11
set_option linter.unusedVariables false
namespace Go.Proofs.Ytpehcaidjlemiaa
open Go Go.RowKit

set_option maxHeartbeats 2000000 in
theorem heap_up (base B j : Nat) (l : List Hd) (w : World) (h : HAt base w B l) (hj : j < l.length) (hl : l.length ≤ 1000000) (hu : HeapUp hkey l j) :
    Calls Try.prog 21 #[ifH B, .int .i64 (j : Int)] w (HeapGot base B l w) := by
  have HST := Lib.hid (show UpRel base B l w (.int .i64 (j : Int)) w from ⟨j, l, rfl, hj, .refl _, hu, h, .refl _ _⟩)
  clear h hj hu
  go_enter Try.func21, Try.ntmps21
  go_wp2
  go_loopw [1, 4] (fun v1 v4 wr => UpRel base B l w v1 wr) (fun v1 _ _ => (intOf v1).toNat)
  case atStart => exact HST.out
  case round =>
    clear HST
    obtain ⟨k, l', rfl, hk, hp, hu, hat, hm⟩ := hrel
    have hlen := hp.length_eq
    cases k with
    | zero =>
      have HFIN := Lib.hid (show ∀ v, HeapGot base B l w (.returned v) wr from fun v => ⟨⟨v, rfl⟩, l', hp, hu.top, hat, hm⟩)
      clear hp hu hat hm
      go_wp2
      go_end0
      exact HFIN.out _
    | succ m =>
      have hk2 : m / 2 < l'.length := by omega
      obtain ⟨v1, hm1, C1⟩ := hat.less hk hk2
      rw [show ((m + 1 : Nat) : Int) = (m : Int) + 1 by omega, show ((m / 2 : Nat) : Int) = (m : Int) / 2 by omega] at C1
      have d0 : ((m : Int) / 2 == (m : Int) + 1) = false := by rw [beq_eq_false_iff_ne]; omega
      by_cases hlt : l'[m + 1].1 < l'[m / 2].1
      · rw [decide_eq_true hlt] at C1
        have HC1 := Lib.hid C1
        have hst := hu.step hk (by omega) hlt
        simp only [Nat.add_sub_cancel] at hst
        have HLT := Lib.hid hst
        clear hst
        have HP := Lib.hid hp
        have HAT := Lib.hid hat
        have HM := Lib.hid hm
        clear C1 hu hp hat hm hlt
        go_wp2_with first
          | (go_at_call 43; refine (HC2.out).mono ?_; rintro e w2 ⟨⟨v, rfl⟩, hat2, hm3⟩)
          | (go_at_call 42; refine (HC1.out).mono ?_; rintro e w1 ⟨rfl, hb1⟩; have hat1 := (HAT.out).below hb1; obtain ⟨v2, hm2, C2⟩ := hat1.swaps hk2 hk; rw [show ((m + 1 : Nat) : Int) = (m : Int) + 1 by omega, show ((m / 2 : Nat) : Int) = (m : Int) / 2 by omega] at C2; have HC2 := Lib.hid C2; clear C2 hat1)
        have hsize := (HAT.out).1
        have hlt2 := (HAT.out).lt
        go_roundw
        case rel => exact ⟨m / 2, _, by go_num, by rw [swapL_length]; exact hk2, (swapL_perm hk2 hk).trans HP.out, HLT.out, hat2, (HM.out).trans ((MildH.of_below hb1 (by omega)).trans hm3)⟩
        case measure => simp [intOf]; omega
      · rw [decide_eq_false hlt] at C1
        have HC1 := Lib.hid C1
        have HFIN := Lib.hid (show ∀ v w1, Below wr.heap.size wr w1 → HeapGot base B l w (.returned v) w1 from fun v w1 hb1 => ⟨⟨v, rfl⟩, l', hp, hu.stop hk (by simpa using hlt), hat.below hb1, hm.trans (.of_below hb1 (by have := hat.1; have := hat.lt; omega))⟩)
        clear C1 hu hp hat hm hlt
        go_wp2_with (go_at_call 42; refine (HC1.out).mono ?_; rintro e w1 ⟨rfl, hb1⟩)
        go_end0
        exact HFIN.out _ _ hb1
end Go.Proofs.Ytpehcaidjlemiaa
