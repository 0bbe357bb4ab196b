/- Package vint's first: the number that bytes begin with. -/
import Derived.Test.YtfhjnblcnkjooaaZed04
import Derived.BigCall
namespace Go.Proofs.Ytfhjnblcnkjooaa
open Go Go.RowKit
set_option linter.unusedVariables false

def FirstRel (l : List UInt8) (r2 r3 n wth i : Value) : Prop :=
  r2 = .int .i64 0 ∧ r3 = .int .i64 0 ∧ ∃ k : Nat, k ≤ 9 ∧ k ≤ l.length ∧ i = .int .i64 (k : Int) ∧ n = .int .i64 (valB (l.take k) : Int) ∧ High l k ∧ ∃ z : Int, wth = .int .i64 z ∧ (k < 9 → z = ((128 ^ k : Nat) : Int))
def GaveF (p : Nat × Nat) (w : World) (e : Ending) (w' : World) : Prop := e = .returned (.tuple #[.int .i64 (p.1 : Int), .int .i64 (p.2 : Int)]) ∧ w = w'

set_option maxHeartbeats 2000000 in
set_option maxRecDepth 100000 in
theorem vint_first (A : Option Addr) (m c : Nat) (l : List UInt8) (w : World) (hm : l.length = m) (hr : Row w w.heap.size A (Lib.byteCells l)) (hl : m ≤ 1073741824) :
    Calls Try.prog 55 #[.slice A m c] w (GaveF (getF l) w) := by
  have HR := Lib.hid hr
  clear hr
  subst hm
  obtain ⟨r, hrr⟩ : ∃ r, r = getF l := ⟨_, rfl⟩
  rw [← hrr]
  have HF := Lib.hid hrr
  clear hrr
  obtain ⟨lim, hlim⟩ : ∃ lim : Nat, (if (9 : Int) < (l.length : Int) then (9 : Int) else (l.length : Int)) = (lim : Int) := by
    by_cases h : (9 : Int) < (l.length : Int)
    · exact ⟨9, by rw [if_pos h]; rfl⟩
    · exact ⟨l.length, by rw [if_neg h]⟩
  have hl9 : lim ≤ 9 ∧ lim ≤ l.length ∧ (lim = 9 ∨ lim = l.length) := by split at hlim <;> omega
  go_enter Try.func55, Try.ntmps55
  go_wp2
  go_loop [2, 3, 4, 5, 11] (fun r2 r3 n wth i => FirstRel l r2 r3 n wth i) (fun _ _ _ _ i => lim - (intOf i).toNat)
  case atStart => exact ⟨rfl, rfl, 0, by omega, by omega, rfl, by simp [valB], High.zero l, 1, rfl, fun _ => by simp⟩
  case round =>
    obtain ⟨rfl, rfl, k, hk9, hkl, rfl, rfl, hh, z, rfl, hz⟩ := hrel
    by_cases hlt : k < lim
    · obtain ⟨b1, o1, e1, _, hc1⟩ := row_byte HR.out (k := k) (by omega)
      subst e1
      obtain ⟨q, p, v, hq, hv, hv2, hmul, hp, hvp, hqb⟩ := worth_more (l := l) (k := k) (by omega) (by omega)
      have hz' := hz (by omega)
      rw [hq] at hz'
      subst hz'
      rw [hv]
      obtain ⟨c, hc⟩ : ∃ c, c = (l.getD k 0).toNat := ⟨_, rfl⟩
      have hc255 : c < 256 := by rw [hc]; exact UInt8.toNat_lt _
      have HC := Lib.hid hc
      have HH := Lib.hid hh
      have HQ := Lib.hid hq
      have HV := Lib.hid hv2
      rw [← hc] at hc1 hmul
      clear hc hh hz hq hv hv2
      by_cases c0 : c = 0 ∧ 0 < k
      · obtain ⟨c0, k0⟩ := c0
        have hr0 : r = (0, 0) := by rw [HF.out]; exact getF_zero HH.out (by omega) (by omega) k0 (by rw [← HC.out]; exact c0)
        have HR0 := Lib.hid hr0
        subst c0
        have hk0 : (0 : Int) < (k : Int) := by omega
        clear hr0
        go_wp2
        go_ret2
        rw [HR0.out]
        exact ⟨rfl, rfl⟩
      · have hpk : Hid (c < 128 → r = (v + p, k + 1)) := Lib.hid fun h => by rw [HF.out, getF_some HH.out (by omega) (by omega) (by rw [← HC.out]; exact h) (by rw [← HC.out]; omega), HV.out]
        have hnx : Hid (128 ≤ c → High l (k + 1)) := Lib.hid fun h => HH.out.succ (by rw [← HC.out]; exact h)
        by_cases h128 : c < 128
        · have HP := Lib.hid (hpk.out h128)
          clear hpk hnx
          by_cases hc0 : c = 0
          · have hcb : ((c : Int) == 0) = true := by rw [beq_iff_eq]; omega
            have hkb : decide ((0 : Int) < (k : Int)) = false := decide_eq_false (by omega)
            have hp0 : Hid (p = 0) := Lib.hid (by rw [hc0] at hmul; simp at hmul; omega)
            go_wp2
            go_ret2
            rw [HP.out, hp0.out]
            exact ⟨by simp, rfl⟩
          · have hcb : ((c : Int) == 0) = false := by rw [beq_eq_false_iff_ne]; omega
            go_wp2
            go_ret2
            rw [HP.out]
            exact ⟨by simp, rfl⟩
        · have HN := Lib.hid (hnx.out (by omega))
          clear hpk hnx
          have hcb : ((c : Int) == 0) = false := by rw [beq_eq_false_iff_ne]; omega
          by_cases k8 : k < 8
          · obtain ⟨hq1, hq2⟩ := pow_next HQ.out k8
            have HQ1 := Lib.hid hq1
            clear hq1
            go_wp2
            go_round
            case rel => exact ⟨rfl, rfl, k + 1, by omega, by omega, by go_num, by rw [HV.out]; go_num, HN.out, _, rfl, fun _ => by rw [HQ1.out]; simp⟩
            case measure => simp [intOf] <;> omega
          · have hq8 : q = 72057594037927936 := by
              have := HQ.out
              rw [show k = 8 by omega] at this
              rw [← this]
            subst hq8
            go_wp2
            go_round
            case rel => exact ⟨rfl, rfl, k + 1, by omega, by omega, by go_num, by rw [HV.out]; go_num, HN.out, _, rfl, fun h => by omega⟩
            case measure => simp [intOf] <;> omega
    · have hr0 : r = (0, 0) := by rw [HF.out]; exact getF_none hh (by omega)
      have HR0 := Lib.hid hr0
      clear hr0
      go_wp2
      go_ret2
      rw [HR0.out]
      exact ⟨rfl, rfl⟩
end Go.Proofs.Ytfhjnblcnkjooaa
