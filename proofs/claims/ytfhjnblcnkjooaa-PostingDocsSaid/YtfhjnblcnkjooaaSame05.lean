/- What the document's own Same, Blocks and Block of layer 5 answer. -/
import Derived.Test.YtfhjnblcnkjooaaPost05
import Derived.Test.YtfhjnblcnkjooaaSame04
import Derived.Deep.RegionHeld3
namespace Go.Proofs.Ytfhjnblcnkjooaa
open Go Go.RowKit
set_option linter.unusedVariables false

def SameRel (n : Nat) (w : World) (r i : Value) (wr : World) : Prop := r = .bool false ∧ ∃ k : Nat, k ≤ n ∧ i = .int .i64 (k : Int) ∧ Below w.heap.size w wr

set_option maxHeartbeats 2000000 in
set_option maxRecDepth 100000 in
theorem ref05_Same (A C : Option Addr) (n m c d : Nat) (l : List Po) (w : World) (hn : l.length = n) (hm : l.length = m) (ha : Posts w w.heap.size A l) (hb : Posts w w.heap.size C l) (hnx : n ≤ 1073741824) (hpl : ∀ p ∈ l, p.2.length ≤ 1073741824) :
    Calls Try.prog 34 #[.slice A n c, .slice C m d] w fun e w' => e = .returned (.bool true) ∧ Below w.heap.size w w' := by
  have hmn : m = n := by omega
  subst hmn
  clear hm
  have HN := Lib.hid hn
  have HA := Lib.hid ha
  have HB := Lib.hid hb
  have HPL := Lib.hid hpl
  clear ha hb hpl hn
  go_enter Try.func34, Try.ntmps34
  go_wp2
  go_loopw [4, 5] (fun r i wr => SameRel m w r i wr) (fun _ i _ => m - (intOf i).toNat)
  case atStart => exact ⟨rfl, 0, Nat.zero_le _, rfl, Below.refl _ _⟩
  case round =>
    obtain ⟨rfl, k, hk, rfl, hbw⟩ := hrel
    have hsz := hbw.size
    by_cases hlt : k < m
    · obtain ⟨b1, o1, e1, hb1, hc1, A1, c1, hd1, hl1, hx1, hr1⟩ := (HA.out.below hbw).at_ (k := k) (by rw [HN.out]; exact hlt)
      obtain ⟨b2, o2, e2, hb2, hc2, A2, c2, hd2, hl2, hx2, hr2⟩ := (HB.out.below hbw).at_ (k := k) (by rw [HN.out]; exact hlt)
      subst e1 e2
      have hlp := HPL.out (l.getD k (0, [])) (by rw [List.getD_eq_getElem?_getD, List.getElem?_eq_getElem (by rw [HN.out]; exact hlt)]; simp)
      obtain ⟨q, hq⟩ : ∃ q, q = l.getD k (0, []) := ⟨_, rfl⟩
      rw [← hq] at hc1 hd1 hl1 hr1 hc2 hd2 hl2 hr2 hlp
      obtain ⟨y, ps⟩ := q
      simp only at hc1 hd1 hl1 hr1 hc2 hd2 hl2 hr2 hlp
      have hi0 : (0 : Int) ≤ k := by omega
      have hi1 : (k : Int) < m := by omega
      have HR1 := Lib.hid hr1
      have HR2 := Lib.hid hr2
      clear hr1 hr2 hq
      obtain ⟨P, hP⟩ : ∃ P, P = ps.length := ⟨_, rfl⟩
      rw [← hP] at hd1 hd2 hl1 hl2 hlp
      have HPP := Lib.hid hP
      clear hP
      have SM : Hid (∀ w1, Below w.heap.size wr w1 → Calls Try.prog 21 #[.slice A1 P c1, .slice A2 P c2] w1 fun e w' => e = .returned (.bool true) ∧ Below w1.heap.size w1 w') := Lib.hid fun w1 h1 =>
        ref_Same_at A1 A2 P P c1 c2 ps w1 HPP.out.symm HPP.out.symm ((HR1.out.below h1).more (by have := h1.size; omega)) ((HR2.out.below h1).more (by have := h1.size; omega)) hlp
      go_wp2
      go_region_held3 (fun w' => w'.cell? ⟨b1, o1 + k * 2 + 1, none⟩ = some (.slice A1 P c1) ∧ w'.cell? ⟨b2, o2 + k * 2 + 1, none⟩ = some (.slice A2 P c2))
        (first | exact ⟨hd1, hd2⟩ | exact ⟨hd5, hd6⟩)
        (first
          | (go_at_call 21; refine (SM.out _ (Below.refl _ _).drew).mono ?_; rintro e w5 ⟨rfl, hb5⟩
             have hb6 := (Below.refl w.heap.size wr).drew.trans (hb5.mono (by show w.heap.size ≤ wr.heap.size; omega))
             have hd5 := (hb6.cell (p := ⟨b1, o1 + k * 2 + 1, none⟩) hb1).trans hd1
             have hd6 := (hb6.cell (p := ⟨b2, o2 + k * 2 + 1, none⟩) hb2).trans hd2
             have hc5 := (hb6.cell (p := ⟨b1, o1 + k * 2, none⟩) hb1).trans hc1
             have hc6 := (hb6.cell (p := ⟨b2, o2 + k * 2, none⟩) hb2).trans hc2
             have HB6 := Lib.hid hb6
             clear hb5 hb6))
      have HBW6 := Lib.hid (hbw.trans HB6.out)
      clear hc1 hc2 hd1 hd2
      go_wp2
      go_quiet (fail)
      go_wp2
      go_roundw
      case rel => exact ⟨rfl, k + 1, by omega, by go_num, HBW6.out.trans ⟨rfl, rfl, rfl, Nat.le_refl _, fun _ _ => rfl⟩⟩
      case measure => simp [intOf]; omega
    · go_wp2
      go_ret
      exact ⟨rfl, hbw⟩

set_option maxHeartbeats 1000000 in
theorem ref05_Blocks (n : Nat) (w : World) (hn : n ≤ 1073741824) :
    Calls Try.prog 30 #[.int .i64 (n : Int)] w fun e w' => e = .returned (.int .i64 (blocksP n : Int)) ∧ w = w' := by
  go_enter Try.func30, Try.ntmps30
  go_wp2
  go_ret
  refine ⟨ret_int ?_, rfl⟩
  unfold blocksP
  omega

/-- What a call gives that answers a part of a list of postings, where it lies. -/
def GavePart (l : List Po) (w : World) (e : Ending) (w' : World) : Prop := ∃ A c, e = .returned (.slice A l.length c) ∧ l.length ≤ c ∧ Posts w w.heap.size A l ∧ w = w'

set_option maxHeartbeats 2000000 in
set_option maxRecDepth 100000 in
theorem ref05_Block (A : Option Addr) (n c : Nat) (l : List Po) (k : Int) (w : World) (hn : l.length = n) (hc : n ≤ c) (hcx : c ≤ maxLen) (hnx : n ≤ 1073741824) (hpo : Posts w w.heap.size A l) (hk : k ≤ 1073741824) :
    Calls Try.prog 33 #[.slice A n c, .int .i64 k] w (GavePart (blockP l k) w) := by
  unfold maxLen at hcx
  have bl := ref05_Blocks n w hnx
  obtain ⟨B, hB⟩ : ∃ B, B = blocksP n := ⟨_, rfl⟩
  rw [← hB] at bl
  have BL := Lib.hid bl
  have HN := Lib.hid hn
  have HP := Lib.hid hpo
  have HB := Lib.hid hB
  clear bl hn hpo hB
  by_cases h0 : k < 0
  · have hr : GavePart (blockP l k) w (.returned (.slice none 0 0)) w := ⟨none, 0, by rw [blockP_neg h0]; rfl, by rw [blockP_neg h0]; simp, by rw [blockP_neg h0]; exact Posts.nil, rfl⟩
    have HR := Lib.hid hr
    have hd : decide (k < 0) = true := decide_eq_true h0
    clear hr
    go_enter Try.func33, Try.ntmps33
    go_wp2
    go_ret
    exact HR.out
  · obtain ⟨j, rfl⟩ : ∃ j : Nat, k = j := ⟨k.toNat, by omega⟩
    have hd : decide ((j : Int) < 0) = false := decide_eq_false h0
    by_cases h1 : B ≤ j
    · have hr : GavePart (blockP l (j : Int)) w (.returned (.slice none 0 0)) w := by
        have e : blockP l (j : Int) = [] := blockP_out (by rw [HN.out, ← HB.out]; exact h1)
        exact ⟨none, 0, by rw [e]; rfl, by rw [e]; simp, by rw [e]; exact Posts.nil, rfl⟩
      have HR := Lib.hid hr
      have hd2 : decide ((B : Int) ≤ (j : Int)) = true := decide_eq_true (by omega)
      clear hr
      go_enter Try.func33, Try.ntmps33
      go_wp2_with (go_at_call 30; refine BL.out.mono ?_; rintro e w' ⟨rfl, rfl⟩)
      go_ret
      exact HR.out
    · have hj8 : 8 * j < n := by have := HB.out; unfold blocksP at this; omega
      obtain ⟨b, off, hA, _⟩ := HP.out.at_ (k := 8 * j) (by rw [HN.out]; exact hj8)
      subst hA
      obtain ⟨hi, hhi⟩ : ∃ hi : Nat, (if (n : Int) < 8 * (j : Int) + 8 then (n : Int) else 8 * (j : Int) + 8) = (hi : Int) := by
        split
        · exact ⟨n, rfl⟩
        · exact ⟨8 * j + 8, by simp⟩
      have hhi2 : 8 * j ≤ hi ∧ hi ≤ n ∧ (hi = n ∨ hi = 8 * j + 8) ∧ hi ≤ 8 * j + 8 := by split at hhi <;> omega
      obtain ⟨lo, hlo⟩ : ∃ lo : Nat, 8 * (j : Int) = (lo : Int) := ⟨8 * j, by simp⟩
      have hlo2 : lo = 8 * j := by omega
      have hln : hi - lo = (blockP l (j : Int)).length := by rw [blockP_length, HN.out]; omega
      have hpart : Posts w w.heap.size (some ⟨b, off + lo * 2, none⟩) (blockP l (j : Int)) := by
        rw [blockP_nat, hlo2]
        exact (HP.out.drop (8 * j)).cut 8
      have hr : GavePart (blockP l (j : Int)) w (.returned (.slice (some ⟨b, off + lo * 2, none⟩) (hi - lo) (c - lo))) w := ⟨_, _, by rw [hln], by rw [← hln]; omega, hpart, rfl⟩
      have HR := Lib.hid hr
      have hd2 : decide ((B : Int) ≤ (j : Int)) = false := decide_eq_false (by omega)
      have hclo : ¬ c = lo := by omega
      have f1 : lo < n := by omega
      have f2 : lo ≤ hi := by omega
      have f3 : hi ≤ n := by omega
      have hhi' : (if (n : Int) < (lo : Int) + 8 then (n : Int) else (lo : Int) + 8) = (hi : Int) := by rw [← hlo]; exact hhi
      clear hr hpart hln hhi hhi2 hlo2 hj8
      have hd3 : decide (B ≤ j) = false := decide_eq_false h1
      go_enter Try.func33, Try.ntmps33
      go_wp2_with (go_at_call 30; refine BL.out.mono ?_; rintro e w' ⟨rfl, rfl⟩)
      go_wp2
      go_ret
      exact HR.out
end Go.Proofs.Ytfhjnblcnkjooaa
