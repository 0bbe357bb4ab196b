/- container/heap's down, over heads. -/
import Derived.Test.YtpehcaidjlemiaaHeapC11
set_option linter.unusedVariables false
namespace Go.Proofs.Ytpehcaidjlemiaa
open Go Go.RowKit

/-- What down leaves: the heads from n on stand as they stood. -/
def DownGot (base B n m : Nat) (l : List Hd) (w : World) (e : Ending) (w' : World) : Prop := (∃ v, e = .returned v) ∧ ∃ l', l'.Perm l ∧ HeapF hkey l' n m ∧ HAt base w' B l' ∧ MildH base w w' ∧ ∀ q, n ≤ q → l'[q]? = l[q]?
def DownRel (base B n m : Nat) (l : List Hd) (w : World) (v7 : Value) (wr : World) : Prop := ∃ (k : Nat) (l' : List Hd), v7 = .int .i64 (k : Int) ∧ k ≤ l.length ∧ m ≤ k ∧ l'.Perm l ∧ HeapDnF hkey l' k n m ∧ HAt base wr B l' ∧ MildH base w wr ∧ ∀ q, n ≤ q → l'[q]? = l[q]?
theorem swapL_keep {l : List Hd} {a b q : Nat} (ha : a < l.length) (hb : b < l.length) (h1 : a ≠ q) (h2 : b ≠ q) : (swapL l a b ha hb)[q]? = l[q]? := by
  rw [show swapL l a b ha hb = (l.set a l[b]).set b l[a] from rfl, List.getElem?_set_ne h2, List.getElem?_set_ne h1]
set_option maxHeartbeats 4000000 in
theorem heap_down (base B i n m : Nat) (l : List Hd) (w : World) (h : HAt base w B l) (hi : i ≤ l.length) (hn : n ≤ l.length) (hl : l.length ≤ 1000000) (hd : HeapDnF hkey l i n m) (hmi : m ≤ i) :
    Calls Try.prog 20 #[ifH B, .int .i64 (i : Int), .int .i64 (n : Int)] w (DownGot base B n m l w) := by
  have HST := Lib.hid (show DownRel base B n m l w (.int .i64 (i : Int)) w from ⟨i, l, rfl, hi, hmi, .refl _, hd, h, .refl _ _, fun _ _ => rfl⟩)
  clear h hd hmi
  go_enter Try.func20, Try.ntmps20
  go_wp2
  go_loopw [7, 8, 9, 10] (fun v7 v8 v9 v10 wr => DownRel base B n m l w v7 wr) (fun v7 _ _ _ _ => n - (intOf v7).toNat)
  case atStart => exact HST.out
  case round =>
    clear HST
    rename_i KK hKK
    obtain ⟨k, l', rfl, hk, hmk, hp, hu, hat, hm, hsame⟩ := hrel
    have hlen := hp.length_eq
    obtain ⟨a, ha⟩ : ∃ a, a = 2 * k + 1 := ⟨_, rfl⟩
    have haI : 2 * (k : Int) + 1 = (a : Int) := by omega
    have HA := Lib.hid ha
    clear ha
    have d2 : decide ((a : Int) < 0) = false := decide_eq_false (by omega)
    by_cases hna : n ≤ a
    · have d1 : decide ((n : Int) ≤ (a : Int)) = true := decide_eq_true (by omega)
      have hfin : ∀ v, DownGot base B n m l w (.returned v) wr := fun v => ⟨⟨v, rfl⟩, l', hp, hu.stop (by omega) (fun c hc h0 hpc => absurd hc (by have := HA.out; omega)), hat, hm, hsame⟩
      have HFIN := Lib.hid hfin
      clear hp hu hat hm hsame hfin hlen
      go_wp2
      go_ret
      exact HFIN.out _
    · have d1 : decide ((n : Int) ≤ (a : Int)) = false := decide_eq_false (by omega)
      have hal : a < l'.length := by omega
      have hkl : k < l'.length := by have := HA.out; omega
      by_cases h2n : a + 1 < n
      · have hal2 : a + 1 < l'.length := by omega
        obtain ⟨v1, hm1, C1⟩ := hat.less hal2 hal
        rw [show ((a + 1 : Nat) : Int) = (a : Int) + 1 by omega] at C1
        have d3 : decide ((a : Int) + 1 < (n : Int)) = true := decide_eq_true (by omega)
        by_cases hlt : l'[a + 1].1 < l'[a].1
        · rw [decide_eq_true hlt] at C1
          have HC1 := Lib.hid C1
          clear C1
          have hmin : ∀ q (hq : q < n) (h0 : 0 < q) (hpq : (q - 1) / 2 = k), hkey (l'[a + 1]'(by omega)) ≤ hkey (l'[q]'(by omega)) := fun q hq h0 hpq => by
            have hqa : q = a ∨ q = a + 1 := by have := HA.out; omega
            rcases hqa with rfl | rfl
            · exact Int.le_of_lt hlt
            · exact Int.le_refl _
          have HCP : Hid ((a + 1 - 1) / 2 = k) := Lib.hid (by have := HA.out; omega)
          clear hlt
          by_cases hlt2 : l'[a + 1].1 < l'[k].1
          · have hst := hu.step (k := a + 1) (by omega) (by omega) (by omega) HCP.out hmk hlt2 hmin
            have HLT := Lib.hid hst
            have hnm : n - (a + 1) < n - k := by have := HA.out; omega
            have HMIN := Lib.hid hlt2
            have HP := Lib.hid hp
            have HAT := Lib.hid hat
            have HM := Lib.hid hm
            have HS := Lib.hid hsame
            clear hmin hlt2 hp hat hm hsame hu hst
            go_wp2_with first
              | (go_at_call 43; refine (HC3.out).mono ?_; rintro e w3 ⟨⟨v, rfl⟩, hat3, hmild3⟩)
              | (go_at_call 42; refine (HC2.out).mono ?_; rintro e w2 ⟨rfl, hb2⟩; obtain ⟨v3, hm3, C3⟩ := ((HAT1.out).below hb2).swaps hkl hal2; rw [show ((a + 1 : Nat) : Int) = (a : Int) + 1 by omega] at C3; have HC3 := Lib.hid C3; have HB2 := Lib.hid ((HB1.out).trans (hb2.mono HB1.out.size)); clear C3 hb2)
              | (go_at_call 42; refine (HC1.out).mono ?_; rintro e w1 ⟨rfl, hb1⟩; have hat1 := (HAT.out).below hb1; have HB1 := Lib.hid hb1; clear hb1 HC1; obtain ⟨v2, hm2, C2⟩ := hat1.less hal2 hkl; rw [show ((a + 1 : Nat) : Int) = (a : Int) + 1 by omega] at C2; rw [show decide (l'[a + 1].1 < l'[k].1) = true from decide_eq_true (by have := HMIN.out; omega)] at C2; have HC2 := Lib.hid C2; have HAT1 := Lib.hid hat1; clear C2 hat1)
            go_roundw
            case rel => exact ⟨(a + 1), _, by go_num, by omega, by have := HA.out; omega, (swapL_perm hkl hal2).trans HP.out, HLT.out, hat3, (HM.out).trans ((MildH.of_below HB2.out (by have := HAT.out.1; have := HAT.out.lt; omega)).trans hmild3), fun q hq => (swapL_keep hkl hal2 (by omega) (by omega)).trans (HS.out q hq)⟩
            case measure => simp [intOf]; omega
          · have hstp := hu.stop (by omega) (fun q hq h0 hpq => Int.le_trans (Int.not_lt.1 hlt2) (hmin q hq h0 hpq))
            have HFIN := Lib.hid (show ∀ v w2, Below wr.heap.size wr w2 → DownGot base B n m l w (.returned v) w2 from fun v w2 hb => ⟨⟨v, rfl⟩, l', hp, hstp, hat.below hb, hm.trans (.of_below hb (by have := hat.1; have := hat.lt; omega)), hsame⟩)
            have HMIN := Lib.hid hlt2
            have HP := Lib.hid hp
            have HAT := Lib.hid hat
            have HM := Lib.hid hm
            have HS := Lib.hid hsame
            clear hmin hlt2 hp hat hm hsame hu hstp
            go_wp2_with first
              | (go_at_call 42; refine (HC2.out).mono ?_; rintro e w2 ⟨rfl, hb2⟩)
              | (go_at_call 42; refine (HC1.out).mono ?_; rintro e w1 ⟨rfl, hb1⟩; have hat1 := (HAT.out).below hb1; have HB1 := Lib.hid hb1; clear hb1 HC1; obtain ⟨v2, hm2, C2⟩ := hat1.less hal2 hkl; rw [show ((a + 1 : Nat) : Int) = (a : Int) + 1 by omega] at C2; rw [show decide (l'[a + 1].1 < l'[k].1) = false from decide_eq_false (by have := HMIN.out; omega)] at C2; have HC2 := Lib.hid C2; have HAT1 := Lib.hid hat1; clear C2 hat1)
            go_ret
            exact HFIN.out _ _ ((HB1.out).trans (hb2.mono HB1.out.size))
        · rw [decide_eq_false hlt] at C1
          have HC1 := Lib.hid C1
          clear C1
          have hmin : ∀ q (hq : q < n) (h0 : 0 < q) (hpq : (q - 1) / 2 = k), hkey (l'[a]'(by omega)) ≤ hkey (l'[q]'(by omega)) := fun q hq h0 hpq => by
            have hqa : q = a ∨ q = a + 1 := by have := HA.out; omega
            rcases hqa with rfl | rfl
            · exact Int.le_refl _
            · exact Int.not_lt.1 hlt
          have HCP : Hid ((a - 1) / 2 = k) := Lib.hid (by have := HA.out; omega)
          clear hlt
          by_cases hlt2 : l'[a].1 < l'[k].1
          · have hst := hu.step (k := a) (by omega) (by omega) (by omega) HCP.out hmk hlt2 hmin
            have HLT := Lib.hid hst
            have hnm : n - a < n - k := by have := HA.out; omega
            have HMIN := Lib.hid hlt2
            have HP := Lib.hid hp
            have HAT := Lib.hid hat
            have HM := Lib.hid hm
            have HS := Lib.hid hsame
            clear hmin hlt2 hp hat hm hsame hu hst
            go_wp2_with first
              | (go_at_call 43; refine (HC3.out).mono ?_; rintro e w3 ⟨⟨v, rfl⟩, hat3, hmild3⟩)
              | (go_at_call 42; refine (HC2.out).mono ?_; rintro e w2 ⟨rfl, hb2⟩; obtain ⟨v3, hm3, C3⟩ := ((HAT1.out).below hb2).swaps hkl hal; have HC3 := Lib.hid C3; have HB2 := Lib.hid ((HB1.out).trans (hb2.mono HB1.out.size)); clear C3 hb2)
              | (go_at_call 42; refine (HC1.out).mono ?_; rintro e w1 ⟨rfl, hb1⟩; have hat1 := (HAT.out).below hb1; have HB1 := Lib.hid hb1; clear hb1 HC1; obtain ⟨v2, hm2, C2⟩ := hat1.less hal hkl; rw [show decide (l'[a].1 < l'[k].1) = true from decide_eq_true (by have := HMIN.out; omega)] at C2; have HC2 := Lib.hid C2; have HAT1 := Lib.hid hat1; clear C2 hat1)
            go_roundw
            case rel => exact ⟨a, _, by go_num, by omega, by have := HA.out; omega, (swapL_perm hkl hal).trans HP.out, HLT.out, hat3, (HM.out).trans ((MildH.of_below HB2.out (by have := HAT.out.1; have := HAT.out.lt; omega)).trans hmild3), fun q hq => (swapL_keep hkl hal (by omega) (by omega)).trans (HS.out q hq)⟩
            case measure => simp [intOf]; omega
          · have hstp := hu.stop (by omega) (fun q hq h0 hpq => Int.le_trans (Int.not_lt.1 hlt2) (hmin q hq h0 hpq))
            have HFIN := Lib.hid (show ∀ v w2, Below wr.heap.size wr w2 → DownGot base B n m l w (.returned v) w2 from fun v w2 hb => ⟨⟨v, rfl⟩, l', hp, hstp, hat.below hb, hm.trans (.of_below hb (by have := hat.1; have := hat.lt; omega)), hsame⟩)
            have HMIN := Lib.hid hlt2
            have HP := Lib.hid hp
            have HAT := Lib.hid hat
            have HM := Lib.hid hm
            have HS := Lib.hid hsame
            clear hmin hlt2 hp hat hm hsame hu hstp
            go_wp2_with first
              | (go_at_call 42; refine (HC2.out).mono ?_; rintro e w2 ⟨rfl, hb2⟩)
              | (go_at_call 42; refine (HC1.out).mono ?_; rintro e w1 ⟨rfl, hb1⟩; have hat1 := (HAT.out).below hb1; have HB1 := Lib.hid hb1; clear hb1 HC1; obtain ⟨v2, hm2, C2⟩ := hat1.less hal hkl; rw [show decide (l'[a].1 < l'[k].1) = false from decide_eq_false (by have := HMIN.out; omega)] at C2; have HC2 := Lib.hid C2; have HAT1 := Lib.hid hat1; clear C2 hat1)
            go_ret
            exact HFIN.out _ _ ((HB1.out).trans (hb2.mono HB1.out.size))
      · have d3 : decide ((a : Int) + 1 < (n : Int)) = false := decide_eq_false (by omega)
        have hmin : ∀ q (hq : q < n) (h0 : 0 < q) (hpq : (q - 1) / 2 = k), hkey (l'[a]'(by omega)) ≤ hkey (l'[q]'(by omega)) := fun q hq h0 hpq => by
          have hqa : q = a := by have := HA.out; omega
          subst hqa
          exact Int.le_refl _
        have HCP : Hid ((a - 1) / 2 = k) := Lib.hid (by have := HA.out; omega)
        have h2n' : a + 1 ≤ n + 0 ∨ True := .inr trivial
        clear h2n'
        by_cases hlt2 : l'[a].1 < l'[k].1
        · have hst := hu.step (k := a) (by omega) (by omega) (by omega) HCP.out hmk hlt2 hmin
          have HLT := Lib.hid hst
          have hnm : n - a < n - k := by have := HA.out; omega
          have HMIN := Lib.hid hlt2
          have HP := Lib.hid hp
          have HAT := Lib.hid hat
          have HM := Lib.hid hm
          have HS := Lib.hid hsame
          clear hmin hlt2 hp hat hm hsame hu hst
          have hat1 := HAT.out
          have HB1 := Lib.hid (Below.refl wr.heap.size wr)
          (obtain ⟨v2, hm2, C2⟩ := hat1.less hal hkl; rw [show decide (l'[a].1 < l'[k].1) = true from decide_eq_true (by have := HMIN.out; omega)] at C2; have HC2 := Lib.hid C2; have HAT1 := Lib.hid hat1; clear C2 hat1)
          go_wp2_with first
            | (go_at_call 43; refine (HC3.out).mono ?_; rintro e w3 ⟨⟨v, rfl⟩, hat3, hmild3⟩)
            | (go_at_call 42; refine (HC2.out).mono ?_; rintro e w2 ⟨rfl, hb2⟩; obtain ⟨v3, hm3, C3⟩ := ((HAT1.out).below hb2).swaps hkl hal; have HC3 := Lib.hid C3; have HB2 := Lib.hid ((HB1.out).trans (hb2.mono HB1.out.size)); clear C3 hb2)
          go_roundw
          case rel => exact ⟨a, _, by go_num, by omega, by have := HA.out; omega, (swapL_perm hkl hal).trans HP.out, HLT.out, hat3, (HM.out).trans ((MildH.of_below HB2.out (by have := HAT.out.1; have := HAT.out.lt; omega)).trans hmild3), fun q hq => (swapL_keep hkl hal (by omega) (by omega)).trans (HS.out q hq)⟩
          case measure => simp [intOf]; omega
        · have hstp := hu.stop (by omega) (fun q hq h0 hpq => Int.le_trans (Int.not_lt.1 hlt2) (hmin q hq h0 hpq))
          have HFIN := Lib.hid (show ∀ v w2, Below wr.heap.size wr w2 → DownGot base B n m l w (.returned v) w2 from fun v w2 hb => ⟨⟨v, rfl⟩, l', hp, hstp, hat.below hb, hm.trans (.of_below hb (by have := hat.1; have := hat.lt; omega)), hsame⟩)
          have HMIN := Lib.hid hlt2
          have HP := Lib.hid hp
          have HAT := Lib.hid hat
          have HM := Lib.hid hm
          have HS := Lib.hid hsame
          clear hmin hlt2 hp hat hm hsame hu hstp
          have hat1 := HAT.out
          have HB1 := Lib.hid (Below.refl wr.heap.size wr)
          (obtain ⟨v2, hm2, C2⟩ := hat1.less hal hkl; rw [show decide (l'[a].1 < l'[k].1) = false from decide_eq_false (by have := HMIN.out; omega)] at C2; have HC2 := Lib.hid C2; have HAT1 := Lib.hid hat1; clear C2 hat1)
          go_wp2_with first
            | (go_at_call 42; refine (HC2.out).mono ?_; rintro e w2 ⟨rfl, hb2⟩)
          go_ret
          exact HFIN.out _ _ ((HB1.out).trans (hb2.mono HB1.out.size))
end Go.Proofs.Ytpehcaidjlemiaa
