/- What the document's own May of layer 5 answers: whether postings may be. Written by mkmay05.py. -/
import Derived.Test.YtfhjnblcnkjooaaBytes05
import Derived.BigQuiet
import Derived.Deep.QuietTactic
namespace Go.Proofs.Ytfhjnblcnkjooaa
open Go Go.RowKit
set_option linter.unusedVariables false

def MayRel (l : List Po) (w : World) (r i : Value) (wr : World) : Prop := r = .bool false ∧ ∃ k : Nat, k ≤ l.length ∧ i = .int .i64 (k : Int) ∧ -1 ≤ docAt l k ∧ mayB' (docAt l k) (l.drop k) = mayB' (-1) l ∧ Below w.heap.size w wr
theorem last_at {ps : List Int} {j : Nat} (h : j + 1 = ps.length) : ps.getD j 0 = ps.getLastD 0 := by
  rw [List.getLastD_eq_getLast?, List.getLast?_eq_getElem?, List.getD_eq_getElem?_getD, ← h]
  simp
theorem quiet_below {w : World} {n : Nat} (B : Nat) : Below B w (w.drewN n) := ⟨rfl, rfl, rfl, Nat.le_refl _, fun _ _ => rfl⟩

set_option maxHeartbeats 4000000 in
set_option maxRecDepth 100000 in
theorem ref05_May (A : Option Addr) (n d : Nat) (l : List Po) (w : World) (hn : l.length = n) (hnx : n ≤ 1073741824) (hpo : Posts w w.heap.size A l) (hpl : ∀ p ∈ l, p.2.length ≤ 1073741824) :
    Calls Try.prog 9 #[.slice A n d] w fun e w' => e = .returned (.bool (mayB' (-1) l)) ∧ Below w.heap.size w w' := by
  subst hn
  obtain ⟨ans, hans⟩ : ∃ ans, ans = mayB' (-1) l := ⟨_, rfl⟩
  rw [← hans]
  have HANS := Lib.hid hans
  have HPO := Lib.hid hpo
  have HPL := Lib.hid hpl
  clear hans hpo hpl
  go_enter Try.func9, Try.ntmps9
  go_wp2
  go_loopw [2, 3] (fun r i wr => MayRel l w r i wr) (fun _ i _ => l.length - (intOf i).toNat)
  case atStart => exact ⟨rfl, 0, by omega, rfl, by simp [docAt], rfl, Below.refl _ _⟩
  case round =>
    obtain ⟨rfl, k, hk, rfl, hx1, hris, hbw⟩ := hrel
    have hsz := hbw.size
    by_cases hlt : k < l.length
    · obtain ⟨b1, o1, e1, hb1, hc1, A2, c2, hc2, hlc, hcx, hr2⟩ := (HPO.out.below hbw).at_ hlt
      subst e1
      have hc0 : 0 < k → ∀ j, j = k - 1 → wr.cell? ⟨b1, o1 + j * 2, none⟩ = some (.int .i64 (docAt l k)) := fun h j hj => by
        obtain ⟨b2, o2, e2, _, hc3, _⟩ := (HPO.out.below hbw).at_ (k := j) (by omega)
        injection e2 with e2
        injection e2 with e3 e4
        subst e3 e4
        rw [hc3]
        have hk0 : k ≠ 0 := by omega
        simp only [docAt, if_neg hk0, hj]
      have ha0 : k = 0 → docAt l k = -1 := fun h => by simp [docAt, h]
      have hs := docAt_succ (l := l) (k := k)
      have hlp := HPL.out (l.getD k (0, [])) (by rw [List.getD_eq_getElem?_getD, List.getElem?_eq_getElem hlt]; simp)
      rw [drop_po hlt] at hris
      obtain ⟨q, hq⟩ : ∃ q, q = l.getD k (0, []) := ⟨_, rfl⟩
      rw [← hq] at hc1 hc2 hlc hr2 hris hs hlp
      obtain ⟨y, ps⟩ := q
      obtain ⟨x, hxx⟩ : ∃ x, x = docAt l k := ⟨_, rfl⟩
      rw [← hxx] at hris hx1 hc0 ha0
      simp only at hc1 hc2 hlc hr2 hs hlp
      have HNO : Hid (¬ (x < y ∧ y < 2147483648 ∧ placesB ps = true) → ans = false) := Lib.hid fun h => by
        rw [HANS.out, ← hris, Bool.eq_false_iff]
        intro hm
        have := mayB'_cons.1 hm
        exact h ⟨this.1, this.2.1, this.2.2.1⟩
      have HYES : Hid (x < y → y < 2147483648 → placesB ps = true → mayB' y (l.drop (k + 1)) = mayB' (-1) l) := Lib.hid fun h1 h2 h3 => by
        rw [← hris, mayB', decide_eq_true h1, decide_eq_true h2, h3]
        rfl
      have rr := ref_Rises A2 ps.length c2 ps wr (hr2.more hsz) rfl hlp
      obtain ⟨rb, hrb⟩ : ∃ rb, rb = risesZ (-1) ps := ⟨_, rfl⟩
      rw [← hrb] at rr
      have RR := Lib.hid rr
      have HRB := Lib.hid hrb
      have HR2 := Lib.hid hr2
      have HS := Lib.hid hs
      have HC0 := Lib.hid hc0
      have HA0 := Lib.hid ha0
      obtain ⟨P, hP⟩ : ∃ P, P = ps.length := ⟨_, rfl⟩
      rw [← hP] at hc2 hlc hlp RR
      have HPP := Lib.hid hP
      clear hris rr hrb hr2 hs hc0 ha0 hq hxx hP
      go_wp2_with (go_at_call 23; refine RR.out.mono ?_)
      rintro e w5 ⟨rfl, hb5⟩
      have hb5' : Below w.heap.size wr w5 := hb5.mono hsz
      have k1 := (hb5'.cell (p := ⟨b1, o1 + k * 2, none⟩) hb1).trans hc1
      have k2 := (hb5'.cell (p := ⟨b1, o1 + k * 2 + 1, none⟩) hb1).trans hc2
      have HK0 : Hid (0 < k → ∀ j, j = k - 1 → w5.cell? ⟨b1, o1 + j * 2, none⟩ = some (.int .i64 x)) := Lib.hid fun h j hj => (hb5'.cell (p := ⟨b1, o1 + j * 2, none⟩) hb1).trans (HC0.out h j hj)
      have HLAST : Hid (∀ p1, p1 + 1 = P → ∃ b3 o3, A2 = some ⟨b3, o3, none⟩ ∧ w5.cell? ⟨b3, o3 + p1, none⟩ = some (.int .i64 (ps.getLastD 0))) := Lib.hid fun p1 hp => by
        obtain ⟨b3, o3, e3, _, hc3⟩ := row_int' (HR2.out.below hb5') (k := p1) (by rw [← HPP.out]; omega)
        exact ⟨b3, o3, e3, by rw [hc3, last_at (by rw [← HPP.out]; exact hp)]⟩
      have HB5 := Lib.hid (hbw.trans hb5')
      clear hb5 hb5' hc1 hc2 RR HC0
      by_cases h1 : y < 0
      · have e1 : decide (y < 0) = true := decide_eq_true h1
        have HN0 := Lib.hid (HNO.out (by omega))
        go_wp2
        go_quiet (fail)
        go_wp2
        go_ret
        rw [HN0.out]
        exact ⟨rfl, HB5.out.trans (quiet_below _)⟩
      have e1 : decide (y < 0) = false := decide_eq_false h1
      by_cases h2 : 2147483648 ≤ y
      · have e2 : decide (2147483648 ≤ y) = true := decide_eq_true h2
        have HN0 := Lib.hid (HNO.out (by omega))
        go_wp2
        go_quiet (fail)
        go_wp2
        go_ret
        rw [HN0.out]
        exact ⟨rfl, HB5.out.trans (quiet_below _)⟩
      have e2 : decide (2147483648 ≤ y) = false := decide_eq_false h2
      have hyb : y < 2147483648 := by omega
      rcases Nat.eq_zero_or_pos k with hk0 | hk0
      · have hxy : x < y := by have := HA0.out hk0; omega
        have e3 : decide ((0 : Int) < (k : Int)) = false := decide_eq_false (by omega)
        have e3' : decide (0 < k) = false := decide_eq_false (by omega)
        clear hk0
        rcases Nat.eq_zero_or_pos P with hP0 | hP0
        · have hpe : ps = [] := List.eq_nil_of_length_eq_zero (by rw [← HPP.out]; exact hP0)
          have HN0 := Lib.hid (HNO.out (by rw [hpe]; simp [placesB]))
          have e4 : ((P : Int) == 0) = true := by rw [hP0]; rfl
          clear hpe hP0
          go_wp2
          go_quiet (fail)
          go_wp2
          go_ret
          rw [HN0.out]
          exact ⟨rfl, HB5.out.trans (quiet_below _)⟩
        · have e4 : ((P : Int) == 0) = false := by rw [beq_eq_false_iff_ne]; omega
          rcases hrbc : rb with _ | _
          · have HN0 := Lib.hid (HNO.out (by have := HRB.out; rw [hrbc] at this; simp [placesB, ← this]))
            subst hrbc
            go_wp2
            go_quiet (fail)
            go_wp2
            go_ret
            rw [HN0.out]
            exact ⟨rfl, HB5.out.trans (quiet_below _)⟩
          · obtain ⟨p1, hp1⟩ : ∃ p1, p1 + 1 = P := ⟨P - 1, by omega⟩
            obtain ⟨b3, o3, hA3, hlast⟩ := HLAST.out p1 hp1
            have hw2 : IntKind.i64.wrap ((P : Int) - 1) = (p1 : Int) := by rw [IntWalk.i64_in _ (by omega)]; omega
            have hp1P : p1 < P := by omega
            obtain ⟨z, hz⟩ : ∃ z, z = ps.getLastD 0 := ⟨_, rfl⟩
            rw [← hz] at hlast
            have hne : ps ≠ [] := by intro h; have := HPP.out; rw [h] at this; simp at this; omega
            have HZ := Lib.hid hz
            have HNE := Lib.hid hne
            have HRT : Hid (risesZ (-1) ps = true) := Lib.hid (by rw [← HRB.out]; exact hrbc)
            subst hA3
            clear hp1 hz hne
            subst hrbc
            by_cases hzb : 2147483648 ≤ z
            · have HN0 := Lib.hid (HNO.out (by intro h; have := (placesB_iff.1 h.2.2).2.2; rw [← HZ.out] at this; omega))
              have e6 : decide (2147483648 ≤ z) = true := decide_eq_true hzb
              go_wp2
              go_quiet (fail)
              go_wp2
              go_ret
              rw [HN0.out]
              exact ⟨rfl, HB5.out.trans (quiet_below _)⟩
            · have e6 : decide (2147483648 ≤ z) = false := decide_eq_false hzb
              have HY0 := Lib.hid (HYES.out hxy hyb (placesB_iff.2 ⟨HRT.out, HNE.out, by rw [← HZ.out]; omega⟩))
              have HXY := Lib.hid hxy
              clear hxy
              go_wp2
              go_quiet (fail)
              go_wp2
              go_roundw
              case rel => exact ⟨rfl, k + 1, by omega, by go_num, by rw [HS.out]; have := HXY.out; omega, by rw [HS.out]; exact HY0.out, HB5.out.trans (quiet_below _)⟩
              case measure => simp [intOf]; omega
      · obtain ⟨j, hj⟩ : ∃ j, j = k - 1 := ⟨_, rfl⟩
        have k0 := HK0.out hk0 j hj
        have hw1 : IntKind.i64.wrap ((k : Int) - 1) = (j : Int) := by rw [IntWalk.i64_in _ (by omega)]; omega
        have hjl : j < l.length := by omega
        have e3 : decide ((0 : Int) < (k : Int)) = true := decide_eq_true (by omega)
        have e3' : decide (0 < k) = true := decide_eq_true hk0
        clear hj
        by_cases h3 : y ≤ x
        · have e5 : decide (y ≤ x) = true := decide_eq_true h3
          have HN0 := Lib.hid (HNO.out (by omega))
          go_wp2
          go_quiet (fail)
          go_wp2
          go_ret
          rw [HN0.out]
          exact ⟨rfl, HB5.out.trans (quiet_below _)⟩
        have e5 : decide (y ≤ x) = false := decide_eq_false h3
        have hxy : x < y := by omega
        rcases Nat.eq_zero_or_pos P with hP0 | hP0
        · have hpe : ps = [] := List.eq_nil_of_length_eq_zero (by rw [← HPP.out]; exact hP0)
          have HN0 := Lib.hid (HNO.out (by rw [hpe]; simp [placesB]))
          have e4 : ((P : Int) == 0) = true := by rw [hP0]; rfl
          clear hpe hP0
          go_wp2
          go_quiet (fail)
          go_wp2
          go_ret
          rw [HN0.out]
          exact ⟨rfl, HB5.out.trans (quiet_below _)⟩
        · have e4 : ((P : Int) == 0) = false := by rw [beq_eq_false_iff_ne]; omega
          rcases hrbc : rb with _ | _
          · have HN0 := Lib.hid (HNO.out (by have := HRB.out; rw [hrbc] at this; simp [placesB, ← this]))
            subst hrbc
            go_wp2
            go_quiet (fail)
            go_wp2
            go_ret
            rw [HN0.out]
            exact ⟨rfl, HB5.out.trans (quiet_below _)⟩
          · obtain ⟨p1, hp1⟩ : ∃ p1, p1 + 1 = P := ⟨P - 1, by omega⟩
            obtain ⟨b3, o3, hA3, hlast⟩ := HLAST.out p1 hp1
            have hw2 : IntKind.i64.wrap ((P : Int) - 1) = (p1 : Int) := by rw [IntWalk.i64_in _ (by omega)]; omega
            have hp1P : p1 < P := by omega
            obtain ⟨z, hz⟩ : ∃ z, z = ps.getLastD 0 := ⟨_, rfl⟩
            rw [← hz] at hlast
            have hne : ps ≠ [] := by intro h; have := HPP.out; rw [h] at this; simp at this; omega
            have HZ := Lib.hid hz
            have HNE := Lib.hid hne
            have HRT : Hid (risesZ (-1) ps = true) := Lib.hid (by rw [← HRB.out]; exact hrbc)
            subst hA3
            clear hp1 hz hne
            subst hrbc
            by_cases hzb : 2147483648 ≤ z
            · have HN0 := Lib.hid (HNO.out (by intro h; have := (placesB_iff.1 h.2.2).2.2; rw [← HZ.out] at this; omega))
              have e6 : decide (2147483648 ≤ z) = true := decide_eq_true hzb
              go_wp2
              go_quiet (fail)
              go_wp2
              go_ret
              rw [HN0.out]
              exact ⟨rfl, HB5.out.trans (quiet_below _)⟩
            · have e6 : decide (2147483648 ≤ z) = false := decide_eq_false hzb
              have HY0 := Lib.hid (HYES.out hxy hyb (placesB_iff.2 ⟨HRT.out, HNE.out, by rw [← HZ.out]; omega⟩))
              have HXY := Lib.hid hxy
              clear hxy
              go_wp2
              go_quiet (fail)
              go_wp2
              go_roundw
              case rel => exact ⟨rfl, k + 1, by omega, by go_num, by rw [HS.out]; have := HXY.out; omega, by rw [HS.out]; exact HY0.out, HB5.out.trans (quiet_below _)⟩
              case measure => simp [intOf]; omega
    · rw [List.drop_eq_nil_of_le (by omega)] at hris
      have HF : Hid (ans = true) := Lib.hid (by rw [HANS.out, ← hris]; rfl)
      clear hris
      go_wp2
      go_ret
      rw [HF.out]
      exact ⟨rfl, hbw⟩
end Go.Proofs.Ytfhjnblcnkjooaa
