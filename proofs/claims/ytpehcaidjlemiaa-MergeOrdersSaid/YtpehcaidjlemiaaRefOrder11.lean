/- What the document's Order of layer 11 answers. -/
import Derived.Test.YtpehcaidjlemiaaRefOrdP11
import Derived.BigCall
import Derived.BigQuiet
import Derived.Deep.QuietTactic
import Derived.Deep.RegionHeld3
set_option linter.unusedVariables false
namespace Go.Proofs.Ytpehcaidjlemiaa
open Go Go.RowKit

set_option maxHeartbeats 4000000 in
set_option maxRecDepth 100000 in
theorem ref11_Order (A : Option Addr) (m c : Nat) (l : List (List Int)) (w : World) (hL : Lol (Value.int .i64) w w.heap.size A l) (hm : l.length = m) (hm2 : m ≤ 1000) (hl : ∀ s ∈ l, s.length ≤ 1000) :
    Calls Try.prog 6 #[.slice A m c] w (GaveOrdN l w) := by
  obtain ⟨i0, hi0, hz0, hz1, hz2⟩ := info_parts info_int
  obtain ⟨j0, hj0, hy0, hy1, hy2⟩ := info_parts info_pair
  have htot : (l.map List.length).sum ≤ 1000000 := sum_bound hm hm2 hl
  have HL := Lib.hid hL
  have HLL := Lib.hid hl
  have HM := Lib.hid hm
  have HT := Lib.hid htot
  clear hL hl hm htot
  go_enter Try.func6, Try.ntmps6
  go_wp2
  go_loopw [2, 3, 4, 5] (fun r2 r3 i u wr => RefOrd1 l w r2 r3 i u wr) (fun _ _ i _ _ => m - (intOf i).toNat)
  case atStart => exact ⟨rfl, rfl, 0, Nat.zero_le _, rfl, fun j _ h => by omega, Below.refl _ _⟩
  case round =>
    obtain ⟨rfl, rfl, k, hk, rfl, hr, hbw⟩ := hrel
    rw [HM.out] at hk
    by_cases hlt : k < m
    · obtain ⟨b1, o1, A', c', e1, _, hc1, ⟨hcc, hcm⟩, hrow⟩ := (HL.out.below hbw).at_ (i := k) (by rw [HM.out]; exact hlt)
      subst e1
      have hsl := HLL.out _ (List.getElem_mem (l := l) (n := k) (by rw [HM.out]; exact hlt))
      have hkl : k < l.length := by rw [HM.out]; exact hlt
      obtain ⟨s, hs⟩ : ∃ s, s = l[k] := ⟨_, rfl⟩
      rw [← hs] at hc1 hcc hrow hsl
      obtain ⟨n, hn⟩ : ∃ n, n = s.length := ⟨_, rfl⟩
      rw [← hn] at hc1 hcc hsl
      have C1 := Lib.hid (ref04_Rises A' n c' s wr (hrow.more hbw.size) hn.symm (by omega))
      obtain ⟨z, hz⟩ : ∃ z, z = risesZ (-1) s := ⟨_, rfl⟩
      rw [← hz] at C1
      have HZ : Hid (z = risesZ (-1) l[k]) := Lib.hid (by rw [hz, hs])
      have HR := Lib.hid hr
      have HB := Lib.hid hbw
      clear hn hs hz hr hrow hbw hcc hsl
      cases z with
      | true =>
        go_wp2_with (go_at_call 17; refine (C1.out).mono ?_; rintro e w5 ⟨rfl, hb5⟩)
        go_roundw
        case rel => exact ⟨rfl, rfl, k + 1, by rw [HM.out]; omega, by go_num, fun j hj hjk => by
          by_cases e : j = k
          · subst e; exact HZ.out.symm
          · exact HR.out j hj (by omega), HB.out.trans (hb5.mono HB.out.size)⟩
        case measure => simp [intOf]; omega
      | false =>
        go_wp2_with (go_at_call 17; refine (C1.out).mono ?_; rintro e w5 ⟨rfl, hb5⟩)
        go_ret2
        exact ⟨1, [], none, 0, .bad (fun h => by have := h _ (List.getElem_mem hkl); rw [← HZ.out] at this; cases this), rfl, ⟨Nat.le_refl _, Nat.zero_le _⟩, Row.nil, HB.out.trans (hb5.mono HB.out.size), Nat.zero_le _⟩
    · have hkm : k = m := by omega
      have hall : ∀ s ∈ l, risesZ (-1) s = true := fun s hs => by
        obtain ⟨j, hj, rfl⟩ := List.getElem_of_mem hs
        exact hr j hj (by rw [hkm, ← HM.out]; exact hj)
      obtain ⟨w1, hrun, hown1, hgrow1⟩ := run_make_full (P := Try.prog) wr w.heap.size 23 3 i0 _ 1 Try.underlying23 hi0 hz0 hz1 .i64 .i64 m (by rw [hz2]; omega) (by unfold maxLen; omega) hbw.size
      have hrep : (madeCells #[Value.int .i64 0] m).toList = ints (natI (List.replicate m 0)) := by rw [toList_madeCells_one]; simp [ints, natI]
      rw [Nat.mul_one] at hown1
      have hown1' : w1.ownsRow w.heap.size 3 1 (.slice (some ⟨wr.heap.size, 0, none⟩) m m) m (ints (natI (List.replicate m 0))) := by rw [← hrep]; exact hown1
      have hb1 : Below wr.heap.size wr w1 := (Below.refl _ wr).grown hgrow1 (Nat.le_refl _) (fun k hk => by cases hk)
      obtain ⟨g, hge⟩ : ∃ g, g = wr.heap.size := ⟨_, rfl⟩
      have hst : RefOrd2 l w g m (.slice none 0 0) (.int .i64 0) (.slice none 0 0) (.int .i64 (-1)) w1 :=
        ⟨rfl, rfl, List.replicate l.length 0, [], -1, rfl, rfl, ordMid_begin hall, by simp, World.ownsRow_nil _ _ _ _, by rw [hge, HM.out]; exact hown1', hbw.trans (hb1.mono hbw.size)⟩
      have HST := Lib.hid hst
      have HALL := Lib.hid hall
      have HB := Lib.hid hbw
      clear hown1 hown1' hb1 hgrow1 hrep hst hall hr hbw
      have hnk : ¬ (k : Int) < m := by omega
      subst hkm
      go_wp2
      rw [← hge]
      clear hrun hge
      go_loopw [2, 3, 7, 8, 9, 10, 11] (fun r2 r3 v7 v8 v9 i n wq => RefOrd2 l w g k r2 r3 v7 v8 wq) (fun _ _ v7 _ _ _ _ _ => 1000001 - lenV v7)
      case atStart => exact HST.out
      case round =>
        clear HST
        obtain ⟨rfl, rfl, a, o, last, rfl, hlen, hat⟩ := hrel
        obtain ⟨wq, hwq⟩ : ∃ wq, wq = wr := ⟨_, rfl⟩
        subst hwq
        have HAT := Lib.hid hat
        have HLEN := Lib.hid hlen
        clear hat hlen
        go_wp2
        go_loopw [9, 10] (fun v9 i wx => RefOrd3 l a wq v9 i wx) (fun _ i _ => k - (intOf i).toNat)
        case atStart => exact ⟨0, -1, Nat.zero_le _, rfl, rfl, .inl ⟨rfl, fun j h => by omega⟩, Below.refl _ _⟩
        case round =>
          obtain ⟨j, best, hj, rfl, rfl, hbest, hbx⟩ := hrel
          rw [HM.out] at hj
          have hatx := HAT.out.later hbx
          by_cases hlt : j < k
          · have hjl : j < l.length := by rw [HM.out]; exact hlt
            have hca := next_at hatx hjl
            obtain ⟨b1, o1, A', c', e1, _, hc1, ⟨hcc, hcm⟩, hrow⟩ := (HL.out.below hatx.below).at_ hjl
            subst e1
            have hsl := HLL.out _ (List.getElem_mem hjl)
            have hio : InO l (j, a.getD j 0) ↔ a.getD j 0 < l[j].length := ⟨fun h => (inO_at.1 h).2, fun h => inO_at.2 ⟨hjl, h⟩⟩
            obtain ⟨n, hn⟩ : ∃ n, n = l[j].length := ⟨_, rfl⟩
            rw [← hn] at hc1 hcc hsl hio
            by_cases hin : a.getD j 0 < n
            · have hino := hio.2 hin
              obtain ⟨b2, o2, e2, _, hc2⟩ := row_int hrow (k := a.getD j 0) (by omega)
              subst e2
              have hv : valO l (j, a.getD j 0) = l[j][a.getD j 0] := valO_at hjl _
              rw [← hv] at hc2
              obtain ⟨x, hx⟩ : ∃ x, x = valO l (j, a.getD j 0) := ⟨_, rfl⟩
              rw [← hx] at hc2
              have HX := Lib.hid hx
              have HBE := Lib.hid hbest
              have HIN := Lib.hid hino
              obtain ⟨aj, haj⟩ : ∃ aj, aj = a.getD j 0 := ⟨_, rfl⟩
              rw [← haj] at hca hc2 hin
              have d1 : decide ((aj : Int) < (n : Int)) = true := decide_eq_true (by omega)
              by_cases hb0 : best = -1
              · subst hb0
                have hfin : ∀ q, RefOrd3 l a wq (.int .i64 (j : Int)) (.int .i64 ((j : Int) + 1)) (wr.drewN q) := fun q => ⟨j + 1, (j : Int), by rw [HM.out]; omega, by go_num, rfl, HBE.out.first HIN.out, hbx.trans ⟨rfl, rfl, rfl, Nat.le_refl _, fun _ _ => rfl⟩⟩
                have HFIN := Lib.hid hfin
                clear hbest hino hio hx hv haj hn hrow hatx hfin
                go_wp2
                go_quiet (fail)
                go_wp2
                go_roundw
                case rel => exact HFIN.out _
                case measure => simp [intOf]; omega
              · rcases hbest with ⟨h1, _⟩ | ⟨b, rfl, hbi, hbm⟩
                · exact absurd h1 hb0
                · clear hb0
                  obtain ⟨hbl, hbn⟩ := inO_at.1 hbi
                  have hcb := next_at hatx hbl
                  obtain ⟨b3, o3, A3, c3, e3, _, hc3, ⟨hcc3, hcm3⟩, hrow3⟩ := (HL.out.below hatx.below).at_ hbl
                  injection e3 with e3
                  injection e3 with e3 e4
                  subst e3 e4
                  have hsl3 := HLL.out _ (List.getElem_mem hbl)
                  obtain ⟨n3, hn3⟩ : ∃ n3, n3 = l[b].length := ⟨_, rfl⟩
                  rw [← hn3] at hc3 hcc3 hsl3 hbn
                  obtain ⟨b4, o4, e5, _, hc4⟩ := row_int hrow3 (k := a.getD b 0) (by omega)
                  subst e5
                  have hv3 : valO l (b, a.getD b 0) = l[b][a.getD b 0] := valO_at hbl _
                  rw [← hv3] at hc4
                  obtain ⟨y, hy⟩ : ∃ y, y = valO l (b, a.getD b 0) := ⟨_, rfl⟩
                  rw [← hy] at hc4
                  have HY := Lib.hid hy
                  obtain ⟨ab, hab⟩ : ∃ ab, ab = a.getD b 0 := ⟨_, rfl⟩
                  rw [← hab] at hcb hc4 hbn
                  have d2 : decide ((b : Int) < 0) = false := decide_eq_false (by omega)
                  have hbk : b < k := by rw [← HM.out]; exact hbl
                  by_cases hxy : x < y
                  · have d3 : decide (x < y) = true := decide_eq_true hxy
                    have hfin : ∀ q, RefOrd3 l a wq (.int .i64 (j : Int)) (.int .i64 ((j : Int) + 1)) (wr.drewN q) := fun q => ⟨j + 1, (j : Int), by rw [HM.out]; omega, by go_num, rfl, HBE.out.take HIN.out (by rw [← HX.out, ← HY.out]; exact hxy), hbx.trans ⟨rfl, rfl, rfl, Nat.le_refl _, fun _ _ => rfl⟩⟩
                    have HFIN := Lib.hid hfin
                    clear hbi hbm hino hio hx hv haj hn hrow hatx hfin hy hv3 hab hn3 hrow3
                    go_wp2
                    go_quiet (fail)
                    go_wp2
                    go_roundw
                    case rel => exact HFIN.out _
                    case measure => simp [intOf]; omega
                  · have d3 : decide (x < y) = false := decide_eq_false hxy
                    have hfin : ∀ q, RefOrd3 l a wq (.int .i64 (b : Int)) (.int .i64 ((j : Int) + 1)) (wr.drewN q) := fun q => ⟨j + 1, (b : Int), by rw [HM.out]; omega, by go_num, rfl, HBE.out.stay (by rw [← HX.out, ← HY.out]; omega), hbx.trans ⟨rfl, rfl, rfl, Nat.le_refl _, fun _ _ => rfl⟩⟩
                    have HFIN := Lib.hid hfin
                    clear hbi hbm hino hio hx hv haj hn hrow hatx hfin hy hv3 hab hn3 hrow3 hxy
                    go_wp2
                    go_quiet (fail)
                    go_wp2
                    go_roundw
                    case rel => exact HFIN.out _
                    case measure => simp [intOf]; omega
            · have hfin : ∀ q, RefOrd3 l a wq (.int .i64 best) (.int .i64 ((j : Int) + 1)) (wr.drewN q) := fun q => ⟨j + 1, best, by rw [HM.out]; omega, by go_num, rfl, hbest.skip fun h => hin (hio.1 h), hbx.trans ⟨rfl, rfl, rfl, Nat.le_refl _, fun _ _ => rfl⟩⟩
              have HFIN := Lib.hid hfin
              obtain ⟨aj, haj⟩ : ∃ aj, aj = a.getD j 0 := ⟨_, rfl⟩
              rw [← haj] at hca hin
              have d1 : decide ((aj : Int) < (n : Int)) = false := decide_eq_false (by omega)
              have HGE : Hid (n ≤ aj) := Lib.hid (by omega)
              clear hbest hio hn hrow hatx hfin haj hin
              go_upto_region 14 with fail
              refine wp_region_noPanic ?_
              refine wp_region_held_drew (S := fun w' => w'.cell? ⟨g, j, none⟩ = some (.int .i64 (aj : Int)) ∧ w'.cell? ⟨b1, o1 + j, none⟩ = some (.slice A' n c')) (by kernel_rfl) (⟨hca, hc1⟩) (fun hHeld => ?_)
              refine wpAnyH_take (i := 0) (v := .slice (some ⟨g, 0, none⟩) k k) rfl (by kernel_rfl) (by kernel_rfl) (by kernel_rfl) (fun _ _ _ h => h) (Or.inl ⟨by rfl, fun wx hSw => by go_simp⟩) (by assumption) ?_
              try simp only [Act.put, List.getElem_toArray, List.getElem_cons_zero, List.setIfInBounds_toArray, List.set_cons_zero, List.set_cons_succ]
              refine wpAnyH_take (i := 1) (v := .int .i64 (j : Int)) rfl (by kernel_rfl) (by kernel_rfl) (by kernel_rfl) (fun _ _ _ h => h) (Or.inl ⟨by rfl, fun wx hSw => by go_simp⟩) (by assumption) ?_
              try simp only [Act.put, List.getElem_toArray, List.getElem_cons_zero, List.getElem_cons_succ, List.setIfInBounds_toArray, List.set_cons_zero, List.set_cons_succ]
              refine wpAnyH_take (i := 2) (v := .pointer (some ⟨g, j, none⟩)) rfl (by kernel_rfl) (by kernel_rfl) (by kernel_rfl) (fun _ _ _ h => h) (Or.inl ⟨by rfl, fun wx hSw => by go_simp⟩) (by assumption) ?_
              try simp only [Act.put, List.getElem_toArray, List.getElem_cons_zero, List.getElem_cons_succ, List.setIfInBounds_toArray, List.set_cons_zero, List.set_cons_succ]
              refine wpAnyH_take (i := 3) (v := .int .i64 (aj : Int)) rfl (by kernel_rfl) (by kernel_rfl) (by kernel_rfl) (fun _ _ _ h => h) (Or.inl ⟨by rfl, fun wx hSw => by obtain ⟨s1, s2⟩ := hSw; go_simp⟩) (by assumption) ?_
              try simp only [Act.put, List.getElem_toArray, List.getElem_cons_zero, List.getElem_cons_succ, List.setIfInBounds_toArray, List.set_cons_zero, List.set_cons_succ]
              refine wpAnyH_take (i := 4) (v := .slice (some ⟨b1, o1, none⟩) k c) rfl (by kernel_rfl) (by kernel_rfl) (by kernel_rfl) (fun _ _ _ h => h) (Or.inl ⟨by rfl, fun wx hSw => by go_simp⟩) (by assumption) ?_
              try simp only [Act.put, List.getElem_toArray, List.getElem_cons_zero, List.getElem_cons_succ, List.setIfInBounds_toArray, List.set_cons_zero, List.set_cons_succ]
              refine wpAnyH_take (i := 5) (v := .int .i64 (j : Int)) rfl (by kernel_rfl) (by kernel_rfl) (by kernel_rfl) (fun _ _ _ h => h) (Or.inl ⟨by rfl, fun wx hSw => by go_simp⟩) (by assumption) ?_
              try simp only [Act.put, List.getElem_toArray, List.getElem_cons_zero, List.getElem_cons_succ, List.setIfInBounds_toArray, List.set_cons_zero, List.set_cons_succ]
              refine wpAnyH_take (i := 6) (v := .pointer (some ⟨b1, o1 + j, none⟩)) rfl (by kernel_rfl) (by kernel_rfl) (by kernel_rfl) (fun _ _ _ h => h) (Or.inl ⟨by rfl, fun wx hSw => by go_simp⟩) (by assumption) ?_
              try simp only [Act.put, List.getElem_toArray, List.getElem_cons_zero, List.getElem_cons_succ, List.setIfInBounds_toArray, List.set_cons_zero, List.set_cons_succ]
              refine wpAnyH_take (i := 7) (v := .slice A' n c') rfl (by kernel_rfl) (by kernel_rfl) (by kernel_rfl) (fun _ _ _ h => h) (Or.inl ⟨by rfl, fun wx hSw => by obtain ⟨s1, s2⟩ := hSw; go_simp⟩) (by assumption) ?_
              try simp only [Act.put, List.getElem_toArray, List.getElem_cons_zero, List.getElem_cons_succ, List.setIfInBounds_toArray, List.set_cons_zero, List.set_cons_succ]
              refine wpAnyH_take (i := 8) (v := .int .i64 (n : Int)) rfl (by kernel_rfl) (by kernel_rfl) (by kernel_rfl) (fun _ _ _ h => h) (Or.inl ⟨by rfl, fun wx hSw => by go_simp⟩) (by assumption) ?_
              try simp only [Act.put, List.getElem_toArray, List.getElem_cons_zero, List.getElem_cons_succ, List.setIfInBounds_toArray, List.set_cons_zero, List.set_cons_succ]
              refine wpAnyH_take (i := 9) (v := .bool false) rfl (by kernel_rfl) (by kernel_rfl) (by kernel_rfl) (fun _ _ _ h => h) (Or.inl ⟨by rfl, fun wx hSw => by go_simp; exact HGE.out⟩) (by assumption) ?_
              try simp only [Act.put, List.getElem_toArray, List.getElem_cons_zero, List.getElem_cons_succ, List.setIfInBounds_toArray, List.set_cons_zero, List.set_cons_succ]
              refine wpAnyH_take (i := 10) (v := .bool false) rfl (by kernel_rfl) (by kernel_rfl) (by kernel_rfl) (fun _ _ _ h => h) (Or.inl ⟨by rfl, fun wx hSw => by go_simp⟩) (by assumption) ?_
              try simp only [Act.put, List.getElem_toArray, List.getElem_cons_zero, List.getElem_cons_succ, List.setIfInBounds_toArray, List.set_cons_zero, List.set_cons_succ]
              refine wpAnyH_take (i := 11) (v := undef) rfl (by kernel_rfl) (by kernel_rfl) (by kernel_rfl) (fun _ _ _ h => h) (Or.inr ⟨by rfl, rfl⟩) (by assumption) ?_
              try simp only [Act.put, List.getElem_toArray, List.getElem_cons_zero, List.getElem_cons_succ, List.setIfInBounds_toArray, List.set_cons_zero, List.set_cons_succ]
              refine wpAnyH_take (i := 12) (v := undef) rfl (by kernel_rfl) (by kernel_rfl) (by kernel_rfl) (fun _ _ _ h => h) (Or.inr ⟨by rfl, rfl⟩) (by assumption) ?_
              try simp only [Act.put, List.getElem_toArray, List.getElem_cons_zero, List.getElem_cons_succ, List.setIfInBounds_toArray, List.set_cons_zero, List.set_cons_succ]
              refine wpAnyH_take (i := 13) (v := undef) rfl (by kernel_rfl) (by kernel_rfl) (by kernel_rfl) (fun _ _ _ h => h) (Or.inr ⟨by rfl, rfl⟩) (by assumption) ?_
              try simp only [Act.put, List.getElem_toArray, List.getElem_cons_zero, List.getElem_cons_succ, List.setIfInBounds_toArray, List.set_cons_zero, List.set_cons_succ]
              refine wpAnyH_take (i := 14) (v := undef) rfl (by kernel_rfl) (by kernel_rfl) (by kernel_rfl) (fun _ _ _ h => h) (Or.inr ⟨by rfl, rfl⟩) (by assumption) ?_
              try simp only [Act.put, List.getElem_toArray, List.getElem_cons_zero, List.getElem_cons_succ, List.setIfInBounds_toArray, List.set_cons_zero, List.set_cons_succ]
              refine wpAnyH_take (i := 15) (v := undef) rfl (by kernel_rfl) (by kernel_rfl) (by kernel_rfl) (fun _ _ _ h => h) (Or.inr ⟨by rfl, rfl⟩) (by assumption) ?_
              try simp only [Act.put, List.getElem_toArray, List.getElem_cons_zero, List.getElem_cons_succ, List.setIfInBounds_toArray, List.set_cons_zero, List.set_cons_succ]
              refine wpAnyH_take (i := 16) (v := undef) rfl (by kernel_rfl) (by kernel_rfl) (by kernel_rfl) (fun _ _ _ h => h) (Or.inr ⟨by rfl, rfl⟩) (by assumption) ?_
              try simp only [Act.put, List.getElem_toArray, List.getElem_cons_zero, List.getElem_cons_succ, List.setIfInBounds_toArray, List.set_cons_zero, List.set_cons_succ]
              refine wpAnyH_take (i := 17) (v := undef) rfl (by kernel_rfl) (by kernel_rfl) (by kernel_rfl) (fun _ _ _ h => h) (Or.inr ⟨by rfl, rfl⟩) (by assumption) ?_
              try simp only [Act.put, List.getElem_toArray, List.getElem_cons_zero, List.getElem_cons_succ, List.setIfInBounds_toArray, List.set_cons_zero, List.set_cons_succ]
              refine wpAnyH_take (i := 18) (v := undef) rfl (by kernel_rfl) (by kernel_rfl) (by kernel_rfl) (fun _ _ _ h => h) (Or.inr ⟨by rfl, rfl⟩) (by assumption) ?_
              try simp only [Act.put, List.getElem_toArray, List.getElem_cons_zero, List.getElem_cons_succ, List.setIfInBounds_toArray, List.set_cons_zero, List.set_cons_succ]
              refine wpAnyH_take (i := 19) (v := undef) rfl (by kernel_rfl) (by kernel_rfl) (by kernel_rfl) (fun _ _ _ h => h) (Or.inr ⟨by rfl, rfl⟩) (by assumption) ?_
              try simp only [Act.put, List.getElem_toArray, List.getElem_cons_zero, List.getElem_cons_succ, List.setIfInBounds_toArray, List.set_cons_zero, List.set_cons_succ]
              refine wpAnyH_take (i := 20) (v := undef) rfl (by kernel_rfl) (by kernel_rfl) (by kernel_rfl) (fun _ _ _ h => h) (Or.inr ⟨by rfl, rfl⟩) (by assumption) ?_
              try simp only [Act.put, List.getElem_toArray, List.getElem_cons_zero, List.getElem_cons_succ, List.setIfInBounds_toArray, List.set_cons_zero, List.set_cons_succ]
              refine wpAnyH_take (i := 21) (v := undef) rfl (by kernel_rfl) (by kernel_rfl) (by kernel_rfl) (fun _ _ _ h => h) (Or.inr ⟨by rfl, rfl⟩) (by assumption) ?_
              try simp only [Act.put, List.getElem_toArray, List.getElem_cons_zero, List.getElem_cons_succ, List.setIfInBounds_toArray, List.set_cons_zero, List.set_cons_succ]
              refine wpAnyH_take (i := 22) (v := undef) rfl (by kernel_rfl) (by kernel_rfl) (by kernel_rfl) (fun _ _ _ h => h) (Or.inr ⟨by rfl, rfl⟩) (by assumption) ?_
              try simp only [Act.put, List.getElem_toArray, List.getElem_cons_zero, List.getElem_cons_succ, List.setIfInBounds_toArray, List.set_cons_zero, List.set_cons_succ]
              refine wpAnyH_take (i := 23) (v := undef) rfl (by kernel_rfl) (by kernel_rfl) (by kernel_rfl) (fun _ _ _ h => h) (Or.inr ⟨by rfl, rfl⟩) (by assumption) ?_
              try simp only [Act.put, List.getElem_toArray, List.getElem_cons_zero, List.getElem_cons_succ, List.setIfInBounds_toArray, List.set_cons_zero, List.set_cons_succ]
              refine wpAnyH_take (i := 24) (v := undef) rfl (by kernel_rfl) (by kernel_rfl) (by kernel_rfl) (fun _ _ _ h => h) (Or.inr ⟨by rfl, rfl⟩) (by assumption) ?_
              try simp only [Act.put, List.getElem_toArray, List.getElem_cons_zero, List.getElem_cons_succ, List.setIfInBounds_toArray, List.set_cons_zero, List.set_cons_succ]
              refine wpAnyH_take (i := 25) (v := undef) rfl (by kernel_rfl) (by kernel_rfl) (by kernel_rfl) (fun _ _ _ h => h) (Or.inr ⟨by rfl, rfl⟩) (by assumption) ?_
              try simp only [Act.put, List.getElem_toArray, List.getElem_cons_zero, List.getElem_cons_succ, List.setIfInBounds_toArray, List.set_cons_zero, List.set_cons_succ]
              refine wpAnyH_take (i := 26) (v := undef) rfl (by kernel_rfl) (by kernel_rfl) (by kernel_rfl) (fun _ _ _ h => h) (Or.inr ⟨by rfl, rfl⟩) (by assumption) ?_
              try simp only [Act.put, List.getElem_toArray, List.getElem_cons_zero, List.getElem_cons_succ, List.setIfInBounds_toArray, List.set_cons_zero, List.set_cons_succ]
              refine wpAnyH_take (i := 27) (v := undef) rfl (by kernel_rfl) (by kernel_rfl) (by kernel_rfl) (fun _ _ _ h => h) (Or.inr ⟨by rfl, rfl⟩) (by assumption) ?_
              try simp only [Act.put, List.getElem_toArray, List.getElem_cons_zero, List.getElem_cons_succ, List.setIfInBounds_toArray, List.set_cons_zero, List.set_cons_succ]
              refine wpAnyH_take (i := 28) (v := undef) rfl (by kernel_rfl) (by kernel_rfl) (by kernel_rfl) (fun _ _ _ h => h) (Or.inr ⟨by rfl, rfl⟩) (by assumption) ?_
              try simp only [Act.put, List.getElem_toArray, List.getElem_cons_zero, List.getElem_cons_succ, List.setIfInBounds_toArray, List.set_cons_zero, List.set_cons_succ]
              refine wpAnyH_take (i := 29) (v := undef) rfl (by kernel_rfl) (by kernel_rfl) (by kernel_rfl) (fun _ _ _ h => h) (Or.inr ⟨by rfl, rfl⟩) (by assumption) ?_
              try simp only [Act.put, List.getElem_toArray, List.getElem_cons_zero, List.getElem_cons_succ, List.setIfInBounds_toArray, List.set_cons_zero, List.set_cons_succ]
              refine wpAnyH_take (i := 30) (v := undef) rfl (by kernel_rfl) (by kernel_rfl) (by kernel_rfl) (fun _ _ _ h => h) (Or.inr ⟨by rfl, rfl⟩) (by assumption) ?_
              try simp only [Act.put, List.getElem_toArray, List.getElem_cons_zero, List.getElem_cons_succ, List.setIfInBounds_toArray, List.set_cons_zero, List.set_cons_succ]
              refine wpAnyH_take (i := 31) (v := undef) rfl (by kernel_rfl) (by kernel_rfl) (by kernel_rfl) (fun _ _ _ h => h) (Or.inr ⟨by rfl, rfl⟩) (by assumption) ?_
              try simp only [Act.put, List.getElem_toArray, List.getElem_cons_zero, List.getElem_cons_succ, List.setIfInBounds_toArray, List.set_cons_zero, List.set_cons_succ]
              refine wpAnyH_take (i := 32) (v := undef) rfl (by kernel_rfl) (by kernel_rfl) (by kernel_rfl) (fun _ _ _ h => h) (Or.inr ⟨by rfl, rfl⟩) (by assumption) ?_
              try simp only [Act.put, List.getElem_toArray, List.getElem_cons_zero, List.getElem_cons_succ, List.setIfInBounds_toArray, List.set_cons_zero, List.set_cons_succ]
              refine wpAnyH_take (i := 33) (v := undef) rfl (by kernel_rfl) (by kernel_rfl) (by kernel_rfl) (fun _ _ _ h => h) (Or.inr ⟨by rfl, rfl⟩) (by assumption) ?_
              try simp only [Act.put, List.getElem_toArray, List.getElem_cons_zero, List.getElem_cons_succ, List.setIfInBounds_toArray, List.set_cons_zero, List.set_cons_succ]
              refine wpAnyH_take (i := 34) (v := undef) rfl (by kernel_rfl) (by kernel_rfl) (by kernel_rfl) (fun _ _ _ h => h) (Or.inr ⟨by rfl, rfl⟩) (by assumption) ?_
              try simp only [Act.put, List.getElem_toArray, List.getElem_cons_zero, List.getElem_cons_succ, List.setIfInBounds_toArray, List.set_cons_zero, List.set_cons_succ]
              refine wpAnyH_take (i := 35) (v := undef) rfl (by kernel_rfl) (by kernel_rfl) (by kernel_rfl) (fun _ _ _ h => h) (Or.inr ⟨by rfl, rfl⟩) (by assumption) ?_
              try simp only [Act.put, List.getElem_toArray, List.getElem_cons_zero, List.getElem_cons_succ, List.setIfInBounds_toArray, List.set_cons_zero, List.set_cons_succ]
              refine wpAnyH_take (i := 36) (v := .bool false) rfl (by kernel_rfl) (by kernel_rfl) (by kernel_rfl) (fun _ _ _ h => h) (Or.inl ⟨by rfl, fun wx hSw => by go_simp⟩) (by assumption) ?_
              try simp only [Act.put, List.getElem_toArray, List.getElem_cons_zero, List.getElem_cons_succ, List.setIfInBounds_toArray, List.set_cons_zero, List.set_cons_succ]
              refine wpAnyH_done (by kernel_rfl) ?_ _
              refine NoPanic.normal ?_
              go_wp2
              go_roundw
              case rel => exact HFIN.out 1
              case measure => simp [intOf]; omega
          · have hjk : j = k := by omega
            subst hjk
            have hout := hatx.out
            have hmid := hatx.mid
            have hbel := hatx.below
            have hnj : ¬ (j : Int) < j := by omega
            rcases hbest with ⟨rfl, hnone⟩ | ⟨b, rfl, hbi, hbm⟩
            · obtain ⟨A7, c7, e7, hc7, hm7, hr7⟩ := owned_roomy hout
              subst e7
              have hord : OrdIs l 0 o := .ok HALL.out (hmid.done fun i hi => Nat.le_of_not_lt fun h => hnone i (by rw [← HM.out]; exact hi) (inO_at.2 ⟨hi, h⟩))
              have HORD := Lib.hid hord
              have HCN : Hid (o.length ≤ 1000000) := Lib.hid (by have h1 := sum_le11 hmid.len hmid.le; have h2 := hatx.cnt; have h3 := HT.out; omega)
              clear hnone hord hmid hout hatx
              go_wp2
              go_ret2
              exact ⟨0, o, A7, c7, HORD.out, rfl, ⟨hc7, hm7⟩, hr7, hbel, HCN.out⟩
            · obtain ⟨hbl, hbn⟩ := inO_at.1 hbi
              have hbk : b < j := by rw [← HM.out]; exact hbl
              have hba : b < a.length := by rw [hmid.len]; exact hbl
              have hcb := next_at hatx hbl
              obtain ⟨b1, o1, A3, c3, e3, _, hc3, ⟨hcc3, hcm3⟩, hrow3⟩ := (HL.out.below hbel).at_ hbl
              subst e3
              have hsl3 := HLL.out _ (List.getElem_mem hbl)
              obtain ⟨n3, hn3⟩ : ∃ n3, n3 = l[b].length := ⟨_, rfl⟩
              obtain ⟨b4, o4, e5, _, hc4⟩ := row_int hrow3 (k := a.getD b 0) hbn
              rw [← hn3] at hc3 hcc3 hsl3 hbn
              subst e5
              have hv3 : valO l (b, a.getD b 0) = l[b][a.getD b 0] := valO_at hbl _
              rw [← hv3] at hc4
              have hleast : ∀ i, InO l (i, a.getD i 0) → valO l (b, a.getD b 0) ≤ valO l (i, a.getD i 0) := fun i hi => hbm i (by rw [← HM.out]; exact hi.1) hi
              have hnext : valO l (b, a.getD b 0) ≠ last → OrdMid l (a.set b (a.getD b 0 + 1)) (o ++ [(b, a.getD b 0)]) (valO l (b, a.getD b 0)) := fun hn => hmid.step HALL.out hbi hleast hn
              have htw : valO l (b, a.getD b 0) = last → TwiceO l := fun hn => hmid.twice HALL.out hbi hn
              have hsum := sum_set a b hba
              obtain ⟨x, hx⟩ : ∃ x, x = valO l (b, a.getD b 0) := ⟨_, rfl⟩
              rw [← hx] at hc4 hnext htw
              have hat := hatx.at_
              have hcnt := hatx.cnt
              have hcla : (ints (natI a))[b]? = some (.int .i64 (a.getD b 0 : Int)) := by simp [ints, natI, List.getElem?_eq_getElem hba, List.getD_eq_getElem?_getD]
              obtain ⟨ab, hab⟩ : ∃ ab, ab = a.getD b 0 := ⟨_, rfl⟩
              rw [← hab] at hcla
              have HCLA := Lib.hid hcla
              clear hcla
              rw [← hab] at hcb hc4 hbn hnext hsum
              have d2 : decide ((b : Int) < 0) = false := decide_eq_false (by omega)
              have k0 : (0 : Int) ≤ b := by omega
              have k1 : (b : Int) < j := by omega
              have k2 : (ab : Int) < n3 := by omega
              have k3 : (0 : Int) ≤ ab := by omega
              have HNEXT := Lib.hid hnext
              have HTW := Lib.hid htw
              have HSUM := Lib.hid hsum
              have HAT2 := Lib.hid hat
              have HOUT := Lib.hid hout
              have HCNT := Lib.hid hcnt
              have HBEL := Lib.hid hbel
              clear hnext htw hsum hat hout hcnt hbel hatx hbi hbm hleast hrow3 hn3 hv3 hx hab hba hmid
              by_cases hxl : x = last
              · subst hxl
                have TW := Lib.hid (HTW.out rfl)
                go_wp2
                go_quiet (fail)
                go_wp2
                go_ret2
                exact ⟨5, [], none, 0, .twice HALL.out TW.out, rfl, ⟨Nat.le_refl _, Nat.zero_le _⟩, Row.nil, HBEL.out.trans ⟨rfl, rfl, rfl, Nat.le_refl _, fun _ _ => rfl⟩, Nat.zero_le _⟩
              · have NX := Lib.hid (HNEXT.out hxl)
                have d4 : (x == last) = false := beq_eq_false_iff_ne.2 hxl
                clear hxl
                have hle1 := sum_le11 NX.out.len NX.out.le
                rw [HSUM.out] at hle1
                have hN1 : o.length + 1 ≤ 1000000 := by have := HT.out; have := HCNT.out; omega
                obtain ⟨N, hN⟩ : ∃ N, N = o.length := ⟨_, rfl⟩
                rw [← hN] at HOUT HLEN hN1
                have HN := Lib.hid hN
                clear hN hle1
                go_wp2
                go_quiet (fail)
                generalize hwz : World.drewN _ nq = wz
                have hbz : Below wr.heap.size wr wz := by rw [← hwz]; exact ⟨rfl, rfl, rfl, Nat.le_refl _, fun _ _ => rfl⟩
                have hcb' : wz.cell? ⟨g, b, none⟩ = some (.int .i64 (ab : Int)) := by rw [← hwz]; exact hcb
                have HO := Lib.hid (owned_below HOUT.out hbz)
                have HA := Lib.hid (owned_below HAT2.out hbz)
                have HBZ := Lib.hid (HBEL.out.trans (hbz.mono HBEL.out.size))
                have hsz := HBZ.out.size
                clear hwz hbz hcb hc3 hc4
                go_wp2_with (at_builtin; refine wpList_append_own _ rfl (.tmp 89) (.tmp 96) 26 rfl w.heap.size 30 j0 _ 2 16 Try.underlying26 hj0 hy0 hy1 hy2 rfl (by omega) _ N (plc o) rfl (HO.out.alloc _) ⟨wz.heap.size, 0, none⟩ 1 1 [.int .i64 (b : Int), .int .i64 (ab : Int)] rfl rfl (news_at wz [.int .i64 (b : Int), .int .i64 (ab : Int)] 30) (by intro u hu; simp at hu; rcases hu with rfl | rfl <;> rfl) (by unfold maxLen; omega) (by omega) (by simp; omega) ?_)
                intro v5 w5 hown5 hg5 _
                have hb5 : Below w.heap.size wz w5 := ((Below.refl _ wz).alloc (by omega) _).grown hg5 (by simp; omega) fun q hq => (HO.out.lt q hq).1
                have hat5 : w5.ownsRow w.heap.size 3 1 (.slice (some ⟨g, 0, none⟩) j j) j (ints (natI a)) := by
                  refine owned_keep (HA.out.alloc (.cells #[.int .i64 (b : Int), .int .i64 (ab : Int)] 30)) fun q hq => hg5.block q ?_ ?_
                  · exact ((HA.out.alloc _).lt q hq).2
                  · intro e
                    exact owned_apart2 (HO.out.alloc (.cells #[.int .i64 (b : Int), .int .i64 (ab : Int)] 30)) (HA.out.alloc _) (by decide) hq e.symm
                obtain ⟨A5, c5, e5, hc5, hm5, _⟩ := owned_roomy hown5
                have hl5 : lenV v5 = N + 1 := by rw [e5]; rfl
                obtain ⟨st1, st2⟩ := hat5.stored b (.int .i64 ((ab : Int) + 1))
                have hgb := hat5.lt g rfl
                have hfz := hat5.frozenAt b
                have hcell := hat5.cellAt b (by omega)
                rw [HCLA.out] at hcell
                have hfin : RefOrd2 l w g j (.slice none 0 0) (.int .i64 0) v5 (.int .i64 x) (w5.setCell ⟨g, b, none⟩ (.int .i64 ((ab : Int) + 1))) := by
                  refine ⟨rfl, rfl, a.set b (ab + 1), o ++ [(b, ab)], x, rfl, by rw [hl5, List.length_append, ← HN.out]; rfl, NX.out, by rw [List.length_append, HSUM.out, ← HCNT.out]; rfl, ?_, ?_, ?_⟩
                  · rw [List.length_append, ← HN.out, plc_append]
                    exact owned_store hown5 (owned_apart2 hown5 hat5 (by decide) rfl) _
                  · rw [natI_set]
                    exact st1
                  · exact (HBZ.out.trans hb5).grown st2 (Nat.le_trans hsz hb5.size) fun q hq => by cases hq; exact hgb.1
                have HFIN := Lib.hid hfin
                have HL5 := Lib.hid hl5
                clear hfin hl5 st1 st2 hown5 hg5 hb5 hat5 e5 hc5 hm5
                go_wp2
                go_roundw
                case rel => exact HFIN.out
                case measure => have := HL5.out; have := HLEN.out; simp; omega
end Go.Proofs.Ytpehcaidjlemiaa
