/- QueryDeep's walk: Nots, one in the other, about a query that is a term. -/
import Derived.Test.YtolfkhflbjnakaaGreatDoorNAQ08
import Derived.Test.YtolfkhflbjnakaaGreatDoorNAQ16
import Derived.Test.YtolfkhflbjnakaaGreatDoorNAQ17
set_option linter.unusedVariables false
namespace Go.Proofs.YtolfkhflbjnakaaGreatDoor
open Go Go.RowKit

def DeepNRel (w0 : World) (B N : Nat) (q0 : Qy) (i : Value) (wr : World) : Prop := ∃ j : Nat, j ≤ N ∧ i = .int .i64 (j : Int) ∧ VarQ w0 B (nots j q0) wr

set_option maxHeartbeats 4000000 in
set_option maxRecDepth 100000 in
theorem walk_QueryDeep (w : World) (hg : Glob w) (n : Int) (hn : -9223372036854775808 ≤ n ∧ n ≤ 9223372036854775807) (f x : ByteArray) (hf : f.size ≤ 100000000) (hx : x.size ≤ 100000000) :
    Calls Tryz.prog 11 #[.int .i64 n, .agg #[.string f, .string x]] w fun e w' => e = .returned (.bool true) ∧ Below w.heap.size w w' := by
  obtain ⟨nn, hn1, hn2, hn0, hn9⟩ : ∃ nn : Int, (n < 0 → -(n + 1) = nn) ∧ (0 ≤ n → n = nn) ∧ 0 ≤ nn ∧ nn ≤ 9223372036854775807 := by
    by_cases h : n < 0
    · exact ⟨-(n + 1), fun _ => rfl, fun h' => by omega, by omega, by omega⟩
    · exact ⟨n, fun h' => absurd h' h, fun _ => rfl, by omega, by omega⟩
  obtain ⟨N, hN, hN10⟩ : ∃ N : Nat, nn % 11 = (N : Int) ∧ N ≤ 10 := ⟨(nn % 11).toNat, by omega, by omega⟩
  have HN1 := Lib.hid hn1
  have HN2 := Lib.hid hn2
  have hfs : f.data.toList.length = f.size := Array.length_toList
  have hxs : x.data.toList.length = x.size := Array.length_toList
  obtain ⟨q0, hq0⟩ : ∃ q0, q0 = goodQ 1 (.mk 0 (f.data.toList, x.data.toList) [] []) := ⟨_, rfl⟩
  have hgd : ∀ w1, Below w.heap.size w w1 → Calls Tryz.prog 13 #[qV 0 f x none 0 0 none 0 0, .int .i64 1] w1 (GaveQ q0 w1) := fun w1 hb => by
    rw [hq0]
    exact ref12_Good 3 _ 1 _ w1 (by omega) (by omega) (by rw [RawQ]; exact ⟨by omega, ⟨by simp only; omega, by simp only; omega⟩, by simp, by rw [RawL]; trivial⟩) (QV.mk (ds := []) rfl rfl rfl rfl (Nat.le_refl _) (Nat.le_refl _) (.inl rfl) (.inl rfl) QsAt.nil)
  rw [good_leaf] at hq0
  have hleaf : ∀ d, mayQ d q0 = if 6 < d then 8 else 0 := fun d => by rw [hq0]; exact leaf_may (goodFn_is _) (goodWd_is _) d
  have hdp : deepQ q0 = 1 := by rw [hq0, deepQ, deepL]
  have hfine : FineQ q0 := may_fine 1 (d := 1) (by omega) (by rw [hleaf]; rfl)
  have hmay := nots_may hleaf N 1
  have hdeep := nots_deep q0 N
  rw [hdp] at hdeep
  have hfn := nots_fine hfine N
  obtain ⟨R, hR⟩ : ∃ R : Int, mayQ 1 (nots N q0) = R := ⟨_, rfl⟩
  have HM : Hid (∀ (v : Value) (w2 : World), QIn w2 (nots N q0) v → Calls Tryz.prog 14 #[v] w2 fun e w' => e = .returned (.int .i64 R) ∧ Below w2.heap.size w2 w') := Lib.hid fun v w2 hv => by
    rw [← hR]
    exact query_May _ v w2 (by omega) hv hfn
  have HD : Hid (∀ (v : Value) (w2 : World), QIn w2 (nots N q0) v → Calls Tryz.prog 16 #[v] w2 fun e w' => e = .returned (.int .i64 ((N : Int) + 1)) ∧ Below w2.heap.size w2 w') := Lib.hid fun v w2 hv => by
    have := query_Deep _ v w2 hv (by omega)
    rwa [hdeep] at this
  have HL : Hid (∀ w2, Below w.heap.size w w2 → Calls Tryz.prog 18 #[] w2 fun e w' => e = .returned (.bool true) ∧ Below w2.heap.size w2 w') := Lib.hid fun w2 hb => law12_lives w2 (hg.below hb hg.size)
  have HG := Lib.hid hgd
  have HR5 : Hid (R = if 5 < N then 8 else 0) := Lib.hid (by
    rw [← hR, hmay]
    by_cases h : 5 < N
    · rw [if_pos h, if_pos (by omega)]
    · rw [if_neg h, if_neg (by omega)])
  clear hn1 hn2 hfs hxs hq0 hgd hleaf hdp hfine hmay hdeep hfn hR hg hf hx
  go_enter Tryz.func11, Tryz.ntmps11
  go_upto_if 9 with fail
  obtain ⟨w1, hw1⟩ : ∃ w1, w1 = w.alloc (.cells #[.string f, .string x] 23) := ⟨_, rfl⟩
  have HB1 : Hid (Below w.heap.size w w1) := Lib.hid (by rw [hw1]; exact (Below.refl _ _).alloc (Nat.le_refl _) _)
  have hc1 : w1.cell? ⟨w.heap.size, 0, none⟩ = some (.string f) ∧ w1.cell? ⟨w.heap.size, 1, none⟩ = some (.string x) := by rw [hw1]; exact (two_cells12 (heap_alloc_new w _)).1
  rw [← hw1]
  clear hw1
  obtain ⟨t0, t1⟩ := hc1
  go_cut [0] from 8 to 12 (fun s wx => s = .int .i64 nn ∧ w1 = wx)
  case first =>
    by_cases h0 : n < 0
    · have e := HN1.out h0
      subst e
      go_wp2_with fail
      go_meet
      exact ⟨rfl, rfl⟩
    · have e := HN2.out (by omega)
      subst e
      go_wp2_with fail
      go_meet
      exact ⟨rfl, rfl⟩
  case rest =>
    obtain ⟨rfl, rfl⟩ := hcut
    go_upto_region 5 with (go_at_call 13; (with_reducible refine (HG.out _ HB1.out).mono ?_); rintro e w3 ⟨v3, rfl, hq3, hb3⟩; obtain ⟨k3, f3, x3, A3, n3, c3, K3, m3, d3, e3, hq4⟩ := hq3; subst e3; have HQ3 : Hid (QIn w3 q0 (qV k3 f3 x3 A3 n3 c3 K3 m3 d3)) := Lib.hid ⟨_, _, _, _, _, _, _, _, _, rfl, hq4.imp fun b hb => hb.2⟩; have HB3 := Lib.hid (HB1.out.trans (hb3.mono HB1.out.size)); clear hq4 hb3)
    obtain ⟨B, hB⟩ : ∃ B, B = w3.heap.size := ⟨_, rfl⟩
    obtain ⟨w4, hw4⟩ : ∃ w4, w4 = boxQ w3 k3 f3 x3 A3 n3 c3 K3 m3 d3 := ⟨_, rfl⟩
    have HV4 : Hid (VarQ w B (nots 0 q0) w4) := Lib.hid (by rw [hw4, hB]; exact VarQ.made HB3.out HQ3.out)
    rw [show w3.alloc _ = w4 from hw4.symm, ← hB]
    clear hw4 hB t0 t1
    go_wp2_with fail
    go_loopw [6] (fun i wr => DeepNRel w B N q0 i wr) (fun i _ => N - (intOf i).toNat)
    case atStart => exact ⟨0, by omega, rfl, HV4.out⟩
    case round =>
      obtain ⟨j, hj, rfl, hv⟩ := hrel
      obtain ⟨k, f, x, A, n, c, K, m, d, ⟨a0, a1, a2, a3, a4⟩, ⟨b0, b1, b2, b3, b4⟩, hBl, hqi, hbw, hge, hnext⟩ := hv.cells
      have HBW := Lib.hid hbw
      by_cases hlt : j < N
      · have HNX := Lib.hid hnext
        have i3 : (j : Int) < N := by omega
        clear hv hqi hbw hge hnext
        go_wp2_with fail
        go_roundw
        case rel => exact ⟨j + 1, by omega, by go_num, HNX.out⟩
        case measure => simp [intOf]; omega
      · obtain rfl : j = N := by omega
        have HQI := Lib.hid hqi
        have HM1 := Lib.hid (HM.out _ _ hqi)
        have HCELL : Hid (∀ w', Below wr.heap.size wr w' → w'.cell? ⟨B, 0, none⟩ = some (.int .i64 k) ∧ w'.cell? ⟨B, 1, none⟩ = some (.string f) ∧ w'.cell? ⟨B, 2, none⟩ = some (.string x) ∧ w'.cell? ⟨B, 3, none⟩ = some (.slice A n c) ∧ w'.cell? ⟨B, 4, none⟩ = some (.slice K m d)) := Lib.hid fun w' h => by
          have e := h.block B hBl
          simp only [World.cell?, e]
          exact ⟨a0, a1, a2, a3, a4⟩
        clear hv hqi hbw hge hnext
        go_upto_if 27 with fail
        go_cut [7] from 26 to 27 (fun s wx => s = .int .i64 R ∧ wr = wx)
        case first =>
          by_cases h5 : 5 < j
          · have e : R = 8 := by rw [HR5.out, if_pos h5]
            have d5 : (5 : Int) < j := by omega
            subst e
            go_wp2_with fail
            go_meet
            exact ⟨rfl, rfl⟩
          · have e : R = 0 := by rw [HR5.out, if_neg h5]
            have d5 : ¬ (5 : Int) < j := by omega
            subst e
            go_wp2_with fail
            go_meet
            exact ⟨rfl, rfl⟩
        case rest =>
          obtain ⟨rfl, rfl⟩ := hcut
          go_wp2_with (first
            | (go_at_call 14; (with_reducible refine HM1.out.mono ?_); rintro e w5 ⟨rfl, hb5⟩; have HB5 := Lib.hid hb5; have HD5 := Lib.hid (HD.out _ _ (HQI.out.later hb5)); clear hb5 a0 a1 a2 a3 a4; obtain ⟨a0, a1, a2, a3, a4⟩ := HCELL.out _ HB5.out)
            | (go_at_call 16; (with_reducible refine HD5.out.mono ?_); rintro e w6 ⟨rfl, hb6⟩; have HB6 := Lib.hid (HB5.out.trans (hb6.mono HB5.out.size)); clear hb6)
            | (go_at_call 18; (with_reducible refine (HL.out _ (HBW.out.trans (HB6.out.mono HBW.out.size))).mono ?_); rintro e w7 ⟨rfl, hb7⟩; have HB7 := Lib.hid (HBW.out.trans ((HB6.out.trans (hb7.mono HB6.out.size)).mono HBW.out.size)); clear hb7))
          go_ret
          exact ⟨rfl, HB7.out⟩
end Go.Proofs.YtolfkhflbjnakaaGreatDoor
