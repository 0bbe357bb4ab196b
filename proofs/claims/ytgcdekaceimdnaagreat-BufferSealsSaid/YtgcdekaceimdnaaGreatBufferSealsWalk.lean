/- BufferSeals holds of any documents that came in, sealed behind any number of them. -/
import Derived.Test.YtgcdekaceimdnaaGreatQ15
import Derived.Test.YtgcdekaceimdnaaGreatQ16
import Derived.Deep.DeepCutAuto
namespace Go.Proofs.YtgcdekaceimdnaaGreat
open Go Go.RowKit
set_option linter.unusedVariables false

set_option maxHeartbeats 4000000 in
set_option maxRecDepth 100000 in
theorem walk_BufferSeals (a0 : Option Addr) (len0 cap0 : Nat) (z0 : List Dc) (a1 : Int) (W : World) (h0 : InDocs W a0 len0 cap0 z0) (h1 : (Lit.int .i64 a1).wf = true) :
    Calls Tryz.prog 6 #[.slice a0 len0 cap0, .int .i64 a1] W fun e W' => e = .returned (.bool true) ∧ Below W.heap.size W W' := by
  obtain ⟨g1, g2, g3, g4, g5⟩ := h0
  have hb63 := wf_bd h1
  have HN := Lib.hid g4
  have HFD := Lib.hid g5
  have HL3 := Lib.hid g3
  obtain ⟨G, hG⟩ : ∃ G, G = goodsE z0 8 1 2 := ⟨_, rfl⟩
  have hGl : G.length ≤ 8 := by rw [hG, goodsE_length]; omega
  have HGOOD : Hid (∀ q ∈ G, ∃ d, q.2.1 = goodD d) := Lib.hid (by rw [hG]; exact goodsE_good _ _ _ _)
  have HSEQ : Hid (∀ i (h : i < G.length), G[i].2.2 = 1 + 2 * (i : Int)) := Lib.hid (by subst hG; exact fun i h => goodsE_at h)
  have HGD : Hid (∀ w1, Below W.heap.size W w1 → Calls Tryz.prog 16 #[.slice a0 len0 cap0, .int .i64 8, .int .i64 1, .int .i64 2] w1 (GaveEn G w1)) := Lib.hid fun w1 hb => by
    rw [hG]
    exact ref09_Good a0 len0 cap0 z0 8 1 2 w1 HL3.out (Nest.later HN.out hb) (by unfold maxLen at g2; omega) (by omega) (by omega) (by omega) fun q hq f hf => by
      have := HFD.out q hq f hf
      unfold maxLen at this
      omega
  clear h1 g3 g4 g5 hG
  obtain ⟨N, hN⟩ : ∃ N, N = G.length := ⟨_, rfl⟩
  rw [← hN] at hGl
  have HHN := Lib.hid hN
  clear hN
  go_enter Tryz.func6, Tryz.ntmps6
  go_upto_if 17 with (first
    | (go_at_call 7; (with_reducible refine (buf_New W).mono ?_); rintro e w1 ⟨S, B, rfl, hb1, hS1, hw1⟩
       have HB1 := Lib.hid hb1
       have HS1 := Lib.hid hS1
       have HW1 := Lib.hid hw1
       clear hb1 hS1 hw1)
    | (go_at_call 16; (with_reducible refine (HGD.out w1 HW1.out).mono ?_); rintro e w2 ⟨V, rfl, ho2, hb2⟩
       obtain ⟨AG, cG, rfl, hcG, hu⟩ := ho2.nest
       rw [← HHN.out] at hcG ⊢
       have HR2 : Hid (Rig S B [] (-1) (.slice AG N cG) G none [] W w2) := Lib.hid (by
         rw [HHN.out]
         exact rig_start HB1.out HS1.out HW1.out ho2 hb2)
       clear ho2 hb2 hu))
  obtain ⟨d1, hd1⟩ : ∃ d1, d1 = decide (a1 < 0) := ⟨_, rfl⟩
  rw [← hd1]
  have HD1 := Lib.hid hd1
  clear hd1
  go_cut [1] from 18 to 20 (fun s wx => ∃ T : Int, 0 ≤ T ∧ T ≤ 9223372036854775807 ∧ s = .int .i64 T ∧ wx = w2)
  case first =>
    cases d1 with
    | true =>
      have hn : a1 < 0 := of_decide_eq_true HD1.out.symm
      have hz := IntWalk.i64_in (a1 + 1) (by omega)
      have hz2 := IntWalk.i64_in (-(a1 + 1)) (by omega)
      go_wp2_with fail
      go_meet
      exact ⟨-(a1 + 1), by omega, by omega, by simp, rfl⟩
    | false =>
      have hn : 0 ≤ a1 := Int.not_lt.1 (of_decide_eq_false HD1.out.symm)
      go_wp2_with fail
      go_meet
      exact ⟨_, hn, hb63.2, rfl, rfl⟩
  case rest =>
    obtain ⟨T, hT0, hT1, rfl, rfl⟩ := hcut
    obtain ⟨a, ha⟩ : ∃ a : Nat, (a : Int) = T % ((N : Int) + 1) := ⟨(T % ((N : Int) + 1)).toNat, by
      rw [Int.toNat_of_nonneg]
      exact Int.emod_nonneg _ (by omega)⟩
    have haN : a ≤ N := by
      have : (a : Int) < (N : Int) + 1 := by rw [ha]; exact Int.emod_lt_of_pos _ (by omega)
      omega
    have HA := Lib.hid ha
    clear ha
    have HST : Hid (SealRel B G (.slice AG N cG) none [] (fun k => G.take k) (fun k => 2 * (k : Int) - 1) 0 a W (.int .i64 0) wc) := Lib.hid ⟨0, S, Nat.le_refl _, Nat.zero_le _, rfl, by simpa using HR2.out⟩
    clear HR2
    go_upto_region 8 with fail
    rw [← HA.out]
    go_wp2
    go_loopw [7] (fun x wr => SealRel B G (.slice AG N cG) none [] (fun k => G.take k) (fun k => 2 * (k : Int) - 1) 0 a W x wr) (fun x _ => a - (intOf x).toNat)
    case atStart => exact HST.out
    case round =>
      obtain ⟨k, S1, _, hk, rfl, hrig⟩ := hrel
      by_cases hka : k < a
      · have hkG : k < G.length := by have := HHN.out; omega
        obtain ⟨b, c0, A', c', hv, e0, e1, e2, hadd⟩ := hrig.adds HGOOD.out (by rw [List.length_take]; omega) hkG
        have hAG : AG = some ⟨b, 0, none⟩ := by injection hv
        clear hv
        subst hAG
        have hsq := HSEQ.out k hkG
        have hts : G.take (k + 1) = G.take k ++ [G[k]] := List.take_succ_eq_append_getElem hkG
        obtain ⟨gk, hgk⟩ : ∃ gk, gk = G[k] := ⟨_, rfl⟩
        rw [← hgk] at e0 e1 e2 hadd hsq hts
        obtain ⟨q1, d, q3⟩ := gk
        simp only at e0 e1 e2 hadd hsq
        obtain ⟨m, hm⟩ : ∃ m, m = d.length := ⟨_, rfl⟩
        rw [← hm] at e1 hadd
        have HADD : Hid (Calls Tryz.prog 13 #[.pointer (some ⟨B, 0, none⟩), .agg #[.int .i64 q1, .slice A' m c', .int .i64 q3]] wr fun e w' => e = .returned (.int .i64 0) ∧ ∃ S', Rig S' B (G.take (k + 1)) (2 * ((k + 1 : Nat) : Int) - 1) (.slice (some ⟨b, 0, none⟩) N cG) G none [] W w') := Lib.hid (hadd.mono fun e w' h => by
          obtain ⟨h1, S', h2⟩ := h.2 (by omega) (by omega)
          refine ⟨h1, S', ?_⟩
          rw [hts, show 2 * ((k + 1 : Nat) : Int) - 1 = q3 by rw [hsq]; push_cast; omega]
          exact h2)
        have k0 : (0 : Int) ≤ k := by omega
        have k1 : (k : Int) < N := by omega
        have k2 : (k : Int) < a := by omega
        clear hgk hm hadd hsq hts hrig
        go_wp2_with (go_at_call 13; (with_reducible refine HADD.out.mono ?_); rintro e w5 ⟨rfl, S5, hrig5⟩)
        exact ⟨⟨k + 1, S5, Nat.zero_le _, hka, by go_num, hrig5⟩, by simp [intOf]; omega⟩
      · have hke : k = a := by omega
        subst hke
        have hal : (G.take k).length = k := by rw [List.length_take]; have := HHN.out; omega
        have HSE : Hid (Calls Tryz.prog 9 #[.pointer (some ⟨B, 0, none⟩)] wr fun e w' => ∃ S' A1 c1, e = .returned (.slice A1 k c1) ∧ (k ≤ c1 ∧ c1 ≤ maxLen) ∧ Rig S' B [] (2 * (k : Int) - 1) (.slice AG N cG) G A1 (G.take k) W w') := Lib.hid ((buf_Seal hrig.buf).mono fun e w' h => by
          obtain ⟨S', A1, c1, r1, r2, r3, _⟩ := hrig.sealed h
          rw [hal] at r1 r2
          exact ⟨S', A1, c1, r1, r2, r3⟩)
        have ka : (k : Int) ≤ k := Int.le_refl _
        clear hrig hal hka
        go_upto_if 58 with (first
          | (go_at_call 9; (with_reducible refine HSE.out.mono ?_); rintro e w4 ⟨S4, A4, c4, rfl, hc4, hr4⟩
             have HR4 := Lib.hid hr4
             clear hr4)
          | (go_at_call 23; (with_reducible refine (buf_Len HR4.out.buf).mono ?_); rintro e w5 ⟨rfl, hb5⟩
             have HR5 := Lib.hid (HR4.out.below hb5)
             clear hb5
             rw [show (([] : List En).length : Int) = 0 from rfl])
          | (go_at_call 24; (with_reducible refine (buf_Last HR5.out.buf).mono ?_); rintro e w6 ⟨rfl, hb6⟩
             have HR6 := Lib.hid (HR5.out.below hb6)
             clear hb6
             rw [show lastE ([] : List En) = -1 from rfl])
          | (go_at_call 20; (with_reducible refine (buf_Words HR6.out.buf).mono ?_); rintro e w7 ⟨rfl, hb7⟩
             have HR7 := Lib.hid (HR6.out.below hb7)
             clear hb7
             rw [show ((weightE ([] : List En) : Nat) : Int) = 0 from rfl])
          | (go_at_call 17; (with_reducible refine (buf_Keys HR7.out.buf (by simp)).mono ?_); rintro e w8 ⟨v8, rfl, ho8, hb8⟩
             obtain ⟨A8, c8, rfl, hc8, hu8⟩ := ho8.row
             rw [show (keysE ([] : List En)).length = 0 from rfl] at hc8 ⊢
             have HR8 := Lib.hid (HR7.out.below hb8)
             clear hb8 ho8 hu8))
        go_wp2
        go_loopw [9] (fun x wr => SealRel B G (.slice AG N cG) A4 (G.take k) (fun _ => []) (fun _ => 2 * (k : Int) - 1) 0 k W x wr) (fun x _ => k - (intOf x).toNat)
        case atStart => exact ⟨0, S4, Nat.le_refl _, Nat.zero_le _, rfl, HR8.out⟩
        case round =>
          obtain ⟨j, S9, _, hj, rfl, hrig⟩ := hrel
          by_cases hjk : j < k
          · have hkG : j < G.length := by have := HHN.out; omega
            obtain ⟨b, c0, A', c', hv, e0, e1, e2, hadd⟩ := hrig.adds HGOOD.out (by simp) hkG
            have hAG : AG = some ⟨b, 0, none⟩ := by injection hv
            clear hv
            subst hAG
            have hsq := HSEQ.out j hkG
            obtain ⟨gk, hgk⟩ : ∃ gk, gk = G[j] := ⟨_, rfl⟩
            rw [← hgk] at e0 e1 e2 hadd hsq
            obtain ⟨q1, d, q3⟩ := gk
            simp only at e0 e1 e2 hadd hsq
            obtain ⟨m, hm⟩ : ∃ m, m = d.length := ⟨_, rfl⟩
            rw [← hm] at e1 hadd
            have HADD : Hid (Calls Tryz.prog 13 #[.pointer (some ⟨B, 0, none⟩), .agg #[.int .i64 q1, .slice A' m c', .int .i64 q3]] wr fun e w' => e = .returned (.int .i64 12) ∧ Rig S9 B [] (2 * (k : Int) - 1) (.slice (some ⟨b, 0, none⟩) N cG) G A4 (G.take k) W w') := Lib.hid (hadd.mono fun e w' h => by
              obtain ⟨h1, h2⟩ := h.1 (by omega)
              exact ⟨h1, hrig.below h2⟩)
            have k0 : (0 : Int) ≤ j := by omega
            have k1 : (j : Int) < N := by omega
            have k2 : (j : Int) < k := by omega
            clear hgk hm hadd hsq hrig
            go_wp2_with (go_at_call 13; (with_reducible refine HADD.out.mono ?_); rintro e w10 ⟨rfl, hrig10⟩)
            exact ⟨⟨j + 1, S9, Nat.zero_le _, hjk, by go_num, hrig10⟩, by simp [intOf]; omega⟩
          · have hjk2 : j = k := by omega
            subst hjk2
            have HRJ := Lib.hid hrig
            clear hrig hjk
            go_wp2
            go_loopw [10] (fun x wr => SealRel B G (.slice AG N cG) A4 (G.take j) (fun i => (G.take i).drop j) (fun i => 2 * (i : Int) - 1) j N W x wr) (fun x _ => N - (intOf x).toNat)
            case atStart =>
              refine ⟨j, S9, Nat.le_refl _, haN, rfl, ?_⟩
              have : (G.take j).drop j = [] := List.drop_eq_nil_of_le (by rw [List.length_take]; omega)
              simp only [this]
              exact HRJ.out
            case round =>
              obtain ⟨i, S11, hji, hi, rfl, hrig⟩ := hrel
              by_cases hiN : i < N
              · have hkG : i < G.length := by have := HHN.out; omega
                obtain ⟨b, c0, A', c', hv, e0, e1, e2, hadd⟩ := hrig.adds HGOOD.out (by rw [List.length_drop, List.length_take]; omega) hkG
                have hAG : AG = some ⟨b, 0, none⟩ := by injection hv
                clear hv
                subst hAG
                have hsq := HSEQ.out i hkG
                have hts := take_drop_succ hkG hji
                obtain ⟨gk, hgk⟩ : ∃ gk, gk = G[i] := ⟨_, rfl⟩
                rw [← hgk] at e0 e1 e2 hadd hsq hts
                obtain ⟨q1, d, q3⟩ := gk
                simp only at e0 e1 e2 hadd hsq
                obtain ⟨m, hm⟩ : ∃ m, m = d.length := ⟨_, rfl⟩
                rw [← hm] at e1 hadd
                have HADD : Hid (Calls Tryz.prog 13 #[.pointer (some ⟨B, 0, none⟩), .agg #[.int .i64 q1, .slice A' m c', .int .i64 q3]] wr fun e w' => e = .returned (.int .i64 0) ∧ ∃ S', Rig S' B ((G.take (i + 1)).drop j) (2 * ((i + 1 : Nat) : Int) - 1) (.slice (some ⟨b, 0, none⟩) N cG) G A4 (G.take j) W w') := Lib.hid (hadd.mono fun e w' h => by
                  obtain ⟨h1, S', h2⟩ := h.2 (by omega) (by omega)
                  refine ⟨h1, S', ?_⟩
                  rw [hts, show 2 * ((i + 1 : Nat) : Int) - 1 = q3 by rw [hsq]; push_cast; omega]
                  exact h2)
                have k0 : (0 : Int) ≤ i := by omega
                have k1 : (i : Int) < N := by omega
                clear hgk hm hadd hsq hts hrig
                go_wp2_with (go_at_call 13; (with_reducible refine HADD.out.mono ?_); rintro e w12 ⟨rfl, S12, hrig12⟩)
                exact ⟨⟨i + 1, S12, by omega, hiN, by go_num, hrig12⟩, by simp [intOf]; omega⟩
              · have hie : i = N := by omega
                subst hie
                have htk : G.take i = G := List.take_of_length_le (by have := HHN.out; omega)
                simp only [htk] at hrig
                have HRI := Lib.hid hrig
                clear hrig htk hiN
                go_upto_region 26 with fail
                have hGi : G.length = i := HHN.out.symm
                have hlen1 : (G.take j).length = j := by rw [List.length_take]; omega
                obtain ⟨D, hD⟩ : ∃ D, D = i - j := ⟨_, rfl⟩
                have hlen2 : (G.drop j).length = D := by rw [List.length_drop]; omega
                have HFL : Hid (∀ q ∈ G, q.2.1.length ≤ 1073741824) := Lib.hid fun q hq => by
                  obtain ⟨d, hd⟩ := HGOOD.out q hq
                  have := (goodD_good d).len
                  rw [hd]
                  omega
                obtain ⟨AN, cN, hVN, hcN, hNest⟩ := HRI.out.own.nest
                have hNest2 : Nest enS wr wr.heap.size AG G := by
                  have : AN = AG := by injection hVN with e _ _; exact e.symm
                  rw [← this]
                  exact hNest
                have HSM1 : Hid (Calls Tryz.prog 8 #[.slice A4 j c4, .slice AG j cG] wr.drew fun e w' => e = .returned (.bool true) ∧ Below wr.heap.size wr w') := Lib.hid ((ref09_Same A4 AG j j c4 cG (G.take j) wr.drew hlen1 hlen1 (HRI.out.nest.imp fun k hk => hk.1) (hNest2.cut j) (by omega) fun q hq => HFL.out q (List.mem_of_mem_take hq)).mono fun e w' h => ⟨h.1, (Below.refl _ wr).drew.trans h.2⟩)
                have hform : (.slice AG i cG = Value.slice none 0 0 ∧ i = 0) ∨ ∃ b, AG = some ⟨b, 0, none⟩ := by
                  obtain ⟨cs, h1, _⟩ := HRI.out.own
                  rcases h1.2 with ⟨hv, hn⟩ | ⟨g, cap, cur, hv, _⟩
                  · exact .inl ⟨hv, by omega⟩
                  · injection hv with e _ _
                    exact .inr ⟨g, e⟩
                have j0 : (0 : Int) ≤ j := by omega
                have j1 : (j : Int) ≤ i := by omega
                have j2 : (j : Int) ≤ cG := by omega
                have j3 : (i : Int) ≤ cG := by omega
                clear hVN hcN hNest hNest2
                have HSEAL : Hid (∀ w13, Rig S11 B (G.drop j) (2 * (i : Int) - 1) (.slice AG i cG) G A4 (G.take j) W w13 → Hid (Calls Tryz.prog 9 #[.pointer (some ⟨B, 0, none⟩)] w13 fun e w' => ∃ S' A5 c5, e = .returned (.slice A5 D c5) ∧ Rig S' B [] (2 * (i : Int) - 1) (.slice AG i cG) G A5 (G.drop j) W w')) := Lib.hid fun w13 hr => Lib.hid ((buf_Seal hr.buf).mono fun e w' h => by
                  obtain ⟨S', A1, c1, r1, r2, r3, _⟩ := hr.sealed h
                  rw [hlen2] at r1
                  exact ⟨S', A1, c1, r1, r3⟩)
                have HSAME : Hid (∀ (S14 : Nat → Prop) (A5 : Option Addr) (c5 : Nat) (w14 : World), Rig S14 B [] (2 * (i : Int) - 1) (.slice AG i cG) G A5 (G.drop j) W w14 → ∀ (DA : Option Addr) (E cD : Nat), E = D → Nest enS w14 w14.heap.size DA (G.drop j) → Hid (Calls Tryz.prog 8 #[.slice A5 D c5, .slice DA E cD] w14 fun e w' => e = .returned (.bool true) ∧ Below w14.heap.size w14 w')) := Lib.hid fun S14 A5 c5 w14 hr DA E cD hE hn =>
                  Lib.hid (ref09_Same A5 DA D E c5 cD (G.drop j) w14 hlen2 (hlen2.trans hE.symm) (hr.nest.imp fun k hk => hk.1) hn (by omega) fun q hq => HFL.out q (List.mem_of_mem_drop hq))
                have HNESTG : Hid (∀ (S14 : Nat → Prop) (A5 : Option Addr) (w14 : World), Rig S14 B [] (2 * (i : Int) - 1) (.slice AG i cG) G A5 (G.drop j) W w14 → Nest enS w14 w14.heap.size AG G) := Lib.hid fun S14 A5 w14 hr => by
                  obtain ⟨AN, cN, hVN, _, hNest⟩ := hr.own.nest
                  have : AN = AG := by injection hVN with e _ _; exact e.symm
                  rw [← this]
                  exact hNest
                have hDi : (D : Int) = i - j := by omega
                rcases hform with ⟨hv, hi0⟩ | ⟨b, hb⟩
                · have hA0 : AG = none := by injection hv
                  have hc0 : cG = 0 := by injection hv
                  have hj0 : j = 0 := by omega
                  have hD0 : D = 0 := by omega
                  subst hA0 hc0
                  have HDROP : Hid (∀ (S14 : Nat → Prop) (A5 : Option Addr) (w14 : World), Rig S14 B [] (2 * (i : Int) - 1) (.slice none i 0) G A5 (G.drop j) W w14 → Nest enS w14 w14.heap.size none (G.drop j)) := Lib.hid fun S14 A5 w14 hr => by
                    have : G.drop j = [] := List.drop_eq_nil_of_le (by omega)
                    rw [this]
                    exact NestP.nil
                  subst hi0 hj0 hD0
                  clear hv j0 j1 j2 j3 hDi haN hji hi hD hGi hlen1 hlen2 hcG HA
                  go_region_held3 (fun _ => True)
                    (exact trivial)
                    (first
                      | (go_at_call 8; (with_reducible refine HSM1.out.mono ?_); rintro e w13 ⟨rfl, hb13⟩
                         have HR13 := Lib.hid (HRI.out.below hb13)
                         have HSE2 := HSEAL.out w13 HR13.out
                         clear hb13)
                      | (go_at_call 9; (with_reducible refine HSE2.out.mono ?_); rintro e w14 ⟨S14, A5, c5, rfl, hr14⟩
                         have HR14 := Lib.hid hr14
                         have HSM2 := HSAME.out S14 A5 c5 w14 hr14 none 0 0 rfl (HDROP.out _ _ _ hr14)
                         clear hr14)
                      | (go_at_call 8; (with_reducible refine HSM2.out.mono ?_); rintro e w15 ⟨rfl, hb15⟩
                         have HR15 := Lib.hid (HR14.out.below hb15)
                         clear hb15)
                      | (go_at_call 15; (with_reducible refine (law09_lives _).mono ?_); rintro e w16 ⟨rfl, hb16⟩
                         have HR16 := Lib.hid (HR15.out.below hb16)
                         clear hb16))
                  all_goals
                    go_wp2
                    go_ret
                    exact ⟨rfl, HR16.out.bel⟩
                · subst hb
                  by_cases hcj : cG = j
                  · have HDROP : Hid (∀ (S14 : Nat → Prop) (A5 : Option Addr) (w14 : World), Rig S14 B [] (2 * (i : Int) - 1) (.slice (some ⟨b, 0, none⟩) i cG) G A5 (G.drop j) W w14 → Nest enS w14 w14.heap.size (some ⟨b, 0, none⟩) (G.drop j)) := Lib.hid fun S14 A5 w14 hr => by
                      have : G.drop j = [] := List.drop_eq_nil_of_le (by omega)
                      rw [this]
                      exact NestP.nil
                    have hD0 : D = 0 := by omega
                    subst hcj hD0
                    clear hGi hlen1 hlen2 hD
                    go_region_held3 (fun _ => True)
                      (exact trivial)
                      (first
                        | (go_at_call 8; (with_reducible refine HSM1.out.mono ?_); rintro e w13 ⟨rfl, hb13⟩
                           have HR13 := Lib.hid (HRI.out.below hb13)
                           have HSE2 := HSEAL.out w13 HR13.out
                           clear hb13)
                        | (go_at_call 9; (with_reducible refine HSE2.out.mono ?_); rintro e w14 ⟨S14, A5, c5, rfl, hr14⟩
                           have HR14 := Lib.hid hr14
                           have HSM2 := HSAME.out S14 A5 c5 w14 hr14 (some ⟨b, 0, none⟩) 0 0 rfl (HDROP.out _ _ _ hr14)
                           clear hr14)
                        | (go_at_call 8; (with_reducible refine HSM2.out.mono ?_); rintro e w15 ⟨rfl, hb15⟩
                           have HR15 := Lib.hid (HR14.out.below hb15)
                           clear hb15)
                        | (go_at_call 15; (with_reducible refine (law09_lives _).mono ?_); rintro e w16 ⟨rfl, hb16⟩
                           have HR16 := Lib.hid (HR15.out.below hb16)
                           clear hb16))
                    all_goals
                      go_wp2
                      go_ret
                      exact ⟨rfl, HR16.out.bel⟩
                  · have HDROP : Hid (∀ (S14 : Nat → Prop) (A5 : Option Addr) (w14 : World), Rig S14 B [] (2 * (i : Int) - 1) (.slice (some ⟨b, 0, none⟩) i cG) G A5 (G.drop j) W w14 → Nest enS w14 w14.heap.size (some ⟨b, 0 + j * 3, none⟩) (G.drop j)) := Lib.hid fun S14 A5 w14 hr => NestP.drop (HNESTG.out _ _ w14 hr) j
                    rw [Nat.zero_add] at HDROP
                    have HDD := Lib.hid hD
                    clear hGi hlen1 hlen2 hD
                    go_region_held3 (fun _ => True)
                      (exact trivial)
                      (first
                        | (go_at_call 8; (with_reducible refine HSM1.out.mono ?_); rintro e w13 ⟨rfl, hb13⟩
                           have HR13 := Lib.hid (HRI.out.below hb13)
                           have HSE2 := HSEAL.out w13 HR13.out
                           clear hb13)
                        | (go_at_call 9; (with_reducible refine HSE2.out.mono ?_); rintro e w14 ⟨S14, A5, c5, rfl, hr14⟩
                           have HR14 := Lib.hid hr14
                           have HSM2 := HSAME.out S14 A5 c5 w14 hr14 (some ⟨b, j * 3, none⟩) (i - j) (cG - j) HDD.out.symm (HDROP.out _ _ _ hr14)
                           clear hr14)
                        | (go_at_call 8; (with_reducible refine HSM2.out.mono ?_); rintro e w15 ⟨rfl, hb15⟩
                           have HR15 := Lib.hid (HR14.out.below hb15)
                           clear hb15)
                        | (go_at_call 15; (with_reducible refine (law09_lives _).mono ?_); rintro e w16 ⟨rfl, hb16⟩
                           have HR16 := Lib.hid (HR15.out.below hb16)
                           clear hb16))
                    all_goals
                      go_wp2
                      go_ret
                      exact ⟨rfl, HR16.out.bel⟩
end Go.Proofs.YtgcdekaceimdnaaGreat
