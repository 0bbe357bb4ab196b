/- BufferTells holds of any documents that came in. -/
import Derived.Test.YtgcdekaceimdnaaGreatQ15
import Derived.Test.YtgcdekaceimdnaaGreatQ17
import Derived.Test.YtgcdekaceimdnaaGreatQ16
import Derived.Test.YtgcdekaceimdnaaGreatQ14
namespace Go.Proofs.YtgcdekaceimdnaaGreat
open Go Go.RowKit
set_option linter.unusedVariables false

def totK (G : List En) (j : Nat) : Nat := (((keysE G).take j).map fun k => totalP (postsE 0 G k)).sum
theorem totK_succ {G : List En} {j : Nat} (hj : j < (keysE G).length) : totK G (j + 1) = totK G j + totalP (postsE 0 G (keysE G)[j]) := by
  unfold totK
  rw [List.take_succ_eq_append_getElem hj, List.map_append, List.sum_append]
  simp
theorem totK_all {G : List En} (hg : GoodE G) : totK G (keysE G).length = weightE G := by
  unfold totK
  rw [List.take_length]
  exact sum_keys hg
theorem totK_le {G : List En} (hg : GoodE G) (j : Nat) : totK G j ≤ weightE G := by
  rw [← totK_all hg]
  unfold totK
  conv => rhs; rw [List.take_length, ← List.take_append_drop j (keysE G)]
  rw [List.map_append, List.sum_append]
  omega
theorem totalP_take9 {l : List Pn} {k : Nat} (hk : k < l.length) : totalP (l.take (k + 1)) = totalP (l.take k) + l[k].2.length := by
  rw [List.take_succ_eq_append_getElem hk, totalP_append]
  simp [totalP]
theorem totalP_le9 (l : List Pn) (k : Nat) : totalP (l.take k) ≤ totalP l := by
  conv => rhs; rw [← List.take_append_drop k l]
  rw [totalP_append]
  omega
def TellRel (G : List En) (K : Nat) (w8 : World) (n x : Value) (wr : World) : Prop := ∃ j : Nat, j ≤ K ∧ x = .int .i64 (j : Int) ∧ n = .int .i64 (totK G j : Int) ∧ Below w8.heap.size w8 wr
def TellRel2 (L : List Pn) (t : Nat) (w : World) (n x : Value) (wr : World) : Prop := ∃ m : Nat, m ≤ L.length ∧ x = .int .i64 (m : Int) ∧ n = .int .i64 ((t + totalP (L.take m) : Nat) : Int) ∧ wr = w

set_option maxHeartbeats 4000000 in
set_option maxRecDepth 100000 in
theorem walk_BufferTells (a0 : Option Addr) (len0 cap0 : Nat) (z0 : List Dc) (W : World) (h0 : InDocs W a0 len0 cap0 z0) :
    Calls Tryz.prog 4 #[.slice a0 len0 cap0] W fun e W' => e = .returned (.bool true) ∧ Below W.heap.size W W' := by
  obtain ⟨g1, g2, g3, g4, g5⟩ := h0
  have HN := Lib.hid g4
  have HFD := Lib.hid g5
  have HL3 := Lib.hid g3
  obtain ⟨G, hG⟩ : ∃ G, G = goodsE z0 8 3 2 := ⟨_, rfl⟩
  have hGl : G.length ≤ 8 := by rw [hG, goodsE_length]; omega
  have HGOOD : Hid (∀ q ∈ G, ∃ d, q.2.1 = goodD d) := Lib.hid (by rw [hG]; exact goodsE_good _ _ _ _)
  have HGE : Hid (GoodE G) := Lib.hid (by rw [hG]; exact goodsE_goodE _ _ _ _)
  have HSEQ : Hid (∀ i (h : i < G.length), G[i].2.2 = 3 + 2 * (i : Int)) := Lib.hid (by subst hG; exact fun i h => goodsE_at h)
  have HGD : Hid (∀ w1, Below W.heap.size W w1 → Calls Tryz.prog 16 #[.slice a0 len0 cap0, .int .i64 8, .int .i64 3, .int .i64 2] w1 (GaveEn G w1)) := Lib.hid fun w1 hb => by
    rw [hG]
    exact ref09_Good a0 len0 cap0 z0 8 3 2 w1 HL3.out (Nest.later HN.out hb) (by unfold maxLen at g2; omega) (by omega) (by omega) (by omega) fun q hq f hf => by
      have := HFD.out q hq f hf
      unfold maxLen at this
      omega
  clear g3 g4 g5 hG
  obtain ⟨N, hN⟩ : ∃ N, N = G.length := ⟨_, rfl⟩
  rw [← hN] at hGl
  have HHN := Lib.hid hN
  clear hN
  go_enter Tryz.func4, Tryz.ntmps4
  go_wp2_with (first
    | (go_at_call 7; (with_reducible refine (buf_New W).mono ?_); rintro e w1 ⟨S, B, rfl, hb1, hS1, hw1⟩
       have HB1 := Lib.hid hb1
       have HS1 := Lib.hid hS1
       have HW1 := Lib.hid hw1
       clear hb1 hS1 hw1)
    | (go_at_call 16; (with_reducible refine (HGD.out w1 HW1.out).mono ?_); rintro e w2 ⟨V, rfl, ho2, hb2⟩
       obtain ⟨AG, cG, rfl, hcG, hu⟩ := ho2.nest
       rw [← HHN.out] at hcG ⊢
       have HR2 : Hid (SealRel B G (.slice AG N cG) none [] (fun k => G.take k) (fun k => if k = 0 then -1 else 2 * (k : Int) + 1) 0 N W (.int .i64 0) w2) := Lib.hid (by
         refine ⟨0, S, Nat.le_refl _, Nat.zero_le _, rfl, ?_⟩
         rw [HHN.out]
         simpa using rig_start HB1.out HS1.out HW1.out ho2 hb2)
       clear ho2 hb2 hu))
  go_loopw [5] (fun x wr => SealRel B G (.slice AG N cG) none [] (fun k => G.take k) (fun k => if k = 0 then -1 else 2 * (k : Int) + 1) 0 N W x wr) (fun x _ => N - (intOf x).toNat)
  case atStart => exact HR2.out
  case round =>
    obtain ⟨k, S1, _, hk, rfl, hrig⟩ := hrel
    by_cases hka : k < N
    · have hkG : k < G.length := by have := HHN.out; omega
      obtain ⟨b, c0, A', c', hv, e0, e1, e2, hadd⟩ := hrig.adds HGOOD.out (by rw [List.length_take]; omega) hkG
      have hAG : AG = some ⟨b, 0, none⟩ := by injection hv
      clear hv
      subst hAG
      have hsq := HSEQ.out k hkG
      have hts : G.take (k + 1) = G.take k ++ [G[k]] := List.take_succ_eq_append_getElem hkG
      obtain ⟨gk, hgk⟩ : ∃ gk, gk = G[k] := ⟨_, rfl⟩
      rw [← hgk] at e0 e1 e2 hadd hsq hts
      obtain ⟨q1, d, q3⟩ := gk
      simp only at e0 e1 e2 hadd hsq
      obtain ⟨m, hm⟩ : ∃ m, m = d.length := ⟨_, rfl⟩
      rw [← hm] at e1 hadd
      have HADD : Hid (Calls Tryz.prog 13 #[.pointer (some ⟨B, 0, none⟩), .agg #[.int .i64 q1, .slice A' m c', .int .i64 q3]] wr fun e w' => e = .returned (.int .i64 0) ∧ ∃ S', Rig S' B (G.take (k + 1)) (if k + 1 = 0 then -1 else 2 * ((k + 1 : Nat) : Int) + 1) (.slice (some ⟨b, 0, none⟩) N cG) G none [] W w') := Lib.hid (hadd.mono fun e w' h => by
        obtain ⟨h1, S', h2⟩ := h.2 (by omega) (by split <;> omega)
        refine ⟨h1, S', ?_⟩
        rw [hts, if_neg (by omega), show 2 * ((k + 1 : Nat) : Int) + 1 = q3 by rw [hsq]; push_cast; omega]
        exact h2)
      have k0 : (0 : Int) ≤ k := by omega
      have k1 : (k : Int) < N := by omega
      clear hgk hm hadd hsq hts hrig
      go_wp2_with (go_at_call 13; (with_reducible refine HADD.out.mono ?_); rintro e w5 ⟨rfl, S5, hrig5⟩)
      exact ⟨⟨k + 1, S5, Nat.zero_le _, hka, by go_num, hrig5⟩, by simp [intOf]; omega⟩
    · have hke : k = N := by omega
      subst hke
      have htk : G.take k = G := List.take_of_length_le (by have := HHN.out; omega)
      simp only [htk] at hrig
      obtain ⟨UP, hUP⟩ : ∃ UP : Int, UP = if k = 0 then -1 else 2 * (k : Int) + 1 := ⟨_, rfl⟩
      rw [← hUP] at hrig
      have HKE := Lib.hid (buf_Keys hrig.buf (by have := HHN.out; omega))
      have HRG := Lib.hid hrig
      clear hrig htk hUP hka
      go_wp2_with (go_at_call 17; (with_reducible refine HKE.out.mono ?_); rintro e w8 ⟨v8, rfl, ho8, hb8⟩
                   obtain ⟨A8, c8, rfl, hc8, hu8⟩ := ho8.row
                   obtain ⟨K, hK⟩ : ∃ K, K = (keysE G).length := ⟨_, rfl⟩
                   rw [← hK] at hc8 ⊢
                   have HHK := Lib.hid hK
                   have HRW := Lib.hid hu8
                   have HR8 := Lib.hid (HRG.out.below hb8)
                   clear ho8 hb8 hu8 hK)
      have hWE := weightE_le HGE.out
      have HTA := Lib.hid (totK_all HGE.out)
      have HTL := Lib.hid (totK_le HGE.out)
      obtain ⟨T, hT⟩ : ∃ T, T = weightE G := ⟨_, rfl⟩
      rw [← hT] at hWE HTA HTL
      have hT4 : T ≤ 4000 := by have := HHN.out; omega
      have hK4 : K ≤ 40000 := by
        have h1 := keysE_length (l := G) (a := []) (M := 4000) fun q hq => terms_len9 (HGE.out q hq)
        have h2 : (keysE G).length ≤ G.length * 4000 + ([] : List Nm).length := h1
        simp only [List.length_nil] at h2
        have := HHN.out
        have := HHK.out
        omega
      have HTT := Lib.hid hT
      clear hT hWE
      go_loopw [6, 8] (fun n x wr => TellRel G K w8 n x wr) (fun _ x _ => K - (intOf x).toNat)
      case atStart => exact ⟨0, Nat.zero_le _, rfl, rfl, Below.refl _ _⟩
      case round =>
        obtain ⟨j, hj, rfl, rfl, hbw⟩ := hrel
        obtain ⟨wo, rfl⟩ : ∃ wo, wo = wr := ⟨_, rfl⟩
        by_cases hjK : j < K
        · have hjl : j < (keysE G).length := by have := HHK.out; omega
          obtain ⟨b9, o9, rfl, hb9, hx9⟩ := row_nm (Row.later HRW.out hbw) hjl
          obtain ⟨x, hx, hx2⟩ := as_text (keysE G)[j]
          rw [← hx] at hx9
          have HR9 := Lib.hid (HR8.out.below hbw)
          have hthere : 0 < (postsE 0 G (keysE G)[j]).length := posts_there (mem_keysE.1 (List.getElem_mem hjl))
          have hlen := posts_len HGE.out (key := (keysE G)[j]) G 0 fun q h => h
          have hgood := posts_good HGE.out (key := (keysE G)[j])
          have hmay : mayB' (-1) (postsE 0 G (keysE G)[j]) = true := posts_may HGE.out (by decide) (by have := HHN.out; omega)
          have htot := totK_succ hjl
          have htl := HTL.out j
          have htl2 := HTL.out (j + 1)
          obtain ⟨L, hL⟩ : ∃ L, L = postsE 0 G (keysE G)[j] := ⟨_, rfl⟩
          rw [← hL] at hthere hlen hgood hmay htot
          have HPO := Lib.hid (buf_Postings HR9.out.buf x L (by rw [hL, hx2]) (by have := HHN.out; omega) fun p hp => by have := hgood p hp; omega)
          obtain ⟨t, ht⟩ : ∃ t, t = totK G j := ⟨_, rfl⟩
          rw [← ht] at htot htl ⊢
          obtain ⟨NL, hNL⟩ : ∃ NL, NL = L.length := ⟨_, rfl⟩
          rw [← hNL] at hthere hlen
          have HNL := Lib.hid hNL
          have HTOT := Lib.hid htot
          have HGD2 := Lib.hid hgood
          have HMAY := Lib.hid hmay
          have HBW := Lib.hid hbw
          have hNL0 : ((NL : Int) == 0) = false := by
            have : (NL : Int) ≠ 0 := by omega
            simpa using this
          have hNL8 : NL ≤ 8 := by have := HHN.out; omega
          have j0 : (0 : Int) ≤ j := by omega
          have j1 : (j : Int) < K := by omega
          rw [htot] at htl2
          clear hx hx2 hgood hmay htot hL hNL ht hbw hjl
          go_wp2_with (first
            | (go_at_call 18; (with_reducible refine HPO.out.mono ?_); rintro e w10 ⟨v10, rfl, ho10, hb10⟩
               obtain ⟨A10, c10, rfl, hc10, hp10⟩ := ho10.posts
               rw [← HNL.out] at hc10 ⊢
               have HP10 := Lib.hid hp10
               have HB10 := Lib.hid hb10
               have HM10 : Hid (Calls Tryz.prog 19 #[.slice A10 NL c10] w10 fun e w' => e = .returned (.bool true) ∧ Below w10.heap.size w10 w') := Lib.hid (by
                 rw [← HMAY.out]
                 exact ref05_May A10 NL c10 L w10 HNL.out.symm (by omega) hp10 fun p hp => by have := HGD2.out p hp; omega)
               clear ho10 hb10 hp10)
            | (go_at_call 19; (with_reducible refine HM10.out.mono ?_); rintro e w11 ⟨rfl, hb11⟩
               have HP11 := Lib.hid (Posts.later HP10.out hb11)
               have HB11 : Hid (Below w8.heap.size w8 w11) := Lib.hid (HBW.out.trans ((HB10.out.trans (hb11.mono HB10.out.size)).mono HBW.out.size))
               clear hb11))
          go_loopw [6, 10] (fun n x wr => TellRel2 L t w11 n x wr) (fun _ x _ => NL - (intOf x).toNat)
          case atStart => exact ⟨0, Nat.zero_le _, rfl, by simp [totalP], rfl⟩
          case round =>
            obtain ⟨m, hm, rfl, rfl, rfl⟩ := hrel
            by_cases hmN : m < NL
            · have hmL : m < L.length := by rw [← HNL.out]; exact hmN
              obtain ⟨b12, o12, rfl, hb12, _, A12, c12, hy12, hc12, hc13, _⟩ := HP11.out.at_ hmL
              have e12 : L.getD m (0, []) = L[m] := by simp [hmL]
              rw [e12] at hy12 hc12
              have hts := totalP_take9 hmL
              have htb := totalP_le9 L (m + 1)
              obtain ⟨pl, hpl⟩ : ∃ pl, pl = L[m].2.length := ⟨_, rfl⟩
              obtain ⟨s, hs⟩ : ∃ s, s = totalP (L.take m) := ⟨_, rfl⟩
              rw [← hpl] at hy12 hc12 hts
              rw [← hs] at hts ⊢
              have HTS := Lib.hid hts
              have hb4 : t + s + pl ≤ 4000 := by omega
              have m0 : (0 : Int) ≤ m := by omega
              have m1 : (m : Int) < NL := by omega
              clear hts htb hpl hs e12
              go_wp2
              refine ⟨⟨m + 1, hmL, by go_num, ?_, rfl⟩, by simp [intOf]; omega⟩
              rw [HTS.out]
              push_cast
              rw [Int.add_assoc]
            · have hme : m = NL := by have := HNL.out; omega
              subst hme
              rw [List.take_of_length_le (by have := HNL.out; omega), ← HTOT.out]
              clear hmN
              go_wp2
              exact ⟨⟨j + 1, hjK, by go_num, rfl, HB11.out⟩, by simp [intOf]; omega⟩
        · have hje : j = K := by omega
          subst hje
          have hfin : totK G j = T := by rw [HHK.out]; exact HTA.out
          rw [hfin]
          have HR9 := Lib.hid (HR8.out.below hbw)
          obtain ⟨AN, cN, hVN, hcN, hNest⟩ := HR9.out.own.nest
          have hAN : AN = AG := by injection hVN with e _ _; exact e.symm
          rw [hAN] at hNest
          have HWO := Lib.hid (buf_Words HR9.out.buf)
          have HWR : Hid (∀ w', Below wo.heap.size wo w' → Calls Tryz.prog 21 #[.slice AG k cG] w' fun e w'' => e = .returned (.int .i64 (T : Int)) ∧ Below w'.heap.size w' w'') := Lib.hid fun w' hb => by
            rw [HTT.out]
            exact ref09_Words AG k cG G w' HHN.out.symm (Nest.later hNest hb) HGE.out (by omega)
          rw [← HTT.out] at HWO
          clear hVN hcN hNest hAN hfin hjK hbw
          go_wp2_with (first
            | (go_at_call 20; (with_reducible refine HWO.out.mono ?_); rintro e w10 ⟨rfl, hb10⟩
               have HB10 := Lib.hid hb10
               clear hb10)
            | (go_at_call 21; (with_reducible refine (HWR.out _ HB10.out).mono ?_); rintro e w11 ⟨rfl, hb11⟩
               have HR11 := Lib.hid ((HR9.out.below HB10.out).below hb11)
               clear hb11)
            | (go_at_call 15; (with_reducible refine (law09_lives _).mono ?_); rintro e w12 ⟨rfl, hb12⟩
               have HR12 := Lib.hid (HR11.out.below hb12)
               clear hb12))
          go_ret
          exact ⟨rfl, HR12.out.bel⟩
end Go.Proofs.YtgcdekaceimdnaaGreat
