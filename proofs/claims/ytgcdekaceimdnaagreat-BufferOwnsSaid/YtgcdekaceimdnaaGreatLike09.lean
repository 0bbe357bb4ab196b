/- The statements' like: a buffer has what it must have. -/
import Derived.Test.YtgcdekaceimdnaaGreatQ15
import Derived.Test.YtgcdekaceimdnaaGreatQ18
import Derived.Test.YtgcdekaceimdnaaGreatQ17
import Derived.Test.YtgcdekaceimdnaaGreatQ14
import Derived.Test.YtgcdekaceimdnaaGreatPost09
import Derived.Test.YtgcdekaceimdnaaGreatQ16
import Derived.Test.YtgcdekaceimdnaaGreatQ03
import Derived.Deep.RegionHeld3
import Derived.Deep.DeepCutAuto
namespace Go.Proofs.YtgcdekaceimdnaaGreat
open Go Go.RowKit
set_option linter.unusedVariables false

def LikeRel (K : Nat) (w9 : World) (x : Value) (wr : World) : Prop := ∃ j : Nat, j ≤ K + 1 ∧ x = .int .i64 (j : Int) ∧ Below w9.heap.size w9 wr

set_option maxHeartbeats 8000000 in
set_option maxRecDepth 100000 in
theorem law09_like {S : Nat → Prop} {B : Nat} {l : List En} {up : Int} {w : World} (hb : BufAt S w B l up) (A : Option Addr) (n c : Nat) (last : Int) (key : ByteArray) (hl : l.length = n) (hr : Nest enS w w.heap.size A l) (hn : n ≤ 100) :
    Calls Tryz.prog 14 #[.pointer (some ⟨B, 0, none⟩), .agg #[.slice A n c, .int .i64 last], .string key] w fun e w' => e = .returned (.bool true) ∧ Below w.heap.size w w' := by
  obtain ⟨i0, hi0, hz0, hz1, hz2⟩ := info_parts info_string
  obtain ⟨w1, hw1⟩ : ∃ w1, w1 = w.alloc (.cells #[.slice A n c, .int .i64 last] 27) := ⟨_, rfl⟩
  have hb1 : Below w.heap.size w w1 := by rw [hw1]; exact (Below.refl _ _).alloc (Nat.le_refl _) _
  have hR1 : w1.heap[w.heap.size]? = some (.cells #[.slice A n c, .int .i64 last] 27 (0, 0)) := by rw [hw1]; exact heap_alloc_new w _
  have hg := hb.good
  have hBA := hb.below hb1
  have hN1 := Nest.later hr hb1
  have HBF : Hid (∀ w', Below w1.heap.size w1 w' → BufAt S w' B l up) := Lib.hid fun w' h => hBA.below h
  have HNE : Hid (∀ w', Below w1.heap.size w1 w' → Nest enS w' w'.heap.size A l) := Lib.hid fun w' h => Nest.later hN1 h
  have HRC : Hid (∀ w', Below w1.heap.size w1 w' → w'.cell? ⟨w.heap.size, 0, none⟩ = some (.slice A n c) ∧ w'.cell? ⟨w.heap.size, 1, none⟩ = some (.int .i64 last)) := Lib.hid fun w' h => by
    have := two_cells ((h.block _ (lt_of_block hR1)).trans hR1)
    exact ⟨this.1, this.2.1⟩
  have HG := Lib.hid hg
  have HL := Lib.hid hl
  have HB1 := Lib.hid hb1
  have HW1 := Lib.hid hw1
  obtain ⟨T, hT⟩ : ∃ T, T = weightE l := ⟨_, rfl⟩
  have hT5 : T ≤ 50000 := by
    have := weightE_le hg
    rw [hT]
    omega
  obtain ⟨la, hla⟩ : ∃ la, la = lastE l := ⟨_, rfl⟩
  have HLE : Hid (∀ w', Below w1.heap.size w1 w' → Calls Tryz.prog 23 #[.pointer (some ⟨B, 0, none⟩)] w' fun e w'' => e = .returned (.int .i64 (n : Int)) ∧ Below w'.heap.size w' w'') := Lib.hid fun w' h => by rw [← hl]; exact buf_Len (hBA.below h)
  have HWO : Hid (∀ w', Below w1.heap.size w1 w' → Calls Tryz.prog 20 #[.pointer (some ⟨B, 0, none⟩)] w' fun e w'' => e = .returned (.int .i64 (T : Int)) ∧ Below w'.heap.size w' w'') := Lib.hid fun w' h => by rw [hT]; exact buf_Words (hBA.below h)
  have HWR : Hid (∀ w', Below w1.heap.size w1 w' → Calls Tryz.prog 21 #[.slice A n c] w' fun e w'' => e = .returned (.int .i64 (T : Int)) ∧ Below w'.heap.size w' w'') := Lib.hid fun w' h => by rw [hT]; exact ref09_Words A n c l w' hl (Nest.later hN1 h) hg (by omega)
  have HLA : Hid (∀ w', Below w1.heap.size w1 w' → Calls Tryz.prog 24 #[.pointer (some ⟨B, 0, none⟩)] w' fun e w'' => e = .returned (.int .i64 la) ∧ Below w'.heap.size w' w'') := Lib.hid fun w' h => by rw [hla]; exact buf_Last (hBA.below h)
  have HEN : Hid (∀ w', Below w1.heap.size w1 w' → Calls Tryz.prog 22 #[.pointer (some ⟨B, 0, none⟩)] w' fun e w'' => ∃ A9 c9, e = .returned (.slice A9 n c9) ∧ Nest enS w'' w''.heap.size A9 l ∧ Below w'.heap.size w' w'') := Lib.hid fun w' h => (buf_Entries (hBA.below h) (by omega)).mono fun e w'' ⟨v, he, ho, hb⟩ => by
    obtain ⟨A9, c9, rfl, _, hn9⟩ := ho.nest
    rw [hl] at he
    exact ⟨A9, c9, he, hn9, hb⟩
  have HSA : Hid (∀ (A9 : Option Addr) (c9 : Nat) w', Below w1.heap.size w1 w' → Nest enS w' w'.heap.size A9 l → Calls Tryz.prog 8 #[.slice A9 n c9, .slice A n c] w' fun e w'' => e = .returned (.bool true) ∧ Below w'.heap.size w' w'') := Lib.hid fun A9 c9 w' h h9 => ref09_Same A9 A n n c9 c l w' hl hl h9 (Nest.later hN1 h) (by omega) fun q hq => by have := (hg q hq).len; omega
  have HKR : Hid (∀ w', Below w1.heap.size w1 w' → Calls Tryz.prog 32 #[.slice A n c] w' (GaveNm (keysE l) w')) := Lib.hid fun w' h => ref09_Keys A n c l w' hl (Nest.later hN1 h) hg hn
  have HKB : Hid (∀ w', Below w1.heap.size w1 w' → Calls Tryz.prog 17 #[.pointer (some ⟨B, 0, none⟩)] w' (GaveNm (keysE l) w')) := Lib.hid fun w' h => buf_Keys (hBA.below h) (by omega)
  have HPB : Hid (∀ (x : ByteArray) (L : List Pn), L = postsE 0 l x.data.toList → ∀ w', Below w1.heap.size w1 w' → Calls Tryz.prog 18 #[.pointer (some ⟨B, 0, none⟩), .string x] w' (GotPo L w')) := Lib.hid fun x L hL w' h => buf_Postings (hBA.below h) x L hL (by rw [hL]; have := posts_len hg (key := x.data.toList) l 0 fun q h => h; omega) fun p hp => by rw [hL] at hp; have := posts_good hg p hp; omega
  have HPR : Hid (∀ (x : ByteArray) (L : List Pn), L = postsE 0 l x.data.toList → ∀ w', Below w1.heap.size w1 w' → Calls Tryz.prog 35 #[.slice A n c, .string x] w' (GavePo L w')) := Lib.hid fun x L hL w' h => by rw [hL]; exact ref09_Postings A n c l x w' hl (Nest.later hN1 h) hg hn
  have HPS : Hid (∀ (x : ByteArray) (L : List Pn), L = postsE 0 l x.data.toList → ∀ (A9 C9 : Option Addr) (m c9 d9 : Nat) (w' : World), L.length = m → Posts w' w'.heap.size A9 L → Posts w' w'.heap.size C9 L → Calls Tryz.prog 34 #[.slice A9 m c9, .slice C9 m d9] w' fun e w'' => e = .returned (.bool true) ∧ Below w'.heap.size w' w'') := Lib.hid fun x L hL A9 C9 m c9 d9 w' hm h1 h2 => ref05_Same A9 C9 m m c9 d9 L w' hm hm h1 h2 (by
    rw [← hm, hL]
    have := posts_len hg (key := x.data.toList) l 0 fun q h => h
    omega) fun p hp => by rw [hL] at hp; have := posts_good hg p hp; omega
  have hK4 : (keysE l).length ≤ 400000 := by
    have h1 := keysE_length (l := l) (a := []) (M := 4000) fun q hq => terms_len9 (hg q hq)
    have h2 : (keysE l).length ≤ l.length * 4000 + ([] : List Nm).length := h1
    simp only [List.length_nil] at h2
    omega
  have HLAST : Hid (lastE l = la) := Lib.hid hla.symm
  clear hb hr hg hBA hN1 hl hb1 hw1 hR1 hT hla
  obtain ⟨q0, q1⟩ := HRC.out w1 (Below.refl _ _)
  go_enter Tryz.func14, Tryz.ntmps14
  rw [HW1.out] at q0 q1
  go_upto_if 13 with fail
  rw [show w.alloc _ = w1 from HW1.out.symm]
  rw [← HW1.out] at q0 q1
  obtain ⟨d1, hd1⟩ : ∃ d1, d1 = decide (0 < n) := ⟨_, rfl⟩
  rw [← hd1]
  have HD1 := Lib.hid hd1
  clear hd1
  go_cut [7] from 14 to 22 (fun s wx => s = .int .i64 la ∧ wx = w1)
  case first =>
    cases d1 with
    | true =>
      have hn0 : 0 < l.length := by
        have := of_decide_eq_true HD1.out.symm
        have := HL.out
        omega
      obtain ⟨m, hm⟩ : ∃ m, n = m + 1 := ⟨n - 1, by have := HL.out; omega⟩
      have hml : m < l.length := by have := HL.out; omega
      obtain ⟨b9, o9, A9, c9, rfl, hb9, u1, u2, h9, u3⟩ := enS_at (HNE.out w1 (Below.refl _ _)) hml
      have hla := HLAST.out
      rw [lastE_at hn0] at hla
      have hm2 : l.length - 1 = m := by have := HL.out; omega
      simp only [hm2] at hla
      rw [hla] at h9
      have hw9 : IntKind.i64.wrap ((n : Int) - 1) = (m : Int) := by rw [IntWalk.i64_in _ (by omega)]; omega
      have m0 : (0 : Int) ≤ m := by omega
      have m1 : (m : Int) < n := by omega
      clear hla hm2 u1 u2 u3 hm hml hn0
      go_wp2_with fail
      go_meet
      exact ⟨rfl, rfl⟩
    | false =>
      have hn0 : l = [] := by
        have := of_decide_eq_false HD1.out.symm
        have := HL.out
        exact List.eq_nil_of_length_eq_zero (by omega)
      have hla : la = -1 := by rw [← HLAST.out, hn0]; rfl
      subst hla
      go_wp2_with fail
      go_meet
      exact ⟨rfl, rfl⟩
  case rest =>
    obtain ⟨rfl, rfl⟩ := hcut
    go_upto_region 4 with fail
    go_region_held3 (fun w' => w'.cell? ⟨w.heap.size, 0, none⟩ = some (.slice A n c) ∧ w'.cell? ⟨w.heap.size, 1, none⟩ = some (.int .i64 last))
      (first | exact HRC.out _ (Below.refl _ _).drew | exact HRC.out _ HB2.out | exact HRC.out _ HB3.out | exact HRC.out _ HB4.out | exact HRC.out _ HB5.out | exact HRC.out _ HB6.out | exact HRC.out _ HB7.out)
      (first
        | (go_at_call 23; (with_reducible refine (HLE.out _ (Below.refl _ _).drew).mono ?_); rintro e w2 ⟨rfl, hb2⟩
           have HB2 : Hid (Below wc.heap.size wc w2) := Lib.hid ((Below.refl _ wc).drew.trans hb2)
           clear hb2)
        | (go_at_call 20; (with_reducible refine (HWO.out _ HB2.out).mono ?_); rintro e w3 ⟨rfl, hb3⟩
           have HB3 := Lib.hid (HB2.out.trans (hb3.mono HB2.out.size))
           clear hb3)
        | (go_at_call 21; (with_reducible refine (HWR.out _ HB3.out).mono ?_); rintro e w4 ⟨rfl, hb4⟩
           have HB4 := Lib.hid (HB3.out.trans (hb4.mono HB3.out.size))
           clear hb4)
        | (go_at_call 24; (with_reducible refine (HLA.out _ HB4.out).mono ?_); rintro e w5 ⟨rfl, hb5⟩
           have HB5 := Lib.hid (HB4.out.trans (hb5.mono HB4.out.size))
           clear hb5)
        | (go_at_call 22; (with_reducible refine (HEN.out _ HB5.out).mono ?_); rintro e w6 ⟨A6, c6, rfl, hn6, hb6⟩
           have HB6 := Lib.hid (HB5.out.trans (hb6.mono HB5.out.size))
           have HN6 := Lib.hid hn6
           clear hb6 hn6)
        | (go_at_call 8; (with_reducible refine (HSA.out _ _ _ HB6.out HN6.out).mono ?_); rintro e w7 ⟨rfl, hb7⟩
           have HB7 := Lib.hid (HB6.out.trans (hb7.mono HB6.out.size))
           clear hb7))
    obtain ⟨p0, p1⟩ := HRC.out w7 HB7.out
    have hKS : strs (keysE l ++ [key.data.toList]) = strs (keysE l) ++ [.string key] := by
      rw [strs_append]
      congr 1
    obtain ⟨KS, hks⟩ : ∃ KS, KS = keysE l ++ [key.data.toList] := ⟨_, rfl⟩
    have hKSl : KS.length = (keysE l).length + 1 := by rw [hks]; simp
    rw [← hks] at hKS
    obtain ⟨K, hK⟩ : ∃ K, K = (keysE l).length := ⟨_, rfl⟩
    have HKS := Lib.hid hKS
    have HKL := Lib.hid hKSl
    have HK := Lib.hid hK
    rw [← hK] at hK4
    clear hKS hks hKSl hK q0 q1
    go_wp2_with (first
      | (go_at_call 32; (with_reducible refine (HKR.out _ HB7.out).mono ?_); rintro e w8 ⟨v8, rfl, ho8, hb8⟩
         obtain ⟨A8, c8, rfl, hc8, hu8⟩ := ho8.row
         rw [← HK.out] at hc8 ⊢
         have HB8 := Lib.hid (HB7.out.trans (hb8.mono HB7.out.size))
         have HO8 := Lib.hid ho8
         have h78 : w7.heap.size ≤ w8.heap.size := hb8.size
         have HR8 := Lib.hid hu8
         clear hb8 ho8 hu8)
      | (go_at_call 17; (with_reducible refine (HKB.out _ HB8.out).mono ?_); rintro e w9 ⟨v9, rfl, ho9, hb9⟩
         obtain ⟨A9, c9, rfl, hc9, hu9⟩ := ho9.row
         rw [← HK.out] at hc9 ⊢
         have HSK : Hid (Calls Tryz.prog 33 #[.slice A9 K c9, .slice A8 K c8] w9 fun e w' => e = .returned (.bool true) ∧ Below w9.heap.size w9 w') := Lib.hid (ref02_Same A9 A8 K K c9 c8 (keysE l) w9 HK.out.symm HK.out.symm hu9 (Row.later HR8.out hb9) (by have := HK.out; omega))
         have HB9 := Lib.hid (HB8.out.trans (hb9.mono HB8.out.size))
         have HO9 : Hid (w9.ownsRow w7.heap.size 9 1 (.slice A8 K c8) K (strs (keysE l))) := Lib.hid (by
           have h := HO8.out.below hb9
           unfold OwnNm at h
           rw [← HK.out] at h
           exact h)
         have h79 : w7.heap.size ≤ w9.heap.size := Nat.le_trans h78 hb9.size
         clear hb9 ho9 hu9)
      | (go_at_call 33; (with_reducible refine HSK.out.mono ?_); rintro e w10 ⟨rfl, hb10⟩
         have HB10 := Lib.hid (HB9.out.trans (hb10.mono HB9.out.size))
         have HO10 := Lib.hid (owned_below HO9.out hb10)
         have h710 : w7.heap.size ≤ w10.heap.size := Nat.le_trans h79 hb10.size
         clear hb10)
      | (at_builtin; refine wpList_append_own _ rfl (.tmp 59) (.tmp 61) 47 rfl w7.heap.size 9 i0 _ 1 16 Tryz.underlying47 hi0 hz0 hz1 hz2 rfl (by omega) _ K (strs (keysE l)) rfl (HO10.out.alloc _) ⟨w10.heap.size, 0, none⟩ 1 1 [.string key] rfl rfl (news_at w10 [.string key] 9) (by intro u hu; simp at hu; subst hu; rfl) (by unfold maxLen; omega) (by omega) (by simp; omega) ?_
         intro v11 w11 hown11 hg11 hz11
         obtain ⟨A11, c11, rfl, hc11, hu11⟩ := owned_row hown11
         rw [← HKS.out] at hu11
         have HR11 := Lib.hid hu11
         have HB11 : Hid (Below wc.heap.size wc w11) := Lib.hid (HB10.out.trans ((((Below.refl _ w10).alloc (Nat.le_refl _) _).mono HB10.out.size).grown hg11 (by have := HB10.out.size; simp; omega) fun k hk => by
           have := (HO10.out.lt k hk).1
           have := HB7.out.size
           omega))
         clear hown11 hg11 hz11 hu11))
    go_loopw [9] (fun x wr => LikeRel K w11 x wr) (fun x _ => K + 1 - (intOf x).toNat)
    case atStart => exact ⟨0, Nat.zero_le _, rfl, Below.refl _ _⟩
    case round =>
      obtain ⟨j, hj, rfl, hbw⟩ := hrel
      obtain ⟨wo, rfl⟩ : ∃ wo, wo = wr := ⟨_, rfl⟩
      have HBR := Lib.hid (HB11.out.trans (hbw.mono HB11.out.size))
      by_cases hjK : j < K + 1
      · have hjl : j < KS.length := by have := HKL.out; have := HK.out; omega
        obtain ⟨b12, o12, rfl, hb12, hx12⟩ := row_nm (Row.later HR11.out hbw) hjl
        obtain ⟨x, hx, hx2⟩ := as_text KS[j]
        rw [← hx] at hx12
        obtain ⟨L, hL⟩ : ∃ L, L = postsE 0 l x.data.toList := ⟨_, rfl⟩
        have HPB2 := Lib.hid (HPB.out x L hL)
        have HPR2 := Lib.hid (HPR.out x L hL)
        have HPS2 := Lib.hid (HPS.out x L hL)
        obtain ⟨NL, hNL⟩ : ∃ NL, NL = L.length := ⟨_, rfl⟩
        have HNL := Lib.hid hNL
        have HSC : Hid (∀ w', Below wo.heap.size wo w' → Below wc.heap.size wc w' ∧ w'.cell? ⟨w.heap.size, 0, none⟩ = some (.slice A n c) ∧ w'.cell? ⟨b12, o12 + j, none⟩ = some (.string x)) := Lib.hid fun w' h => by
          have h1 := HBR.out.trans (h.mono HBR.out.size)
          exact ⟨h1, (HRC.out _ h1).1, (h.cell (p := ⟨b12, _, none⟩) hb12).trans hx12⟩
        have HBW := Lib.hid hbw
        have j0 : (0 : Int) ≤ j := by omega
        have j1 : (j : Int) < (K : Int) + 1 := by omega
        clear hx hx2 hL hNL hbw hx12 hb12 hjl
        go_upto_region 13 with fail
        go_region_held3 (fun w' => w'.cell? ⟨w.heap.size, 0, none⟩ = some (.slice A n c) ∧ w'.cell? ⟨b12, o12 + j, none⟩ = some (.string x))
          (first | exact (HSC.out _ (Below.refl _ _).drew).2 | exact (HSC.out _ HB13.out).2 | exact (HSC.out _ HB14.out).2 | exact (HSC.out _ HB15.out).2)
          (first
            | (go_at_call 18; (with_reducible refine (HPB2.out _ (HSC.out _ (Below.refl _ _).drew).1).mono ?_); rintro e w13 ⟨v13, rfl, ho13, hb13⟩
               obtain ⟨A13, c13, rfl, hc13, hp13⟩ := ho13.posts
               rw [← HNL.out]
               have HB13 : Hid (Below wo.heap.size wo w13) := Lib.hid ((Below.refl _ wo).drew.trans hb13)
               have HP13 := Lib.hid hp13
               clear hb13 ho13 hp13 hc13)
            | (go_at_call 35; (with_reducible refine (HPR2.out _ (HSC.out _ HB13.out).1).mono ?_); rintro e w14 ⟨v14, rfl, ho14, hb14⟩
               obtain ⟨A14, c14, rfl, hc14, hp14⟩ := ho14.posts
               rw [← HNL.out]
               have HB14 : Hid (Below wo.heap.size wo w14) := Lib.hid (HB13.out.trans (hb14.mono HB13.out.size))
               have HP14 := Lib.hid hp14
               have HP15 := Lib.hid (Posts.later HP13.out hb14)
               clear hb14 ho14 hp14 hc14)
            | (go_at_call 34; (with_reducible refine (HPS2.out _ _ _ _ _ _ HNL.out.symm HP15.out HP14.out).mono ?_); rintro e w15 ⟨rfl, hb15⟩
               have HB15 : Hid (Below wo.heap.size wo w15) := Lib.hid (HB14.out.trans (hb15.mono HB14.out.size))
               clear hb15))
        all_goals
          go_wp2
          exact ⟨⟨j + 1, hjK, by go_num, HBW.out.trans (HB15.out.mono HBW.out.size)⟩, by simp [intOf]; omega⟩
      · have hje : j = K + 1 := by omega
        subst hje
        clear hjK
        go_wp2
        go_ret
        exact ⟨rfl, HB1.out.trans (HBR.out.mono HB1.out.size)⟩
end Go.Proofs.YtgcdekaceimdnaaGreat
