/- BitsJoins, walked: true for every input. -/
import Derived.Test.YtkflmhpmnceniaaDoorLike03
import Derived.Test.YtkflmhpmnceniaaDoorOr03
set_option linter.unusedVariables false
namespace Go.Proofs.YtkflmhpmnceniaaDoor
open Go Go.RowKit
open Plain (Rep WS hasB mayB turnB turnedB ones nextB rankB joinB notB)

theorem de_morgan (x z : List Bool) (h : x.length = z.length) : notB (joinB x z true) = joinB (notB x) (notB z) false := by
  apply List.ext_getElem
  · rw [Plain.notB_length, Plain.joinB_length, Plain.joinB_length, Plain.notB_length, Plain.notB_length]
  · intro i h1 h2
    have hx : i < x.length := by rw [Plain.notB_length, Plain.joinB_length] at h1; omega
    have hz : i < z.length := by omega
    simp only [notB, joinB, List.getElem_map, List.getElem_range]
    simp only [List.getD_eq_getElem?_getD, List.getElem?_map, List.getElem?_eq_getElem hx, List.getElem?_eq_getElem hz, Option.map_some, Option.getD_some]
    cases x[i] <;> cases z[i] <;> rfl

/-- A set and the document's list that agree, in new memory of the call's own. -/
def Pair (w w' : World) (B : Nat) (v : Value) (r : List Bool) : Prop := SetIs w' w.heap.size B r ∧ w'.ownsRow w.heap.size 4 1 v r.length (bcells r) ∧ r.length ≤ 200
theorem Pair.below {w w1 w2 : World} {B : Nat} {v : Value} {r : List Bool} (h : Pair w w1 B v r) (hb : Below w1.heap.size w1 w2) : Pair w w2 B v r := ⟨h.1.below hb, owned_below h.2.1 hb, h.2.2⟩
/-- A set in new memory. -/
def SetNew (w w' : World) (B : Nat) (r : List Bool) : Prop := SetIs w' w.heap.size B r ∧ r.length ≤ 200
theorem SetNew.below {w w1 w2 : World} {B : Nat} {r : List Bool} (h : SetNew w w1 B r) (hb : Below w1.heap.size w1 w2) : SetNew w w2 B r := ⟨h.1.below hb, h.2⟩
theorem len_big200 {r : List Bool} (h : r.length ≤ 200) : r.length ≤ big := by unfold big; omega

set_option maxHeartbeats 16000000 in
set_option maxRecDepth 100000 in
theorem walk_BitsJoins (n : Int) (a : Option Addr) (len cap : Nat) (ds : List (Int × Int)) (n2 : Int) (a2 : Option Addr) (len2 cap2 : Nat) (ds2 : List (Int × Int)) (w : World) (hn : n < 9223372036854775808) (hn0 : -9223372036854775808 ≤ n) (hd : InDeeds w a len cap ds)
    (hm : n2 < 9223372036854775808) (hm0 : -9223372036854775808 ≤ n2) (hd2 : InDeeds w a2 len2 cap2 ds2) (hT : Tab w) :
    Calls Tryd.prog 4 #[.int .i64 n, .slice a len cap, .int .i64 n2, .slice a2 len2 cap2] w (GaveTrue w) := by
  have HZ := Lib.hid (fun w => law03_size n w hn hn0)
  have HZ2 := Lib.hid (fun w => law03_size n2 w hm hm0)
  have HM := Lib.hid (law03_made (sizeI n) a len cap ds w (sizeI_le n) (sizeI_ge n hn0) hd hT)
  have HM2 := Lib.hid (fun w h hT => law03_made (sizeI n2) a2 len2 cap2 ds2 w (sizeI_le n2) (sizeI_ge n2 hm0) h hT)
  have HM3 := Lib.hid (fun w h hT => law03_made (sizeI n) a2 len2 cap2 ds2 w (sizeI_le n) (sizeI_ge n hn0) h hT)
  have hN : (sizeI n).toNat ≤ 200 := by have := sizeI_le n; omega
  have hN2 : (sizeI n2).toNat ≤ 200 := by have := sizeI_le n2; omega
  have HT := Lib.hid hT
  have HD2 := Lib.hid hd2
  obtain ⟨N, hNe⟩ : ∃ N, N = (sizeI n).toNat := ⟨_, rfl⟩
  rw [← hNe] at HM HM3 hN
  obtain ⟨N2, hNe2⟩ : ∃ N, N = (sizeI n2).toNat := ⟨_, rfl⟩
  rw [← hNe2] at HM2 hN2
  obtain ⟨Z, hZe⟩ : ∃ Z, Z = sizeI n := ⟨_, rfl⟩
  rw [← hZe] at HM HM3 HZ
  obtain ⟨Z2, hZe2⟩ : ∃ Z, Z = sizeI n2 := ⟨_, rfl⟩
  rw [← hZe2] at HM2 HZ2
  have HNN := Lib.hid (And.intro hN hN2)
  clear hNe hNe2 hZe hZe2 hd hd2 hT hn hn0 hm hm0 hN hN2
  go_enter Tryd.func4, Tryd.ntmps4
  go_wp2_with (first
    | (go_at_call 10; (with_reducible refine (HZ.out _).mono ?_); rintro e w' ⟨rfl, rfl⟩)
    | (go_at_call 9; (with_reducible refine HM.out.mono ?_)))
  rintro e w_1 ⟨B, v, r, rfl, hrl, hset, hown, hb⟩
  obtain ⟨A1, c1, rfl, _, _⟩ := owned_row hown
  have HP_1 := Lib.hid (show Pair w w_1 B _ r from ⟨hset, hown, by have := HNN.out; omega⟩)
  have HL := Lib.hid hrl
  have HB_1 := Lib.hid hb
  have HMA := Lib.hid (HM2.out w_1 (HD2.out.below hb) (HT.out.below hb HT.out.lt))
  clear hset hown hb hrl
  go_wp2_with (first
    | (go_at_call 10; (with_reducible refine (HZ2.out _).mono ?_); rintro e w' ⟨rfl, rfl⟩)
    | (go_at_call 9; (with_reducible refine HMA.out.mono ?_)))
  rintro e w_2 ⟨B2, v2, r2, rfl, hrl2, hset2, hown2, hb⟩
  obtain ⟨A2, c2, rfl, _, _⟩ := owned_row hown2
  have hz := HB_1.out.size
  have HQ_2 := Lib.hid (show Pair w w_2 B2 _ r2 from ⟨hset2.low hz, owned_low hown2 hz, by have := HNN.out; omega⟩)
  have HP_2 := Lib.hid (HP_1.out.below hb)
  have HB_2 := Lib.hid (HB_1.out.trans (hb.mono HB_1.out.size))
  have HT_2 := Lib.hid (HT.out.below HB_2.out HT.out.lt)
  clear hset2 hown2 hb hrl2 HMA HM2 HM hz
  have HK := Lib.hid (set_And w.heap.size B r w.heap.size B2 r2 w_2 HP_2.out.1 HQ_2.out.1 (len_big200 HP_2.out.2.2) (len_big200 HQ_2.out.2.2))
  go_wp2_with (go_at_call 13; (with_reducible refine HK.out.mono ?_))
  rintro e w_3 ⟨HCc, rfl, hs, hb⟩
  have HC_3 := Lib.hid (show SetNew w w_3 HCc (joinB r r2 false) from ⟨hs.low HB_2.out.size, by rw [Plain.joinB_length]; have h1 := HP_2.out.2.2; have h2 := HQ_2.out.2.2; omega⟩)
  have HP_3 := Lib.hid (HP_2.out.below hb)
  have HQ_3 := Lib.hid (HQ_2.out.below hb)
  have HB_3 := Lib.hid (HB_2.out.trans (hb.mono HB_2.out.size))
  have HT_3 := Lib.hid (HT.out.below HB_3.out HT.out.lt)
  clear hs hb HK
  have HK := Lib.hid (ref03_Join A1 r.length c1 r A2 r2.length c2 r2 false w_3 rfl rfl (owned_row_of HP_3.out.2.1) (owned_row_of HQ_3.out.2.1) (len_big200 HP_3.out.2.2) (len_big200 HQ_3.out.2.2))
  go_wp2_with (go_at_call 14; (with_reducible refine HK.out.mono ?_))
  rintro e w_4 ⟨vJ, rfl, hoJ, hb⟩
  have HP_4 := Lib.hid (HP_3.out.below hb)
  have HQ_4 := Lib.hid (HQ_3.out.below hb)
  have HC_4 := Lib.hid (HC_3.out.below hb)
  have HB_4 := Lib.hid (HB_3.out.trans (hb.mono HB_3.out.size))
  have HT_4 := Lib.hid (HT.out.below HB_4.out HT.out.lt)
  have HOJ := Lib.hid hoJ
  clear hoJ hb HK
  have HK := Lib.hid (law03_like w.heap.size w_3.heap.size HCc _ (joinB r r2 false) w_4 HC_4.out.1 HOJ.out (len_big200 HC_4.out.2) HT_4.out)
  go_wp2_with (go_at_call 11; (with_reducible refine HK.out.mono ?_))
  rintro e w_5 ⟨rfl, hb⟩
  have HP_5 := Lib.hid (HP_4.out.below hb)
  have HQ_5 := Lib.hid (HQ_4.out.below hb)
  have HB_5 := Lib.hid (HB_4.out.trans (hb.mono HB_4.out.size))
  have HT_5 := Lib.hid (HT.out.below HB_5.out HT.out.lt)
  clear hb HK
  clear HOJ
  have HK := Lib.hid (set_Or w.heap.size B r w.heap.size B2 r2 w_5 HP_5.out.1 HQ_5.out.1 (by have := HP_5.out.2.2; omega) (by have := HQ_5.out.2.2; omega))
  go_wp2_with (go_at_call 15; (with_reducible refine HK.out.mono ?_))
  rintro e w_6 ⟨HEc, rfl, hs, hb⟩
  have HE_6 := Lib.hid (show SetNew w w_6 HEc (joinB r r2 true) from ⟨hs.low HB_5.out.size, by rw [Plain.joinB_length]; have h1 := HP_2.out.2.2; have h2 := HQ_2.out.2.2; omega⟩)
  have HP_6 := Lib.hid (HP_5.out.below hb)
  have HQ_6 := Lib.hid (HQ_5.out.below hb)
  have HB_6 := Lib.hid (HB_5.out.trans (hb.mono HB_5.out.size))
  have HT_6 := Lib.hid (HT.out.below HB_6.out HT.out.lt)
  clear hs hb HK
  have HK := Lib.hid (ref03_Join A1 r.length c1 r A2 r2.length c2 r2 true w_6 rfl rfl (owned_row_of HP_6.out.2.1) (owned_row_of HQ_6.out.2.1) (len_big200 HP_6.out.2.2) (len_big200 HQ_6.out.2.2))
  go_wp2_with (go_at_call 14; (with_reducible refine HK.out.mono ?_))
  rintro e w_7 ⟨vJ, rfl, hoJ, hb⟩
  have HP_7 := Lib.hid (HP_6.out.below hb)
  have HQ_7 := Lib.hid (HQ_6.out.below hb)
  have HE_7 := Lib.hid (HE_6.out.below hb)
  have HB_7 := Lib.hid (HB_6.out.trans (hb.mono HB_6.out.size))
  have HT_7 := Lib.hid (HT.out.below HB_7.out HT.out.lt)
  have HOJ := Lib.hid hoJ
  clear hoJ hb HK
  have HK := Lib.hid (law03_like w.heap.size w_6.heap.size HEc _ (joinB r r2 true) w_7 HE_7.out.1 HOJ.out (len_big200 HE_7.out.2) HT_7.out)
  go_wp2_with (go_at_call 11; (with_reducible refine HK.out.mono ?_))
  rintro e w_8 ⟨rfl, hb⟩
  have HP_8 := Lib.hid (HP_7.out.below hb)
  have HQ_8 := Lib.hid (HQ_7.out.below hb)
  have HB_8 := Lib.hid (HB_7.out.trans (hb.mono HB_7.out.size))
  have HT_8 := Lib.hid (HT.out.below HB_8.out HT.out.lt)
  clear hb HK
  clear HOJ
  have HK := Lib.hid (set_Not w.heap.size B r w_8 HP_8.out.1 (len_big200 HP_8.out.2.2))
  go_wp2_with (go_at_call 16; (with_reducible refine HK.out.mono ?_))
  rintro e w_9 ⟨HFc, rfl, hs, hb⟩
  have HF_9 := Lib.hid (show SetNew w w_9 HFc (notB r) from ⟨hs.low HB_8.out.size, by rw [Plain.notB_length]; exact HP_8.out.2.2⟩)
  have HP_9 := Lib.hid (HP_8.out.below hb)
  have HQ_9 := Lib.hid (HQ_8.out.below hb)
  have HB_9 := Lib.hid (HB_8.out.trans (hb.mono HB_8.out.size))
  have HT_9 := Lib.hid (HT.out.below HB_9.out HT.out.lt)
  clear hs hb HK
  have HK := Lib.hid (ref03_Not A1 r.length c1 r w_9 rfl (owned_row_of HP_9.out.2.1) (len_big200 HP_9.out.2.2))
  go_wp2_with (go_at_call 17; (with_reducible refine HK.out.mono ?_))
  rintro e w_10 ⟨vJ, rfl, hoJ, hb⟩
  have HP_10 := Lib.hid (HP_9.out.below hb)
  have HQ_10 := Lib.hid (HQ_9.out.below hb)
  have HF_10 := Lib.hid (HF_9.out.below hb)
  have HB_10 := Lib.hid (HB_9.out.trans (hb.mono HB_9.out.size))
  have HT_10 := Lib.hid (HT.out.below HB_10.out HT.out.lt)
  have HOJ := Lib.hid hoJ
  clear hoJ hb HK
  have HK := Lib.hid (law03_like w.heap.size w_9.heap.size HFc _ (notB r) w_10 HF_10.out.1 HOJ.out (len_big200 HF_10.out.2) HT_10.out)
  go_wp2_with (go_at_call 11; (with_reducible refine HK.out.mono ?_))
  rintro e w_11 ⟨rfl, hb⟩
  have HP_11 := Lib.hid (HP_10.out.below hb)
  have HQ_11 := Lib.hid (HQ_10.out.below hb)
  have HB_11 := Lib.hid (HB_10.out.trans (hb.mono HB_10.out.size))
  have HT_11 := Lib.hid (HT.out.below HB_11.out HT.out.lt)
  clear hb HK
  clear HOJ
  have HMA := Lib.hid (HM3.out w_11 (HD2.out.below HB_11.out) HT_11.out)
  go_wp2_with (first
    | (go_at_call 10; (with_reducible refine (HZ.out _).mono ?_); rintro e w' ⟨rfl, rfl⟩)
    | (go_at_call 9; (with_reducible refine HMA.out.mono ?_)))
  rintro e w_12 ⟨B3, v3, r3, rfl, hrl3, hset3, hown3, hb⟩
  obtain ⟨A3, c3, rfl, _, _⟩ := owned_row hown3
  have HG_12 := Lib.hid (show SetNew w w_12 B3 r3 from ⟨hset3.low HB_11.out.size, by have := HNN.out; omega⟩)
  have HL3 := Lib.hid (show r.length = r3.length from by rw [hrl3]; exact HL.out)
  have HP_12 := Lib.hid (HP_11.out.below hb)
  have HQ_12 := Lib.hid (HQ_11.out.below hb)
  have HB_12 := Lib.hid (HB_11.out.trans (hb.mono HB_11.out.size))
  have HT_12 := Lib.hid (HT.out.below HB_12.out HT.out.lt)
  clear hset3 hown3 hb hrl3 HMA HM3
  have HK := Lib.hid (set_Or w.heap.size B r w.heap.size B3 r3 w_12 HP_12.out.1 HG_12.out.1 (by have := HP_12.out.2.2; omega) (by have := HG_12.out.2; omega))
  go_wp2_with (go_at_call 15; (with_reducible refine HK.out.mono ?_))
  rintro e w_13 ⟨HHc, rfl, hs, hb⟩
  have HH_13 := Lib.hid (show SetNew w w_13 HHc (joinB r r3 true) from ⟨hs.low HB_12.out.size, by rw [Plain.joinB_length]; have h1 := HP_12.out.2.2; have h2 := HG_12.out.2; omega⟩)
  have HP_13 := Lib.hid (HP_12.out.below hb)
  have HQ_13 := Lib.hid (HQ_12.out.below hb)
  have HG_13 := Lib.hid (HG_12.out.below hb)
  have HB_13 := Lib.hid (HB_12.out.trans (hb.mono HB_12.out.size))
  have HT_13 := Lib.hid (HT.out.below HB_13.out HT.out.lt)
  clear hs hb HK
  have HK := Lib.hid (set_Not w.heap.size HHc (joinB r r3 true) w_13 HH_13.out.1 (len_big200 HH_13.out.2))
  go_wp2_with (go_at_call 16; (with_reducible refine HK.out.mono ?_))
  rintro e w_14 ⟨HIc, rfl, hs, hb⟩
  have HI_14 := Lib.hid (show SetNew w w_14 HIc (notB (joinB r r3 true)) from ⟨hs.low HB_13.out.size, by rw [Plain.notB_length]; exact HH_13.out.2⟩)
  have HP_14 := Lib.hid (HP_13.out.below hb)
  have HQ_14 := Lib.hid (HQ_13.out.below hb)
  have HG_14 := Lib.hid (HG_13.out.below hb)
  have HB_14 := Lib.hid (HB_13.out.trans (hb.mono HB_13.out.size))
  have HT_14 := Lib.hid (HT.out.below HB_14.out HT.out.lt)
  clear hs hb HK
  have HK := Lib.hid (set_Not w.heap.size B r w_14 HP_14.out.1 (len_big200 HP_14.out.2.2))
  go_wp2_with (go_at_call 16; (with_reducible refine HK.out.mono ?_))
  rintro e w_15 ⟨HJc, rfl, hs, hb⟩
  have HJ_15 := Lib.hid (show SetNew w w_15 HJc (notB r) from ⟨hs.low HB_14.out.size, by rw [Plain.notB_length]; exact HP_14.out.2.2⟩)
  have HP_15 := Lib.hid (HP_14.out.below hb)
  have HQ_15 := Lib.hid (HQ_14.out.below hb)
  have HG_15 := Lib.hid (HG_14.out.below hb)
  have HI_15 := Lib.hid (HI_14.out.below hb)
  have HB_15 := Lib.hid (HB_14.out.trans (hb.mono HB_14.out.size))
  have HT_15 := Lib.hid (HT.out.below HB_15.out HT.out.lt)
  clear hs hb HK
  have HK := Lib.hid (set_Not w.heap.size B3 r3 w_15 HG_15.out.1 (len_big200 HG_15.out.2))
  go_wp2_with (go_at_call 16; (with_reducible refine HK.out.mono ?_))
  rintro e w_16 ⟨HUc, rfl, hs, hb⟩
  have HU_16 := Lib.hid (show SetNew w w_16 HUc (notB r3) from ⟨hs.low HB_15.out.size, by rw [Plain.notB_length]; exact HG_15.out.2⟩)
  have HP_16 := Lib.hid (HP_15.out.below hb)
  have HQ_16 := Lib.hid (HQ_15.out.below hb)
  have HI_16 := Lib.hid (HI_15.out.below hb)
  have HJ_16 := Lib.hid (HJ_15.out.below hb)
  have HB_16 := Lib.hid (HB_15.out.trans (hb.mono HB_15.out.size))
  have HT_16 := Lib.hid (HT.out.below HB_16.out HT.out.lt)
  clear hs hb HK
  have HK := Lib.hid (set_And w.heap.size HJc (notB r) w.heap.size HUc (notB r3) w_16 HJ_16.out.1 HU_16.out.1 (len_big200 HJ_16.out.2) (len_big200 HU_16.out.2))
  go_wp2_with (go_at_call 13; (with_reducible refine HK.out.mono ?_))
  rintro e w_17 ⟨HVc, rfl, hs, hb⟩
  have HV_17 := Lib.hid (show SetNew w w_17 HVc (joinB (notB r) (notB r3) false) from ⟨hs.low HB_16.out.size, by rw [Plain.joinB_length]; have h1 := HJ_16.out.2; have h2 := HU_16.out.2; omega⟩)
  have HP_17 := Lib.hid (HP_16.out.below hb)
  have HQ_17 := Lib.hid (HQ_16.out.below hb)
  have HI_17 := Lib.hid (HI_16.out.below hb)
  have HB_17 := Lib.hid (HB_16.out.trans (hb.mono HB_16.out.size))
  have HT_17 := Lib.hid (HT.out.below HB_17.out HT.out.lt)
  clear hs hb HK
  have HIX := Lib.hid (show SetIs w_17 w.heap.size HIc (joinB (notB r) (notB r3) false) from by have := HI_17.out.1; rwa [de_morgan r r3 HL3.out] at this)
  have hlen := HV_17.out.2
  obtain ⟨x, hx⟩ : ∃ x, x = joinB (notB r) (notB r3) false := ⟨_, rfl⟩
  have HVX := Lib.hid HV_17.out.1
  rw [← hx] at HIX HVX hlen
  have HXL := Lib.hid hlen
  clear hx hlen
  have HK := Lib.hid (set_List w.heap.size HIc x w_17 HIX.out (len_big200 HXL.out) HT_17.out)
  go_wp2_with (go_at_call 19; (with_reducible refine HK.out.mono ?_))
  rintro e w_18 ⟨vp, rfl, hop, hb⟩
  obtain ⟨Ap, cp, rfl, _, hrp⟩ := owned_row hop
  have HRP := Lib.hid hrp
  have HK2 := Lib.hid (HVX.out.below hb)
  have HP_18 := Lib.hid (HP_17.out.below hb)
  have HQ_18 := Lib.hid (HQ_17.out.below hb)
  have HB_18 := Lib.hid (HB_17.out.trans (hb.mono HB_17.out.size))
  have HT_18 := Lib.hid (HT.out.below HB_18.out HT.out.lt)
  clear hop hrp hb HK
  have HK := Lib.hid (set_List w.heap.size HVc x w_18 HK2.out (len_big200 HXL.out) HT_18.out)
  go_wp2_with (go_at_call 19; (with_reducible refine HK.out.mono ?_))
  rintro e w_19 ⟨vq, rfl, hoq, hb⟩
  obtain ⟨Aq, cq, rfl, _, hrq⟩ := owned_row hoq
  have hrp9 := (HRP.out.below hb).more hb.size
  have hol := Plain.ones_length x
  have HK3 := Lib.hid (same_nats Ap Aq (ones x).length (ones x).length cp cq (ones x) w_19 rfl rfl hrp9 hrq (by have := HXL.out; omega))
  have HP_19 := Lib.hid (HP_18.out.below hb)
  have HQ_19 := Lib.hid (HQ_18.out.below hb)
  have HB_19 := Lib.hid (HB_18.out.trans (hb.mono HB_18.out.size))
  have HT_19 := Lib.hid (HT.out.below HB_19.out HT.out.lt)
  clear hoq hrq hrp9 hol hb HK
  go_wp2_with (go_at_call 18; (with_reducible refine HK3.out.mono ?_))
  rintro e w_20 ⟨rfl, hb⟩
  have HP_20 := Lib.hid (HP_19.out.below hb)
  have HQ_20 := Lib.hid (HQ_19.out.below hb)
  have HB_20 := Lib.hid (HB_19.out.trans (hb.mono HB_19.out.size))
  have HT_20 := Lib.hid (HT.out.below HB_20.out HT.out.lt)
  clear hb HK3
  have HK := Lib.hid (law03_like w.heap.size w.heap.size B _ r w_20 HP_20.out.1 HP_20.out.2.1 (len_big200 HP_20.out.2.2) HT_20.out)
  go_wp2_with (go_at_call 11; (with_reducible refine HK.out.mono ?_))
  rintro e w_21 ⟨rfl, hb⟩
  have HP_21 := Lib.hid (HP_20.out.below hb)
  have HQ_21 := Lib.hid (HQ_20.out.below hb)
  have HB_21 := Lib.hid (HB_20.out.trans (hb.mono HB_20.out.size))
  have HT_21 := Lib.hid (HT.out.below HB_21.out HT.out.lt)
  clear hb HK
  have HK := Lib.hid (law03_like w.heap.size w.heap.size B2 _ r2 w_21 HQ_21.out.1 HQ_21.out.2.1 (len_big200 HQ_21.out.2.2) HT_21.out)
  go_wp2_with (go_at_call 11; (with_reducible refine HK.out.mono ?_))
  rintro e w_22 ⟨rfl, hb⟩
  have HP_22 := Lib.hid (HP_21.out.below hb)
  have HQ_22 := Lib.hid (HQ_21.out.below hb)
  have HB_22 := Lib.hid (HB_21.out.trans (hb.mono HB_21.out.size))
  have HT_22 := Lib.hid (HT.out.below HB_22.out HT.out.lt)
  clear hb HK
  go_wp2_with (go_at_call 12; (with_reducible refine (law03_lives _ HT_22.out).mono ?_))
  rintro e w_23 ⟨rfl, hb⟩
  have HB_23 := Lib.hid (HB_22.out.trans (hb.mono HB_22.out.size))
  have HT_23 := Lib.hid (HT.out.below HB_23.out HT.out.lt)
  go_wp2
  go_ret
  exact ⟨rfl, HB_23.out⟩
end Go.Proofs.YtkflmhpmnceniaaDoor
