/- Texts laid together: RefTextQ12, RefSame12. -/
import Derived.Test.YtolfkhflbjnakaaGreatDoorNAQ13
import Derived.Test.YtolfkhflbjnakaaGreatDoorNAQ12
import Derived.Test.YtolfkhflbjnakaaGreatDoorNAQ06
import Derived.Laws.Concat
import Derived.BigCall
import Derived.Laws.Small
import Derived.Test.YtolfkhflbjnakaaGreatDoorNAQ19
import Derived.Test.YtolfkhflbjnakaaGreatDoorNAQ10
import Derived.Deep.RegionWith

/- What the document's Text answers: a query's text. -/
namespace Go.Proofs.YtolfkhflbjnakaaGreatDoor
open Go Go.RowKit
set_option linter.unusedVariables false

theorem bytes_list12 {x : ByteArray} {l : List UInt8} (h : x.data.toList = l) : x = ⟨l.toArray⟩ := by
  apply ByteArray.ext
  apply Array.toList_inj.1
  rw [h]
theorem cat_list (x y : ByteArray) : (x ++ y : ByteArray).data.toList = x.data.toList ++ y.data.toList := by simp [ByteArray.data_append]
theorem joinW_take {ws : List Nm} {j : Nat} (hj : j < ws.length) : joinW (ws.take (j + 1)) = (if 0 < j then joinW (ws.take j) ++ [32] else []) ++ ws[j] := by
  have key : ∀ (a : List Nm) (w : Nm), a ≠ [] → joinW (a ++ [w]) = joinW a ++ [32] ++ w := fun a w h => by
    induction a with
    | nil => exact absurd rfl h
    | cons x a ih =>
      by_cases ha : a = []
      · subst ha; simp [joinW]
      · rw [List.cons_append, joinW_cons _ (by simp), ih ha, joinW_cons _ ha]
        simp
  rw [List.take_succ_eq_append_getElem hj]
  by_cases h : 0 < j
  · rw [if_pos h, key _ _ (fun e => by have := congrArg List.length e; rw [List.length_take] at this; simp only [List.length_nil] at this; omega)]
  · obtain rfl : j = 0 := by omega
    simp [joinW]
theorem textL_take {ks : List Qy} {j : Nat} (hj : j < ks.length) : textL (ks.take (j + 1)) = textL (ks.take j) ++ 32 :: textQ ks[j] := by
  have key : ∀ (a : List Qy) (q : Qy), textL (a ++ [q]) = textL a ++ 32 :: textQ q := fun a q => by
    induction a with
    | nil => simp [textL]
    | cons x a ih => rw [List.cons_append, textL, ih, textL]; simp
  rw [List.take_succ_eq_append_getElem hj, key]
theorem textL_part (ks : List Qy) (j : Nat) : (textL (ks.take j)).length ≤ (textL ks).length := by
  have key : ∀ (a b : List Qy), (textL (a ++ b)).length = (textL a).length + (textL b).length := fun a b => by
    induction a with
    | nil => simp [textL]
    | cons x a ih => rw [List.cons_append, textL, textL]; simp only [List.length_cons, List.length_append, ih]; omega
  have := key (ks.take j) (ks.drop j)
  rw [List.take_append_drop] at this
  omega

def TextWRel (ws : List Nm) (w1 : World) (s i : Value) (wr : World) : Prop := ∃ (j : Nat) (x : ByteArray), j ≤ ws.length ∧ i = .int .i64 (j : Int) ∧ s = .string x ∧ x.data.toList = joinW (ws.take j) ∧ Below w1.heap.size w1 wr
def TextKRel (k : Int) (ks : List Qy) (w1 : World) (s i : Value) (wr : World) : Prop := ∃ (j : Nat) (x : ByteArray), j ≤ ks.length ∧ i = .int .i64 (j : Int) ∧ s = .string x ∧ x.data.toList = 40 :: (kindN k ++ textL (ks.take j)) ∧ Below w1.heap.size w1 wr

set_option maxHeartbeats 4000000 in
set_option maxRecDepth 100000 in
theorem ref12_Text (n : Nat) : ∀ (q : Qy) (v : Value) (w : World), deepQ q ≤ n → MayH q → QIn w q v → Calls Tryz.prog 20 #[v] w fun e w' => e = .returned (.string ⟨(textQ q).toArray⟩) ∧ Below w.heap.size w w' := by
  induction n with
  | zero => intro q v w h; have := deepQ_pos q; omega
  | succ n ih =>
    intro q v w hd hp hq
    obtain ⟨k, t, ws, ks, f, x, A, c, K, d, ds, rfl, rfl, hf, hx, hcc, hdd, hA, hK, hks⟩ := hq.open_
    obtain ⟨h9, hkp⟩ := mayH_inner _ hp
    have h9 : ks.length ≤ 9 := h9
    obtain ⟨D0, hD0, hm0⟩ := hp
    have hlen := textQ_length 6 (d := D0) (q := .mk k t ws ks) (by have := mayQ_deep hm0; omega) hm0
    obtain ⟨h1, ho, h3⟩ := mayQ_zero hm0
    have hfs : f.data.toList.length = f.size := Array.length_toList
    have hxs : x.data.toList.length = x.size := Array.length_toList
    obtain ⟨w1, hw1⟩ : ∃ w1, w1 = boxQ w k f x A ws.length c K ks.length d := ⟨_, rfl⟩
    have HB : Hid (∀ wr, Below w1.heap.size w1 wr → Below w.heap.size w wr ∧ wr.cell? ⟨w.heap.size, 0, none⟩ = some (.int .i64 k) ∧ wr.cell? ⟨w.heap.size, 1, none⟩ = some (.string f) ∧ wr.cell? ⟨w.heap.size, 2, none⟩ = some (.string x) ∧ wr.cell? ⟨w.heap.size, 3, none⟩ = some (.slice A ws.length c) ∧ wr.cell? ⟨w.heap.size, 4, none⟩ = some (.slice K ks.length d)) := Lib.hid fun wr h => by
      rw [hw1] at h
      exact boxQ_of h
    obtain ⟨hb0, a0, a1, a2, a3, a4⟩ := HB.out _ (Below.refl _ _)
    have HW1 := Lib.hid hw1
    have HB0 := Lib.hid hb0
    have HK := Lib.hid (kids_at hK hks hb0)
    have HROW : Hid (∀ wr, Below w1.heap.size w1 wr → Row wr wr.heap.size A (strs ws)) := Lib.hid fun wr h => (Row.below (RowP.row hA fun _ h => h) (hb0.trans (h.mono hb0.size))).more (hb0.trans (h.mono hb0.size)).size
    rcases own_zero ho with ⟨rfl, g1, g0, g2, g3⟩ | ⟨rfl, g1, g2, g3, g4, g5, g6⟩ | ⟨g1, g2, g3, g0, g4, g5, gk⟩
    · have b1 := (name_bytes g2).2.2
      have b2 := (word_len g3).2
      have hfz : f.size ≤ 12 := by rw [← hfs, hf]; exact b1
      have hxz : x.size ≤ 30 := by rw [← hxs, hx]; exact b2
      have h58 : (⟨#[58]⟩ : ByteArray).size = 1 := rfl
      have r1 : ∀ w : World, (Op.stringOp .add f ⟨#[58]⟩).run Tryz.prog w = .ok (.string (f ++ ⟨#[58]⟩)) w := fun w => run_string_add_sum w _ _ (by omega)
      have r2 : ∀ w : World, (Op.stringOp .add (f ++ ⟨#[58]⟩) x).run Tryz.prog w = .ok (.string (f ++ ⟨#[58]⟩ ++ x)) w := fun w => run_string_add_sum w _ _ (by rw [ByteArray.size_append']; omega)
      have hfin : (f ++ ⟨#[58]⟩ ++ x : ByteArray) = ⟨(textQ (.mk 1 t ws ks)).toArray⟩ := bytes_list12 (by rw [cat_list, cat_list, hf, hx, textQ, if_pos rfl]; simp)
      have HFIN := Lib.hid hfin
      obtain ⟨R, hR⟩ : ∃ R, R = textQ (.mk 1 t ws ks) := ⟨_, rfl⟩
      rw [← hR] at HFIN ⊢
      clear hR hfin hw1 hb0 hq hf hx hcc hdd hA hK hks hkp hd ih hD0 hm0 hlen h1 ho h3 hfs hxs g0 g1
      go_enter Tryz.func20, Tryz.ntmps20
      go_upto_region 1 with fail
      rw [show w.alloc _ = w1 from HW1.out.symm]
      go_wp2_with fail
      go_ret
      exact ⟨by rw [← HFIN.out]; rfl, HB0.out⟩
    · have b1 := (name_bytes g3).2.2
      have hfz : f.size ≤ 12 := by rw [← hfs, hf]; exact b1
      have hwl : ∀ w ∈ ws, w.length ≤ 30 := fun w hw => (word_len (badW_false.1 g5 w hw)).2
      have HJ : Hid (∀ j, (joinW (ws.take j)).length ≤ 200) := Lib.hid fun j => by
        have e := joinW_length (ws := ws.take j) (b := 30) fun w hw => hwl w (List.mem_of_mem_take hw)
        have e2 : (ws.take j).length ≤ 6 := by rw [List.length_take]; omega
        have : (ws.take j).length * 31 ≤ 6 * 31 := Nat.mul_le_mul_right _ e2
        omega
      have HWL := Lib.hid hwl
      have HFIN : Hid (∀ s : ByteArray, s.data.toList = joinW ws → (f ++ ⟨#[58, 34]⟩ ++ s ++ ⟨#[34]⟩ : ByteArray) = ⟨(textQ (.mk 5 t ws ks)).toArray⟩) := Lib.hid fun s hs => bytes_list12 (by rw [cat_list, cat_list, cat_list, hf, hs, textQ, if_neg (by decide), if_pos rfl]; simp)
      obtain ⟨R, hR⟩ : ∃ R, R = textQ (.mk 5 t ws ks) := ⟨_, rfl⟩
      rw [← hR] at HFIN ⊢
      clear hR hw1 hb0 hq hf hx hcc hdd hA hK hks hkp hd ih hD0 hm0 hlen h1 ho h3 hfs hxs hwl g4 g5 g1
      go_enter Tryz.func20, Tryz.ntmps20
      go_upto_region 1 with fail
      rw [show w.alloc _ = w1 from HW1.out.symm]
      go_wp2_with fail
      clear a0 a1 a2 a3 a4
      go_loopw [3, 4] (fun s i wr => TextWRel ws w1 s i wr) (fun _ i _ => ws.length - (intOf i).toNat)
      case atStart => exact ⟨0, ⟨#[]⟩, by omega, rfl, rfl, rfl, Below.refl _ _⟩
      case round =>
        obtain ⟨j, s, hj, rfl, rfl, hs, hbw⟩ := hrel
        obtain ⟨hb0, a0, a1, a2, a3, a4⟩ := HB.out _ hbw
        have HBX := Lib.hid hb0
        have HBW := Lib.hid hbw
        have hss : s.data.toList.length = s.size := Array.length_toList
        have hsz : s.size ≤ 200 := by rw [← hss, hs]; exact HJ.out j
        by_cases hlt : j < ws.length
        · obtain ⟨b8, o8, e8, hb8, hz8⟩ := row_nm (HROW.out wr hbw) hlt
          subst e8
          obtain ⟨u8, hu8, hu9⟩ := as_text ws[j]
          rw [← hu8] at hz8
          have hus : u8.data.toList.length = u8.size := Array.length_toList
          have huz : u8.size ≤ 30 := by rw [← hus, hu9]; exact HWL.out _ (List.getElem_mem hlt)
          have i0 : (0 : Int) ≤ j := by omega
          have i3 : (j : Int) < ws.length := by omega
          have h32 : (⟨#[32]⟩ : ByteArray).size = 1 := rfl
          have r1 : ∀ w : World, (Op.stringOp .add s ⟨#[32]⟩).run Tryz.prog w = .ok (.string (s ++ ⟨#[32]⟩)) w := fun w => run_string_add_sum w _ _ (by omega)
          have r2 : ∀ w : World, (Op.stringOp .add (s ++ ⟨#[32]⟩) u8).run Tryz.prog w = .ok (.string (s ++ ⟨#[32]⟩ ++ u8)) w := fun w => run_string_add_sum w _ _ (by rw [ByteArray.size_append']; omega)
          have r3 : ∀ w : World, (Op.stringOp .add s u8).run Tryz.prog w = .ok (.string (s ++ u8)) w := fun w => run_string_add_sum w _ _ (by omega)
          have ht := joinW_take hlt
          by_cases hj0 : 0 < j
          · have HT : Hid ((s ++ ⟨#[32]⟩ ++ u8 : ByteArray).data.toList = joinW (ws.take (j + 1))) := Lib.hid (by rw [cat_list, cat_list, hs, hu9, ht, if_pos hj0])
            have i4 : (0 : Int) < j := by omega
            clear hs hss hu8 hu9 hus ht hb8 hbw hb0
            go_wp2_with fail
            go_roundw
            case rel => exact ⟨j + 1, _, by omega, by go_num, rfl, HT.out, HBW.out⟩
            case measure => simp [intOf]; omega
          · have hz0 : joinW (ws.take j) = [] := by rw [show j = 0 by omega]; rfl
            have HT : Hid ((s ++ u8 : ByteArray).data.toList = joinW (ws.take (j + 1))) := Lib.hid (by rw [cat_list, hs, hu9, ht, if_neg hj0, hz0])
            have i4 : ¬ (0 : Int) < j := by omega
            clear hs hss hu8 hu9 hus ht hb8 hbw hb0 hj0 hz0
            go_wp2_with fail
            go_roundw
            case rel => exact ⟨j + 1, _, by omega, by go_num, rfl, HT.out, HBW.out⟩
            case measure => simp [intOf]; omega
        · obtain rfl : j = ws.length := by omega
          rw [List.take_length] at hs
          have h5 : (⟨#[58, 34]⟩ : ByteArray).size = 2 := rfl
          have h6 : (⟨#[34]⟩ : ByteArray).size = 1 := rfl
          have r1 : ∀ w : World, (Op.stringOp .add f ⟨#[58, 34]⟩).run Tryz.prog w = .ok (.string (f ++ ⟨#[58, 34]⟩)) w := fun w => run_string_add_sum w _ _ (by omega)
          have r2 : ∀ w : World, (Op.stringOp .add (f ++ ⟨#[58, 34]⟩) s).run Tryz.prog w = .ok (.string (f ++ ⟨#[58, 34]⟩ ++ s)) w := fun w => run_string_add_sum w _ _ (by rw [ByteArray.size_append']; omega)
          have r3 : ∀ w : World, (Op.stringOp .add (f ++ ⟨#[58, 34]⟩ ++ s) ⟨#[34]⟩).run Tryz.prog w = .ok (.string (f ++ ⟨#[58, 34]⟩ ++ s ++ ⟨#[34]⟩)) w := fun w => run_string_add_sum w _ _ (by rw [ByteArray.size_append', ByteArray.size_append']; omega)
          have HE := Lib.hid (HFIN.out s hs)
          clear hs hss hbw hb0
          go_wp2_with fail
          go_ret
          exact ⟨by rw [← HE.out]; rfl, HBX.out⟩
    · have hk : k = 2 ∨ k = 3 ∨ k = 4 := by omega
      have hkn : (kindN k).length ≤ 3 := by rcases hk with rfl | rfl | rfl <;> decide
      have htl : (textL ks).length ≤ 300000000 := by
        rw [textQ, if_neg (by omega), if_neg (by omega)] at hlen
        simp only [List.length_append, List.length_cons, List.length_nil] at hlen
        omega
      have HJ : Hid (∀ j, (textL (ks.take j)).length ≤ 300000000) := Lib.hid fun j => Nat.le_trans (textL_part ks j) htl
      have HFIN : Hid (∀ s : ByteArray, s.data.toList = 40 :: (kindN k ++ textL ks) → (s ++ ⟨#[41]⟩ : ByteArray) = ⟨(textQ (.mk k t ws ks)).toArray⟩) := Lib.hid fun s hs => bytes_list12 (by rw [cat_list, hs, textQ, if_neg (by omega), if_neg (by omega)]; simp)
      have HIH : Hid (∀ (i : Nat) (hi : i < ks.length) (v : Value) (wr : World), QIn wr ks[i] v → Calls Tryz.prog 20 #[v] wr fun e w' => e = .returned (.string ⟨(textQ ks[i]).toArray⟩) ∧ Below wr.heap.size wr w') :=
        Lib.hid fun i hi v wr hv => ih ks[i] v wr (deep_kid hd hi) (hkp _ (List.getElem_mem hi)) hv
      have HTL : Hid (∀ (i : Nat) (hi : i < ks.length), (textQ ks[i]).length ≤ 300000000) := Lib.hid fun i hi => by
        have e := textL_take hi
        have e2 := congrArg List.length e
        simp only [List.length_append, List.length_cons] at e2
        have := HJ.out (i + 1)
        omega
      obtain ⟨R, hR⟩ : ∃ R, R = textQ (.mk k t ws ks) := ⟨_, rfl⟩
      rw [← hR] at HFIN ⊢
      obtain ⟨kn, hkk⟩ : ∃ kn : ByteArray, kn.data.toList = kindN k := ⟨⟨(kindN k).toArray⟩, rfl⟩
      have hkks : kn.data.toList.length = kn.size := Array.length_toList
      have hkz : kn.size ≤ 3 := by rw [← hkks, hkk]; exact hkn
      have HKK := Lib.hid hkk
      have HKN : Hid ((k = 2 → kn = ⟨#[97, 110, 100]⟩) ∧ (k = 3 → kn = ⟨#[111, 114]⟩) ∧ (k = 4 → kn = ⟨#[110, 111, 116]⟩)) := Lib.hid ⟨fun h => bytes_list12 (by rw [hkk, h]; rfl), fun h => bytes_list12 (by rw [hkk, h]; rfl), fun h => bytes_list12 (by rw [hkk, h]; rfl)⟩
      have h40 : (⟨#[40]⟩ : ByteArray).size = 1 := rfl
      have r0 : ∀ w : World, (Op.stringOp .add ⟨#[40]⟩ kn).run Tryz.prog w = .ok (.string (⟨#[40]⟩ ++ kn)) w := fun w => run_string_add_sum w _ _ (by omega)
      have e1 : (k == 1) = false := by rw [beq_eq_false_iff_ne]; omega
      have e5 : (k == 5) = false := by rw [beq_eq_false_iff_ne]; omega
      have HKL := Lib.hid hkn
      clear hR hw1 hb0 hq hf hx hcc hdd hA hK hks hkp hd ih hD0 hm0 hlen h1 ho h3 hfs hxs htl hkk hkks hkn g0 g1 g2 g3 gk
      go_enter Tryz.func20, Tryz.ntmps20
      go_upto_region 1 with fail
      rw [show w.alloc _ = w1 from HW1.out.symm]
      go_upto_region 13 with fail
      obtain ⟨w2, hw2⟩ : ∃ w2, w2 = w1.alloc (.cells #[.string ⟨#[]⟩, .string ⟨#[]⟩, .string ⟨#[97, 110, 100]⟩, .string ⟨#[111, 114]⟩, .string ⟨#[110, 111, 116]⟩] 9) := ⟨_, rfl⟩
      have HB2 : Hid (Below w1.heap.size w1 w2) := Lib.hid (by rw [hw2]; exact (Below.refl _ _).alloc (Nat.le_refl _) _)
      have hc5 := (five_cells (show w2.heap[w1.heap.size]? = some (.cells #[.string ⟨#[]⟩, .string ⟨#[]⟩, .string ⟨#[97, 110, 100]⟩, .string ⟨#[111, 114]⟩, .string ⟨#[110, 111, 116]⟩] 9 (0, 0)) by rw [hw2]; exact heap_alloc_new _ _)).1
      rw [show w1.alloc _ = w2 from hw2.symm]
      clear hw2 a0 a1 a2 a3 a4
      obtain ⟨-, a0, a1, a2, a3, a4⟩ := HB.out _ HB2.out
      obtain ⟨c0, c1, c2, c3, c4⟩ := hc5
      go_cut [3] from 47 to 52 (fun s wx => s = .string (⟨#[40]⟩ ++ kn) ∧ w2 = wx)
      case first =>
        rcases hk with hk | hk | hk
        · have e := HKN.out.1 hk
          subst hk e
          go_wp2_with fail
          go_meet
          exact ⟨rfl, rfl⟩
        · have e := HKN.out.2.1 hk
          subst hk e
          go_wp2_with fail
          go_meet
          exact ⟨rfl, rfl⟩
        · have e := HKN.out.2.2 hk
          subst hk e
          go_wp2_with fail
          go_meet
          exact ⟨rfl, rfl⟩
      case rest =>
        obtain ⟨rfl, rfl⟩ := hcut
        clear c0 c1 c2 c3 c4 a0 a1 a2 a3 a4 r0
        go_wp2_with fail
        go_loopw [3, 6] (fun s i wr => TextKRel k ks w1 s i wr) (fun _ i _ => ks.length - (intOf i).toNat)
        case atStart => exact ⟨0, _, by omega, rfl, rfl, by rw [cat_list, HKK.out]; simp [textL], HB2.out⟩
        case round =>
          obtain ⟨j, s, hj, rfl, rfl, hs, hbw⟩ := hrel
          obtain ⟨hb0, a0, a1, a2, a3, a4⟩ := HB.out _ hbw
          have HBX := Lib.hid hb0
          have HBW := Lib.hid hbw
          have hss : s.data.toList.length = s.size := Array.length_toList
          have hsz : s.size ≤ 300000010 := by
            rw [← hss, hs, List.length_cons, List.length_append]
            have := HJ.out j
            have := HKL.out
            omega
          by_cases hlt : j < ks.length
          · obtain ⟨b, off, k', f', x', A', n', c', K', m', d', e', hbl, hv, c0, c1, c2, c3, c4⟩ := HK.out _ hbw j hlt
            subst e'
            obtain ⟨T, hT⟩ : ∃ T : ByteArray, T = ⟨(textQ ks[j]).toArray⟩ := ⟨_, rfl⟩
            have hTl : T.data.toList = textQ ks[j] := by rw [hT]
            have hTs : T.data.toList.length = T.size := Array.length_toList
            have hTz : T.size ≤ 300000000 := by rw [← hTs, hTl]; exact HTL.out j hlt
            have HC : Hid (Calls Tryz.prog 20 #[qV k' f' x' A' n' c' K' m' d'] wr fun e w' => e = .returned (.string T) ∧ Below wr.heap.size wr w') := Lib.hid (by rw [hT]; exact HIH.out j hlt _ wr hv)
            have i0 : (0 : Int) ≤ j := by omega
            have i3 : (j : Int) < ks.length := by omega
            have h32 : (⟨#[32]⟩ : ByteArray).size = 1 := rfl
            have r1 : ∀ w : World, (Op.stringOp .add s ⟨#[32]⟩).run Tryz.prog w = .ok (.string (s ++ ⟨#[32]⟩)) w := fun w => run_string_add_sum w _ _ (by omega)
            have r2 : ∀ w : World, (Op.stringOp .add (s ++ ⟨#[32]⟩) T).run Tryz.prog w = .ok (.string (s ++ ⟨#[32]⟩ ++ T)) w := fun w => run_string_add_sum w _ _ (by rw [ByteArray.size_append']; omega)
            have HT : Hid ((s ++ ⟨#[32]⟩ ++ T : ByteArray).data.toList = 40 :: (kindN k ++ textL (ks.take (j + 1)))) := Lib.hid (by rw [cat_list, cat_list, hs, hTl, textL_take hlt]; simp)
            clear hs hss hT hTl hTs hbw hb0 hv
            go_wp2_with (go_at_call 20; (with_reducible refine HC.out.mono ?_); rintro e w5 ⟨rfl, hb5⟩; have HB5 := Lib.hid (HBW.out.trans (hb5.mono HBW.out.size)); clear hb5)
            go_roundw
            case rel => exact ⟨j + 1, _, by omega, by go_num, rfl, HT.out, HB5.out⟩
            case measure => simp [intOf]; omega
          · obtain rfl : j = ks.length := by omega
            rw [List.take_length] at hs
            have h41 : (⟨#[41]⟩ : ByteArray).size = 1 := rfl
            have r1 : ∀ w : World, (Op.stringOp .add s ⟨#[41]⟩).run Tryz.prog w = .ok (.string (s ++ ⟨#[41]⟩)) w := fun w => run_string_add_sum w _ _ (by omega)
            have HE := Lib.hid (HFIN.out s hs)
            clear hs hss hbw hb0
            go_wp2_with fail
            go_ret
            exact ⟨by rw [← HE.out]; rfl, HBX.out⟩
end Go.Proofs.YtolfkhflbjnakaaGreatDoor

/- What the document's Same answers: whether two queries are the same. -/
namespace Go.Proofs.YtolfkhflbjnakaaGreatDoor
open Go Go.RowKit
set_option linter.unusedVariables false

theorem not_bytes {x y : ByteArray} (h : ¬ x = y) : ¬ x.toList = y.toList := fun e => h (ByteArray.ext (Array.toList_inj.1 (by rwa [ByteArray.toList_eq, ByteArray.toList_eq] at e)))
/-- Two queries, each in a block. -/
theorem two_boxes {w wr : World} {k k2 : Int} {f x f2 x2 : ByteArray} {A K A2 K2 : Option Addr} {n c m d n2 c2 m2 d2 : Nat} (h : Below (w.heap.size + 2) (boxQ (boxQ w k f x A n c K m d) k2 f2 x2 A2 n2 c2 K2 m2 d2) wr) :
    Below w.heap.size w wr ∧ (wr.cell? ⟨w.heap.size, 0, none⟩ = some (.int .i64 k) ∧ wr.cell? ⟨w.heap.size, 1, none⟩ = some (.string f) ∧ wr.cell? ⟨w.heap.size, 2, none⟩ = some (.string x) ∧ wr.cell? ⟨w.heap.size, 3, none⟩ = some (.slice A n c) ∧ wr.cell? ⟨w.heap.size, 4, none⟩ = some (.slice K m d)) ∧
    (wr.cell? ⟨w.heap.size + 1, 0, none⟩ = some (.int .i64 k2) ∧ wr.cell? ⟨w.heap.size + 1, 1, none⟩ = some (.string f2) ∧ wr.cell? ⟨w.heap.size + 1, 2, none⟩ = some (.string x2) ∧ wr.cell? ⟨w.heap.size + 1, 3, none⟩ = some (.slice A2 n2 c2) ∧ wr.cell? ⟨w.heap.size + 1, 4, none⟩ = some (.slice K2 m2 d2)) := by
  have hs1 : (boxQ w k f x A n c K m d).heap.size = w.heap.size + 1 := boxQ_size
  have hs2 : (boxQ (boxQ w k f x A n c K m d) k2 f2 x2 A2 n2 c2 K2 m2 d2).heap.size = w.heap.size + 2 := by rw [boxQ_size, hs1]
  rw [← hs2] at h
  have h2 := boxQ_of h
  rw [hs1] at h2
  have h1 : Below (boxQ w k f x A n c K m d).heap.size (boxQ w k f x A n c K m d) wr := by rw [hs1]; exact h2.1
  have h0 := boxQ_of h1
  exact ⟨h0.1, h0.2, h2.2⟩
def SameKRel (ks ks2 : List Qy) (R : Bool) (w1 : World) (i u : Value) (wr : World) : Prop := ∃ j : Nat, j ≤ ks.length ∧ i = .int .i64 (j : Int) ∧ sameL (ks.drop j) (ks2.drop j) = R ∧ Below w1.heap.size w1 wr

set_option maxHeartbeats 4000000 in
set_option maxRecDepth 100000 in
theorem ref12_Same (n : Nat) : ∀ (q q2 : Qy) (v v2 : Value) (w : World), deepQ q ≤ n → FineQ q → FineQ q2 → QIn w q v → QIn w q2 v2 →
    Calls Tryz.prog 22 #[v, v2] w fun e w' => e = .returned (.bool (sameQ q q2)) ∧ Below w.heap.size w w' := by
  induction n with
  | zero => intro q q2 v v2 w h; have := deepQ_pos q; omega
  | succ n ih =>
    intro q q2 v v2 w hd hfine hfine2 hq hq2
    obtain ⟨k, t, ws, ks, f, x, A, c, K, d, ds, rfl, rfl, hf, hx, hcc, hdd, hA, hK, hks⟩ := hq.open_
    obtain ⟨k2, t2, ws2, ks2, f2, x2, A2, c2, K2, d2, ds2, rfl, rfl, hf2, hx2, hcc2, hdd2, hA2, hK2, hks2⟩ := hq2.open_
    rw [FineQ] at hfine hfine2
    obtain ⟨-, ⟨hw9, -⟩, h9, hfl⟩ := hfine
    obtain ⟨-, ⟨hw92, -⟩, h92, hfl2⟩ := hfine2
    obtain ⟨w1, hw1⟩ : ∃ w1, w1 = boxQ (boxQ w k f x A ws.length c K ks.length d) k2 f2 x2 A2 ws2.length c2 K2 ks2.length d2 := ⟨_, rfl⟩
    have hs1 : w1.heap.size = w.heap.size + 2 := by rw [hw1, boxQ_size, boxQ_size]
    have HB : Hid (∀ wr, Below w1.heap.size w1 wr → _) := Lib.hid fun wr h => two_boxes (wr := wr) (by rw [hs1, hw1] at h; exact h)
    obtain ⟨hb0, ⟨a0, a1, a2, a3, a4⟩, ⟨b0, b1, b2, b3, b4⟩⟩ := HB.out _ (Below.refl _ _)
    have HK := Lib.hid (kids_at hK hks hb0)
    have HK2 := Lib.hid (kids_at hK2 hks2 hb0)
    have HW : Hid (Calls Tryz.prog 39 #[.slice A ws.length c, .slice A2 ws2.length c2] w1 fun e w' => e = .returned (.bool (decide (ws = ws2))) ∧ Below w1.heap.size w1 w') :=
      Lib.hid (ref02_Same_any A A2 _ _ c c2 ws ws2 w1 rfl rfl ((Row.below (RowP.row hA fun _ h => h) hb0).more hb0.size) ((Row.below (RowP.row hA2 fun _ h => h) hb0).more hb0.size) (by omega) (by omega))
    have HIH : Hid (∀ (i : Nat) (hi : i < ks.length) (hi2 : i < ks2.length) (v v2 : Value) (wr : World), QIn wr ks[i] v → QIn wr ks2[i] v2 → Calls Tryz.prog 22 #[v, v2] wr fun e w' => e = .returned (.bool (sameQ ks[i] ks2[i])) ∧ Below wr.heap.size wr w') :=
      Lib.hid fun i hi hi2 v v2 wr hv hv2 => ih ks[i] ks2[i] v v2 wr (deep_kid hd hi) (fineL_mem hfl (List.getElem_mem hi)) (fineL_mem hfl2 (List.getElem_mem hi2)) hv hv2
    obtain ⟨R, hR⟩ : ∃ R, R = sameQ (.mk k t ws ks) (.mk k2 t2 ws2 ks2) := ⟨_, rfl⟩
    have hR2 : R = (decide (k = k2 ∧ t = t2 ∧ ws = ws2 ∧ ks.length = ks2.length) && sameL ks ks2) := by rw [hR, sameQ]
    rw [← hR]
    have hft : f = f2 ↔ t.1 = t2.1 := by rw [← hf, ← hf2]; exact ⟨fun h => by rw [h], fun h => ByteArray.ext (Array.toList_inj.1 h)⟩
    have hxt : x = x2 ↔ t.2 = t2.2 := by rw [← hx, ← hx2]; exact ⟨fun h => by rw [h], fun h => ByteArray.ext (Array.toList_inj.1 h)⟩
    have htt : t = t2 ↔ t.1 = t2.1 ∧ t.2 = t2.2 := ⟨fun h => by rw [h]; exact ⟨rfl, rfl⟩, fun h => Prod.ext h.1 h.2⟩
    have HW1 := Lib.hid hw1
    have HB0 := Lib.hid hb0
    obtain ⟨W, hW⟩ : ∃ W, W = decide (ws = ws2) := ⟨_, rfl⟩
    rw [← hW] at HW
    by_cases hall : k = k2 ∧ t = t2 ∧ ws = ws2 ∧ ks.length = ks2.length
    · have hRL : R = sameL ks ks2 := by rw [hR2, decide_eq_true hall, Bool.true_and]
      obtain ⟨e1, e2, e3, e4⟩ := hall
      have ef : f = f2 := hft.2 (htt.1 e2).1
      have ex : x = x2 := hxt.2 (htt.1 e2).2
      have eW : W = true := by rw [hW]; exact decide_eq_true e3
      have HG : Hid (sameL (ks.drop 0) (ks2.drop 0) = R) := Lib.hid (by rw [List.drop_zero, List.drop_zero, hRL])
      subst eW ef ex e1
      have HLN := Lib.hid e4
      obtain ⟨n2, hn2⟩ : ∃ n2, n2 = ks2.length := ⟨_, rfl⟩
      rw [← hn2] at HB b4 HW1 e4 ⊢
      have HN2 := Lib.hid hn2
      clear hR hR2 hRL hft hxt htt hW e2 e3 hw1 hs1 hb0 hq hq2 hf hx hf2 hx2 hcc hdd hcc2 hdd2 hA hA2 hK hK2 hks hks2 hfl hfl2 hd ih hw9 hw92 hn2
      subst e4
      go_enter Tryz.func22, Tryz.ntmps22
      go_upto_region 1 with fail
      rw [show (w.alloc _).alloc _ = w1 from HW1.out.symm]
      go_wp2_with (go_at_call 39; (with_reducible refine HW.out.mono ?_); rintro e w2 ⟨rfl, hb2⟩; have HB2 := Lib.hid hb2; clear hb2 a0 a1 a2 a3 a4 b0 b1 b2 b3 b4; obtain ⟨-, ⟨a0, a1, a2, a3, a4⟩, ⟨b0, b1, b2, b3, b4⟩⟩ := HB.out _ HB2.out)
      clear a0 a1 a2 a3 a4 b0 b1 b2 b3 b4
      go_loopw [6, 7] (fun i u wr => SameKRel ks ks2 R w1 i u wr) (fun i _ _ => ks.length - (intOf i).toNat)
      case atStart => exact ⟨0, by omega, rfl, HG.out, HB2.out⟩
      case round =>
        obtain ⟨j, hj, rfl, hs, hbw⟩ := hrel
        obtain ⟨hb0, ⟨a0, a1, a2, a3, a4⟩, ⟨b0, b1, b2, b3, b4⟩⟩ := HB.out _ hbw
        have HBX := Lib.hid hb0
        clear hb0
        by_cases hlt : j < ks.length
        · have hlt2 : j < ks2.length := by have := HLN.out; omega
          obtain ⟨b, off, k', f', x', A', n', c', K', m', d', e', hbl, hv, c0, c1, c2, c3, c4⟩ := HK.out _ hbw j hlt
          obtain ⟨p, pff, k'', f'', x'', A'', n'', c'', K'', m'', d'', e'', hbl2, hv2, g0, g1, g2, g3, g4⟩ := HK2.out _ hbw j hlt2
          subst e' e''
          rw [sameL_at hlt hlt2] at hs
          obtain ⟨S1, hS1⟩ : ∃ S1, S1 = sameQ ks[j] ks2[j] := ⟨_, rfl⟩
          have HC : Hid (∀ w2, Below wr.heap.size wr w2 → Calls Tryz.prog 22 #[qV k' f' x' A' n' c' K' m' d', qV k'' f'' x'' A'' n'' c'' K'' m'' d''] w2 fun e w' => e = .returned (.bool S1) ∧ Below w2.heap.size w2 w') := Lib.hid fun w2 h => by
            rw [hS1]
            exact HIH.out j hlt hlt2 _ _ w2 (hv.later h) (hv2.later h)
          rw [← hS1] at hs
          have HBW := Lib.hid hbw
          have i0 : (0 : Int) ≤ j := by omega
          have i3 : (j : Int) < ks.length := by omega
          have HDR : Hid (Below wr.heap.size wr wr.drew) := Lib.hid (Below.refl _ wr).drew
          clear hS1 hv hv2 hbw hlt2
          cases S1 with
          | true =>
            rw [Bool.true_and] at hs
            have HS := Lib.hid hs
            clear hs
            go_wp2_with fail
            go_region_with (go_at_call 22; (with_reducible refine (HC.out _ HDR.out).mono ?_); rintro e w2 ⟨rfl, hb2⟩; have HB3 : Hid (Below w1.heap.size w1 w2) := Lib.hid (HBW.out.trans ((HDR.out.trans hb2).mono HBW.out.size)); clear hb2)
            all_goals
              go_wp2_with fail
              go_roundw
              case rel => exact ⟨j + 1, by omega, by go_num, HS.out, HB3.out⟩
              case measure => simp [intOf]; omega
          | false =>
            rw [Bool.false_and] at hs
            have HS := Lib.hid hs
            clear hs
            go_wp2_with fail
            go_region_with (go_at_call 22; (with_reducible refine (HC.out _ HDR.out).mono ?_); rintro e w2 ⟨rfl, hb2⟩; have HB3 : Hid (Below w.heap.size w w2) := Lib.hid (HBX.out.trans ((HDR.out.trans hb2).mono HBX.out.size)); clear hb2)
            all_goals
              go_wp2_with fail
              go_ret
              exact ⟨by rw [← HS.out]; rfl, HB3.out⟩
        · obtain rfl : j = ks.length := by omega
          rw [List.drop_length, sameL] at hs
          have HS := Lib.hid hs
          clear hs hbw
          go_wp2_with fail
          go_ret
          exact ⟨by rw [← HS.out]; rfl, HBX.out⟩
    · have hRf : R = false := by rw [hR2, decide_eq_false hall, Bool.false_and]
      have hbad : k ≠ k2 ∨ (k = k2 ∧ (¬ (f = f2 ∧ x = x2) ∨ (f = f2 ∧ x = x2 ∧ (W = false ∨ (W = true ∧ ks.length ≠ ks2.length))))) := by
        by_cases e1 : k = k2
        · refine .inr ⟨e1, ?_⟩
          by_cases e2 : f = f2 ∧ x = x2
          · refine .inr ⟨e2.1, e2.2, ?_⟩
            have et : t = t2 := htt.2 ⟨hft.1 e2.1, hxt.1 e2.2⟩
            by_cases e3 : ws = ws2
            · exact .inr ⟨by rw [hW]; exact decide_eq_true e3, fun e4 => hall ⟨e1, et, e3, e4⟩⟩
            · exact .inl (by rw [hW]; exact decide_eq_false e3)
          · exact .inl e2
        · exact .inl e1
      subst hRf
      obtain ⟨m1, hm1⟩ : ∃ m1, m1 = ks.length := ⟨_, rfl⟩
      obtain ⟨m2, hm2⟩ : ∃ m2, m2 = ks2.length := ⟨_, rfl⟩
      rw [← hm1, ← hm2] at HB HW1 hbad
      rw [← hm1] at a4 ⊢
      rw [← hm2] at b4 ⊢
      clear hR hR2 hft hxt htt hW hall hw1 hs1 hb0 hq hq2 hf hx hf2 hx2 hcc hdd hcc2 hdd2 hA hA2 hK hK2 hks hks2 hfl hfl2 hd ih hw9 hw92 hm1 hm2 HK HK2 HIH
      go_enter Tryz.func22, Tryz.ntmps22
      go_upto_region 1 with fail
      rw [show (w.alloc _).alloc _ = w1 from HW1.out.symm]
      go_upto_region 2 with (go_at_call 39; (with_reducible refine HW.out.mono ?_); rintro e w2 ⟨rfl, hb2⟩; have HB2 := Lib.hid hb2; clear hb2 a0 a1 a2 a3 a4 b0 b1 b2 b3 b4; obtain ⟨hb3, ⟨a0, a1, a2, a3, a4⟩, ⟨b0, b1, b2, b3, b4⟩⟩ := HB.out _ HB2.out; have HB3 := Lib.hid hb3; clear hb3)
      rcases hbad with e1 | ⟨e1, hbad⟩
      · have d1 : (k == k2) = false := by rw [beq_eq_false_iff_ne]; exact e1
        have d2 : (k != k2) = true := by simp [bne, d1]
        clear e1
        go_wp2_with fail
        all_goals
          go_ret
          exact ⟨rfl, HB3.out⟩
      · subst e1
        rcases hbad with e2 | ⟨rfl, rfl, hbad⟩
        · by_cases ef : f = f2
          · have ex : ¬ x = x2 := fun h => e2 ⟨ef, h⟩
            have exl := not_bytes ex
            subst ef
            clear e2
            go_wp2_with fail
            all_goals
              go_ret
              exact ⟨rfl, HB3.out⟩
          · have efl := not_bytes ef
            clear e2
            go_wp2_with fail
            all_goals
              go_ret
              exact ⟨rfl, HB3.out⟩
        · rcases hbad with rfl | ⟨rfl, e4⟩
          · go_wp2_with fail
            all_goals
              go_ret
              exact ⟨rfl, HB3.out⟩
          · have d4 : ((m1 : Int) == (m2 : Int)) = false := by rw [beq_eq_false_iff_ne]; omega
            have d5 : ¬ (m1 : Int) = (m2 : Int) := by omega
            clear e4
            go_wp2_with fail
            all_goals
              go_ret
              exact ⟨rfl, HB3.out⟩
end Go.Proofs.YtolfkhflbjnakaaGreatDoor
