/- Texts laid together: PutTerm08, Places08, Terms08g, GoodR08g, RefFits12, RefScore12. -/
import Derived.Test.YtolfkhflbjnakaaGreatDoorNAQ05
import Derived.Test.YtolfkhflbjnakaaGreatDoorNAQ10
import Derived.Deep.RegionHeld3
import Derived.Test.YtolfkhflbjnakaaGreatDoorNAQ09
import Derived.Deep.AppendLies
import Derived.Test.YtolfkhflbjnakaaGreatDoorNAQ13

/- What the document's PutTerm answers: terms with one more, where it belongs, if it is not there. -/
namespace Go.Proofs.YtolfkhflbjnakaaGreatDoor
open Go Go.RowKit
set_option linter.unusedVariables false

def boxT (w : World) (f x : ByteArray) : World := w.alloc (.cells #[.string f, .string x] 23)
theorem boxT_of {w wr : World} {f x : ByteArray} (h : Below (boxT w f x).heap.size (boxT w f x) wr) : Below w.heap.size w wr ∧ wr.cell? ⟨w.heap.size, 0, none⟩ = some (.string f) ∧ wr.cell? ⟨w.heap.size, 1, none⟩ = some (.string x) := by
  have hb : wr.heap[w.heap.size]? = some (.cells #[.string f, .string x] 23 (0, 0)) := (h.block w.heap.size (by simp [boxT])).trans (heap_alloc_new w _)
  exact ⟨((Below.refl _ w).alloc (Nat.le_refl _) _).trans (h.mono (by simp [boxT])), by simp [World.cell?, hb], by simp [World.cell?, hb]⟩
def PutGotT (base : Nat) (l : List Tm) (w : World) (e : Ending) (w' : World) : Prop := ∃ v, e = .returned v ∧ OwnTm base w' v l ∧ Below w.heap.size w w'
/-- Terms whose texts are not too long for a key. -/
def FitsT (l : List Tm) : Prop := ∀ t ∈ l, t.1.length ≤ 536870912 ∧ t.2.length ≤ 536870912

def BackRel (l : List Tm) (t : Tm) (w1 : World) (i : Value) (wr : World) : Prop := ∃ k : Nat, k ≤ l.length ∧ i = .int .i64 (k : Int) ∧ Below w1.heap.size w1 wr ∧ backT l t k = backT l t l.length

set_option maxHeartbeats 4000000 in
set_option maxRecDepth 100000 in
theorem ref08_PutTerm (base : Nat) (v : Value) (l : List Tm) (f x : ByteArray) (w : World) (ho : OwnTm base w v l) (hb : base ≤ w.heap.size) (hl : l.length ≤ 1048576) (hfit : FitsT l) (hf : f.size ≤ 536870912) (hx : x.size ≤ 536870912) :
    Calls Tryz.prog 49 #[v, .agg #[.string f, .string x]] w (PutGotT base (putT l (f.data.toList, x.data.toList)) w) := by
  obtain ⟨A, c, rfl, hnc, hrow⟩ := ho.row
  have HO := Lib.hid ho
  have HR := Lib.hid hrow
  have HF := Lib.hid hfit
  obtain ⟨n, hn⟩ : ∃ n, n = l.length := ⟨_, rfl⟩
  obtain ⟨t, ht⟩ : ∃ t : Tm, t = (f.data.toList, x.data.toList) := ⟨_, rfl⟩
  rw [← ht]
  have HNEW : Hid (∀ w' : World, FRow (w'.alloc (.cells #[.string f, .string x] 23)) (w'.alloc (.cells #[.string f, .string x] 23)).heap.size (some ⟨w'.heap.size, 0, none⟩) [t]) := Lib.hid fun w' => by rw [ht]; exact frow_new w' (f.data.toList, x.data.toList) 23
  have HB1 : Hid (∀ w1, w1 = boxT w f x → ∀ wr, Below w1.heap.size w1 wr → Below w.heap.size w wr ∧ wr.cell? ⟨w.heap.size, 0, none⟩ = some (.string f) ∧ wr.cell? ⟨w.heap.size, 1, none⟩ = some (.string x)) := Lib.hid fun w1 e wr h => by subst e; exact boxT_of h
  have HT := Lib.hid ht
  have HN := Lib.hid hn
  rw [← hn] at hnc hl
  rw [← hn]
  clear ho hrow hfit ht hn
  go_enter Tryz.func49, Tryz.ntmps49
  go_wp2
  obtain ⟨w1, hw1⟩ : ∃ w1, w1 = boxT w f x := ⟨_, rfl⟩
  have HB2 := Lib.hid (HB1.out w1 hw1)
  rw [show w.alloc _ = w1 from hw1.symm]
  clear hw1 HB1
  go_loopw [5] (fun i wr => BackRel l t w1 i wr) (fun i _ => (intOf i).toNat)
  case atStart => exact ⟨n, by rw [HN.out]; omega, rfl, Below.refl _ _, by rw [HN.out]⟩
  case round =>
    obtain ⟨k, hk, rfl, hbw, hback⟩ := hrel
    rw [← HN.out] at hk
    obtain ⟨hb0, a0, a1⟩ := HB2.out _ hbw
    by_cases hk0 : k = 0
    · subst hk0
      have HB0 := Lib.hid hb0
      have HBK : Hid (backT l t l.length = 0) := Lib.hid (by rw [← hback]; rfl)
      have HE : Hid (putT l t = l.take 0 ++ t :: l.drop 0) := Lib.hid (by rw [putT, HBK.out]; simp [hereT])
      have HTL : Hid ((l.take 0).length = 0) := Lib.hid (by simp)
      have HDL : Hid ((l.drop 0).length = n) := Lib.hid (by rw [HN.out]; simp)
      have HLE2 : Hid (([] ++ l.take 0).length + 1 ≤ 1073741824) := Lib.hid (by simp)
      have HLE3 : Hid (([] ++ l.take 0 ++ [t]).length + n ≤ 1073741824) := Lib.hid (by simp; omega)
      have HRT : Hid (FRow w w.heap.size A (l.take 0)) := Lib.hid (HR.out.cut 0)
      have HRD : Hid (FRow w w.heap.size A (l.drop 0)) := Lib.hid (by simpa using HR.out)
      clear hback hb0
      rcases HO.out.2 with ⟨h0, hn0⟩ | ⟨g, cap, cur, hv, _⟩
      · injection h0 with hA h0 hc
        have hn0' : n = 0 := by rw [HN.out]; exact hn0
        clear hn0 h0
        subst hA hc hn0'
        go_wp2
        go_quiet (fail)
        obtain ⟨wq, hwq, hb0, a0, a1⟩ : ∃ wq, wq = wr.drewN nq ∧ Below w.heap.size w wq ∧ wq.cell? ⟨w.heap.size, 0, none⟩ = some (.string f) ∧ wq.cell? ⟨w.heap.size, 1, none⟩ = some (.string x) := ⟨_, rfl, HB0.out.trans ((drewN_below _ _).mono HB0.out.size), a0, a1⟩
        rw [← hwq]
        have HBQ := Lib.hid hb0
        clear hwq hb0 hbw
        go_wp2
        go_quiet (fail)
        obtain ⟨wt, hwt, hbx, a0, a1⟩ : ∃ wt, wt = wq.drewN nq ∧ Below w.heap.size w wt ∧ wt.cell? ⟨w.heap.size, 0, none⟩ = some (.string f) ∧ wt.cell? ⟨w.heap.size, 1, none⟩ = some (.string x) := ⟨_, rfl, HBQ.out.trans ((drewN_below _ _).mono HBQ.out.size), a0, a1⟩
        rw [← hwt]
        have HBX := Lib.hid hbx
        have HLTB : Hid (w.heap.size < wt.heap.size) := Lib.hid (World.block_lt_of_cell? wt _ a0)
        clear hwt hbx
        go_wp2_with (first
          | (at_builtin; refine wpList_append_tm _ rfl (.tmp 36) (.tmp 39) rfl wt.heap.size _ [] rfl OwnTm.nil _ 0 _ (l.take 0) rfl HTL.out ((HRT.out).later HBX.out) (by simp <;> omega) (Nat.le_refl _) ?_
             intro v1 w2 ho2 hb2
             have HO2 := Lib.hid ho2
             have HB2' := Lib.hid hb2
             have a0 := (hb2.cell (p := ⟨w.heap.size, 0, none⟩) HLTB.out).trans a0
             have a1 := (hb2.cell (p := ⟨w.heap.size, 1, none⟩) HLTB.out).trans a1
             clear ho2 hb2)
          | (at_builtin; refine wpList_append_tm _ rfl (.tmp 41) (.tmp 43) rfl wt.heap.size _ ([] ++ l.take 0) rfl (HO2.out.below ((Below.refl _ _).alloc (Nat.le_refl _) _)) _ 1 1 [t] rfl rfl (HNEW.out _) HLE2.out (by have := HB2'.out.size; simp; omega) ?_
             intro v2 w3 ho3 hb3
             have HO3 := Lib.hid ho3
             have HB3 := Lib.hid (HB2'.out.trans (((Below.refl _ _).alloc (Nat.le_refl _) _).mono HB2'.out.size |>.trans hb3))
             clear ho3 hb3)
          | (at_builtin; refine wpList_append_tm _ rfl (.tmp 45) (.tmp 48) rfl wt.heap.size _ ([] ++ l.take 0 ++ [t]) rfl HO3.out _ _ _ (l.drop 0) rfl (by have := HDL.out; omega) ((HRD.out).later (HBX.out.trans (HB3.out.mono HBX.out.size))) (by have := HLE3.out; omega) HB3.out.size ?_
             intro v3 w4 ho4 hb4
             have HO4 := Lib.hid ho4
             have HB4 := Lib.hid (HB3.out.trans hb4)
             clear ho4 hb4))
        go_ret
        refine ⟨_, rfl, ?_, HBX.out.trans (HB4.out.mono HBX.out.size)⟩
        rw [HE.out]
        exact (by simpa using HO4.out : OwnTm wt.heap.size w4 v3 _).low (Nat.le_trans hb HBX.out.size)
      · injection hv with hA h0 hc
        subst hA
        clear h0 hc
        by_cases hc0 : c = 0
        · have hn0' : n = 0 := by omega
          subst hc0 hn0'
          go_wp2
          go_quiet (fail)
          obtain ⟨wq, hwq, hb0, a0, a1⟩ : ∃ wq, wq = wr.drewN nq ∧ Below w.heap.size w wq ∧ wq.cell? ⟨w.heap.size, 0, none⟩ = some (.string f) ∧ wq.cell? ⟨w.heap.size, 1, none⟩ = some (.string x) := ⟨_, rfl, HB0.out.trans ((drewN_below _ _).mono HB0.out.size), a0, a1⟩
          rw [← hwq]
          have HBQ := Lib.hid hb0
          clear hwq hb0 hbw
          go_wp2
          go_quiet (fail)
          obtain ⟨wt, hwt, hbx, a0, a1⟩ : ∃ wt, wt = wq.drewN nq ∧ Below w.heap.size w wt ∧ wt.cell? ⟨w.heap.size, 0, none⟩ = some (.string f) ∧ wt.cell? ⟨w.heap.size, 1, none⟩ = some (.string x) := ⟨_, rfl, HBQ.out.trans ((drewN_below _ _).mono HBQ.out.size), a0, a1⟩
          rw [← hwt]
          have HBX := Lib.hid hbx
          have HLTB : Hid (w.heap.size < wt.heap.size) := Lib.hid (World.block_lt_of_cell? wt _ a0)
          clear hwt hbx
          go_wp2_with (first
            | (at_builtin; refine wpList_append_tm _ rfl (.tmp 36) (.tmp 39) rfl wt.heap.size _ [] rfl OwnTm.nil _ 0 _ (l.take 0) rfl HTL.out ((HRT.out).later HBX.out) (by simp <;> omega) (Nat.le_refl _) ?_
               intro v1 w2 ho2 hb2
               have HO2 := Lib.hid ho2
               have HB2' := Lib.hid hb2
               have a0 := (hb2.cell (p := ⟨w.heap.size, 0, none⟩) HLTB.out).trans a0
               have a1 := (hb2.cell (p := ⟨w.heap.size, 1, none⟩) HLTB.out).trans a1
               clear ho2 hb2)
            | (at_builtin; refine wpList_append_tm _ rfl (.tmp 41) (.tmp 43) rfl wt.heap.size _ ([] ++ l.take 0) rfl (HO2.out.below ((Below.refl _ _).alloc (Nat.le_refl _) _)) _ 1 1 [t] rfl rfl (HNEW.out _) HLE2.out (by have := HB2'.out.size; simp; omega) ?_
               intro v2 w3 ho3 hb3
               have HO3 := Lib.hid ho3
               have HB3 := Lib.hid (HB2'.out.trans (((Below.refl _ _).alloc (Nat.le_refl _) _).mono HB2'.out.size |>.trans hb3))
               clear ho3 hb3)
            | (at_builtin; refine wpList_append_tm _ rfl (.tmp 45) (.tmp 48) rfl wt.heap.size _ ([] ++ l.take 0 ++ [t]) rfl HO3.out _ _ _ (l.drop 0) rfl (by have := HDL.out; omega) ((HRD.out).later (HBX.out.trans (HB3.out.mono HBX.out.size))) (by have := HLE3.out; omega) HB3.out.size ?_
               intro v3 w4 ho4 hb4
               have HO4 := Lib.hid ho4
               have HB4 := Lib.hid (HB3.out.trans hb4)
               clear ho4 hb4))
          go_ret
          refine ⟨_, rfl, ?_, HBX.out.trans (HB4.out.mono HBX.out.size)⟩
          rw [HE.out]
          exact (by simpa using HO4.out : OwnTm wt.heap.size w4 v3 _).low (Nat.le_trans hb HBX.out.size)
        · have hc1 : 0 < c := by omega
          go_wp2
          go_quiet (fail)
          obtain ⟨wq, hwq, hb0, a0, a1⟩ : ∃ wq, wq = wr.drewN nq ∧ Below w.heap.size w wq ∧ wq.cell? ⟨w.heap.size, 0, none⟩ = some (.string f) ∧ wq.cell? ⟨w.heap.size, 1, none⟩ = some (.string x) := ⟨_, rfl, HB0.out.trans ((drewN_below _ _).mono HB0.out.size), a0, a1⟩
          rw [← hwq]
          have HBQ := Lib.hid hb0
          clear hwq hb0 hbw
          go_wp2
          go_quiet (fail)
          obtain ⟨wt, hwt, hbx, a0, a1⟩ : ∃ wt, wt = wq.drewN nq ∧ Below w.heap.size w wt ∧ wt.cell? ⟨w.heap.size, 0, none⟩ = some (.string f) ∧ wt.cell? ⟨w.heap.size, 1, none⟩ = some (.string x) := ⟨_, rfl, HBQ.out.trans ((drewN_below _ _).mono HBQ.out.size), a0, a1⟩
          rw [← hwt]
          have HBX := Lib.hid hbx
          have HLTB : Hid (w.heap.size < wt.heap.size) := Lib.hid (World.block_lt_of_cell? wt _ a0)
          clear hwt hbx
          go_wp2_with (first
            | (at_builtin; refine wpList_append_tm _ rfl (.tmp 36) (.tmp 39) rfl wt.heap.size _ [] rfl OwnTm.nil _ 0 _ (l.take 0) rfl HTL.out ((HRT.out).later HBX.out) (by simp <;> omega) (Nat.le_refl _) ?_
               intro v1 w2 ho2 hb2
               have HO2 := Lib.hid ho2
               have HB2' := Lib.hid hb2
               have a0 := (hb2.cell (p := ⟨w.heap.size, 0, none⟩) HLTB.out).trans a0
               have a1 := (hb2.cell (p := ⟨w.heap.size, 1, none⟩) HLTB.out).trans a1
               clear ho2 hb2)
            | (at_builtin; refine wpList_append_tm _ rfl (.tmp 41) (.tmp 43) rfl wt.heap.size _ ([] ++ l.take 0) rfl (HO2.out.below ((Below.refl _ _).alloc (Nat.le_refl _) _)) _ 1 1 [t] rfl rfl (HNEW.out _) HLE2.out (by have := HB2'.out.size; simp; omega) ?_
               intro v2 w3 ho3 hb3
               have HO3 := Lib.hid ho3
               have HB3 := Lib.hid (HB2'.out.trans (((Below.refl _ _).alloc (Nat.le_refl _) _).mono HB2'.out.size |>.trans hb3))
               clear ho3 hb3)
            | (at_builtin; refine wpList_append_tm _ rfl (.tmp 45) (.tmp 48) rfl wt.heap.size _ ([] ++ l.take 0 ++ [t]) rfl HO3.out _ _ _ (l.drop 0) rfl (by have := HDL.out; omega) ((HRD.out).later (HBX.out.trans (HB3.out.mono HBX.out.size))) (by have := HLE3.out; omega) HB3.out.size ?_
               intro v3 w4 ho4 hb4
               have HO4 := Lib.hid ho4
               have HB4 := Lib.hid (HB3.out.trans hb4)
               clear ho4 hb4))
          go_ret
          refine ⟨_, rfl, ?_, HBX.out.trans (HB4.out.mono HBX.out.size)⟩
          rw [HE.out]
          exact (by simpa using HO4.out : OwnTm wt.heap.size w4 v3 _).low (Nat.le_trans hb HBX.out.size)
    · obtain ⟨j, rfl⟩ : ∃ j, k = j + 1 := ⟨k - 1, by omega⟩
      have hjl : j < l.length := by have := HN.out; omega
      obtain ⟨b1, o1, e1, hb1, hc1, hc2⟩ := HR.out.at_ hjl
      subst e1
      have hfj := HF.out _ (List.getElem_mem hjl)
      obtain ⟨y, hy, hy2⟩ := as_text l[j].1
      obtain ⟨z, hz, hz2⟩ := as_text l[j].2
      rw [← hy] at hc1
      rw [← hz] at hc2
      have hsy : y.size ≤ 1073741824 := by rw [hy, size_nm]; omega
      have hsz : z.size ≤ 1073741824 := by rw [hz, size_nm]; omega
      have C1 : Hid (∀ w', Calls Tryz.prog 90 #[.agg #[.string f, .string x]] w' fun e w'' => e = .returned (.string (keyB f x)) ∧ Below w'.heap.size w' w'') := Lib.hid fun w' => ref_Key f x w' (by omega) (by omega)
      have C2 : Hid (∀ w', Calls Tryz.prog 90 #[.agg #[.string y, .string z]] w' fun e w'' => e = .returned (.string (keyB y z)) ∧ Below w'.heap.size w' w'') := Lib.hid fun w' => ref_Key y z w' (by omega) (by omega)
      have HK1 : Hid ((keyB f x).data.toList = keyT t) := Lib.hid (by rw [keyB_list, HT.out]; rfl)
      have HK2 : Hid ((keyB y z).data.toList = keyT (atT l j)) := Lib.hid (by rw [keyB_list, hy2, hz2, atT_lt hjl]; rfl)
      obtain ⟨K1, hK1⟩ : ∃ K1, K1 = keyB f x := ⟨_, rfl⟩
      obtain ⟨K2, hK2⟩ : ∃ K2, K2 = keyB y z := ⟨_, rfl⟩
      rw [← hK1] at C1 HK1
      rw [← hK2] at C2 HK2
      have HYZ : Hid (l[j] = (y.data.toList, z.data.toList)) := Lib.hid (by rw [hy2, hz2])
      have i0 : (0 : Int) < ((j + 1 : Nat) : Int) := by omega
      have d0 : decide ((0 : Int) < ((j + 1 : Nat) : Int)) = true := decide_eq_true (by omega)
      have d1 : decide (0 < j + 1) = true := decide_eq_true (by omega)
      have i1 : IntKind.i64.wrap (((j + 1 : Nat) : Int) - 1) = (j : Int) := by rw [IntWalk.i64_in _ (by omega)]; omega
      have i2 : (0 : Int) ≤ j := by omega
      have i3 : (j : Int) < n := by omega
      have HSS : Hid (∀ w', Below w1.heap.size wr w' → Below w.heap.size w w' ∧ w'.cell? ⟨w.heap.size, 0, none⟩ = some (.string f) ∧ w'.cell? ⟨w.heap.size, 1, none⟩ = some (.string x) ∧ w'.cell? ⟨b1, o1 + j * 2, none⟩ = some (.string y) ∧ w'.cell? ⟨b1, o1 + j * 2 + 1, none⟩ = some (.string z)) := Lib.hid fun w' h => by
        have h2 := HB2.out _ (hbw.trans h)
        exact ⟨h2.1, h2.2.1, h2.2.2, (h2.1.cell (p := ⟨b1, o1 + j * 2, none⟩) hb1).trans hc1, (h2.1.cell (p := ⟨b1, o1 + j * 2 + 1, none⟩) hb1).trans hc2⟩
      obtain ⟨hb0, a0, a1, hc1, hc2⟩ := HSS.out _ (Below.refl _ _)
      have hszr := hbw.size
      have HBW := Lib.hid hbw
      have HBA := Lib.hid hback
      obtain ⟨k1, hk1⟩ : ∃ k1, k1 = j + 1 := ⟨_, rfl⟩
      rw [← hk1] at i0 i1 hk d0 d1
      rw [← hk1]
      have HKJ := Lib.hid hk1
      clear hfj hy hz hy2 hz2 hK1 hK2 hsy hsz hb0 hbw hback hk1 hk0
      by_cases hless : keyT t < keyT (atT l j)
      · have t1 := less_true (s := K1) (t := K2) (by rw [HK1.out, HK2.out]; exact hless)
        have HBK : Hid (backT l t j = backT l t l.length) := Lib.hid (by rw [← HBA.out, backT, if_pos hless])
        clear hless
        go_wp2
        go_region_held3 (fun w' => w'.cell? ⟨w.heap.size, 0, none⟩ = some (.string f) ∧ w'.cell? ⟨w.heap.size, 1, none⟩ = some (.string x) ∧ w'.cell? ⟨b1, o1 + j * 2, none⟩ = some (.string y) ∧ w'.cell? ⟨b1, o1 + j * 2 + 1, none⟩ = some (.string z))
          (first | exact (HSS.out _ (Below.refl _ _).drew).2 | exact (HSS.out _ HBA1.out).2 | exact (HSS.out _ HBA2.out).2)
          (first
            | (go_at_call 90; (with_reducible refine (C1.out _).mono ?_); rintro e w4 ⟨rfl, hb4⟩
               have HBA1 : Hid (Below w1.heap.size wr w4) := Lib.hid (((Below.refl _ wr).drew.trans hb4).mono hszr)
               clear hb4)
            | (go_at_call 90; (with_reducible refine (C2.out _).mono ?_); rintro e w5 ⟨rfl, hb5⟩
               have HBA2 : Hid (Below w1.heap.size wr w5) := Lib.hid (HBA1.out.trans (hb5.mono (Nat.le_trans hszr HBA1.out.size)))
               clear hb5))
        all_goals
          go_wp2
          exact ⟨⟨j, by omega, rfl, HBW.out.trans HBA2.out, HBK.out⟩, by have := HKJ.out; simp [intOf]; omega⟩
      · have t1 := less_false (s := K1) (t := K2) (by rw [HK1.out, HK2.out]; exact hless)
        have HBK : Hid (backT l t l.length = k1) := Lib.hid (by rw [← HBA.out, HKJ.out, backT, if_neg hless])
        clear hless
        by_cases he : atT l j = t
        · have hel : (y.data.toList, z.data.toList) = (f.data.toList, x.data.toList) := by rw [← HYZ.out, ← atT_lt hjl, he, HT.out]
          have t2 := same_true (s := y) (t := f) (congrArg Prod.fst hel)
          have t3 := same_true (s := z) (t := x) (congrArg Prod.snd hel)
          have HE : Hid (putT l t = l) := Lib.hid (by
            rw [putT, HBK.out, hereT, show k1 - 1 = j by have := HKJ.out; omega, decide_eq_true he, decide_eq_true (show 0 < k1 by omega)]
            rfl)
          clear he hel
          go_wp2
          go_region_held3 (fun w' => w'.cell? ⟨w.heap.size, 0, none⟩ = some (.string f) ∧ w'.cell? ⟨w.heap.size, 1, none⟩ = some (.string x) ∧ w'.cell? ⟨b1, o1 + j * 2, none⟩ = some (.string y) ∧ w'.cell? ⟨b1, o1 + j * 2 + 1, none⟩ = some (.string z))
            (first | exact (HSS.out _ (Below.refl _ _).drew).2 | exact (HSS.out _ HBA1.out).2 | exact (HSS.out _ HBA2.out).2)
            (first
              | (go_at_call 90; (with_reducible refine (C1.out _).mono ?_); rintro e w4 ⟨rfl, hb4⟩
                 have HBA1 : Hid (Below w1.heap.size wr w4) := Lib.hid (((Below.refl _ wr).drew.trans hb4).mono hszr)
                 clear hb4)
              | (go_at_call 90; (with_reducible refine (C2.out _).mono ?_); rintro e w5 ⟨rfl, hb5⟩
                 have HBA2 : Hid (Below w1.heap.size wr w5) := Lib.hid (HBA1.out.trans (hb5.mono (Nat.le_trans hszr HBA1.out.size)))
                 clear hb5))
          all_goals
            go_wp2
            have HBQ : Hid (Below w.heap.size w w5) := Lib.hid (HSS.out _ HBA2.out).1
            obtain ⟨_, a0, a1, c1, c2⟩ := HSS.out _ HBA2.out
            go_quiet (fail)
            obtain ⟨wt, hwt, hbx, a0, a1⟩ : ∃ wt, wt = w5.drewN nq ∧ Below w.heap.size w wt ∧ wt.cell? ⟨w.heap.size, 0, none⟩ = some (.string f) ∧ wt.cell? ⟨w.heap.size, 1, none⟩ = some (.string x) := ⟨_, rfl, HBQ.out.trans ((drewN_below _ _).mono HBQ.out.size), a0, a1⟩
            rw [← hwt]
            have HBX := Lib.hid hbx
            have HLTB : Hid (w.heap.size < wt.heap.size) := Lib.hid (World.block_lt_of_cell? wt _ a0)
            clear hwt hbx
            go_wp2
            go_ret
            refine ⟨_, rfl, ?_, HBX.out⟩
            rw [HE.out, HN.out]
            exact HO.out.below HBX.out
        · have hel : ¬ ((y.data.toList, z.data.toList) = (f.data.toList, x.data.toList)) := fun h => he (by rw [atT_lt hjl, HYZ.out, h, HT.out])
          have ht : (y.toList == f.toList) = false ∨ (y.toList == f.toList) = true ∧ (z.toList == x.toList) = false := by
            by_cases h1 : y.data.toList = f.data.toList
            · exact .inr ⟨same_true h1, same_false fun h2 => hel (Prod.ext h1 h2)⟩
            · exact .inl (same_false h1)
          have HE : Hid (putT l t = l.take k1 ++ t :: l.drop k1) := Lib.hid (by
            rw [putT, HBK.out, hereT, show k1 - 1 = j by have := HKJ.out; omega, decide_eq_false he, Bool.and_false]
            rfl)
          have HTL : Hid ((l.take k1).length = k1) := Lib.hid (by rw [List.length_take, ← HN.out]; omega)
          have HDL : Hid ((l.drop k1).length = n - k1) := Lib.hid (by rw [List.length_drop, ← HN.out])
          have HLE2 : Hid (([] ++ l.take k1).length + 1 ≤ 1073741824) := Lib.hid (by have := HTL.out; simp only [List.nil_append]; omega)
          have HLE3 : Hid (([] ++ l.take k1 ++ [t]).length + (n - k1) ≤ 1073741824) := Lib.hid (by have := HTL.out; simp only [List.nil_append, List.length_append, List.length_singleton]; omega)
          have HRT : Hid (FRow w w.heap.size (some ⟨b1, o1, none⟩) (l.take k1)) := Lib.hid (HR.out.cut k1)
          clear he hel
          by_cases hck : c = k1
          · have hnk : n = k1 := by omega
            have HRD : Hid (∀ A, FRow w w.heap.size A (l.drop k1)) := Lib.hid fun A => .inl (by rw [List.drop_of_length_le (by rw [← HN.out]; omega)]; rfl)
            subst hck
            subst hnk
            rcases ht with t2 | ⟨t2, t3⟩
            all_goals
              go_wp2
              go_region_held3 (fun w' => w'.cell? ⟨w.heap.size, 0, none⟩ = some (.string f) ∧ w'.cell? ⟨w.heap.size, 1, none⟩ = some (.string x) ∧ w'.cell? ⟨b1, o1 + j * 2, none⟩ = some (.string y) ∧ w'.cell? ⟨b1, o1 + j * 2 + 1, none⟩ = some (.string z))
                (first | exact (HSS.out _ (Below.refl _ _).drew).2 | exact (HSS.out _ HBA1.out).2 | exact (HSS.out _ HBA2.out).2)
                (first
                  | (go_at_call 90; (with_reducible refine (C1.out _).mono ?_); rintro e w4 ⟨rfl, hb4⟩
                     have HBA1 : Hid (Below w1.heap.size wr w4) := Lib.hid (((Below.refl _ wr).drew.trans hb4).mono hszr)
                     clear hb4)
                  | (go_at_call 90; (with_reducible refine (C2.out _).mono ?_); rintro e w5 ⟨rfl, hb5⟩
                     have HBA2 : Hid (Below w1.heap.size wr w5) := Lib.hid (HBA1.out.trans (hb5.mono (Nat.le_trans hszr HBA1.out.size)))
                     clear hb5))
              all_goals
                go_wp2
                have HBQ : Hid (Below w.heap.size w w5) := Lib.hid (HSS.out _ HBA2.out).1
                obtain ⟨_, a0, a1, c1, c2⟩ := HSS.out _ HBA2.out
                go_quiet (fail)
                obtain ⟨wt, hwt, hbx, a0, a1⟩ : ∃ wt, wt = w5.drewN nq ∧ Below w.heap.size w wt ∧ wt.cell? ⟨w.heap.size, 0, none⟩ = some (.string f) ∧ wt.cell? ⟨w.heap.size, 1, none⟩ = some (.string x) := ⟨_, rfl, HBQ.out.trans ((drewN_below _ _).mono HBQ.out.size), a0, a1⟩
                rw [← hwt]
                have HBX := Lib.hid hbx
                have HLTB : Hid (w.heap.size < wt.heap.size) := Lib.hid (World.block_lt_of_cell? wt _ a0)
                clear hwt hbx
                go_wp2_with (first
                  | (at_builtin; refine wpList_append_tm _ rfl (.tmp 36) (.tmp 39) rfl wt.heap.size _ [] rfl OwnTm.nil _ n _ (l.take n) rfl HTL.out ((HRT.out).later HBX.out) (by simp <;> omega) (Nat.le_refl _) ?_
                     intro v1 w2 ho2 hb2
                     have HO2 := Lib.hid ho2
                     have HB2' := Lib.hid hb2
                     have a0 := (hb2.cell (p := ⟨w.heap.size, 0, none⟩) HLTB.out).trans a0
                     have a1 := (hb2.cell (p := ⟨w.heap.size, 1, none⟩) HLTB.out).trans a1
                     clear ho2 hb2)
                  | (at_builtin; refine wpList_append_tm _ rfl (.tmp 41) (.tmp 43) rfl wt.heap.size _ ([] ++ l.take n) rfl (HO2.out.below ((Below.refl _ _).alloc (Nat.le_refl _) _)) _ 1 1 [t] rfl rfl (HNEW.out _) HLE2.out (by have := HB2'.out.size; simp; omega) ?_
                     intro v2 w3 ho3 hb3
                     have HO3 := Lib.hid ho3
                     have HB3 := Lib.hid (HB2'.out.trans (((Below.refl _ _).alloc (Nat.le_refl _) _).mono HB2'.out.size |>.trans hb3))
                     clear ho3 hb3)
                  | (at_builtin; refine wpList_append_tm _ rfl (.tmp 45) (.tmp 48) rfl wt.heap.size _ ([] ++ l.take n ++ [t]) rfl HO3.out _ _ _ (l.drop n) rfl (by have := HDL.out; omega) (((HRD.out _)).later (HBX.out.trans (HB3.out.mono HBX.out.size))) (by have := HLE3.out; omega) HB3.out.size ?_
                     intro v3 w4 ho4 hb4
                     have HO4 := Lib.hid ho4
                     have HB4 := Lib.hid (HB3.out.trans hb4)
                     clear ho4 hb4))
                go_ret
                refine ⟨_, rfl, ?_, HBX.out.trans (HB4.out.mono HBX.out.size)⟩
                rw [HE.out]
                exact (by simpa using HO4.out : OwnTm wt.heap.size w4 v3 _).low (Nat.le_trans hb HBX.out.size)
          · have HRD : Hid (FRow w w.heap.size (some ⟨b1, o1 + k1 * 2, none⟩) (l.drop k1)) := Lib.hid (HR.out.dropped k1)
            have hck1 : k1 < c := by omega
            rcases ht with t2 | ⟨t2, t3⟩
            all_goals
              go_wp2
              go_region_held3 (fun w' => w'.cell? ⟨w.heap.size, 0, none⟩ = some (.string f) ∧ w'.cell? ⟨w.heap.size, 1, none⟩ = some (.string x) ∧ w'.cell? ⟨b1, o1 + j * 2, none⟩ = some (.string y) ∧ w'.cell? ⟨b1, o1 + j * 2 + 1, none⟩ = some (.string z))
                (first | exact (HSS.out _ (Below.refl _ _).drew).2 | exact (HSS.out _ HBA1.out).2 | exact (HSS.out _ HBA2.out).2)
                (first
                  | (go_at_call 90; (with_reducible refine (C1.out _).mono ?_); rintro e w4 ⟨rfl, hb4⟩
                     have HBA1 : Hid (Below w1.heap.size wr w4) := Lib.hid (((Below.refl _ wr).drew.trans hb4).mono hszr)
                     clear hb4)
                  | (go_at_call 90; (with_reducible refine (C2.out _).mono ?_); rintro e w5 ⟨rfl, hb5⟩
                     have HBA2 : Hid (Below w1.heap.size wr w5) := Lib.hid (HBA1.out.trans (hb5.mono (Nat.le_trans hszr HBA1.out.size)))
                     clear hb5))
              all_goals
                go_wp2
                have HBQ : Hid (Below w.heap.size w w5) := Lib.hid (HSS.out _ HBA2.out).1
                obtain ⟨_, a0, a1, c1, c2⟩ := HSS.out _ HBA2.out
                go_quiet (fail)
                obtain ⟨wt, hwt, hbx, a0, a1⟩ : ∃ wt, wt = w5.drewN nq ∧ Below w.heap.size w wt ∧ wt.cell? ⟨w.heap.size, 0, none⟩ = some (.string f) ∧ wt.cell? ⟨w.heap.size, 1, none⟩ = some (.string x) := ⟨_, rfl, HBQ.out.trans ((drewN_below _ _).mono HBQ.out.size), a0, a1⟩
                rw [← hwt]
                have HBX := Lib.hid hbx
                have HLTB : Hid (w.heap.size < wt.heap.size) := Lib.hid (World.block_lt_of_cell? wt _ a0)
                clear hwt hbx
                go_wp2_with (first
                  | (at_builtin; refine wpList_append_tm _ rfl (.tmp 36) (.tmp 39) rfl wt.heap.size _ [] rfl OwnTm.nil _ k1 _ (l.take k1) rfl HTL.out ((HRT.out).later HBX.out) (by simp <;> omega) (Nat.le_refl _) ?_
                     intro v1 w2 ho2 hb2
                     have HO2 := Lib.hid ho2
                     have HB2' := Lib.hid hb2
                     have a0 := (hb2.cell (p := ⟨w.heap.size, 0, none⟩) HLTB.out).trans a0
                     have a1 := (hb2.cell (p := ⟨w.heap.size, 1, none⟩) HLTB.out).trans a1
                     clear ho2 hb2)
                  | (at_builtin; refine wpList_append_tm _ rfl (.tmp 41) (.tmp 43) rfl wt.heap.size _ ([] ++ l.take k1) rfl (HO2.out.below ((Below.refl _ _).alloc (Nat.le_refl _) _)) _ 1 1 [t] rfl rfl (HNEW.out _) HLE2.out (by have := HB2'.out.size; simp; omega) ?_
                     intro v2 w3 ho3 hb3
                     have HO3 := Lib.hid ho3
                     have HB3 := Lib.hid (HB2'.out.trans (((Below.refl _ _).alloc (Nat.le_refl _) _).mono HB2'.out.size |>.trans hb3))
                     clear ho3 hb3)
                  | (at_builtin; refine wpList_append_tm _ rfl (.tmp 45) (.tmp 48) rfl wt.heap.size _ ([] ++ l.take k1 ++ [t]) rfl HO3.out _ _ _ (l.drop k1) rfl (by have := HDL.out; omega) ((HRD.out).later (HBX.out.trans (HB3.out.mono HBX.out.size))) (by have := HLE3.out; omega) HB3.out.size ?_
                     intro v3 w4 ho4 hb4
                     have HO4 := Lib.hid ho4
                     have HB4 := Lib.hid (HB3.out.trans hb4)
                     clear ho4 hb4))
                go_ret
                refine ⟨_, rfl, ?_, HBX.out.trans (HB4.out.mono HBX.out.size)⟩
                rw [HE.out]
                exact (by simpa using HO4.out : OwnTm wt.heap.size w4 v3 _).low (Nat.le_trans hb HBX.out.size)
end Go.Proofs.YtolfkhflbjnakaaGreatDoor

/- What the document's Places answers: where a term stands. -/
namespace Go.Proofs.YtolfkhflbjnakaaGreatDoor
open Go Go.RowKit
set_option linter.unusedVariables false

def PlacesRel8 (l : List Nm) (x : Nm) (all : List Int) (w1 : World) (o i : Value) (wr : World) : Prop :=
  ∃ (k : Nat) (out : List Int) (vo : Value), vo = o ∧ k ≤ l.length ∧ i = .int .i64 (k : Int) ∧ out.length ≤ k ∧ wr.ownsRow w1.heap.size 3 1 o out.length (ints out) ∧ Below w1.heap.size w1 wr ∧ out ++ placesW k (l.drop k) x = all

set_option maxHeartbeats 2000000 in
set_option maxRecDepth 100000 in
theorem ref08_Places (id : Int) (A : Option Addr) (n c : Nat) (l : List Fd) (f x : ByteArray) (w : World) (hl : l.length = n) (hr : FRow w w.heap.size A l) (hn : n ≤ 1073741824) (ht : ∀ f ∈ l, f.2.length ≤ 268435456) (hw : ∀ s, (wordsD l s).length ≤ 1073741824) :
    Calls Tryz.prog 52 #[docV id A n c, .agg #[.string f, .string x]] w (GaveInts (placesD l (f.data.toList, x.data.toList)) w) := by
  obtain ⟨i0, hi0, hz0, hz1, hz2⟩ := info_parts info_int
  have c1 := fun w' (h : Below w.heap.size w w') => ref08_Words id A n c l f w' hl (hr.later h) hn ht
  obtain ⟨ws, hws⟩ : ∃ ws, ws = wordsD l f.data.toList := ⟨_, rfl⟩
  have hwl := hw f.data.toList
  rw [← hws] at c1 hwl
  obtain ⟨all, hall⟩ : ∃ all, all = placesD l (f.data.toList, x.data.toList) := ⟨_, rfl⟩
  rw [← hall]
  have HALL : Hid ([] ++ placesW 0 (ws.drop 0) x.data.toList = all) := Lib.hid (by rw [hall, hws]; rfl)
  have C1 := Lib.hid c1
  clear c1 hws hall hw ht hr hl
  go_enter Tryz.func52, Tryz.ntmps52
  go_wp2_with (go_at_call 94; refine (C1.out _ (boxDT_below w id A n c f x)).mono ?_)
  rintro e w2 ⟨v, rfl, hown, hb2⟩
  obtain ⟨A2, c2, rfl, _, hrow⟩ := owned_row hown
  have HB2 : Hid (∀ wr, Below w2.heap.size w2 wr → Below w.heap.size w wr ∧ wr.cell? ⟨w.heap.size + 1, 1, none⟩ = some (.string x)) := Lib.hid fun wr h => by
    have := boxDT_of (hb2.trans (h.mono hb2.size))
    exact ⟨this.1, this.2.2.2.2⟩
  have HR := Lib.hid hrow
  clear hb2 hown hrow
  go_wp2
  go_loopw [5, 7] (fun o i wr => PlacesRel8 ws x.data.toList all w2 o i wr) (fun _ i _ => ws.length - (intOf i).toNat)
  case atStart => exact ⟨0, [], _, rfl, by omega, rfl, by simp, World.ownsRow_nil _ _ _ _, Below.refl _ _, HALL.out⟩
  case round =>
    obtain ⟨k, out, vo, rfl, hk, rfl, hok, hout, hbw, hgo⟩ := hrel
    obtain ⟨hb0, hcx⟩ := HB2.out _ hbw
    by_cases hlt : k < ws.length
    · obtain ⟨b1, o1, e1, _, hc1⟩ := row_nm (HR.out.below hbw) hlt
      subst e1
      rw [placesW_at hlt] at hgo
      obtain ⟨y, hy, hy2⟩ := as_text ws[k]
      rw [← hy] at hc1
      have j0 : (0 : Int) ≤ k := by omega
      have j1 : (k : Int) < ws.length := by omega
      by_cases he : ws[k] = x.data.toList
      · have t1 := same_true (s := y) (t := x) (by rw [hy2]; exact he)
        rw [if_pos he] at hgo
        have HGO : Hid ((out ++ [(k : Int)]) ++ placesW (k + 1) (ws.drop (k + 1)) x.data.toList = all) := Lib.hid (by rw [← hgo]; simp)
        clear he hy hy2 hgo hb0
        go_wp2
        go_quiet (fail)
        go_wp2_with (at_builtin; refine wpList_append_own _ rfl (.tmp 25) (.tmp 27) 87 rfl w2.heap.size 3 i0 _ 1 8 Tryz.underlying87 hi0 hz0 hz1 hz2 rfl (by omega) _ out.length (ints out) rfl ((owned_below hout (drewN_below _ _)).alloc _) ⟨_, 0, none⟩ 1 1 [.int .i64 k] rfl rfl (news_at _ [.int .i64 k] 3) (by intro u hu; simp at hu; subst hu; rfl) (by unfold maxLen; omega) (by omega) (by have := hbw.size; simp; omega) ?_)
        intro v' w5 hown5 hgrow5 _
        have hbw5 := ((hbw.trans ((drewN_below wr nq).mono hbw.size)).alloc (by have := hbw.size; simp; omega) _).grown hgrow5 (by have := hbw.size; simp; omega) (fun j hj => (hout.lt j hj).1)
        clear hgrow5
        go_wp2
        go_roundw
        case rel => exact ⟨k + 1, out ++ [(k : Int)], _, rfl, by omega, by go_num, by simp; omega, by simpa [ints] using hown5, hbw5, HGO.out⟩
        case measure => simp [intOf]; omega
      · have t1 := same_false (s := y) (t := x) (by rw [hy2]; exact he)
        rw [if_neg he] at hgo
        have HGO := Lib.hid hgo
        clear he hy hy2 hgo hb0
        go_wp2
        go_quiet (fail)
        go_wp2
        go_roundw
        case rel => exact ⟨k + 1, out, _, rfl, by omega, by go_num, by omega, owned_below hout (drewN_below _ _), hbw.trans ⟨rfl, rfl, rfl, Nat.le_refl _, fun _ _ => rfl⟩, HGO.out⟩
        case measure => simp [intOf]; omega
    · have hkl : k = ws.length := by omega
      subst hkl
      rw [List.drop_length] at hgo
      have hal : out = all := by rw [← hgo]; simp [placesW]
      subst hal
      have HB0 := Lib.hid hb0
      clear hgo hb0
      go_wp2
      go_ret
      exact ⟨_, rfl, owned_low hout (by have := (HB2.out _ (Below.refl _ _)).1.size; omega), HB0.out⟩
end Go.Proofs.YtolfkhflbjnakaaGreatDoor

/- (Parted off.) What the document's Terms answers: a document's terms, rising. -/
namespace Go.Proofs.YtolfkhflbjnakaaGreatDoor
open Go Go.RowKit
set_option linter.unusedVariables false


def putAll (a : List Tm) (s : Nm) (ws : List Nm) : List Tm := ws.foldl (fun b x => putT b (s, x)) a
def termsUp (l : List Fd) (k : Nat) : List Tm := (l.take k).foldl (fun a f => putAll a f.1 (wordsD l f.1)) []
theorem termsUp_succ {l : List Fd} {k : Nat} (hk : k < l.length) : termsUp l (k + 1) = putAll (termsUp l k) l[k].1 (wordsD l l[k].1) := by
  unfold termsUp
  rw [List.take_succ_eq_append_getElem hk, List.foldl_append]
  rfl
theorem termsUp_all (l : List Fd) : termsUp l l.length = termsD l := by rw [termsUp, List.take_length]; rfl
theorem putAll_succ {a : List Tm} {s : Nm} {ws : List Nm} {m : Nat} (hm : m < ws.length) : putAll a s (ws.take (m + 1)) = putT (putAll a s (ws.take m)) (s, ws[m]) := by
  unfold putAll
  rw [List.take_succ_eq_append_getElem hm, List.foldl_append]
  rfl
theorem putT_length (l : List Tm) (t : Tm) : (putT l t).length ≤ l.length + 1 := by
  have := backT_le l t l.length
  unfold putT
  split
  · omega
  · simp only [List.length_append, List.length_take, List.length_cons, List.length_drop]
    omega
theorem putAll_length (s : Nm) : ∀ (ws : List Nm) (a : List Tm), (putAll a s ws).length ≤ a.length + ws.length
  | [], a => Nat.le_refl _
  | x :: ws, a => by
    have h1 := putT_length a (s, x)
    have h2 := putAll_length s ws (putT a (s, x))
    simp only [List.length_cons]
    show (putAll (putT a (s, x)) s ws).length ≤ _
    omega
theorem termsUp_length {l : List Fd} {M : Nat} (hw : ∀ s, (wordsD l s).length ≤ M) : ∀ k, k ≤ l.length → (termsUp l k).length ≤ k * M
  | 0, _ => by simp [termsUp]
  | k + 1, hk => by
    have h1 := termsUp_length hw k (by omega)
    have h2 := putAll_length (l[k]'(by omega)).1 (wordsD l (l[k]'(by omega)).1) (termsUp l k)
    have h3 := hw (l[k]'(by omega)).1
    rw [termsUp_succ (by omega), Nat.succ_mul]
    omega
theorem FitsT.put {l : List Tm} {t : Tm} (h : FitsT l) (h1 : t.1.length ≤ 536870912) (h2 : t.2.length ≤ 536870912) : FitsT (putT l t) := fun s hs => by
  rcases mem_putT.1 hs with hs | rfl
  · exact h s hs
  · exact ⟨h1, h2⟩
theorem FitsT.all {s : Nm} (h1 : s.length ≤ 536870912) : ∀ {ws : List Nm} {a : List Tm}, FitsT a → (∀ x ∈ ws, x.length ≤ 536870912) → FitsT (putAll a s ws)
  | [], a, h, _ => h
  | x :: ws, a, h, h2 => FitsT.all h1 (ws := ws) (h.put h1 (h2 x (List.mem_cons_self ..))) fun y hy => h2 y (List.mem_cons_of_mem _ hy)
theorem wordsD_short {l : List Fd} (ht : ∀ f ∈ l, f.2.length ≤ 134217728) (s : Nm) : ∀ x ∈ wordsD l s, x.length ≤ 536870912 := by
  induction l with
  | nil => intro x hx; cases hx
  | cons f fs ih =>
    intro x hx
    rw [wordsD] at hx
    split at hx
    · have := words_size hx
      have := ht f (List.mem_cons_self ..)
      omega
    · exact ih (fun g hg => ht g (List.mem_cons_of_mem _ hg)) x hx
theorem termsUp_fits {l : List Fd} (ht : ∀ f ∈ l, f.1.length ≤ 536870912 ∧ f.2.length ≤ 134217728) : ∀ k, k ≤ l.length → FitsT (termsUp l k)
  | 0, _ => fun t h => by simp [termsUp] at h
  | k + 1, hk => by
    rw [termsUp_succ (by omega)]
    exact (termsUp_fits ht k (by omega)).all (ht _ (List.getElem_mem _)).1 (wordsD_short (fun f hf => (ht f hf).2) _)

def TermsRel (l : List Fd) (w1 : World) (o i : Value) (wr : World) : Prop := ∃ k : Nat, k ≤ l.length ∧ i = .int .i64 (k : Int) ∧ OwnTm w1.heap.size wr o (termsUp l k) ∧ Below w1.heap.size w1 wr
def PutAllRel (a : List Tm) (s : Nm) (ws : List Nm) (base : Nat) (w2 : World) (o i : Value) (wr : World) : Prop := ∃ (m : Nat) (vo : Value), vo = o ∧ m ≤ ws.length ∧ i = .int .i64 (m : Int) ∧ OwnTm base wr o (putAll a s (ws.take m)) ∧ Below w2.heap.size w2 wr
def GaveTms (l : List Tm) (w : World) (e : Ending) (w' : World) : Prop := ∃ v, e = .returned v ∧ OwnTm w.heap.size w' v l ∧ Below w.heap.size w w'

end Go.Proofs.YtolfkhflbjnakaaGreatDoor

/- (Parted off.) What the document's own answers are of a small document that may be. -/
set_option linter.unusedVariables false
namespace Go.Proofs.YtolfkhflbjnakaaGreatDoor
open Go Go.RowKit

section
variable {id : Int} {A : Option Addr} {n c : Nat} {l : List Fd} {w : World}

theorem good_words (hg : GoodF l) (hl : l.length = n) (hr : FRow w w.heap.size A l) (s : ByteArray) : Calls Tryz.prog 94 #[docV id A n c, .string s] w (GaveStrs (wordsD l s.data.toList) w) :=
  ref08_Words id A n c l s w hl hr (by have := hg.len; omega) (fun f hf => by have := hg.texts f hf; omega)
theorem good_rplaces (hg : GoodF l) (hl : l.length = n) (hr : FRow w w.heap.size A l) (f x : ByteArray) : Calls Tryz.prog 52 #[docV id A n c, .agg #[.string f, .string x]] w (GaveInts (placesD l (f.data.toList, x.data.toList)) w) :=
  ref08_Places id A n c l f x w hl hr (by have := hg.len; omega) (fun f hf => by have := hg.texts f hf; omega) (fun s => by have := hg.wordsS s; omega)
end
end Go.Proofs.YtolfkhflbjnakaaGreatDoor

/- What the document's Fits answers: whether a document fits a query. -/
namespace Go.Proofs.YtolfkhflbjnakaaGreatDoor
open Go Go.RowKit
set_option linter.unusedVariables false

def FitsRel (f : List Fd) (ks : List Qy) (w1 : World) (n i u : Value) (wr : World) : Prop :=
  ∃ j m : Nat, j ≤ ks.length ∧ i = .int .i64 (j : Int) ∧ n = .int .i64 (m : Int) ∧ m + fitL f (ks.drop j) = fitL f ks ∧ Below w1.heap.size w1 wr

set_option maxHeartbeats 4000000 in
set_option maxRecDepth 100000 in
theorem ref12_Fits {l : List Fd} (hg : GoodF l) (n : Nat) : ∀ (q : Qy) (v : Value) (id : Int) (D : Option Addr) (dn dc : Nat) (w : World), deepQ q ≤ n → MayH q → QIn w q v → l.length = dn → FRow w w.heap.size D l →
    Calls Tryz.prog 28 #[v, docV id D dn dc] w fun e w' => e = .returned (.bool (fitsQ l q)) ∧ Below w.heap.size w w' := by
  induction n with
  | zero => intro q v id D dn dc w h; have := deepQ_pos q; omega
  | succ n ih =>
    intro q v id D dn dc w hd hp hq hl hr
    obtain ⟨k, t, ws, ks, f, x, A, c, K, d, ds, rfl, rfl, hf, hx, hcc, hdd, hA, hK, hks⟩ := hq.open_
    obtain ⟨h9, hkp⟩ := mayH_inner _ hp
    have h9 : ks.length ≤ 9 := h9
    have hfine := mayH_fine hp
    rw [FineQ] at hfine
    obtain ⟨-, ⟨hw9, -⟩, -, -⟩ := hfine
    obtain ⟨w1, hw1⟩ : ∃ w1, w1 = box2 w k f x A ws.length c K ks.length d id D dn dc := ⟨_, rfl⟩
    have hs1 : w1.heap.size = w.heap.size + 2 := by rw [hw1]; simp [box2, boxQ]
    have HB : Hid (∀ wr, Below w1.heap.size w1 wr → _) := Lib.hid fun wr h => box2_of (wr := wr) (by rw [hs1, hw1] at h; exact h)
    have h0 := HB.out _ (Below.refl _ _)
    have HK := Lib.hid (kids_at hK hks h0.1)
    have HPL : Hid (Calls Tryz.prog 52 #[docV id D dn dc, .agg #[.string f, .string x]] w1 (GaveInts (placesD l t) w1)) := Lib.hid (by
      have := good_rplaces (id := id) (c := dc) hg hl (hr.later h0.1) f x
      rwa [hf, hx] at this)
    have HPH : Hid (Calls Tryz.prog 53 #[docV id D dn dc, .string f, .slice A ws.length c] w1 fun e w' => e = .returned (.int .i64 (phraseD l t.1 ws : Int)) ∧ Below w1.heap.size w1 w') := Lib.hid (by
      have := good_rphrase (id := id) (c := dc) hg hl (hr.later h0.1) f (A2 := A) (c2 := c) rfl ((Row.below (RowP.row hA fun _ h => h) h0.1).more h0.1.size) (by omega) hcc
      rwa [hf] at this)
    have HIH : Hid (∀ (i : Nat) (hi : i < ks.length) (v : Value) (wr : World), Below w.heap.size w wr → QIn wr ks[i] v → Calls Tryz.prog 28 #[v, docV id D dn dc] wr fun e w' => e = .returned (.bool (fitsQ l ks[i])) ∧ Below wr.heap.size wr w') :=
      Lib.hid fun i hi v wr hb hv => ih ks[i] v id D dn dc wr (deep_kid hd hi) (hkp _ (List.getElem_mem hi)) hv hl (hr.later hb)
    have HW1 := Lib.hid hw1
    have HF1 : Hid (k = 1 → fitsQ l (.mk k t ws ks) = decide (0 < (placesD l t).length)) := Lib.hid fun h => by rw [fitsQ, if_pos h]
    have HF5 : Hid (k = 5 → fitsQ l (.mk k t ws ks) = decide (0 < phraseD l t.1 ws)) := Lib.hid fun h => by rw [fitsQ, if_neg (by omega), if_pos h]
    have HF2 : Hid (k = 2 → fitsQ l (.mk k t ws ks) = decide (fitL l ks = ks.length)) := Lib.hid fun h => by rw [fitsQ, if_neg (by omega), if_neg (by omega), if_pos h]
    have HF3 : Hid (k ≠ 1 → k ≠ 5 → k ≠ 2 → fitsQ l (.mk k t ws ks) = (decide (0 < fitL l ks) == decide (k = 3))) := Lib.hid fun h1 h5 h2 => by rw [fitsQ, if_neg h1, if_neg h5, if_neg h2]
    have HLE := Lib.hid (fitL_le l ks)
    obtain ⟨F, hF⟩ : ∃ F, F = fitsQ l (.mk k t ws ks) := ⟨_, rfl⟩
    rw [← hF] at HF1 HF2 HF3 HF5 ⊢
    obtain ⟨hb0, ⟨a0, a1, a2, a3, a4⟩, b0, b1⟩ := h0
    have HB0 := Lib.hid hb0
    clear hF hw1 hs1 hb0 hq hp hkp hf hx hcc hdd hA hK hks hd hl hr ih
    by_cases k1 : k = 1
    · have hF := HF1.out k1
      subst k1
      obtain ⟨m, hm⟩ : ∃ m, m = (placesD l t).length := ⟨_, rfl⟩
      rw [← hm] at hF
      have HM := Lib.hid hm
      clear hm HF1 HF2 HF3 HF5 HIH HPH HK HLE
      subst hF
      go_enter Tryz.func28, Tryz.ntmps28
      go_upto_region 1 with fail
      rw [show (w.alloc _).alloc _ = w1 from HW1.out.symm]
      go_wp2_with (go_at_call 52; (with_reducible refine HPL.out.mono ?_); rintro e w2 ⟨v2, rfl, ho2, hb2⟩; rw [← HM.out] at ho2; obtain ⟨A2, c2, rfl, -⟩ := owned_row ho2; have HB2 := Lib.hid (HB0.out.trans (hb2.mono HB0.out.size)); clear ho2 hb2)
      go_ret
      exact ⟨rfl, HB2.out⟩
    by_cases k5 : k = 5
    · have hF := HF5.out k5
      subst k5
      obtain ⟨m, hm⟩ : ∃ m, m = phraseD l t.1 ws := ⟨_, rfl⟩
      rw [← hm] at hF HPH
      clear hm HF1 HF2 HF3 HF5 HIH HPL HK HLE
      subst hF
      go_enter Tryz.func28, Tryz.ntmps28
      go_upto_region 1 with fail
      rw [show (w.alloc _).alloc _ = w1 from HW1.out.symm]
      go_wp2_with (go_at_call 53; (with_reducible refine HPH.out.mono ?_); rintro e w2 ⟨rfl, hb2⟩; have HB2 := Lib.hid (HB0.out.trans (hb2.mono HB0.out.size)); clear hb2)
      go_ret
      exact ⟨rfl, HB2.out⟩
    have e1 : (k == 1) = false := by rw [beq_eq_false_iff_ne]; exact k1
    have e5 : (k == 5) = false := by rw [beq_eq_false_iff_ne]; exact k5
    clear HPL HPH HF1 HF5
    go_enter Tryz.func28, Tryz.ntmps28
    go_upto_region 1 with fail
    rw [show (w.alloc _).alloc _ = w1 from HW1.out.symm]
    go_wp2_with fail
    clear a0 a1 a2 a3 a4 b0 b1
    go_loopw [5, 6, 7] (fun m i u wr => FitsRel l ks w1 m i u wr) (fun _ i _ _ => ks.length - (intOf i).toNat)
    case atStart => exact ⟨0, 0, by omega, rfl, rfl, by rw [List.drop_zero]; omega, Below.refl _ _⟩
    case round =>
      obtain ⟨j, m, hj, rfl, rfl, hm, hbw⟩ := hrel
      obtain ⟨hb0, ⟨a0, a1, a2, a3, a4⟩, b0, b1⟩ := HB.out _ hbw
      have HBX := Lib.hid hb0
      clear hb0
      have hle := HLE.out
      by_cases hlt : j < ks.length
      · obtain ⟨b, off, k', f', x', A', n', c', K', m', d', e', hbl, hv, c0, c1, c2, c3, c4⟩ := HK.out _ hbw j hlt
        subst e'
        obtain ⟨F1, hF1⟩ : ∃ F1, F1 = fitsQ l ks[j] := ⟨_, rfl⟩
        have HC : Hid (∀ w2, Below wr.heap.size wr w2 → Calls Tryz.prog 28 #[qV k' f' x' A' n' c' K' m' d', docV id D dn dc] w2 fun e w' => e = .returned (.bool F1) ∧ Below w2.heap.size w2 w') := Lib.hid fun w2 h => by
          rw [hF1]
          exact HIH.out j hlt _ w2 (HBX.out.trans (h.mono HBX.out.size)) (hv.later h)
        rw [fitL_at hlt, ← hF1] at hm
        have HM := Lib.hid hm
        have HBW := Lib.hid hbw
        have i0 : (0 : Int) ≤ j := by omega
        have i3 : (j : Int) < ks.length := by omega
        have hm9 : m ≤ 9 := by omega
        have HDR : Hid (Below wr.heap.size wr wr.drew) := Lib.hid (Below.refl _ wr).drew
        clear hm hF1 hv hbw hle
        cases F1 with
        | true =>
          have HM' : Hid (m + 1 + fitL l (ks.drop (j + 1)) = fitL l ks) := Lib.hid (by have := HM.out; rw [if_pos rfl] at this; omega)
          clear HM
          go_wp2_with fail
          go_region_with (go_at_call 28; (with_reducible refine (HC.out _ HDR.out).mono ?_); rintro e w2 ⟨rfl, hb2⟩; have HB2 : Hid (Below w1.heap.size w1 w2) := Lib.hid (HBW.out.trans ((HDR.out.trans hb2).mono HBW.out.size)); clear hb2)
          all_goals
            go_wp2_with fail
            go_roundw
            case rel => exact ⟨j + 1, m + 1, by omega, by go_num, by go_num, HM'.out, HB2.out⟩
            case measure => simp [intOf]; omega
        | false =>
          have HM' : Hid (m + fitL l (ks.drop (j + 1)) = fitL l ks) := Lib.hid (by have := HM.out; rw [if_neg (by decide)] at this; omega)
          clear HM
          go_wp2_with fail
          go_region_with (go_at_call 28; (with_reducible refine (HC.out _ HDR.out).mono ?_); rintro e w2 ⟨rfl, hb2⟩; have HB2 : Hid (Below w1.heap.size w1 w2) := Lib.hid (HBW.out.trans ((HDR.out.trans hb2).mono HBW.out.size)); clear hb2)
          all_goals
            go_wp2_with fail
            go_roundw
            case rel => exact ⟨j + 1, m, by omega, by go_num, rfl, HM'.out, HB2.out⟩
            case measure => simp [intOf]; omega
      · obtain rfl : j = ks.length := by omega
        rw [List.drop_length, fitL, Nat.add_zero] at hm
        rw [← hm] at HF2 HF3 hle
        clear hm hbw
        by_cases k2 : k = 2
        · have hF := HF2.out k2
          subst k2
          have hF' : F = ((m : Int) == (ks.length : Int)) := by
            rw [hF]
            by_cases e : m = ks.length
            · rw [e]; simp
            · have : ((m : Int) == (ks.length : Int)) = false := by rw [beq_eq_false_iff_ne]; omega
              rw [this]; simp [e]
          clear hF
          subst hF'
          go_wp2_with fail
          go_ret
          exact ⟨rfl, HBX.out⟩
        · have hF := HF3.out k1 k5 k2
          have e2 : (k == 2) = false := by rw [beq_eq_false_iff_ne]; exact k2
          have e3 : (k == 3) = decide (k = 3) := by
            by_cases h : k = 3
            · subst h; rfl
            · rw [decide_eq_false h, beq_eq_false_iff_ne]; exact h
          have HFF := Lib.hid hF
          have E3 := Lib.hid e3
          clear hF k1 k2 k5 e3
          go_wp2_with fail
          go_ret
          exact ⟨by rw [HFF.out, ← E3.out]; rfl, HBX.out⟩
end Go.Proofs.YtolfkhflbjnakaaGreatDoor

/- What the document's Score answers: how well a document fits a query. -/
namespace Go.Proofs.YtolfkhflbjnakaaGreatDoor
open Go Go.RowKit
set_option linter.unusedVariables false

def ScoreRel (f : List Fd) (ks : List Qy) (w1 : World) (n i : Value) (wr : World) : Prop :=
  ∃ j m : Nat, j ≤ ks.length ∧ i = .int .i64 (j : Int) ∧ n = .int .i64 (m : Int) ∧ m + scoreL f (ks.drop j) = scoreL f ks ∧ Below w1.heap.size w1 wr

set_option maxHeartbeats 4000000 in
set_option maxRecDepth 100000 in
theorem ref12_Score {l : List Fd} (hg : GoodF l) (n : Nat) : ∀ (q : Qy) (v : Value) (id : Int) (D : Option Addr) (dn dc : Nat) (w : World), deepQ q ≤ n → MayH q → QIn w q v → l.length = dn → FRow w w.heap.size D l →
    Calls Tryz.prog 30 #[v, docV id D dn dc] w fun e w' => e = .returned (.int .i64 (scoreQ l q : Int)) ∧ Below w.heap.size w w' := by
  induction n with
  | zero => intro q v id D dn dc w h; have := deepQ_pos q; omega
  | succ n ih =>
    intro q v id D dn dc w hd hp hq hl hr
    have hq0 := hq
    obtain ⟨k, t, ws, ks, f, x, A, c, K, d, ds, rfl, rfl, hf, hx, hcc, hdd, hA, hK, hks⟩ := hq.open_
    obtain ⟨h9, hkp⟩ := mayH_inner _ hp
    have h9 : ks.length ≤ 9 := h9
    have hfine := mayH_fine hp
    rw [FineQ] at hfine
    obtain ⟨-, ⟨hw9, -⟩, -, -⟩ := hfine
    obtain ⟨D0, hD0, hm0⟩ := hp
    have hsz := may_size hD0 hm0
    rw [sizeQ] at hsz
    have hsum : scoreL l ks ≤ 1000000000 := by have := score_mostL (f := l) (M := 500) hg.wordsS ks; omega
    have hp : MayH (.mk k t ws ks) := ⟨D0, hD0, hm0⟩
    obtain ⟨w1, hw1⟩ : ∃ w1, w1 = box2 w k f x A ws.length c K ks.length d id D dn dc := ⟨_, rfl⟩
    have hs1 : w1.heap.size = w.heap.size + 2 := by rw [hw1]; simp [box2, boxQ]
    have HB : Hid (∀ wr, Below w1.heap.size w1 wr → _) := Lib.hid fun wr h => box2_of (wr := wr) (by rw [hs1, hw1] at h; exact h)
    have h0 := HB.out _ (Below.refl _ _)
    have HK := Lib.hid (kids_at hK hks h0.1)
    have HFT : Hid (Calls Tryz.prog 28 #[qV k f x A ws.length c K ks.length d, docV id D dn dc] w1 fun e w' => e = .returned (.bool (fitsQ l (.mk k t ws ks))) ∧ Below w1.heap.size w1 w') := Lib.hid (ref12_Fits hg (n + 1) _ _ id D dn dc w1 hd hp (hq0.later h0.1) hl (hr.later h0.1))
    have HPL : Hid (∀ w2, Below w.heap.size w w2 → Calls Tryz.prog 52 #[docV id D dn dc, .agg #[.string f, .string x]] w2 (GaveInts (placesD l t) w2)) := Lib.hid fun w2 h => by
      have := good_rplaces (id := id) (c := dc) hg hl (hr.later h) f x
      rwa [hf, hx] at this
    have HPH : Hid (∀ w2, Below w.heap.size w w2 → Calls Tryz.prog 53 #[docV id D dn dc, .string f, .slice A ws.length c] w2 fun e w' => e = .returned (.int .i64 (phraseD l t.1 ws : Int)) ∧ Below w2.heap.size w2 w') := Lib.hid fun w2 h => by
      have := good_rphrase (id := id) (c := dc) hg hl (hr.later h) f (A2 := A) (c2 := c) rfl ((Row.below (RowP.row hA fun _ h => h) h).more h.size) (by omega) hcc
      rwa [hf] at this
    have HIH : Hid (∀ (i : Nat) (hi : i < ks.length) (v : Value) (wr : World), Below w.heap.size w wr → QIn wr ks[i] v → Calls Tryz.prog 30 #[v, docV id D dn dc] wr fun e w' => e = .returned (.int .i64 (scoreQ l ks[i] : Int)) ∧ Below wr.heap.size wr w') :=
      Lib.hid fun i hi v wr hb hv => ih ks[i] v id D dn dc wr (deep_kid hd hi) (hkp _ (List.getElem_mem hi)) hv hl (hr.later hb)
    have HW1 := Lib.hid hw1
    obtain ⟨S, hS⟩ : ∃ S, S = scoreQ l (.mk k t ws ks) := ⟨_, rfl⟩
    obtain ⟨F, hF⟩ : ∃ F, F = fitsQ l (.mk k t ws ks) := ⟨_, rfl⟩
    have HF0 : Hid (F = false ∨ k = 4 → S = 0) := Lib.hid fun h => by rw [hS, scoreQ, if_pos (by rw [← hF]; exact h)]
    have HF1 : Hid (F = true → k = 1 → S = (placesD l t).length) := Lib.hid fun h h1 => by rw [hS, scoreQ, if_neg (by rw [← hF, h]; simp; omega), if_pos h1]
    have HF5 : Hid (F = true → k = 5 → S = phraseD l t.1 ws) := Lib.hid fun h h1 => by rw [hS, scoreQ, if_neg (by rw [← hF, h]; simp; omega), if_neg (by omega), if_pos h1]
    have HF2 : Hid (F = true → k ≠ 4 → k ≠ 1 → k ≠ 5 → S = scoreL l ks) := Lib.hid fun h h4 h1 h5 => by rw [hS, scoreQ, if_neg (by rw [← hF, h]; simp [h4]), if_neg h1, if_neg h5]
    rw [← hF] at HFT
    rw [← hS]
    obtain ⟨hb0, ⟨a0, a1, a2, a3, a4⟩, b0, b1⟩ := h0
    have HB0 := Lib.hid hb0
    have HSUM := Lib.hid hsum
    clear hS hF hw1 hs1 hb0 hq0 hq hp hkp hf hx hcc hdd hA hK hks hd hl hr ih hD0 hm0 hsz hsum
    cases F with
    | false =>
      obtain rfl := HF0.out (.inl rfl)
      clear HF0 HF1 HF5 HF2 HPL HPH HIH HK
      go_enter Tryz.func30, Tryz.ntmps30
      go_upto_region 1 with fail
      rw [show (w.alloc _).alloc _ = w1 from HW1.out.symm]
      go_wp2_with (go_at_call 28; (with_reducible refine HFT.out.mono ?_); rintro e w2 ⟨rfl, hb2⟩; have HB2 := Lib.hid (HB0.out.trans (hb2.mono HB0.out.size)); clear hb2 a0 a1 a2 a3 a4 b0 b1)
      go_ret
      exact ⟨rfl, HB2.out⟩
    | true =>
      by_cases k4 : k = 4
      · obtain rfl := HF0.out (.inr k4)
        subst k4
        clear HF0 HF1 HF5 HF2 HPL HPH HIH HK
        go_enter Tryz.func30, Tryz.ntmps30
        go_upto_region 1 with fail
        rw [show (w.alloc _).alloc _ = w1 from HW1.out.symm]
        go_wp2_with (go_at_call 28; (with_reducible refine HFT.out.mono ?_); rintro e w2 ⟨rfl, hb2⟩; have HB2 := Lib.hid hb2; clear hb2 a0 a1 a2 a3 a4 b0 b1; obtain ⟨hb0, ⟨a0, a1, a2, a3, a4⟩, b0, b1⟩ := HB.out _ HB2.out; have HBX := Lib.hid hb0; clear hb0)
        go_ret
        exact ⟨rfl, HBX.out⟩
      have e4 : (k == 4) = false := by rw [beq_eq_false_iff_ne]; exact k4
      by_cases k1 : k = 1
      · have hS := HF1.out rfl k1
        subst k1
        obtain ⟨m, hm⟩ : ∃ m, m = (placesD l t).length := ⟨_, rfl⟩
        rw [← hm] at hS
        have HM := Lib.hid hm
        clear hm HF0 HF1 HF2 HF5 HIH HPH HK
        subst hS
        go_enter Tryz.func30, Tryz.ntmps30
        go_upto_region 1 with fail
        rw [show (w.alloc _).alloc _ = w1 from HW1.out.symm]
        go_wp2_with (first
          | (go_at_call 28; (with_reducible refine HFT.out.mono ?_); rintro e w2 ⟨rfl, hb2⟩; have HB2 := Lib.hid hb2; clear hb2 a0 a1 a2 a3 a4 b0 b1; obtain ⟨hb0, ⟨a0, a1, a2, a3, a4⟩, b0, b1⟩ := HB.out _ HB2.out; have HBX := Lib.hid hb0; clear hb0)
          | (go_at_call 52; (with_reducible refine (HPL.out _ HBX.out).mono ?_); rintro e w3 ⟨v2, rfl, ho2, hb3⟩; rw [← HM.out] at ho2; obtain ⟨A2, c2, rfl, -⟩ := owned_row ho2; have HB3 := Lib.hid (HBX.out.trans (hb3.mono HBX.out.size)); clear ho2 hb3))
        go_ret
        exact ⟨rfl, HB3.out⟩
      by_cases k5 : k = 5
      · have hS := HF5.out rfl k5
        subst k5
        obtain ⟨m, hm⟩ : ∃ m, m = phraseD l t.1 ws := ⟨_, rfl⟩
        rw [← hm] at hS HPH
        clear hm HF0 HF1 HF2 HF5 HIH HPL HK
        subst hS
        go_enter Tryz.func30, Tryz.ntmps30
        go_upto_region 1 with fail
        rw [show (w.alloc _).alloc _ = w1 from HW1.out.symm]
        go_wp2_with (first
          | (go_at_call 28; (with_reducible refine HFT.out.mono ?_); rintro e w2 ⟨rfl, hb2⟩; have HB2 := Lib.hid hb2; clear hb2 a0 a1 a2 a3 a4 b0 b1; obtain ⟨hb0, ⟨a0, a1, a2, a3, a4⟩, b0, b1⟩ := HB.out _ HB2.out; have HBX := Lib.hid hb0; clear hb0)
          | (go_at_call 53; (with_reducible refine (HPH.out _ HBX.out).mono ?_); rintro e w3 ⟨rfl, hb3⟩; have HB3 := Lib.hid (HBX.out.trans (hb3.mono HBX.out.size)); clear hb3))
        go_ret
        exact ⟨rfl, HB3.out⟩
      have e1 : (k == 1) = false := by rw [beq_eq_false_iff_ne]; exact k1
      have e5 : (k == 5) = false := by rw [beq_eq_false_iff_ne]; exact k5
      obtain rfl := HF2.out rfl k4 k1 k5
      clear HPL HPH HF0 HF1 HF2 HF5 k1 k4 k5
      go_enter Tryz.func30, Tryz.ntmps30
      go_upto_region 1 with fail
      rw [show (w.alloc _).alloc _ = w1 from HW1.out.symm]
      go_wp2_with (go_at_call 28; (with_reducible refine HFT.out.mono ?_); rintro e w2 ⟨rfl, hb2⟩; have HB2 := Lib.hid hb2; clear hb2 a0 a1 a2 a3 a4 b0 b1; obtain ⟨hb0, ⟨a0, a1, a2, a3, a4⟩, b0, b1⟩ := HB.out _ HB2.out; clear hb0)
      clear a0 a1 a2 a3 a4 b0 b1
      go_loopw [6, 7] (fun m i wr => ScoreRel l ks w1 m i wr) (fun _ i _ => ks.length - (intOf i).toNat)
      case atStart => exact ⟨0, 0, by omega, rfl, rfl, by rw [List.drop_zero]; omega, HB2.out⟩
      case round =>
        obtain ⟨j, m, hj, rfl, rfl, hm, hbw⟩ := hrel
        obtain ⟨hb0, ⟨a0, a1, a2, a3, a4⟩, b0, b1⟩ := HB.out _ hbw
        have HBX := Lib.hid hb0
        clear hb0
        have hle := HSUM.out
        by_cases hlt : j < ks.length
        · obtain ⟨b, off, k', f', x', A', n', c', K', m', d', e', hbl, hv, c0, c1, c2, c3, c4⟩ := HK.out _ hbw j hlt
          subst e'
          obtain ⟨S1, hS1⟩ : ∃ S1, S1 = scoreQ l ks[j] := ⟨_, rfl⟩
          have HC : Hid (∀ w2, Below wr.heap.size wr w2 → Calls Tryz.prog 30 #[qV k' f' x' A' n' c' K' m' d', docV id D dn dc] w2 fun e w' => e = .returned (.int .i64 (S1 : Int)) ∧ Below w2.heap.size w2 w') := Lib.hid fun w2 h => by
            rw [hS1]
            exact HIH.out j hlt _ w2 (HBX.out.trans (h.mono HBX.out.size)) (hv.later h)
          rw [scoreL_at hlt, ← hS1] at hm
          have HBW := Lib.hid hbw
          have i0 : (0 : Int) ≤ j := by omega
          have i3 : (j : Int) < ks.length := by omega
          have hm9 : m + S1 ≤ 1000000000 := by omega
          have HDR : Hid (Below wr.heap.size wr wr.drew) := Lib.hid (Below.refl _ wr).drew
          have HM' : Hid (m + S1 + scoreL l (ks.drop (j + 1)) = scoreL l ks) := Lib.hid (by omega)
          clear hm hS1 hv hbw hle
          go_wp2_with fail
          go_region_with (go_at_call 30; (with_reducible refine (HC.out _ HDR.out).mono ?_); rintro e w2 ⟨rfl, hb2⟩; have HB2 : Hid (Below w1.heap.size w1 w2) := Lib.hid (HBW.out.trans ((HDR.out.trans hb2).mono HBW.out.size)); clear hb2)
          all_goals
            go_wp2_with fail
            go_roundw
            case rel => exact ⟨j + 1, m + S1, by omega, by go_num, by go_num, HM'.out, HB2.out⟩
            case measure => simp [intOf]; omega
        · obtain rfl : j = ks.length := by omega
          rw [List.drop_length, scoreL, Nat.add_zero] at hm
          have HM := Lib.hid hm
          clear hm hbw hle
          go_wp2_with fail
          go_ret
          exact ⟨by rw [← HM.out]; rfl, HBX.out⟩
end Go.Proofs.YtolfkhflbjnakaaGreatDoor
