/- What the document's PutTerm answers: terms with one more, where it belongs, if it is not there. -/
import Derived.Test.YtgcdekaceimdnaaGreatQ06
import Derived.Test.YtgcdekaceimdnaaGreatQ12
import Derived.Deep.RegionHeld3
namespace Go.Proofs.YtgcdekaceimdnaaGreat
open Go Go.RowKit
set_option linter.unusedVariables false

def boxT (w : World) (f x : ByteArray) : World := w.alloc (.cells #[.string f, .string x] 92)
theorem boxT_of {w wr : World} {f x : ByteArray} (h : Below (boxT w f x).heap.size (boxT w f x) wr) : Below w.heap.size w wr ∧ wr.cell? ⟨w.heap.size, 0, none⟩ = some (.string f) ∧ wr.cell? ⟨w.heap.size, 1, none⟩ = some (.string x) := by
  have hb : wr.heap[w.heap.size]? = some (.cells #[.string f, .string x] 92 (0, 0)) := (h.block w.heap.size (by simp [boxT])).trans (heap_alloc_new w _)
  exact ⟨((Below.refl _ w).alloc (Nat.le_refl _) _).trans (h.mono (by simp [boxT])), by simp [World.cell?, hb], by simp [World.cell?, hb]⟩
def PutGotT (base : Nat) (l : List Tm) (w : World) (e : Ending) (w' : World) : Prop := ∃ v, e = .returned v ∧ OwnTm base w' v l ∧ Below w.heap.size w w'
/-- Terms whose texts are not too long for a key. -/
def FitsT (l : List Tm) : Prop := ∀ t ∈ l, t.1.length ≤ 536870912 ∧ t.2.length ≤ 536870912

def BackRel (l : List Tm) (t : Tm) (w1 : World) (i : Value) (wr : World) : Prop := ∃ k : Nat, k ≤ l.length ∧ i = .int .i64 (k : Int) ∧ Below w1.heap.size w1 wr ∧ backT l t k = backT l t l.length

set_option maxHeartbeats 4000000 in
set_option maxRecDepth 100000 in
theorem ref08_PutTerm (base : Nat) (v : Value) (l : List Tm) (f x : ByteArray) (w : World) (ho : OwnTm base w v l) (hb : base ≤ w.heap.size) (hl : l.length ≤ 1048576) (hfit : FitsT l) (hf : f.size ≤ 536870912) (hx : x.size ≤ 536870912) :
    Calls Tryz.prog 71 #[v, .agg #[.string f, .string x]] w (PutGotT base (putT l (f.data.toList, x.data.toList)) w) := by
  obtain ⟨A, c, rfl, hnc, hrow⟩ := ho.row
  have HO := Lib.hid ho
  have HR := Lib.hid hrow
  have HF := Lib.hid hfit
  obtain ⟨n, hn⟩ : ∃ n, n = l.length := ⟨_, rfl⟩
  obtain ⟨t, ht⟩ : ∃ t : Tm, t = (f.data.toList, x.data.toList) := ⟨_, rfl⟩
  rw [← ht]
  have HNEW : Hid (∀ w' : World, FRow (w'.alloc (.cells #[.string f, .string x] 92)) (w'.alloc (.cells #[.string f, .string x] 92)).heap.size (some ⟨w'.heap.size, 0, none⟩) [t]) := Lib.hid fun w' => by rw [ht]; exact frow_new w' (f.data.toList, x.data.toList) 92
  have HB1 : Hid (∀ w1, w1 = boxT w f x → ∀ wr, Below w1.heap.size w1 wr → Below w.heap.size w wr ∧ wr.cell? ⟨w.heap.size, 0, none⟩ = some (.string f) ∧ wr.cell? ⟨w.heap.size, 1, none⟩ = some (.string x)) := Lib.hid fun w1 e wr h => by subst e; exact boxT_of h
  have HT := Lib.hid ht
  have HN := Lib.hid hn
  rw [← hn] at hnc hl
  rw [← hn]
  clear ho hrow hfit ht hn
  go_enter Tryz.func71, Tryz.ntmps71
  go_wp2
  obtain ⟨w1, hw1⟩ : ∃ w1, w1 = boxT w f x := ⟨_, rfl⟩
  have HB2 := Lib.hid (HB1.out w1 hw1)
  rw [show w.alloc _ = w1 from hw1.symm]
  clear hw1 HB1
  go_loopw [5] (fun i wr => BackRel l t w1 i wr) (fun i _ => (intOf i).toNat)
  case atStart => exact ⟨n, by rw [HN.out]; omega, rfl, Below.refl _ _, by rw [HN.out]⟩
  case round =>
    obtain ⟨k, hk, rfl, hbw, hback⟩ := hrel
    rw [← HN.out] at hk
    obtain ⟨hb0, a0, a1⟩ := HB2.out _ hbw
    by_cases hk0 : k = 0
    · subst hk0
      have HB0 := Lib.hid hb0
      have HBK : Hid (backT l t l.length = 0) := Lib.hid (by rw [← hback]; rfl)
      have HE : Hid (putT l t = l.take 0 ++ t :: l.drop 0) := Lib.hid (by rw [putT, HBK.out]; simp [hereT])
      have HTL : Hid ((l.take 0).length = 0) := Lib.hid (by simp)
      have HDL : Hid ((l.drop 0).length = n) := Lib.hid (by rw [HN.out]; simp)
      have HLE2 : Hid (([] ++ l.take 0).length + 1 ≤ 1073741824) := Lib.hid (by simp)
      have HLE3 : Hid (([] ++ l.take 0 ++ [t]).length + n ≤ 1073741824) := Lib.hid (by simp; omega)
      have HRT : Hid (FRow w w.heap.size A (l.take 0)) := Lib.hid (HR.out.cut 0)
      have HRD : Hid (FRow w w.heap.size A (l.drop 0)) := Lib.hid (by simpa using HR.out)
      clear hback hb0
      rcases HO.out.2 with ⟨h0, hn0⟩ | ⟨g, cap, cur, hv, _⟩
      · injection h0 with hA h0 hc
        have hn0' : n = 0 := by rw [HN.out]; exact hn0
        clear hn0 h0
        subst hA hc hn0'
        go_wp2
        go_quiet (fail)
        obtain ⟨wq, hwq, hb0, a0, a1⟩ : ∃ wq, wq = wr.drewN nq ∧ Below w.heap.size w wq ∧ wq.cell? ⟨w.heap.size, 0, none⟩ = some (.string f) ∧ wq.cell? ⟨w.heap.size, 1, none⟩ = some (.string x) := ⟨_, rfl, HB0.out.trans ((drewN_below _ _).mono HB0.out.size), a0, a1⟩
        rw [← hwq]
        have HBQ := Lib.hid hb0
        clear hwq hb0 hbw
        go_wp2
        go_quiet (fail)
        obtain ⟨wt, hwt, hbx, a0, a1⟩ : ∃ wt, wt = wq.drewN nq ∧ Below w.heap.size w wt ∧ wt.cell? ⟨w.heap.size, 0, none⟩ = some (.string f) ∧ wt.cell? ⟨w.heap.size, 1, none⟩ = some (.string x) := ⟨_, rfl, HBQ.out.trans ((drewN_below _ _).mono HBQ.out.size), a0, a1⟩
        rw [← hwt]
        have HBX := Lib.hid hbx
        have HLTB : Hid (w.heap.size < wt.heap.size) := Lib.hid (World.block_lt_of_cell? wt _ a0)
        clear hwt hbx
        go_wp2_with (first
          | (at_builtin; refine wpList_append_tm _ rfl (.tmp 36) (.tmp 39) rfl wt.heap.size _ [] rfl OwnTm.nil _ 0 _ (l.take 0) rfl HTL.out ((HRT.out).later HBX.out) (by simp <;> omega) (Nat.le_refl _) ?_
             intro v1 w2 ho2 hb2
             have HO2 := Lib.hid ho2
             have HB2' := Lib.hid hb2
             have a0 := (hb2.cell (p := ⟨w.heap.size, 0, none⟩) HLTB.out).trans a0
             have a1 := (hb2.cell (p := ⟨w.heap.size, 1, none⟩) HLTB.out).trans a1
             clear ho2 hb2)
          | (at_builtin; refine wpList_append_tm _ rfl (.tmp 41) (.tmp 43) rfl wt.heap.size _ ([] ++ l.take 0) rfl (HO2.out.below ((Below.refl _ _).alloc (Nat.le_refl _) _)) _ 1 1 [t] rfl rfl (HNEW.out _) HLE2.out (by have := HB2'.out.size; simp; omega) ?_
             intro v2 w3 ho3 hb3
             have HO3 := Lib.hid ho3
             have HB3 := Lib.hid (HB2'.out.trans (((Below.refl _ _).alloc (Nat.le_refl _) _).mono HB2'.out.size |>.trans hb3))
             clear ho3 hb3)
          | (at_builtin; refine wpList_append_tm _ rfl (.tmp 45) (.tmp 48) rfl wt.heap.size _ ([] ++ l.take 0 ++ [t]) rfl HO3.out _ _ _ (l.drop 0) rfl (by have := HDL.out; omega) ((HRD.out).later (HBX.out.trans (HB3.out.mono HBX.out.size))) (by have := HLE3.out; omega) HB3.out.size ?_
             intro v3 w4 ho4 hb4
             have HO4 := Lib.hid ho4
             have HB4 := Lib.hid (HB3.out.trans hb4)
             clear ho4 hb4))
        go_ret
        refine ⟨_, rfl, ?_, HBX.out.trans (HB4.out.mono HBX.out.size)⟩
        rw [HE.out]
        exact (by simpa using HO4.out : OwnTm wt.heap.size w4 v3 _).low (Nat.le_trans hb HBX.out.size)
      · injection hv with hA h0 hc
        subst hA
        clear h0 hc
        by_cases hc0 : c = 0
        · have hn0' : n = 0 := by omega
          subst hc0 hn0'
          go_wp2
          go_quiet (fail)
          obtain ⟨wq, hwq, hb0, a0, a1⟩ : ∃ wq, wq = wr.drewN nq ∧ Below w.heap.size w wq ∧ wq.cell? ⟨w.heap.size, 0, none⟩ = some (.string f) ∧ wq.cell? ⟨w.heap.size, 1, none⟩ = some (.string x) := ⟨_, rfl, HB0.out.trans ((drewN_below _ _).mono HB0.out.size), a0, a1⟩
          rw [← hwq]
          have HBQ := Lib.hid hb0
          clear hwq hb0 hbw
          go_wp2
          go_quiet (fail)
          obtain ⟨wt, hwt, hbx, a0, a1⟩ : ∃ wt, wt = wq.drewN nq ∧ Below w.heap.size w wt ∧ wt.cell? ⟨w.heap.size, 0, none⟩ = some (.string f) ∧ wt.cell? ⟨w.heap.size, 1, none⟩ = some (.string x) := ⟨_, rfl, HBQ.out.trans ((drewN_below _ _).mono HBQ.out.size), a0, a1⟩
          rw [← hwt]
          have HBX := Lib.hid hbx
          have HLTB : Hid (w.heap.size < wt.heap.size) := Lib.hid (World.block_lt_of_cell? wt _ a0)
          clear hwt hbx
          go_wp2_with (first
            | (at_builtin; refine wpList_append_tm _ rfl (.tmp 36) (.tmp 39) rfl wt.heap.size _ [] rfl OwnTm.nil _ 0 _ (l.take 0) rfl HTL.out ((HRT.out).later HBX.out) (by simp <;> omega) (Nat.le_refl _) ?_
               intro v1 w2 ho2 hb2
               have HO2 := Lib.hid ho2
               have HB2' := Lib.hid hb2
               have a0 := (hb2.cell (p := ⟨w.heap.size, 0, none⟩) HLTB.out).trans a0
               have a1 := (hb2.cell (p := ⟨w.heap.size, 1, none⟩) HLTB.out).trans a1
               clear ho2 hb2)
            | (at_builtin; refine wpList_append_tm _ rfl (.tmp 41) (.tmp 43) rfl wt.heap.size _ ([] ++ l.take 0) rfl (HO2.out.below ((Below.refl _ _).alloc (Nat.le_refl _) _)) _ 1 1 [t] rfl rfl (HNEW.out _) HLE2.out (by have := HB2'.out.size; simp; omega) ?_
               intro v2 w3 ho3 hb3
               have HO3 := Lib.hid ho3
               have HB3 := Lib.hid (HB2'.out.trans (((Below.refl _ _).alloc (Nat.le_refl _) _).mono HB2'.out.size |>.trans hb3))
               clear ho3 hb3)
            | (at_builtin; refine wpList_append_tm _ rfl (.tmp 45) (.tmp 48) rfl wt.heap.size _ ([] ++ l.take 0 ++ [t]) rfl HO3.out _ _ _ (l.drop 0) rfl (by have := HDL.out; omega) ((HRD.out).later (HBX.out.trans (HB3.out.mono HBX.out.size))) (by have := HLE3.out; omega) HB3.out.size ?_
               intro v3 w4 ho4 hb4
               have HO4 := Lib.hid ho4
               have HB4 := Lib.hid (HB3.out.trans hb4)
               clear ho4 hb4))
          go_ret
          refine ⟨_, rfl, ?_, HBX.out.trans (HB4.out.mono HBX.out.size)⟩
          rw [HE.out]
          exact (by simpa using HO4.out : OwnTm wt.heap.size w4 v3 _).low (Nat.le_trans hb HBX.out.size)
        · have hc1 : 0 < c := by omega
          go_wp2
          go_quiet (fail)
          obtain ⟨wq, hwq, hb0, a0, a1⟩ : ∃ wq, wq = wr.drewN nq ∧ Below w.heap.size w wq ∧ wq.cell? ⟨w.heap.size, 0, none⟩ = some (.string f) ∧ wq.cell? ⟨w.heap.size, 1, none⟩ = some (.string x) := ⟨_, rfl, HB0.out.trans ((drewN_below _ _).mono HB0.out.size), a0, a1⟩
          rw [← hwq]
          have HBQ := Lib.hid hb0
          clear hwq hb0 hbw
          go_wp2
          go_quiet (fail)
          obtain ⟨wt, hwt, hbx, a0, a1⟩ : ∃ wt, wt = wq.drewN nq ∧ Below w.heap.size w wt ∧ wt.cell? ⟨w.heap.size, 0, none⟩ = some (.string f) ∧ wt.cell? ⟨w.heap.size, 1, none⟩ = some (.string x) := ⟨_, rfl, HBQ.out.trans ((drewN_below _ _).mono HBQ.out.size), a0, a1⟩
          rw [← hwt]
          have HBX := Lib.hid hbx
          have HLTB : Hid (w.heap.size < wt.heap.size) := Lib.hid (World.block_lt_of_cell? wt _ a0)
          clear hwt hbx
          go_wp2_with (first
            | (at_builtin; refine wpList_append_tm _ rfl (.tmp 36) (.tmp 39) rfl wt.heap.size _ [] rfl OwnTm.nil _ 0 _ (l.take 0) rfl HTL.out ((HRT.out).later HBX.out) (by simp <;> omega) (Nat.le_refl _) ?_
               intro v1 w2 ho2 hb2
               have HO2 := Lib.hid ho2
               have HB2' := Lib.hid hb2
               have a0 := (hb2.cell (p := ⟨w.heap.size, 0, none⟩) HLTB.out).trans a0
               have a1 := (hb2.cell (p := ⟨w.heap.size, 1, none⟩) HLTB.out).trans a1
               clear ho2 hb2)
            | (at_builtin; refine wpList_append_tm _ rfl (.tmp 41) (.tmp 43) rfl wt.heap.size _ ([] ++ l.take 0) rfl (HO2.out.below ((Below.refl _ _).alloc (Nat.le_refl _) _)) _ 1 1 [t] rfl rfl (HNEW.out _) HLE2.out (by have := HB2'.out.size; simp; omega) ?_
               intro v2 w3 ho3 hb3
               have HO3 := Lib.hid ho3
               have HB3 := Lib.hid (HB2'.out.trans (((Below.refl _ _).alloc (Nat.le_refl _) _).mono HB2'.out.size |>.trans hb3))
               clear ho3 hb3)
            | (at_builtin; refine wpList_append_tm _ rfl (.tmp 45) (.tmp 48) rfl wt.heap.size _ ([] ++ l.take 0 ++ [t]) rfl HO3.out _ _ _ (l.drop 0) rfl (by have := HDL.out; omega) ((HRD.out).later (HBX.out.trans (HB3.out.mono HBX.out.size))) (by have := HLE3.out; omega) HB3.out.size ?_
               intro v3 w4 ho4 hb4
               have HO4 := Lib.hid ho4
               have HB4 := Lib.hid (HB3.out.trans hb4)
               clear ho4 hb4))
          go_ret
          refine ⟨_, rfl, ?_, HBX.out.trans (HB4.out.mono HBX.out.size)⟩
          rw [HE.out]
          exact (by simpa using HO4.out : OwnTm wt.heap.size w4 v3 _).low (Nat.le_trans hb HBX.out.size)
    · obtain ⟨j, rfl⟩ : ∃ j, k = j + 1 := ⟨k - 1, by omega⟩
      have hjl : j < l.length := by have := HN.out; omega
      obtain ⟨b1, o1, e1, hb1, hc1, hc2⟩ := HR.out.at_ hjl
      subst e1
      have hfj := HF.out _ (List.getElem_mem hjl)
      obtain ⟨y, hy, hy2⟩ := as_text l[j].1
      obtain ⟨z, hz, hz2⟩ := as_text l[j].2
      rw [← hy] at hc1
      rw [← hz] at hc2
      have hsy : y.size ≤ 1073741824 := by rw [hy, size_nm]; omega
      have hsz : z.size ≤ 1073741824 := by rw [hz, size_nm]; omega
      have C1 : Hid (∀ w', Calls Tryz.prog 52 #[.agg #[.string f, .string x]] w' fun e w'' => e = .returned (.string (keyB f x)) ∧ Below w'.heap.size w' w'') := Lib.hid fun w' => ref_Key f x w' (by omega) (by omega)
      have C2 : Hid (∀ w', Calls Tryz.prog 52 #[.agg #[.string y, .string z]] w' fun e w'' => e = .returned (.string (keyB y z)) ∧ Below w'.heap.size w' w'') := Lib.hid fun w' => ref_Key y z w' hsy hsz
      have HK1 : Hid ((keyB f x).data.toList = keyT t) := Lib.hid (by rw [keyB_list, HT.out]; rfl)
      have HK2 : Hid ((keyB y z).data.toList = keyT (atT l j)) := Lib.hid (by rw [keyB_list, hy2, hz2, atT_lt hjl]; rfl)
      obtain ⟨K1, hK1⟩ : ∃ K1, K1 = keyB f x := ⟨_, rfl⟩
      obtain ⟨K2, hK2⟩ : ∃ K2, K2 = keyB y z := ⟨_, rfl⟩
      rw [← hK1] at C1 HK1
      rw [← hK2] at C2 HK2
      have HYZ : Hid (l[j] = (y.data.toList, z.data.toList)) := Lib.hid (by rw [hy2, hz2])
      have i0 : (0 : Int) < ((j + 1 : Nat) : Int) := by omega
      have d0 : decide ((0 : Int) < ((j + 1 : Nat) : Int)) = true := decide_eq_true (by omega)
      have d1 : decide (0 < j + 1) = true := decide_eq_true (by omega)
      have i1 : IntKind.i64.wrap (((j + 1 : Nat) : Int) - 1) = (j : Int) := by rw [IntWalk.i64_in _ (by omega)]; omega
      have i2 : (0 : Int) ≤ j := by omega
      have i3 : (j : Int) < n := by omega
      have HSS : Hid (∀ w', Below w1.heap.size wr w' → Below w.heap.size w w' ∧ w'.cell? ⟨w.heap.size, 0, none⟩ = some (.string f) ∧ w'.cell? ⟨w.heap.size, 1, none⟩ = some (.string x) ∧ w'.cell? ⟨b1, o1 + j * 2, none⟩ = some (.string y) ∧ w'.cell? ⟨b1, o1 + j * 2 + 1, none⟩ = some (.string z)) := Lib.hid fun w' h => by
        have h2 := HB2.out _ (hbw.trans h)
        exact ⟨h2.1, h2.2.1, h2.2.2, (h2.1.cell (p := ⟨b1, o1 + j * 2, none⟩) hb1).trans hc1, (h2.1.cell (p := ⟨b1, o1 + j * 2 + 1, none⟩) hb1).trans hc2⟩
      obtain ⟨hb0, a0, a1, hc1, hc2⟩ := HSS.out _ (Below.refl _ _)
      have hszr := hbw.size
      have HBW := Lib.hid hbw
      have HBA := Lib.hid hback
      obtain ⟨k1, hk1⟩ : ∃ k1, k1 = j + 1 := ⟨_, rfl⟩
      rw [← hk1] at i0 i1 hk d0 d1
      rw [← hk1]
      have HKJ := Lib.hid hk1
      clear hfj hy hz hy2 hz2 hK1 hK2 hsy hsz hb0 hbw hback hk1 hk0
      by_cases hless : keyT t < keyT (atT l j)
      · have t1 := less_true (s := K1) (t := K2) (by rw [HK1.out, HK2.out]; exact hless)
        have HBK : Hid (backT l t j = backT l t l.length) := Lib.hid (by rw [← HBA.out, backT, if_pos hless])
        clear hless
        go_wp2
        go_region_held3 (fun w' => w'.cell? ⟨w.heap.size, 0, none⟩ = some (.string f) ∧ w'.cell? ⟨w.heap.size, 1, none⟩ = some (.string x) ∧ w'.cell? ⟨b1, o1 + j * 2, none⟩ = some (.string y) ∧ w'.cell? ⟨b1, o1 + j * 2 + 1, none⟩ = some (.string z))
          (first | exact (HSS.out _ (Below.refl _ _).drew).2 | exact (HSS.out _ HBA1.out).2 | exact (HSS.out _ HBA2.out).2)
          (first
            | (go_at_call 52; (with_reducible refine (C1.out _).mono ?_); rintro e w4 ⟨rfl, hb4⟩
               have HBA1 : Hid (Below w1.heap.size wr w4) := Lib.hid (((Below.refl _ wr).drew.trans hb4).mono hszr)
               clear hb4)
            | (go_at_call 52; (with_reducible refine (C2.out _).mono ?_); rintro e w5 ⟨rfl, hb5⟩
               have HBA2 : Hid (Below w1.heap.size wr w5) := Lib.hid (HBA1.out.trans (hb5.mono (Nat.le_trans hszr HBA1.out.size)))
               clear hb5))
        all_goals
          go_wp2
          exact ⟨⟨j, by omega, rfl, HBW.out.trans HBA2.out, HBK.out⟩, by have := HKJ.out; simp [intOf]; omega⟩
      · have t1 := less_false (s := K1) (t := K2) (by rw [HK1.out, HK2.out]; exact hless)
        have HBK : Hid (backT l t l.length = k1) := Lib.hid (by rw [← HBA.out, HKJ.out, backT, if_neg hless])
        clear hless
        by_cases he : atT l j = t
        · have hel : (y.data.toList, z.data.toList) = (f.data.toList, x.data.toList) := by rw [← HYZ.out, ← atT_lt hjl, he, HT.out]
          have t2 := same_true (s := y) (t := f) (congrArg Prod.fst hel)
          have t3 := same_true (s := z) (t := x) (congrArg Prod.snd hel)
          have HE : Hid (putT l t = l) := Lib.hid (by
            rw [putT, HBK.out, hereT, show k1 - 1 = j by have := HKJ.out; omega, decide_eq_true he, decide_eq_true (show 0 < k1 by omega)]
            rfl)
          clear he hel
          go_wp2
          go_region_held3 (fun w' => w'.cell? ⟨w.heap.size, 0, none⟩ = some (.string f) ∧ w'.cell? ⟨w.heap.size, 1, none⟩ = some (.string x) ∧ w'.cell? ⟨b1, o1 + j * 2, none⟩ = some (.string y) ∧ w'.cell? ⟨b1, o1 + j * 2 + 1, none⟩ = some (.string z))
            (first | exact (HSS.out _ (Below.refl _ _).drew).2 | exact (HSS.out _ HBA1.out).2 | exact (HSS.out _ HBA2.out).2)
            (first
              | (go_at_call 52; (with_reducible refine (C1.out _).mono ?_); rintro e w4 ⟨rfl, hb4⟩
                 have HBA1 : Hid (Below w1.heap.size wr w4) := Lib.hid (((Below.refl _ wr).drew.trans hb4).mono hszr)
                 clear hb4)
              | (go_at_call 52; (with_reducible refine (C2.out _).mono ?_); rintro e w5 ⟨rfl, hb5⟩
                 have HBA2 : Hid (Below w1.heap.size wr w5) := Lib.hid (HBA1.out.trans (hb5.mono (Nat.le_trans hszr HBA1.out.size)))
                 clear hb5))
          all_goals
            go_wp2
            have HBQ : Hid (Below w.heap.size w w5) := Lib.hid (HSS.out _ HBA2.out).1
            obtain ⟨_, a0, a1, c1, c2⟩ := HSS.out _ HBA2.out
            go_quiet (fail)
            obtain ⟨wt, hwt, hbx, a0, a1⟩ : ∃ wt, wt = w5.drewN nq ∧ Below w.heap.size w wt ∧ wt.cell? ⟨w.heap.size, 0, none⟩ = some (.string f) ∧ wt.cell? ⟨w.heap.size, 1, none⟩ = some (.string x) := ⟨_, rfl, HBQ.out.trans ((drewN_below _ _).mono HBQ.out.size), a0, a1⟩
            rw [← hwt]
            have HBX := Lib.hid hbx
            have HLTB : Hid (w.heap.size < wt.heap.size) := Lib.hid (World.block_lt_of_cell? wt _ a0)
            clear hwt hbx
            go_wp2
            go_ret
            refine ⟨_, rfl, ?_, HBX.out⟩
            rw [HE.out, HN.out]
            exact HO.out.below HBX.out
        · have hel : ¬ ((y.data.toList, z.data.toList) = (f.data.toList, x.data.toList)) := fun h => he (by rw [atT_lt hjl, HYZ.out, h, HT.out])
          have ht : (y.toList == f.toList) = false ∨ (y.toList == f.toList) = true ∧ (z.toList == x.toList) = false := by
            by_cases h1 : y.data.toList = f.data.toList
            · exact .inr ⟨same_true h1, same_false fun h2 => hel (Prod.ext h1 h2)⟩
            · exact .inl (same_false h1)
          have HE : Hid (putT l t = l.take k1 ++ t :: l.drop k1) := Lib.hid (by
            rw [putT, HBK.out, hereT, show k1 - 1 = j by have := HKJ.out; omega, decide_eq_false he, Bool.and_false]
            rfl)
          have HTL : Hid ((l.take k1).length = k1) := Lib.hid (by rw [List.length_take, ← HN.out]; omega)
          have HDL : Hid ((l.drop k1).length = n - k1) := Lib.hid (by rw [List.length_drop, ← HN.out])
          have HLE2 : Hid (([] ++ l.take k1).length + 1 ≤ 1073741824) := Lib.hid (by have := HTL.out; simp only [List.nil_append]; omega)
          have HLE3 : Hid (([] ++ l.take k1 ++ [t]).length + (n - k1) ≤ 1073741824) := Lib.hid (by have := HTL.out; simp only [List.nil_append, List.length_append, List.length_singleton]; omega)
          have HRT : Hid (FRow w w.heap.size (some ⟨b1, o1, none⟩) (l.take k1)) := Lib.hid (HR.out.cut k1)
          clear he hel
          by_cases hck : c = k1
          · have hnk : n = k1 := by omega
            have HRD : Hid (∀ A, FRow w w.heap.size A (l.drop k1)) := Lib.hid fun A => .inl (by rw [List.drop_of_length_le (by rw [← HN.out]; omega)]; rfl)
            subst hck
            subst hnk
            rcases ht with t2 | ⟨t2, t3⟩
            all_goals
              go_wp2
              go_region_held3 (fun w' => w'.cell? ⟨w.heap.size, 0, none⟩ = some (.string f) ∧ w'.cell? ⟨w.heap.size, 1, none⟩ = some (.string x) ∧ w'.cell? ⟨b1, o1 + j * 2, none⟩ = some (.string y) ∧ w'.cell? ⟨b1, o1 + j * 2 + 1, none⟩ = some (.string z))
                (first | exact (HSS.out _ (Below.refl _ _).drew).2 | exact (HSS.out _ HBA1.out).2 | exact (HSS.out _ HBA2.out).2)
                (first
                  | (go_at_call 52; (with_reducible refine (C1.out _).mono ?_); rintro e w4 ⟨rfl, hb4⟩
                     have HBA1 : Hid (Below w1.heap.size wr w4) := Lib.hid (((Below.refl _ wr).drew.trans hb4).mono hszr)
                     clear hb4)
                  | (go_at_call 52; (with_reducible refine (C2.out _).mono ?_); rintro e w5 ⟨rfl, hb5⟩
                     have HBA2 : Hid (Below w1.heap.size wr w5) := Lib.hid (HBA1.out.trans (hb5.mono (Nat.le_trans hszr HBA1.out.size)))
                     clear hb5))
              all_goals
                go_wp2
                have HBQ : Hid (Below w.heap.size w w5) := Lib.hid (HSS.out _ HBA2.out).1
                obtain ⟨_, a0, a1, c1, c2⟩ := HSS.out _ HBA2.out
                go_quiet (fail)
                obtain ⟨wt, hwt, hbx, a0, a1⟩ : ∃ wt, wt = w5.drewN nq ∧ Below w.heap.size w wt ∧ wt.cell? ⟨w.heap.size, 0, none⟩ = some (.string f) ∧ wt.cell? ⟨w.heap.size, 1, none⟩ = some (.string x) := ⟨_, rfl, HBQ.out.trans ((drewN_below _ _).mono HBQ.out.size), a0, a1⟩
                rw [← hwt]
                have HBX := Lib.hid hbx
                have HLTB : Hid (w.heap.size < wt.heap.size) := Lib.hid (World.block_lt_of_cell? wt _ a0)
                clear hwt hbx
                go_wp2_with (first
                  | (at_builtin; refine wpList_append_tm _ rfl (.tmp 36) (.tmp 39) rfl wt.heap.size _ [] rfl OwnTm.nil _ n _ (l.take n) rfl HTL.out ((HRT.out).later HBX.out) (by simp <;> omega) (Nat.le_refl _) ?_
                     intro v1 w2 ho2 hb2
                     have HO2 := Lib.hid ho2
                     have HB2' := Lib.hid hb2
                     have a0 := (hb2.cell (p := ⟨w.heap.size, 0, none⟩) HLTB.out).trans a0
                     have a1 := (hb2.cell (p := ⟨w.heap.size, 1, none⟩) HLTB.out).trans a1
                     clear ho2 hb2)
                  | (at_builtin; refine wpList_append_tm _ rfl (.tmp 41) (.tmp 43) rfl wt.heap.size _ ([] ++ l.take n) rfl (HO2.out.below ((Below.refl _ _).alloc (Nat.le_refl _) _)) _ 1 1 [t] rfl rfl (HNEW.out _) HLE2.out (by have := HB2'.out.size; simp; omega) ?_
                     intro v2 w3 ho3 hb3
                     have HO3 := Lib.hid ho3
                     have HB3 := Lib.hid (HB2'.out.trans (((Below.refl _ _).alloc (Nat.le_refl _) _).mono HB2'.out.size |>.trans hb3))
                     clear ho3 hb3)
                  | (at_builtin; refine wpList_append_tm _ rfl (.tmp 45) (.tmp 48) rfl wt.heap.size _ ([] ++ l.take n ++ [t]) rfl HO3.out _ _ _ (l.drop n) rfl (by have := HDL.out; omega) (((HRD.out _)).later (HBX.out.trans (HB3.out.mono HBX.out.size))) (by have := HLE3.out; omega) HB3.out.size ?_
                     intro v3 w4 ho4 hb4
                     have HO4 := Lib.hid ho4
                     have HB4 := Lib.hid (HB3.out.trans hb4)
                     clear ho4 hb4))
                go_ret
                refine ⟨_, rfl, ?_, HBX.out.trans (HB4.out.mono HBX.out.size)⟩
                rw [HE.out]
                exact (by simpa using HO4.out : OwnTm wt.heap.size w4 v3 _).low (Nat.le_trans hb HBX.out.size)
          · have HRD : Hid (FRow w w.heap.size (some ⟨b1, o1 + k1 * 2, none⟩) (l.drop k1)) := Lib.hid (HR.out.dropped k1)
            have hck1 : k1 < c := by omega
            rcases ht with t2 | ⟨t2, t3⟩
            all_goals
              go_wp2
              go_region_held3 (fun w' => w'.cell? ⟨w.heap.size, 0, none⟩ = some (.string f) ∧ w'.cell? ⟨w.heap.size, 1, none⟩ = some (.string x) ∧ w'.cell? ⟨b1, o1 + j * 2, none⟩ = some (.string y) ∧ w'.cell? ⟨b1, o1 + j * 2 + 1, none⟩ = some (.string z))
                (first | exact (HSS.out _ (Below.refl _ _).drew).2 | exact (HSS.out _ HBA1.out).2 | exact (HSS.out _ HBA2.out).2)
                (first
                  | (go_at_call 52; (with_reducible refine (C1.out _).mono ?_); rintro e w4 ⟨rfl, hb4⟩
                     have HBA1 : Hid (Below w1.heap.size wr w4) := Lib.hid (((Below.refl _ wr).drew.trans hb4).mono hszr)
                     clear hb4)
                  | (go_at_call 52; (with_reducible refine (C2.out _).mono ?_); rintro e w5 ⟨rfl, hb5⟩
                     have HBA2 : Hid (Below w1.heap.size wr w5) := Lib.hid (HBA1.out.trans (hb5.mono (Nat.le_trans hszr HBA1.out.size)))
                     clear hb5))
              all_goals
                go_wp2
                have HBQ : Hid (Below w.heap.size w w5) := Lib.hid (HSS.out _ HBA2.out).1
                obtain ⟨_, a0, a1, c1, c2⟩ := HSS.out _ HBA2.out
                go_quiet (fail)
                obtain ⟨wt, hwt, hbx, a0, a1⟩ : ∃ wt, wt = w5.drewN nq ∧ Below w.heap.size w wt ∧ wt.cell? ⟨w.heap.size, 0, none⟩ = some (.string f) ∧ wt.cell? ⟨w.heap.size, 1, none⟩ = some (.string x) := ⟨_, rfl, HBQ.out.trans ((drewN_below _ _).mono HBQ.out.size), a0, a1⟩
                rw [← hwt]
                have HBX := Lib.hid hbx
                have HLTB : Hid (w.heap.size < wt.heap.size) := Lib.hid (World.block_lt_of_cell? wt _ a0)
                clear hwt hbx
                go_wp2_with (first
                  | (at_builtin; refine wpList_append_tm _ rfl (.tmp 36) (.tmp 39) rfl wt.heap.size _ [] rfl OwnTm.nil _ k1 _ (l.take k1) rfl HTL.out ((HRT.out).later HBX.out) (by simp <;> omega) (Nat.le_refl _) ?_
                     intro v1 w2 ho2 hb2
                     have HO2 := Lib.hid ho2
                     have HB2' := Lib.hid hb2
                     have a0 := (hb2.cell (p := ⟨w.heap.size, 0, none⟩) HLTB.out).trans a0
                     have a1 := (hb2.cell (p := ⟨w.heap.size, 1, none⟩) HLTB.out).trans a1
                     clear ho2 hb2)
                  | (at_builtin; refine wpList_append_tm _ rfl (.tmp 41) (.tmp 43) rfl wt.heap.size _ ([] ++ l.take k1) rfl (HO2.out.below ((Below.refl _ _).alloc (Nat.le_refl _) _)) _ 1 1 [t] rfl rfl (HNEW.out _) HLE2.out (by have := HB2'.out.size; simp; omega) ?_
                     intro v2 w3 ho3 hb3
                     have HO3 := Lib.hid ho3
                     have HB3 := Lib.hid (HB2'.out.trans (((Below.refl _ _).alloc (Nat.le_refl _) _).mono HB2'.out.size |>.trans hb3))
                     clear ho3 hb3)
                  | (at_builtin; refine wpList_append_tm _ rfl (.tmp 45) (.tmp 48) rfl wt.heap.size _ ([] ++ l.take k1 ++ [t]) rfl HO3.out _ _ _ (l.drop k1) rfl (by have := HDL.out; omega) ((HRD.out).later (HBX.out.trans (HB3.out.mono HBX.out.size))) (by have := HLE3.out; omega) HB3.out.size ?_
                     intro v3 w4 ho4 hb4
                     have HO4 := Lib.hid ho4
                     have HB4 := Lib.hid (HB3.out.trans hb4)
                     clear ho4 hb4))
                go_ret
                refine ⟨_, rfl, ?_, HBX.out.trans (HB4.out.mono HBX.out.size)⟩
                rw [HE.out]
                exact (by simpa using HO4.out : OwnTm wt.heap.size w4 v3 _).low (Nat.le_trans hb HBX.out.size)
end Go.Proofs.YtgcdekaceimdnaaGreat
