/- The walk of DocInverts. -/
import Derived.Test.YthpecegifilgoaaQ13
set_option linter.unusedVariables false
namespace Go.Proofs.Ythpecegifilgoaa
open Go Go.RowKit

theorem sum_add (t : Tm) (a : Int) : ∀ g : List Gr, ((addG g t a).map fun p => p.2.length).sum = (g.map fun p => p.2.length).sum + 1
  | [] => rfl
  | p :: g => by
    have ih := sum_add t a g
    rw [addG]
    split
    · simp; omega
    · simp only [List.map_cons, List.sum_cons]; omega
theorem sum_fold : ∀ (s : List (Tm × Int)) (g : List Gr), ((s.foldl (fun g p => addG g p.1 p.2) g).map fun p => p.2.length).sum = (g.map fun p => p.2.length).sum + s.length
  | [], g => rfl
  | p :: s, g => by rw [List.foldl_cons, sum_fold s, sum_add, List.length_cons]; omega
theorem sum_terms {l : List Fd} (h : GoodF l) : ((termsD l).map fun t => (placesD l t).length).sum = weightD l := by
  have hp : (termsD l).Perm ((groupsT (tellD l)).map (·.1)) := by
    have hnd : (termsD l).Nodup := by
      have hr := termsD_rise h.zero
      unfold RiseT Rise at hr
      rw [List.pairwise_map] at hr
      exact hr.imp fun {a b} (hab : keyT a < keyT b) (e : a = b) => nm_irrefl (keyT b) (e ▸ hab)
    exact (List.perm_ext_iff_of_nodup hnd (groups_nodup _)).2 fun t => by rw [groups_mem, termsD_mem h.apart]
  rw [(hp.map fun t => (placesD l t).length).sum_nat, List.map_map, ← tellD_weight h.apart]
  have h1 := sum_fold (tellD l) []
  simp only [List.map_nil, List.sum_nil, Nat.zero_add] at h1
  rw [← h1]
  congr 1
  refine List.map_congr_left fun p hp' => ?_
  show (placesD l p.1).length = p.2.length
  rw [← placesS_D h.apart, ← getG_groups, getG_at (groups_nodup _) hp']
def sumUp (l : List Fd) (k : Nat) : Nat := (((termsD l).take k).map fun t => (placesD l t).length).sum
theorem sumUp_succ {l : List Fd} {k : Nat} (hk : k < (termsD l).length) : sumUp l (k + 1) = sumUp l k + (placesD l (termsD l)[k]).length := by
  unfold sumUp
  rw [List.take_succ_eq_append_getElem hk, List.map_append, List.sum_append]
  simp
theorem sumUp_all {l : List Fd} (h : GoodF l) : sumUp l (termsD l).length = weightD l := by rw [sumUp, List.take_length, sum_terms h]
theorem sum_take_le : ∀ (l : List Nat) (k : Nat), (l.take k).sum ≤ l.sum
  | [], k => by simp
  | x :: l, 0 => by simp
  | x :: l, k + 1 => by have := sum_take_le l k; simp; omega
theorem sumUp_le {l : List Fd} (h : GoodF l) (k : Nat) : sumUp l k ≤ 500 := by
  have := sum_take_le ((termsD l).map fun t => (placesD l t).length) k
  rw [sum_terms h, ← List.map_take] at this
  exact Nat.le_trans this h.weight
theorem terms_len {l : List Fd} (h : GoodF l) : (termsD l).length ≤ 4000 := by
  have h1 := termsUp_length (l := l) (M := 500) h.wordsS l.length (Nat.le_refl _)
  rw [termsUp_all] at h1
  exact Nat.le_trans h1 (Nat.le_trans (Nat.mul_le_mul_right _ h.len) (by omega))

def InvertsRel (g : List Fd) (w5 : World) (n i : Value) (wr : World) : Prop := ∃ k : Nat, k ≤ (termsD g).length ∧ i = .int .i64 (k : Int) ∧ n = .int .i64 (sumUp g k : Int) ∧ Below w5.heap.size w5 wr

set_option maxHeartbeats 8000000 in
set_option maxRecDepth 100000 in
theorem walk_DocInverts (id : Int) (A : Option Addr) (n c : Nat) (l : List Fd) (w : World) (hid : (Lit.int .i64 id).wf = true) (hin : InFlds w A n c l) :
    Calls Try.prog 5 #[.agg #[.int .i64 id, .slice A n c]] w fun e w' => e = .returned (.bool true) ∧ Below w.heap.size w w' := by
  obtain ⟨hnc, hcm, hln, hrow, hbd⟩ := hin
  obtain ⟨w1, hw1⟩ : ∃ w1, w1 = boxD w id A n c := ⟨_, rfl⟩
  have hb1 : Below w.heap.size w w1 := by rw [hw1]; exact boxD_below _ _ _ _ _
  have hcc := boxD_cells (w := w) (id := id) (A := A) (n := n) (c := c) (Below.refl _ _)
  rw [← hw1] at hcc
  obtain ⟨hc0, hc1⟩ := hcc
  have hG := ref08_Good id A n c l w1 hln (hrow.later hb1) (by unfold maxLen at hcm; omega) (fun f hf => by have := hbd f hf; unfold maxLen at this; omega)
  have hgood := goodD_good l
  obtain ⟨g, hg⟩ : ∃ g, g = goodD l := ⟨_, rfl⟩
  rw [← hg] at hG hgood
  have htl := terms_len hgood
  have hsu := sumUp_all hgood
  have hwle := hgood.weight
  obtain ⟨T, hT⟩ : ∃ T, T = termsD g := ⟨_, rfl⟩
  obtain ⟨N, hN⟩ : ∃ N, N = T.length := ⟨_, rfl⟩
  have HG := Lib.hid hG
  have HGOOD := Lib.hid hgood
  have HB1 := Lib.hid hb1
  have HW1 := Lib.hid hw1
  have HLV : Hid (∀ w', Calls Try.prog 18 #[] w' fun e w'' => e = .returned (.bool true) ∧ Below w'.heap.size w' w'') := Lib.hid law08_lives
  rw [← hT, ← hN] at htl hsu
  have HT := Lib.hid hT
  have HN := Lib.hid hN
  have HSU := Lib.hid hsu
  clear hG hgood hb1 hw1 hrow hbd hg hT hN hsu
  go_enter Try.func5, Try.ntmps5
  go_wp2_with (first
    | (go_at_call 17; rw [show w.alloc _ = w1 from HW1.out.symm]
       (with_reducible refine HG.out.mono ?_)
       rintro e w2 ⟨v2, rfl, ho2, hb2⟩
       obtain ⟨A2, c2, rfl, hc2, hr2⟩ := ho2.row
       obtain ⟨gl, hgl⟩ : ∃ gl, gl = g.length := ⟨_, rfl⟩
       rw [← hgl]
       obtain ⟨w3, hw3⟩ : ∃ w3, w3 = w2.alloc (.cells #[.int .i64 id, .slice A2 gl c2] 24) := ⟨_, rfl⟩
       have hd3 : DocIn w3 w2.heap.size id A2 gl c2 g := by rw [hw3]; exact DocIn.made hgl.symm hr2
       have HD3 := Lib.hid hd3
       obtain ⟨d0, d1⟩ := hd3.cells
       have HW3 := Lib.hid hw3
       have HB3 : Hid (Below w.heap.size w w3) := Lib.hid (HB1.out.trans ((hb2.trans (by rw [hw3]; exact ((Below.refl _ _).alloc (Nat.le_refl _) _).mono hb2.size)).mono HB1.out.size))
       have HI := Lib.hid (good_inv (id := id) (c := c2) HGOOD.out hd3.len hd3.row)
       rw [← HT.out] at HI
       clear ho2 hb2 hr2 hw3 hd3 hc2 hgl)
    | (go_at_call 21; rw [show w2.alloc _ = w3 from HW3.out.symm]
       (with_reducible refine HI.out.mono ?_)
       rintro e w4 ⟨v1, v2, rfl, ho1, ho2, hb4⟩
       obtain ⟨A4, c4, rfl, hc4, hr4⟩ := ho1.row
       obtain ⟨A5, c5, rfl, hc5, hr5⟩ := ho2.rows
       rw [List.length_map, ← HN.out] at hc5 ⊢
       rw [← HN.out] at hc4
       have hd4 := HD3.out.later hb4
       obtain ⟨d0, d1⟩ := hd4.cells
       have HD4 := Lib.hid hd4
       have HB4 := Lib.hid hb4
       have HR4 := Lib.hid hr4
       have HR5 := Lib.hid hr5
       have HTM := Lib.hid (good_terms (id := id) (c := c2) HGOOD.out hd4.len hd4.row)
       rw [← HT.out] at HTM
       clear ho1 ho2 hb4 hr4 hr5 hd4)
    | (go_at_call 22; (with_reducible refine HTM.out.mono ?_)
       rintro e w5 ⟨v6, rfl, ho6, hb5⟩
       obtain ⟨A6, c6, rfl, hc6, hr6⟩ := ho6.row
       rw [← HN.out] at hc6 ⊢
       have HD5 := Lib.hid (HD4.out.later hb5)
       have HB5 := Lib.hid hb5
       have HR6 := Lib.hid hr6
       clear ho6 hb5 hr6))
  have HB35 : Hid (Below w3.heap.size w3 w5) := Lib.hid (HB4.out.trans (HB5.out.mono HB4.out.size))
  have hs35 := HB35.out.size
  have hs45 := HB5.out.size
  have HB05 : Hid (Below w.heap.size w w5) := Lib.hid (HB3.out.trans (HB35.out.mono HB3.out.size))
  have hs05 := HB05.out.size
  go_loopw [7, 8] (fun m i wr => InvertsRel g w5 m i wr) (fun _ i _ => N - (intOf i).toNat)
  case atStart => exact ⟨0, by omega, rfl, rfl, Below.refl _ _⟩
  case round =>
    obtain ⟨k, hk, rfl, rfl, hbw⟩ := hrel
    rw [← HT.out, ← HN.out] at hk
    have hd := HD5.out.later hbw
    obtain ⟨d0, d1⟩ := hd.cells
    by_cases hlt : k < N
    · have hkT : k < T.length := by rw [← HN.out]; exact hlt
      have hkT' : k < (termsD g).length := by rw [← HT.out]; exact hkT
      obtain ⟨b4, o4, e4, hb4, hx4, hy4⟩ := ((HR4.out.below (HB5.out)).below (hbw.mono hs45)).at_ hkT
      subst e4
      obtain ⟨b6, o6, e6, hb6, hx6, hy6⟩ := (HR6.out.below hbw).at_ hkT
      subst e6
      obtain ⟨b5, o5, A7, c7, e5, hb5, hp5, hc7, hr7⟩ := ((HR5.out.below (HB5.out)).below (hbw.mono hs45)).at_ (k := k) (by rw [List.length_map]; exact hkT)
      subst e5
      simp only [List.getElem_map] at hp5 hc7 hr7
      obtain ⟨x, hx, hx2⟩ := as_text T[k].1
      obtain ⟨y, hy, hy2⟩ := as_text T[k].2
      rw [← hx] at hx4 hx6
      rw [← hy] at hy4 hy6
      have htk : (x.data.toList, y.data.toList) = T[k] := Prod.ext hx2 hy2
      have hsk := sumUp_succ hkT'
      have hsl := sumUp_le HGOOD.out k
      have hsl2 := sumUp_le HGOOD.out (k + 1)
      have hTk : (termsD g)[k] = T[k] := by simp only [HT.out]
      rw [hTk] at hsk
      obtain ⟨P, hP⟩ : ∃ P, P = placesD g T[k] := ⟨_, rfl⟩
      rw [← hP] at hp5 hc7 hr7 hsk
      obtain ⟨pl, hpl⟩ : ∃ pl, pl = P.length := ⟨_, rfl⟩
      rw [← hpl] at hp5 hc7 hsk
      obtain ⟨sk, hsk0⟩ : ∃ sk, sk = sumUp g k := ⟨_, rfl⟩
      rw [← hsk0] at hsk hsl
      have HPC : Hid (∀ w', Below wr.heap.size wr w' → Calls Try.prog 24 #[docV id A2 gl c2, .agg #[.string x, .string y]] w' (GaveInts P w')) := Lib.hid fun w' h => by
        have := good_places (id := id) (c := c2) HGOOD.out (hd.later h).len (hd.later h).row x y
        rwa [htk, ← hP] at this
      have HR7 : Hid (Row wr w4.heap.size A7 (ints P)) := Lib.hid hr7
      have hsr := hbw.size
      have HS : Hid (∀ w', Below wr.heap.size wr w' → (w'.cell? ⟨w2.heap.size, 0, none⟩ = some (.int .i64 id) ∧ w'.cell? ⟨w2.heap.size, 1, none⟩ = some (.slice A2 gl c2) ∧ w'.cell? ⟨b4, o4 + k * 2, none⟩ = some (.string x) ∧ w'.cell? ⟨b4, o4 + k * 2 + 1, none⟩ = some (.string y) ∧ w'.cell? ⟨b6, o6 + k * 2, none⟩ = some (.string x) ∧ w'.cell? ⟨b6, o6 + k * 2 + 1, none⟩ = some (.string y) ∧ w'.cell? ⟨b5, o5 + k, none⟩ = some (.slice A7 pl c7))) := Lib.hid fun w' h => by
        have hd' := (hd.later h).cells
        exact ⟨hd'.1, hd'.2, (h.cell (p := ⟨b4, _, none⟩) (by show b4 < _; omega)).trans hx4, (h.cell (p := ⟨b4, _, none⟩) (by show b4 < _; omega)).trans hy4, (h.cell (p := ⟨b6, _, none⟩) (by show b6 < _; omega)).trans hx6, (h.cell (p := ⟨b6, _, none⟩) (by show b6 < _; omega)).trans hy6, (h.cell (p := ⟨b5, _, none⟩) (by show b5 < _; omega)).trans hp5⟩
      have i0 : (0 : Int) ≤ k := by omega
      have i1 : (k : Int) < N := by omega
      have hpl5 : pl ≤ 500 := by omega
      have HSK := Lib.hid hsk
      have HSK0 := Lib.hid hsk0
      have HBW := Lib.hid hbw
      have HPL := Lib.hid hpl
      clear hx hx2 hy hy2 htk hsk hsk0 hTk hP hpl hd hbw hr7 hkT hkT'
      rw [← HSK0.out]
      go_wp2
      go_region_held3 (fun w' => (w'.cell? ⟨w2.heap.size, 0, none⟩ = some (.int .i64 id) ∧ w'.cell? ⟨w2.heap.size, 1, none⟩ = some (.slice A2 gl c2) ∧ w'.cell? ⟨b4, o4 + k * 2, none⟩ = some (.string x) ∧ w'.cell? ⟨b4, o4 + k * 2 + 1, none⟩ = some (.string y) ∧ w'.cell? ⟨b6, o6 + k * 2, none⟩ = some (.string x) ∧ w'.cell? ⟨b6, o6 + k * 2 + 1, none⟩ = some (.string y) ∧ w'.cell? ⟨b5, o5 + k, none⟩ = some (.slice A7 pl c7)))
        (first | exact HS.out _ (Below.refl _ _).drew | exact HS.out _ HB6.out | exact HS.out _ HB7.out)
        (first
          | (go_at_call 23; (with_reducible refine HSM.out.mono ?_); rintro e w7 ⟨rfl, hb7⟩
             have HB7 : Hid (Below wr.heap.size wr w7) := Lib.hid (HB6.out.trans (hb7.mono HB6.out.size))
             clear hb7)
          | (go_at_call 24; (with_reducible refine (HPC.out _ (Below.refl _ wr).drew).mono ?_); rintro e w6 ⟨v6, rfl, ho6, hb6⟩
             obtain ⟨A8, c8, rfl, hc8, hr8⟩ := owned_row ho6
             rw [← HPL.out] at hc8 ⊢
             have hb6' : Below wr.heap.size wr w6 := (Below.refl _ wr).drew.trans hb6
             have HB6 := Lib.hid hb6'
             have HSM := Lib.hid (ref_Same_at A7 A8 pl pl c7 c8 P w6 HPL.out.symm HPL.out.symm ((HR7.out.below (hb6'.mono (by omega))).more (by have := hb6'.size; omega)) hr8 (by omega))
             clear ho6 hb6 hr8 hb6'))
      all_goals
        obtain ⟨d0, d1, p0, p1, p2, p3, p4⟩ := HS.out _ HB7.out
        have e1 : wrap64 ((sk : Int) + pl) = (sk : Int) + pl := by unfold wrap64; omega
        go_wp2
        exact ⟨⟨k + 1, by rw [← HT.out, ← HN.out]; omega, by go_num, by rw [HSK.out, e1]; push_cast; rfl, HBW.out.trans (HB7.out.mono hsr)⟩, by simp [intOf]; omega⟩
    · have hkN : k = N := by omega
      subst hkN
      rw [HSU.out]
      have HDW := Lib.hid hd
      have HW1' : Hid (∀ w', Below wr.heap.size wr w' → Calls Try.prog 20 #[docV id A2 gl c2] w' fun e w'' => e = .returned (.int .i64 (weightD g : Int)) ∧ Below w'.heap.size w' w'') := Lib.hid fun w' h => good_weight (id := id) (c := c2) HGOOD.out (HDW.out.later h).len (HDW.out.later h).row
      have HW2' : Hid (∀ w', Below wr.heap.size wr w' → Calls Try.prog 25 #[docV id A2 gl c2] w' fun e w'' => e = .returned (.int .i64 (weightD g : Int)) ∧ Below w'.heap.size w' w'') := Lib.hid fun w' h => good_rweight (id := id) (c := c2) HGOOD.out (HDW.out.later h).len (HDW.out.later h).row
      have HBW := Lib.hid hbw
      obtain ⟨M, hM⟩ : ∃ M, M = weightD g := ⟨_, rfl⟩
      rw [← hM] at HW1' HW2' ⊢
      clear hd hbw hM
      go_wp2_with (first
        | (go_at_call 20; (with_reducible refine (HW1'.out _ (Below.refl _ _)).mono ?_); rintro e w6 ⟨rfl, hb6⟩
           obtain ⟨d0, d1⟩ := (HDW.out.later hb6).cells
           have HB6 := Lib.hid hb6
           clear hb6)
        | (go_at_call 25; (with_reducible refine (HW2'.out _ HB6.out).mono ?_); rintro e w7 ⟨rfl, hb7⟩
           have HB7 := Lib.hid (HB6.out.trans (hb7.mono HB6.out.size))
           clear hb7)
        | (go_at_call 18; (with_reducible refine (HLV.out _).mono ?_); rintro e w8 ⟨rfl, hb8⟩))
      go_ret
      have hsr := HBW.out.size
      exact ⟨rfl, HB05.out.trans ((HBW.out.trans ((HB7.out.trans (hb8.mono HB7.out.size)).mono hsr)).mono hs05)⟩
end Go.Proofs.Ythpecegifilgoaa
