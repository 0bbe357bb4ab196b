/- Two lists of names that rise, laid together: what package dict's merge answers. -/
import Derived.Test.YtebdnjfohahpgaaLists07
import Derived.Deep.RegionHeld3
import Derived.Deep.AppendLies
import Derived.Test.YtebdnjfohahpgaaFew07
namespace Go.Proofs.Ytebdnjfohahpgaa
open Go Go.RowKit
set_option linter.unusedVariables false

def sliceN : Value → Nat | .slice _ n _ => n | _ => 0
theorem row_tail {w : World} {B b o c : Nat} {x : Nm} {r : List Nm} {AN : Addr} (h : Row w B (some ⟨b, o, none⟩) (strs (x :: r))) (hc : r.length + 1 ≤ c) (hA : (if c = 1 then some (⟨b, o, none⟩ : Addr) else some ⟨b, o + 1, none⟩) = some AN) : Row w B (some AN) (strs r) := by
  by_cases h1 : c = 1
  · have : r = [] := List.eq_nil_of_length_eq_zero (by omega)
    subst this
    exact .inl rfl
  · rw [if_neg h1] at hA
    rw [← hA]
    have := h.dropped 1
    simpa using this
/-- How far two lists have been laid together. -/
def MergeRel (ans : List Nm) (N : Nat) (w : World) (u0 u1 u5 : Value) (wr : World) : Prop :=
  ∃ (a b done : List Nm) (A B : Option Addr) (ca cb : Nat), u0 = .slice A a.length ca ∧ u1 = .slice B b.length cb ∧ a.length ≤ ca ∧ ca ≤ maxLen ∧ b.length ≤ cb ∧ cb ≤ maxLen ∧ Row w w.heap.size A (strs a) ∧ Row w w.heap.size B (strs b) ∧
    OwnNm w.heap.size wr u5 done ∧ Below w.heap.size w wr ∧ ans = done ++ mergeN a b ∧ done.length + a.length + b.length ≤ N

set_option maxHeartbeats 4000000 in
set_option maxRecDepth 100000 in
theorem dict_merge (A B : Option Addr) (na ca nb cb : Nat) (a b : List Nm) (w : World) (hna : a.length = na) (hnb : b.length = nb) (ha : na ≤ ca) (hca : ca ≤ maxLen) (hb : nb ≤ cb) (hcb : cb ≤ maxLen) (hra : Row w w.heap.size A (strs a)) (hrb : Row w w.heap.size B (strs b)) (hN : na + nb ≤ 1048576) :
    Calls Try.prog 46 #[.slice A na ca, .slice B nb cb] w (GaveNm (mergeN a b) w) := by
  obtain ⟨i0, hi0, hz0, hz1, hz2⟩ := info_parts info_string
  obtain ⟨N, hNe⟩ : ∃ N, N = na + nb := ⟨_, rfl⟩
  have h0 : ∀ v wr, OwnNm w.heap.size wr v [] → Below w.heap.size w wr → MergeRel (mergeN a b) N w (.slice A na ca) (.slice B nb cb) v wr := fun v wr h1 h2 =>
    ⟨a, b, [], A, B, ca, cb, by rw [hna], by rw [hnb], by omega, hca, by omega, hcb, hra, hrb, h1, h2, rfl, by simp; omega⟩
  have H0 := Lib.hid h0
  have hN2 : N ≤ 1048576 := by omega
  obtain ⟨ans, hans⟩ : ∃ ans, ans = mergeN a b := ⟨_, rfl⟩
  rw [← hans] at H0
  rw [← hans]
  clear h0 hans hra hrb hna hnb
  obtain ⟨w1, hrun, hown1, hgrow1⟩ := run_make_own (P := Try.prog) w w.heap.size 22 9 i0 _ 1 Try.underlying22 hi0 hz0 hz1 .i64 .i64 (na + nb) (by rw [hz2]; omega) (by unfold maxLen; omega) (Nat.le_refl _)
  rw [Int.natCast_add] at hrun
  have hs1 : (0 : Int) ≤ (na : Int) + (nb : Int) := by omega
  have hs2 : (na : Int) + (nb : Int) ≤ 1048576 := by omega
  have hb1 : Below w.heap.size w w1 := (Below.refl _ w).grown hgrow1 (Nat.le_refl _) (fun k hk => by cases hk)
  have HREL0 := Lib.hid (H0.out _ _ hown1 hb1)
  have HNe := Lib.hid hNe
  clear hown1 hgrow1 hb1 H0 hNe
  go_enter Try.func46, Try.ntmps46
  go_wp2
  clear hN ha hb hca hcb hrun hs1 hs2 HNe
  go_loopw [0, 1, 5] (MergeRel ans N w) (fun x y _ _ => sliceN x + sliceN y)
  case atStart => exact HREL0.out
  case round =>
    obtain ⟨a, b, done, A, B, ca, cb, rfl, rfl, ha, hca, hb, hcb, hra, hrb, hown, hbw, hans, hlen⟩ := hrel
    unfold maxLen at hca hcb
    obtain ⟨na, hna⟩ : ∃ n, n = a.length := ⟨_, rfl⟩
    obtain ⟨nb, hnb⟩ : ∃ n, n = b.length := ⟨_, rfl⟩
    rw [← hna, ← hnb] at hlen
    rw [← hna] at ha
    rw [← hnb] at hb
    rw [← hna, ← hnb]
    have hsz := hbw.size
    cases a with
    | nil =>
      obtain ⟨aa, haa⟩ : ∃ l, l = ([] : List Nm) := ⟨_, rfl⟩
      obtain ⟨bb, hbb⟩ : ∃ l, l = b := ⟨_, rfl⟩
      rw [← haa] at hra hna hans
      rw [← hbb] at hrb hnb hans
      have hna0 : na = 0 := by rw [hna, haa]; rfl
      have HO := Lib.hid hown
      have HBW := Lib.hid hbw
      have HNA := Lib.hid hna
      have HNB := Lib.hid hnb
      have HRA := Lib.hid (hra.later hbw)
      have HRB0 := Lib.hid hrb
      have hle : done.length + (na + nb) ≤ 1048576 := by omega
      have HANS : Hid (ans = done ++ aa ++ bb) := Lib.hid (by rw [hans]; rw [haa, nil_mergeN]; simp)
      clear hown hbw hna hnb hra hrb hans
      go_wp2_with (first
        | (at_builtin; refine wpList_append_nm _ rfl (.tmp 52) (.tmp 53) rfl w.heap.size _ done rfl HO.out A na ca aa rfl HNA.out.symm HRA.out (by omega) HBW.out.size ?_
           intro v1 w5 ho5 hb5
           have HO5 := Lib.hid ho5
           have HB5 := Lib.hid hb5
           have HB6 := Lib.hid (HBW.out.trans hb5)
           clear ho5 hb5)
        | (at_builtin; refine wpList_append_nm _ rfl (.tmp 54) (.tmp 55) rfl w.heap.size _ (done ++ aa) rfl HO5.out B nb cb bb rfl HNB.out.symm ((HRB0.out.below HB6.out).more HB6.out.size) (by rw [List.length_append, ← HNA.out]; omega) HB6.out.size ?_
           intro v2 w7 ho7 hb7
           have HO7 := Lib.hid ho7
           have HB7 := Lib.hid (HB6.out.trans hb7)
           clear ho7 hb7))
      go_ret
      refine ⟨_, rfl, ?_, HB7.out⟩
      rw [HANS.out]
      exact HO7.out
    | cons x a =>
      cases b with
      | nil =>
        obtain ⟨aa, haa⟩ : ∃ l, l = x :: a := ⟨_, rfl⟩
        obtain ⟨bb, hbb⟩ : ∃ l, l = ([] : List Nm) := ⟨_, rfl⟩
        rw [← haa] at hra hna hans
        rw [← hbb] at hrb hnb hans
        have hnb0 : nb = 0 := by rw [hnb, hbb]; rfl
        subst hnb0
        have hna0 : 0 < na := by rw [hna, haa]; simp
        have hna1 : (0 : Int) < (na : Int) := by omega
        have HO := Lib.hid hown
        have HBW := Lib.hid hbw
        have HNA := Lib.hid hna
        have HNB := Lib.hid hnb
        have HRA := Lib.hid (hra.later hbw)
        have HRB0 := Lib.hid hrb
        have hle : done.length + na ≤ 1048576 := by omega
        have HANS : Hid (ans = done ++ aa ++ bb) := Lib.hid (by rw [hans]; rw [hbb, mergeN_nil]; simp)
        clear hown hbw hna hnb hra hrb hans
        go_wp2_with (first
          | (at_builtin; refine wpList_append_nm _ rfl (.tmp 52) (.tmp 53) rfl w.heap.size _ done rfl HO.out A na ca aa rfl HNA.out.symm HRA.out (by omega) HBW.out.size ?_
             intro v1 w5 ho5 hb5
             have HO5 := Lib.hid ho5
             have HB5 := Lib.hid hb5
             have HB6 := Lib.hid (HBW.out.trans hb5)
             clear ho5 hb5)
          | (at_builtin; refine wpList_append_nm _ rfl (.tmp 54) (.tmp 55) rfl w.heap.size _ (done ++ aa) rfl HO5.out B 0 cb bb rfl HNB.out.symm ((HRB0.out.below HB6.out).more HB6.out.size) (by rw [List.length_append, ← HNA.out]; omega) HB6.out.size ?_
             intro v2 w7 ho7 hb7
             have HO7 := Lib.hid ho7
             have HB7 := Lib.hid (HB6.out.trans hb7)
             clear ho7 hb7))
        go_ret
        refine ⟨_, rfl, ?_, HB7.out⟩
        rw [HANS.out]
        exact HO7.out
      | cons y b =>
        obtain ⟨b1, o1, rfl, hb1, hc1⟩ := hra.at_ (by simp [strs])
        obtain ⟨b2, o2, rfl, hb2, hc2⟩ := hrb.at_ (by simp [strs])
        have hx0 : w.cell? ⟨b1, o1, none⟩ = some (.string ⟨x.toArray⟩) := hc1 0 _ rfl
        have hy0 : w.cell? ⟨b2, o2, none⟩ = some (.string ⟨y.toArray⟩) := hc2 0 _ rfl
        have hx1 := (hbw.cell (p := ⟨b1, o1, none⟩) hb1).trans hx0
        have hy1 := (hbw.cell (p := ⟨b2, o2, none⟩) hb2).trans hy0
        have hnap : 0 < na := by rw [hna]; simp
        have hnbp : 0 < nb := by rw [hnb]; simp
        have hnap' : (0 : Int) < (na : Int) := by omega
        have hnbp' : (0 : Int) < (nb : Int) := by omega
        have hna1 : (1 : Int) ≤ (na : Int) := by omega
        have hnb1 : (1 : Int) ≤ (nb : Int) := by omega
        have hca1 : (na : Int) ≤ (ca : Int) := by omega
        have hcb1 : (nb : Int) ≤ (cb : Int) := by omega
        obtain ⟨X, hX, hX2⟩ := as_text x
        obtain ⟨Y, hY, hY2⟩ := as_text y
        rw [← hX] at hx1
        rw [← hY] at hy1
        have hcm := fun w => cmp_compare X Y w
        rw [hX2, hY2] at hcm
        rw [mergeN] at hans
        have HX := Lib.hid hX
        have HY := Lib.hid hY
        have HNA := Lib.hid hna
        have HNB := Lib.hid hnb
        have HRA := Lib.hid hra
        have HRB := Lib.hid hrb
        have HO := Lib.hid hown
        have HSX : Hid (∀ w', Below w.heap.size wr w' → w'.cell? ⟨b1, o1, none⟩ = some (.string X)) := Lib.hid fun w' h => (h.cell (p := ⟨b1, o1, none⟩) hb1).trans hx1
        have HSY : Hid (∀ w', Below w.heap.size wr w' → w'.cell? ⟨b2, o2, none⟩ = some (.string Y)) := Lib.hid fun w' h => (h.cell (p := ⟨b2, o2, none⟩) hb2).trans hy1
        have hal : done.length ≤ 1048576 := by omega
        clear hX hX2 hY hY2 hna hnb hra hrb hown hc1 hc2 hx0 hy0
        by_cases hxy : x < y
        · have hcv : cmpN x y = -1 := by simp [cmpN, hxy]
          rw [hcv] at hcm
          rw [if_pos hxy] at hans
          have HA := Lib.hid hans
          have CM : Hid (∀ n, Calls Try.prog 33 #[.string X, .string Y] (wr.drewN n) fun e w' => e = .returned (.int .i64 (-1)) ∧ w' = wr.drewN n) := Lib.hid fun n => (hcm _).mono fun _ _ h => ⟨h.1, h.2.symm⟩
          clear hcv hcm hans hxy
          go_wp2
          go_quiet ((go_at_call 33; exact Calls.quiet_of_same (CM.out _)))
          go_wp2
          obtain ⟨w5, hw5⟩ : ∃ w5, w5 = wr.drewN nq := ⟨_, rfl⟩
          have hbq : Below w.heap.size wr w5 := by rw [hw5]; exact ⟨rfl, rfl, rfl, Nat.le_refl _, fun _ _ => rfl⟩
          have hbq2 : Below wr.heap.size wr w5 := by rw [hw5]; exact ⟨rfl, rfl, rfl, Nat.le_refl _, fun _ _ => rfl⟩
          rw [← hw5]
          have HBQ := Lib.hid hbq
          have HO5 := Lib.hid (HO.out.below hbq2)
          have hsz5 : w.heap.size ≤ w5.heap.size := Nat.le_trans hsz hbq.size
          obtain ⟨AN, hAN⟩ : ∃ AN : Addr, (if ca = 1 then some (⟨b1, o1, none⟩ : Addr) else some ⟨b1, o1 + 1, none⟩) = some AN := by split <;> exact ⟨_, rfl⟩
          clear hw5 hbq hbq2
          go_region_held3 (fun w' => w'.cell? ⟨b1, o1, none⟩ = some (.string X))
            (first | exact HSX.out _ (HBQ.out.drew) | exact HSX.out _ (HBQ.out.drew.alloc hsz5 _) | exact HSX.out _ HB6.out)
            (first
              | (refine step_append_lies _ (by rfl) _ _ _ (by rfl) w.heap.size 9 i0 _ 1 16 Try.underlying22 hi0 hz0 hz1 hz2 rfl (by omega) _ done.length (strs done) (by rfl) ((HO5.out.alloc _).drew)
                  ⟨w5.heap.size, 0, none⟩ 1 1 [.string X] (by rfl) (by rfl) (World.news_of_block (cs := #[.string X]) (t := 9) (fr := (0, 0)) (heap_alloc_new w5.drew _)) (by intro u hu; simp at hu; subst hu; rfl)
                  (by omega) (by unfold maxLen; omega) (by omega) (by simp; omega) (w5.heap.size + 1) (by simp) ?_
                 intro gg cap w6 hown6 hg6 hat hlt6
                 have hb6 : Below w.heap.size wr w6 := (HBQ.out.drew.alloc hsz5 _).grown hg6 (by simp; omega) fun k hk => (HO5.out.lt k hk).1
                 have HB6 := Lib.hid hb6))
          have hrel : MergeRel ans N w (.slice (some AN) (na - 1) (ca - 1)) (.slice (some ⟨b2, o2, none⟩) nb cb) (.slice (some ⟨gg, 0, none⟩) (done.length + 1) cap) w6 := by
            refine ⟨a, y :: b, done ++ [x], some AN, _, ca - 1, cb, by rw [HNA.out, List.length_cons, Nat.add_sub_cancel], by rw [HNB.out], ?_, by unfold maxLen; omega, by rw [← HNB.out]; omega, by unfold maxLen; omega, row_tail HRA.out (by have := HNA.out; rw [List.length_cons] at this; omega) hAN, HRB.out, ?_, hbw.trans HB6.out, ?_, ?_⟩
            · have := HNA.out; rw [List.length_cons] at this; omega
            · exact OwnNm.push (by rw [← HX.out]; exact hown6)
            · rw [HA.out, List.append_assoc]; rfl
            · have h1 := HNA.out; have h2 := HNB.out; rw [List.length_cons] at h1 h2; simp only [List.length_append, List.length_cons, List.length_nil]; omega
          have HREL := Lib.hid hrel
          clear hrel hown6 hg6
          go_wp2
          go_roundw
          case rel => exact HREL.out
          case measure => simp [sliceN]; omega
        · rw [if_neg hxy] at hans
          by_cases hxe : x = y
          · have hcv : cmpN x y = 0 := by simp [cmpN, hxy, hxe]
            rw [hcv] at hcm
            rw [if_pos hxe] at hans
            have HA := Lib.hid hans
            have CM : Hid (∀ n, Calls Try.prog 33 #[.string X, .string Y] (wr.drewN n) fun e w' => e = .returned (.int .i64 0) ∧ w' = wr.drewN n) := Lib.hid fun n => (hcm _).mono fun _ _ h => ⟨h.1, h.2.symm⟩
            clear hcv hcm hans hxy hxe
            obtain ⟨AN, hAN⟩ : ∃ AN : Addr, (if ca = 1 then some (⟨b1, o1, none⟩ : Addr) else some ⟨b1, o1 + 1, none⟩) = some AN := by split <;> exact ⟨_, rfl⟩
            go_wp2
            go_quiet ((go_at_call 33; exact Calls.quiet_of_same (CM.out _)))
            go_wp2
            obtain ⟨w5, hw5⟩ : ∃ w5, w5 = wr.drewN nq := ⟨_, rfl⟩
            have hbq : Below w.heap.size wr w5 := by rw [hw5]; exact ⟨rfl, rfl, rfl, Nat.le_refl _, fun _ _ => rfl⟩
            have hbq2 : Below wr.heap.size wr w5 := by rw [hw5]; exact ⟨rfl, rfl, rfl, Nat.le_refl _, fun _ _ => rfl⟩
            try rw [← hw5]
            have hrel : MergeRel ans N w (.slice (some AN) (na - 1) (ca - 1)) (.slice (some ⟨b2, o2, none⟩) nb cb) u5 w5 := by
              refine ⟨a, y :: b, done, some AN, _, ca - 1, cb, by rw [HNA.out, List.length_cons, Nat.add_sub_cancel], by rw [HNB.out], ?_, by unfold maxLen; omega, by rw [← HNB.out]; omega, by unfold maxLen; omega, row_tail HRA.out (by have := HNA.out; rw [List.length_cons] at this; omega) hAN, HRB.out, HO.out.below hbq2, hbw.trans hbq, HA.out, ?_⟩
              · have := HNA.out; rw [List.length_cons] at this; omega
              · have h1 := HNA.out; have h2 := HNB.out; rw [List.length_cons] at h1 h2; simp only [List.length_cons]; omega
            have HREL := Lib.hid hrel
            clear hrel hw5 hbq hbq2
            go_roundw
            case rel => exact HREL.out
            case measure => simp [sliceN]; omega
          · have hcv : cmpN x y = 1 := by simp [cmpN, hxy, hxe]
            rw [hcv] at hcm
            rw [if_neg hxe] at hans
            have HA := Lib.hid hans
            have CM : Hid (∀ n, Calls Try.prog 33 #[.string X, .string Y] (wr.drewN n) fun e w' => e = .returned (.int .i64 1) ∧ w' = wr.drewN n) := Lib.hid fun n => (hcm _).mono fun _ _ h => ⟨h.1, h.2.symm⟩
            clear hcv hcm hans hxy hxe
            go_wp2
            go_quiet ((go_at_call 33; exact Calls.quiet_of_same (CM.out _)))
            go_wp2
            obtain ⟨w5, hw5⟩ : ∃ w5, w5 = wr.drewN nq := ⟨_, rfl⟩
            have hbq : Below w.heap.size wr w5 := by rw [hw5]; exact ⟨rfl, rfl, rfl, Nat.le_refl _, fun _ _ => rfl⟩
            have hbq2 : Below wr.heap.size wr w5 := by rw [hw5]; exact ⟨rfl, rfl, rfl, Nat.le_refl _, fun _ _ => rfl⟩
            rw [← hw5]
            have HBQ := Lib.hid hbq
            have HO5 := Lib.hid (HO.out.below hbq2)
            have hsz5 : w.heap.size ≤ w5.heap.size := Nat.le_trans hsz hbq.size
            obtain ⟨AN, hAN⟩ : ∃ AN : Addr, (if cb = 1 then some (⟨b2, o2, none⟩ : Addr) else some ⟨b2, o2 + 1, none⟩) = some AN := by split <;> exact ⟨_, rfl⟩
            clear hw5 hbq hbq2
            go_region_held3 (fun w' => w'.cell? ⟨b2, o2, none⟩ = some (.string Y))
              (first | exact HSY.out _ (HBQ.out.drew) | exact HSY.out _ (HBQ.out.drew.alloc hsz5 _) | exact HSY.out _ HB6.out)
              (first
                | (refine step_append_lies _ (by rfl) _ _ _ (by rfl) w.heap.size 9 i0 _ 1 16 Try.underlying22 hi0 hz0 hz1 hz2 rfl (by omega) _ done.length (strs done) (by rfl) ((HO5.out.alloc _).drew)
                    ⟨w5.heap.size, 0, none⟩ 1 1 [.string Y] (by rfl) (by rfl) (World.news_of_block (cs := #[.string Y]) (t := 9) (fr := (0, 0)) (heap_alloc_new w5.drew _)) (by intro u hu; simp at hu; subst hu; rfl)
                    (by omega) (by unfold maxLen; omega) (by omega) (by simp; omega) (w5.heap.size + 1) (by simp) ?_
                   intro gg cap w6 hown6 hg6 hat hlt6
                   have hb6 : Below w.heap.size wr w6 := (HBQ.out.drew.alloc hsz5 _).grown hg6 (by simp; omega) fun k hk => (HO5.out.lt k hk).1
                   have HB6 := Lib.hid hb6))
            have hrel : MergeRel ans N w (.slice (some ⟨b1, o1, none⟩) na ca) (.slice (some AN) (nb - 1) (cb - 1)) (.slice (some ⟨gg, 0, none⟩) (done.length + 1) cap) w6 := by
              refine ⟨x :: a, b, done ++ [y], _, some AN, ca, cb - 1, by rw [HNA.out], by rw [HNB.out, List.length_cons, Nat.add_sub_cancel], by rw [← HNA.out]; omega, by unfold maxLen; omega, ?_, by unfold maxLen; omega, HRA.out, row_tail HRB.out (by have := HNB.out; rw [List.length_cons] at this; omega) hAN, ?_, hbw.trans HB6.out, ?_, ?_⟩
              · have := HNB.out; rw [List.length_cons] at this; omega
              · exact OwnNm.push (by rw [← HY.out]; exact hown6)
              · rw [HA.out, List.append_assoc]; rfl
              · have h1 := HNA.out; have h2 := HNB.out; rw [List.length_cons] at h1 h2; simp only [List.length_append, List.length_cons, List.length_nil]; omega
            have HREL := Lib.hid hrel
            clear hrel hown6 hg6
            go_wp2
            go_roundw
            case rel => exact HREL.out
            case measure => simp [sliceN]; omega
end Go.Proofs.Ytebdnjfohahpgaa
