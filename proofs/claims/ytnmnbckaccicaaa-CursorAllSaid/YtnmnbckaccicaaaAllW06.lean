/- The walk of CursorAll, out of what All hands on. -/
import Derived.Test.YtnmnbckaccicaaaAll06
import Derived.Test.YtnmnbckaccicaaaStart06
import Derived.RangeFuncNested
set_option linter.unusedVariables false
namespace Go.Proofs.Ytnmnbckaccicaaa
open Go Go.RowKit
attribute [local go_sem] Oper.semAt_some

theorem Firm.row (N : Nat) (A : Option Addr) (xs : List Value) : Firm N (fun W => Row W W.heap.size A xs) := fun W l o o' _ ho hc h => by
  rcases h with h | ⟨b, off, e, hb, h2⟩
  · exact .inl h
  · refine .inr ⟨b, off, e, by simpa [World.putObj] using hb, fun j u hu => ?_⟩
    have h3 := h2 j u hu
    by_cases hbl : b = l
    · subst hbl
      exfalso
      cases o <;> simp [World.cell?, ho] at h3
      cases hc
    · rw [World.cell?_of_block (a := ⟨b, off + j, none⟩) (World.putObj_heap_other hbl)]
      exact h3
theorem Firm.okAll (N : Nat) (g : List Po) (s : List (Int × Value)) (x : Int × Value) : Firm N (OkAll g s x) := fun W l o o' hl ho hc ⟨h1, h2, A, c, h3, h4⟩ => ⟨h1, h2, A, c, h3, Firm.row N _ _ W l o o' hl ho hc h4⟩
theorem GoodL.g {g : List Po} (h : GoodL g) : GoodG g := ⟨h.may, by have := h.len; omega, h.bytes⟩
def AllIn (w6 : World) (Bk : Nat) (pre : List (Int × Value)) (W : World) : Prop := W.heap[Bk]? = some (.cells #[.int .i64 (pre.length : Int)] 3 (0, 0)) ∧ Below Bk w6 W
theorem results_bool {fn : Func} {p : Tmp} (h : fn.results = #[.cell p 4]) (tmps : Array Value) (w : World) (g : Nat) (b : Bool) (hp : tmps.getD p undef = .pointer (some ⟨g, 0, none⟩)) (hc : w.cell? ⟨g, 0, none⟩ = some (.bool b)) :
    (results fn tmps).run Try.prog w = .ok (.bool b) w := by
  have hp' : tmps[p]?.getD undef = .pointer (some ⟨g, 0, none⟩) := by simpa using hp
  simp [results, h, hp', asAddr, go_sem, hc]

set_option maxHeartbeats 8000000 in
set_option maxRecDepth 100000 in
theorem all_of (CK : CursorOk) (a0 : Option Addr) (len0 cap0 : Nat) (z0 : List Po) (most : Int) (w : World) (w0 : InPosts w a0 len0 cap0 z0) :
    Calls Try.prog 4 #[.slice a0 len0 cap0, .int .i64 most] w fun e w' => e = .returned (.bool true) ∧ Below w.heap.size w w' := by
  refine (callsIn_wide (n := 6)).1 ?_
  have qf : ∀ (w : World) (D : Nat), (binOp .eql 43 (.func (.func 35) #[] #[.pointer (some ⟨D, 0, none⟩)]) .nilFunc).run Try.prog w = .ok (.bool false) w := fun w D => by kernel_rfl
  have LV := Lib.hid (law06_lives CK)
  have hb0 : Below w.heap.size w ((w.alloc (.cells #[.int .i64 most] 3)).alloc (.cells #[.bool false] 4)) := ((Below.refl _ _).alloc (Nat.le_refl _) _).alloc (by simp) _
  obtain ⟨wa, hwa⟩ : ∃ wa, wa = (w.alloc (.cells #[.int .i64 most] 3)).alloc (.cells #[.bool false] 4) := ⟨_, rfl⟩
  have hza : wa.heap.size = w.heap.size + 2 := by rw [hwa]; simp
  have hma : wa.heap[w.heap.size]? = some (.cells #[.int .i64 most] 3 (0, 0)) := by rw [hwa]; exact (Below.heap_alloc _ _ _ (by simp)).trans (heap_alloc_new w _)
  have hra : wa.heap[w.heap.size + 1]? = some (.cells #[.bool false] 4 (0, 0)) := by rw [hwa]; exact heap_alloc2_new _ _ _
  rw [← hwa] at hb0
  obtain ⟨g, gg, hgo⟩ := good_gave a0 len0 cap0 z0 wa (w0.below hb0)
  have HWA := Lib.hid hwa
  have HGO := Lib.hid hgo
  have GG := Lib.hid gg
  have HZA := Lib.hid hza
  have HMA := Lib.hid hma
  have HRA := Lib.hid hra
  have HB0 := Lib.hid hb0
  clear hgo gg w0 CK hwa hza hma hra hb0
  refine callsIn_of_wp_marks Try.func4 rfl trivial ?_ rfl
  simp only [Try.ntmps4, List.size_toArray, List.length_cons, List.length_nil, Nat.reduceAdd, Nat.reduceSub, Array.replicate_succ, Array.replicate_zero, List.push_toArray, List.append_toArray, List.nil_append, List.cons_append]
  gi_wp2_with (first
    | (refine ⟨trivial, ?_⟩; rw [← HWA.out]; gi_at_call 8; refine (callsIn_wide.2 HGO.out).mono ?_)
    | (rw [← HWA.out]; gi_at_call 8; refine (callsIn_wide.2 HGO.out).mono ?_))
  first | rintro e w2 A2 c2 rfl hc2 hx2 hp2 hb2 | rintro e w2 ⟨A2, c2, rfl, hc2, hx2, hp2, hb2⟩
  obtain ⟨n, hn⟩ : ∃ n, n = g.length := ⟨_, rfl⟩
  rw [← hn] at hc2
  rw [← hn]
  obtain ⟨wb, hwb⟩ : ∃ wb, wb = w2.alloc (.cells #[.slice A2 n c2] 22) := ⟨_, rfl⟩
  have hb2b : Below w2.heap.size w2 wb := by rw [hwb]; exact (Below.refl _ _).alloc (Nat.le_refl _) _
  have hgb : wb.heap[w2.heap.size]? = some (.cells #[.slice A2 n c2] 22 (0, 0)) := by rw [hwb]; exact heap_alloc_new w2 _
  have HN := Lib.hid hn
  have HWB := Lib.hid hwb
  have hpb := hp2.later hb2b
  have HMK := Lib.hid (make_good GG.out A2 n c2 wb HN.out.symm hc2 hx2 hpb)
  have HB2 := Lib.hid hb2
  have HB2B := Lib.hid hb2b
  have HGB := Lib.hid hgb
  have HPB := Lib.hid hp2
  clear hp2 hpb hn hwb hb2 hb2b hgb hc2 hx2
  gi_wp2_with (first
    | (refine ⟨trivial, ?_⟩; rw [← HWB.out]; gi_at_call 9; refine (callsIn_wide.2 HMK.out).mono ?_)
    | (rw [← HWB.out]; gi_at_call 9; refine (callsIn_wide.2 HMK.out).mono ?_))
  first | rintro e w4 B1 rfl hl4 hb4 | rintro e w4 ⟨B1, rfl, hl4, hb4⟩
  have HL4 := Lib.hid hl4
  have HB4 := Lib.hid hb4
  clear hl4 hb4 HMK
  gi_wp2_with (first
    | (refine ⟨trivial, ?_⟩; gi_at_call 19; refine (callsIn_wide.2 (cur_All _ _)).mono ?_)
    | (gi_at_call 19; refine (callsIn_wide.2 (cur_All _ _)).mono ?_))
  first | rintro e w5 rfl e5 hb5 hz5 | rintro e w5 ⟨rfl, e5, hb5, hz5⟩
  obtain ⟨w6, hw6⟩ : ∃ w6, w6 = w5.alloc (.cells #[.int .i64 0] 3) := ⟨_, rfl⟩
  have hk6 : w6.heap[w5.heap.size]? = some (.cells #[.int .i64 0] 3 (0, 0)) := by rw [hw6]; exact heap_alloc_new w5 _
  have hb46 : Below w4.heap.size w4 w6 := by rw [hw6]; exact hb5.alloc (by have := hb5.size; omega) _
  obtain ⟨Bk, hBk⟩ : ∃ Bk, Bk = w5.heap.size := ⟨_, rfl⟩
  rw [← hBk] at hk6
  have hz6 : w6.heap.size = Bk + 1 := by rw [hw6, hBk]; simp
  have hsz : w4.heap.size < Bk ∧ w2.heap.size < w4.heap.size ∧ w.heap.size + 2 ≤ w2.heap.size := by
    have h1 := HB4.out.size
    have h2 := HB2.out.size
    have h3 := HZA.out
    have h4 : wb.heap.size = w2.heap.size + 1 := by rw [HWB.out]; simp
    omega
  have e6 : w6.heap[w4.heap.size]? = some (.cells #[.pointer (some ⟨B1, 0, none⟩)] 25 (0, 0)) := by rw [hw6]; exact (Below.heap_alloc _ _ _ (by omega)).trans e5
  have hwb4 : Below wb.heap.size wb w4 := HB4.out
  have hb26 : Below w2.heap.size w2 w6 := HB2B.out.trans ((HB4.out.mono HB2B.out.size).trans (hb46.mono (by omega)))
  have hba6 : Below wa.heap.size wa w6 := HB2.out.trans (hb26.mono HB2.out.size)
  have hg6 : w6.heap[w2.heap.size]? = some (.cells #[.slice A2 n c2] 22 (0, 0)) := ((HB4.out.trans (hb46.mono HB4.out.size)).block _ (lt_of_block HGB.out)).trans HGB.out
  have hm6 := (hba6.block _ (lt_of_block HMA.out)).trans HMA.out
  have hr6 := (hba6.block _ (lt_of_block HRA.out)).trans HRA.out
  have hp6 := HPB.out.below hb26
  have hbw6 := HB0.out.trans (hba6.mono HB0.out.size)
  have HT := Lib.hid (all_told 5 w4.heap.size B1 _ g w6 (by omega) GG.out.g (HL4.out.below hb46) e6)
  have HK6 := Lib.hid hk6
  have HG6 := Lib.hid hg6
  have HM6 := Lib.hid hm6
  have HR6 := Lib.hid hr6
  have HP6 := Lib.hid hp6
  have HBW6 := Lib.hid hbw6
  have HZ6 := Lib.hid hz6
  have HSZ := Lib.hid hsz
  have HW6 := Lib.hid hw6
  have HBK := Lib.hid hBk
  have hnl : n ≤ 40 := by rw [HN.out]; exact GG.out.len
  clear e5 hb5 hz5 hw6 hk6 hg6 hm6 hr6 hp6 hbw6 hz6 hsz e6 hwb4 hb26 hba6 hb46 hBk
  gi_wp2
  rw [← HW6.out, ← HBK.out]
  refine wpIn_range_tells (by omega) (gf := 35) (lb := #[.pointer (some ⟨w4.heap.size, 0, none⟩)]) rfl (enters_of Try.func35 (by kernel_rfl) rfl)
    HT.out (fun hb => OnlyIn.of_below hb) (fun {A B k o} hk hmv ho hnc => (hmv.block k (Array.getElem?_eq_some_iff.1 ho).1 (fun ⟨_, cs, fr, h⟩ => by rw [ho] at h; injection h with h; subst h; cases hnc)).trans ho)
    KpC.trans (fun W lp o o' hlp ho hc => KpC.putObj ho hc) (fun _ => rfl)
    (AllIn w6 Bk) (fun c pre W => c = .exit 0 ∧ (pre.length : Int) = most ∧ AllIn w6 Bk pre W)
    (fun s A' B' h hmv => ⟨(hmv.block Bk (lt_of_block h.1) (fun ⟨hge, _⟩ => by have := HZ6.out; omega)).trans h.1, h.2.trans (hmv.below (fun k ⟨hge, _⟩ => by have := HZ6.out; omega) (by have := lt_of_block h.1; omega))⟩)
    (fun s => (Firm.block (by have := HZ6.out; omega) _).and (Firm.belowW (by have := HZ6.out; omega)))
    (fun c s => Firm.pure.and (Firm.pure.and ((Firm.block (by have := HZ6.out; omega) _).and (Firm.belowW (by have := HZ6.out; omega)))))
    (fun s x => Firm.okAll _ _ _ _) ⟨HK6.out, Below.refl _ _⟩
    (fun v => { tmps := #[.slice a0 len0 cap0, .int .i64 most, undef, .pointer (some ⟨w.heap.size, 0, none⟩), .pointer (some ⟨w.heap.size + 1, 0, none⟩), .pointer (some ⟨w2.heap.size, 0, none⟩), .pointer (some ⟨B1, 0, none⟩), .int .i64 0, .func (.func 35) #[] #[.pointer (some ⟨w4.heap.size, 0, none⟩)], .pointer (some ⟨Bk, 0, none⟩), .int .i64 v.1, v.2, .slice a0 len0 cap0, .slice A2 n c2, .tuple #[.pointer (some ⟨B1, 0, none⟩), .int .i64 0], .slice A2 n c2, .tuple #[.pointer (some ⟨B1, 0, none⟩), .int .i64 0], .pointer (some ⟨B1, 0, none⟩), .int .i64 0, .pointer (some ⟨B1, 0, none⟩), .func (.func 35) #[] #[.pointer (some ⟨w4.heap.size, 0, none⟩)], .func (.func 35) #[] #[.pointer (some ⟨w4.heap.size, 0, none⟩)], .bool false, .func (.func 35) #[] #[.pointer (some ⟨w4.heap.size, 0, none⟩)], .int .i64 v.1, v.2, undef, undef, undef, undef, undef, undef, undef, undef, undef, undef, undef, undef, undef, undef, undef, undef, undef, undef, undef, undef, undef, undef, undef, undef, undef, undef, undef, undef, undef, undef, undef, undef, undef, undef, undef, undef, undef, undef, undef, undef], defers := [] }) ?assign ?body ?done ?stop
  case assign =>
    intro lp x W K' hK'
    gi_wp2
    exact hK'
  case body =>
    rintro lp pre ⟨x, y⟩ W ⟨hbk, hbw⟩ ⟨hlt, hx, A6, c6, hy, hr6⟩
    simp only at hx hy ⊢
    obtain ⟨k, hk⟩ : ∃ k, k = pre.length := ⟨_, rfl⟩
    rw [← hk] at hlt hx hy hr6 hbk
    rw [docC_at hlt] at hx
    rw [placesC_at hlt] at hy hr6
    have hsz := HSZ.out
    have hp := HP6.out.below (hbw.mono (by omega))
    obtain ⟨b, off, hA2, hb, hd, A', c', hcs, hc'1, hc'2, hr'⟩ := hp.at_ hlt
    have hpl5 : (g.getD k (0, [])).2.length ≤ 5 := GG.out.places _ (by rw [List.getD_eq_getElem?_getD, List.getElem?_eq_getElem hlt]; exact List.getElem_mem hlt)
    obtain ⟨ps, hps⟩ : ∃ ps, ps = (g.getD k (0, [])).2 := ⟨_, rfl⟩
    rw [← hps] at hy hr6 hcs hr' hpl5
    rw [← hx] at hd
    subst hA2 hy
    have ck := cell_of_one hbk
    have fk := free_of_one hbk
    have hgW := (hbw.block w2.heap.size (by omega)).trans HG6.out
    have hmW := (hbw.block w.heap.size (by omega)).trans HM6.out
    have cg := cell_of_one hgW
    have cm := cell_of_one hmW
    have hszW : w2.heap.size ≤ W.heap.size := by have := lt_of_block hbk; omega
    have HSM := Lib.hid (ref_Same_at A6 A' ps.length ps.length c6 c' ps W rfl rfl hr6 (hr'.more hszW) (by omega))
    obtain ⟨m, hm⟩ : ∃ m, m = ps.length := ⟨_, rfl⟩
    rw [← hm] at hcs HSM
    rw [← hm]
    have hge : decide ((n : Int) ≤ (k : Int)) = false := decide_eq_false (by have := HN.out; omega)
    have hkn : (k : Int) < (n : Int) := by have := HN.out; omega
    have HB := Lib.hid hbk
    have HBW := Lib.hid hbw
    have HKK := Lib.hid hk
    clear hp hr' hr6 hpl5 hps hm hgW hmW hbk hbw hk hlt hx hszW hc'1 hc'2
    gi_wp2_with (first
      | (refine ⟨trivial, ?_⟩; gi_at_call 20; refine (CallsIn.inRound lp (callsIn_wide.2 HSM.out)).mono ?_)
      | (gi_at_call 20; refine (CallsIn.inRound lp (callsIn_wide.2 HSM.out)).mono ?_))
    first | rintro e W2 rfl hb2 | rintro e W2 ⟨rfl, hb2⟩
    have hbk2 := (hb2.block Bk (lt_of_block HB.out)).trans HB.out
    have hbw2 := HBW.out.trans (hb2.mono (by have := lt_of_block HB.out; omega))
    have hmW2 := (hbw2.block w.heap.size (by omega)).trans HM6.out
    have ck2 := cell_of_one hbk2
    have fk2 := free_of_one hbk2
    have hne : w.heap.size ≠ Bk := by omega
    have cm3 : ∀ u, (W2.setCell ⟨Bk, 0, none⟩ u).cell? ⟨w.heap.size, 0, none⟩ = some (.int .i64 most) := fun u => cell_of_one ((Below.heap_setCell _ _ _ _ hne).trans hmW2)
    obtain ⟨W3, hW3⟩ : ∃ W3, W3 = W2.setCell ⟨Bk, 0, none⟩ (.int .i64 ((k : Int) + 1)) := ⟨_, rfl⟩
    have hko : KeepsOthers W W3 := by
      rw [hW3]
      exact KeepsOthers.trans ⟨hb2.size, fun q o hq _ => (hb2.block q (Array.getElem?_eq_some_iff.1 hq).1).trans hq⟩ (KeepsOthers.setCell _ _ _)
    have hin : ∀ v : Int × Value, AllIn w6 Bk (pre ++ [v]) W3 := fun v => by
      refine ⟨?_, ?_⟩
      · rw [List.length_append, List.length_singleton, ← HKK.out, hW3]
        simpa using one_setCell hbk2
      · rw [hW3]
        exact hbw2.setCell (Nat.le_refl _) _
    have hkp : KpC w6.heap.size W W3 := by
      refine KpC.trans (KpC.of_below hb2) ?_
      rw [hW3]
      have hs : Below Bk W2 (W2.setCell ⟨Bk, 0, none⟩ (.int .i64 ((k : Int) + 1))) := (Below.refl Bk W2).setCell (Nat.le_refl _) _
      refine ⟨hs.os, hs.tape, hs.output, hs.size, fun q _ hn => Below.heap_setCell _ _ _ _ (fun e => hn ?_)⟩
      subst e
      refine ⟨_, hbk2, .inr ⟨by have := HZ6.out; omega, fun cs t fr e => ?_⟩⟩
      injection e with _ e _
      rw [← e]
      rintro (h | h | h | ⟨_, h, _⟩)
      · exact absurd h (by decide)
      · exact absurd h (by decide)
      · exact absurd h (by decide)
      · have := HZ6.out; omega
    have hlen : ∀ v : Int × Value, ((pre ++ [v]).length : Int) = (k : Int) + 1 := fun v => by rw [List.length_append, List.length_singleton, ← HKK.out]; rfl
    have HF := Lib.hid (And.intro hko (And.intro hkp hin))
    have HLEN := Lib.hid hlen
    have HW3 := Lib.hid hW3
    clear hko hkp hin hlen hW3 hbk2 hbw2 hmW2 hb2 ck fk cm cg hge
    by_cases hkm : (k : Int) + 1 = most
    · have hkm' : ((k : Int) + 1 == most) = true := by rw [hkm]; exact beq_self_eq_true _
      have HLM : Hid (∀ v : Int × Value, ((pre ++ [v]).length : Int) = most) := Lib.hid fun v => by rw [HLEN.out]; exact hkm
      have HKM := Lib.hid hkm
      gi_wp2
      have h3 := HW3.out
      rw [HKM.out] at h3
      rw [← h3]
      exact ⟨HF.out.1, rfl, HLM.out _, HF.out.2.2 _⟩
    · have hkm' : ((k : Int) + 1 == most) = false := by rw [beq_eq_false_iff_ne]; exact hkm
      gi_wp2
      rw [← HW3.out]
      exact ⟨HF.out.1, HF.out.2.1, HF.out.2.2 _⟩
  case done =>
    rintro D' ys W hD hys ⟨hbk, hbw⟩ hK'
    rw [hys, ← HN.out] at hbk
    have hsz := HSZ.out
    have ck := cell_of_one hbk
    have hgW := (hbw.block w2.heap.size (by omega)).trans HG6.out
    have hmW := (hbw.block w.heap.size (by omega)).trans HM6.out
    have hrW := (hbw.block (w.heap.size + 1) (by omega)).trans HR6.out
    have cg := cell_of_one hgW
    have cm := cell_of_one hmW
    have hDW := (Array.getElem?_eq_some_iff.1 hK').1
    have HBW := Lib.hid (HBW6.out.trans (hbw.mono (by omega)))
    have HRW := Lib.hid hrW
    have HKD := Lib.hid hK'
    have hnn : ((n : Int) == (n : Int)) = true := beq_self_eq_true _
    clear hbk hbw hys hgW hmW hrW hK'
    gi_wp2_with (first
      | (refine ⟨trivial, ?_⟩; gi_at_call 18; refine (callsIn_wide.2 (LV.out _)).mono ?_)
      | (gi_at_call 18; refine (callsIn_wide.2 (LV.out _)).mono ?_))
    first | rintro e w9 rfl hb9 | rintro e w9 ⟨rfl, hb9⟩
    have hr9 := (hb9.block _ (lt_of_block HRW.out)).trans HRW.out
    have hK9 := (hb9.block D' hDW).trans HKD.out
    have hB9 := HBW.out.trans (hb9.mono HBW.out.size)
    have cr := cell_of_one hr9
    have fr := free_of_one hr9
    have HK9 := Lib.hid hK9
    have HR9 := Lib.hid hr9
    have HB9 := Lib.hid hB9
    clear hK9 hr9 hb9 hB9
    gi_wp2
    have hz6 := HZ6.out
    have hDB : D' ≠ w.heap.size + 1 := by omega
    have hK10 : (w9.setCell ⟨w.heap.size + 1, 0, none⟩ (.bool true)).heap[D']? = some (.deferred (some [])) := by rw [Below.heap_setCell _ _ _ _ hDB]; exact HK9.out
    refine ⟨by simp, .inl ⟨_, _, rfl, run_takeDeferred hK10, ?_⟩⟩
    refine ⟨_, results_bool rfl _ _ (w.heap.size + 1) true rfl (cell_of_one ((World.putObj_heap_other (by omega)).trans (one_setCell HR9.out))), ?_⟩
    exact ⟨rfl, (HB9.out.setCell (show w.heap.size ≤ w.heap.size + 1 by omega) _).trans ((Below.refl _ _).grown (grownBy_putObj' _ D' _) (by have := (HB9.out.setCell (p := ⟨w.heap.size + 1, 0, none⟩) (show w.heap.size ≤ w.heap.size + 1 by omega) (.bool true)).size; omega) (fun q e => by cases e; omega))⟩
  case stop =>
    rintro D' code pre W hD _ ⟨rfl, hmost, ⟨hbk, hbw⟩⟩ hK'
    rw [hmost] at hbk
    have hsz := HSZ.out
    have ck := cell_of_one hbk
    have hgW := (hbw.block w2.heap.size (by omega)).trans HG6.out
    have hmW := (hbw.block w.heap.size (by omega)).trans HM6.out
    have hrW := (hbw.block (w.heap.size + 1) (by omega)).trans HR6.out
    have cg := cell_of_one hgW
    have cm := cell_of_one hmW
    have hDW := (Array.getElem?_eq_some_iff.1 hK').1
    have HBW := Lib.hid (HBW6.out.trans (hbw.mono (by omega)))
    have HRW := Lib.hid hrW
    have HKD := Lib.hid hK'
    clear hbk hbw hmost hgW hmW hrW hK'
    by_cases hmn : most = (n : Int)
    · have hnn : (most == (n : Int)) = true := by rw [hmn]; exact beq_self_eq_true _
      gi_wp2_with (first
        | (refine ⟨trivial, ?_⟩; gi_at_call 18; refine (callsIn_wide.2 (LV.out _)).mono ?_)
        | (gi_at_call 18; refine (callsIn_wide.2 (LV.out _)).mono ?_))
      first | rintro e w9 rfl hb9 | rintro e w9 ⟨rfl, hb9⟩
      have hr9 := (hb9.block _ (lt_of_block HRW.out)).trans HRW.out
      have hK9 := (hb9.block D' hDW).trans HKD.out
      have hB9 := HBW.out.trans (hb9.mono HBW.out.size)
      have cr := cell_of_one hr9
      have fr := free_of_one hr9
      have HK9 := Lib.hid hK9
      have HR9 := Lib.hid hr9
      have HB9 := Lib.hid hB9
      clear hK9 hr9 hb9 hB9
      gi_wp2
      have hz6 := HZ6.out
      have hDB : D' ≠ w.heap.size + 1 := by omega
      have hK10 : (w9.setCell ⟨w.heap.size + 1, 0, none⟩ (.bool true)).heap[D']? = some (.deferred (some [])) := by rw [Below.heap_setCell _ _ _ _ hDB]; exact HK9.out
      refine ⟨by simp, .inl ⟨_, _, rfl, run_takeDeferred hK10, ?_⟩⟩
      refine ⟨_, results_bool rfl _ _ (w.heap.size + 1) true rfl (cell_of_one ((World.putObj_heap_other (by omega)).trans (one_setCell HR9.out))), ?_⟩
      exact ⟨rfl, (HB9.out.setCell (show w.heap.size ≤ w.heap.size + 1 by omega) _).trans ((Below.refl _ _).grown (grownBy_putObj' _ D' _) (by have := (HB9.out.setCell (p := ⟨w.heap.size + 1, 0, none⟩) (show w.heap.size ≤ w.heap.size + 1 by omega) (.bool true)).size; omega) (fun q e => by cases e; omega))⟩
    · have hnn : (most == (n : Int)) = false := by rw [beq_eq_false_iff_ne]; exact hmn
      have hmm : (most == most) = true := beq_self_eq_true _
      gi_wp2_with (first
        | (refine ⟨trivial, ?_⟩; gi_at_call 18; refine (callsIn_wide.2 (LV.out _)).mono ?_)
        | (gi_at_call 18; refine (callsIn_wide.2 (LV.out _)).mono ?_))
      first | rintro e w9 rfl hb9 | rintro e w9 ⟨rfl, hb9⟩
      have hr9 := (hb9.block _ (lt_of_block HRW.out)).trans HRW.out
      have hK9 := (hb9.block D' hDW).trans HKD.out
      have hB9 := HBW.out.trans (hb9.mono HBW.out.size)
      have cr := cell_of_one hr9
      have fr := free_of_one hr9
      have HK9 := Lib.hid hK9
      have HR9 := Lib.hid hr9
      have HB9 := Lib.hid hB9
      clear hK9 hr9 hb9 hB9
      gi_wp2
      have hz6 := HZ6.out
      have hDB : D' ≠ w.heap.size + 1 := by omega
      have hK10 : (w9.setCell ⟨w.heap.size + 1, 0, none⟩ (.bool true)).heap[D']? = some (.deferred (some [])) := by rw [Below.heap_setCell _ _ _ _ hDB]; exact HK9.out
      refine ⟨by simp, .inl ⟨_, _, rfl, run_takeDeferred hK10, ?_⟩⟩
      refine ⟨_, results_bool rfl _ _ (w.heap.size + 1) true rfl (cell_of_one ((World.putObj_heap_other (by omega)).trans (one_setCell HR9.out))), ?_⟩
      exact ⟨rfl, (HB9.out.setCell (show w.heap.size ≤ w.heap.size + 1 by omega) _).trans ((Below.refl _ _).grown (grownBy_putObj' _ D' _) (by have := (HB9.out.setCell (p := ⟨w.heap.size + 1, 0, none⟩) (show w.heap.size ≤ w.heap.size + 1 by omega) (.bool true)).size; omega) (fun q e => by cases e; omega))⟩
end Go.Proofs.Ytnmnbckaccicaaa
