/- DictFrom, walked: true for every input. -/
import Derived.Test.YtebdnjfohahpgaaMade07
import Derived.Test.YtebdnjfohahpgaaGood07
import Derived.Test.YtebdnjfohahpgaaNames07
import Derived.Test.YtebdnjfohahpgaaArg07
import Derived.Test.YtebdnjfohahpgaaNat
set_option linter.unusedVariables false
namespace Go.Proofs.Ytebdnjfohahpgaa
open Go Go.RowKit
attribute [local go_sem] Oper.semAt_some

theorem results_bool07 {fn : Func} {p : Tmp} (h : fn.results = #[.cell p 4]) (tmps : Array Value) (w : World) (g : Nat) (b : Bool) (hp : tmps.getD p undef = .pointer (some ⟨g, 0, none⟩)) (hc : w.cell? ⟨g, 0, none⟩ = some (.bool b)) :
    (results fn tmps).run Try.prog w = .ok (.bool b) w := by
  have hp' : tmps[p]?.getD undef = .pointer (some ⟨g, 0, none⟩) := by simpa using hp
  simp [results, h, hp', asAddr, go_sem, hc]
/-- Between two rounds: how far the two counters have come. -/
def FromIn (w6 : World) (K m : Nat) (pre : List (Nm × Int)) (W : World) : Prop :=
  W.heap[K]? = some (.cells #[.int .i64 ((m + pre.length : Nat) : Int)] 3 (0, 0)) ∧ W.heap[K + 1]? = some (.cells #[.int .i64 ((pre.length : Nat) : Int)] 3 (0, 0)) ∧ Below K w6 W

set_option maxHeartbeats 8000000 in
set_option maxRecDepth 100000 in
theorem walk_DictFrom (a0 : Option Addr) (len0 cap0 : Nat) (z0 : List Nm) (a1 a2 : Int) (w : World) (h0 : InStrs w a0 len0 cap0 z0) (h1 : (Lit.int .i64 a1).wf = true) (h2 : (Lit.int .i64 a2).wf = true) :
    Calls Try.prog 5 #[.slice a0 len0 cap0, .int .i64 a1, .int .i64 a2] w fun e w' => e = .returned (.bool true) ∧ Below w.heap.size w w' := by
  refine (callsIn_wide (n := 6)).1 ?_
  have qf : ∀ (w : World) (D : Nat), (binOp .eql 47 (.func (.func 38) #[] #[.pointer (some ⟨D, 0, none⟩)]) .nilFunc).run Try.prog w = .ok (.bool false) w := fun w D => by kernel_rfl
  have LV := Lib.hid (fun W => law07_lives W)
  obtain ⟨hlc, hcm, hzl, hrow, hzm⟩ := h0
  have b1 := wf_bd h1
  have b2 := wf_bd h2
  obtain ⟨m, hm⟩ : ∃ m : Nat, m = a1.toNat := ⟨_, rfl⟩
  have hmx : ∀ (w : World) (ts : Array TypeId) (t : TypeId), (Builtin.max_ ts t #[.int .i64 a1, .int .i64 0]).run Try.prog w = .ok (.int .i64 (m : Int)) w := fun w ts t => by rw [run_max_int2, hm]; congr 2; split <;> omega
  obtain ⟨wa, hwa⟩ : ∃ wa, wa = (w.alloc (.cells #[.int .i64 a2] 3)).alloc (.cells #[.bool false] 4) := ⟨_, rfl⟩
  have hb0 : Below w.heap.size w wa := by rw [hwa]; exact ((Below.refl _ _).alloc (Nat.le_refl _) _).alloc (by simp) _
  have hza : wa.heap.size = w.heap.size + 2 := by rw [hwa]; simp
  have hma : wa.heap[w.heap.size]? = some (.cells #[.int .i64 a2] 3 (0, 0)) := by rw [hwa]; exact (Below.heap_alloc _ _ _ (by simp)).trans (heap_alloc_new w _)
  have hra : wa.heap[w.heap.size + 1]? = some (.cells #[.bool false] 4 (0, 0)) := by
    rw [hwa]
    have := heap_alloc_new (w.alloc (.cells #[.int .i64 a2] 3)) (.cells #[.bool false] 4)
    simpa using this
  have C1 := Lib.hid (ref_Good07 a0 len0 cap0 20 z0 wa (Row.later hrow hb0) hzl hzm (by omega) (by omega))
  have hgood := good_goodN z0 20
  obtain ⟨g, hg⟩ : ∃ g, g = goodN z0 20 := ⟨_, rfl⟩
  rw [← hg] at C1 hgood
  obtain ⟨hgd, hgl⟩ := hgood
  have HGD := Lib.hid hgd
  have HGR := Lib.hid (risesN_iff.2 hgd.rise)
  obtain ⟨n, hn⟩ : ∃ n, n = g.length := ⟨_, rfl⟩
  have HN := Lib.hid hn
  have hn20 : n ≤ 20 := by omega
  have HWA := Lib.hid hwa
  have HZA := Lib.hid hza
  have HMA := Lib.hid hma
  have HRA := Lib.hid hra
  have HB0 := Lib.hid hb0
  have HMM := Lib.hid hm
  clear hrow hzm hg hgd hgl hn hzl hlc hcm h1 h2 hwa hza hma hra hb0 hm
  refine callsIn_of_wp_marks Try.func5 rfl trivial ?_ rfl
  simp only [Try.ntmps5, List.size_toArray, List.length_cons, List.length_nil, Nat.reduceAdd, Nat.reduceSub, Array.replicate_succ, Array.replicate_zero, List.push_toArray, List.append_toArray, List.nil_append, List.cons_append]
  gi_wp2_with (first
    | (refine ⟨trivial, ?_⟩; rw [← HWA.out]; gi_at_call 12; refine (callsIn_wide.2 C1.out).mono ?_)
    | (rw [← HWA.out]; gi_at_call 12; refine (callsIn_wide.2 C1.out).mono ?_))
  rintro e w2 ⟨v2, rfl, ho2, hb2⟩
  obtain ⟨A2, c2, rfl, hnc, hcm, hr2⟩ := ho2.room
  rw [← HN.out]
  obtain ⟨wb, hwb⟩ : ∃ wb, wb = w2.alloc (.cells #[.slice A2 n c2] 22) := ⟨_, rfl⟩
  have hb2b : Below w2.heap.size w2 wb := by rw [hwb]; exact (Below.refl _ _).alloc (Nat.le_refl _) _
  have hgb : wb.heap[w2.heap.size]? = some (.cells #[.slice A2 n c2] 22 (0, 0)) := by rw [hwb]; exact heap_alloc_new w2 _
  have CM := Lib.hid (law07_made A2 n c2 g wb (Row.later hr2 hb2b) HN.out.symm (by omega) HGR.out)
  have HWB := Lib.hid hwb
  have HB2 := Lib.hid hb2
  have HB2B := Lib.hid hb2b
  have HGB := Lib.hid hgb
  have HR2 := Lib.hid hr2
  clear ho2 hb2 hr2 hnc hcm hwb hb2b hgb C1
  gi_wp2_with (first
    | (refine ⟨trivial, ?_⟩; rw [← HWB.out]; gi_at_call 13; refine (callsIn_wide.2 CM.out).mono ?_)
    | (rw [← HWB.out]; gi_at_call 13; refine (callsIn_wide.2 CM.out).mono ?_))
  rintro e w3 ⟨B, rfl, hd, hb3⟩
  rw [← HN.out] at hd
  have CF := Lib.hid (dict_From _ B a1 g _ w3 w3 hd (Below.refl _ _) (by rw [← HN.out]; omega) b1.2)
  have HB3 := Lib.hid hb3
  clear hd hb3 CM
  gi_wp2_with (first
    | (refine ⟨trivial, ?_⟩; gi_at_call 24; refine (callsIn_wide.2 CF.out).mono ?_)
    | (gi_at_call 24; refine (callsIn_wide.2 CF.out).mono ?_))
  rintro e w4 ⟨D, rfl, hD, hrest, hb4, hz4⟩
  rw [← HMM.out] at hrest
  obtain ⟨w5, hw5⟩ : ∃ w5, w5 = w4.alloc (.cells #[.int .i64 (m : Int)] 3) := ⟨_, rfl⟩
  obtain ⟨w6, hw6⟩ : ∃ w6, w6 = w5.alloc (.cells #[.int .i64 0] 3) := ⟨_, rfl⟩
  obtain ⟨K, hK⟩ : ∃ K, K = w4.heap.size := ⟨_, rfl⟩
  have hz5 : w5.heap.size = K + 1 := by rw [hw5, hK]; simp
  have hz6 : w6.heap.size = K + 2 := by rw [hw6]; simp [hz5]
  have hb45 : Below w4.heap.size w4 w5 := by rw [hw5]; exact (Below.refl _ _).alloc (Nat.le_refl _) _
  have hb56 : Below w5.heap.size w5 w6 := by rw [hw6]; exact (Below.refl _ _).alloc (Nat.le_refl _) _
  have hb46 : Below w4.heap.size w4 w6 := hb45.trans (hb56.mono (by omega))
  have hk6 : w6.heap[K]? = some (.cells #[.int .i64 (m : Int)] 3 (0, 0)) := (hb56.block K (by omega)).trans (by rw [hw5, hK]; exact heap_alloc_new w4 _)
  have hn6 : w6.heap[K + 1]? = some (.cells #[.int .i64 0] 3 (0, 0)) := by rw [← hz5, hw6]; exact heap_alloc_new w5 _
  have hrest6 : RestAt w3.heap.size D (g.drop m) ((thingsN n).drop m) w6 := by
    obtain ⟨h1, A, c, h2, h3, h5, h6⟩ := hrest
    exact ⟨h1, A, c, (hb46.block D (lt_of_block h2)).trans h2, h3, h5, h6.below (hb46.mono hb4.size)⟩
  have hsz : w2.heap.size < K ∧ w.heap.size + 2 ≤ w2.heap.size ∧ w3.heap.size ≤ K := by
    have e1 := HB2.out.size
    have e2 := HZA.out
    have e3 := HB3.out.size
    have e4 := hb4.size
    have e5 := lt_of_block HGB.out
    omega
  have hgl2 : (g.drop m).length ≤ 1048576 := by rw [List.length_drop, ← HN.out]; omega
  have HT := Lib.hid (from_told 5 w3.heap.size D (g.drop m) ((thingsN n).drop m) w6 (by omega) (by omega) hrest6 hgl2)
  have hba2 : Below wa.heap.size wa w6 := HB2.out.trans ((HB2B.out.trans ((HB3.out.mono HB2B.out.size).trans ((hb4.trans (hb46.mono hb4.size)).mono (by have := HB3.out.size; have := HB2B.out.size; omega)))).mono HB2.out.size)
  have hm6 := (hba2.block _ (lt_of_block HMA.out)).trans HMA.out
  have hr6 := (hba2.block _ (lt_of_block HRA.out)).trans HRA.out
  have hbb6 : Below wb.heap.size wb w6 := HB3.out.trans ((hb4.trans (hb46.mono hb4.size)).mono HB3.out.size)
  have hg6 := (hbb6.block _ (lt_of_block HGB.out)).trans HGB.out
  have hrow6 : Row w6 w2.heap.size A2 (strs g) := (HR2.out.below HB2B.out).below (hbb6.mono HB2B.out.size)
  have hbw6 := HB0.out.trans (hba2.mono HB0.out.size)
  have HK6 := Lib.hid hk6
  have HN6 := Lib.hid hn6
  have HM6 := Lib.hid hm6
  have HR6 := Lib.hid hr6
  have HG6 := Lib.hid hg6
  have HROW := Lib.hid hrow6
  have HBW6 := Lib.hid hbw6
  have HSZ := Lib.hid hsz
  have HZ6 := Lib.hid hz6
  have HW5 := Lib.hid hw5
  have HW6 := Lib.hid hw6
  have HKE := Lib.hid hK
  have HZ5 := Lib.hid hz5
  clear hb45 hb56 hb46 hk6 hn6 hrest6 hsz hgl2 hba2 hm6 hr6 hbb6 hg6 hrow6 hbw6 hz5 hz6 hw5 hw6 hK hrest hb4 hz4 hD CF
  gi_wp2
  rw [← HW5.out, ← HKE.out, ← HW6.out]
  refine wpIn_range_tells (by omega) (gf := 38) (lb := #[.pointer (some ⟨D, 0, none⟩)]) rfl (enters_of Try.func38 (by kernel_rfl) rfl)
    HT.out (fun hb => hb) (fun {A B k o} hk hmv ho hnc => (hmv.block k (Array.getElem?_eq_some_iff.1 ho).1).trans ho)
    (fun h k => h.trans k) (fun W lp o o' hlp ho hc => Firm.belowW (N := w6.heap.size) (w0 := W) (by have := HSZ.out; have := HZ6.out; omega) W lp o o' hlp ho hc (Below.refl _ _)) (fun _ => rfl)
    (FromIn w6 K m) (fun c pre W => c = .exit 0 ∧ ((pre.length : Nat) : Int) = a2 ∧ FromIn w6 K m pre W)
    (fun s A' B' h hmv => ⟨(hmv.block K (lt_of_block h.1)).trans h.1, (hmv.block (K + 1) (lt_of_block h.2.1)).trans h.2.1, h.2.2.trans (hmv.mono (by have := lt_of_block h.1; omega))⟩)
    (fun s => (Firm.block (by have := HZ6.out; omega) _).and ((Firm.block (by have := HZ6.out; omega) _).and (Firm.belowW (by have := HZ6.out; omega))))
    (fun c s => Firm.pure.and (Firm.pure.and ((Firm.block (by have := HZ6.out; omega) _).and ((Firm.block (by have := HZ6.out; omega) _).and (Firm.belowW (by have := HZ6.out; omega))))))
    (fun s x => Firm.okE _ _ _ _ _) ⟨by simpa using HK6.out, by simpa using HN6.out, Below.refl _ _⟩
    (fun x => { tmps := #[.slice a0 len0 cap0, .int .i64 a1, .int .i64 a2, undef, undef, .pointer (some ⟨w.heap.size, 0, none⟩), .pointer (some ⟨w.heap.size + 1, 0, none⟩), .pointer (some ⟨w2.heap.size, 0, none⟩), .pointer (some ⟨B, 0, none⟩), .func (.func 38) #[] #[.pointer (some ⟨D, 0, none⟩)], .pointer (some ⟨K, 0, none⟩), .pointer (some ⟨K + 1, 0, none⟩), .string ⟨x.1.toArray⟩, .int .i64 x.2, .slice a0 len0 cap0, .slice A2 n c2, .slice A2 n c2, .pointer (some ⟨B, 0, none⟩), .pointer (some ⟨B, 0, none⟩), .bool false, .pointer (some ⟨B, 0, none⟩), .int .i64 a1, .func (.func 38) #[] #[.pointer (some ⟨D, 0, none⟩)], .func (.func 38) #[] #[.pointer (some ⟨D, 0, none⟩)], .bool false, .int .i64 a1, .int .i64 (m : Int), .func (.func 38) #[] #[.pointer (some ⟨D, 0, none⟩)], .string ⟨x.1.toArray⟩, .int .i64 x.2, undef, undef, undef, undef, undef, undef, undef, undef, undef, undef, undef, undef, undef, undef, undef, undef, undef, undef, undef, undef, undef, undef, undef, undef, undef, undef, undef, undef, undef, undef, undef, undef, undef, undef, undef, undef, undef], defers := [] }) ?assign ?body ?done ?stop
  case assign =>
    intro lp x W K' hK'
    unfold encE
    gi_wp2
    exact hK'
  case body =>
    rintro lp pre ⟨x, y⟩ W ⟨hk, hnn, hbw⟩ ⟨hlt, hx, hy⟩
    simp only at hx hy ⊢
    obtain ⟨j, hj⟩ : ∃ j, j = pre.length := ⟨_, rfl⟩
    obtain ⟨kk, hkk⟩ : ∃ kk : Nat, kk = m + j := ⟨_, rfl⟩
    have hltl : j < (g.drop m).length := by rw [hj]; exact hlt
    have hkn : kk < n := by rw [List.length_drop, ← HN.out] at hltl; omega
    have hkg : kk < g.length := by rw [← HN.out]; exact hkn
    have hx2 : x = g[kk] := by
      rw [hx, List.getElem_drop]
      simp only [← hj, ← hkk]
    have hy2 : y = (kk : Int) + 10 := by
      rw [hy, ← hj, List.getD_eq_getElem?_getD, List.getElem?_drop, ← hkk, ← List.getD_eq_getElem?_getD]
      exact thingsN_at hkn
    rw [← hj, ← hkk] at hk
    rw [← hj] at hnn
    have hsz := HSZ.out
    have hgW := (hbw.block w2.heap.size (by omega)).trans HG6.out
    have hmW := (hbw.block w.heap.size (by omega)).trans HM6.out
    obtain ⟨b1, o1, rfl, hb1, hc1⟩ := row_nm (HROW.out.below (hbw.mono (by omega))) hkg
    obtain ⟨X, hX⟩ : ∃ t : ByteArray, t = ⟨x.toArray⟩ := ⟨_, rfl⟩
    rw [← hx2, ← hX] at hc1
    rw [← hX]
    subst hy2
    have ck := cell_of_one hk
    have fk := free_of_one hk
    have cg := cell_of_one hgW
    have hneK : K + 1 ≠ K := by omega
    have hn1 : (W.setCell ⟨K, 0, none⟩ (.int .i64 ((kk : Int) + 1))).heap[K + 1]? = some (.cells #[.int .i64 ((j : Nat) : Int)] 3 (0, 0)) := (Below.heap_setCell _ _ _ _ hneK).trans hnn
    have cn1 := cell_of_one hn1
    have fn1 := free_of_one hn1
    have hk1 : (W.setCell ⟨K, 0, none⟩ (.int .i64 ((kk : Int) + 1))).heap[K]? = some (.cells #[.int .i64 ((kk : Int) + 1)] 3 (0, 0)) := by simpa using one_setCell hk
    obtain ⟨W3, hW3⟩ : ∃ W3, W3 = (W.setCell ⟨K, 0, none⟩ (.int .i64 ((kk : Int) + 1))).setCell ⟨K + 1, 0, none⟩ (.int .i64 ((j : Int) + 1)) := ⟨_, rfl⟩
    have hn3 : W3.heap[K + 1]? = some (.cells #[.int .i64 ((j : Int) + 1)] 3 (0, 0)) := by rw [hW3]; simpa using one_setCell hn1
    have hk3 : W3.heap[K]? = some (.cells #[.int .i64 ((kk : Int) + 1)] 3 (0, 0)) := by rw [hW3]; exact (Below.heap_setCell _ _ _ _ hneK.symm).trans hk1
    have hbW3 : Below K W W3 := by rw [hW3]; exact ((Below.refl K W).setCell (Nat.le_refl _) _).setCell (by show K ≤ K + 1; omega) _
    have hm3 := (hbW3.block w.heap.size (by omega)).trans hmW
    have cn3 := cell_of_one hn3
    have cm3 := cell_of_one hm3
    rw [hW3] at cn3 cm3
    have hko : KeepsOthers W W3 := by rw [hW3]; exact (KeepsOthers.setCell _ _ _).trans (KeepsOthers.setCell _ _ _)
    have hkp : Below w3.heap.size W W3 := hbW3.mono (by omega)
    have hin : ∀ v : Nm × Int, FromIn w6 K m (pre ++ [v]) W3 := fun v => by
      refine ⟨?_, ?_, hbw.trans hbW3⟩
      · rw [List.length_append, List.length_singleton, ← hj, hk3, show m + (j + 1) = kk + 1 by omega]; rfl
      · rw [List.length_append, List.length_singleton, ← hj, hn3]; rfl
    have hlen : ∀ v : Nm × Int, (((pre ++ [v]).length : Nat) : Int) = (j : Int) + 1 := fun v => by rw [List.length_append, List.length_singleton, ← hj]; rfl
    have HF := Lib.hid (And.intro hko (And.intro hkp hin))
    have HLEN := Lib.hid hlen
    have HW3 := Lib.hid hW3
    have d1 : decide ((n : Int) ≤ (kk : Int)) = false := decide_eq_false (by omega)
    have d1' : decide (n ≤ kk) = false := decide_eq_false (by omega)
    have k1 : (0 : Int) ≤ (kk : Int) := by omega
    have k2 : (kk : Int) < (n : Int) := by omega
    have k3 : (kk : Int) ≤ 20 := by omega
    have k4 : (j : Int) ≤ 20 := by omega
    have k5 : (0 : Int) ≤ (j : Int) := by omega
    clear hk hnn hbw hlt hx hy hj hkk hltl hkg hx2 hX hgW hmW hn1 hk1 hW3 hn3 hk3 hbW3 hm3 hko hkp hin hlen
    by_cases hkm : (j : Int) + 1 = a2
    · have hkm' : ((j : Int) + 1 == a2) = true := by rw [hkm]; exact beq_self_eq_true _
      have HLM : Hid (∀ v : Nm × Int, (((pre ++ [v]).length : Nat) : Int) = a2) := Lib.hid fun v => by rw [HLEN.out]; exact hkm
      have HKM := Lib.hid hkm
      clear hkm
      gi_wp2
      rw [← HW3.out]
      exact ⟨HF.out.1, rfl, HLM.out _, HF.out.2.2 _⟩
    · have hkm' : ((j : Int) + 1 == a2) = false := by rw [beq_eq_false_iff_ne]; exact hkm
      clear hkm
      gi_wp2
      rw [← HW3.out]
      exact ⟨HF.out.1, HF.out.2.1, HF.out.2.2 _⟩
  case done =>
    rintro D' ys W hD2 hys ⟨hk, hnn, hbw⟩ hK'
    obtain ⟨kk, hkk⟩ : ∃ kk : Nat, kk = m + ys.length := ⟨_, rfl⟩
    obtain ⟨j, hj⟩ : ∃ j, j = ys.length := ⟨_, rfl⟩
    rw [← hkk] at hk
    rw [← hj] at hnn
    have hkn : n ≤ kk := by rw [hkk, hys, List.length_drop, ← HN.out]; omega
    have hsz := HSZ.out
    have ck := cell_of_one hk
    have cn := cell_of_one hnn
    have hgW := (hbw.block w2.heap.size (by omega)).trans HG6.out
    have hmW := (hbw.block w.heap.size (by omega)).trans HM6.out
    have hrW := (hbw.block (w.heap.size + 1) (by omega)).trans HR6.out
    have cg := cell_of_one hgW
    have cm := cell_of_one hmW
    have hDW := (Array.getElem?_eq_some_iff.1 hK').1
    have HBW := Lib.hid (HBW6.out.trans (hbw.mono (by omega)))
    have HRW := Lib.hid hrW
    have HKD := Lib.hid hK'
    have d1 : decide ((n : Int) ≤ (kk : Int)) = true := decide_eq_true (by omega)
    have d1' : decide (n ≤ kk) = true := decide_eq_true hkn
    clear hk hnn hbw hys hkk hj hgW hmW hrW hK' hkn
    gi_wp2_with (first
      | (refine ⟨trivial, ?_⟩; gi_at_call 18; refine (callsIn_wide.2 (LV.out _)).mono ?_)
      | (gi_at_call 18; refine (callsIn_wide.2 (LV.out _)).mono ?_))
    rintro e w9 ⟨rfl, hb9⟩
    have hr9 := (hb9.block _ (lt_of_block HRW.out)).trans HRW.out
    have hK9 := (hb9.block D' hDW).trans HKD.out
    have hB9 := HBW.out.trans (hb9.mono HBW.out.size)
    have cr := cell_of_one hr9
    have fr := free_of_one hr9
    have HK9 := Lib.hid hK9
    have HR9 := Lib.hid hr9
    have HB9 := Lib.hid hB9
    clear hK9 hr9 hb9 hB9
    gi_wp2
    have hz6 := HZ6.out
    have hDB : D' ≠ w.heap.size + 1 := by omega
    have hK10 : (w9.setCell ⟨w.heap.size + 1, 0, none⟩ (.bool true)).heap[D']? = some (.deferred (some [])) := by rw [Below.heap_setCell _ _ _ _ hDB]; exact HK9.out
    refine ⟨by simp, .inl ⟨_, _, rfl, run_takeDeferred hK10, ?_⟩⟩
    refine ⟨_, results_bool07 rfl _ _ (w.heap.size + 1) true rfl (cell_of_one ((World.putObj_heap_other (by omega)).trans (by simpa using one_setCell HR9.out))), ?_⟩
    exact ⟨rfl, (HB9.out.setCell (show w.heap.size ≤ w.heap.size + 1 by omega) _).trans ((Below.refl _ _).grown (grownBy_putObj' _ D' _) (by have := (HB9.out.setCell (p := ⟨w.heap.size + 1, 0, none⟩) (show w.heap.size ≤ w.heap.size + 1 by omega) (.bool true)).size; omega) (fun q e => by cases e; omega))⟩
  case stop =>
    rintro D' code pre W hD2 _ ⟨rfl, hmost, ⟨hk, hnn, hbw⟩⟩ hK'
    rw [hmost] at hnn
    obtain ⟨kk, hkk⟩ : ∃ kk : Nat, kk = m + pre.length := ⟨_, rfl⟩
    rw [← hkk] at hk
    have hsz := HSZ.out
    have ck := cell_of_one hk
    have cn := cell_of_one hnn
    have hgW := (hbw.block w2.heap.size (by omega)).trans HG6.out
    have hmW := (hbw.block w.heap.size (by omega)).trans HM6.out
    have hrW := (hbw.block (w.heap.size + 1) (by omega)).trans HR6.out
    have cg := cell_of_one hgW
    have cm := cell_of_one hmW
    have hDW := (Array.getElem?_eq_some_iff.1 hK').1
    have HBW := Lib.hid (HBW6.out.trans (hbw.mono (by omega)))
    have HRW := Lib.hid hrW
    have HKD := Lib.hid hK'
    have hmm : (a2 == a2) = true := beq_self_eq_true _
    clear hk hnn hbw hmost hkk hgW hmW hrW hK'
    by_cases hkn : n ≤ kk
    · have d1 : decide ((n : Int) ≤ (kk : Int)) = true := decide_eq_true (by omega)
      have d1' : decide (n ≤ kk) = true := decide_eq_true hkn
      clear hkn
      gi_wp2_with (first
        | (refine ⟨trivial, ?_⟩; gi_at_call 18; refine (callsIn_wide.2 (LV.out _)).mono ?_)
        | (gi_at_call 18; refine (callsIn_wide.2 (LV.out _)).mono ?_))
      rintro e w9 ⟨rfl, hb9⟩
      have hr9 := (hb9.block _ (lt_of_block HRW.out)).trans HRW.out
      have hK9 := (hb9.block D' hDW).trans HKD.out
      have hB9 := HBW.out.trans (hb9.mono HBW.out.size)
      have cr := cell_of_one hr9
      have fr := free_of_one hr9
      have HK9 := Lib.hid hK9
      have HR9 := Lib.hid hr9
      have HB9 := Lib.hid hB9
      clear hK9 hr9 hb9 hB9
      gi_wp2
      have hz6 := HZ6.out
      have hDB : D' ≠ w.heap.size + 1 := by omega
      have hK10 : (w9.setCell ⟨w.heap.size + 1, 0, none⟩ (.bool true)).heap[D']? = some (.deferred (some [])) := by rw [Below.heap_setCell _ _ _ _ hDB]; exact HK9.out
      refine ⟨by simp, .inl ⟨_, _, rfl, run_takeDeferred hK10, ?_⟩⟩
      refine ⟨_, results_bool07 rfl _ _ (w.heap.size + 1) true rfl (cell_of_one ((World.putObj_heap_other (by omega)).trans (by simpa using one_setCell HR9.out))), ?_⟩
      exact ⟨rfl, (HB9.out.setCell (show w.heap.size ≤ w.heap.size + 1 by omega) _).trans ((Below.refl _ _).grown (grownBy_putObj' _ D' _) (by have := (HB9.out.setCell (p := ⟨w.heap.size + 1, 0, none⟩) (show w.heap.size ≤ w.heap.size + 1 by omega) (.bool true)).size; omega) (fun q e => by cases e; omega))⟩
    · have d1 : decide ((n : Int) ≤ (kk : Int)) = false := decide_eq_false (by omega)
      have d1' : decide (n ≤ kk) = false := decide_eq_false hkn
      clear hkn
      gi_wp2_with (first
        | (refine ⟨trivial, ?_⟩; gi_at_call 18; refine (callsIn_wide.2 (LV.out _)).mono ?_)
        | (gi_at_call 18; refine (callsIn_wide.2 (LV.out _)).mono ?_))
      rintro e w9 ⟨rfl, hb9⟩
      have hr9 := (hb9.block _ (lt_of_block HRW.out)).trans HRW.out
      have hK9 := (hb9.block D' hDW).trans HKD.out
      have hB9 := HBW.out.trans (hb9.mono HBW.out.size)
      have cr := cell_of_one hr9
      have fr := free_of_one hr9
      have HK9 := Lib.hid hK9
      have HR9 := Lib.hid hr9
      have HB9 := Lib.hid hB9
      clear hK9 hr9 hb9 hB9
      gi_wp2
      have hz6 := HZ6.out
      have hDB : D' ≠ w.heap.size + 1 := by omega
      have hK10 : (w9.setCell ⟨w.heap.size + 1, 0, none⟩ (.bool true)).heap[D']? = some (.deferred (some [])) := by rw [Below.heap_setCell _ _ _ _ hDB]; exact HK9.out
      refine ⟨by simp, .inl ⟨_, _, rfl, run_takeDeferred hK10, ?_⟩⟩
      refine ⟨_, results_bool07 rfl _ _ (w.heap.size + 1) true rfl (cell_of_one ((World.putObj_heap_other (by omega)).trans (by simpa using one_setCell HR9.out))), ?_⟩
      exact ⟨rfl, (HB9.out.setCell (show w.heap.size ≤ w.heap.size + 1 by omega) _).trans ((Below.refl _ _).grown (grownBy_putObj' _ D' _) (by have := (HB9.out.setCell (p := ⟨w.heap.size + 1, 0, none⟩) (show w.heap.size ≤ w.heap.size + 1 by omega) (.bool true)).size; omega) (fun q e => by cases e; omega))⟩
end Go.Proofs.Ytebdnjfohahpgaa
