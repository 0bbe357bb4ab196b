/- What the document's own Get answers: read, and written again. -/
import Derived.Test.YtfhjnblcnkjooaaZed04
import Derived.Test.YtfhjnblcnkjooaaPut04
import Derived.Deep.RegionLaw
namespace Go.Proofs.Ytfhjnblcnkjooaa
open Go Go.RowKit
set_option linter.unusedVariables false

def RefGetRel (l : List UInt8) (r4 r5 r6 n wth i : Value) : Prop :=
  r4 = .int .i64 0 ∧ r5 = .int .i64 0 ∧ r6 = .int .i64 0 ∧ ∃ k : Nat, k ≤ 9 ∧ k ≤ l.length ∧ i = .int .i64 (k : Int) ∧ n = .int .i64 (valB (l.take k) : Int) ∧ High l k ∧ ∃ z : Int, wth = .int .i64 z ∧ (k < 9 → z = ((128 ^ k : Nat) : Int))

theorem take_drop_row {w : World} {B b off a k : Nat} {l : List UInt8} (h : Row w B (some ⟨b, off, none⟩) (Lib.byteCells l)) (ha : a + k < l.length) : Row w B (some ⟨b, off + a, none⟩) (Lib.byteCells ((l.drop a).take (k + 1))) := by
  have h2 := row_drop (m := l.length) (c := l.length + 1) h rfl (by omega) (a := a) (by omega) (some ⟨b, off + a, none⟩) (.inr rfl)
  have := h2.cut (k + 1)
  rwa [show (Lib.byteCells (l.drop a)).take (k + 1) = Lib.byteCells ((l.drop a).take (k + 1)) by simp [Lib.byteCells, List.map_take]] at this

/-- What is found where a byte below 128 comes: read, and written again. -/
theorem read_end {d : List UInt8} {k v p x : Nat} (hk : k < 9) (hkl : k < d.length) (hh : High d k) (hx : x = (d.getD k 0).toNat) (h128 : x < 128) (hv : valB (d.take (k + 1)) = v + p) :
    (k = 0 ∨ x ≠ 0 → putB (v + p) = d.take (k + 1) ∧ getF d = (v + p, k + 1)) ∧ (¬ (k = 0 ∨ x ≠ 0) → putB (v + p) ≠ d.take (k + 1) ∧ getF d = (0, 0)) := by
  have hyl : (d.take (k + 1)).length = k + 1 := by rw [List.length_take]; omega
  have hyk : (d.take (k + 1)).getD k 0 = d.getD k 0 := by rw [List.getD_eq_getElem?_getD, List.getElem?_take_of_lt (by omega), ← List.getD_eq_getElem?_getD]
  have hyh : High (d.take (k + 1)) k := fun j hj => by
    have := hh j hj
    rwa [List.getD_eq_getElem?_getD, List.getElem?_take_of_lt (by omega), ← List.getD_eq_getElem?_getD]
  refine ⟨fun h => ⟨?_, ?_⟩, fun h => ⟨?_, ?_⟩⟩
  · have := (putB_valB hyl hyh (by rw [hyk, ← hx]; exact h128) (by rw [hyk, ← hx]; exact h)).1
    rwa [hv] at this
  · rw [getF_some hh hk hkl (by rw [← hx]; exact h128) (by rw [← hx]; exact h), hv]
  · exact putB_valB_not hyl (by omega) (by rw [hyk, ← hx]; omega) (v + p)
  · exact getF_zero hh hk hkl (by omega) (by rw [← hx]; omega)

set_option maxHeartbeats 2000000 in
set_option maxRecDepth 100000 in
theorem ref_Get_in (A : Option Addr) (m c : Nat) (a : Nat) (l : List UInt8) (w : World) (hr : Row w w.heap.size A (Lib.byteCells l)) (hm : l.length = m) (hc : m ≤ c) (hcx : c ≤ maxLen) (hl : m ≤ 1073741824) (ha : a ≤ m) :
    Calls Try.prog 38 #[.slice A m c, .int .i64 (a : Int)] w (GaveZ (getZ l a) w) := by
  have HR := Lib.hid hr
  clear hr
  unfold maxLen at hcx
  obtain ⟨z, hz⟩ : ∃ z, z = getZ l (a : Int) := ⟨_, rfl⟩
  rw [← hz]
  obtain ⟨d, hd⟩ : ∃ d, d = l.drop a := ⟨_, rfl⟩
  have hdl : d.length = m - a := by rw [hd, List.length_drop, hm]
  have HBAD : Hid ((getF d).2 = 0 → z = (0, 0, 2)) := Lib.hid fun h => by rw [hz]; exact getZ_form (by omega) (by rw [← hd]; exact h)
  have HGOOD : Hid (∀ n k, getF d = (n, k + 1) → z = ((n : Int), (a : Int) + ((k + 1 : Nat) : Int), 0)) := Lib.hid fun n k h => by rw [hz]; exact getZ_ok (by omega) (by rw [← hd]; exact h)
  have HGD : Hid (∀ k, (l.getD (a + k) 0).toNat = (d.getD k 0).toNat) := Lib.hid fun k => by rw [hd, List.getD_eq_getElem?_getD, List.getD_eq_getElem?_getD, List.getElem?_drop]
  have HD := Lib.hid hd
  clear hz hd
  have e0 : decide ((a : Int) < 0) = false := decide_eq_false (by omega)
  have e1 : decide ((m : Int) < (a : Int)) = false := decide_eq_false (by omega)
  go_enter Try.func38, Try.ntmps38
  go_wp2
  go_loop [4, 5, 6, 7, 8, 9] (fun r4 r5 r6 n wth i => RefGetRel d r4 r5 r6 n wth i) (fun _ _ _ _ _ i => 9 - (intOf i).toNat)
  case atStart => exact ⟨rfl, rfl, rfl, 0, by omega, by omega, rfl, by simp [valB], High.zero d, 1, rfl, fun _ => by simp⟩
  case round =>
    obtain ⟨rfl, rfl, rfl, k, hk9, hkl, rfl, rfl, hh, z1, rfl, hz1⟩ := hrel
    by_cases hlt : k < 9 ∧ a + k < m
    · obtain ⟨hk, hak⟩ := hlt
      obtain ⟨b1, o1, e1', _, hc1⟩ := row_byte HR.out (k := a + k) (by omega)
      subst e1'
      rw [HGD.out] at hc1
      obtain ⟨q, p, v, hq, hv, hv2, hmul, hp, hvp, hqb⟩ := worth_more (l := d) (k := k) (by omega) (by omega)
      have hz' := hz1 (by omega)
      rw [hq] at hz'
      subst hz'
      rw [hv]
      obtain ⟨x, hx⟩ : ∃ x, x = (d.getD k 0).toNat := ⟨_, rfl⟩
      have hx255 : x < 256 := by rw [hx]; exact UInt8.toNat_lt _
      have HX := Lib.hid hx
      have HH := Lib.hid hh
      have HQ := Lib.hid hq
      have HV := Lib.hid hv2
      rw [← hx] at hc1 hmul
      clear hx hh hz1 hq hv hv2
      by_cases h128 : x < 128
      · obtain ⟨y, hy⟩ : ∃ y, y = (d.take (k + 1)) := ⟨_, rfl⟩
        have hyl : y.length = k + 1 := by rw [hy, List.length_take]; omega
        have hrow : Row w w.heap.size (some ⟨b1, o1 + a, none⟩) (Lib.byteCells y) := by
          have := take_drop_row HR.out (a := a) (k := k) (by omega)
          rw [← HD.out, ← hy] at this
          exact this
        have hyv : valB y = v + p := by rw [hy]; exact HV.out
        have HROW := Lib.hid hrow
        have HYV := Lib.hid hyv
        clear hrow hyv
        have hcy : ∀ w', Below w.heap.size w w' → (convert 32 9 (.slice (some ⟨b1, o1 + a, none⟩) (k + 1) (c - a))).run Try.prog w' = .ok (.string ⟨y.toArray⟩) w' := fun w' hb =>
          run_string_of (P := Try.prog) (HROW.out.below hb) 32 9 5 (k + 1) (c - a) hyl Try.underlying32 Try.underlying5 Try.underlying9
        have hcy0 := hcy w.drew (Below.refl _ w).drew
        have HCY := Lib.hid hcy
        clear hcy
        have RP : Hid (∀ w1, Calls Try.prog 40 #[.int .i64 ((v : Int) + (p : Int))] w1 (GaveOwn w1.heap.size (putB (v + p)) w1)) :=
          Lib.hid fun w1 => by have := ref_Put (v + p) w1 (by omega); rwa [Int.natCast_add] at this
        have hend := read_end hk (by omega) HH.out HX.out h128 HV.out
        rw [← hy] at hend
        by_cases hgood : k = 0 ∨ x ≠ 0
        · obtain ⟨hpb, hF⟩ := hend.1 hgood
          have hzz : z = (((v + p : Nat) : Int), (a : Int) + ((k + 1 : Nat) : Int), 0) := HGOOD.out _ _ hF
          rw [hpb] at RP
          have HZZ := Lib.hid hzz
          clear hpb hzz hy hgood hF hend
          obtain ⟨t, ht⟩ : ∃ t : Nat, t = a + k + 1 := ⟨_, rfl⟩
          have hw : IntKind.i64.wrap (IntKind.i64.wrap ((a : Int) + (k : Int)) + 1) = (t : Int) := by
            rw [IntWalk.i64_in ((a : Int) + (k : Int)) (by omega), IntWalk.i64_in _ (by omega), ht]
            omega
          have ht1 : t ≤ c := by omega
          have ht2 : a ≤ t := by omega
          have ht3 : t - a = k + 1 := by omega
          have hca : ¬ c = a := by omega
          clear ht
          go_wp2
          go_region_law (first | (go_simp; go_at_call 40; refine (RP.out _).mono ?_; rintro en w2 ⟨vv, rfl, hown, hb⟩; obtain ⟨A2, c2, rfl, _, hrow2⟩ := hown.row; have hcv := run_string_of (P := Try.prog) hrow2 32 9 5 (k + 1) c2 hyl Try.underlying32 Try.underlying5 Try.underlying9; have hcy2 := HCY.out w2 ((Below.refl _ w).drew.trans hb); have HB2 := Lib.hid ((Below.refl _ w).drew.trans hb)))
          all_goals
            go_wp2
            go_ret3
            rw [HZZ.out]
            refine ⟨by simp; omega, HB2.out.mono (Nat.le_refl _)⟩
        · obtain ⟨u, hu⟩ : ∃ u, u = putB (v + p) := ⟨_, rfl⟩
          obtain ⟨hne, hF⟩ := hend.2 hgood
          rw [← hu] at hne
          have hne1 : (u == y) = false := by rw [beq_eq_false_iff_ne]; exact hne
          have hzz : z = (0, 0, 2) := HBAD.out (by rw [hF])
          have hul := putB_nine (n := v + p) (by omega)
          rw [← hu] at RP hul
          have HZZ := Lib.hid hzz
          obtain ⟨ul, hul2⟩ : ∃ ul, u.length = ul := ⟨_, rfl⟩
          clear hzz hy hu hul hF hend
          obtain ⟨t, ht⟩ : ∃ t : Nat, t = a + k + 1 := ⟨_, rfl⟩
          have hw : IntKind.i64.wrap (IntKind.i64.wrap ((a : Int) + (k : Int)) + 1) = (t : Int) := by
            rw [IntWalk.i64_in ((a : Int) + (k : Int)) (by omega), IntWalk.i64_in _ (by omega), ht]
            omega
          have ht1 : t ≤ c := by omega
          have ht2 : a ≤ t := by omega
          have ht3 : t - a = k + 1 := by omega
          have hca : ¬ c = a := by omega
          clear ht hgood
          go_wp2
          go_region_law (first | (go_simp; go_at_call 40; refine (RP.out _).mono ?_; rintro en w2 ⟨vv, rfl, hown, hb⟩; obtain ⟨A2, c2, rfl, _, hrow2⟩ := hown.row; have hcv := run_string_of (P := Try.prog) hrow2 32 9 5 ul c2 hul2 Try.underlying32 Try.underlying5 Try.underlying9; have hcy2 := HCY.out w2 ((Below.refl _ w).drew.trans hb); have HB2 := Lib.hid ((Below.refl _ w).drew.trans hb)))
          all_goals
            go_wp2
            go_ret3
            rw [HZZ.out]
            exact ⟨rfl, HB2.out.mono (Nat.le_refl _)⟩
      · have HN : Hid (High d (k + 1)) := Lib.hid (HH.out.succ (by rw [← HX.out]; omega))
        by_cases k8 : k < 8
        · obtain ⟨hq1, hq2⟩ := pow_next HQ.out k8
          have HQ1 := Lib.hid hq1
          clear hq1
          go_wp2
          go_round
          case rel => exact ⟨_, _, _, _, _, _, ⟨rfl, rfl, rfl, k + 1, by omega, by omega, by go_num, by rw [HV.out]; go_num, HN.out, _, rfl, fun _ => by rw [HQ1.out]; simp⟩, rfl, rfl, rfl, rfl, rfl, rfl⟩
          case measure => simp [intOf]; omega
        · have hq8 : q = 72057594037927936 := by
            have := HQ.out
            rw [show k = 8 by omega] at this
            rw [← this]
          subst hq8
          go_wp2
          go_round
          case rel => exact ⟨_, _, _, _, _, _, ⟨rfl, rfl, rfl, k + 1, by omega, by omega, by go_num, by rw [HV.out]; go_num, HN.out, _, rfl, fun h => by omega⟩, rfl, rfl, rfl, rfl, rfl, rfl⟩
          case measure => simp [intOf]; omega
    · have hr0 : z = (0, 0, 2) := HBAD.out (by rw [getF_none hh (by omega)])
      have HR0 := Lib.hid hr0
      clear hr0
      by_cases k9 : k < 9
      · have e2 : decide ((a : Int) + (k : Int) < (m : Int)) = false := decide_eq_false (by omega)
        go_wp2
        go_ret3
        rw [HR0.out]
        exact ⟨rfl, Below.refl _ _⟩
      · have e2 : decide ((k : Int) < 9) = false := decide_eq_false (by omega)
        go_wp2
        go_ret3
        rw [HR0.out]
        exact ⟨rfl, Below.refl _ _⟩
end Go.Proofs.Ytfhjnblcnkjooaa
