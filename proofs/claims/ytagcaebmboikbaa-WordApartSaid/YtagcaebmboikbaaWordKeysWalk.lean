/- The walk of WordKeys: it returns true for every input, and nothing that was there turns. -/
import Derived.Test.YtagcaebmboikbaaLess02
import Derived.Test.YtagcaebmboikbaaLives02
import Derived.StillTailTactics
import Derived.Deep.RegionHeld3
namespace Go.Proofs.Ytagcaebmboikbaa
open Go Go.RowKit
set_option linter.unusedVariables false

/-- few, as a function: some text of at most n bytes. -/
theorem few_some (s : ByteArray) (n : Nat) (m : Int) (hm : m = n) (hs : s.size ≤ maxLen) (hn : n ≤ 1000) :
    ∃ t : ByteArray, t.size ≤ n ∧ ∀ w, Calls Try.prog 10 #[.string s, .int .i64 m] w fun e w' => e = .returned (.string t) ∧ w' = w := by
  subst hm
  unfold maxLen at hs
  by_cases h : n < s.size
  · refine ⟨s.extract 0 n, by rw [ByteArray.size_extract]; omega, fun w => ?_⟩
    go_enter Try.func10, Try.ntmps10
    go_wp2
    go_ret
    exact ⟨rfl, rfl⟩
  · refine ⟨s, by omega, fun w => ?_⟩
    go_enter Try.func10, Try.ntmps10
    go_wp2
    go_ret
    exact ⟨rfl, rfl⟩

def zeroIn (l : List UInt8) (k : Nat) : Bool := decide ((0 : UInt8) ∈ l.take k)
theorem zeroIn_succ {l : List UInt8} {k : Nat} (hk : k < l.length) : zeroIn l (k + 1) = (zeroIn l k || decide (l[k] = 0)) := by
  unfold zeroIn
  rw [List.take_succ_eq_append_getElem hk, Bool.eq_iff_iff, decide_eq_true_iff, List.mem_append, Bool.or_eq_true, decide_eq_true_iff, decide_eq_true_iff, List.mem_singleton]
  exact or_congr Iff.rfl eq_comm
theorem zeroIn_all (l : List UInt8) : zeroIn l l.length = decide ((0 : UInt8) ∈ l) := by unfold zeroIn; rw [List.take_length]
def ZeroRel (s : ByteArray) (z i : Value) : Prop := ∃ k : Nat, k ≤ s.size ∧ i = .int .i64 k ∧ z = .bool (zeroIn s.data.toList k)

set_option maxHeartbeats 4000000 in
set_option maxRecDepth 100000 in
theorem walk_WordKeys (a0 a1 b0 b1 a2 : ByteArray) (w : World) (s0 : a0.size ≤ maxLen) (s1 : a1.size ≤ maxLen) (s2 : b0.size ≤ maxLen) (s3 : b1.size ≤ maxLen) (s4 : a2.size ≤ maxLen) :
    Calls Try.prog 6 #[.agg #[.string a0, .string a1], .agg #[.string b0, .string b1], .string a2] w fun e w' => e = .returned (.bool true) ∧ Below w.heap.size w w' := by
  obtain ⟨x, hx, fx⟩ := few_some a0 30 30 rfl s0 (by omega)
  obtain ⟨y, hy, fy⟩ := few_some a1 30 30 rfl s1 (by omega)
  obtain ⟨u, hu, fu⟩ := few_some b0 30 30 rfl s2 (by omega)
  obtain ⟨v, hv, fv⟩ := few_some b1 30 30 rfl s3 (by omega)
  obtain ⟨s, hs, fs⟩ := few_some a2 40 40 rfl s4 (by omega)
  have FX := Lib.hid fx
  have FY := Lib.hid fy
  have FU := Lib.hid fu
  have FV := Lib.hid fv
  have FS := Lib.hid fs
  clear fx fy fu fv fs s0 s1 s2 s3 s4
  have hbx0 := boxes_new w a0 a1 b0 b1
  obtain ⟨w0, hw0⟩ : ∃ w0, w0 = (w.alloc (.cells #[.string a0, .string a1] 37)).alloc (.cells #[.string b0, .string b1] 37) := ⟨_, rfl⟩
  have hb0 : Below w.heap.size w w0 := by rw [hw0]; exact ((Below.refl _ _).alloc (Nat.le_refl _) _).alloc (by simp) _
  rw [← hw0] at hbx0
  have hbx : Boxed w w.heap.size (w.heap.size + 1) a0 a1 b0 b1 w0 := ⟨hbx0, hb0⟩
  obtain ⟨⟨d0, d1, d2, d3⟩, e0, e1, e2, e3⟩ := hbx.all
  have HBX := Lib.hid hbx
  clear hbx0 hb0 hbx
  go_enter Try.func6, Try.ntmps6
  go_wp2
  rw [← hw0]
  clear hw0
  refine wp_region_still_tail 7 (by kernel_rfl) (by kernel_rfl) ?_
  simp only [List.take_succ_cons, List.take_zero, List.drop_succ_cons, List.drop_zero]
  still_step
  still_step
  still_call (FX.out _)
  still_step
  still_step
  still_call (FY.out _)
  still_step
  refine wpStill_nil ?_
  change wpList _ _ _ _ _ w0.drew
  go_wp2
  have hb1 := (HBX.out.set1 x y (Nat.le_refl _) (by omega)).drew
  generalize ((w0.setCell ⟨w.heap.size, 0, none⟩ (.string x)).setCell ⟨w.heap.size, 1, none⟩ (.string y)).drew = w1 at hb1 ⊢
  clear d0 d1 d2 d3 e0 e1 e2 e3 HBX FX FY
  obtain ⟨⟨d0, d1, d2, d3⟩, e0, e1, e2, e3⟩ := hb1.all
  have HBX := Lib.hid hb1
  clear hb1
  refine wp_region_still_tail 7 (by kernel_rfl) (by kernel_rfl) ?_
  simp only [List.take_succ_cons, List.take_zero, List.drop_succ_cons, List.drop_zero]
  still_step
  still_step
  still_call (FU.out _)
  still_step
  still_step
  still_call (FV.out _)
  still_step
  refine wpStill_nil ?_
  change wpList _ _ _ _ _ w1.drew
  have hb2 := (HBX.out.set2 u v (by omega) (by omega)).drew
  go_wp2_with (go_at_call 10; refine (FS.out _).mono ?_; rintro e w' ⟨rfl, rfl⟩)
  generalize ((w1.setCell ⟨w.heap.size + 1, 0, none⟩ (.string u)).setCell ⟨w.heap.size + 1, 1, none⟩ (.string v)).drew = w2 at hb2 ⊢
  clear d0 d1 d2 d3 e0 e1 e2 e3 HBX FU FV
  obtain ⟨⟨d0, d1, d2, d3⟩, e0, e1, e2, e3⟩ := hb2.all
  go_wp2_with (go_at_call 19; refine (word_Key x y _ (by omega) (by omega)).mono ?_; rintro e w3 ⟨rfl, hb3⟩)
  have hbx := keepBoxed hb2 hb3
  clear d0 d1 d2 d3 e0 e1 e2 e3 hb2 hb3
  obtain ⟨⟨d0, d1, d2, d3⟩, e0, e1, e2, e3⟩ := hbx.all
  go_wp2
  go_region_held3 (fun w' => w'.cell? ⟨w.heap.size, 0, none⟩ = some (.string x) ∧ w'.cell? ⟨w.heap.size, 1, none⟩ = some (.string y) ∧ w'.cell? ⟨w.heap.size + 1, 0, none⟩ = some (.string u) ∧ w'.cell? ⟨w.heap.size + 1, 1, none⟩ = some (.string v))
    (first | go_keep | exact hbx.1.cells)
    (first
      | (go_at_call 20; (with_reducible refine (ref_Key x y _ (by omega) (by omega)).mono ?_); rintro e w2 ⟨rfl, hb2⟩; have hbx := keepBoxed hbx hb2)
      | (go_at_call 20; (with_reducible refine (ref_Key u v _ (by omega) (by omega)).mono ?_); rintro e w2 ⟨rfl, hb2⟩; have hbx := keepBoxed hbx hb2)
      | (go_at_call 21; refine (word_Less x y u v _ (by omega) (by omega) (by omega) (by omega)).mono ?_; rintro e w2 ⟨rfl, hb2⟩; have hbx := keepBoxed hbx hb2))
  have HBX := Lib.hid hbx.2
  clear d0 d1 d2 d3 e0 e1 e2 e3 hbx
  go_wp2_with (go_at_call 22; refine (word_Term s _ (by omega)).mono ?_)
  rintro e w4 ⟨hh, hb4⟩
  have HB4 := Lib.hid (HBX.out.trans (hb4.mono HBX.out.size))
  have hs4 := HB4.out.size
  clear hb4 HBX
  rcases hh with ⟨h0, rfl⟩ | ⟨f, g, hf, h0, rfl⟩
  · have H0 := Lib.hid h0
    clear h0
    go_wp2
    go_loop [10, 11] (fun z i => ZeroRel s z i) (fun _ i => s.size - (intOf i).toNat)
    case atStart => exact ⟨0, Nat.zero_le _, rfl, by simp [zeroIn]⟩
    case round =>
      obtain ⟨k, hk, rfl, rfl⟩ := hrel
      by_cases hlt : k < s.size
      · have hlt2 : k < s.data.toList.length := by rw [show s.data.toList.length = s.size from Array.length_toList]; exact hlt
        have hzs := zeroIn_succ hlt2
        have hget : s.data.toList[k] = s[k] := by rw [Array.getElem_toList]; rfl
        rw [hget] at hzs
        have hb0 : (((s[k].toNat : Nat) : Int) == 0) = decide (s[k] = 0) := by
          rw [Bool.eq_iff_iff, beq_iff_eq, decide_eq_true_iff]
          constructor
          · intro h; exact UInt8.toNat_inj.1 (by simpa using (by omega : s[k].toNat = 0))
          · intro h; rw [h]; rfl
        rcases hz : zeroIn s.data.toList k with _ | _
        · rw [hz, Bool.false_or] at hzs
          rcases hd : decide (s[k] = 0) with _ | _
          · rw [hd] at hzs hb0
            have HZ := Lib.hid hzs
            clear hzs hz hd hget
            go_wp2
            go_round
            case rel => exact ⟨k + 1, by omega, by go_num, by rw [HZ.out]⟩
            case measure => simp [intOf]; omega
          · rw [hd] at hzs hb0
            have HZ := Lib.hid hzs
            clear hzs hz hd hget
            go_wp2
            go_round
            case rel => exact ⟨k + 1, by omega, by go_num, by rw [HZ.out]⟩
            case measure => simp [intOf]; omega
        · rw [hz, Bool.true_or] at hzs
          have HZ := Lib.hid hzs
          clear hzs hz hget hb0
          go_wp2
          go_round
          case rel => exact ⟨k + 1, by omega, by go_num, by rw [HZ.out]⟩
          case measure => simp [intOf]; omega
      · have hks : zeroIn s.data.toList k = false := by
          rw [show k = s.data.toList.length by rw [show s.data.toList.length = s.size from Array.length_toList]; omega, zeroIn_all]
          exact decide_eq_false H0.out
        rw [hks]
        clear hks
        have hb5 := HB4.out.alloc hs4 (.cells #[.string ByteArray.empty, .string ByteArray.empty] 37)
        obtain ⟨t0, t1, _, _⟩ := two_cells (heap_alloc_new w4 (.cells #[.string ByteArray.empty, .string ByteArray.empty] 37))
        generalize w4.alloc (.cells #[.string ByteArray.empty, .string ByteArray.empty] 37) = w5 at hb5 t0 t1 ⊢
        have HB5 := Lib.hid hb5
        have hs5 := HB5.out.size
        clear hb5
        go_wp2_with (go_at_call 16; refine (law02_lives _).mono ?_; rintro e w9 ⟨rfl, hb9⟩)
        go_ret
        exact ⟨rfl, HB5.out.trans (hb9.mono hs5)⟩
  · have hin : (0 : UInt8) ∈ s.data.toList := by rw [hf, keyL]; simp
    have hkb : keyB f g = s := bytes_of_list (by rw [keyB_list, hf])
    have hsz : s.data.toList.length = s.size := Array.length_toList
    have hfz : f.data.toList.length = f.size := Array.length_toList
    have hgz : g.data.toList.length = g.size := Array.length_toList
    rw [hf, keyL, List.length_append, List.length_cons] at hsz
    have rk := fun w => ref_Key f g w (by omega) (by omega)
    rw [hkb] at rk
    have HIN := Lib.hid hin
    have RK := Lib.hid rk
    clear hin hkb hsz hfz hgz rk hf h0
    go_wp2
    go_loop [10, 11] (fun z i => ZeroRel s z i) (fun _ i => s.size - (intOf i).toNat)
    case atStart => exact ⟨0, Nat.zero_le _, rfl, by simp [zeroIn]⟩
    case round =>
      obtain ⟨k, hk, rfl, rfl⟩ := hrel
      by_cases hlt : k < s.size
      · have hlt2 : k < s.data.toList.length := by rw [show s.data.toList.length = s.size from Array.length_toList]; exact hlt
        have hzs := zeroIn_succ hlt2
        have hget : s.data.toList[k] = s[k] := by rw [Array.getElem_toList]; rfl
        rw [hget] at hzs
        have hb0 : (((s[k].toNat : Nat) : Int) == 0) = decide (s[k] = 0) := by
          rw [Bool.eq_iff_iff, beq_iff_eq, decide_eq_true_iff]
          constructor
          · intro h; exact UInt8.toNat_inj.1 (by simpa using (by omega : s[k].toNat = 0))
          · intro h; rw [h]; rfl
        rcases hz : zeroIn s.data.toList k with _ | _
        · rw [hz, Bool.false_or] at hzs
          rcases hd : decide (s[k] = 0) with _ | _
          · rw [hd] at hzs hb0
            have HZ := Lib.hid hzs
            clear hzs hz hd hget
            go_wp2
            go_round
            case rel => exact ⟨k + 1, by omega, by go_num, by rw [HZ.out]⟩
            case measure => simp [intOf]; omega
          · rw [hd] at hzs hb0
            have HZ := Lib.hid hzs
            clear hzs hz hd hget
            go_wp2
            go_round
            case rel => exact ⟨k + 1, by omega, by go_num, by rw [HZ.out]⟩
            case measure => simp [intOf]; omega
        · rw [hz, Bool.true_or] at hzs
          have HZ := Lib.hid hzs
          clear hzs hz hget hb0
          go_wp2
          go_round
          case rel => exact ⟨k + 1, by omega, by go_num, by rw [HZ.out]⟩
          case measure => simp [intOf]; omega
      · have hks : zeroIn s.data.toList k = true := by
          rw [show k = s.data.toList.length by rw [show s.data.toList.length = s.size from Array.length_toList]; omega, zeroIn_all]
          exact decide_eq_true HIN.out
        rw [hks]
        clear hks
        go_wp2_with (go_at_call 20; refine (RK.out _).mono ?_; rintro e w5 ⟨rfl, hb5⟩)
        have HB5 := Lib.hid ((HB4.out.alloc hs4 _).trans (hb5.mono (by simp; omega)))
        have hs5 := HB5.out.size
        clear hb5
        go_wp2_with (go_at_call 16; refine (law02_lives _).mono ?_; rintro e w9 ⟨rfl, hb9⟩)
        go_ret
        exact ⟨rfl, HB5.out.trans (hb9.mono hs5)⟩
end Go.Proofs.Ytagcaebmboikbaa
