/- What the document's own GetRising answers: the rising numbers at a place. -/
import Derived.Test.YtfhjnblcnkjooaaZed04
import Derived.Test.YtfhjnblcnkjooaaRefRises04
import Derived.Test.YtfhjnblcnkjooaaRefGetAll04
import Derived.Deep.CutRange
namespace Go.Proofs.Ytfhjnblcnkjooaa
open Go Go.RowKit
set_option linter.unusedVariables false

/-- Behind k of so many rising numbers. -/
def RefGetRRel (A : Option Addr) (m c : Nat) (l : List UInt8) (many : Nat) (w : World) (r : Option (List Int × Nat)) (at_ r4 r5 r6 vl i : Value) (wr : World) : Prop :=
  r4 = .slice none 0 0 ∧ r5 = .int .i64 0 ∧ r6 = .int .i64 0 ∧ ∃ (acc : List Int) (x : Int) (a k : Nat), k ≤ many ∧ i = .int .i64 (k : Int) ∧ at_ = .int .i64 (a : Int) ∧ acc.length = k ∧ k ≤ a ∧ a ≤ m ∧ -1 ≤ x ∧ x ≤ 4611686018427387904 ∧ (k = 0 → x = -1) ∧ (0 < k → acc.getD (k - 1) 0 = x) ∧
    r = takeR l (many - k) x a acc ∧ wr.ownsRow w.heap.size 3 1 vl k (ints acc) ∧ Below w.heap.size w wr

set_option maxHeartbeats 2000000 in
set_option maxRecDepth 100000 in
theorem ref_GetRising (A : Option Addr) (m c : Nat) (a : Int) (l : List UInt8) (w : World) (hr : Row w w.heap.size A (Lib.byteCells l)) (hm : l.length = m) (hc : m ≤ c) (hcx : c ≤ maxLen) (hl : m ≤ 1073741823) :
    Calls Try.prog 39 #[.slice A m c, .int .i64 a] w (GaveR (risZ l a) w) := by
  obtain ⟨i0, hi0, hz0, hz1, hz2⟩ := info_parts info_int
  have HR := Lib.hid hr
  clear hr
  rcases getZ_split l a with ⟨e, hz, he⟩ | ⟨many, b, hz, hb, hmany⟩
  · have hres := risZ_err hz (by omega)
    rw [hres]
    have g1 := ref_Get A m c a l w HR.out hm hc hcx (by omega)
    rw [hz] at g1
    have G1 := Lib.hid g1
    have heb : (e == 0) = false := by rw [beq_eq_false_iff_ne]; omega
    clear hz hres he g1
    go_enter Try.func39, Try.ntmps39
    go_wp2_with (go_at_call 38; refine G1.out.mono ?_)
    rintro en w2 ⟨rfl, hb2⟩
    go_wp2
    go_ret3
    exact ⟨_, rfl, World.ownsRow_nil _ _ _ _, hb2⟩
  · have hres := risZ_ok hz
    have g1 := ref_Get A m c a l w HR.out hm hc hcx (by omega)
    rw [hz] at g1
    obtain ⟨r, hr⟩ : ∃ r, r = takeR l many (-1) b [] := ⟨_, rfl⟩
    rw [← hr] at hres
    obtain ⟨z, hzz⟩ : ∃ z, z = risZ l a := ⟨_, rfl⟩
    rw [← hzz]
    rw [← hzz] at hres
    have G1 := Lib.hid g1
    have HRES := Lib.hid hres
    have HRR := Lib.hid hr
    clear hz hres hr hzz g1
    go_enter Try.func39, Try.ntmps39
    go_wp2_with (go_at_call 38; refine G1.out.mono ?_)
    rintro en w2 ⟨rfl, hb2⟩
    have HB2 := Lib.hid hb2
    clear hb2
    go_wp2
    go_loopw [1, 4, 5, 6, 9, 10] (fun t r4 r5 r6 vl i wr => RefGetRRel A m c l many w r t r4 r5 r6 vl i wr) (fun _ _ _ _ _ i _ => many - (intOf i).toNat)
    case atStart => exact ⟨rfl, rfl, rfl, [], -1, b, 0, by omega, rfl, rfl, rfl, by omega, by omega, by omega, by omega, fun _ => rfl, fun h => by omega, HRR.out, World.ownsRow_nil _ _ _ _, HB2.out⟩
    case round =>
      obtain ⟨rfl, rfl, rfl, acc, x, q, k, hk, rfl, rfl, hacc, hkq, hqm, hx0, hx1, hxz, hxl, htake, hown, hbw⟩ := hrel
      have hsz := hbw.size
      obtain ⟨Ao, co, rfl, hco, hro⟩ := owned_row hown
      by_cases hlt : k < many
      · obtain ⟨j, hj⟩ : ∃ j, many - k = j + 1 := ⟨many - k - 1, by omega⟩
        rw [hj, takeR] at htake
        have hbd := getF_bd (l.drop q)
        rw [List.length_drop, hm] at hbd
        have g2 := ref_Get A m c (q : Int) l wr ((HR.out.below hbw).more hsz) hm hc hcx (by omega)
        have HBW := Lib.hid hbw
        have HOWN := Lib.hid hown
        by_cases hF : (getF (l.drop q)).2 = 0
        · rw [if_pos (.inl hF)] at htake
          rw [getZ_form (by omega) hF] at g2
          have G2 := Lib.hid g2
          have hres : z = ([], 0, 2) := by rw [HRES.out, htake]; rfl
          have HR2 := Lib.hid hres
          clear hres g2 hF htake hbd hj hbw hown hro hxz hxl
          go_wp2_with (go_at_call 38; refine G2.out.mono ?_)
          rintro en w4 ⟨rfl, h4⟩
          have HB4 := Lib.hid (HBW.out.trans (h4.mono hsz))
          clear h4
          go_wp2
          go_ret3
          rw [HR2.out]
          exact ⟨_, rfl, World.ownsRow_nil _ _ _ _, HB4.out⟩
        · obtain ⟨g, hg⟩ : ∃ g, (getF (l.drop q)).2 = g + 1 := ⟨(getF (l.drop q)).2 - 1, by omega⟩
          rw [getZ_ok (n := (getF (l.drop q)).1) (k := g) (by omega) (by rw [← hg])] at g2
          rw [hg] at htake hbd
          obtain ⟨f, hf⟩ : ∃ f : Int, f = ((getF (l.drop q)).1 : Int) := ⟨_, rfl⟩
          rw [← hf] at htake g2
          have hf0 : 0 ≤ f ∧ f < 9223372036854775808 := by omega
          obtain ⟨q2, hq2⟩ : ∃ q2 : Nat, q2 = q + (g + 1) := ⟨_, rfl⟩
          rw [← hq2] at htake
          rw [show ((q : Int) + ((g + 1 : Nat) : Int)) = (q2 : Int) by rw [hq2]; simp] at g2
          have hq2m : q2 ≤ m ∧ q < q2 := by omega
          have G2 := Lib.hid g2
          have hjk : Hid (j = many - (k + 1)) := Lib.hid (by omega)
          have HTAKE := Lib.hid htake
          have HA := Lib.hid hacc
          have HXZ := Lib.hid hxz
          have hcell : ∀ w4, Below wr.heap.size wr w4 → 0 < k → ∃ bo oo, Ao = some ⟨bo, oo, none⟩ ∧ w4.cell? ⟨bo, oo + (k - 1), none⟩ = some (.int .i64 x) := fun w4 h4 hk0 => by
            obtain ⟨bo, oo, h1, _, h2⟩ := row_int' (hro.below h4) (k := k - 1) (by rw [hacc]; omega)
            exact ⟨bo, oo, h1, by rw [h2, hxl hk0]⟩
          have HCELL := Lib.hid hcell
          clear g2 hF htake hbd hj hbw hown hro hxz hxl hcell hacc hq2 hg hf
          go_wp2_with (go_at_call 38; refine G2.out.mono ?_)
          rintro en w4 ⟨rfl, h4⟩
          have HC4 := Lib.hid (HCELL.out w4 h4)
          have hs4 := h4.size
          have HB4 := Lib.hid (HBW.out.trans (h4.mono hsz))
          have HOWN4 := Lib.hid (owned_below HOWN.out h4)
          clear h4
          go_upto_if 40 with fail
          go_cut [11] from 39 to 48 (fun s wx => w4 = wx ∧ ∃ y : Int, s = .int .i64 y ∧ (f ≤ 4611686018427387904 - (x + 1) → y = x + (f + 1)) ∧ (4611686018427387904 - (x + 1) < f → y < 0 ∨ 4611686018427387904 < y) ∧ -9223372036854775808 ≤ y ∧ y ≤ 9223372036854775807)
          case first =>
            rcases Nat.eq_zero_or_pos k with hk0 | hk0
            · have hd : decide (0 < k) = false := decide_eq_false (by omega)
              have hx := HXZ.out hk0
              have HK0 := Lib.hid hk0
              have HXX := Lib.hid hx
              clear hk0 hx
              rw [hd]
              go_wp2_with fail
              go_meet
              have := HXX.out
              exact ⟨rfl, f, rfl, by omega, by omega, by omega, by omega⟩
            · obtain ⟨bo, oo, hAo, hc4⟩ := HC4.out hk0
              subst hAo
              obtain ⟨j1, hj1⟩ : ∃ j1, j1 = k - 1 := ⟨_, rfl⟩
              rw [← hj1] at hc4
              have hkj : (k : Int) - 1 = (j1 : Int) := by omega
              have hjk1 : j1 < k := by omega
              have hd : decide (0 < k) = true := decide_eq_true hk0
              clear hj1
              by_cases hs : f + x ≤ 9223372036854775806
              · go_wp2_with fail
                go_meet
                exact ⟨rfl, f + x + 1, rfl, by omega, by omega, by omega, by omega⟩
              · by_cases hs2 : f + x = 9223372036854775807
                · go_wp2_with fail
                  go_meet
                  exact ⟨rfl, -9223372036854775808, congrArg (Value.int .i64) (by unfold RowKit.wrap64; omega), by omega, by omega, by omega, by omega⟩
                · go_wp2_with fail
                  go_meet
                  exact ⟨rfl, f + x - 18446744073709551616 + 1, congrArg (Value.int .i64) (by unfold RowKit.wrap64; omega), by omega, by omega, by omega, by omega⟩
          case rest =>
            obtain ⟨rfl, y, rfl, hy1, hy2, hy3, hy4⟩ := hcut
            by_cases hgood : f ≤ 4611686018427387904 - (x + 1)
            · have hy : y = x + (f + 1) := hy1 hgood
              have htk := HTAKE.out
              rw [if_neg (by simp only [Nat.add_eq_zero_iff]; omega)] at htk
              rw [← hy] at htk
              have hyb : 0 ≤ y ∧ y ≤ 4611686018427387904 := by omega
              have HTK := Lib.hid htk
              clear hy1 hy2 hy3 hy4 hgood hy htk HTAKE HC4 HCELL
              go_wp2_with (at_builtin; refine wpList_append_own _ rfl (.tmp 55) (.tmp 57) 39 rfl w.heap.size 3 i0 _ 1 8 Try.underlying39 hi0 hz0 hz1 hz2 rfl (by omega) _ k (ints acc) rfl (HOWN4.out.alloc _) ⟨w4.heap.size, 0, none⟩ 1 1 [.int .i64 y] rfl rfl (news_at w4 [.int .i64 y] 3) (by intro u hu; simp at hu; subst hu; rfl) (by unfold maxLen; omega) (by omega) (by simp; omega) ?_)
              intro v5 w5 hown5 hg5 _
              have hb5 : Below w.heap.size w4 w5 := ((Below.refl _ w4).alloc (by omega) _).grown hg5 (by simp; omega) fun k hk => (HOWN4.out.lt k hk).1
              have hfin : RefGetRRel A m c l many w r (.int .i64 (q2 : Int)) (.slice none 0 0) (.int .i64 0) (.int .i64 0) v5 (.int .i64 ((k : Int) + 1)) w5 :=
                ⟨rfl, rfl, rfl, acc ++ [y], y, q2, k + 1, by omega, by simp, rfl, by simp [HA.out], by omega, by omega, by omega, by omega, fun h => by omega, fun _ => by simp [HA.out],
                  by rw [← hjk.out]; exact HTK.out, by rw [show ints (acc ++ [y]) = ints acc ++ [.int .i64 y] by simp [ints]]; exact hown5, HB4.out.trans hb5⟩
              have HF := Lib.hid hfin
              clear hfin hb5 hg5 hown5
              go_wp2
              go_roundw
              case rel => exact HF.out
              case measure => simp [intOf]; omega
            · have hres : z = ([], 0, 2) := by rw [HRES.out, HTAKE.out, if_pos (.inr (by omega))]; rfl
              have HR2 := Lib.hid hres
              have hbad := hy2 (by omega)
              clear hres hy1 hy2 hgood HTAKE HC4 HCELL
              rcases hbad with hyneg | hybig
              · have hd1 : decide (y < 0) = true := decide_eq_true hyneg
                go_wp2
                go_ret3
                rw [HR2.out]
                exact ⟨_, rfl, World.ownsRow_nil _ _ _ _, HB4.out⟩
              · have hd1 : decide (y < 0) = false := decide_eq_false (by omega)
                go_wp2
                go_ret3
                rw [HR2.out]
                exact ⟨_, rfl, World.ownsRow_nil _ _ _ _, HB4.out⟩
      · have hkm : many - k = 0 := by omega
        rw [hkm, takeR] at htake
        have hres : z = (acc, (q : Int), 0) := by rw [HRES.out, htake]; rfl
        have HR2 := Lib.hid hres
        have HA := Lib.hid hacc
        clear hres htake hkm hacc
        go_wp2
        go_ret3
        rw [HR2.out]
        refine ⟨_, rfl, ?_, hbw⟩
        simp only
        rw [HA.out]
        exact hown
end Go.Proofs.Ytfhjnblcnkjooaa
