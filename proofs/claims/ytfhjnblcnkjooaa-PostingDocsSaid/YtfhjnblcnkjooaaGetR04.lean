/- What package vint's GetRising answers: the rising numbers at a place. -/
import Derived.Test.YtfhjnblcnkjooaaGet04
import Derived.Test.YtfhjnblcnkjooaaRises04
namespace Go.Proofs.Ytfhjnblcnkjooaa
open Go Go.RowKit
set_option linter.unusedVariables false

theorem Taker.keep {Be Bb Ba : Nat} {A : Option Addr} {m c : Nat} {e a : Int} {w w' : World} (h : Taker Be Bb Ba A m c e a w) {B : Nat} (hb : Below B w w') (h1 : Be < B) (h2 : Bb < B) (h3 : Ba < B) : Taker Be Bb Ba A m c e a w' :=
  ⟨(hb.block _ h1).trans h.err, (hb.block _ h2).trans h.bytes, (hb.block _ h3).trans h.place⟩

/-- Behind k of so many rising numbers. -/
def GetRRel (B0 base : Nat) (A : Option Addr) (m c : Nat) (l : List UInt8) (many : Nat) (w : World) (r : Option (List Int × Nat)) (at_ r4 r5 r6 e vl last i : Value) (wr : World) : Prop :=
  r4 = .slice none 0 0 ∧ r5 = .int .i64 0 ∧ r6 = .int .i64 0 ∧ e = .int .i64 0 ∧ ∃ (acc : List Int) (x : Int) (a k : Nat), k ≤ many ∧ i = .int .i64 (k : Int) ∧ last = .int .i64 x ∧ at_ = .int .i64 (a : Int) ∧ acc.length = k ∧ k ≤ a ∧ a ≤ m ∧ -1 ≤ x ∧ x ≤ 4611686018427387904 ∧
    r = takeR l (many - k) x a acc ∧ wr.ownsRow base 3 1 vl k (ints acc) ∧ Taker (B0 + 2) B0 (B0 + 1) A m c 0 a wr ∧ Below B0 w wr ∧ base ≤ wr.heap.size

set_option maxHeartbeats 2000000 in
set_option maxRecDepth 100000 in
theorem vint_GetRising (A : Option Addr) (m c : Nat) (a : Int) (l : List UInt8) (w : World) (hr : Row w w.heap.size A (Lib.byteCells l)) (hm : l.length = m) (hc : m ≤ c) (hcx : c ≤ maxLen) (hl : m ≤ 1073741823) :
    Calls Try.prog 49 #[.slice A m c, .int .i64 a] w (GaveR (risZ l a) w) := by
  obtain ⟨i0, hi0, hz0, hz1, hz2⟩ := info_parts info_int
  have HR := Lib.hid hr
  clear hr
  rcases getZ_split l a with ⟨e, hz, he⟩ | ⟨many, b, hz, hb, hmany⟩
  · have hres := risZ_err hz (by omega)
    rw [hres]
    have HZ := Lib.hid hz
    clear hz hres he
    go_enter Try.func49, Try.ntmps49
    go_wp2_with (go_at_call 53; refine (vint_taker A m c a _ (by omega)).mono ?_)
    rintro en w2 ⟨rfl, ht, hb, hs⟩
    have hr2 := HR.out.below hb
    have t1 := take_first _ _ _ A m c a l w2 ht (hr2.more (by omega)) hm hc hcx (by omega)
    rw [HZ.out] at t1
    have T1 := Lib.hid t1
    have HB := Lib.hid hb
    clear t1 hr2 ht hb
    go_wp2_with (go_at_call 54; refine T1.out.mono ?_)
    rintro en w3 ⟨rfl, _, h3⟩
    have HB3 := Lib.hid (HB.out.trans (h3.below (by omega) (by omega) (by omega)))
    clear h3
    go_wp2
    go_loop [1, 9, 10, 23] (fun t er vl i => t = .int .i64 0 ∧ er = .int .i64 e ∧ vl = .slice none 0 0 ∧ i = .int .i64 0) (fun _ _ _ _ => 0)
    case atStart => exact ⟨rfl, rfl, rfl, rfl⟩
    case round =>
      obtain ⟨rfl, rfl, rfl, rfl⟩ := hrel
      go_wp2
      go_ret3
      exact ⟨_, rfl, World.ownsRow_nil _ _ _ _, HB3.out⟩
  · have hres := risZ_ok hz
    obtain ⟨r, hr⟩ : ∃ r, r = takeR l many (-1) b [] := ⟨_, rfl⟩
    rw [← hr] at hres
    obtain ⟨z, hzz⟩ : ∃ z, z = risZ l a := ⟨_, rfl⟩
    rw [← hzz]
    rw [← hzz] at hres
    have HZ := Lib.hid hz
    have HRES := Lib.hid hres
    have HRR := Lib.hid hr
    clear hz hres hr hzz
    go_enter Try.func49, Try.ntmps49
    go_wp2_with (go_at_call 53; refine (vint_taker A m c a _ (by omega)).mono ?_)
    rintro en w2 ⟨rfl, ht, hb2, hs⟩
    have hr2 := HR.out.below hb2
    have t1 := take_first _ _ _ A m c a l w2 ht (hr2.more (by omega)) hm hc hcx (by omega)
    rw [HZ.out] at t1
    have T1 := Lib.hid t1
    have HB := Lib.hid hb2
    clear t1 hr2 ht hb2
    go_wp2_with (go_at_call 54; refine T1.out.mono ?_)
    rintro en w3 ⟨rfl, ⟨a', ht3, ha'⟩, h3⟩
    have ha3 : a' = (b : Int) := ha' rfl
    subst ha3
    have hs3 : w2.heap.size ≤ w3.heap.size := h3.2.2.2.1
    have HB3 := Lib.hid (HB.out.trans (h3.below (by omega) (by omega) (by omega)))
    have HT3 := Lib.hid ht3
    clear h3 ht3 ha'
    obtain ⟨B0, hB0⟩ : ∃ B0, B0 = w.heap.size := ⟨_, rfl⟩
    rw [← hB0] at HT3
    rw [← hB0] at HB3
    rw [← hB0] at hs
    rw [← hB0]
    have HB0 := Lib.hid hB0
    clear hB0
    go_wp2
    go_loopw [1, 4, 5, 6, 9, 10, 11, 23] (fun t r4 r5 r6 e vl last i wr => GetRRel B0 w2.heap.size A m c l many w r t r4 r5 r6 e vl last i wr) (fun _ _ _ _ _ _ _ i _ => many - (intOf i).toNat)
    case atStart => exact ⟨rfl, rfl, rfl, rfl, [], -1, b, 0, by omega, rfl, rfl, rfl, rfl, by omega, by omega, by omega, by omega, HRR.out, World.ownsRow_nil _ _ _ _, HT3.out, HB3.out, hs3⟩
    case round =>
      obtain ⟨rfl, rfl, rfl, rfl, acc, x, q, k, hk, rfl, rfl, rfl, hacc, hkq, hqm, hx0, hx1, htake, hown, ht, hbw, hsz⟩ := hrel
      by_cases hlt : k < many
      · obtain ⟨j, hj⟩ : ∃ j, many - k = j + 1 := ⟨many - k - 1, by omega⟩
        rw [hj, takeR] at htake
        have hbd := getF_bd (l.drop q)
        rw [List.length_drop, hm] at hbd
        have hrow := (HR.out.below (HB0.out ▸ hbw)).more (HB0.out ▸ hbw).size
        have HBW := Lib.hid hbw
        have HOWN := Lib.hid hown
        by_cases hbad : (getF (l.drop q)).2 = 0 ∨ 4611686018427387904 - (x + 1) < ((getF (l.drop q)).1 : Int)
        · rw [if_pos hbad] at htake
          have t1 := vint_take_bad (B0 + 2) B0 (B0 + 1) A m c q (4611686018427387904 - (x + 1)) l wr ht hrow hm hc hcx hqm (by omega) hbad
          have T1 := Lib.hid t1
          have hres : z = ([], 0, 2) := by rw [HRES.out, htake]; rfl
          have HR2 := Lib.hid hres
          clear hres t1 hbad htake hbd hj hrow hbw hown ht
          go_wp2_with (go_at_call 54; refine T1.out.mono ?_)
          rintro en w4 ⟨rfl, _, h4⟩
          have HB4 := Lib.hid (HBW.out.trans (h4.below (by have := HBW.out.size; omega) (by omega) (by omega)))
          clear h4
          go_wp2
          go_ret3
          rw [HR2.out]
          exact ⟨_, rfl, World.ownsRow_nil _ _ _ _, HB0.out ▸ HB4.out⟩
        · rw [if_neg hbad] at htake
          have t1 := vint_take_good (B0 + 2) B0 (B0 + 1) A m c q (4611686018427387904 - (x + 1)) l wr ht hrow hm hc hcx hqm (by omega) (by omega) (by omega)
          obtain ⟨f, hf⟩ : ∃ f, f = (getF (l.drop q)).1 := ⟨_, rfl⟩
          obtain ⟨g, hg⟩ : ∃ g, g = (getF (l.drop q)).2 := ⟨_, rfl⟩
          rw [← hf, ← hg] at t1 htake
          rw [← hf, ← hg] at hbd hbad
          have T1 := Lib.hid t1
          have HTK := Lib.hid htake
          have hfx : (f : Int) ≤ 4611686018427387904 - (x + 1) := by omega
          have hg1 : 1 ≤ g := by omega
          have hjk : Hid (j = many - (k + 1)) := Lib.hid (by omega)
          clear t1 hbad htake hj hrow hbw hown ht hf hg
          go_wp2_with (go_at_call 54; refine T1.out.mono ?_)
          rintro en w4 ⟨rfl, ht4, h4⟩
          have hs4 : wr.heap.size ≤ w4.heap.size := h4.2.2.2.1
          have hown4 := owned_aside HOWN.out (by omega) (by omega) (Nat.le_refl _) h4
          have HB4 := Lib.hid (HBW.out.trans (h4.below (by have := HBW.out.size; omega) (by omega) (by omega)))
          have HT4 := Lib.hid ht4
          have HOWN4 := Lib.hid hown4
          clear h4 ht4 hown4
          go_wp2_with (at_builtin; refine wpList_append_own _ rfl (.tmp 41) (.tmp 43) 39 rfl w2.heap.size 3 i0 _ 1 8 Try.underlying39 hi0 hz0 hz1 hz2 rfl (by omega) _ k (ints acc) rfl (HOWN4.out.alloc _) ⟨w4.heap.size, 0, none⟩ 1 1 [.int .i64 (x + ((f : Int) + 1))] rfl rfl (news_at w4 [.int .i64 (x + ((f : Int) + 1))] 3) (by intro u hu; simp at hu; subst hu; rfl) (by unfold maxLen; omega) (by omega) (by simp; omega) ?_)
          intro v5 w5 hown5 hg5 _
          have hb5 : Below w2.heap.size w4 w5 := ((Below.refl _ w4).alloc (by omega) _).grown hg5 (by simp; omega) fun k hk => (HOWN4.out.lt k hk).1
          have hfin : GetRRel B0 w2.heap.size A m c l many w r (.int .i64 ((q : Int) + (g : Int))) (.slice none 0 0) (.int .i64 0) (.int .i64 0) (.int .i64 0) v5 (.int .i64 (x + ((f : Int) + 1))) (.int .i64 ((k : Int) + 1)) w5 :=
            ⟨rfl, rfl, rfl, rfl, acc ++ [x + ((f : Int) + 1)], x + ((f : Int) + 1), q + g, k + 1, by omega, by simp, rfl, by simp, by simp [hacc], by omega, by omega, by omega, by omega,
              by rw [← hjk.out]; exact HTK.out, by rw [show ints (acc ++ [x + ((f : Int) + 1)]) = ints acc ++ [.int .i64 (x + ((f : Int) + 1))] by simp [ints], hs]; exact hown5,
              by rw [Int.natCast_add]; exact HT4.out.keep hb5 (by omega) (by omega) (by omega), HB4.out.trans (hb5.mono (by omega)), by have := hb5.size; omega⟩
          have HF := Lib.hid hfin
          clear hfin hb5 hg5 hown5
          go_wp2
          go_roundw
          case rel => exact HF.out
          case measure => simp [intOf]; omega
      · have hkm : many - k = 0 := by omega
        rw [hkm, takeR] at htake
        have hres : z = (acc, (q : Int), 0) := by rw [HRES.out, htake]; rfl
        have HR2 := Lib.hid hres
        have HA := Lib.hid hacc
        clear hres htake hkm hacc
        go_wp2
        go_ret3
        rw [HR2.out]
        refine ⟨_, rfl, ?_, HB0.out ▸ hbw⟩
        simp only
        rw [HA.out]
        exact owned_low hown (by rw [← HB0.out]; omega)
end Go.Proofs.Ytfhjnblcnkjooaa
