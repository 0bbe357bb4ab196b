/- The walk of MatchJoins. -/
import Derived.Test.YtldcadpemnpbmaaJoinW13
import Derived.Deep.CutRange
set_option linter.unusedVariables false
namespace Go.Proofs.Ytldcadpemnpbmaa
open Go Go.RowKit

set_option maxHeartbeats 8000000 in
set_option maxRecDepth 100000 in
theorem walk_MatchJoins (A0 : Option Addr) (n0 c0 : Nat) (z0 : List (Int × Int)) (A1 : Option Addr) (n1 c1 : Nat) (z1 : List (Int × Int)) (k : Int) (w : World) (h0 : InRaw w A0 n0 c0 z0) (h1 : InRaw w A1 n1 c1 z1) (hk : (Lit.int .i64 k).wf = true) :
    Calls Try.prog 3 #[.slice A0 n0 c0, .slice A1 n1 c1, .int .i64 k] w fun e w' => e = .returned (.bool true) ∧ Below w.heap.size w w' := by
  obtain ⟨f, hf, hneg, hpos⟩ := made_nat (wf_bd hk)
  have hkb := wf_bd hk
  obtain ⟨hkb1, hkb2⟩ := hkb
  have C0 := Lib.hid (ref13_Good A0 n0 c0 z0 w h0)
  have C1 : Hid (∀ w1, Below w.heap.size w w1 → Calls Try.prog 6 #[.slice A1 n1 c1, .int .i64 20] w1 (GaveGood w1)) := Lib.hid fun w1 hb => ref13_Good A1 n1 c1 z1 w1 (h1.later hb)
  have HNEG := Lib.hid hneg
  have HPOS := Lib.hid hpos
  clear h0 h1 hk hneg hpos
  go_enter Try.func3, Try.ntmps3
  go_wp2_with (go_at_call 6; (with_reducible refine C0.out.mono ?_))
  rintro e w1 ⟨v1, g, m, rfl, hm, hg, ho1, hb1⟩
  have hin1 := ho1.in_
  obtain ⟨B1, d1, rfl, -, -, -⟩ := hin1
  have CC := Lib.hid (C1.out w1 hb1)
  have HB1 := Lib.hid hb1
  have HO1 := Lib.hid ho1
  have HG := Lib.hid (And.intro hg hm)
  clear hg ho1 hb1 hm
  go_wp2_with (go_at_call 6; (with_reducible refine CC.out.mono ?_))
  rintro e w2 ⟨v2, g2, m2, rfl, hm2, hg2, ho2, hb2⟩
  have hin2 := ho2.in_
  obtain ⟨B2, d2, rfl, -, -, -⟩ := hin2
  have I1 : Hid (∀ w', Below w2.heap.size w2 w' → InFo w' (.slice B1 g.length d1) g ∧ InFo w' (.slice B2 g2.length d2) g2) := Lib.hid fun w' hb => ⟨((HO1.out.in_).later hb2).later hb, ho2.in_.later hb⟩
  have HB2 : Hid (Below w.heap.size w w2) := Lib.hid (HB1.out.trans (hb2.mono HB1.out.size))
  have HG2 := Lib.hid (And.intro hg2 hm2)
  clear ho2 hb2 hg2 hm2 HO1
  have hlen : g.length ≤ 20 ∧ g2.length ≤ 20 := by rw [HG.out.1.len, HG2.out.1.len]; exact ⟨HG.out.2, HG2.out.2⟩
  have HLN := Lib.hid hlen
  obtain ⟨gl, hgl⟩ : ∃ gl, gl = g.length := ⟨_, rfl⟩
  obtain ⟨gl2, hgl2⟩ : ∃ gl2, gl2 = g2.length := ⟨_, rfl⟩
  rw [← hgl, ← hgl2] at I1
  rw [← hgl, ← hgl2]
  clear hlen hgl hgl2
  go_upto_if 14 with fail
  go_cut [2] from 13 to 17 (fun s wx => s = .int .i64 (f : Int) ∧ w2 = wx)
  case first =>
    by_cases hk0 : k < 0
    · have hng := HNEG.out (by omega)
      go_wp2_with fail
      go_meet
      exact ⟨rfl, rfl⟩
    · have hng := HPOS.out (by omega)
      subst hng
      go_wp2_with fail
      go_meet
      exact ⟨rfl, rfl⟩
  case rest =>
    obtain ⟨rfl, rfl⟩ := hcut
    clear hkb1 hkb2
    obtain ⟨q, hq⟩ : ∃ q : Nat, (f : Int) % 101 = (q : Int) := ⟨f % 101, by omega⟩
    have hq1 : q ≤ 100 := by omega
    obtain ⟨la, hla⟩ : ∃ la, la = andF g g2 := ⟨_, rfl⟩
    obtain ⟨lo, hlo⟩ : ∃ lo, lo = orF g g2 := ⟨_, rfl⟩
    obtain ⟨ln, hln⟩ : ∃ ln, ln = notF g q := ⟨_, rfl⟩
    have O := fun w' (hb : Below w2.heap.size w2 w') => good_ops HG.out.1 HG2.out.1 HG.out.2 HG2.out.2 (I1.out w' hb).1 (I1.out w' hb).2
    have N := fun w' (hb : Below w2.heap.size w2 w') => good_nots HG.out.1 HG.out.2 (n := q) (by omega) (I1.out w' hb).1
    rw [← hla, ← hlo] at O
    rw [← hln] at N
    have hll : la.length ≤ 1099511627776 ∧ lo.length ≤ 1099511627776 ∧ ln.length ≤ 1099511627776 := by
      have h1 := kept_len andB g g2
      have h2 := kept_len orB g g2
      have h3 := not_len HG.out.1.rise q
      have := HLN.out
      refine ⟨?_, ?_, ?_⟩
      · rw [hla]; unfold andF; omega
      · rw [hlo]; unfold orF; omega
      · rw [hln]; omega
    have HLL := Lib.hid hll
    have HO := Lib.hid O
    have HN := Lib.hid N
    have HLV := Lib.hid law13_lives
    clear O N hll hla hlo hln
    go_wp2_with (first
      | (go_at_call 8; (with_reducible refine (HO.out w2 (Below.refl _ _)).1.mono ?_); rintro e w3 ⟨u3, rfl, o3, hb3⟩; have i3 := Lib.hid o3.in_; have HB3 : Hid (Below w2.heap.size w2 w3) := Lib.hid hb3; obtain ⟨X3, y3, rfl, -, -⟩ := owned_row o3; clear o3 hb3)
      | (go_at_call 9; (with_reducible refine (HO.out w3 HB3.out).2.2.1.mono ?_); rintro e w4 ⟨u4, rfl, o4, hb4⟩; have i4 := Lib.hid o4.in_; have j3 := Lib.hid (i3.out.later hb4); have HB4 : Hid (Below w2.heap.size w2 w4) := Lib.hid (HB3.out.trans (hb4.mono HB3.out.size)); obtain ⟨X4, y4, rfl, -, -⟩ := owned_row o4; clear o4 hb4)
      | (go_at_call 7; (with_reducible refine (same_true _ _ la w4 j3.out i4.out HLL.out.1).mono ?_); rintro e w5 ⟨rfl, hb5⟩; have HB5 : Hid (Below w2.heap.size w2 w5) := Lib.hid (HB4.out.trans (hb5.mono HB4.out.size)); clear hb5)
      | (go_at_call 10; (with_reducible refine (HO.out w5 HB5.out).2.1.mono ?_); rintro e w6 ⟨u6, rfl, o6, hb6⟩; have i6 := Lib.hid o6.in_; have HB6 : Hid (Below w2.heap.size w2 w6) := Lib.hid (HB5.out.trans (hb6.mono HB5.out.size)); obtain ⟨X6, y6, rfl, -, -⟩ := owned_row o6; clear o6 hb6)
      | (go_at_call 9; (with_reducible refine (HO.out w6 HB6.out).2.2.2.mono ?_); rintro e w7 ⟨u7, rfl, o7, hb7⟩; have i7 := Lib.hid o7.in_; have j6 := Lib.hid (i6.out.later hb7); have HB7 : Hid (Below w2.heap.size w2 w7) := Lib.hid (HB6.out.trans (hb7.mono HB6.out.size)); obtain ⟨X7, y7, rfl, -, -⟩ := owned_row o7; clear o7 hb7)
      | (go_at_call 7; (with_reducible refine (same_true _ _ lo w7 j6.out i7.out HLL.out.2.1).mono ?_); rintro e w8 ⟨rfl, hb8⟩; have HB8 : Hid (Below w2.heap.size w2 w8) := Lib.hid (HB7.out.trans (hb8.mono HB7.out.size)); clear hb8)
      | (go_at_call 11; (with_reducible refine (HN.out w8 HB8.out).1.mono ?_); rintro e w9 ⟨u9, rfl, o9, hb9⟩; have i9 := Lib.hid o9.in_; have HB9 : Hid (Below w2.heap.size w2 w9) := Lib.hid (HB8.out.trans (hb9.mono HB8.out.size)); obtain ⟨X9, y9, rfl, -, -⟩ := owned_row o9; clear o9 hb9)
      | (go_at_call 12; (with_reducible refine (HN.out w9 HB9.out).2.mono ?_); rintro e w10 ⟨u10, rfl, o10, hb10⟩; have i10 := Lib.hid o10.in_; have j9 := Lib.hid (i9.out.later hb10); have HB10 : Hid (Below w2.heap.size w2 w10) := Lib.hid (HB9.out.trans (hb10.mono HB9.out.size)); obtain ⟨X10, y10, rfl, -, -⟩ := owned_row o10; clear o10 hb10)
      | (go_at_call 7; (with_reducible refine (same_true _ _ ln w10 j9.out i10.out HLL.out.2.2).mono ?_); rintro e w11 ⟨rfl, hb11⟩; have HB11 : Hid (Below w2.heap.size w2 w11) := Lib.hid (HB10.out.trans (hb11.mono HB10.out.size)); clear hb11)
      | (go_at_call 13; (with_reducible refine (match_Count _ _ _ _).mono ?_); rintro e w12 ⟨rfl, hb12⟩; have HB12 : Hid (Below w2.heap.size w2 w12) := Lib.hid (HB11.out.trans (hb12.mono HB11.out.size)); clear hb12)
      | (go_at_call 14; (with_reducible refine (HLV.out _).mono ?_); rintro e w13 ⟨rfl, hb13⟩; have HB13 : Hid (Below w2.heap.size w2 w13) := Lib.hid (HB12.out.trans (hb13.mono HB12.out.size)); clear hb13))
    go_ret
    exact ⟨rfl, HB2.out.trans (HB13.out.mono HB2.out.size)⟩
end Go.Proofs.Ytldcadpemnpbmaa
