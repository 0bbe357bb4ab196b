/- The walks of PostingRound and PostingReads, out of what package posting's calls give. -/
import Derived.Test.YtfhjnblcnkjooaaMakesL05
namespace Go.Proofs.Ytfhjnblcnkjooaa
open Go Go.RowKit
set_option linter.unusedVariables false

theorem fits_same {a b : Int} {bs : List UInt8} {l g : List Po} (hb : bs.length ≤ 1000000) (h : Fits a bs l) (h2 : Fits b bs g) : l = g := by
  obtain ⟨h1, _, h3⟩ := h
  obtain ⟨g1, _, g3⟩ := h2
  refine bytesP_inj h1 g1 (fun p hp => ?_) (fun p hp => ?_) (h3.trans g3.symm)
  · have := bytes_places l (-1) p hp
    rw [h3] at this
    omega
  · have := bytes_places g (-1) p hp
    rw [g3] at this
    omega

set_option maxHeartbeats 2000000 in
set_option maxRecDepth 100000 in
theorem round_of (PO : PostingOk) (a0 : Option Addr) (len0 cap0 : Nat) (z0 : List Po) (a1 : Int) (w : World) (w0 : InPosts w a0 len0 cap0 z0) (w1 : (Lit.int .i64 a1).wf = true) :
    Calls Try.prog 5 #[.slice a0 len0 cap0, .int .i64 a1] w fun e w' => e = .returned (.bool true) ∧ Below w.heap.size w w' := by
  have HW0 := Lib.hid w0
  have hbd := wf_bd w1
  obtain ⟨d, hd, hneg, hpos⟩ := made_nat hbd
  have HN := Lib.hid hneg
  have HP := Lib.hid hpos
  clear w0 w1 hneg hpos
  go_enter Try.func5, Try.ntmps5
  go_wp2_with (go_at_call 12; refine (ref05_Good a0 len0 cap0 z0 40 _ HW0.out (by omega)).mono ?_)
  rintro e w5 ⟨v5, rfl, hown5, hb5⟩
  obtain ⟨A5, c5, rfl, hc5, hx5, hp5⟩ := hown5.room
  obtain ⟨hg1, hg2, hg3, hg4⟩ := good40 z0 40 (by omega)
  obtain ⟨g, hg⟩ : ∃ g, g = goodP (-1) (z0.take 40) := ⟨_, rfl⟩
  rw [← hg] at hc5 hp5 hg1 hg2 hg3 hg4
  rw [← hg]
  obtain ⟨n5, hn5⟩ : ∃ n5, n5 = g.length := ⟨_, rfl⟩
  rw [← hn5] at hc5 hg1
  rw [← hn5]
  have HN5 := Lib.hid hn5
  have HG2 := Lib.hid hg2
  have HG3 := Lib.hid hg3
  have HP5 := Lib.hid hp5
  have HB5 := Lib.hid hb5
  have hs5 := hb5.size
  have HG4 := Lib.hid hg4
  clear hown5 hg hn5 hg2 hg3 hp5 hb5 hg4
  go_wp2_with (go_at_call 17; refine (ref05_Bytes A5 n5 c5 g w5 HN5.out.symm (by omega) HP5.out HG2.out (fun q hq => by have := (HG3.out q hq).1; omega) (by have := HG4.out; omega)).mono ?_)
  rintro e w6 ⟨v6, rfl, hown6, hb6⟩
  obtain ⟨A6, c6, rfl, hc6, hx6, hr6⟩ := hown6.room
  obtain ⟨bs, hbs⟩ : ∃ bs, bs = bytesP (-1) g := ⟨_, rfl⟩
  have hg4 := HG4.out
  rw [← hbs] at hc6 hr6 hg4
  rw [← hbs]
  have HFIT : Hid (Fits (n5 : Int) bs g) := Lib.hid ⟨HG2.out, by rw [HN5.out], hbs.symm⟩
  have HNO : Hid (∀ (k : Int) (l : List Po), k ≠ n5 → ¬ Fits k bs l) := Lib.hid fun k l hk h => by
    have e := fits_same (by omega) h HFIT.out
    have h1 := h.2.1
    have h2 := HFIT.out.2.1
    rw [e] at h1
    omega
  obtain ⟨M, hM⟩ : ∃ M, M = bs.length := ⟨_, rfl⟩
  rw [← hM] at hc6 hg4
  rw [← hM]
  have HM := Lib.hid hM
  have HR6 := Lib.hid hr6
  have HB6 := Lib.hid (HB5.out.trans (hb6.mono hs5))
  have hs6 := HB6.out.size
  have HP6 := Lib.hid (HP5.out.later hb6)
  clear hown6 hbs hM hr6 hb6
  go_wp2_with (go_at_call 15; refine (PO.read_ok (n5 : Int) A6 M c6 bs g w6 HR6.out HM.out.symm hc6 hx6 (by omega) (by omega) (by omega) HFIT.out).mono ?_)
  rintro e w7 ⟨p, L, rfl, LC, hL, hb7⟩
  have HLC := Lib.hid LC
  have HL7 := Lib.hid hL
  have HR7 := Lib.hid ((HR6.out.below hb7).more hb7.size)
  have HP7 := Lib.hid (HP6.out.later hb7)
  have HB7 := Lib.hid (HB6.out.trans (hb7.mono hs6))
  clear LC hL hb7
  go_wp2_with (go_at_call 13; refine (law05_same p g L HLC.out A5 n5 c5 w7 HL7.out HN5.out.symm hc5 hx5 (by omega) HP7.out HG2.out (fun q hq => by have := (HG3.out q hq).1; omega) (by have := HG4.out; omega)).mono ?_)
  rintro e w8 ⟨rfl, hb8⟩
  go_upto_if 34 with fail
  go_cut [1] from 33 to 37 (fun s wx => s = .int .i64 (d : Int) ∧ w8 = wx)
  case first =>
    by_cases h0 : a1 < 0
    · have hng := HN.out h0
      go_wp2_with fail
      go_meet
      exact ⟨rfl, rfl⟩
    · have hng := HP.out (by omega)
      subst hng
      go_wp2_with fail
      go_meet
      exact ⟨rfl, rfl⟩
  case rest =>
    obtain ⟨rfl, rfl⟩ := hcut
    have HB8 := Lib.hid (HB7.out.trans (hb8.mono HB7.out.size))
    have HR8 := Lib.hid ((HR7.out.below hb8).more hb8.size)
    have hm0 : 0 ≤ (d : Int) % 5 := Int.emod_nonneg _ (by omega)
    have hm1 : (d : Int) % 5 < 5 := Int.emod_lt_of_pos _ (by omega)
    obtain ⟨k, hk⟩ : ∃ k, (d : Int) % 5 = k := ⟨_, rfl⟩
    rw [hk] at hm0 hm1
    clear hb8 hbd HN HP
    go_wp2_with (go_at_call 15; refine (PO.read_no ((n5 : Int) + (1 + k)) A6 M c6 bs w8 HR8.out HM.out.symm hc6 hx6 (by omega) (by omega) (by omega) (fun l => HNO.out _ l (by omega))).mono ?_)
    rintro e w9 ⟨rfl, hb9⟩
    have HB9 := Lib.hid (HB8.out.trans (hb9.mono HB8.out.size))
    have HR9 := Lib.hid ((HR8.out.below hb9).more hb9.size)
    clear hb9
    go_wp2_with (go_at_call 15; refine (PO.read_no ((n5 : Int) - (1 + k)) A6 M c6 bs w9 HR9.out HM.out.symm hc6 hx6 (by omega) (by omega) (by omega) (fun l => HNO.out _ l (by omega))).mono ?_)
    rintro e w10 ⟨rfl, hb10⟩
    have HB10 := Lib.hid (HB9.out.trans (hb10.mono HB9.out.size))
    clear hb10
    go_wp2_with (go_at_call 14; refine (law05_lives PO _).mono ?_; rintro e w11 ⟨rfl, hb11⟩)
    go_wp2
    go_ret
    exact ⟨rfl, HB10.out.trans (hb11.mono HB10.out.size)⟩
end Go.Proofs.Ytfhjnblcnkjooaa
