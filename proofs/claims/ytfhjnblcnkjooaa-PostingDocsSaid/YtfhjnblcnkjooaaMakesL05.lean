/- The walk of PostingMakes, out of what package posting's calls give. -/
import Derived.Test.YtfhjnblcnkjooaaLives05
namespace Go.Proofs.Ytfhjnblcnkjooaa
open Go Go.RowKit
set_option linter.unusedVariables false

theorem OwnPo.room {E : TypeId} {base : Nat} {w : World} {v : Value} {l : List Po} (h : OwnPo E base w v l) : ∃ A c, v = .slice A l.length c ∧ l.length ≤ c ∧ c ≤ maxLen ∧ Posts w w.heap.size A l := by
  obtain ⟨A, c, rfl, h1, h2⟩ := h.posts
  refine ⟨A, c, rfl, h1, ?_, h2⟩
  obtain ⟨cs, h3, _⟩ := h
  rcases h3.2 with ⟨h4, _⟩ | ⟨g, cap, cur, h4, _, _, _, h5, _⟩
  · injection h4 with _ _ h4; omega
  · injection h4 with _ _ h4; rw [h4]; exact h5
theorem fewP_length (l : List Po) : (fewP l).length ≤ 10 := by
  unfold fewP
  rw [List.length_map]
  exact List.length_take_le 10 l
theorem fewP_places (l : List Po) : ∀ q ∈ fewP l, q.2.length ≤ 10 := by
  intro q hq
  obtain ⟨p, _, rfl⟩ := List.mem_map.1 hq
  exact List.length_take_le 10 _
/-- What is known of postings that are made such as may be. -/
theorem good40 (z : List Po) (most : Nat) (hm : most ≤ 100) : (goodP (-1) (z.take most)).length ≤ most ∧ mayB' (-1) (goodP (-1) (z.take most)) = true ∧ (∀ q ∈ goodP (-1) (z.take most), q.2.length ≤ 5 ∧ 0 < q.2.length) ∧ (bytesP (-1) (goodP (-1) (z.take most))).length ≤ 10000 := by
  have h1 : (goodP (-1) (z.take most)).length ≤ most := by rw [goodP_length]; exact List.length_take_le _ _
  have hl := List.length_take_le most z
  obtain ⟨h2, h3⟩ := goodP_may (z.take most) (-1) (by omega) (by omega)
  have h4 := bytesP_length _ (-1) (by omega) h2 (fun p hp => by have := (h3 p hp).1; omega)
  have h5 := totalP_le (n := 5) fun p hp => (h3 p hp).1
  refine ⟨h1, h2, h3, ?_⟩
  omega
theorem make_any (PO : PostingOk) (A : Option Addr) (n c : Nat) (l : List Po) (w : World) (h1 : l.length = n) (h2 : n ≤ c) (h3 : c ≤ maxLen) (h4 : n ≤ 100) (h5 : Posts w w.heap.size A l) (h6 : ∀ q ∈ l, q.2.length ≤ 20) :
    Calls Try.prog 10 #[.slice A n c] w fun e w' => ∃ po er, e = .returned (.tuple #[.pointer po, .int .i64 er]) ∧ (mayB' (-1) l = true ∧ er = 0 ∨ mayB' (-1) l = false ∧ er = 1 ∧ po = none) ∧ Below w.heap.size w w' := by
  rcases hm : mayB' (-1) l with _ | _
  · refine (PO.make_no A n c l w h1 h2 h3 h4 h5 h6 hm).mono ?_
    rintro e w' ⟨rfl, hb⟩
    exact ⟨_, _, rfl, .inr ⟨rfl, rfl, rfl⟩, hb⟩
  · refine (PO.make_ok A n c l w h1 h2 h3 h4 h5 h6 hm).mono ?_
    rintro e w' ⟨p, L, rfl, _, _, hb⟩
    exact ⟨_, _, rfl, .inl ⟨rfl, rfl⟩, hb⟩

set_option maxHeartbeats 2000000 in
set_option maxRecDepth 100000 in
theorem makes_of (PO : PostingOk) (a0 : Option Addr) (len0 cap0 : Nat) (z0 : List Po) (w : World) (w0 : InPosts w a0 len0 cap0 z0) :
    Calls Try.prog 3 #[.slice a0 len0 cap0] w fun e w' => e = .returned (.bool true) ∧ Below w.heap.size w w' := by
  have HW0 := Lib.hid w0
  clear w0
  go_enter Try.func3, Try.ntmps3
  go_wp2_with (go_at_call 8; refine (law05_few a0 len0 cap0 z0 _ HW0.out).mono ?_)
  rintro e w1 ⟨v1, rfl, hown1, hb1⟩
  obtain ⟨A1, c1, rfl, hc1, hx1, hp1⟩ := hown1.room
  have hfl := fewP_length z0
  have hfp := fewP_places z0
  obtain ⟨x, hx⟩ : ∃ x, x = fewP z0 := ⟨_, rfl⟩
  rw [← hx] at hc1 hp1 hfl hfp
  rw [← hx]
  obtain ⟨n1, hn1⟩ : ∃ n1, n1 = x.length := ⟨_, rfl⟩
  rw [← hn1] at hc1 hfl
  rw [← hn1]
  have HN1 := Lib.hid hn1
  have HFP := Lib.hid hfp
  have HP1 := Lib.hid hp1
  have HB1 := Lib.hid hb1
  have hs1 := hb1.size
  clear hown1 hx hn1 hfp hp1 hb1
  go_wp2_with (go_at_call 9; refine (ref05_May A1 n1 c1 x w1 HN1.out.symm (by omega) HP1.out (fun q hq => by have := HFP.out q hq; omega)).mono ?_)
  rintro e w2 ⟨rfl, hb2⟩
  have HP2 := Lib.hid (HP1.out.later hb2)
  have HB2 := Lib.hid (HB1.out.trans (hb2.mono hs1))
  clear hb2
  go_wp2_with (go_at_call 10; refine (make_any PO A1 n1 c1 x w2 HN1.out.symm hc1 hx1 (by omega) HP2.out (fun q hq => by have := HFP.out q hq; omega)).mono ?_)
  rintro e w3 ⟨po, er, rfl, hcase, hb3⟩
  have HP3 := Lib.hid (HP2.out.later hb3)
  have HB3 := Lib.hid (HB2.out.trans (hb3.mono HB2.out.size))
  have hs3 := HB3.out.size
  clear hb3
  obtain ⟨mb, hmb⟩ : ∃ mb, mb = mayB' (-1) x := ⟨_, rfl⟩
  have my := PO.may A1 n1 c1 x w3 HN1.out.symm hc1 hx1 (by omega) HP3.out (fun q hq => by have := HFP.out q hq; omega)
  rw [← hmb] at hcase my
  rw [← hmb]
  have MY := Lib.hid my
  clear hmb my
  go_upto_region 4 with fail
  go_cut [40] from 19 to 40 (fun t wx => t = .bool false ∧ Below w3.heap.size w3 wx)
  case first =>
    rcases hcase with ⟨rfl, rfl⟩ | ⟨rfl, rfl, rfl⟩
    · go_wp2_with (go_at_call 11; refine MY.out.mono ?_; rintro e w4 ⟨rfl, hb4⟩)
      go_meet
      exact ⟨rfl, hb4⟩
    · go_wp2_with (go_at_call 11; refine MY.out.mono ?_; rintro e w4 ⟨rfl, hb4⟩)
      go_meet
      exact ⟨rfl, hb4⟩
  case rest =>
    obtain ⟨rfl, hb4⟩ := hcut
    have HB4 := Lib.hid (HB3.out.trans (hb4.mono hs3))
    have hs4 := HB4.out.size
    clear hb4 hcase MY
    go_wp2_with (go_at_call 12; refine (ref05_Good a0 len0 cap0 z0 40 _ (HW0.out.below HB4.out) (by omega)).mono ?_)
    rintro e w5 ⟨v5, rfl, hown5, hb5⟩
    obtain ⟨A5, c5, rfl, hc5, hx5, hp5⟩ := hown5.room
    obtain ⟨hg1, hg2, hg3, hg4⟩ := good40 z0 40 (by omega)
    obtain ⟨g, hg⟩ : ∃ g, g = goodP (-1) (z0.take 40) := ⟨_, rfl⟩
    rw [← hg] at hc5 hp5 hg1 hg2 hg3 hg4
    rw [← hg]
    obtain ⟨n5, hn5⟩ : ∃ n5, n5 = g.length := ⟨_, rfl⟩
    rw [← hn5] at hc5 hg1
    rw [← hn5]
    have HN5 := Lib.hid hn5
    have HG2 := Lib.hid hg2
    have HG3 := Lib.hid hg3
    have HG4 := Lib.hid hg4
    have HP5 := Lib.hid hp5
    have HB5 := Lib.hid (HB4.out.trans (hb5.mono hs4))
    clear hown5 hg hn5 hg2 hg3 hg4 hp5 hb5
    go_wp2_with (go_at_call 10; refine (PO.make_ok A5 n5 c5 g w5 HN5.out.symm hc5 hx5 (by omega) HP5.out (fun q hq => by have := (HG3.out q hq).1; omega) HG2.out).mono ?_)
    rintro e w6 ⟨p, L, rfl, LC, hL, hb6⟩
    have HLC := Lib.hid LC
    have HL6 := Lib.hid hL
    have HP6 := Lib.hid (HP5.out.later hb6)
    have HB6 := Lib.hid (HB5.out.trans (hb6.mono HB5.out.size))
    have my2 := PO.may A5 n5 c5 g w6 HN5.out.symm hc5 hx5 (by omega) HP6.out (fun q hq => by have := (HG3.out q hq).1; omega)
    rw [HG2.out] at my2
    have MY2 := Lib.hid my2
    clear LC hL hb6 my2
    go_wp2_with (go_at_call 11; refine MY2.out.mono ?_)
    rintro e w7 ⟨rfl, hb7⟩
    have HL7 := Lib.hid (HLC.out.stays _ _ HL6.out hb7)
    have HP7 := Lib.hid (HP6.out.later hb7)
    have HB7 := Lib.hid (HB6.out.trans (hb7.mono HB6.out.size))
    clear hb7
    go_wp2_with (go_at_call 13; refine (law05_same p g L HLC.out A5 n5 c5 w7 HL7.out HN5.out.symm hc5 hx5 (by omega) HP7.out HG2.out (fun q hq => by have := (HG3.out q hq).1; omega) (by have := HG4.out; omega)).mono ?_)
    rintro e w8 ⟨rfl, hb8⟩
    have HB8 := Lib.hid (HB7.out.trans (hb8.mono HB7.out.size))
    clear hb8
    go_wp2_with (go_at_call 14; refine (law05_lives PO _).mono ?_; rintro e w9 ⟨rfl, hb9⟩)
    go_wp2
    go_ret
    exact ⟨rfl, HB8.out.trans (hb9.mono HB8.out.size)⟩
end Go.Proofs.Ytfhjnblcnkjooaa
