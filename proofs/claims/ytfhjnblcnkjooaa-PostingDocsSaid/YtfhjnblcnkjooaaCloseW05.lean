/- The list's close: a block is taken in. -/
import Derived.Test.YtfhjnblcnkjooaaClose05
import Derived.Test.YtfhjnblcnkjooaaSameL05
set_option linter.unusedVariables false
namespace Go.Proofs.Ytfhjnblcnkjooaa
open Go Go.RowKit

def CloseRel (base B : Nat) (bs : List UInt8) (es : List (Int × Nat)) (blk : List Po) (many total : Int) (w : World) (i : Value) (wr : World) : Prop :=
  ∃ k : Nat, k ≤ blk.length ∧ i = .int .i64 (k : Int) ∧ LMid wr base B bs es many (total + (totalP (blk.take k) : Int)) ∧ Mild base w wr

set_option maxHeartbeats 4000000 in
set_option maxRecDepth 100000 in
theorem close_mid (base B : Nat) (bs : List UInt8) (es : List (Int × Nat)) (many total : Int) (A : Option Addr) (m c : Nat) (blk : List Po) (cs : List Value) (z : Nat) (w : World) (h : LMid w base B bs es many total) (hm : blk.length = m) (hc : m ≤ c) (hcx : c ≤ maxLen)
    (hpc : PoCells (fun _ _ => True) blk cs) (hr : RowM base w A cs) (h0 : 0 < m) (hm8 : m ≤ 1000) (hes : es.length ≤ 1000000) (hmany : 0 ≤ many ∧ many ≤ 1000000000) (htot : 0 ≤ total ∧ total + (totalP blk : Int) ≤ 1000000000) (hz : z ≤ 1000000000) :
    Calls Try.prog 27 #[.pointer (some ⟨B, 0, none⟩), .slice A m c, .int .i64 (z : Int)] w fun e w' => (∃ v, e = .returned v) ∧
      LMid w' base B bs (es ++ [((blk.getD (m - 1) (0, [])).1, z)]) (many + (m : Int)) (total + (totalP blk : Int)) ∧ Mild base w w' := by
  obtain ⟨i0, hi0, hz0, hz1, hz2⟩ := info_parts info_end
  subst hm
  have hbase : base ≤ w.heap.size := by have := h.lt; have := h.1; omega
  obtain ⟨j, hj⟩ : ∃ j, j = blk.length - 1 := ⟨_, rfl⟩
  have hjm : j < blk.length := by omega
  obtain ⟨p0, p1⟩ := hpc.at_ hjm
  obtain ⟨b1, o1, e1, hb1, hcc⟩ := hr.at_ (by rw [hpc.len]; omega)
  have hcd := hcc _ _ p0
  obtain ⟨x, hx⟩ : ∃ x, x = (blk.getD j (0, [])).1 := ⟨_, rfl⟩
  rw [← hx] at hcd
  rw [← hj, ← hx]
  have hkj : IntKind.i64.wrap ((blk.length : Int) - 1) = (j : Int) := by rw [IntWalk.i64_in _ (by omega)]; omega
  have hwj : IntKind.i64.wrap (j : Int) = (j : Int) := IntWalk.i64_in _ (by omega)
  have hkj2 : (blk.length : Int) - 1 = (j : Int) := by omega
  obtain ⟨hB, vb, ve, hv, ho, he⟩ := h
  obtain ⟨⟨c0, c1, c2, c3⟩, f0, f1, f2, f3⟩ := cell_four hv
  obtain ⟨M, hM⟩ : ∃ M, M = blk.length := ⟨_, rfl⟩
  have HPC := Lib.hid hpc
  have HR := Lib.hid hr
  have HML := Lib.hid hM
  have hblt : B < w.heap.size := (Array.getElem?_eq_some_iff.1 hv).1
  have HV := Lib.hid hv
  have HO := Lib.hid ho
  have HE := Lib.hid he
  have HX := Lib.hid hx
  have hc1a : ∀ o, (w.alloc o).cell? ⟨B, 1, none⟩ = some ve := fun o => (((Below.refl w.heap.size w).alloc (Nat.le_refl _) o).cell (p := ⟨B, 1, none⟩) hblt).trans c1
  have hcda : ∀ o, (w.alloc o).cell? ⟨b1, o1 + j * 2, none⟩ = some (.int .i64 x) := fun o => (((Below.refl w.heap.size w).alloc (Nat.le_refl _) o).cell (p := ⟨b1, o1 + j * 2, none⟩) hb1).trans hcd
  subst e1
  rw [← hM] at hjm hc h0 hm8 hkj hkj2
  rw [← hM]
  clear hpc hr hM hv ho he hx p0 p1 hcc hj
  go_enter Try.func27, Try.ntmps27
  go_upto_region 0 with fail
  go_cut [] from 8 to 26 (fun wx => LMid wx base B bs (es ++ [(x, z)]) many total ∧ Mild base w wx)
  case first =>
    go_region_law (first
      | (refine step_append_lies _ (by rfl) _ _ _ (by rfl) base 55 i0 _ 2 16 Try.underlying47 hi0 hz0 hz1 hz2 rfl (by omega) ve es.length (endCells es) (by rfl) ((HE.out.alloc _).drew)
          ⟨w.heap.size, 0, none⟩ 1 1 [.int .i64 x, .int .i64 (z : Int)] (by rfl) (by rfl) (World.news_of_block (cs := #[.int .i64 x, .int .i64 (z : Int)]) (t := 55) (fr := (0, 0)) (heap_alloc_new w _)) (by intro u hu; simp at hu; rcases hu with hu | hu <;> (subst hu; rfl))
          (by omega) (by unfold maxLen; omega) (by omega) (by simp; omega) (w.heap.size + 1) (by simp) ?_
         intro gg cap w1 hown1 hgrow hat hlt
         obtain ⟨hv1, hmid, hmild⟩ := LMid.pushed hB HV.out HO.out HE.out (((Below.refl _ w).alloc (Nat.le_refl _) _).drew) hgrow hown1
         obtain ⟨⟨cB0, cB1, cB2, cB3⟩, fB0, fB1, fB2, fB3⟩ := cell_four hv1))
    all_goals
      go_wp2_with fail
      go_meet
      exact ⟨hmid, hmild⟩
  case rest =>
    clear hc1a hcda hcd c0 c1 c2 c3 f0 f1 f2 f3 hwj hkj hkj2 hjm HV HO HE hb1
    obtain ⟨hmid, hmild⟩ := hcut
    have hRM := HR.out.mild hmild
    obtain ⟨hn1, hn2⟩ := hmid.setMany (many + (M : Int))
    have HN1 := Lib.hid hn1
    have HN2 := Lib.hid (hmild.trans hn2)
    obtain ⟨_, vb', ve', hv', _, _⟩ := hmid
    obtain ⟨⟨c0, c1, c2, c3⟩, f0, f1, f2, f3⟩ := cell_four hv'
    clear hv' hn1 hn2 hmild hRM
    go_wp2
    go_loopw [37] (fun i wr => CloseRel base B bs (es ++ [(x, z)]) blk (many + (M : Int)) total w i wr) (fun i _ => M - (intOf i).toNat)
    case atStart => exact ⟨0, by omega, rfl, by simpa [totalP] using HN1.out, HN2.out⟩
    case round =>
      obtain ⟨k, hk, rfl, hmid, hmild⟩ := hrel
      by_cases hlt : k < M
      · have hrm := HR.out.mild hmild
        obtain ⟨q0, A2, c2, q1, hlc, hcx2, _⟩ := HPC.out.at_ (k := k) (by rw [← HML.out]; exact hlt)
        obtain ⟨b2, o2, e2, hb2, hcc⟩ := hrm.at_ (by rw [HPC.out.len, ← HML.out]; omega)
        have hq0 := hcc _ _ q0
        have hq1 := hcc _ _ q1
        rw [← Nat.add_assoc] at hq1
        injection e2 with e2
        injection e2 with e3 e4
        subst e3 e4
        have htk := totalP_take (l := blk) (k := k) (by rw [← HML.out]; exact hlt)
        have htl := totalP_le_take (l := blk) (k + 1)
        obtain ⟨q, hq⟩ : ∃ q, q = blk.getD k (0, []) := ⟨_, rfl⟩
        rw [← hq] at hq0 hq1 htk hlc
        obtain ⟨y, ps⟩ := q
        simp only at hq0 hq1 htk hlc
        obtain ⟨P, hP⟩ : ∃ P, P = ps.length := ⟨_, rfl⟩
        rw [← hP] at hq1 htk hlc
        obtain ⟨T, hT⟩ : ∃ T : Int, T = total + (totalP (blk.take k) : Int) := ⟨_, rfl⟩
        rw [← hT] at hmid
        have hT2 : T + (P : Int) = total + (totalP (blk.take (k + 1)) : Int) := by omega
        have hbr : base ≤ wr.heap.size := by have := hmild.below.size; omega
        have hal := (Below.refl wr.heap.size wr).alloc (Nat.le_refl _) (.cells #[.int .i64 y, .slice A2 P c2] 43)
        have hma := hmid.below hal
        have hmd := hma.below (Below.refl _ (wr.alloc (.cells #[.int .i64 y, .slice A2 P c2] 43))).drew
        obtain ⟨hn1, hn2⟩ := hmd.setTotal (T + (P : Int))
        have HN1 := Lib.hid hn1
        have HN2 := Lib.hid ((hmild.trans (Mild.of_below hal hbr)).trans ((Mild.of_below (Below.refl _ _).drew (by have := hal.size; omega)).trans hn2))
        have hT0 : 0 ≤ T := by omega
        have hTP : T + (P : Int) ≤ 1000000000 := by omega
        obtain ⟨_, vb', ve', hv', _, _⟩ := hma
        obtain ⟨⟨d0, d1, d2, d3⟩, g0, g1, g2, g3⟩ := cell_four hv'
        have HT2 := Lib.hid hT2
        clear hv' hn1 hn2 hmild hmid hmd hal hrm q0 q1 hcc hT hT2 htk htl hq hP
        have h8 := HN1.out
        rw [HT2.out] at h8
        have H8 := Lib.hid h8
        clear h8
        go_wp2
        go_region_law (fail)
        all_goals
          go_wp2
          go_roundw
          case rel => exact ⟨k + 1, by have := HML.out; omega, by simp, by first | exact H8.out | (have h8 := H8.out; rw [← HT2.out] at h8 ⊢; exact h8), HN2.out⟩
          case measure => simp [intOf]; omega
      · obtain rfl : k = M := by have := HML.out; omega
        rw [List.take_of_length_le (by have := HML.out; omega)] at hmid
        have H8 := Lib.hid hmid
        have H9 := Lib.hid hmild
        clear hmid hmild
        go_wp2
        go_end0
        exact ⟨⟨_, rfl⟩, H8.out, H9.out⟩

/-- A block that is taken in behind full blocks. -/
theorem list_close (base B : Nat) (bs : List UInt8) (l blk : List Po) (n : Nat) (A : Option Addr) (m c : Nat) (cs : List Value) (z : Nat) (w : World) (h : LAt w base B bs l) (hl : l.length = 8 * n) (hm : blk.length = m) (hc : m ≤ c) (hcx : c ≤ maxLen)
    (hpc : PoCells (fun _ _ => True) blk cs) (hr : RowM base w A cs) (h0 : 0 < m) (hm8 : m ≤ 8) (hll : l.length ≤ 1000000) (htot : totalP (l ++ blk) ≤ 1000000000) (hz : z = (bytesP (-1) (l ++ blk)).length) (hzb : z ≤ 1000000000) :
    Calls Try.prog 27 #[.pointer (some ⟨B, 0, none⟩), .slice A m c, .int .i64 (z : Int)] w fun e w' => (∃ v, e = .returned v) ∧ LAt w' base B bs (l ++ blk) ∧ Mild base w w' := by
  have hb := blocksP_push hl (b := blk) (by omega) (by omega)
  have hmid := lat_mid.1 h
  rw [totalP_append] at htot
  refine (close_mid base B bs _ _ _ A m c blk cs z w hmid hm hc hcx hpc hr h0 (by omega) (by rw [endsC_length]; unfold blocksP; omega) (by omega) (by omega) hzb).mono ?_
  rintro e w' ⟨h1, h2, h3⟩
  refine ⟨h1, lat_mid.2 ?_, h3⟩
  rw [hb.2, endsC_push hl (by omega) (by omega), totalP_append, List.length_append, hm, docOf_append, docOf_getD (by omega), hm, ← hz]
  rw [hb.1] at h2
  have e1 : ((l.length + m : Nat) : Int) = (l.length : Int) + (m : Int) := by omega
  have e2 : ((totalP l + totalP blk : Nat) : Int) = (totalP l : Int) + (totalP blk : Int) := by omega
  rw [e1, e2]
  exact h2
end Go.Proofs.Ytfhjnblcnkjooaa
