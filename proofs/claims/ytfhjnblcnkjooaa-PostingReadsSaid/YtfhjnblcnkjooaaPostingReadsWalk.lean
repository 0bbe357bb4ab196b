/- PostingReads, walked: true for every input. -/
import Derived.Test.YtfhjnblcnkjooaaOk05
set_option linter.unusedVariables false
namespace Go.Proofs.Ytfhjnblcnkjooaa
open Go Go.RowKit

/-- The tail of PostingReads, where there is such a list. -/
def ReadSame (mk : Int) (A : Option Addr) (m c : Nat) (l : List Po) (w : World) (e : Ending) (w' : World) : Prop :=
  ∃ A' c', e = .returned (.tuple #[.slice A' l.length c', .int .i64 0]) ∧ l.length ≤ c' ∧ c' ≤ maxLen ∧ Posts w' w'.heap.size A' l ∧ Below w.heap.size w w'

set_option maxHeartbeats 4000000 in
set_option maxRecDepth 100000 in
theorem walk_PostingReads (a0 : Int) (a1 : Option Addr) (len1 cap1 : Nat) (z1 : List Int) (w : World) (w0 : (Lit.int .i64 a0).wf = true) (w1 : InRow .u8 w a1 len1 cap1 z1) :
    Calls Try.prog 4 #[.int .i64 a0, .slice a1 len1 cap1] w fun e w' => e = .returned (.bool true) ∧ Below w.heap.size w w' := by
  have hbd := wf_bd w0
  obtain ⟨hmc, hcx, hzl, hr, hz⟩ := w1
  obtain ⟨bs, hbs, hbl⟩ := bytes_of_ints hz
  rw [hbs] at hr
  have hbl2 : bs.length = len1 := by rw [← hzl]; exact hbl
  have HR := Lib.hid hr
  have HBL := Lib.hid hbl2
  have hnone : len1 = 0 ∨ ∃ b off, a1 = some ⟨b, off, none⟩ := by
    rcases Nat.eq_zero_or_pos len1 with h0 | h0
    · exact .inl h0
    · obtain ⟨b, off, e, _⟩ := hr.at_ (by rw [Lib.byteCells_length]; omega)
      exact .inr ⟨b, off, e⟩
  clear hr hbs hz w0 hzl hbl hbl2
  unfold maxLen at hcx
  go_enter Try.func4, Try.ntmps4
  go_upto_if 10 with fail
  go_cut [0] from 9 to 13 (fun s wx => ∃ mk : Int, s = .int .i64 mk ∧ mk ≤ 60 ∧ -9223372036854775808 ≤ mk ∧ w = wx)
  case first =>
    by_cases h60 : 60 < a0
    · obtain ⟨d, rfl⟩ : ∃ d : Nat, a0 = (d : Int) := ⟨a0.toNat, by omega⟩
      go_wp2_with fail
      go_meet
      exact ⟨_, rfl, by omega, by omega, rfl⟩
    · go_wp2_with fail
      go_meet
      exact ⟨_, rfl, by omega, by omega, rfl⟩
  case rest =>
    obtain ⟨mk, rfl, hmk, hmk2, rfl⟩ := hcut
    clear hbd
    go_upto_if 15 with fail
    go_cut [1] from 13 to 18 (fun s wx => ∃ (m c : Nat), s = .slice a1 m c ∧ m = (bs.take 200).length ∧ m ≤ c ∧ c ≤ 9223372036854775807 ∧ w = wx)
    case first =>
      by_cases h2 : 200 < len1
      · obtain ⟨b, off, rfl⟩ := hnone.resolve_left (by omega)
        go_wp2_with fail
        go_meet
        exact ⟨200, cap1, rfl, by rw [List.length_take, HBL.out]; omega, by omega, by omega, rfl⟩
      · go_wp2_with fail
        go_meet
        exact ⟨len1, cap1, rfl, by rw [List.length_take, HBL.out]; omega, by omega, by omega, rfl⟩
    case rest =>
      obtain ⟨m, c, rfl, hm, hmc2, hc2, rfl⟩ := hcut
      have hr2 : Row w w.heap.size a1 (Lib.byteCells (bs.take 200)) := by
        have := HR.out.cut 200
        rwa [show (Lib.byteCells bs).take 200 = Lib.byteCells (bs.take 200) by simp [Lib.byteCells]] at this
      have hm200 : m ≤ 200 := by rw [hm]; exact List.length_take_le _ _
      obtain ⟨B, hB⟩ : ∃ B, B = bs.take 200 := ⟨_, rfl⟩
      rw [← hB] at hr2 hm
      have HRB := Lib.hid hr2
      have HM := Lib.hid hm
      have hcm : c ≤ maxLen := by unfold maxLen; omega
      clear hr2 hm hB HR HBL hnone hcx hmc
      by_cases hf : ∃ l, Fits mk B l
      · obtain ⟨l, hl⟩ := hf
        have hll : l.length ≤ 60 := by have := hl.2.1; omega
        have hbl : (bytesP (-1) l).length ≤ 200 := by rw [hl.2.2, ← HM.out]; exact hm200
        have href : ∀ w', Row w' w'.heap.size a1 (Lib.byteCells B) → Calls Try.prog 16 #[.int .i64 mk, .slice a1 m c] w' (ReadSame mk a1 m c l w') := fun w' h =>
          (ref05_Read mk a1 m c B w' h HM.out.symm hmc2 hcm (by omega) hmk hmk2).mono fun e w2 => by
            rintro ⟨h1, (⟨l', v, h2, h3, rfl, h4⟩ | ⟨h2, _⟩)⟩
            · obtain rfl := fits_same (by rw [← HM.out]; omega) h2 hl
              obtain ⟨A', c', rfl, h5, h6, h7⟩ := h4.room
              exact ⟨A', c', rfl, h5, h6, h7, h1⟩
            · exact absurd hl (h2 l)
        have hpl : ∀ q ∈ l, q.2.length ≤ 1000 := fun q hq => by have := bytes_places l (-1) q hq; omega
        have HREF := Lib.hid href
        have HFIT := Lib.hid hl
        have HPL := Lib.hid hpl
        obtain ⟨n, hn⟩ : ∃ n, n = l.length := ⟨_, rfl⟩
        rw [← hn] at hll
        have HN := Lib.hid hn
        have HBY := Lib.hid hbl
        clear href hl hpl hn hbl
        go_wp2_with (go_at_call 15; refine (posting_ok.read_ok mk a1 m c B l w HRB.out HM.out.symm hmc2 hcm (by omega) (by omega) hmk2 HFIT.out).mono ?_)
        rintro e w3 ⟨p, L, rfl, LC, hL, hb3⟩
        have HLC := Lib.hid LC
        have HL3 := Lib.hid hL
        have HB3 := Lib.hid hb3
        have HR3 := Lib.hid ((HRB.out.below hb3).more hb3.size)
        clear LC hL hb3
        go_wp2_with (go_at_call 16; refine (HREF.out _ HR3.out).mono ?_)
        rintro e w4 ⟨A4, c4, rfl, hc4, hx4, hp4, hb4⟩
        rw [← HN.out] at hc4
        rw [← HN.out]
        have HP4 := Lib.hid hp4
        have HL4 := Lib.hid (HLC.out.stays _ _ HL3.out hb4)
        have HB4 := Lib.hid (HB3.out.trans (hb4.mono HB3.out.size))
        clear hp4 hb4
        go_wp2_with (go_at_call 13; refine (law05_same p l L HLC.out A4 n c4 w4 HL4.out HN.out.symm hc4 hx4 (by omega) HP4.out HFIT.out.1 HPL.out (by have := HBY.out; omega)).mono ?_)
        rintro e w8 ⟨rfl, hb8⟩
        have HB8 := Lib.hid (HB4.out.trans (hb8.mono HB4.out.size))
        clear hb8
        go_wp2_with (go_at_call 14; refine (law05_lives posting_ok _).mono ?_; rintro e w9 ⟨rfl, hb9⟩)
        go_wp2
        go_ret
        exact ⟨rfl, HB8.out.trans (hb9.mono HB8.out.size)⟩
      · have hno : ∀ l, ¬ Fits mk B l := fun l h => hf ⟨l, h⟩
        have href : ∀ w', Row w' w'.heap.size a1 (Lib.byteCells B) → Calls Try.prog 16 #[.int .i64 mk, .slice a1 m c] w' fun e w2 => e = .returned (.tuple #[.slice none 0 0, .int .i64 2]) ∧ Below w'.heap.size w' w2 := fun w' h =>
          (ref05_Read mk a1 m c B w' h HM.out.symm hmc2 hcm (by omega) hmk hmk2).mono fun e w2 => by
            rintro ⟨h1, (⟨l', v, h2, _⟩ | ⟨_, h2⟩)⟩
            · exact absurd h2 (hno l')
            · exact ⟨h2, h1⟩
        have HREF := Lib.hid href
        have HNO := Lib.hid hno
        clear href hno hf
        go_wp2_with (go_at_call 15; refine (posting_ok.read_no mk a1 m c B w HRB.out HM.out.symm hmc2 hcm (by omega) (by omega) hmk2 HNO.out).mono ?_)
        rintro e w3 ⟨rfl, hb3⟩
        have HB3 := Lib.hid hb3
        have HR3 := Lib.hid ((HRB.out.below hb3).more hb3.size)
        clear hb3
        go_wp2_with (go_at_call 16; refine (HREF.out _ HR3.out).mono ?_)
        rintro e w4 ⟨rfl, hb4⟩
        have HB4 := Lib.hid (HB3.out.trans (hb4.mono HB3.out.size))
        clear hb4
        go_wp2_with (go_at_call 14; refine (law05_lives posting_ok _).mono ?_; rintro e w9 ⟨rfl, hb9⟩)
        go_wp2
        go_ret
        exact ⟨rfl, HB4.out.trans (hb9.mono HB4.out.size)⟩
end Go.Proofs.Ytfhjnblcnkjooaa
