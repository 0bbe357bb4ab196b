/- The document's own Not and Join of lists of documents. -/
import Derived.Test.YtldcadpemnpbmaaRefF13
set_option linter.unusedVariables false
namespace Go.Proofs.Ytldcadpemnpbmaa
open Go Go.RowKit

def NotRel (g : Nat → Option Int) (n : Nat) (w : World) (vo vi : Value) (wr : World) : Prop := ∃ k : Nat, k ≤ n ∧ vi = .int .i64 (k : Int) ∧ OwnFo w.heap.size wr vo (tabF k g) ∧ Below w.heap.size w wr
set_option maxHeartbeats 4000000 in
set_option maxRecDepth 100000 in
theorem ref13_Not (va : Value) (a : List Fo) (n : Nat) (w : World) (ha : InFo w va a) (hra : RiseF a) (hfa : FewF a) (hn : n ≤ 1048576) :
    Calls Try.prog 12 #[va, .int .i64 (n : Int)] w (GaveFo (notF a n) w) := by
  obtain ⟨i0, hi0, hz0, hz1, hz2⟩ := info_parts info_found
  rw [not_is hra]
  obtain ⟨A, c, rfl, hac, hcm, hrow⟩ := ha
  obtain ⟨m, hm⟩ : ∃ m, m = a.length := ⟨_, rfl⟩
  rw [← hm]
  have hm1 : m ≤ 1099511627776 := by have := hfa.1; omega
  have HAT : Hid (∀ d w2, Below w.heap.size w w2 → Calls Try.prog 20 #[.slice A m c, .int .i64 ((d : Nat) : Int)] w2 fun e w' => (∃ i, e = .returned (.int .i64 i) ∧ AtF a d i) ∧ Below w2.heap.size w2 w') := Lib.hid fun d w2 hb => ref13_at A m c a d w2 (FoRow.later hrow hb) hm.symm hm1
  obtain ⟨g, hg⟩ : ∃ g : Nat → Option Int, g = fun d => if (scF a d).isSome = true then none else some 0 := ⟨_, rfl⟩
  rw [← hg]
  have HG := Lib.hid hg
  have HREL : Hid (NotRel g n w (.slice none 0 0) (.int .i64 ((0 : Nat) : Int)) w) := Lib.hid ⟨0, Nat.zero_le _, rfl, OwnFo.nil, Below.refl _ _⟩
  clear hg hm hrow hra hfa hac hcm
  go_enter Try.func12, Try.ntmps12
  go_wp2
  go_loopw [5, 6] (NotRel g n w) (fun _ i _ => n - (intOf i).toNat)
  case atStart => exact HREL.out
  case round =>
    obtain ⟨k, hk, rfl, hown, hbw⟩ := hrel
    by_cases hlt : k < n
    · have hkn : (k : Int) < (n : Int) := by omega
      have hsz := hbw.size
      have hts := tab_succ k g
      have htl := tab_length g k
      have HA := Lib.hid (HAT.out k wr hbw)
      obtain ⟨L, hL⟩ : ∃ L, L = tabF k g := ⟨_, rfl⟩
      rw [← hL] at hts htl
      unfold OwnFo at hown
      rw [← hL] at hown
      obtain ⟨q, hq⟩ : ∃ q, q = L.length := ⟨_, rfl⟩
      rw [← hq] at hown htl
      have hown0 := hown
      obtain ⟨Av, cv, rfl, -, -⟩ := owned_row hown0
      have HQ := Lib.hid hq
      have HO := Lib.hid hown
      have HTS := Lib.hid hts
      have HBW := Lib.hid hbw
      clear hL hown hown0 hq hts hbw
      go_wp2_with (go_at_call 20; refine HA.out.mono ?_)
      rintro e w2 ⟨⟨i, rfl, hat⟩, hb2⟩
      have hsz2 := hb2.size
      rcases hat with ⟨h1, rfl⟩ | ⟨j, hj, rfl, h1⟩
      · have hts2 : tabF (k + 1) g = L ++ [(k, 0)] := by rw [HTS.out, show g k = some 0 by rw [HG.out]; simp [h1]]
        have HT2 := Lib.hid hts2
        have HB2 := Lib.hid hb2
        have HO2 := Lib.hid (owned_below HO.out hb2)
        clear hts2 hb2 h1
        go_wp2_with (at_builtin; refine wpList_append_own _ rfl (.tmp 16) (.tmp 19) 22 rfl w.heap.size 36 i0 _ 2 16 Try.underlying22 hi0 hz0 hz1 hz2 rfl (by omega) _ q (foC L) rfl (HO2.out.alloc _) ⟨w2.heap.size, 0, none⟩ 1 1 [.int .i64 (k : Int), .int .i64 0] rfl rfl (news_at w2 [.int .i64 (k : Int), .int .i64 0] 36) (by intro u hu; simp at hu; rcases hu with rfl | rfl <;> rfl) (by unfold maxLen; omega) (by omega) (by simp; omega) ?_)
        intro v5 w5 hown5 hg5 _
        have hb5 : Below w.heap.size w2 w5 := ((Below.refl _ w2).alloc (by omega) _).grown hg5 (by simp; omega) fun j hj => (HO2.out.lt j hj).1
        have hfin : NotRel g n w v5 (.int .i64 ((k : Int) + 1)) w5 := by
          refine ⟨k + 1, by omega, rfl, ?_, HBW.out.trans ((HB2.out.mono hsz).trans hb5)⟩
          unfold OwnFo
          rw [HT2.out, List.length_append, List.length_singleton, ← HQ.out, foC_append]
          exact hown5
        have HF := Lib.hid hfin
        clear hfin hb5 hg5 hown5
        go_wp2
        go_roundw
        case rel => exact HF.out
        case measure => simp [intOf]; omega
      · have hfin : NotRel g n w (.slice Av q cv) (.int .i64 ((k : Int) + 1)) w2 := by
          refine ⟨k + 1, by omega, rfl, ?_, HBW.out.trans (hb2.mono hsz)⟩
          unfold OwnFo
          rw [HTS.out, show g k = none by rw [HG.out]; simp [h1]]
          simp only [List.append_nil]
          rw [← HQ.out]
          exact owned_below HO.out hb2
        have HF := Lib.hid hfin
        clear hfin hb2 h1 hj
        go_wp2
        go_roundw
        case rel => exact HF.out
        case measure => simp [intOf]; omega
    · obtain rfl : k = n := by omega
      have HO := Lib.hid hown
      clear hown hlt
      go_wp2
      go_ret
      exact ⟨_, rfl, HO.out, hbw⟩
end Go.Proofs.Ytldcadpemnpbmaa
