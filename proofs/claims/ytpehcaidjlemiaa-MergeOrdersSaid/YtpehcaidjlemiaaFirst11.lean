/- What merge.first answers: the first number of each list that has one. -/
import Derived.Test.YtpehcaidjlemiaaHeapM11
import Derived.Test.YtpehcaidjlemiaaRefOrdP11
import Derived.BigCall
import Derived.BigQuiet
import Derived.Deep.QuietTactic
set_option linter.unusedVariables false
namespace Go.Proofs.Ytpehcaidjlemiaa
open Go Go.RowKit

theorem info_head : (Try.prog.info? 44).map (fun i => (i.zero, i.size, i.bytes)) = some (some (.agg #[.int .i64 0, .int .i64 0, .int .i64 0]), 3, 24) := by kernel_rfl
/-- The heads of lists. -/
def GaveHd (l : List (List Int)) (w : World) (e : Ending) (w' : World) : Prop := ∃ v H, e = .returned v ∧ HeadsTo l l.length H ∧ H.length ≤ l.length ∧ w'.ownsRow w.heap.size 44 3 v H.length (hds H) ∧ Below w.heap.size w w'
def FirstRel (l : List (List Int)) (w : World) (v3 i : Value) (wr : World) : Prop := ∃ (k : Nat) (H : List Hd), k ≤ l.length ∧ i = .int .i64 (k : Int) ∧ HeadsTo l k H ∧ H.length ≤ k ∧ wr.ownsRow w.heap.size 44 3 v3 H.length (hds H) ∧ Below w.heap.size w wr
set_option maxHeartbeats 2000000 in
set_option maxRecDepth 100000 in
theorem merge_first (A : Option Addr) (m c : Nat) (l : List (List Int)) (w : World) (hL : Lol (Value.int .i64) w w.heap.size A l) (hm : l.length = m) (hm2 : m ≤ 100000) :
    Calls Try.prog 12 #[.slice A m c] w (GaveHd l w) := by
  obtain ⟨i0, hi0, hz0, hz1, hz2⟩ := info_parts info_head
  have HL := Lib.hid hL
  have HM := Lib.hid hm
  clear hL hm
  go_enter Try.func12, Try.ntmps12
  go_wp2
  go_loopw [3, 4, 5, 8] (fun v3 u4 u5 i wr => FirstRel l w v3 i wr) (fun _ _ _ i _ => m - (intOf i).toNat)
  case atStart => exact ⟨0, [], Nat.zero_le _, rfl, headsTo_zero l, Nat.le_refl _, World.ownsRow_nil _ _ _ _, Below.refl _ _⟩
  case round =>
    obtain ⟨k, H, hk, rfl, hH, hHk, hown, hbw⟩ := hrel
    rw [HM.out] at hk
    by_cases hlt : k < m
    · have hkl : k < l.length := by rw [HM.out]; exact hlt
      obtain ⟨b1, o1, A', c', rfl, hb1, hc1, ⟨hc2, hc3⟩, hr1⟩ := (HL.out.below hbw).at_ hkl
      have hio : InO l (k, 0) ↔ 0 < l[k].length := ⟨fun h => (inO_at.1 h).2, fun h => inO_at.2 ⟨hkl, h⟩⟩
      have hi0' : (0 : Int) ≤ k := by omega
      have hi1 : (k : Int) < m := by omega
      obtain ⟨n, hn⟩ : ∃ n, n = l[k].length := ⟨_, rfl⟩
      rw [← hn] at hc1 hc2 hio
      by_cases h0 : 0 < n
      · obtain ⟨b2, o2, rfl, hb2, hc4⟩ := row_int hr1 (k := 0) (by omega)
        have hv : l[k][0]'(by omega) = valO l (k, 0) := (valO_at hkl (by omega)).symm
        rw [hv, Nat.add_zero] at hc4
        have hput := hH.put (hio.2 h0)
        obtain ⟨x, hx⟩ : ∃ x, x = valO l (k, 0) := ⟨_, rfl⟩
        rw [← hx] at hc4 hput
        have hsz := hbw.size
        obtain ⟨N, hN⟩ : ∃ N, N = H.length := ⟨_, rfl⟩
        have HO := Lib.hid hown
        rw [← hN] at HO hHk
        have HN := Lib.hid hN
        have HP := Lib.hid hput
        have HB := Lib.hid hbw
        have hd1 : decide ((0 : Int) < (n : Int)) = true := decide_eq_true (by omega)
        unfold maxLen at hc3
        clear hx hv hN hown hput hH hio hn hr1 hbw
        go_wp2_with (at_builtin; refine wpList_append_own _ rfl (.tmp 16) (.tmp 22) 38 rfl w.heap.size 44 i0 _ 3 24 Try.underlying38 hi0 hz0 hz1 hz2 rfl (by omega) _ N (hds H) rfl (HO.out.alloc _) ⟨wr.heap.size, 0, none⟩ 1 1 [.int .i64 x, .int .i64 (k : Int), .int .i64 0] rfl rfl (news_at wr [.int .i64 x, .int .i64 (k : Int), .int .i64 0] 44) (by intro u hu; simp at hu; rcases hu with rfl | rfl | rfl <;> rfl) (by unfold maxLen; omega) (by omega) (by simp; omega) ?_; intro v7 w7 hown7 hg7 _)
        have hbl7 : Below w.heap.size w w7 := ((HB.out).alloc (by omega) _).grown hg7 (by simp; omega) (fun q hq => ((HO.out).lt q hq).1)
        go_roundw
        case rel =>
          refine ⟨k + 1, H ++ [(x, k, 0)], by rw [HM.out]; omega, by go_num, HP.out, by rw [List.length_append, ← HN.out]; simp; omega, ?_, hbl7⟩
          rw [List.length_append, ← HN.out, hds_append]
          exact hown7
        case measure => simp [intOf]; omega
      · have hsk := hH.skip fun h => h0 (hio.1 h)
        have HSK := Lib.hid hsk
        have HO := Lib.hid hown
        have hd1 : decide ((0 : Int) < (n : Int)) = false := decide_eq_false (by omega)
        clear hsk hown hH hio hn hr1
        go_wp2
        go_roundw
        case rel => exact ⟨k + 1, H, by rw [HM.out]; omega, by go_num, HSK.out, by omega, HO.out, hbw⟩
        case measure => simp [intOf]; omega
    · have hkm : k = l.length := by have := HM.out; omega
      have HFIN := Lib.hid (show GaveHd l w (.returned u3) wr from ⟨_, H, rfl, hkm ▸ hH, by omega, hown, hbw⟩)
      clear hH hown hbw hkm hHk
      go_wp2
      go_ret
      exact HFIN.out
end Go.Proofs.Ytpehcaidjlemiaa
