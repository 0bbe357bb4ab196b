/- And, Or, Not and Count of lists of documents. -/
import Derived.Test.YtldcadpemnpbmaaKept13
set_option linter.unusedVariables false
namespace Go.Proofs.Ytldcadpemnpbmaa
open Go Go.RowKit

theorem GaveFo.of {l : List Fo} {w w1 w2 : World} {e : Ending} (hb : Below w.heap.size w w1) (h : GaveFo l w1 e w2) : GaveFo l w e w2 := by
  obtain ⟨v, rfl, h1, h2⟩ := h
  exact ⟨v, rfl, h1.low hb.size, hb.trans (h2.mono hb.size)⟩
set_option maxHeartbeats 1000000 in
theorem match_And (va vb : Value) (a b : List Fo) (w : World) (ha : InFo w va a) (hb : InFo w vb b) (hfa : FewF a) (hfb : FewF b) : Calls Try.prog 8 #[va, vb] w (GaveFo (andF a b) w) := by
  have C := Lib.hid (match_kept 19 andB match_and1 va vb a b w ha hb hfa hfb)
  obtain ⟨A, c, rfl, -, -, -⟩ := ha
  obtain ⟨A2, c2, rfl, -, -, -⟩ := hb
  obtain ⟨n, hn⟩ : ∃ n, n = a.length := ⟨_, rfl⟩
  obtain ⟨n2, hn2⟩ : ∃ n2, n2 = b.length := ⟨_, rfl⟩
  rw [← hn, ← hn2] at C
  rw [← hn, ← hn2]
  clear hn hn2 hfa hfb
  go_enter Try.func8, Try.ntmps8
  go_wp2_with (go_at_call 18; refine C.out.mono ?_; rintro e w' ⟨v, rfl, h1, h2⟩)
  go_ret
  exact ⟨v, rfl, h1, h2⟩
set_option maxHeartbeats 1000000 in
theorem match_Or (va vb : Value) (a b : List Fo) (w : World) (ha : InFo w va a) (hb : InFo w vb b) (hfa : FewF a) (hfb : FewF b) : Calls Try.prog 10 #[va, vb] w (GaveFo (orF a b) w) := by
  have C := Lib.hid (match_kept 21 orB match_or1 va vb a b w ha hb hfa hfb)
  obtain ⟨A, c, rfl, -, -, -⟩ := ha
  obtain ⟨A2, c2, rfl, -, -, -⟩ := hb
  obtain ⟨n, hn⟩ : ∃ n, n = a.length := ⟨_, rfl⟩
  obtain ⟨n2, hn2⟩ : ∃ n2, n2 = b.length := ⟨_, rfl⟩
  rw [← hn, ← hn2] at C
  rw [← hn, ← hn2]
  clear hn hn2 hfa hfb
  go_enter Try.func10, Try.ntmps10
  go_wp2_with (go_at_call 18; refine C.out.mono ?_; rintro e w' ⟨v, rfl, h1, h2⟩)
  go_ret
  exact ⟨v, rfl, h1, h2⟩
def EveryRel (n : Nat) (w : World) (vo vd vi : Value) (wr : World) : Prop := ∃ k : Nat, k ≤ n ∧ vi = .int .i64 (k : Int) ∧ OwnFo w.heap.size wr vo (everyF k) ∧ Below w.heap.size w wr
theorem every_few {n : Nat} (h : n ≤ 1048576) : FewF (everyF n) := ⟨by rw [every_length]; omega, fun x hx => by
  have := (tab_low x hx).2
  injection this with this
  omega⟩
set_option maxHeartbeats 4000000 in
set_option maxRecDepth 100000 in
theorem match_every (n : Nat) (hn : n ≤ 1048576) (w : World) : Calls Try.prog 22 #[.int .i64 (n : Int)] w (GaveFo (everyF n) w) := by
  obtain ⟨i0, hi0, hz0, hz1, hz2⟩ := info_parts info_found
  have hmx : ∀ (w : World) (ts : Array TypeId) (t : TypeId), (Builtin.max_ ts t #[.int .i64 n, .int .i64 0]).run Try.prog w = .ok (.int .i64 (n : Int)) w := fun w ts t => by rw [run_max_int2]; first | (congr 2; done) | (congr 2; split <;> omega)
  obtain ⟨w1, hrun, hown1, hgrow1⟩ := run_make_own (P := Try.prog) w w.heap.size 22 36 i0 _ 2 Try.underlying22 hi0 hz0 hz1 .i64 .i64 n (by rw [hz2]; omega) (by unfold maxLen; omega) (Nat.le_refl _)
  have hb1 : Below w.heap.size w w1 := (Below.refl _ w).grown hgrow1 (Nat.le_refl _) (fun k hk => by cases hk)
  have HREL : Hid (EveryRel n w (.slice (some ⟨w.heap.size, 0, none⟩) 0 n) undef (.int .i64 ((0 : Nat) : Int)) w1) := Lib.hid ⟨0, Nat.zero_le _, rfl, hown1, hb1⟩
  clear hown1 hgrow1 hb1
  go_enter Try.func22, Try.ntmps22
  go_wp2
  go_loopw [3, 4, 9] (fun vo vd vi wr => EveryRel n w vo undef vi wr) (fun _ _ i _ => n - (intOf i).toNat)
  case atStart => exact HREL.out
  case round =>
    obtain ⟨k, hk, rfl, hown, hbw⟩ := hrel
    by_cases hlt : k < n
    · have hkn : (k : Int) < (n : Int) := by omega
      have hsz := hbw.size
      unfold OwnFo at hown
      rw [every_length] at hown
      have hown0 := hown
      obtain ⟨Av, cv, rfl, -, -⟩ := owned_row hown0
      obtain ⟨L, hL⟩ : ∃ L, L = everyF k := ⟨_, rfl⟩
      rw [← hL] at hown
      have HL := Lib.hid hL
      have HO := Lib.hid hown
      clear hL hown hown0
      go_wp2_with (at_builtin; refine wpList_append_own _ rfl (.tmp 12) (.tmp 15) 22 rfl w.heap.size 36 i0 _ 2 16 Try.underlying22 hi0 hz0 hz1 hz2 rfl (by omega) _ k (foC L) rfl (HO.out.alloc _) ⟨wr.heap.size, 0, none⟩ 1 1 [.int .i64 (k : Int), .int .i64 0] rfl rfl (news_at wr [.int .i64 (k : Int), .int .i64 0] 36) (by intro u hu; simp at hu; rcases hu with rfl | rfl <;> rfl) (by unfold maxLen; omega) (by omega) (by simp; omega) ?_)
      intro v5 w5 hown5 hg5 _
      have hb5 : Below w.heap.size wr w5 := ((Below.refl _ wr).alloc (by omega) _).grown hg5 (by simp; omega) fun j hj => (HO.out.lt j hj).1
      have hfin : EveryRel n w v5 undef (.int .i64 ((k : Int) + 1)) w5 := by
        refine ⟨k + 1, by omega, rfl, ?_, hbw.trans hb5⟩
        unfold OwnFo
        rw [every_length, every_succ, foC_append, ← HL.out]
        exact hown5
      have HF := Lib.hid hfin
      clear hfin hb5 hg5 hown5
      go_wp2
      go_roundw
      case rel => exact HF.out
      case measure => simp [intOf]; omega
    · obtain rfl : k = n := by omega
      have HO := Lib.hid hown
      clear hown hlt
      go_wp2
      go_ret
      exact ⟨_, rfl, HO.out, hbw⟩
set_option maxHeartbeats 1000000 in
theorem match_Not (va : Value) (a : List Fo) (n : Nat) (w : World) (ha : InFo w va a) (hfa : FewF a) (hn : n ≤ 1048576) : Calls Try.prog 11 #[va, .int .i64 (n : Int)] w (GaveFo (notF a n) w) := by
  have C0 := Lib.hid (match_every n hn w)
  have C1 : Hid (∀ w1 v, Below w.heap.size w w1 → OwnFo w.heap.size w1 v (everyF n) → Calls Try.prog 18 #[v, va, .func (.func 23) #[] #[]] w1 (GaveFo (notF a n) w1)) := Lib.hid fun w1 v hb ho =>
    match_kept 23 notB' match_not1 v va (everyF n) a w1 ho.in_ (ha.later hb) (every_few hn) hfa
  obtain ⟨A, c, rfl, -, -, -⟩ := ha
  obtain ⟨m, hm⟩ : ∃ m, m = a.length := ⟨_, rfl⟩
  rw [← hm] at C1
  rw [← hm]
  clear hm hfa
  go_enter Try.func11, Try.ntmps11
  go_wp2_with (first
    | (go_at_call 22; refine C0.out.mono ?_; rintro e w1 ⟨v1, rfl, ho1, hb1⟩; have C2 := Lib.hid (C1.out w1 v1 hb1 ho1); have HB1 := Lib.hid hb1; obtain ⟨A1, c1, rfl, -, -⟩ := owned_row ho1; clear ho1 hb1)
    | (go_at_call 18; refine C2.out.mono ?_; rintro e w' ⟨v, rfl, h1, h2⟩))
  go_ret
  exact ⟨v, rfl, h1.low HB1.out.size, HB1.out.trans (h2.mono HB1.out.size)⟩
set_option maxHeartbeats 1000000 in
theorem match_Count (A : Option Addr) (n c : Nat) (w : World) : Calls Try.prog 13 #[.slice A n c] w fun e w' => e = .returned (.int .i64 (n : Int)) ∧ Below w.heap.size w w' := by
  go_enter Try.func13, Try.ntmps13
  go_wp2
  go_ret
  exact ⟨rfl, Below.refl _ _⟩
end Go.Proofs.Ytldcadpemnpbmaa
