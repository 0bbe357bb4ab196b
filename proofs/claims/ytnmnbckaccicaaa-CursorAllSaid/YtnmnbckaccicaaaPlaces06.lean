/- What a cursor's Places answer, in new memory; how New makes a cursor. -/
import Derived.Test.YtnmnbckaccicaaaDoc06
import Derived.Test.YtnmnbckaccicaaaRef06
import Derived.Lib.SliceRun
set_option linter.unusedVariables false
namespace Go.Proofs.Ytnmnbckaccicaaa
open Go Go.RowKit

set_option maxHeartbeats 2000000 in
set_option maxRecDepth 100000 in
theorem clone_ints (A : Option Addr) (m c : Nat) (ps : List Int) (w : World) (hn : ps.length = m) (hr : Row w w.heap.size A (ints ps)) (hl : m ≤ 2147483648) :
    Calls Try.prog 37 #[.slice A m c] w (GavePl ps w) := by
  obtain ⟨i0, hi0, hz0, hz1, hz2⟩ := info_parts info_int
  have qe : ∀ (w : World) (a : Option Addr) (n c n' c' : Nat), (binOp .eql 23 (.slice a n c) (.slice none n' c')).run Try.prog w = .ok (.bool a.isNone) w := fun w a n c n' c' => Lib.run_eql_slice_nil w _ _ a n c n' c' Try.underlying23
  subst hn
  cases A with
  | none =>
    obtain rfl : ps = [] := by
      rcases Nat.eq_zero_or_pos ps.length with h0 | h0
      · exact List.eq_nil_of_length_eq_zero h0
      · obtain ⟨_, _, e, _⟩ := hr.at_ (by simpa [ints] using h0)
        cases e
    clear hr
    go_enter Try.func37, Try.ntmps37
    go_wp2
    go_ret
    exact ⟨_, _, rfl, Row.nil, Below.refl _ _⟩
  | some ad =>
    have HR := Lib.hid hr
    have hwl : (ints ps).length = ps.length := by simp [ints]
    have HWL := Lib.hid hwl
    clear hr hwl
    have hlit : (w.alloc (.cells #[] 3)).ownsRow w.heap.size 3 1 (.slice (some ⟨w.heap.size, 0, none⟩) 0 0) 0 [] := World.ownsRow_made w #[] 0 (Nat.le_refl _) (Nat.zero_le _) rfl
    obtain ⟨m, hm⟩ : ∃ m, m = ps.length := ⟨_, rfl⟩
    rw [← hm] at HWL hl
    rw [← hm]
    have HM := Lib.hid hm
    clear hm
    go_enter Try.func37, Try.ntmps37
    go_wp2_with (at_builtin; (refine wpList_append_row _ rfl (.tmp 5) (.tmp 6) 23 rfl w.heap.size 3 i0 _ 1 8 Try.underlying23 hi0 hz0 hz1 hz2 rfl (by decide) _ 0 [] rfl hlit _ _ m c (ints ps) rfl (by rw [HWL.out]; omega) ((HR.out.below ((Below.refl _ w).alloc (Nat.le_refl _) (.cells #[] 3))).more (B' := (w.alloc (.cells #[] 3)).heap.size) (by simp)) (ints_oneCell' _) (by unfold maxLen; omega) (by omega) (by simp) ?_))
    intro v' w' hown hgrow
    obtain ⟨A', c', rfl, _, hr'⟩ := owned_row hown
    go_wp2
    go_ret
    refine ⟨A', c', by rw [← HM.out]; rfl, hr', ((Below.refl _ _).alloc (Nat.le_refl _) _).grown hgrow (by simp) (fun k hk => by cases hk; exact Nat.le_refl _)⟩

set_option maxHeartbeats 1000000 in
set_option maxRecDepth 100000 in
theorem cur_Places {fu : Prop × Nat} (hf : fu.1) (C : Nat) (g : List Po) (i : Int) (w : World) (h : CAt fu C g i w) (hpl : (placesC g i).length ≤ 2147483648) :
    Calls Try.prog 24 #[.pointer (some ⟨C, 0, none⟩)] w (GavePl (placesC g i) w) := by
  obtain ⟨vb, ve, A, c, nx, bh, rd, rest, hblk, _, hpos, _, _, hpo, _⟩ := h
  obtain ⟨⟨_, _, _, _, c4, _, c6, _⟩, _⟩ := cell_eight hblk
  obtain ⟨_, _, t3, t4⟩ := hpos.tells
  clear hblk hpos c6
  cases rest with
  | nil =>
    rw [t3 rfl]
    simp only [List.length_nil] at c4
    clear t3 t4 hpo
    go_enter Try.func24, Try.ntmps24
    go_wp2
    go_ret
    exact ⟨_, _, rfl, Row.nil, Below.refl _ _⟩
  | cons p r =>
    obtain ⟨b, off, A', c', rfl, _, h1, _, _, hr⟩ := hpo.head
    rw [(t4 p r rfl).2.2] at hpl
    rw [(t4 p r rfl).2.2]
    have HC := Lib.hid (clone_ints A' p.2.length c' p.2 w rfl (hr hf) hpl)
    simp only [List.length_cons] at c4
    obtain ⟨x, hx⟩ : ∃ x, x = p.2.length := ⟨_, rfl⟩
    rw [← hx] at h1 HC
    obtain ⟨n, hn⟩ : ∃ n, n = r.length := ⟨_, rfl⟩
    rw [← hn] at c4
    have hz : ((n : Int) + 1 == 0) = false := by rw [beq_eq_false_iff_ne]; omega
    clear t3 t4 hpo hx hn hr hpl
    go_enter Try.func24, Try.ntmps24
    go_wp2_with (go_at_call 37; refine HC.out.mono ?_; rintro e w' ⟨A2, c2, rfl, hr2, hb2⟩)
    go_ret
    exact ⟨A2, c2, rfl, hr2, hb2⟩
end Go.Proofs.Ytnmnbckaccicaaa
