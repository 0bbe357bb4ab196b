/- What a cursor's Doc, Places and Count answer. -/
import Derived.Test.YtnmnbckaccicaaaCurAt06
set_option linter.unusedVariables false
namespace Go.Proofs.Ytnmnbckaccicaaa
open Go Go.RowKit

set_option maxHeartbeats 1000000 in
set_option maxRecDepth 100000 in
theorem cur_Doc {fu : Prop × Nat} (C : Nat) (g : List Po) (i : Int) (w : World) (h : CAt fu C g i w) :
    Calls Try.prog 23 #[.pointer (some ⟨C, 0, none⟩)] w fun e w' => e = .returned (.int .i64 (docC g i)) ∧ w = w' := by
  obtain ⟨vb, ve, A, c, nx, bh, rd, rest, hblk, _, hpos, _, _, hpo, _⟩ := h
  obtain ⟨⟨_, _, _, _, c4, _, c6, _⟩, _⟩ := cell_eight hblk
  obtain ⟨t1, t2, _, t4⟩ := hpos.tells
  clear hblk hpos
  cases bh with
  | true =>
    rw [t1 rfl]
    clear t1 t2 t4 c4 hpo
    go_enter Try.func23, Try.ntmps23
    go_wp2
    go_ret
    exact ⟨rfl, rfl⟩
  | false =>
    cases rest with
    | nil =>
      rw [t2 rfl rfl]
      simp only [List.length_nil] at c4
      clear t1 t2 t4 hpo
      go_enter Try.func23, Try.ntmps23
      go_wp2
      go_ret
      exact ⟨rfl, rfl⟩
    | cons p r =>
      obtain ⟨b, off, A', c', rfl, h1, _⟩ := hpo.head
      rw [(t4 p r rfl).2.1]
      simp only [List.length_cons] at c4
      obtain ⟨x, hx⟩ : ∃ x, x = p.1 := ⟨_, rfl⟩
      rw [← hx] at h1
      rw [← hx]
      obtain ⟨n, hn⟩ : ∃ n, n = r.length := ⟨_, rfl⟩
      rw [← hn] at c4
      have hz : ((n : Int) + 1 == 0) = false := by rw [beq_eq_false_iff_ne]; omega
      clear t1 t2 t4 hpo hx hn
      go_enter Try.func23, Try.ntmps23
      go_wp2
      go_ret
      exact ⟨rfl, rfl⟩

set_option maxHeartbeats 1000000 in
set_option maxRecDepth 100000 in
theorem cur_Count {fu : Prop × Nat} (C : Nat) (g : List Po) (i : Int) (w : World) (h : CAt fu C g i w) :
    Calls Try.prog 32 #[.pointer (some ⟨C, 0, none⟩)] w fun e w' => e = .returned (.int .i64 ((placesC g i).length : Int)) ∧ w = w' := by
  obtain ⟨vb, ve, A, c, nx, bh, rd, rest, hblk, _, hpos, _, _, hpo, _⟩ := h
  obtain ⟨⟨_, _, _, _, c4, _, c6, _⟩, _⟩ := cell_eight hblk
  obtain ⟨_, _, t3, t4⟩ := hpos.tells
  clear hblk hpos c6
  cases rest with
  | nil =>
    rw [t3 rfl]
    simp only [List.length_nil] at c4
    clear t3 t4 hpo
    go_enter Try.func32, Try.ntmps32
    go_wp2
    go_ret
    exact ⟨rfl, rfl⟩
  | cons p r =>
    obtain ⟨b, off, A', c', rfl, _, h1, _⟩ := hpo.head
    rw [(t4 p r rfl).2.2]
    simp only [List.length_cons] at c4
    obtain ⟨x, hx⟩ : ∃ x, x = p.2.length := ⟨_, rfl⟩
    rw [← hx] at h1
    rw [← hx]
    obtain ⟨n, hn⟩ : ∃ n, n = r.length := ⟨_, rfl⟩
    rw [← hn] at c4
    have hz : ((n : Int) + 1 == 0) = false := by rw [beq_eq_false_iff_ne]; omega
    clear t3 t4 hpo hx hn
    go_enter Try.func32, Try.ntmps32
    go_wp2
    go_ret
    exact ⟨rfl, rfl⟩
end Go.Proofs.Ytnmnbckaccicaaa
