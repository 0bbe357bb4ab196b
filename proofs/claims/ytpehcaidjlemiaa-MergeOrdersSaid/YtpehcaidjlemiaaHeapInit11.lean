/- container/heap's Init, over heads. -/
import Derived.Test.YtpehcaidjlemiaaHeapDown11
set_option linter.unusedVariables false
namespace Go.Proofs.Ytpehcaidjlemiaa
open Go Go.RowKit

def InitRel (base B : Nat) (l : List Hd) (w : World) (v3 : Value) (wr : World) : Prop := ∃ (k : Nat) (l' : List Hd), v3 = .int .i64 ((k : Int) - 1) ∧ k ≤ l.length ∧ l'.Perm l ∧ HeapF hkey l' l.length k ∧ HAt base wr B l' ∧ MildH base w wr
set_option maxHeartbeats 2000000 in
theorem heap_Init (base B : Nat) (l : List Hd) (w : World) (h : HAt base w B l) (hl : l.length ≤ 100000) :
    Calls Try.prog 13 #[ifH B] w (HeapGot base B l w) := by
  obtain ⟨v1, hm1, C1⟩ := h.len_
  have HST := Lib.hid (show InitRel base B l w (.int .i64 ((l.length : Int) / 2 - 1)) w from ⟨l.length / 2, l, by rw [show ((l.length / 2 : Nat) : Int) = (l.length : Int) / 2 by omega], by omega, .refl _, heapF_begin _ _, h, .refl _ _⟩)
  have HC1 := Lib.hid C1
  clear h C1
  go_enter Try.func13, Try.ntmps13
  go_wp2_with (go_at_call 14; refine (HC1.out).mono ?_; rintro e w1 ⟨rfl, rfl⟩)
  go_loopw [3] (fun v3 wr => InitRel base B l w1 v3 wr) (fun v3 _ => (intOf v3 + 1).toNat)
  case atStart => exact HST.out
  case round =>
    clear HST hm1 HC1
    obtain ⟨k, l', rfl, hk, hp, hf, hat, hm⟩ := hrel
    have hlen := hp.length_eq
    cases k with
    | zero =>
      have HFIN := Lib.hid (show ∀ v, HeapGot base B l w1 (.returned v) wr from fun v => ⟨⟨v, rfl⟩, l', hp, hlen ▸ hf.all, hat, hm⟩)
      clear hp hf hat hm hlen
      go_wp2
      go_end0
      exact HFIN.out _
    | succ j =>
      have HC := Lib.hid (heap_down base B j l.length j l' wr hat (by omega) (by omega) (by omega) hf.down (Nat.le_refl _))
      have HP := Lib.hid hp
      have HM := Lib.hid hm
      clear hp hf hat hm hlen
      go_wp2_with (go_at_call 20; refine (HC.out).mono ?_; rintro e w2 ⟨⟨v, rfl⟩, l2, hp2, hf2, hat2, hm2, _⟩)
      go_roundw
      case rel => exact ⟨j, l2, by go_num, by omega, hp2.trans HP.out, hf2, hat2, (HM.out).trans hm2⟩
      case measure => simp [intOf]
end Go.Proofs.Ytpehcaidjlemiaa
