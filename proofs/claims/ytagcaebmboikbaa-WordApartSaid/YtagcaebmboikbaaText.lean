/- What package sign's Text answers: the bytes of the characters; nothing that was there turns. For every list of at most 2^30 numbers. -/
import Derived.Test.YtagcaebmboikbaaSigns
import Derived.Test.YtagcaebmboikbaaKinds
namespace Go.Proofs.Ytagcaebmboikbaa
open Go Go.RowKit
set_option linter.unusedVariables false

theorem clamp_bd (c : Int) : 0 ≤ clamp c ∧ clamp c ≤ 1114111 := by
  have := (valid_iff _).1 (clamp_valid c)
  omega
theorem text_take {xs : List Int} {k : Nat} (hk : k < xs.length) : text (xs.take (k + 1)) = text (xs.take k) ++ Lib.encodeRune (clamp xs[k]) := by
  rw [List.take_succ_eq_append_getElem hk, text_append, encode_clamp]
  simp [text]
theorem text_take_le (xs : List Int) (k : Nat) : (text (xs.take k)).length ≤ 4 * k := by
  have h1 := text_length (xs.take k)
  have h2 := List.length_take_le k xs
  omega

def TextRel (T E : TypeId) (w : World) (xs : List Int) (i : Value) (wr : World) : Prop :=
  ∃ k : Nat, k ≤ xs.length ∧ i = .int .i64 k ∧ Lib.IsBuilderF T E w.heap.size w.heap.size (Lib.byteCells (text (xs.take k))) wr ∧ Below w.heap.size w wr ∧ w.heap.size < wr.heap.size
/-- What a call gives that makes a text. -/
def GaveText (l : List UInt8) (w : World) (e : Ending) (w' : World) : Prop := e = .returned (.string ⟨l.toArray⟩) ∧ Below w.heap.size w w'

set_option maxHeartbeats 1000000 in
set_option maxRecDepth 100000 in
theorem sign_Text (A : Option Addr) (c : Nat) (xs : List Int) (w : World) (hx : Row w w.heap.size A (ints xs)) (hl : xs.length ≤ 1073741824) :
    Calls Try.prog 36 #[.slice A xs.length c] w (GaveText (text xs) w) := by
  have HX := Lib.hid hx
  clear hx
  go_enter Try.func36, Try.ntmps36
  go_wp2
  go_loopw [8] (fun i wr => TextRel 60 5 w xs i wr) (fun i _ => xs.length - (intOf i).toNat)
  case atStart => exact ⟨0, Nat.zero_le _, rfl, Lib.IsBuilderF.of (Lib.fresh_isBuilder _ _ w), (Below.refl _ w).alloc (Nat.le_refl _) _, by simp⟩
  case round =>
    obtain ⟨k, hk, rfl, hI, hbw, hsz⟩ := hrel
    by_cases hlt : k < xs.length
    · obtain ⟨b1, o1, e1, _, hc1⟩ := row_int (HX.out.below hbw) hlt
      subst e1
      have htk := text_take hlt
      have hlen := text_take_le xs k
      obtain ⟨x, hx⟩ : ∃ x, x = xs[k] := ⟨_, rfl⟩
      rw [← hx] at hc1 htk
      clear hx
      have HTK := Lib.hid htk
      clear htk
      obtain ⟨hcl0, hcl1⟩ := clamp_bd x
      go_wp2_with (go_at_call 44; refine (sign_whole x _).mono ?_)
      rintro e w' ⟨rfl, rfl⟩
      go_wp2_with (go_at_call 43; refine (builder_WriteRune w.heap.size w.heap.size _ _ (by omega) (by omega) _ hI (by rw [Lib.byteCells_length]; omega) (by omega)).mono ?_)
      rintro e W1 ⟨rfl, h1, b1, k1⟩
      go_wp2
      go_roundw
      case rel =>
        refine ⟨k + 1, by omega, by go_num, ?_, hbw.trans b1, by have := b1.size; omega⟩
        rw [HTK.out, Lib.byteCells_append, Lib.byteCells_encodeRune]
        exact Or.inr h1
      case measure => simp [intOf]; omega
    · go_wp2_with (go_at_call 45; refine (builder_String w.heap.size w.heap.size _ _ hI (by omega)).mono ?_)
      rintro e W1 ⟨rfl, _, b1, _⟩
      go_wp2
      go_ret
      rw [List.take_of_length_le (by omega)]
      exact ⟨rfl, hbw.trans b1⟩
end Go.Proofs.Ytagcaebmboikbaa
