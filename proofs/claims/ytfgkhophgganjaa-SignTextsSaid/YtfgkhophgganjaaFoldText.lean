/- What package sign's FoldText answers: the bytes of the signs, each folded; nothing that was there turns. For every text of at most 2^30 bytes. -/
import Derived.Test.YtfgkhophgganjaaText
namespace Go.Proofs.Ytfgkhophgganjaa
open Go Go.RowKit
set_option linter.unusedVariables false

theorem fold_bd {c : Int} (h : Utf8.valid c = true) : 0 ≤ fold c ∧ fold c ≤ 1114111 := by
  have := (valid_iff _).1 (fold_valid h)
  omega
def FoldRel (T E : TypeId) (s : ByteArray) (K : Nat) (w : World) (wr : World) : Prop :=
  ∃ (pos : Nat) (acc : List Int), pos ≤ s.size ∧ acc.length ≤ pos ∧ Lib.IsBuilderF T E w.heap.size w.heap.size (Lib.byteCells (text (acc.map fold))) wr ∧
    wr.heap[K]? = some (.stringIter s pos) ∧ Below w.heap.size w wr ∧ acc ++ signs (s.data.toList.drop pos) = signs s.data.toList

set_option maxHeartbeats 1000000 in
set_option maxRecDepth 100000 in
theorem sign_FoldText (s : ByteArray) (w : World) (hs : s.size ≤ 1073741824) :
    Calls Try.prog 21 #[.string s] w (GaveText (foldText s.data.toList) w) := by
  go_enter Try.func21, Try.ntmps21
  go_wp2_with (go_at_call 28; refine (builder_Grow w.heap.size w.heap.size s.size _ (Nat.le_refl _) (heap_alloc_new w _) (by simp) (by omega)).mono ?_)
  rintro e W1 ⟨rfl, h1, b1⟩
  have hbW : Below w.heap.size w W1 := ((Below.refl _ w).alloc (Nat.le_refl _) _).trans b1
  have hszW : w.heap.size < W1.heap.size := by have := b1.size; simp at this; omega
  have H1 := Lib.hid h1
  clear h1 b1
  go_wp2
  go_loopw [] (fun wr => FoldRel 39 5 s W1.heap.size w wr) (fun wr => s.size - wr.iterPos W1.heap.size)
  case atStart =>
    refine ⟨0, [], Nat.zero_le _, Nat.le_refl _, (Lib.IsBuilderF.of (Or.inr H1.out)).alloc _, heap_alloc_new W1 _, hbW.alloc (by omega) _, rfl⟩
  case round =>
    obtain ⟨pos, acc, hpos, hal, hI, hit, hbw, hacc⟩ := hrel
    have hK : W1.heap.size < wr.heap.size := (Array.getElem?_eq_some_iff.1 hit).1
    by_cases hp : pos < s.size
    · have hnx : ∀ ty, (Instr.next (.pointer (some ⟨W1.heap.size, 0, none⟩)) true ty).run Try.prog wr = _ := fun ty => Lib.run_next_any_at wr W1.heap.size s pos ty hit hp
      have hdd := decode_dec s pos
      have hne : s.data.toList.drop pos ≠ [] := by
        intro h
        have := congrArg List.length h
        rw [List.length_drop, List.length_nil] at this
        have e : s.data.toList.length = s.size := Array.length_toList
        omega
      have hst := signs_step _ hne
      have hwd := dec_width _ hne
      have hva := dec_valid (s.data.toList.drop pos)
      rw [List.drop_drop] at hst
      rw [← hdd] at hst hwd hva
      obtain ⟨hf0, hf1⟩ := fold_bd hva
      have hlen : (s.data.toList.drop pos).length = s.size - pos := by rw [List.length_drop]; rfl
      rw [hlen] at hwd
      have hd1 := decode_le s pos
      have hI2 := hI.iterAt hit (pos + (Utf8.decode s pos).2)
      have hit2 := Lib.iterAt_heap wr W1.heap.size s pos (pos + (Utf8.decode s pos).2) hit
      have hbw2 := Lib.below_iterAt hbw (k := W1.heap.size) (by omega) s (pos + (Utf8.decode s pos).2)
      have htl := text_length (acc.map fold)
      rw [List.length_map] at htl
      clear hdd hne hlen hva
      have HST := Lib.hid hst
      have HACC := Lib.hid hacc
      have HIT := Lib.hid hit
      clear hst hacc hit hbw hI
      obtain ⟨wi, hwi⟩ : ∃ wi, wi = wr.iterAt W1.heap.size s (pos + (Utf8.decode s pos).2) := ⟨_, rfl⟩
      rw [← hwi] at hnx hI2 hit2 hbw2
      have hszi := hbw2.size
      clear hwi
      go_wp2_with (go_at_call 19; refine (sign_Fold _ _).mono ?_)
      rintro e w' ⟨rfl, rfl⟩
      go_wp2_with (go_at_call 25; refine (builder_WriteRune w.heap.size w.heap.size _ _ (by omega) (by omega) _ hI2 (by rw [Lib.byteCells_length]; omega) (by omega)).mono ?_)
      rintro e W2 ⟨rfl, h2, b2, k2⟩
      have hit3 := k2.iter hit2 (by omega)
      go_wp2
      go_roundw
      case rel =>
        refine ⟨pos + (Utf8.decode s pos).2, acc ++ [((Utf8.decode s pos).1 : Int)], by omega, by simp; omega, ?_, hit3, hbw2.trans b2, ?_⟩
        · have e1 : text ((acc ++ [((Utf8.decode s pos).1 : Int)]).map fold) = text (acc.map fold) ++ Lib.encodeRune (fold (Utf8.decode s pos).1) := by
            rw [List.map_append, text_append]; simp [text]
          rw [e1, Lib.byteCells_append, Lib.byteCells_encodeRune]
          exact Or.inr h2
        · rw [← HACC.out, HST.out]; simp
      case measure =>
        simp only [World.iterPos, hit3, HIT.out]
        omega
    · have hnx : ∀ ty, (Instr.next (.pointer (some ⟨W1.heap.size, 0, none⟩)) true ty).run Try.prog wr = _ := fun ty => Lib.run_next_end_at wr W1.heap.size s pos ty hit hp
      have he : s.data.toList.drop pos = [] := List.drop_eq_nil_of_le (by rw [Array.length_toList]; exact Nat.le_of_not_lt hp)
      rw [he, signs_nil, List.append_nil] at hacc
      subst hacc
      go_wp2_with (go_at_call 27; refine (builder_String w.heap.size w.heap.size _ _ hI (by omega)).mono ?_)
      rintro e W2 ⟨rfl, _, b2, _⟩
      go_wp2
      go_ret
      exact ⟨rfl, hbw.trans b2⟩
end Go.Proofs.Ytfgkhophgganjaa
