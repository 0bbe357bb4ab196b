/- What package sign's Signs answers: the signs of the bytes, in new memory; nothing that was there turns. For every text of at most 2^30 bytes. -/
import Derived.Test.YtagcaebmboikbaaShelf
import Derived.Test.YtagcaebmboikbaaPlain01
import Derived.Test.YtagcaebmboikbaaBase
import Derived.Lib.Hide
import Derived.BigCall
set_option linter.unusedVariables false
namespace Go.Proofs.Ytagcaebmboikbaa
open Go Go.RowKit

def ints (l : List Int) : List Value := l.map (Value.int .i64)
theorem ints_length (l : List Int) : (ints l).length = l.length := by simp [ints]
theorem info_int : (Try.prog.info? 3).map (fun i => (i.zero, i.size, i.bytes)) = some (some (.int .i64 0), 1, 8) := by kernel_rfl

theorem row_int {w : World} {B : Nat} {A : Option Addr} {xs : List Int} (h : Row w B A (ints xs)) {k : Nat} (hk : k < xs.length) :
    ∃ b off, A = some ⟨b, off, none⟩ ∧ b < B ∧ w.cell? ⟨b, off + k, none⟩ = some (.int .i64 xs[k]) := by
  obtain ⟨b, off, rfl, hb, hc⟩ := h.at_ (by rw [ints_length]; omega)
  refine ⟨b, off, rfl, hb, hc k _ ?_⟩
  simp [ints, hk]

/-- What a call gives that makes a list of ints: it lies in new memory, and nothing that was there has turned. -/
def GaveInts (l : List Int) (w : World) (e : Ending) (w' : World) : Prop := ∃ v, e = .returned v ∧ w'.ownsRow w.heap.size 3 1 v l.length (ints l) ∧ Below w.heap.size w w'

set_option maxHeartbeats 1000000 in
set_option maxRecDepth 100000 in
theorem sign_Signs (s : ByteArray) (w : World) (hs : s.size ≤ 1073741824) :
    Calls Try.prog 27 #[.string s] w (GaveInts (signs s.data.toList) w) := by
  obtain ⟨i0, hi0, hz0, hz1, hz2⟩ := info_parts info_int
  have hrc := Lib.runeCount_le s
  go_enter Try.func27, Try.ntmps27
  go_wp2_with (go_at_call 37; refine (run_count s _ (by omega)).mono ?_)
  rintro e w1 ⟨rfl, pos, rfl⟩
  go_wp2_with (at_make; refine wpList_make_own _ rfl _ _ 48 rfl w.heap.size 3 i0 _ 1 Try.underlying48 hi0 hz0 hz1 _ _ _ (Lib.runeCount s) rfl rfl rfl ?c1 ?c2 ?c3 ?_)
  case c1 => rw [hz2]; omega
  case c2 => unfold maxLen; omega
  case c3 => show w.heap.size ≤ (w.heap.push _).size; simp
  intro w2 hown hgrow
  have hb2 : Below w.heap.size w w2 := ((Below.refl _ w).alloc (Nat.le_refl _) (.stringIter s pos)).grown hgrow (by simp) (fun k hk => by cases hk)
  have hsz2 := hb2.size
  go_wp2
  go_loopw [3] (fun l wr => ∃ (pos : Nat) (acc : List Int), pos ≤ s.size ∧ acc.length ≤ pos ∧ wr.heap[w2.heap.size]? = some (.stringIter s pos) ∧ wr.ownsRow w.heap.size 3 1 l acc.length (ints acc) ∧ Below w.heap.size w wr ∧ acc ++ signs (s.data.toList.drop pos) = signs s.data.toList) (fun _ wr => s.size - wr.iterPos w2.heap.size)
  case atStart =>
    refine ⟨0, [], Nat.zero_le _, Nat.le_refl _, ?_, hown.alloc _, hb2.alloc hsz2 _, rfl⟩
    exact heap_alloc_new w2 _
  case round =>
    obtain ⟨pos, acc, hpos, hal, hit, hown, hbw, hacc⟩ := hrel
    by_cases hp : pos < s.size
    · have hnx : ∀ ty, (Instr.next (.pointer (some ⟨w2.heap.size, 0, none⟩)) true ty).run Try.prog wr = _ := fun ty => Lib.run_next_any_at wr w2.heap.size s pos ty hit hp
      have hdd := decode_dec s pos
      have hne : s.data.toList.drop pos ≠ [] := by
        intro h
        have := congrArg List.length h
        rw [List.length_drop, List.length_nil] at this
        have e : s.data.toList.length = s.size := Array.length_toList
        omega
      have hst := signs_step _ hne
      have hwd := dec_width _ hne
      rw [List.drop_drop] at hst
      rw [← hdd] at hst hwd
      have hlen : (s.data.toList.drop pos).length = s.size - pos := by rw [List.length_drop]; rfl
      rw [hlen] at hwd
      have hd1 := decode_le s pos
      have hown2 := owned_iter (q := pos + (Utf8.decode s pos).2) hown hit
      have hit2 := Lib.iterAt_heap wr w2.heap.size s pos (pos + (Utf8.decode s pos).2) hit
      have hbw2 := Lib.below_iterAt hbw (k := w2.heap.size) (by omega) s (pos + (Utf8.decode s pos).2)
      clear hdd hne hlen
      have HST := Lib.hid hst
      have HACC := Lib.hid hacc
      have HIT := Lib.hid hit
      clear hst hacc hit hown hbw
      obtain ⟨wi, hwi⟩ : ∃ wi, wi = wr.iterAt w2.heap.size s (pos + (Utf8.decode s pos).2) := ⟨_, rfl⟩
      rw [← hwi] at hnx hown2 hit2 hbw2
      have hszi := hbw2.size
      clear hwi
      go_wp2_with (at_builtin; refine wpList_append_own _ rfl (.tmp 14) (.tmp 17) 48 rfl w.heap.size 3 i0 _ 1 8 Try.underlying48 hi0 hz0 hz1 hz2 rfl (by omega) _ acc.length (ints acc) rfl (hown2.alloc _) ⟨wi.heap.size, 0, none⟩ 1 1 [.int .i64 (Utf8.decode s pos).1] rfl rfl ?c1 ?c2 ?c3 ?c4 ?c5 ?_)
      case c1 =>
        intro j u hj
        match j, hj with
        | 0, hj => simp at hj; subst hj; simp [Addr.add]
        | (j + 1), hj => simp at hj
      case c2 => intro u hu; simp at hu; subst hu; rfl
      case c3 => unfold maxLen; omega
      case c4 => omega
      case c5 => simp; omega
      intro v' w3 hown3 hgrow3 _
      have hit3 : w3.heap[w2.heap.size]? = some (.stringIter s (pos + (Utf8.decode s pos).2)) :=
        iter_grown (hown2.alloc _) ((Below.heap_alloc wi _ _ (Array.getElem?_eq_some_iff.1 hit2).1).trans hit2) hgrow3
      go_wp2
      go_roundw
      case rel =>
        refine ⟨pos + (Utf8.decode s pos).2, acc ++ [((Utf8.decode s pos).1 : Int)], by omega, by simp; omega, hit3, ?_, ?_, ?_⟩
        · simpa [ints] using hown3
        · exact (hbw2.alloc (by omega) _).grown hgrow3 (by simp; omega) (fun k hk => (hown2.lt k hk).1)
        · rw [← HACC.out, HST.out]; simp
      case measure =>
        simp only [World.iterPos, hit3, HIT.out]
        omega
    · have hnx : ∀ ty, (Instr.next (.pointer (some ⟨w2.heap.size, 0, none⟩)) true ty).run Try.prog wr = _ := fun ty => Lib.run_next_end_at wr w2.heap.size s pos ty hit hp
      have HACC := Lib.hid hacc
      clear hacc
      go_wp2
      go_ret
      have he : s.data.toList.drop pos = [] := List.drop_eq_nil_of_le (by rw [Array.length_toList]; exact Nat.le_of_not_lt hp)
      have hout := HACC.out
      rw [he, signs_nil, List.append_nil] at hout
      subst hout
      exact ⟨_, rfl, hown, hbw⟩
end Go.Proofs.Ytagcaebmboikbaa
