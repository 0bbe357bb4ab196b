/- What the document's own Signs answers: the signs of the bytes, in new memory; nothing that was there turns. For every text of at most 2^30 bytes. -/
import Derived.Test.YthpecegifilgoaaOne01
import Derived.Test.YthpecegifilgoaaQ02
import Derived.Lib.IndexBytes
namespace Go.Proofs.Ythpecegifilgoaa
open Go Go.RowKit
set_option linter.unusedVariables false

theorem dec_small (l : List UInt8) : (dec l).1 ≤ 1114111 := by
  have := (valid_iff _).1 (dec_valid l)
  omega
theorem ref_one_as (t : ByteArray) (w : World) (c n : Nat) (h0 : 0 < t.size) (hs : t.size ≤ 1073741824) (h : Hid (dec t.data.toList = (c, n))) :
    Calls Try.prog 71 #[.string t] w fun e w' => e = .returned (.tuple #[.int .i64 c, .int .i64 n]) ∧ w = w' :=
  (ref_one t w h0 hs).mono fun e w' ⟨he, hw⟩ => ⟨by unfold Told at he; rw [he, h.out], hw⟩

def SignsRel (s : ByteArray) (w : World) (a l : Value) (wr : World) : Prop :=
  ∃ (t : ByteArray) (acc : List Int), a = .string t ∧ t.size + acc.length ≤ s.size ∧ wr.ownsRow w.heap.size 3 1 l acc.length (ints acc) ∧ Below w.heap.size w wr ∧ acc ++ signs t.data.toList = signs s.data.toList
def strLen : Value → Nat | .string s => s.size | _ => 0

set_option maxHeartbeats 1000000 in
set_option maxRecDepth 100000 in
theorem ref_Signs (s : ByteArray) (w : World) (hs : s.size ≤ 1073741824) :
    Calls Try.prog 58 #[.string s] w (GaveInts (signs s.data.toList) w) := by
  obtain ⟨i0, hi0, hz0, hz1, hz2⟩ := info_parts info_int
  go_enter Try.func58, Try.ntmps58
  go_wp2
  go_loopw [0, 3] (fun a l wr => SignsRel s w a l wr) (fun a _ _ => strLen a)
  case atStart => exact ⟨s, [], rfl, by simp, World.ownsRow_nil _ _ _ _, Below.refl _ _, rfl⟩
  case round =>
    obtain ⟨t, acc, rfl, hsz, hown, hbw, hacc⟩ := hrel
    have HACC := Lib.hid hacc
    clear hacc
    by_cases hp : 0 < t.size
    · obtain ⟨c, n, hd⟩ : ∃ c n, dec t.data.toList = (c, n) := ⟨_, _, rfl⟩
      have hne : t.data.toList ≠ [] := by
        intro h
        have := congrArg List.length h
        rw [size_list, List.length_nil] at this
        omega
      have hw := dec_width _ hne
      have hst := signs_step _ hne
      have hc := dec_small t.data.toList
      rw [hd] at hw hst hc
      rw [size_list] at hw
      simp only [] at hw hst hc
      have HD := Lib.hid hd
      have HST := Lib.hid hst
      clear hd hst hne
      obtain ⟨hw1, hw2⟩ := hw
      have hszi := hbw.size
      go_wp2_with (go_at_call 71; refine (ref_one_as t _ c n hp (by omega) HD).mono ?_)
      rintro e w' ⟨rfl, rfl⟩
      clear HD
      go_wp2_with (at_builtin; refine wpList_append_own _ rfl (.tmp 14) (.tmp 16) 45 rfl w.heap.size 3 i0 _ 1 8 Try.underlying45 hi0 hz0 hz1 hz2 rfl (by omega) _ acc.length (ints acc) rfl (hown.alloc _) ⟨wr.heap.size, 0, none⟩ 1 1 [.int .i64 c] rfl rfl ?c1 ?c2 ?c3 ?c4 ?c5 ?_)
      case c1 =>
        intro j u hj
        match j, hj with
        | 0, hj => simp at hj; subst hj; simp [Addr.add]
        | (j + 1), hj => simp at hj
      case c2 => intro u hu; simp at hu; subst hu; rfl
      case c3 => unfold maxLen; omega
      case c4 => omega
      case c5 => simp; omega
      intro v' w3 hown3 hgrow3 _
      go_wp2
      go_roundw
      case rel =>
        refine ⟨t.extract n t.size, acc ++ [(c : Int)], rfl, ?_, ?_, ?_, ?_⟩
        · rw [ByteArray.size_extract]; simp; omega
        · simpa [ints] using hown3
        · exact (hbw.alloc (by omega) _).grown hgrow3 (by simp; omega) (fun k hk => (hown.lt k hk).1)
        · rw [← HACC.out, HST.out, Lib.extract_to_end]; simp
      case measure =>
        simp only [strLen]
        simp [ByteArray.size_extract]
        omega
    · go_wp2
      go_ret
      have he : t.data.toList = [] := List.eq_nil_of_length_eq_zero (by rw [size_list]; omega)
      have hout := HACC.out
      rw [he, signs_nil, List.append_nil] at hout
      subst hout
      exact ⟨_, rfl, hown, hbw⟩
end Go.Proofs.Ythpecegifilgoaa
