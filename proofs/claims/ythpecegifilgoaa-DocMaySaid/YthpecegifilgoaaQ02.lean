/- Texts laid together: Ints, Signs, Kinds, Text. -/
import Derived.Test.YthpecegifilgoaaProg
import Derived.Test.YthpecegifilgoaaBase
import Derived.Test.YthpecegifilgoaaQ01
import Derived.Test.YthpecegifilgoaaPlain01
import Derived.Lib.Hide
import Derived.BigCall
import Derived.WalkKit

/- Ints in a row of memory. No program but the number of the type int. -/
set_option linter.unusedVariables false
namespace Go.Proofs.Ythpecegifilgoaa
open Go Go.RowKit

def ints (l : List Int) : List Value := l.map (Value.int .i64)
theorem ints_length (l : List Int) : (ints l).length = l.length := by simp [ints]
theorem info_int : (Try.prog.info? 3).map (fun i => (i.zero, i.size, i.bytes)) = some (some (.int .i64 0), 1, 8) := by kernel_rfl
theorem row_int {w : World} {B : Nat} {A : Option Addr} {xs : List Int} (h : Row w B A (ints xs)) {k : Nat} (hk : k < xs.length) :
    ∃ b off, A = some ⟨b, off, none⟩ ∧ b < B ∧ w.cell? ⟨b, off + k, none⟩ = some (.int .i64 xs[k]) := by
  obtain ⟨b, off, rfl, hb, hc⟩ := h.at_ (by rw [ints_length]; omega)
  refine ⟨b, off, rfl, hb, hc k _ ?_⟩
  simp [ints, hk]
end Go.Proofs.Ythpecegifilgoaa

/- What package sign's Signs answers: the signs of the bytes, in new memory; nothing that was there turns. For every text of at most 2^30 bytes. -/
set_option linter.unusedVariables false
namespace Go.Proofs.Ythpecegifilgoaa
open Go Go.RowKit



/-- What a call gives that makes a list of ints: it lies in new memory, and nothing that was there has turned. -/
def GaveInts (l : List Int) (w : World) (e : Ending) (w' : World) : Prop := ∃ v, e = .returned v ∧ w'.ownsRow w.heap.size 3 1 v l.length (ints l) ∧ Below w.heap.size w w'

set_option maxHeartbeats 1000000 in
set_option maxRecDepth 100000 in
theorem sign_Signs (s : ByteArray) (w : World) (hs : s.size ≤ 1073741824) :
    Calls Try.prog 65 #[.string s] w (GaveInts (signs s.data.toList) w) := by
  obtain ⟨i0, hi0, hz0, hz1, hz2⟩ := info_parts info_int
  have hrc := Lib.runeCount_le s
  go_enter Try.func65, Try.ntmps65
  go_wp2_with (go_at_call 77; refine (run_count s _ (by omega)).mono ?_)
  rintro e w1 ⟨rfl, pos, rfl⟩
  go_wp2_with (at_make; refine wpList_make_own _ rfl _ _ 45 rfl w.heap.size 3 i0 _ 1 Try.underlying45 hi0 hz0 hz1 _ _ _ (Lib.runeCount s) rfl rfl rfl ?c1 ?c2 ?c3 ?_)
  case c1 => rw [hz2]; omega
  case c2 => unfold maxLen; omega
  case c3 => show w.heap.size ≤ (w.heap.push _).size; simp
  intro w2 hown hgrow
  have hb2 : Below w.heap.size w w2 := ((Below.refl _ w).alloc (Nat.le_refl _) (.stringIter s pos)).grown hgrow (by simp) (fun k hk => by cases hk)
  have hsz2 := hb2.size
  go_wp2
  go_loopw [3] (fun l wr => ∃ (pos : Nat) (acc : List Int), pos ≤ s.size ∧ acc.length ≤ pos ∧ wr.heap[w2.heap.size]? = some (.stringIter s pos) ∧ wr.ownsRow w.heap.size 3 1 l acc.length (ints acc) ∧ Below w.heap.size w wr ∧ acc ++ signs (s.data.toList.drop pos) = signs s.data.toList) (fun _ wr => s.size - wr.iterPos w2.heap.size)
  case atStart =>
    refine ⟨0, [], Nat.zero_le _, Nat.le_refl _, ?_, hown.alloc _, hb2.alloc hsz2 _, rfl⟩
    exact heap_alloc_new w2 _
  case round =>
    obtain ⟨pos, acc, hpos, hal, hit, hown, hbw, hacc⟩ := hrel
    by_cases hp : pos < s.size
    · have hnx : ∀ ty, (Instr.next (.pointer (some ⟨w2.heap.size, 0, none⟩)) true ty).run Try.prog wr = _ := fun ty => Lib.run_next_any_at wr w2.heap.size s pos ty hit hp
      have hdd := decode_dec s pos
      have hne : s.data.toList.drop pos ≠ [] := by
        intro h
        have := congrArg List.length h
        rw [List.length_drop, List.length_nil] at this
        have e : s.data.toList.length = s.size := Array.length_toList
        omega
      have hst := signs_step _ hne
      have hwd := dec_width _ hne
      rw [List.drop_drop] at hst
      rw [← hdd] at hst hwd
      have hlen : (s.data.toList.drop pos).length = s.size - pos := by rw [List.length_drop]; rfl
      rw [hlen] at hwd
      have hd1 := decode_le s pos
      have hown2 := owned_iter (q := pos + (Utf8.decode s pos).2) hown hit
      have hit2 := Lib.iterAt_heap wr w2.heap.size s pos (pos + (Utf8.decode s pos).2) hit
      have hbw2 := Lib.below_iterAt hbw (k := w2.heap.size) (by omega) s (pos + (Utf8.decode s pos).2)
      clear hdd hne hlen
      have HST := Lib.hid hst
      have HACC := Lib.hid hacc
      have HIT := Lib.hid hit
      clear hst hacc hit hown hbw
      obtain ⟨wi, hwi⟩ : ∃ wi, wi = wr.iterAt w2.heap.size s (pos + (Utf8.decode s pos).2) := ⟨_, rfl⟩
      rw [← hwi] at hnx hown2 hit2 hbw2
      have hszi := hbw2.size
      clear hwi
      go_wp2_with (at_builtin; refine wpList_append_own _ rfl (.tmp 14) (.tmp 17) 45 rfl w.heap.size 3 i0 _ 1 8 Try.underlying45 hi0 hz0 hz1 hz2 rfl (by omega) _ acc.length (ints acc) rfl (hown2.alloc _) ⟨wi.heap.size, 0, none⟩ 1 1 [.int .i64 (Utf8.decode s pos).1] rfl rfl ?c1 ?c2 ?c3 ?c4 ?c5 ?_)
      case c1 =>
        intro j u hj
        match j, hj with
        | 0, hj => simp at hj; subst hj; simp [Addr.add]
        | (j + 1), hj => simp at hj
      case c2 => intro u hu; simp at hu; subst hu; rfl
      case c3 => unfold maxLen; omega
      case c4 => omega
      case c5 => simp; omega
      intro v' w3 hown3 hgrow3 _
      have hit3 : w3.heap[w2.heap.size]? = some (.stringIter s (pos + (Utf8.decode s pos).2)) :=
        iter_grown (hown2.alloc _) ((Below.heap_alloc wi _ _ (Array.getElem?_eq_some_iff.1 hit2).1).trans hit2) hgrow3
      go_wp2
      go_roundw
      case rel =>
        refine ⟨pos + (Utf8.decode s pos).2, acc ++ [((Utf8.decode s pos).1 : Int)], by omega, by simp; omega, hit3, ?_, ?_, ?_⟩
        · simpa [ints] using hown3
        · exact (hbw2.alloc (by omega) _).grown hgrow3 (by simp; omega) (fun k hk => (hown2.lt k hk).1)
        · rw [← HACC.out, HST.out]; simp
      case measure =>
        simp only [World.iterPos, hit3, HIT.out]
        omega
    · have hnx : ∀ ty, (Instr.next (.pointer (some ⟨w2.heap.size, 0, none⟩)) true ty).run Try.prog wr = _ := fun ty => Lib.run_next_end_at wr w2.heap.size s pos ty hit hp
      have HACC := Lib.hid hacc
      clear hacc
      go_wp2
      go_ret
      have he : s.data.toList.drop pos = [] := List.drop_eq_nil_of_le (by rw [Array.length_toList]; exact Nat.le_of_not_lt hp)
      have hout := HACC.out
      rw [he, signs_nil, List.append_nil] at hout
      subst hout
      exact ⟨_, rfl, hown, hbw⟩
end Go.Proofs.Ythpecegifilgoaa

/- What package sign's Letter, Digit, Fold and whole answer, and the document's Letter and Fold: for every integer of 64 bits. -/
set_option linter.unusedVariables false
namespace Go.Proofs.Ythpecegifilgoaa
open Go.RowKit


set_option maxHeartbeats 1000000 in
theorem sign_Letter (c : Int) (w : World) :
    Calls Try.prog 89 #[.int .i64 c] w fun e w' => e = .returned (.bool (isLetter c)) ∧ w = w' := by
  go_enter Try.func89, Try.ntmps89
  go_wp2
  all_goals
    go_ret
    refine ⟨ret_bool ?_, rfl⟩
    rw [Bool.eq_iff_iff]
    simp [isLetter]
    try omega

set_option maxHeartbeats 1000000 in
theorem ref_Letter (c : Int) (w : World) :
    Calls Try.prog 72 #[.int .i64 c] w fun e w' => e = .returned (.bool (isLetter c)) ∧ w = w' := by
  go_enter Try.func72, Try.ntmps72
  go_wp2
  all_goals
    go_ret
    refine ⟨ret_bool ?_, rfl⟩
    rw [Bool.eq_iff_iff]
    simp [isLetter]
    try omega

set_option maxHeartbeats 1000000 in
theorem sign_Digit (c : Int) (w : World) :
    Calls Try.prog 90 #[.int .i64 c] w fun e w' => e = .returned (.bool (isDigit c)) ∧ w = w' := by
  go_enter Try.func90, Try.ntmps90
  go_wp2
  all_goals
    go_ret
    refine ⟨ret_bool ?_, rfl⟩
    rw [Bool.eq_iff_iff]
    simp [isDigit]
    try omega

set_option maxHeartbeats 1000000 in
theorem sign_Fold (c : Int) (w : World) :
    Calls Try.prog 75 #[.int .i64 c] w fun e w' => e = .returned (.int .i64 (fold c)) ∧ w = w' := by
  go_enter Try.func75, Try.ntmps75
  go_wp2
  all_goals
    go_ret
    refine ⟨ret_int ?_, rfl⟩
    try simp only [bne_iff_ne, ne_eq, bne_eq_false_iff_eq] at *
    unfold fold
    split
    all_goals
      rename_i hu
      simp [isUpper] at hu
      try omega

set_option maxHeartbeats 1000000 in
theorem ref_Fold (c : Int) (w : World) :
    Calls Try.prog 60 #[.int .i64 c] w fun e w' => e = .returned (.int .i64 (fold c)) ∧ w = w' := by
  go_enter Try.func60, Try.ntmps60
  go_wp2
  all_goals
    go_ret
    refine ⟨ret_int ?_, rfl⟩
    try simp only [bne_iff_ne, ne_eq, bne_eq_false_iff_eq] at *
    unfold fold
    split
    all_goals
      rename_i hu
      simp [isUpper] at hu
      try omega

set_option maxHeartbeats 1000000 in
theorem sign_whole (c : Int) (w : World) :
    Calls Try.prog 92 #[.int .i64 c] w fun e w' => e = .returned (.int .i32 (clamp c)) ∧ w = w' := by
  go_enter Try.func92, Try.ntmps92
  go_wp2
  all_goals
    go_ret
    refine ⟨ret_int ?_, rfl⟩
    unfold clamp
    split
    all_goals
      rename_i hu
      simp [okSign] at hu
      try omega
end Go.Proofs.Ythpecegifilgoaa

/- What package sign's Text answers: the bytes of the characters; nothing that was there turns. For every list of at most 2^30 numbers. -/
namespace Go.Proofs.Ythpecegifilgoaa
open Go Go.RowKit
set_option linter.unusedVariables false

theorem clamp_bd (c : Int) : 0 ≤ clamp c ∧ clamp c ≤ 1114111 := by
  have := (valid_iff _).1 (clamp_valid c)
  omega
theorem text_take {xs : List Int} {k : Nat} (hk : k < xs.length) : text (xs.take (k + 1)) = text (xs.take k) ++ Lib.encodeRune (clamp xs[k]) := by
  rw [List.take_succ_eq_append_getElem hk, text_append, encode_clamp]
  simp [text]
theorem text_take_le (xs : List Int) (k : Nat) : (text (xs.take k)).length ≤ 4 * k := by
  have h1 := text_length (xs.take k)
  have h2 := List.length_take_le k xs
  omega

def TextRel (T E : TypeId) (w : World) (xs : List Int) (i : Value) (wr : World) : Prop :=
  ∃ k : Nat, k ≤ xs.length ∧ i = .int .i64 k ∧ Lib.IsBuilderF T E w.heap.size w.heap.size (Lib.byteCells (text (xs.take k))) wr ∧ Below w.heap.size w wr ∧ w.heap.size < wr.heap.size
/-- What a call gives that makes a text. -/
def GaveText (l : List UInt8) (w : World) (e : Ending) (w' : World) : Prop := e = .returned (.string ⟨l.toArray⟩) ∧ Below w.heap.size w w'

set_option maxHeartbeats 1000000 in
set_option maxRecDepth 100000 in
theorem sign_Text (A : Option Addr) (c : Nat) (xs : List Int) (w : World) (hx : Row w w.heap.size A (ints xs)) (hl : xs.length ≤ 1073741824) :
    Calls Try.prog 76 #[.slice A xs.length c] w (GaveText (text xs) w) := by
  have HX := Lib.hid hx
  clear hx
  go_enter Try.func76, Try.ntmps76
  go_wp2
  go_loopw [8] (fun i wr => TextRel 116 5 w xs i wr) (fun i _ => xs.length - (intOf i).toNat)
  case atStart => exact ⟨0, Nat.zero_le _, rfl, Lib.IsBuilderF.of (Lib.fresh_isBuilder _ _ w), (Below.refl _ w).alloc (Nat.le_refl _) _, by simp⟩
  case round =>
    obtain ⟨k, hk, rfl, hI, hbw, hsz⟩ := hrel
    by_cases hlt : k < xs.length
    · obtain ⟨b1, o1, e1, _, hc1⟩ := row_int (HX.out.below hbw) hlt
      subst e1
      have htk := text_take hlt
      have hlen := text_take_le xs k
      obtain ⟨x, hx⟩ : ∃ x, x = xs[k] := ⟨_, rfl⟩
      rw [← hx] at hc1 htk
      clear hx
      have HTK := Lib.hid htk
      clear htk
      obtain ⟨hcl0, hcl1⟩ := clamp_bd x
      go_wp2_with (go_at_call 92; refine (sign_whole x _).mono ?_)
      rintro e w' ⟨rfl, rfl⟩
      go_wp2_with (go_at_call 91; refine (builder_WriteRune w.heap.size w.heap.size _ _ (by omega) (by omega) _ hI (by rw [Lib.byteCells_length]; omega) (by omega)).mono ?_)
      rintro e W1 ⟨rfl, h1, b1, k1⟩
      go_wp2
      go_roundw
      case rel =>
        refine ⟨k + 1, by omega, by go_num, ?_, hbw.trans b1, by have := b1.size; omega⟩
        rw [HTK.out, Lib.byteCells_append, Lib.byteCells_encodeRune]
        exact Or.inr h1
      case measure => simp [intOf]; omega
    · go_wp2_with (go_at_call 93; refine (builder_String w.heap.size w.heap.size _ _ hI (by omega)).mono ?_)
      rintro e W1 ⟨rfl, _, b1, _⟩
      go_wp2
      go_ret
      rw [List.take_of_length_le (by omega)]
      exact ⟨rfl, hbw.trans b1⟩
end Go.Proofs.Ythpecegifilgoaa
