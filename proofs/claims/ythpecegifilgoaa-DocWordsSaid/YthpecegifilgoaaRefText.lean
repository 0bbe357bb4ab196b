/- What the document's own Text answers: the bytes of the characters; nothing that was there turns. For every list of at most 2^30 numbers. -/
import Derived.Test.YthpecegifilgoaaQ02
import Derived.Laws.IdiomStrings
import Derived.Laws.BytesArg
namespace Go.Proofs.Ythpecegifilgoaa
open Go Go.RowKit
set_option linter.unusedVariables false

theorem run_string_of {P : Program} {w : World} {B : Nat} {A : Option Addr} {l : List UInt8} (h : Row w B A (Lib.byteCells l)) (src dst e : TypeId) (c : Nat)
    (hs : P.underlying src = some (.slice e)) (he : P.underlying e = some (.int .u8)) (hd : P.underlying dst = some .string) :
    (convert src dst (.slice A l.length c)).run P w = .ok (.string ⟨l.toArray⟩) w := by
  by_cases h0 : l = []
  · subst h0
    rcases A with _ | a
    · exact run_convert_bytes_nil w src e hs he 0 c dst hd
    · exact run_convert_bytes_back w src dst e a c [] hs he hd (fun j hj => absurd hj (by simp))
  · have hpos : 0 < l.length := List.length_pos_iff.2 h0
    obtain ⟨b, off, rfl, _, hc⟩ := h.at_ (by rw [Lib.byteCells_length]; exact hpos)
    refine run_convert_bytes_back w src dst e _ c l hs he hd (fun j hj => ?_)
    rw [Addr.add_lit]
    exact hc j _ (by simp [Lib.byteCells, hj])

theorem info_byte : (Try.prog.info? 5).map (fun i => (i.zero, i.size, i.bytes)) = some (some (.int .u8 0), 1, 1) := by kernel_rfl

def RefTextRel (w : World) (xs : List Int) (o i : Value) (wr : World) : Prop :=
  ∃ k : Nat, k ≤ xs.length ∧ i = .int .i64 k ∧ wr.ownsRow w.heap.size 5 1 o (text (xs.take k)).length (Lib.byteCells (text (xs.take k))) ∧ Below w.heap.size w wr

theorem text_next {xs : List Int} {k : Nat} (hk : k < xs.length) {bs : List Int} (h : Lib.encodeRuneZ xs[k] = bs) :
    (text (xs.take (k + 1))).length = (text (xs.take k)).length + bs.length ∧ Lib.byteCells (text (xs.take (k + 1))) = Lib.byteCells (text (xs.take k)) ++ bs.map (Value.int .u8) := by
  have e : text (xs.take (k + 1)) = text (xs.take k) ++ Lib.encodeRune xs[k] := by rw [text_take hk, encode_clamp]
  refine ⟨?_, ?_⟩
  · rw [e, List.length_append, Lib.encodeRune, List.length_map, h]
  · rw [e, Lib.byteCells_append, Lib.byteCells_encodeRune, Lib.runeCells, h]

set_option maxHeartbeats 4000000 in
set_option maxRecDepth 100000 in
theorem ref_Text (A : Option Addr) (c : Nat) (xs : List Int) (w : World) (hx : Row w w.heap.size A (ints xs)) (hl : xs.length ≤ 1073741824) :
    Calls Try.prog 61 #[.slice A xs.length c] w (GaveText (text xs) w) := by
  obtain ⟨i0, hi0, hz0, hz1, hz2⟩ := info_parts info_byte
  have HX := Lib.hid hx
  clear hx
  go_enter Try.func61, Try.ntmps61
  go_wp2
  go_loopw [3, 4] (fun o i wr => RefTextRel w xs o i wr) (fun _ i _ => xs.length - (intOf i).toNat)
  case atStart => exact ⟨0, Nat.zero_le _, rfl, World.ownsRow_nil _ _ _ _, Below.refl _ w⟩
  case round =>
    obtain ⟨k, hk, rfl, hown, hbw⟩ := hrel
    have hsz := hbw.size
    by_cases hlt : k < xs.length
    · obtain ⟨b1, o1, e1, _, hc1⟩ := row_int (HX.out.below hbw) hlt
      subst e1
      have hlen := text_take_le xs k
      have HN := Lib.hid (fun bs => text_next hlt (bs := bs))
      obtain ⟨x, hx⟩ : ∃ x, x = xs[k] := ⟨_, rfl⟩
      rw [← hx] at hc1 HN
      clear hx
      obtain ⟨m, hm⟩ : ∃ m, m = (text (xs.take k)).length := ⟨_, rfl⟩
      obtain ⟨cs, hcs⟩ : ∃ cs, cs = Lib.byteCells (text (xs.take k)) := ⟨_, rfl⟩
      rw [← hm] at hown hlen HN
      rw [← hcs] at hown HN
      clear hm hcs
      have hxr : Hid True := Lib.hid trivial
      by_cases c_neg : x < 0
      · skip
        obtain ⟨hn1, hn2⟩ := HN.out [239, 191, 189] (Lib.encodeRuneZ_bad (by omega))
        have HN1 := Lib.hid hn1
        have HN2 := Lib.hid hn2
        clear hn1 hn2 HN
        go_wp2_with (at_builtin; refine wpList_append_own _ rfl (.tmp 52) (.tmp 66) 63 rfl w.heap.size 5 i0 _ 1 1 Try.underlying63 hi0 hz0 hz1 hz2 rfl (by omega) _ m cs rfl (hown.alloc _) ⟨wr.heap.size, 0, none⟩ 3 3 (List.map (Value.int .u8) [239, 191, 189]) rfl rfl (news_at _ _ _) (ints_oneCell _ _) (by unfold maxLen; omega) (by omega) (by simp; omega) ?_)
        intro v' w3 hown3 hgrow3 _
        go_wp2
        go_roundw
        case rel =>
          refine ⟨k + 1, by omega, by go_num, ?_, (hbw.alloc (by omega) _).grown hgrow3 (by simp; omega) (fun k hk => (hown.lt k hk).1)⟩
          rw [HN1.out, HN2.out]
          exact hown3
        case measure => simp [intOf]; omega
      by_cases c_one : x ≤ 127
      · skip
        obtain ⟨hn1, hn2⟩ := HN.out [x] (Lib.encodeRuneZ_one (by omega) (by omega))
        have HN1 := Lib.hid hn1
        have HN2 := Lib.hid hn2
        clear hn1 hn2 HN
        go_wp2_with (at_builtin; refine wpList_append_own _ rfl (.tmp 32) (.tmp 35) 63 rfl w.heap.size 5 i0 _ 1 1 Try.underlying63 hi0 hz0 hz1 hz2 rfl (by omega) _ m cs rfl (hown.alloc _) ⟨wr.heap.size, 0, none⟩ 1 1 (List.map (Value.int .u8) [x]) rfl rfl (news_at _ _ _) (ints_oneCell _ _) (by unfold maxLen; omega) (by omega) (by simp; omega) ?_)
        intro v' w3 hown3 hgrow3 _
        go_wp2
        go_roundw
        case rel =>
          refine ⟨k + 1, by omega, by go_num, ?_, (hbw.alloc (by omega) _).grown hgrow3 (by simp; omega) (fun k hk => (hown.lt k hk).1)⟩
          rw [HN1.out, HN2.out]
          exact hown3
        case measure => simp [intOf]; omega
      by_cases c_two : x ≤ 2047
      · skip
        obtain ⟨hn1, hn2⟩ := HN.out [192 + x / 64, 128 + x % 64] (Lib.encodeRuneZ_two (by omega) (by omega))
        have HN1 := Lib.hid hn1
        have HN2 := Lib.hid hn2
        clear hn1 hn2 HN
        go_wp2_with (at_builtin; refine wpList_append_own _ rfl (.tmp 39) (.tmp 48) 63 rfl w.heap.size 5 i0 _ 1 1 Try.underlying63 hi0 hz0 hz1 hz2 rfl (by omega) _ m cs rfl (hown.alloc _) ⟨wr.heap.size, 0, none⟩ 2 2 (List.map (Value.int .u8) [192 + x / 64, 128 + x % 64]) rfl rfl (news_at _ _ _) (ints_oneCell _ _) (by unfold maxLen; omega) (by omega) (by simp; omega) ?_)
        intro v' w3 hown3 hgrow3 _
        go_wp2
        go_roundw
        case rel =>
          refine ⟨k + 1, by omega, by go_num, ?_, (hbw.alloc (by omega) _).grown hgrow3 (by simp; omega) (fun k hk => (hown.lt k hk).1)⟩
          rw [HN1.out, HN2.out]
          exact hown3
        case measure => simp [intOf]; omega
      by_cases c_three : x < 55296
      · skip
        obtain ⟨hn1, hn2⟩ := HN.out [224 + x / 4096, 128 + x / 64 % 64, 128 + x % 64] (Lib.encodeRuneZ_three (by omega))
        have HN1 := Lib.hid hn1
        have HN2 := Lib.hid hn2
        clear hn1 hn2 HN
        go_wp2_with (at_builtin; refine wpList_append_own _ rfl (.tmp 52) (.tmp 66) 63 rfl w.heap.size 5 i0 _ 1 1 Try.underlying63 hi0 hz0 hz1 hz2 rfl (by omega) _ m cs rfl (hown.alloc _) ⟨wr.heap.size, 0, none⟩ 3 3 (List.map (Value.int .u8) [224 + x / 4096, 128 + x / 64 % 64, 128 + x % 64]) rfl rfl (news_at _ _ _) (ints_oneCell _ _) (by unfold maxLen; omega) (by omega) (by simp; omega) ?_)
        intro v' w3 hown3 hgrow3 _
        go_wp2
        go_roundw
        case rel =>
          refine ⟨k + 1, by omega, by go_num, ?_, (hbw.alloc (by omega) _).grown hgrow3 (by simp; omega) (fun k hk => (hown.lt k hk).1)⟩
          rw [HN1.out, HN2.out]
          exact hown3
        case measure => simp [intOf]; omega
      by_cases c_sur : x ≤ 57343
      · skip
        obtain ⟨hn1, hn2⟩ := HN.out [239, 191, 189] (Lib.encodeRuneZ_bad (by omega))
        have HN1 := Lib.hid hn1
        have HN2 := Lib.hid hn2
        clear hn1 hn2 HN
        go_wp2_with (at_builtin; refine wpList_append_own _ rfl (.tmp 52) (.tmp 66) 63 rfl w.heap.size 5 i0 _ 1 1 Try.underlying63 hi0 hz0 hz1 hz2 rfl (by omega) _ m cs rfl (hown.alloc _) ⟨wr.heap.size, 0, none⟩ 3 3 (List.map (Value.int .u8) [239, 191, 189]) rfl rfl (news_at _ _ _) (ints_oneCell _ _) (by unfold maxLen; omega) (by omega) (by simp; omega) ?_)
        intro v' w3 hown3 hgrow3 _
        go_wp2
        go_roundw
        case rel =>
          refine ⟨k + 1, by omega, by go_num, ?_, (hbw.alloc (by omega) _).grown hgrow3 (by simp; omega) (fun k hk => (hown.lt k hk).1)⟩
          rw [HN1.out, HN2.out]
          exact hown3
        case measure => simp [intOf]; omega
      by_cases c_three2 : x ≤ 65535
      · skip
        obtain ⟨hn1, hn2⟩ := HN.out [224 + x / 4096, 128 + x / 64 % 64, 128 + x % 64] (Lib.encodeRuneZ_three (by omega))
        have HN1 := Lib.hid hn1
        have HN2 := Lib.hid hn2
        clear hn1 hn2 HN
        go_wp2_with (at_builtin; refine wpList_append_own _ rfl (.tmp 52) (.tmp 66) 63 rfl w.heap.size 5 i0 _ 1 1 Try.underlying63 hi0 hz0 hz1 hz2 rfl (by omega) _ m cs rfl (hown.alloc _) ⟨wr.heap.size, 0, none⟩ 3 3 (List.map (Value.int .u8) [224 + x / 4096, 128 + x / 64 % 64, 128 + x % 64]) rfl rfl (news_at _ _ _) (ints_oneCell _ _) (by unfold maxLen; omega) (by omega) (by simp; omega) ?_)
        intro v' w3 hown3 hgrow3 _
        go_wp2
        go_roundw
        case rel =>
          refine ⟨k + 1, by omega, by go_num, ?_, (hbw.alloc (by omega) _).grown hgrow3 (by simp; omega) (fun k hk => (hown.lt k hk).1)⟩
          rw [HN1.out, HN2.out]
          exact hown3
        case measure => simp [intOf]; omega
      by_cases c_four : x ≤ 1114111
      · skip
        obtain ⟨hn1, hn2⟩ := HN.out [240 + x / 262144, 128 + x / 4096 % 64, 128 + x / 64 % 64, 128 + x % 64] (Lib.encodeRuneZ_four (by omega) (by omega))
        have HN1 := Lib.hid hn1
        have HN2 := Lib.hid hn2
        clear hn1 hn2 HN
        go_wp2_with (at_builtin; refine wpList_append_own _ rfl (.tmp 68) (.tmp 87) 63 rfl w.heap.size 5 i0 _ 1 1 Try.underlying63 hi0 hz0 hz1 hz2 rfl (by omega) _ m cs rfl (hown.alloc _) ⟨wr.heap.size, 0, none⟩ 4 4 (List.map (Value.int .u8) [240 + x / 262144, 128 + x / 4096 % 64, 128 + x / 64 % 64, 128 + x % 64]) rfl rfl (news_at _ _ _) (ints_oneCell _ _) (by unfold maxLen; omega) (by omega) (by simp; omega) ?_)
        intro v' w3 hown3 hgrow3 _
        go_wp2
        go_roundw
        case rel =>
          refine ⟨k + 1, by omega, by go_num, ?_, (hbw.alloc (by omega) _).grown hgrow3 (by simp; omega) (fun k hk => (hown.lt k hk).1)⟩
          rw [HN1.out, HN2.out]
          exact hown3
        case measure => simp [intOf]; omega
      · skip
        obtain ⟨hn1, hn2⟩ := HN.out [239, 191, 189] (Lib.encodeRuneZ_bad (by omega))
        have HN1 := Lib.hid hn1
        have HN2 := Lib.hid hn2
        clear hn1 hn2 HN
        go_wp2_with (at_builtin; refine wpList_append_own _ rfl (.tmp 52) (.tmp 66) 63 rfl w.heap.size 5 i0 _ 1 1 Try.underlying63 hi0 hz0 hz1 hz2 rfl (by omega) _ m cs rfl (hown.alloc _) ⟨wr.heap.size, 0, none⟩ 3 3 (List.map (Value.int .u8) [239, 191, 189]) rfl rfl (news_at _ _ _) (ints_oneCell _ _) (by unfold maxLen; omega) (by omega) (by simp; omega) ?_)
        intro v' w3 hown3 hgrow3 _
        go_wp2
        go_roundw
        case rel =>
          refine ⟨k + 1, by omega, by go_num, ?_, (hbw.alloc (by omega) _).grown hgrow3 (by simp; omega) (fun k hk => (hown.lt k hk).1)⟩
          rw [HN1.out, HN2.out]
          exact hown3
        case measure => simp [intOf]; omega
    · have hkx : k = xs.length := by omega
      subst hkx
      rw [List.take_length] at hown
      obtain ⟨A2, c2, rfl, _, hrow⟩ := owned_row hown
      have hconv := run_string_of hrow 63 9 5 c2 Try.underlying63 Try.underlying5 Try.underlying9
      clear hrow hown
      go_wp2
      go_ret
      exact ⟨rfl, hbw⟩

theorem ref_Text_at (A : Option Addr) (n c : Nat) (xs : List Int) (w : World) (hn : xs.length = n) (hx : Row w w.heap.size A (ints xs)) (hl : n ≤ 1073741824) :
    Calls Try.prog 61 #[.slice A n c] w (GaveText (text xs) w) := by
  subst hn
  exact ref_Text A c xs w hx hl

theorem sign_Text_at (A : Option Addr) (n c : Nat) (xs : List Int) (w : World) (hn : xs.length = n) (hx : Row w w.heap.size A (ints xs)) (hl : n ≤ 1073741824) :
    Calls Try.prog 76 #[.slice A n c] w (GaveText (text xs) w) := by
  subst hn
  exact sign_Text A c xs w hx hl
end Go.Proofs.Ythpecegifilgoaa
