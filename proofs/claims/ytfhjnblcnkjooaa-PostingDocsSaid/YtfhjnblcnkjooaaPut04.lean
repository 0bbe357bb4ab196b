/- Package vint's Put, and the document's own Put. -/
import Derived.Test.YtfhjnblcnkjooaaAdd04
namespace Go.Proofs.Ytfhjnblcnkjooaa
open Go Go.RowKit
set_option linter.unusedVariables false

set_option maxHeartbeats 1000000 in
set_option maxRecDepth 100000 in
theorem vint_Put (A : Option Addr) (m c : Nat) (bs : List UInt8) (n : Nat) (w : World) (hm : bs.length = m) (hc : m ≤ c) (hr : Row w w.heap.size A (Lib.byteCells bs)) (hn : n < 9223372036854775808) (hl : bs.length ≤ 1073741824) :
    Calls Try.prog 46 #[.slice A m c, .int .i64 (n : Int)] w (GaveOwn w.heap.size (bs ++ putB n) w) := by
  have HR := Lib.hid hr
  clear hr
  subst hm
  go_enter Try.func46, Try.ntmps46
  go_wp2_with (go_at_call 51; refine (vint_add _ bs n w.heap.size _ (.inl ⟨A, ?_, HR.out⟩) (Nat.le_refl _) hn hl).mono ?_)
  · rfl
  rintro e w2 ⟨v, rfl, hown, hb⟩
  go_wp2
  go_ret
  exact ⟨_, rfl, hown, hb⟩

set_option maxHeartbeats 1000000 in
set_option maxRecDepth 100000 in
theorem ref_Put (n : Nat) (w : World) (hn : n < 9223372036854775808) :
    Calls Try.prog 40 #[.int .i64 (n : Int)] w (GaveOwn w.heap.size (putB n) w) := by
  obtain ⟨i0, hi0, hz0, hz1, hz2⟩ := info_parts info_byte
  have h9 := putB_nine hn
  obtain ⟨all, hall⟩ : ∃ all, all = putB n := ⟨_, rfl⟩
  have hal : all.length ≤ 9 := by rw [hall]; omega
  rw [← hall]
  have HALL := Lib.hid hall
  clear hall
  go_enter Try.func40, Try.ntmps40
  go_wp2
  go_loopw [3, 0] (fun v i wr => AddRel w.heap.size all n w v i wr) (fun _ i _ => (intOf i).toNat)
  case atStart => exact ⟨[], n, rfl, Nat.le_refl _, by simp, HALL.out.symm, .inr (World.ownsRow_nil _ _ _ _), Below.refl _ _⟩
  case round =>
    obtain ⟨cur, x, rfl, hx, hcl, hcat, hbuf, hbw⟩ := hrel
    have hsz := hbw.size
    have HBUF := Lib.hid hbuf
    have HCAT := Lib.hid hcat
    clear hbuf hcat
    by_cases h : 128 ≤ x
    · obtain ⟨c, hc⟩ : ∃ c, c = UInt8.ofNat (128 + x % 128) := ⟨_, rfl⟩
      have hcn : Hid (c.toNat = 128 + x % 128) := Lib.hid (by rw [hc, byte_nat (by omega)])
      have hcat2 : (cur ++ [c]) ++ putB (x / 128) = all := by
        rw [← HCAT.out, putB_big h, List.append_assoc, hc]; rfl
      have hcl2 : (cur ++ [c]).length ≤ all.length := by rw [← hcat2, List.length_append (bs := putB (x / 128))]; omega
      clear hc
      have HC2 := Lib.hid hcat2
      have HL2 := Lib.hid hcl2
      clear hcat2 hcl2
      go_wp2_with (at_builtin; refine wpList_append_buf _ rfl (.tmp 6) (.tmp 11) 32 rfl w.heap.size i0 _ Try.underlying32 hi0 hz0 hz1 hz2 rfl _ cur rfl (HBUF.out.alloc (by omega) _) (by simp; omega) ⟨wr.heap.size, 0, none⟩ 1 _ rfl (news_at wr [.int .u8 _] 5) c (by rw [hcn.out]; omega) (by omega) ?_)
      intro v' w3 hown3 hb3
      go_wp2
      go_roundw
      case rel => exact ⟨_, x / 128, by go_num, by omega, HL2.out, HC2.out, hown3.buf, (hbw.alloc (by omega) _).trans hb3⟩
      case measure => simp [intOf]; omega
    · obtain ⟨c, hc⟩ : ∃ c, c = UInt8.ofNat x := ⟨_, rfl⟩
      have hcn : Hid (c.toNat = x) := Lib.hid (by rw [hc, byte_nat (by omega)])
      have hcat2 : cur ++ [c] = all := by rw [← HCAT.out, putB_small (by omega), hc]
      clear hc
      have HC2 := Lib.hid hcat2
      clear hcat2
      go_wp2_with (at_builtin; refine wpList_append_buf _ rfl (.tmp 15) (.tmp 18) 32 rfl w.heap.size i0 _ Try.underlying32 hi0 hz0 hz1 hz2 rfl _ cur rfl (HBUF.out.alloc (by omega) _) (by simp; omega) ⟨wr.heap.size, 0, none⟩ 1 _ rfl (news_at wr [.int .u8 _] 5) c (by rw [hcn.out]) (by omega) ?_)
      intro v' w3 hown3 hb3
      go_wp2
      go_ret
      exact ⟨_, rfl, by rw [← HC2.out]; exact hown3, (hbw.alloc (by omega) _).trans hb3⟩

end Go.Proofs.Ytfhjnblcnkjooaa
