/- Package vint's add, Put and Size, and the document's own Put: a number's bytes, behind others. -/
import Derived.Test.YtfhjnblcnkjooaaBytes04
import Derived.BigCall
namespace Go.Proofs.Ytfhjnblcnkjooaa
open Go Go.RowKit
set_option linter.unusedVariables false

/-- What a call gives that puts bytes behind others. -/
def GaveOwn (base : Nat) (bs : List UInt8) (w : World) (e : Ending) (w' : World) : Prop := ∃ v, e = .returned v ∧ Own base w' v bs ∧ Below base w w'

def AddRel (base : Nat) (all : List UInt8) (n : Nat) (w : World) (v i : Value) (wr : World) : Prop :=
  ∃ (cur : List UInt8) (x : Nat), i = .int .i64 (x : Int) ∧ x ≤ n ∧ cur.length ≤ all.length ∧ cur ++ putB x = all ∧ Buf base wr v cur ∧ Below base w wr

set_option maxHeartbeats 1000000 in
set_option maxRecDepth 100000 in
theorem vint_add (v : Value) (bs : List UInt8) (n : Nat) (base : Nat) (w : World) (hb : Buf base w v bs) (hbase : base ≤ w.heap.size) (hn : n < 9223372036854775808) (hl : bs.length ≤ 1073741824) :
    Calls Try.prog 51 #[v, .int .i64 (n : Int)] w (GaveOwn base (bs ++ putB n) w) := by
  obtain ⟨i0, hi0, hz0, hz1, hz2⟩ := info_parts info_byte
  have h9 := putB_nine hn
  obtain ⟨all, hall⟩ : ∃ all, all = bs ++ putB n := ⟨_, rfl⟩
  have hal : all.length ≤ 1073741833 := by rw [hall, List.length_append]; omega
  rw [← hall]
  have HALL := Lib.hid hall
  have HB := Lib.hid hb
  clear hall hb
  go_enter Try.func51, Try.ntmps51
  go_wp2
  go_loopw [0, 1] (fun v i wr => AddRel base all n w v i wr) (fun _ i _ => (intOf i).toNat)
  case atStart => exact ⟨bs, n, rfl, Nat.le_refl _, by rw [HALL.out]; simp, HALL.out.symm, HB.out, Below.refl _ _⟩
  case round =>
    obtain ⟨cur, x, rfl, hx, hcl, hcat, hbuf, hbw⟩ := hrel
    have hsz := hbw.size
    have HBUF := Lib.hid hbuf
    have HCAT := Lib.hid hcat
    clear hbuf hcat
    by_cases h : 128 ≤ x
    · obtain ⟨c, hc⟩ : ∃ c, c = UInt8.ofNat (128 + x % 128) := ⟨_, rfl⟩
      have hcn : Hid (c.toNat = 128 + x % 128) := Lib.hid (by rw [hc, byte_nat (by omega)])
      have hcat2 : (cur ++ [c]) ++ putB (x / 128) = all := by
        rw [← HCAT.out, putB_big h, List.append_assoc, hc]; rfl
      have hcl2 : (cur ++ [c]).length ≤ all.length := by rw [← hcat2, List.length_append (bs := putB (x / 128))]; omega
      clear hc
      have HC2 := Lib.hid hcat2
      have HL2 := Lib.hid hcl2
      clear hcat2 hcl2
      go_wp2_with (at_builtin; refine wpList_append_buf _ rfl (.tmp 9) (.tmp 14) 32 rfl base i0 _ Try.underlying32 hi0 hz0 hz1 hz2 rfl _ cur rfl (HBUF.out.alloc (by omega) _) (by simp; omega) ⟨wr.heap.size, 0, none⟩ 1 _ rfl (news_at wr [.int .u8 _] 5) c (by rw [hcn.out]; omega) (by omega) ?_)
      intro v' w3 hown3 hb3
      go_wp2
      go_roundw
      case rel => exact ⟨_, x / 128, by go_num, by omega, HL2.out, HC2.out, hown3.buf, (hbw.alloc (by omega) _).trans hb3⟩
      case measure => simp [intOf]; omega
    · obtain ⟨c, hc⟩ : ∃ c, c = UInt8.ofNat x := ⟨_, rfl⟩
      have hcn : Hid (c.toNat = x) := Lib.hid (by rw [hc, byte_nat (by omega)])
      have hcat2 : cur ++ [c] = all := by rw [← HCAT.out, putB_small (by omega), hc]
      clear hc
      have HC2 := Lib.hid hcat2
      clear hcat2
      go_wp2_with (at_builtin; refine wpList_append_buf _ rfl (.tmp 16) (.tmp 19) 32 rfl base i0 _ Try.underlying32 hi0 hz0 hz1 hz2 rfl _ cur rfl (HBUF.out.alloc (by omega) _) (by simp; omega) ⟨wr.heap.size, 0, none⟩ 1 _ rfl (news_at wr [.int .u8 _] 5) c (by rw [hcn.out]) (by omega) ?_)
      intro v' w3 hown3 hb3
      go_wp2
      go_ret
      exact ⟨_, rfl, by rw [← HC2.out]; exact hown3, (hbw.alloc (by omega) _).trans hb3⟩
end Go.Proofs.Ytfhjnblcnkjooaa
