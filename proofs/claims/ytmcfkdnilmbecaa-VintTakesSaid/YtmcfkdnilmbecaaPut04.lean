/- Package vint's Put and Size, the document's own Put, and the statements' 'few'. -/
import Derived.Test.YtmcfkdnilmbecaaAdd04
namespace Go.Proofs.Ytmcfkdnilmbecaa
open Go Go.RowKit
set_option linter.unusedVariables false

set_option maxHeartbeats 1000000 in
set_option maxRecDepth 100000 in
theorem vint_Put (A : Option Addr) (m c : Nat) (bs : List UInt8) (n : Nat) (w : World) (hm : bs.length = m) (hc : m ≤ c) (hr : Row w w.heap.size A (Lib.byteCells bs)) (hn : n < 9223372036854775808) (hl : bs.length ≤ 1073741824) :
    Calls Try.prog 10 #[.slice A m c, .int .i64 (n : Int)] w (GaveOwn w.heap.size (bs ++ putB n) w) := by
  have HR := Lib.hid hr
  clear hr
  subst hm
  go_enter Try.func10, Try.ntmps10
  go_wp2_with (go_at_call 24; refine (vint_add _ bs n w.heap.size _ (.inl ⟨A, ?_, HR.out⟩) (Nat.le_refl _) hn hl).mono ?_)
  · rfl
  rintro e w2 ⟨v, rfl, hown, hb⟩
  go_wp2
  go_ret
  exact ⟨_, rfl, hown, hb⟩

def SizeRel (n : Nat) (i k : Value) : Prop := ∃ x s : Nat, i = .int .i64 (x : Int) ∧ k = .int .i64 (s : Int) ∧ x ≤ n ∧ s + (putB x).length = (putB n).length + 1
set_option maxHeartbeats 1000000 in
set_option maxRecDepth 100000 in
theorem vint_Size (n : Nat) (w : World) (hn : n < 9223372036854775808) :
    Calls Try.prog 12 #[.int .i64 (n : Int)] w fun e w' => e = .returned (.int .i64 ((putB n).length : Int)) ∧ w = w' := by
  have h9 := putB_nine hn
  have hd : decide ((n : Int) < 0) = false := decide_eq_false (by omega)
  go_enter Try.func12, Try.ntmps12
  go_wp2
  go_loop [0, 3] (fun i k => SizeRel n i k) (fun i _ => (intOf i).toNat)
  case atStart => exact ⟨n, 1, rfl, rfl, Nat.le_refl _, by omega⟩
  case round =>
    obtain ⟨x, s, rfl, rfl, hx, hs⟩ := hrel
    by_cases h : 128 ≤ x
    · rw [putB_big h, List.length_cons] at hs
      have hp := putB_pos (x / 128)
      have hs2 : (s + 1) + (putB (x / 128)).length = (putB n).length + 1 := by omega
      have hs9 : s ≤ 9 := by omega
      have HS := Lib.hid hs2
      clear hs hs2 hp
      go_wp2
      go_round
      case rel => exact ⟨x / 128, s + 1, by go_num, by go_num, by omega, HS.out⟩
      case measure => simp [intOf]; omega
    · rw [putB_small (by omega), List.length_singleton] at hs
      have hs2 : s = (putB n).length := by omega
      have HS := Lib.hid hs2
      clear hs hs2
      go_wp2
      go_ret
      exact ⟨ret_int (by rw [HS.out]), rfl⟩

set_option maxHeartbeats 1000000 in
set_option maxRecDepth 100000 in
theorem ref_Put (n : Nat) (w : World) (hn : n < 9223372036854775808) :
    Calls Try.prog 11 #[.int .i64 (n : Int)] w (GaveOwn w.heap.size (putB n) w) := by
  obtain ⟨i0, hi0, hz0, hz1, hz2⟩ := info_parts info_byte
  have h9 := putB_nine hn
  obtain ⟨all, hall⟩ : ∃ all, all = putB n := ⟨_, rfl⟩
  have hal : all.length ≤ 9 := by rw [hall]; omega
  rw [← hall]
  have HALL := Lib.hid hall
  clear hall
  go_enter Try.func11, Try.ntmps11
  go_wp2
  go_loopw [3, 0] (fun v i wr => AddRel w.heap.size all n w v i wr) (fun _ i _ => (intOf i).toNat)
  case atStart => exact ⟨[], n, rfl, Nat.le_refl _, by simp, HALL.out.symm, .inr (World.ownsRow_nil _ _ _ _), Below.refl _ _⟩
  case round =>
    obtain ⟨cur, x, rfl, hx, hcl, hcat, hbuf, hbw⟩ := hrel
    have hsz := hbw.size
    have HBUF := Lib.hid hbuf
    have HCAT := Lib.hid hcat
    clear hbuf hcat
    by_cases h : 128 ≤ x
    · obtain ⟨c, hc⟩ : ∃ c, c = UInt8.ofNat (128 + x % 128) := ⟨_, rfl⟩
      have hcn : Hid (c.toNat = 128 + x % 128) := Lib.hid (by rw [hc, byte_nat (by omega)])
      have hcat2 : (cur ++ [c]) ++ putB (x / 128) = all := by
        rw [← HCAT.out, putB_big h, List.append_assoc, hc]; rfl
      have hcl2 : (cur ++ [c]).length ≤ all.length := by rw [← hcat2, List.length_append (bs := putB (x / 128))]; omega
      clear hc
      have HC2 := Lib.hid hcat2
      have HL2 := Lib.hid hcl2
      clear hcat2 hcl2
      go_wp2_with (at_builtin; refine wpList_append_buf _ rfl (.tmp 6) (.tmp 11) 22 rfl w.heap.size i0 _ Try.underlying22 hi0 hz0 hz1 hz2 rfl _ cur rfl (HBUF.out.alloc (by omega) _) (by simp; omega) ⟨wr.heap.size, 0, none⟩ 1 _ rfl (news_at wr [.int .u8 _] 5) c (by rw [hcn.out]; omega) (by omega) ?_)
      intro v' w3 hown3 hb3
      go_wp2
      go_roundw
      case rel => exact ⟨_, x / 128, by go_num, by omega, HL2.out, HC2.out, hown3.buf, (hbw.alloc (by omega) _).trans hb3⟩
      case measure => simp [intOf]; omega
    · obtain ⟨c, hc⟩ : ∃ c, c = UInt8.ofNat x := ⟨_, rfl⟩
      have hcn : Hid (c.toNat = x) := Lib.hid (by rw [hc, byte_nat (by omega)])
      have hcat2 : cur ++ [c] = all := by rw [← HCAT.out, putB_small (by omega), hc]
      clear hc
      have HC2 := Lib.hid hcat2
      clear hcat2
      go_wp2_with (at_builtin; refine wpList_append_buf _ rfl (.tmp 15) (.tmp 18) 22 rfl w.heap.size i0 _ Try.underlying22 hi0 hz0 hz1 hz2 rfl _ cur rfl (HBUF.out.alloc (by omega) _) (by simp; omega) ⟨wr.heap.size, 0, none⟩ 1 _ rfl (news_at wr [.int .u8 _] 5) c (by rw [hcn.out]) (by omega) ?_)
      intro v' w3 hown3 hb3
      go_wp2
      go_ret
      exact ⟨_, rfl, by rw [← HC2.out]; exact hown3, (hbw.alloc (by omega) _).trans hb3⟩

/-- What the statements' own 'few' gives: at most 60 bytes, in the row that they came in. -/
def GaveFew (w : World) (e : Ending) (w' : World) : Prop := ∃ A m c bs, e = .returned (.slice A m c) ∧ bs.length = m ∧ m ≤ c ∧ m ≤ 60 ∧ c ≤ maxLen ∧ Row w w.heap.size A (Lib.byteCells bs) ∧ w = w'
set_option maxHeartbeats 1000000 in
theorem law04_few (A : Option Addr) (m c : Nat) (zs : List Int) (w : World) (h : InRow .u8 w A m c zs) :
    Calls Try.prog 9 #[.slice A m c] w (GaveFew w) := by
  obtain ⟨hmc, hcx, hzl, hr, hz⟩ := h
  obtain ⟨bs, hbs, hbl⟩ := bytes_of_ints hz
  rw [hbs] at hr
  have HR := Lib.hid hr
  clear hr hbs hz
  unfold maxLen at hcx
  by_cases h : 60 < m
  · have hr2 : Row w w.heap.size A (Lib.byteCells (bs.take 60)) := by
      have := HR.out.cut 60
      rwa [show (Lib.byteCells bs).take 60 = Lib.byteCells (bs.take 60) by simp [Lib.byteCells]] at this
    have HR2 := Lib.hid hr2
    clear hr2
    rcases A with _ | ⟨b, off, sp⟩
    · exfalso
      rcases HR.out with h0 | ⟨b, off, h0, _⟩
      · have := congrArg List.length h0
        rw [Lib.byteCells_length] at this
        simp at this
        subst this
        simp at hbl
        omega
      · cases h0
    · go_enter Try.func9, Try.ntmps9
      go_wp2
      go_ret
      exact ⟨_, _, _, bs.take 60, rfl, by rw [List.length_take]; omega, by omega, by omega, by unfold maxLen; omega, HR2.out, rfl⟩
  · go_enter Try.func9, Try.ntmps9
    go_wp2
    go_ret
    exact ⟨_, _, _, bs, rfl, by omega, by omega, by omega, by unfold maxLen; omega, HR.out, rfl⟩
end Go.Proofs.Ytmcfkdnilmbecaa
