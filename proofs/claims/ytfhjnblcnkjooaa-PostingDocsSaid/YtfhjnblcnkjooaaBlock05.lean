/- What the list's Bytes and Block answer, in new memory. -/
import Derived.Test.YtfhjnblcnkjooaaTake05
import Derived.Lib.SliceRun
import Derived.Deep.RegionHeld3
set_option linter.unusedVariables false
namespace Go.Proofs.Ytfhjnblcnkjooaa
open Go Go.RowKit

theorem NewPo.low {base base' : Nat} {w : World} {v : Value} {l : List Po} (h : NewPo base w v l) (hb : base' ≤ base) : NewPo base' w v l := by
  obtain ⟨cs, h1, h2⟩ := h
  exact ⟨cs, owned_low h1 hb, h2⟩

set_option maxHeartbeats 2000000 in
set_option maxRecDepth 100000 in
theorem clone_bytes (A : Option Addr) (m c : Nat) (bs : List UInt8) (w : World) (hn : bs.length = m) (hr : Row w w.heap.size A (Lib.byteCells bs)) (hl : m ≤ 1073741824) :
    Calls Try.prog 37 #[.slice A m c] w (GaveOwn w.heap.size bs w) := by
  obtain ⟨i0, hi0, hz0, hz1, hz2⟩ := info_parts info_byte
  have qe : ∀ (w : World) (a : Option Addr) (n c n' c' : Nat), (binOp .eql 32 (.slice a n c) (.slice none n' c')).run Try.prog w = .ok (.bool a.isNone) w := fun w a n c n' c' => Lib.run_eql_slice_nil w _ _ a n c n' c' Try.underlying32
  subst hn
  cases A with
  | none =>
    obtain rfl : bs = [] := by
      rcases Nat.eq_zero_or_pos bs.length with h0 | h0
      · exact List.eq_nil_of_length_eq_zero h0
      · obtain ⟨_, _, e, _⟩ := hr.at_ (by rw [Lib.byteCells_length]; exact h0)
        cases e
    clear hr
    go_enter Try.func37, Try.ntmps37
    go_wp2
    go_ret
    exact ⟨_, rfl, World.ownsRow_nil w w.heap.size _ 1, Below.refl _ _⟩
  | some ad =>
    have HR := Lib.hid hr
    have hwl := Lib.byteCells_length bs
    have HWL := Lib.hid hwl
    clear hr hwl
    have hlit : (w.alloc (.cells #[] 5)).ownsRow w.heap.size 5 1 (.slice (some ⟨w.heap.size, 0, none⟩) 0 0) 0 [] := World.ownsRow_made w #[] 0 (Nat.le_refl _) (Nat.zero_le _) rfl
    obtain ⟨m, hm⟩ : ∃ m, m = bs.length := ⟨_, rfl⟩
    rw [← hm] at HWL hl
    rw [← hm]
    have HM := Lib.hid hm
    clear hm
    go_enter Try.func37, Try.ntmps37
    go_wp2_with (at_builtin; (refine wpList_append_row _ rfl (.tmp 5) (.tmp 6) 32 rfl w.heap.size 5 i0 _ 1 1 Try.underlying32 hi0 hz0 hz1 hz2 rfl (by decide) _ 0 [] rfl hlit _ _ m c (Lib.byteCells bs) rfl (by rw [HWL.out]; omega) ((HR.out.below ((Below.refl _ w).alloc (Nat.le_refl _) (.cells #[] 5))).more (B' := (w.alloc (.cells #[] 5)).heap.size) (by simp)) (byteCells_oneCell _) (by unfold maxLen; omega) (by omega) (by simp) ?_))
    intro v' w' hown hgrow
    go_wp2
    go_ret
    exact ⟨_, rfl, by unfold Own; rw [← HM.out]; simpa using hown, ((Below.refl _ _).alloc (Nat.le_refl _) _).grown hgrow (by simp) (fun k hk => by cases hk; exact Nat.le_refl _)⟩

set_option maxHeartbeats 1000000 in
set_option maxRecDepth 100000 in
theorem list_Bytes (base B : Nat) (bs : List UInt8) (l : List Po) (w : World) (h : LAt w base B bs l) (hl : bs.length ≤ 1073741824) :
    Calls Try.prog 32 #[.pointer (some ⟨B, 0, none⟩)] w (GaveOwn w.heap.size bs w) := by
  obtain ⟨Ab, cb, Ae, ce, ⟨c0, c1, c2, c3⟩, _, _, _, hrb, _, _⟩ := h.read
  have HC := Lib.hid (clone_bytes Ab bs.length cb bs w rfl hrb hl)
  clear h c1 c2 c3 hrb
  go_enter Try.func32, Try.ntmps32
  go_wp2_with (go_at_call 37; refine HC.out.mono ?_; rintro e w' ⟨v, rfl, hown, hb⟩)
  go_ret
  exact ⟨_, rfl, hown, hb⟩

/-- What a call gives that makes a list of postings, its places in rows of ints. -/
def GaveNew (l : List Po) (w : World) (e : Ending) (w' : World) : Prop := ∃ v, e = .returned v ∧ NewPo w.heap.size w' v l ∧ Below w.heap.size w w'

set_option maxHeartbeats 4000000 in
set_option maxRecDepth 100000 in
theorem list_Block (base B : Nat) (l : List Po) (w : World) (h : LAt w base B (bytesP (-1) l) l) (hm : mayB' (-1) l = true) (hbl : (bytesP (-1) l).length ≤ 1000000) (hl : l.length ≤ 1000000) (k : Int) (hk0 : -1 ≤ k) :
    Calls Try.prog 19 #[.pointer (some ⟨B, 0, none⟩), .int .i64 k] w (GaveNew (blockP l k) w) := by
  have HH := Lib.hid (list_has base B _ l w h k hk0)
  by_cases hin : 0 ≤ k ∧ k < (blocksP l.length : Int)
  · obtain ⟨j, rfl⟩ : ∃ j : Nat, k = (j : Int) := ⟨k.toNat, by omega⟩
    have hj : j < blocksP l.length := by omega
    rw [decide_eq_true hin] at HH
    have hst := block_stands hj hm
    have hblen := blockP_length (l := l) j
    have hd0 := docOf_ge (l.take (8 * j)) (-1) (by have := hm; rw [← List.take_append_drop (8 * j) l, mayB'_append, Bool.and_eq_true] at this; exact this.1)
    have hd1 := docOf_lt (l.take (8 * j)) (-1) (by have := hm; rw [← List.take_append_drop (8 * j) l, mayB'_append, Bool.and_eq_true] at this; exact this.1) (by omega)
    have hal : (bytesP (-1) (l.take (8 * j))).length ≤ (bytesP (-1) l).length := by have := hst.2.1; omega
    have ah := fun w' (hb : Below w.heap.size w w') => list_ahead base B _ l w' (h.below hb) j (by omega) (by omega)
    obtain ⟨bs, hbs⟩ : ∃ bs, bs = bytesP (-1) l := ⟨_, rfl⟩
    obtain ⟨blk, hblk⟩ : ∃ blk, blk = blockP l (j : Int) := ⟨_, rfl⟩
    obtain ⟨x, hx⟩ : ∃ x, x = docOf (-1) (l.take (8 * j)) := ⟨_, rfl⟩
    obtain ⟨a, ha⟩ : ∃ a, a = (bytesP (-1) (l.take (8 * j))).length := ⟨_, rfl⟩
    rw [← hx, ← ha] at ah
    rw [← hbs, ← hblk, ← hx, ← ha] at hst
    rw [← hx] at hd0 hd1
    rw [← hbs] at h hbl
    rw [← hbs, ← ha] at hal
    rw [← hblk] at hblen
    rw [← hblk]
    obtain ⟨Ab, cb, Ae, ce, ⟨c0, c1, c2, c3⟩, hcb, hcbx, _, hrb, _, _⟩ := h.read
    have hblt := h.lt
    obtain ⟨n, hn⟩ : ∃ n, n = l.length := ⟨_, rfl⟩
    rw [← hn] at c2 hblen hl
    have hnj : 8 * j < n := by rw [hn]; unfold blocksP at hj; omega
    obtain ⟨M, hM⟩ : ∃ M, M = bs.length := ⟨_, rfl⟩
    rw [← hM] at c0 hal hbl hcb
    obtain ⟨q, hq⟩ : ∃ q : Nat, q = min 8 (n - 8 * j) := ⟨_, rfl⟩
    rw [← hq] at hblen
    have hq1 : q ≤ 8 := by omega
    have hqm : (if (8 : Int) < (n : Int) - (j : Int) * 8 then (8 : Int) else (n : Int) - (j : Int) * 8) = (q : Int) := by split <;> omega
    have HG : Hid (∀ w', Below w.heap.size w w' → Calls Try.prog 36 #[.slice Ab M cb, .agg #[.int .i64 x, .int .i64 (a : Int)], .int .i64 (q : Int)] w' fun e w2 =>
        ∃ (v : Value) (z : Int), e = .returned (.tuple #[v, .int .i64 z, .bool true]) ∧ NewPo w'.heap.size w2 v blk ∧ Below w'.heap.size w' w2) := Lib.hid fun w' hb =>
      (posting_get Ab M cb bs x a q w' ((hrb.below hb).more hb.size) hM.symm hcb hcbx hbl hal (by omega) hd1 (by omega)).mono fun e w2 => by
        rintro ⟨h1, (⟨g, v, h2, h3, h4, _, rfl, h5⟩ | ⟨h2, _⟩)⟩
        · exact ⟨v, _, rfl, by rw [h4 blk hblen hst]; exact h5, h1⟩
        · exact absurd hst (h2 blk hblen)
    have HA : Hid (∀ w', Below w.heap.size w w' → Calls Try.prog 43 #[.pointer (some ⟨B, 0, none⟩), .int .i64 (j : Int)] w' fun e w2 =>
        e = .returned (.agg #[.int .i64 x, .int .i64 (a : Int)]) ∧ Below w'.heap.size w' w2) := Lib.hid fun w' hb => ah w' hb
    have HC : Hid (∀ w', Below w.heap.size w w' → w'.cell? ⟨B, 0, none⟩ = some (.slice Ab M cb) ∧ w'.cell? ⟨B, 2, none⟩ = some (.int .i64 (n : Int))) := Lib.hid fun w' hb => ⟨(hb.cell (p := ⟨B, 0, none⟩) hblt).trans c0, (hb.cell (p := ⟨B, 2, none⟩) hblt).trans c2⟩
    have hsub : IntKind.i64.wrap ((n : Int) - (j : Int) * 8) = (n : Int) - (j : Int) * 8 := IntWalk.i64_in _ (by omega)
    have hmul : IntKind.i64.wrap ((j : Int) * 8) = (j : Int) * 8 := IntWalk.i64_in _ (by omega)
    have hjb : j ≤ 1000000 := by omega
    clear h hst hblen hrb hbs hblk hx ha hn hM hq ah c1 c3 hd0 hd1 hj hin hm
    go_enter Try.func19, Try.ntmps19
    go_wp2_with (go_at_call 42; refine HH.out.mono ?_; rintro e w' ⟨rfl, rfl⟩)
    go_region_held3 (fun w' => w'.cell? ⟨B, 0, none⟩ = some (.slice Ab M cb) ∧ w'.cell? ⟨B, 2, none⟩ = some (.int .i64 (n : Int)))
      (first | exact HC.out _ (Below.refl _ _).drew | exact HC.out _ HB5.out | exact HC.out _ HB6.out)
      (first
        | (go_simp; go_at_call 43; (with_reducible refine (HA.out _ (Below.refl _ _).drew).mono ?_); rintro e w5 ⟨rfl, hb5⟩; have HB5 : Hid (Below w.heap.size w w5) := Lib.hid ((Below.refl _ w).drew.trans hb5))
        | (go_simp; go_at_call 36; (with_reducible refine (HG.out _ HB5.out).mono ?_); rintro e w6 ⟨v, z, rfl, hown6, hb6⟩; have HB6 : Hid (Below w.heap.size w w6) := Lib.hid (HB5.out.trans (hb6.mono HB5.out.size))))
    all_goals
      go_wp2
      go_ret
      exact ⟨_, rfl, hown6.low HB5.out.size, HB6.out⟩
  · have hx : blockP l k = [] := by
      by_cases hz : k < 0
      · exact blockP_neg hz
      · obtain ⟨j, rfl⟩ : ∃ j : Nat, k = (j : Int) := ⟨k.toNat, by omega⟩
        exact blockP_out (by omega)
    rw [hx]
    rw [decide_eq_false hin] at HH
    clear hx hin h
    go_enter Try.func19, Try.ntmps19
    go_wp2_with (go_at_call 42; refine HH.out.mono ?_; rintro e w' ⟨rfl, rfl⟩)
    go_ret
    exact ⟨_, rfl, NewPo.nil, Below.refl _ _⟩
end Go.Proofs.Ytfhjnblcnkjooaa
