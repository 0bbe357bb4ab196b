/- What the document's Same answers of two lists of numbers that are the same; the statements' own like. -/
import Derived.Test.YtkflmhpmnceniaaDoorList03
import Derived.Test.YtkflmhpmnceniaaDoorBitsTurnsWalk
set_option linter.unusedVariables false
namespace Go.Proofs.YtkflmhpmnceniaaDoor
open Go Go.RowKit
open Plain (Rep WS hasB mayB turnB turnedB ones nextB rankB)

set_option maxHeartbeats 1000000 in
set_option maxRecDepth 100000 in
theorem same_nats (A C : Option Addr) (n m c d : Nat) (xs : List Nat) (w : World) (hn : xs.length = n) (hm : xs.length = m) (hx : Row w w.heap.size A (icells xs)) (hy : Row w w.heap.size C (icells xs)) (hxl : xs.length ≤ 1073741824) :
    Calls Tryd.prog 18 #[.slice A n c, .slice C m d] w (GaveTrue w) := by
  subst hn
  subst hm
  have HX := Lib.hid hx
  have HY := Lib.hid hy
  clear hx hy
  go_enter Tryd.func18, Tryd.ntmps18
  go_wp2
  go_loopw [5] (fun i wr => ∃ k : Nat, k ≤ xs.length ∧ i = .int .i64 k ∧ Below w.heap.size w wr) (fun i _ => xs.length - (intOf i).toNat)
  case atStart => exact ⟨0, Nat.zero_le _, rfl, Below.refl _ _⟩
  case round =>
    obtain ⟨k, hk, rfl, hbw⟩ := hrel
    by_cases hlt : k < xs.length
    · obtain ⟨b1, o1, e1, _, hc1⟩ := row_nat (HX.out.below hbw) hlt
      obtain ⟨b2, o2, e2, _, hc2⟩ := row_nat (HY.out.below hbw) hlt
      subst e1 e2
      obtain ⟨x, hx⟩ : ∃ x, x = ((xs[k]'hlt : Nat) : Int) := ⟨_, rfl⟩
      rw [← hx] at hc1 hc2
      clear hx
      have hi0 : (0 : Int) ≤ k := by omega
      have hi1 : (k : Int) < xs.length := by omega
      go_wp2
      go_quiet (fail)
      go_wp2
      go_roundw
      case rel => exact ⟨k + 1, by omega, by go_num, hbw.trans ⟨rfl, rfl, rfl, Nat.le_refl _, fun _ _ => rfl⟩⟩
      case measure => simp [intOf]; omega
    · go_wp2
      go_ret
      exact ⟨rfl, hbw⟩

set_option maxHeartbeats 2000000 in
set_option maxRecDepth 100000 in
theorem law03_like (base base' B : Nat) (v : Value) (r : List Bool) (w : World) (h : SetIs w base B r) (ho : w.ownsRow base' 4 1 v r.length (bcells r)) (hn : r.length ≤ big) (hT : Tab w) :
    Calls Tryd.prog 11 #[.pointer (some ⟨B, 0, none⟩), v] w (GaveTrue w) := by
  obtain ⟨A, c, rfl, hc, hr⟩ := owned_row ho
  have HL := Lib.hid (ref03_List A r.length c r w rfl hr hn)
  have HSZ := Lib.hid (fun w2 h => set_Size_is base B r w2 h)
  have HC := Lib.hid (fun w2 h => set_Count_is base B r w2 h hn)
  have HLI := Lib.hid (fun w2 h hT => set_List base B r w2 h hn hT)
  have H := Lib.hid h
  have HT := Lib.hid hT
  have hk := Plain.ones_length r
  have HB := Lib.hid hn
  unfold big at hn
  obtain ⟨l, hl⟩ : ∃ l, l = ones r := ⟨_, rfl⟩
  rw [← hl] at HL HLI HC hk
  clear hl ho hr h hT
  go_enter Tryd.func11, Tryd.ntmps11
  go_wp2_with (go_at_call 21; (with_reducible refine HL.out.mono ?_))
  rintro e w1 ⟨v1, rfl, hown1, hb1⟩
  obtain ⟨A1, c1, rfl, hc1, hr1⟩ := owned_row hown1
  have H1 := Lib.hid (H.out.below hb1)
  have HT1 := Lib.hid (HT.out.below hb1 HT.out.lt)
  have HB1 := Lib.hid hb1
  have HR1 := Lib.hid hr1
  have hz1 := hb1.size
  clear hown1 hr1 hb1
  go_wp2_with (first
    | (go_at_call 24; (with_reducible refine (HSZ.out _ H1.out).mono ?_); rintro e w' ⟨rfl, rfl⟩)
    | (go_at_call 23; (with_reducible refine (HC.out _ H1.out).mono ?_); rintro e w' ⟨rfl, rfl⟩)
    | (go_at_call 19; (with_reducible refine (HLI.out _ H1.out HT1.out).mono ?_)))
  rintro e w2 ⟨v2, rfl, hown2, hb2⟩
  obtain ⟨A2, c2, rfl, hc2, hr2⟩ := owned_row hown2
  have HSAME := Lib.hid (same_nats A2 A1 l.length l.length c2 c1 l w2 rfl rfl hr2 ((HR1.out.below hb2).more hb2.size) (by omega))
  have HB2 := Lib.hid (HB1.out.trans (hb2.mono hz1))
  have hz2 := HB2.out.size
  clear hown2 hr2 hb2
  go_wp2_with (go_at_call 18; (with_reducible refine HSAME.out.mono ?_))
  rintro e w3 ⟨rfl, hb3⟩
  go_wp2
  go_ret
  exact ⟨rfl, HB2.out.trans (hb3.mono hz2)⟩
end Go.Proofs.YtkflmhpmnceniaaDoor
