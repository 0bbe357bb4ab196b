/- What package vint's PutRising answers, and the document's own Good and PutRising. -/
import Derived.Test.YtfhjnblcnkjooaaRises04
import Derived.Test.YtfhjnblcnkjooaaRefPutR04
namespace Go.Proofs.Ytfhjnblcnkjooaa
open Go Go.RowKit
set_option linter.unusedVariables false

/-- Bytes of rising numbers, behind others: the first k of them are put. -/
def PutRRel (base : Nat) (all : List UInt8) (l : List Int) (w : World) (v last i : Value) (wr : World) : Prop :=
  ∃ (cur : List UInt8) (k : Nat) (x : Int), k ≤ l.length ∧ i = .int .i64 (k : Int) ∧ last = .int .i64 x ∧ -1 ≤ x ∧ risesZ x (l.drop k) = true ∧ cur.length ≤ all.length ∧ cur ++ dB x (l.drop k) = all ∧ Own base wr v cur ∧ Below base w wr

set_option maxHeartbeats 1000000 in
set_option maxRecDepth 100000 in
/-- PutRising of numbers that rise. -/
theorem vint_PutRising_ok (A : Option Addr) (m c : Nat) (bs : List UInt8) (C : Option Addr) (n d : Nat) (l : List Int) (w : World) (hm : bs.length = m) (hc : m ≤ c) (hr : Row w w.heap.size A (Lib.byteCells bs)) (hl : m ≤ 60)
    (hn : l.length = n) (hn20 : n ≤ 20) (hrl : Row w w.heap.size C (ints l)) (hb : ∀ x ∈ l, x ≤ 9223372036854775807) (hri : risesZ (-1) l = true) :
    Calls Try.prog 45 #[.slice A m c, .slice C n d] w fun e w' => ∃ v, e = .returned (.tuple #[v, .int .i64 0]) ∧ Own w.heap.size w' v (bs ++ putR l) ∧ Below w.heap.size w w' := by
  subst hm hn
  have hdl := dB_length l (-1) (by omega) hri hb
  have h9 := putB_nine (n := l.length) (by omega)
  obtain ⟨all, hall⟩ : ∃ all, all = bs ++ putR l := ⟨_, rfl⟩
  have hal : all.length ≤ 300 := by rw [hall, putR, List.length_append, List.length_append]; omega
  rw [← hall]
  have HALL := Lib.hid hall
  have HR := Lib.hid hr
  have HRL := Lib.hid hrl
  have HB := Lib.hid hb
  have r1 := vint_rises C l.length d l w hrl rfl (by omega)
  rw [hri] at r1
  have HRI := Lib.hid hri
  have R1 := Lib.hid r1
  clear hall hr hrl hb r1 hri hdl
  go_enter Try.func45, Try.ntmps45
  go_wp2_with (first
    | (go_at_call 50; refine R1.out.mono ?_; rintro e w' ⟨rfl, rfl⟩)
    | (go_at_call 51; refine (vint_add _ bs l.length w.heap.size _ (.inl ⟨A, rfl, HR.out⟩) (Nat.le_refl _) (by omega) (by omega)).mono ?_))
  rintro e w2 ⟨v, rfl, hown, hb2⟩
  have HOWN := Lib.hid hown
  have HB2 := Lib.hid hb2
  clear hown hb2
  go_wp2
  go_loopw [0, 6, 23] (fun v last i wr => PutRRel w.heap.size all l w v last i wr) (fun _ _ i _ => l.length - (intOf i).toNat)
  case atStart => exact ⟨bs ++ putB l.length, 0, -1, by omega, rfl, rfl, by omega, HRI.out, by rw [HALL.out, putR, List.length_append, List.length_append, List.length_append]; omega, by rw [HALL.out, putR, List.append_assoc]; rfl, HOWN.out, HB2.out⟩
  case round =>
    obtain ⟨cur, k, x, hk, rfl, rfl, hx1, hris, hcl, hcat, hown, hbw⟩ := hrel
    have hsz := hbw.size
    have HOW := Lib.hid hown
    clear hown
    by_cases hlt : k < l.length
    · obtain ⟨b1, o1, e1, _, hc1⟩ := row_int' (HRL.out.below hbw) hlt
      subst e1
      rw [risesZ_drop hlt, Bool.and_eq_true, decide_eq_true_iff] at hris
      rw [dB_drop hlt, ← List.append_assoc] at hcat
      have hyb : l.getD k 0 ≤ 9223372036854775807 := HB.out _ (by rw [List.getD_eq_getElem?_getD, List.getElem?_eq_getElem hlt]; simp)
      obtain ⟨y, hy⟩ : ∃ y, y = l.getD k 0 := ⟨_, rfl⟩
      rw [← hy] at hc1 hris hcat hyb
      obtain ⟨hxy, hris⟩ := hris
      obtain ⟨g, hg⟩ : ∃ g : Nat, y - (x + 1) = (g : Int) := ⟨(y - (x + 1)).toNat, by omega⟩
      rw [hg, Int.toNat_natCast] at hcat
      have hcl2 : (cur ++ putB g).length ≤ all.length := by rw [← hcat, List.length_append (bs := dB y _)]; omega
      have HCAT := Lib.hid hcat
      have HRIS := Lib.hid hris
      have HCL := Lib.hid hcl2
      have VA : Hid (Calls Try.prog 51 #[u0, .int .i64 (g : Int)] wr (GaveOwn w.heap.size (cur ++ putB g) wr)) :=
        Lib.hid (by exact vint_add u0 cur g w.heap.size _ HOW.out.buf (by omega) (by omega) (by omega))
      clear hcat hris hcl2 hy
      go_wp2_with (go_at_call 51; refine VA.out.mono ?_)
      rintro e w3 ⟨v3, rfl, hown3, hb3⟩
      go_wp2
      go_roundw
      case rel => exact ⟨_, k + 1, y, by omega, by go_num, rfl, by omega, HRIS.out, HCL.out, HCAT.out, hown3, hbw.trans hb3⟩
      case measure => simp [intOf]; omega
    · rw [dB_end (by omega), List.append_nil] at hcat
      subst hcat
      go_wp2
      go_ret2
      exact ⟨_, rfl, HOW.out, hbw⟩

set_option maxHeartbeats 1000000 in
set_option maxRecDepth 100000 in
/-- PutRising of numbers that do not rise. -/
theorem vint_PutRising_no (A : Option Addr) (m c : Nat) (C : Option Addr) (n d : Nat) (l : List Int) (w : World)
    (hn : l.length = n) (hn20 : n ≤ 20) (hrl : Row w w.heap.size C (ints l)) (hri : risesZ (-1) l = false) :
    Calls Try.prog 45 #[.slice A m c, .slice C n d] w fun e w' => e = .returned (.tuple #[.slice none 0 0, .int .i64 1]) ∧ w = w' := by
  have r1 := vint_rises C n d l w hrl hn (by omega)
  rw [hri] at r1
  have R1 := Lib.hid r1
  clear r1 hrl hri
  go_enter Try.func45, Try.ntmps45
  go_wp2_with (go_at_call 50; refine R1.out.mono ?_; rintro e w' ⟨rfl, rfl⟩)
  go_ret2
  exact ⟨rfl, rfl⟩
end Go.Proofs.Ytfhjnblcnkjooaa
