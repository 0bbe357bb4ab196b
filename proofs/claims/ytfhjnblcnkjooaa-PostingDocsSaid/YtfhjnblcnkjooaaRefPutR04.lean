/- What the document's own PutRising of layer 4 answers, of up to 1000 numbers. -/
import Derived.Test.YtfhjnblcnkjooaaMade04
import Derived.Test.YtfhjnblcnkjooaaPut04
namespace Go.Proofs.Ytfhjnblcnkjooaa
open Go Go.RowKit
set_option linter.unusedVariables false

theorem dB_drop {l : List Int} {k : Nat} (hk : k < l.length) (last : Int) : dB last (l.drop k) = putB (l.getD k 0 - (last + 1)).toNat ++ dB (l.getD k 0) (l.drop (k + 1)) := by
  rw [List.drop_eq_getElem_cons hk, dB, List.getD_eq_getElem?_getD, List.getElem?_eq_getElem hk]
  rfl
theorem dB_end {l : List Int} {k : Nat} (hk : l.length ≤ k) (last : Int) : dB last (l.drop k) = [] := by rw [List.drop_eq_nil_of_le hk]; rfl

def RefPutRel (all : List UInt8) (l : List Int) (w : World) (v i : Value) (wr : World) : Prop :=
  ∃ (cur : List UInt8) (k : Nat), k ≤ l.length ∧ i = .int .i64 (k : Int) ∧ -1 ≤ ahead l k ∧ risesZ (ahead l k) (l.drop k) = true ∧ cur.length ≤ all.length ∧ cur ++ dB (ahead l k) (l.drop k) = all ∧ Own w.heap.size wr v cur ∧ Below w.heap.size w wr

set_option maxHeartbeats 1000000 in
set_option maxRecDepth 100000 in
theorem ref_PutRising (C : Option Addr) (n d : Nat) (l : List Int) (w : World) (hn : l.length = n) (hn20 : n ≤ 1000) (hrl : Row w w.heap.size C (ints l)) (hb : ∀ x ∈ l, x ≤ 4611686018427387904) (hri : risesZ (-1) l = true) :
    Calls Try.prog 41 #[.slice C n d] w (GaveOwn w.heap.size (putR l) w) := by
  obtain ⟨i0, hi0, hz0, hz1, hz2⟩ := info_parts info_byte
  subst hn
  have hdl := dB_length l (-1) (by omega) hri fun x hx => by have := hb x hx; omega
  have h9 := putB_nine (n := l.length) (by omega)
  obtain ⟨all, hall⟩ : ∃ all, all = putR l := ⟨_, rfl⟩
  have hal : all.length ≤ 9100 := by rw [hall, putR, List.length_append]; omega
  rw [← hall]
  have HALL := Lib.hid hall
  have HRL := Lib.hid hrl
  have HB := Lib.hid hb
  have HRI := Lib.hid hri
  clear hall hrl hb hri hdl
  go_enter Try.func41, Try.ntmps41
  go_wp2_with (go_at_call 40; refine (ref_Put l.length _ (by omega)).mono ?_)
  rintro e w2 ⟨v, rfl, hown, hb2⟩
  have HOWN := Lib.hid hown
  have HB2 := Lib.hid hb2
  clear hown hb2
  go_wp2
  go_loopw [3, 4] (fun v i wr => RefPutRel all l w v i wr) (fun _ i _ => l.length - (intOf i).toNat)
  case atStart => exact ⟨putB l.length, 0, by omega, rfl, by simp [ahead], HRI.out, by rw [HALL.out, putR, List.length_append]; omega, by rw [HALL.out, putR]; rfl, HOWN.out, HB2.out⟩
  case round =>
    obtain ⟨cur, k, hk, rfl, hx1, hris, hcl, hcat, hown, hbw⟩ := hrel
    have hsz := hbw.size
    by_cases hlt : k < l.length
    · obtain ⟨b1, o1, e1, _, hc1⟩ := row_int' (HRL.out.below hbw) hlt
      subst e1
      have hc0 : 0 < k → wr.cell? ⟨b1, o1 + (k - 1), none⟩ = some (.int .i64 (ahead l k)) := fun h => by
        obtain ⟨b2, o2, e2, _, hc2⟩ := row_int' (HRL.out.below hbw) (k := k - 1) (by omega)
        injection e2 with e2
        injection e2 with e3 e4
        subst e3 e4
        rw [hc2]
        simp [ahead]
        omega
      have ha0 : k = 0 → ahead l k = -1 := fun h => by simp [ahead, h]
      have hs := ahead_succ (l := l) (k := k)
      rw [risesZ_drop hlt, Bool.and_eq_true, decide_eq_true_iff] at hris
      rw [dB_drop hlt, ← List.append_assoc] at hcat
      have hyb : l.getD k 0 ≤ 4611686018427387904 := HB.out _ (by rw [List.getD_eq_getElem?_getD, List.getElem?_eq_getElem hlt]; simp)
      obtain ⟨y, hy⟩ : ∃ y, y = l.getD k 0 := ⟨_, rfl⟩
      obtain ⟨x, hxx⟩ : ∃ x, x = ahead l k := ⟨_, rfl⟩
      rw [← hy] at hc1 hris hcat hyb hs
      rw [← hxx] at hris hcat hx1 hc0 ha0
      obtain ⟨hxy, hris⟩ := hris
      obtain ⟨g, hg⟩ : ∃ g : Nat, y - (x + 1) = (g : Int) := ⟨(y - (x + 1)).toNat, by omega⟩
      rw [hg, Int.toNat_natCast] at hcat
      have hcl2 : (cur ++ putB g).length ≤ all.length := by rw [← hcat, List.length_append (bs := dB y _)]; omega
      have HCAT := Lib.hid hcat
      have HRIS := Lib.hid hris
      have HCL := Lib.hid hcl2
      have HS := Lib.hid hs
      have HOW := Lib.hid hown
      have HG := Lib.hid hg
      have HC0 := Lib.hid hc0
      have HA0 := Lib.hid ha0
      clear hcat hris hcl2 hy hs hxx hown hg hc0 ha0
      go_upto_if 20 with fail
      go_cut [5] from 19 to 31 (fun s wx => s = .int .i64 (g : Int) ∧ Below wr.heap.size wr wx)
      case first =>
        rcases Nat.eq_zero_or_pos k with hk0 | hk0
        · have hd : decide (0 < k) = false := decide_eq_false (by omega)
          have hx := HA0.out hk0
          have hyg : y = (g : Int) := by have := HG.out; omega
          have HYG := Lib.hid hyg
          clear hk0 hx hyg
          rw [hd]
          go_wp2_with fail
          go_meet
          exact ⟨congrArg (Value.int .i64) HYG.out, Below.refl _ _⟩
        · have hcp := HC0.out hk0
          obtain ⟨j, hj⟩ : ∃ j, j = k - 1 := ⟨_, rfl⟩
          have hw : IntKind.i64.wrap ((k : Int) - 1) = (j : Int) := by rw [IntWalk.i64_in _ (by omega)]; omega
          have hjl : j < l.length := by omega
          have hd : decide (0 < k) = true := decide_eq_true hk0
          have hg := HG.out
          have hw1 : IntKind.i64.wrap (y - x) = y - x := IntWalk.i64_in _ (by omega)
          have hw2 : IntKind.i64.wrap (y - x - 1) = (g : Int) := by rw [IntWalk.i64_in _ (by omega)]; omega
          rw [← hj] at hcp
          clear hj hk0 hg
          rw [hd]
          go_wp2_with fail
          go_quiet (fail)
          go_wp2_with fail
          go_meet
          exact ⟨rfl, rfl, rfl, rfl, Nat.le_refl _, fun _ _ => rfl⟩
      case rest =>
        obtain ⟨rfl, hb3⟩ := hcut
        have hs3 := hb3.size
        have hb3' := hbw.trans (hb3.mono hsz)
        have HOW3 := Lib.hid (HOW.out.below hb3)
        have hg0 : g < 9223372036854775808 := by have := HG.out; omega
        clear hb3
        go_wp2_with (go_at_call 40; refine (ref_Put g _ hg0).mono ?_)
        rintro e w4 ⟨v4, rfl, hown4, hb4⟩
        obtain ⟨A4, c4, rfl, _, hr4⟩ := hown4.row
        have h9g := putB_nine hg0
        have HR4 := Lib.hid hr4
        have hs4 := hb4.size
        have HB4 := Lib.hid (hb3'.trans (hb4.mono (by omega)))
        have HOW4 := Lib.hid (HOW3.out.below hb4)
        obtain ⟨G, hG⟩ : ∃ G, G = (putB g).length := ⟨_, rfl⟩
        rw [← hG]
        have hG9 : G ≤ 9 := by omega
        have HGL := Lib.hid hG
        clear hown4 hr4 hb4 hG h9g
        go_wp2_with (at_builtin; refine wpList_append_row _ rfl (.tmp 32) (.tmp 34) 32 rfl w.heap.size 5 i0 _ 1 1 Try.underlying32 hi0 hz0 hz1 hz2 rfl (by omega) _ cur.length (Lib.byteCells cur) rfl HOW4.out _ A4 G c4 (Lib.byteCells (putB g)) rfl (by rw [Lib.byteCells_length, HGL.out]; omega) HR4.out (byteCells_oneCell _) (by unfold maxLen; omega) (by omega) (by omega) ?_)
        intro v5 w5 hown5 hg5
        have hb5 : Below w.heap.size w4 w5 := (Below.refl _ w4).grown hg5 (by omega) fun k hk => (HOW4.out.lt k hk).1
        have ho5 : Own w.heap.size w5 v5 (cur ++ putB g) := by
          unfold Own
          rw [Lib.byteCells_append, List.length_append, ← HGL.out]
          exact hown5
        have hfin : RefPutRel all l w v5 (.int .i64 ((k : Int) + 1)) w5 := ⟨cur ++ putB g, k + 1, by omega, by simp, by rw [HS.out]; omega, by rw [HS.out]; exact HRIS.out, HCL.out, by rw [HS.out]; exact HCAT.out, ho5, HB4.out.trans hb5⟩
        have HF := Lib.hid hfin
        clear hfin hb5 hg5 hown5 ho5
        go_wp2
        go_roundw
        case rel => exact HF.out
        case measure => simp [intOf]; omega
    · rw [dB_end (by omega), List.append_nil] at hcat
      subst hcat
      go_wp2
      go_ret
      exact ⟨_, rfl, hown, hbw⟩
end Go.Proofs.Ytfhjnblcnkjooaa
