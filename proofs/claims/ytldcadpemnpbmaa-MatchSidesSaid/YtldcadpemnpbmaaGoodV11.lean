/- What the document's Good of layer 4 answers, of any list and most. -/
import Derived.Test.YtldcadpemnpbmaaMade04
import Derived.Test.YtldcadpemnpbmaaInts
import Derived.BigCall
import Derived.BigQuiet
import Derived.Lib.Hide
import Derived.Deep.CutRange
namespace Go.Proofs.Ytldcadpemnpbmaa
open Go Go.RowKit
set_option linter.unusedVariables false

def GoodRelV (all : List Int) (l : List Int) (w : World) (vo last i : Value) (wr : World) : Prop :=
  ∃ (acc : List Int) (x : Int) (k : Nat), k ≤ l.length ∧ i = .int .i64 (k : Int) ∧ last = .int .i64 x ∧ acc.length = k ∧ -1 ≤ x ∧ x ≤ 1000 * k ∧ acc ++ goodZ x (l.drop k) = all ∧ wr.ownsRow w.heap.size 3 1 vo k (ints acc) ∧ Below w.heap.size w wr

set_option maxHeartbeats 1000000 in
set_option maxRecDepth 100000 in
theorem ref04_Good (C : Option Addr) (n d M : Nat) (l : List Int) (w : World) (hn : l.length = n) (hn2 : n ≤ 9223372036854775807) (hM : M ≤ 1000) (hrl : Row w w.heap.size C (ints l)) (hwl : ∀ x ∈ l, (Lit.int .i64 x).wf = true) :
    Calls Try.prog 15 #[.slice C n d, .int .i64 (M : Int)] w fun e w' => ∃ v, e = .returned v ∧ w'.ownsRow w.heap.size 3 1 v (l.take M).length (ints (goodZ (-1) (l.take M))) ∧ Below w.heap.size w w' := by
  obtain ⟨i0, hi0, hz0, hz1, hz2⟩ := info_parts info_int
  have hrl2 : Row w w.heap.size C (ints (l.take M)) := by
    have := hrl.cut M
    rwa [show (ints l).take M = ints (l.take M) by simp [ints, List.map_take]] at this
  have hwl2 : ∀ x ∈ l.take M, (Lit.int .i64 x).wf = true := fun x hx => hwl x (List.mem_of_mem_take hx)
  have hL : (l.take M).length = min M n := by rw [List.length_take, hn]
  obtain ⟨L, hLL⟩ : ∃ L, L = l.take M := ⟨_, rfl⟩
  rw [← hLL] at hrl2 hwl2 hL
  rw [← hLL]
  obtain ⟨all, hall⟩ : ∃ all, all = goodZ (-1) L := ⟨_, rfl⟩
  rw [← hall]
  have HALL := Lib.hid hall
  have HRL := Lib.hid hrl2
  have HWL := Lib.hid hwl2
  have HLN := Lib.hid hL
  clear hall hrl hwl hrl2 hwl2 hLL hn hL
  go_enter Try.func15, Try.ntmps15
  go_wp2
  go_loopw [5, 6, 7] (fun vo last i wr => GoodRelV all L w vo last i wr) (fun _ _ i _ => L.length - (intOf i).toNat)
  case atStart => exact ⟨[], -1, 0, by omega, rfl, rfl, rfl, by omega, by omega, by rw [HALL.out]; rfl, World.ownsRow_nil _ _ _ _, Below.refl _ _⟩
  case round =>
    obtain ⟨acc, x, k, hk, rfl, rfl, hacc, hx0, hx1, hcat, hown, hbw⟩ := hrel
    have hsz := hbw.size
    by_cases hlt : k < L.length
    · have hkn : k < n := by have := HLN.out; omega
      have hkM : k < M := by have := HLN.out; omega
      have d1 : decide ((k : Int) < (M : Int)) = true := decide_eq_true (by omega)
      have d0 : decide ((k : Int) < (n : Int)) = true := decide_eq_true (by omega)
      obtain ⟨b1, o1, e1, _, hc1⟩ := row_int' (HRL.out.below hbw) hlt
      subst e1
      have hbd := wf_bd (HWL.out (L.getD k 0) (by rw [List.getD_eq_getElem?_getD, List.getElem?_eq_getElem hlt]; simp))
      obtain ⟨g, hg, hneg, hpos⟩ := made_nat hbd
      rw [goodZ_drop hlt x hneg hpos] at hcat
      obtain ⟨y, hy⟩ : ∃ y, y = L.getD k 0 := ⟨_, rfl⟩
      rw [← hy] at hc1 hbd hneg hpos
      have HN := Lib.hid hneg
      have HP := Lib.hid hpos
      have HCAT := Lib.hid hcat
      have HOWN := Lib.hid hown
      have HA := Lib.hid hacc
      clear hneg hpos hcat hown hy hacc
      go_upto_if 25 with fail
      go_cut [8] from 24 to 28 (fun s wx => s = .int .i64 (g : Int) ∧ wr = wx)
      case first =>
        by_cases h0 : y < 0
        · have hng := HN.out h0
          go_wp2_with fail
          go_meet
          exact ⟨rfl, rfl⟩
        · have hng := HP.out h0
          subst hng
          go_wp2_with fail
          go_meet
          exact ⟨rfl, rfl⟩
      case rest =>
        obtain ⟨rfl, rfl⟩ := hcut
        clear hbd HN HP hc1
        have hm0 : 0 ≤ (g : Int) % 1000 := Int.emod_nonneg _ (by omega)
        have hm1 : (g : Int) % 1000 < 1000 := Int.emod_lt_of_pos _ (by omega)
        obtain ⟨q, hq⟩ : ∃ q, (g : Int) % 1000 = q := ⟨_, rfl⟩
        rw [hq] at HCAT hm0 hm1
        go_wp2_with (at_builtin; refine wpList_append_own _ rfl (.tmp 34) (.tmp 36) 31 rfl w.heap.size 3 i0 _ 1 8 Try.underlying31 hi0 hz0 hz1 hz2 rfl (by omega) _ k (ints acc) rfl (HOWN.out.alloc _) ⟨wr.heap.size, 0, none⟩ 1 1 [.int .i64 (x + 1 + q)] rfl rfl (news_at wr [.int .i64 (x + 1 + q)] 3) (by intro u hu; simp at hu; subst hu; rfl) (by unfold maxLen; omega) (by omega) (by simp; omega) ?_)
        intro v5 w5 hown5 hg5 _
        have hb5 : Below w.heap.size wr w5 := ((Below.refl _ wr).alloc (by omega) _).grown hg5 (by simp; omega) fun k hk => (HOWN.out.lt k hk).1
        have hfin : GoodRelV all L w v5 (.int .i64 (x + 1 + q)) (.int .i64 ((k : Int) + 1)) w5 :=
          ⟨acc ++ [x + 1 + q], x + 1 + q, k + 1, by omega, by simp, rfl, by simp [HA.out], by omega, by omega, by rw [List.append_assoc]; exact HCAT.out,
            by rw [show ints (acc ++ [x + 1 + q]) = ints acc ++ [.int .i64 (x + 1 + q)] by simp [ints]]; exact hown5, hbw.trans hb5⟩
        have HF := Lib.hid hfin
        clear hfin hb5 hg5 hown5
        go_wp2
        go_roundw
        case rel => exact HF.out
        case measure => simp [intOf]; omega
    · rw [goodZ_end (by omega), List.append_nil] at hcat
      have hkL : k = L.length := by omega
      subst hcat
      have HOWN := Lib.hid hown
      rw [hkL] at HOWN
      by_cases hkn : k < n
      · have d0 : decide ((k : Int) < (n : Int)) = true := decide_eq_true (by omega)
        have d1 : decide ((k : Int) < (M : Int)) = false := decide_eq_false (by have := HLN.out; omega)
        have d2 : decide (k < M) = false := decide_eq_false (by have := HLN.out; omega)
        have d3 : decide (k < n) = true := decide_eq_true hkn
        clear hown hkL hlt
        go_wp2
        go_ret
        exact ⟨_, rfl, HOWN.out, hbw⟩
      · have d0 : decide ((k : Int) < (n : Int)) = false := decide_eq_false (by omega)
        have d3 : decide (k < n) = false := decide_eq_false hkn
        clear hown hkL hlt hkn
        go_wp2
        go_ret
        exact ⟨_, rfl, HOWN.out, hbw⟩

end Go.Proofs.Ytldcadpemnpbmaa
