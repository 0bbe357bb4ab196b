/- Full: a set of a size that has all its numbers. -/
import Derived.Test.YtkflmhpmnceniaaDoorList03
import Derived.Test.YtkflmhpmnceniaaDoorMade03
import Derived.Deep.RegionLaw
set_option linter.unusedVariables false
namespace Go.Proofs.YtkflmhpmnceniaaDoor
open Go Go.RowKit
open Plain (Wd WS Rep hasB mayB turnB turnedB ones nextB rankB)

namespace Plain
def allW : Nat := 18446744073709551615
/-- k words that are full. -/
def fullK (k : Nat) : List Wd := (List.range k).map fun a => (a, allW)
theorem fullK_succ (k : Nat) : fullK (k + 1) = fullK k ++ [(k, allW)] := by unfold fullK; rw [List.range_succ, List.map_append]; rfl
theorem fullK_length (k : Nat) : (fullK k).length = k := by simp [fullK]
theorem fullK_mem (k : Nat) (p : Wd) : p ∈ fullK k ↔ p.1 < k ∧ p.2 = allW := by
  obtain ⟨a, x⟩ := p
  unfold fullK
  simp only [List.mem_map, List.mem_range, Prod.mk.injEq]
  constructor
  · rintro ⟨b, hb, rfl, rfl⟩; exact ⟨hb, rfl⟩
  · rintro ⟨h1, rfl⟩; exact ⟨a, h1, rfl, rfl⟩
theorem fullK_asc (k : Nat) : (fullK k).Pairwise fun p q => p.1 < q.1 := by
  unfold fullK
  rw [List.pairwise_map]
  exact List.pairwise_lt_range
/-- The words of a full set. -/
def fullW (n : Nat) : List Wd := fullK (n / 64) ++ if 0 < n % 64 then [(n / 64, 2 ^ (n % 64) - 1)] else []
theorem fullW_mem (n : Nat) (p : Wd) : p ∈ fullW n ↔ (p.1 < n / 64 ∧ p.2 = allW) ∨ (0 < n % 64 ∧ p.1 = n / 64 ∧ p.2 = 2 ^ (n % 64) - 1) := by
  unfold fullW
  rw [List.mem_append, fullK_mem]
  obtain ⟨a, x⟩ := p
  split
  · rename_i h; simp [h]
  · rename_i h; simp [h]
theorem allW_bit (j : Nat) : allW.testBit j = decide (j < 64) := Nat.testBit_two_pow_sub_one 64 j
theorem fullW_wds (n : Nat) : WS n (fullW n) := by
  have hp : 2 ^ (n % 64) - 1 < 18446744073709551616 := by
    have := bit_fits (Nat.mod_lt n (show 0 < 64 by decide))
    omega
  refine ⟨?_, fun p hp => ?_, fun p hp => ?_, fun p hp j hj => ?_⟩
  · unfold fullW
    rw [List.pairwise_append]
    refine ⟨fullK_asc _, ?_, fun p hp q hq => ?_⟩
    · split
      · exact List.pairwise_singleton _ _
      · exact List.Pairwise.nil
    · rw [fullK_mem] at hp
      split at hq
      · simp at hq; rw [hq]; exact hp.1
      · simp at hq
  · rcases (fullW_mem n p).1 hp with ⟨_, e⟩ | ⟨_, _, e⟩
    · rw [e]; decide
    · rw [e]; assumption
  · rcases (fullW_mem n p).1 hp with ⟨h, _⟩ | ⟨h, e, _⟩ <;> omega
  · rcases (fullW_mem n p).1 hp with ⟨h, e⟩ | ⟨h, e1, e⟩
    · rw [e, allW_bit] at hj
      simp at hj
      omega
    · rw [e, Nat.testBit_two_pow_sub_one] at hj
      simp at hj
      omega
theorem fullW_rep (n : Nat) : Rep (List.replicate n true) (fullW n) := by
  have hW := fullW_wds n
  refine ⟨by rw [List.length_replicate]; exact hW, fun i => ?_⟩
  have hr : (List.replicate n true).getD i false = decide (i < n) := by
    rw [List.getD_eq_getElem?_getD, List.getElem?_replicate]
    split
    · rename_i h; simp [h]
    · rename_i h; simp [h]
  rw [hr]
  unfold memW
  by_cases h1 : i / 64 < n / 64
  · have := getW_mem hW (p := (i / 64, allW)) ((fullW_mem _ _).2 (.inl ⟨h1, rfl⟩))
    simp only at this
    rw [this, allW_bit]
    have : i < n := by omega
    simp [this, Nat.mod_lt]
  · by_cases h2 : i / 64 = n / 64 ∧ 0 < n % 64
    · have := getW_mem hW (p := (n / 64, 2 ^ (n % 64) - 1)) ((fullW_mem _ _).2 (.inr ⟨h2.2, rfl, rfl⟩))
      simp only at this
      rw [h2.1, this, Nat.testBit_two_pow_sub_one]
      congr 1
      rw [eq_iff_iff]
      omega
    · have := getW_none (ws := fullW n) (a := i / 64) (fun p hp => by
        rcases (fullW_mem n p).1 hp with ⟨h, _⟩ | ⟨h, e, _⟩
        · omega
        · intro e'; exact h2 ⟨by omega, h⟩)
      rw [this, Nat.zero_testBit]
      simp
      omega
theorem ones_full (n : Nat) : (ones (List.replicate n true)).length = n := by
  have : ones (List.replicate n true) = List.range n := by
    unfold ones
    rw [List.length_replicate, List.filter_eq_self]
    intro i hi
    rw [List.mem_range] at hi
    rw [List.getD_eq_getElem?_getD, List.getElem?_replicate, if_pos hi]
    rfl
  rw [this, List.length_range]
theorem fullW_full {n : Nat} (h : ¬ 0 < n % 64) : fullW n = fullK (n / 64) := by unfold fullW; rw [if_neg h, List.append_nil]
theorem fullW_rest {n : Nat} (h : 0 < n % 64) : fullW n = fullK (n / 64) ++ [(n / 64, 2 ^ (n % 64) - 1)] := by unfold fullW; rw [if_pos h]
end Plain

/-- append, whose run is known, as one step of a region that draws. -/
theorem step_append_run {P : Program} {ops : Array Oper} {o : Oper} {a : Act} {w : World} {K : Act → World → Prop} {Q : Exit → Act → World → Prop} {E : Prop} (hg : o.guard = none) (s x : Operand) (t : TypeId)
    (hop : o.op = Op.call { callee := Callee.builtin Builtin.append, args := #[s, x], argTypes := #[t, t] }) (vs vx : Value) (hs : a.eval s = vs) (hx : a.eval x = vx) (v' : Value) (w' : World)
    (hr : (Builtin.append_ #[t, t] o.type #[vs, vx]).run P w = .ok v' w') (hK : K (a.put o.dst v') w') : if Region.wanted o (yielded ops a.tmps) = true then Oper.wp P o a w K Q else E := by
  have hw : Region.wanted o (yielded ops a.tmps) = true := by simp [Region.wanted, hg]
  rw [if_pos hw]
  exact Lib.wp_append_run w s x t t hop vs vx hs hx v' w' hr hK

/-- What Full gives. -/
def FullGot (n : Nat) (w : World) (e : Ending) (w' : World) : Prop := e = .returned (.pointer (some ⟨w.heap.size, 0, none⟩)) ∧ SetAt w' w.heap.size w.heap.size n (Plain.fullW n) ∧ Below w.heap.size w w'
def FullRel (n B q : Nat) (w : World) (i : Value) (wr : World) : Prop := ∃ k : Nat, k ≤ q ∧ i = .int .i64 k ∧ SetAt wr B B n (Plain.fullK k) ∧ Below B w wr

set_option maxHeartbeats 4000000 in
set_option maxRecDepth 100000 in
theorem bits_Full (n : Int) (w : World) (hn : n ≤ 1073741824) :
    Calls Tryd.prog 20 #[.int .i64 n] w (FullGot n.toNat w) := by
  obtain ⟨i0, hi0, hz0, hz1, hz2⟩ := info_parts info_word
  have HN := Lib.hid (bits_New n w (by omega))
  have hNb : n.toNat ≤ 1073741824 := by omega
  obtain ⟨N, hNe⟩ : ∃ N, N = n.toNat := ⟨_, rfl⟩
  rw [← hNe] at hNb HN ⊢
  have HFW := Lib.hid (rfl : Plain.fullW N = Plain.fullW N)
  have HFF := Lib.hid (@Plain.fullW_full N)
  have HFR := Lib.hid (@Plain.fullW_rest N)
  obtain ⟨q, hq⟩ : ∃ q, q = N / 64 := ⟨_, rfl⟩
  obtain ⟨m, hm⟩ : ∃ m, m = N % 64 := ⟨_, rfl⟩
  have HB := Lib.hid (fun w => bits_below m w (by omega))
  have hmm : m % 64 = m := by omega
  rw [hmm] at HB
  rw [← hq, ← hm] at HFF HFR
  have hq2 : (N : Int) / 64 = (q : Int) := by omega
  have hq3 : (N : Int).tdiv 64 = (q : Int) := by rw [Int.tdiv_eq_ediv_of_nonneg (by omega)]; exact hq2
  have hm2 : (N : Int).tmod 64 = (m : Int) := by rw [Int.tmod_eq_emod_of_nonneg (by omega)]; omega
  have hm3 : (N : Int) % 64 = (m : Int) := by omega
  have hqb : q ≤ 16777216 := by omega
  have hmb : m < 64 := by omega
  have hpf : 2 ^ m - 1 < 18446744073709551616 := by
    have := Plain.bit_fits hmb
    omega
  obtain ⟨y, hy⟩ : ∃ y, y = 2 ^ m - 1 := ⟨_, rfl⟩
  rw [← hy] at HB HFR hpf
  clear hNe hn hq hm hmm hy
  go_enter Tryd.func20, Tryd.ntmps20
  go_wp2_with (go_at_call 33; (with_reducible refine HN.out.mono ?_))
  rintro e w1 ⟨rfl, hs1, hb1⟩
  obtain ⟨ws1, hs1, _⟩ := hs1
  obtain ⟨_, v1, hv1, ho1⟩ := hs1
  rw [List.length_replicate] at hv1
  obtain ⟨c0, c1, f0, f1⟩ := cell_two hv1
  have HB1 := Lib.hid hb1
  have HV1 := Lib.hid hv1
  have hz1' := hb1.size
  clear hb1 hv1 ho1
  go_wp2
  go_quiet (fail)
  go_wp2_with (at_make; refine wpList_make_own _ rfl _ _ 54 rfl w.heap.size 59 i0 _ 2 Tryd.underlying54 hi0 hz0 hz1 _ _ _ (q + 1) rfl rfl (by go_num) (by rw [hz2]; omega) (by unfold maxLen; omega) hz1' ?_)
  intro w2 hown hgrow
  have hgrow : w1.grownBy w2 none := ⟨hgrow.os, hgrow.tape, hgrow.output, hgrow.size, hgrow.block⟩
  have hBlt : w.heap.size < w1.heap.size := (Array.getElem?_eq_some_iff.1 HV1.out).1
  have hB2 : w2.heap[w.heap.size]? = some (.cells #[.int .i64 N, v1] 56 (0, 0)) := by
    rw [hgrow.block _ hBlt (fun h => by cases h)]
    exact HV1.out
  have hne : ∀ u, ((w2.setCell ⟨w.heap.size, 1, none⟩ u).ownsRow w.heap.size 59 2 (.slice (some ⟨w1.heap.size, 0, none⟩) 0 (q + 1)) 0 []) := fun u =>
    ownsRow_setCell_other hown (owned_apart hown hB2 (by decide)) u
  have hb2 : Below w.heap.size w w2 := HB1.out.grown hgrow hz1' (fun k hk => by cases hk)
  obtain ⟨_, c12, _, f12⟩ := cell_two hB2
  have hset2 : SetAt (w2.setCell ⟨w.heap.size, 1, none⟩ (.slice (some ⟨w1.heap.size, 0, none⟩) 0 (q + 1))) w.heap.size w.heap.size N (Plain.fullK 0) :=
    ⟨Nat.le_refl _, _, two_setCell hB2, hne _⟩
  have hrel0 : FullRel N w.heap.size q w (.int .i64 ((0 : Nat) : Int)) (w2.setCell ⟨w.heap.size, 1, none⟩ (.slice (some ⟨w1.heap.size, 0, none⟩) 0 (q + 1))) :=
    ⟨0, Nat.zero_le _, rfl, hset2, hb2.setCell (Nat.le_refl _) _⟩
  have HREL0 := Lib.hid hrel0
  clear hrel0 hset2 hb2 hne hB2 hown hgrow c0 c1 f0 f1
  go_wp2
  clear c12 f12
  go_loopw [26] (FullRel N w.heap.size q w) (fun i _ => q - (intOf i).toNat)
  case atStart => exact HREL0.out
  case round =>
    obtain ⟨k, hk, rfl, hset, hbw⟩ := hrel
    have HSET := Lib.hid hset
    have HBW := Lib.hid hbw
    have hzw := hbw.size
    obtain ⟨hBB, v, hv, ho⟩ := hset
    obtain ⟨c0, c1, _, _⟩ := cell_two hv
    have HV := Lib.hid hv
    have HO := Lib.hid ho
    clear hv ho hbw
    by_cases hlt : k < q
    · obtain ⟨v', w', hr, hgot⟩ := run_append_words (wr.alloc (.cells #[.int .i64 k, .int .u64 (Plain.allW : Nat)] 59)) w.heap.size v (Plain.fullK k).length (Plain.fullK k) (k, Plain.allW) wr.heap.size 1 (HO.out.alloc _) rfl (by rw [Plain.fullK_length]; omega) (by simp [World.cell?_alloc_at]) (by simp [World.cell?_alloc_at]) (by simp; omega)
      obtain ⟨A', c', rfl, _, _⟩ := owned_row hgot.1
      obtain ⟨hs4, ht4, c3, f3⟩ := words_moved hBB HV.out HO.out hgot
      have HR := Lib.hid hr
      have hF : FullRel N w.heap.size q w (.int .i64 ((k + 1 : Nat) : Int)) (w'.setCell ⟨w.heap.size, 1, none⟩ (.slice A' _ c')) := ⟨k + 1, by omega, rfl, by rw [Plain.fullK_succ]; exact hs4, HBW.out.trans (Turned.below HSET.out ht4)⟩
      have HF := Lib.hid hF
      have hkq : (k : Int) < q := by omega
      clear hr hgot hs4 ht4 hF
      go_wp2_with (at_builtin; refine Lib.wpList_append_run _ rfl _ _ _ _ rfl _ _ rfl rfl _ _ HR.out ?_)
      go_roundw
      case rel => simpa using HF.out
      case measure => simp [intOf]; omega
    · obtain rfl : k = q := by omega
      by_cases hm0 : m = 0
      · subst hm0
        go_wp2
        go_ret
        exact ⟨rfl, by rw [HFF.out (by omega)]; exact HSET.out, HBW.out⟩
      · obtain ⟨v', w', hr, hgot⟩ := run_append_words ((wr.alloc (.cells #[.int .i64 k, .int .u64 (y : Nat)] 59)).drew) w.heap.size v (Plain.fullK k).length (Plain.fullK k) (k, y) wr.heap.size 1 ((show wr.drew.ownsRow w.heap.size 59 2 v _ _ from HO.out).alloc _) rfl (by rw [Plain.fullK_length]; omega) (cell_two (B := wr.heap.size) (heap_alloc_new wr.drew _)).1 (cell_two (B := wr.heap.size) (heap_alloc_new wr.drew _)).2.1 (by have := HB1.out.size; simp [World.drew]; omega)
        have hgot : RowGot (wr.drew.alloc (.cells #[.int .i64 k, .int .u64 (y : Nat)] 59)) w.heap.size v (Plain.fullK k ++ [(k, y)]) v' w' := hgot
        obtain ⟨A', c', rfl, _, _⟩ := owned_row hgot.1
        obtain ⟨hs4, ht4, c3, f3⟩ := words_moved (w := wr.drew) hBB HV.out HO.out hgot
        have HR := Lib.hid hr
        have hF : FullGot N w (.returned (.pointer (some ⟨w.heap.size, 0, none⟩))) (w'.setCell ⟨w.heap.size, 1, none⟩ (.slice A' _ c')) := ⟨rfl, by rw [HFR.out (by omega)]; exact hs4, HBW.out.trans (below_undrew (Turned.below (w := wr.drew) HSET.out ht4))⟩
        have HF := Lib.hid hF
        have hmp : (0 : Int) < m := by omega
        have c1a : ∀ o, (wr.alloc o).cell? ⟨w.heap.size, 1, none⟩ = some v := fun o => ((Below.refl wr.heap.size wr).alloc (Nat.le_refl _) o).cell (p := ⟨w.heap.size, 1, none⟩) (HSET.out.lt) |>.trans c1
        clear hr hgot hs4 ht4 hF hm0
        go_wp2
        go_region_law? (first
          | (refine step_append_run rfl _ _ _ rfl _ _ (by simp [Act.eval, Act.put]) (by simp [Act.eval, Act.put]) _ _ HR.out ?_)
          | (go_simp; go_at_call 38; (with_reducible refine (HB.out _).mono ?_); rintro e w' ⟨rfl, rfl⟩))
        all_goals
          go_wp2
          go_ret
          simpa using HF.out
end Go.Proofs.YtkflmhpmnceniaaDoor
