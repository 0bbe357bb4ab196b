/- What package dict's Make answers: the dictionary of names that rise and as many things; else none. -/
import Derived.Test.YtebdnjfohahpgaaDict07
import Derived.Test.YtebdnjfohahpgaaInts
import Derived.Deep.RegionLaw
import Derived.Deep.RegionHeld3
import Derived.Deep.AppendLies
set_option linter.unusedVariables false
namespace Go.Proofs.Ytebdnjfohahpgaa
open Go Go.RowKit

def MadeD (l : List Nm) (vs : List Int) (w : World) (e : Ending) (w' : World) : Prop := ∃ B, e = .returned (.tuple #[.pointer (some ⟨B, 0, none⟩), .int .i64 0]) ∧ DictAt w' w.heap.size B l vs ∧ Below w.heap.size w w'
def NoneD (w : World) (e : Ending) (w' : World) : Prop := e = .returned (.tuple #[.pointer none, .int .i64 1]) ∧ Below w.heap.size w w'

set_option maxHeartbeats 1000000 in
set_option maxRecDepth 100000 in
theorem dict_Make_no (A A2 : Option Addr) (n c m c2 : Nat) (l : List Nm) (w : World) (hr : Row w w.heap.size A (strs l)) (hn : l.length = n) (hl : n ≤ 1073741824) (hno : n ≠ m ∨ risesN l = false) :
    Calls Try.prog 11 #[.slice A n c, .slice A2 m c2] w (NoneD w) := by
  by_cases hnm : n = m
  · have hf : risesN l = false := hno.resolve_left (fun h => h hnm)
    have c1 := dict_rise A n c l w hr hn hl
    rw [hf] at c1
    have C1 := Lib.hid c1
    subst hnm
    clear c1 hno hf hr hn
    go_enter Try.func11, Try.ntmps11
    go_wp2_with (go_at_call 29; refine (C1.out).mono ?_; rintro e w1 ⟨rfl, hb⟩)
    go_ret2
    exact ⟨rfl, hb⟩
  · have e1 : ((n : Int) != (m : Int)) = true := by simp; omega
    have e2 : ((n : Int) == (m : Int)) = false := by rw [beq_eq_false_iff_ne]; omega
    clear hr hn hno hnm
    go_enter Try.func11, Try.ntmps11
    go_wp2
    go_ret2
    exact ⟨rfl, Below.refl _ _⟩

/-- The dictionary at block B has the first k so far. -/
def MakeRel (B : Nat) (l : List Nm) (vs : List Int) (w : World) (i : Value) (wr : World) : Prop :=
  ∃ (k : Nat) (v : Value), k ≤ l.length ∧ i = .int .i64 (k : Int) ∧ wr.heap[B]? = some (.cells #[v] 57 (0, 0)) ∧ wr.ownsRow w.heap.size 59 2 v k (entC (l.take k) (vs.take k)) ∧ Below w.heap.size w wr
theorem owned_set {w : World} {base B : Nat} {e : TypeId} {size : Nat} {v : Value} {n : Nat} {xs : List Value} {cs : Array Value} {t : TypeId} {fr : Nat × Nat} (h : w.ownsRow base e size v n xs) (hB : w.heap[B]? = some (.cells cs t fr)) (ht : t ≠ e) (o : Nat) (u : Value) : (w.setCell ⟨B, o, none⟩ u).ownsRow base e size v n xs :=
  owned_keep h fun g hg => Below.heap_setCell _ _ _ _ (fun e1 => owned_apart h hB ht (by rw [hg, e1]))
/-- Behind an append onto the dictionary's row, and the store of what came of it. -/
theorem entered {w0 w1 : World} {base B n : Nat} {v v' : Value} {xs ys : List Value} (hv : w0.heap[B]? = some (.cells #[v] 57 (0, 0))) (hown : w0.ownsRow base 59 2 v n xs) (hg : w0.grownBy w1 v.ownBlock) (hown1 : w1.ownsRow base 59 2 v' (n + 1) ys) (hbase : base ≤ w0.heap.size) (hB : base ≤ B) :
    w1.heap[B]? = some (.cells #[v] 57 (0, 0)) ∧ (w1.setCell ⟨B, 0, none⟩ v').heap[B]? = some (.cells #[v'] 57 (0, 0)) ∧ (w1.setCell ⟨B, 0, none⟩ v').ownsRow base 59 2 v' (n + 1) ys ∧ Below base w0 (w1.setCell ⟨B, 0, none⟩ v') := by
  have h1 : w1.heap[B]? = some (.cells #[v] 57 (0, 0)) := (hg.block B (lt_of_block hv) (fun e => owned_apart hown hv (by decide) e.symm)).trans hv
  refine ⟨h1, by simpa using one_setCell h1, owned_set hown1 h1 (by decide) _ _, ?_⟩
  exact (((Below.refl base w0).grown hg hbase fun k hk => (hown.lt k hk).1)).setCell hB _

set_option maxHeartbeats 4000000 in
set_option maxRecDepth 100000 in
theorem dict_Make (A A2 : Option Addr) (n c c2 : Nat) (l : List Nm) (vs : List Int) (w : World) (hr : Row w w.heap.size A (strs l)) (hn : l.length = n) (hl : n ≤ 1048576) (hv : Row w w.heap.size A2 (ints vs)) (hvn : vs.length = n) (hg : risesN l = true) :
    Calls Try.prog 11 #[.slice A n c, .slice A2 n c2] w (MadeD l vs w) := by
  obtain ⟨i0, hi0, hz0, hz1, hz2⟩ := info_parts info_entry
  have c1 := dict_rise A n c l w hr hn (by omega)
  rw [hg] at c1
  have C1 := Lib.hid c1
  have HR := Lib.hid hr
  have HV := Lib.hid hv
  have HN := Lib.hid hn
  have HVN := Lib.hid hvn
  clear c1 hr hv hn hvn hg
  go_enter Try.func11, Try.ntmps11
  go_wp2_with (go_at_call 29; refine (C1.out).mono ?_)
  rintro e w1 ⟨rfl, hb1⟩
  obtain ⟨w2, hrun, hown2, hgrow2⟩ := run_make_own (P := Try.prog) w1 w.heap.size 55 59 i0 _ 2 Try.underlying55 hi0 hz0 hz1 .i64 .i64 n (by rw [hz2]; omega) (by unfold maxLen; omega) hb1.size
  have hb2 : Below w.heap.size w w2 := hb1.grown hgrow2 hb1.size (fun k hk => by cases hk)
  obtain ⟨B, hB⟩ : ∃ B, B = w2.heap.size := ⟨_, rfl⟩
  obtain ⟨w3, hw3⟩ : ∃ w3, w3 = w2.alloc (.cells #[.slice (some ⟨w1.heap.size, 0, none⟩) 0 n] 57) := ⟨_, rfl⟩
  have hrel : MakeRel B l vs w (.int .i64 ((0 : Nat) : Int)) w3 := by
    refine ⟨0, .slice (some ⟨w1.heap.size, 0, none⟩) 0 n, Nat.zero_le _, rfl, ?_, ?_, ?_⟩
    · rw [hw3, hB]; exact heap_alloc_new w2 _
    · rw [hw3]; simpa [entC_nil] using hown2.alloc _
    · rw [hw3]; exact hb2.alloc hb2.size _
  have HREL := Lib.hid hrel
  have HW3 := Lib.hid hw3
  have HB := Lib.hid hB
  have HBW : Hid (w.heap.size ≤ B) := Lib.hid (by rw [hB]; exact hb2.size)
  clear hrel hown2 hgrow2 hb2 hb1 hw3 hB
  go_wp2
  rw [← HW3.out, ← HB.out]
  clear hrun
  go_loopw [26] (MakeRel B l vs w) (fun i _ => n - (intOf i).toNat)
  case atStart => exact HREL.out
  case round =>
    obtain ⟨k, v, hk, rfl, hblk, hown, hbw⟩ := hrel
    rw [HN.out] at hk
    have hsz := hbw.size
    by_cases hlt : k < n
    · have hkl : k < l.length := by rw [HN.out]; exact hlt
      have hkv : k < vs.length := by rw [HVN.out]; exact hlt
      obtain ⟨b1, o1, e1, hb1, hc1⟩ := row_nm (HR.out.below hbw) hkl
      obtain ⟨b2, o2, e2, hb2, hc2⟩ := row_int (HV.out.below hbw) hkv
      subst e1 e2
      obtain ⟨x, hx⟩ : ∃ x : ByteArray, x = ⟨l[k].toArray⟩ := ⟨_, rfl⟩
      obtain ⟨y, hy⟩ : ∃ y, y = vs[k] := ⟨_, rfl⟩
      rw [← hx] at hc1
      rw [← hy] at hc2
      have hsn : entC (l.take (k + 1)) (vs.take (k + 1)) = entC (l.take k) (vs.take k) ++ [.string x, .int .i64 y] := by
        rw [List.take_succ_eq_append_getElem hkl, List.take_succ_eq_append_getElem hkv, entC_snoc (by simp only [List.length_take]; rw [HN.out, HVN.out]), ← hx, ← hy]
      obtain ⟨cs, hcs⟩ : ∃ cs, cs = entC (l.take k) (vs.take k) := ⟨_, rfl⟩
      rw [← hcs] at hown hsn
      have cB := cell_of_one hblk
      have fB := free_of_one hblk
      have k2 : (0 : Int) ≤ (k : Int) := by omega
      have k3 : (k : Int) < (n : Int) := by omega
      have hBlt := lt_of_block hblk
      have hal : ∀ o, ((wr.alloc o).drew).cell? ⟨B, 0, none⟩ = some v := fun o => (((Below.refl _ wr).alloc (Nat.le_refl _) o).cell (p := ⟨B, 0, none⟩) hBlt).trans cB
      have HOWN := Lib.hid hown
      have HBLK := Lib.hid hblk
      have HSN := Lib.hid hsn
      clear hx hy hcs hown hblk hsn hkl hkv
      go_wp2
      go_region_law (first
        | (refine step_append_lies _ (by rfl) _ _ _ (by rfl) w.heap.size 59 i0 _ 2 24 Try.underlying55 hi0 hz0 hz1 hz2 rfl (by omega) v k cs (by rfl) ((HOWN.out.alloc _).drew)
            ⟨wr.heap.size, 0, none⟩ 1 1 [.string x, .int .i64 y] (by rfl) (by rfl) (World.news_of_block (cs := #[.string x, .int .i64 y]) (t := 59) (fr := (0, 0)) (heap_alloc_new wr.drew _)) (by intro u hu; simp at hu; rcases hu with hu | hu <;> (subst hu; rfl))
            (by omega) (by unfold maxLen; omega) (by omega) (by simp; omega) (wr.heap.size + 1) (by simp) ?_
           intro gg cap w5 hown5 hg5 hat hlt5
           obtain ⟨hB5, hB6, hown6, hb6⟩ := entered (((Below.refl _ wr).alloc (Nat.le_refl _) _).drew.block B hBlt |>.trans HBLK.out) ((HOWN.out.alloc _).drew) hg5 hown5 (by simp; omega) HBW.out
           have cB5 := cell_of_one hB5
           have fB5 := free_of_one hB5))
      all_goals
        have hrel : MakeRel B l vs w (.int .i64 ((k : Int) + 1)) (w5.setCell ⟨B, 0, none⟩ (.slice (some ⟨gg, 0, none⟩) (k + 1) cap)) := by
          refine ⟨k + 1, _, by rw [HN.out]; omega, by go_num, hB6, ?_, ?_⟩
          · rw [HSN.out]; exact hown6
          · exact hbw.trans ((((Below.refl _ wr).alloc hsz _).drew).trans hb6)
        have HREL := Lib.hid hrel
        clear hrel hB6 hown6 hb6 hB5
        go_wp2
        go_roundw
        case rel => exact HREL.out
        case measure => simp [intOf]; omega
    · have hkn : k = n := by omega
      have HFIN : Hid (MadeD l vs w (.returned (.tuple #[.pointer (some ⟨B, 0, none⟩), .int .i64 0])) wr) := Lib.hid ⟨B, rfl, ⟨HBW.out, by rw [HN.out, HVN.out], v, hblk, by
        rw [hkn, List.take_of_length_le (by rw [HN.out]; omega), List.take_of_length_le (by rw [HVN.out]; omega)] at hown
        rw [HN.out]
        exact hown⟩, hbw⟩
      clear hown hblk hbw
      go_wp2
      go_ret2
      exact HFIN.out
end Go.Proofs.Ytebdnjfohahpgaa
