/- What From answers: a function that keeps the names and things from a place on. -/
import Derived.Test.YtebdnjfohahpgaaDict07
import Derived.Deep.RegionHeld3
import Derived.Deep.RegionLaw
import Derived.StillTailTactics
set_option linter.unusedVariables false
namespace Go.Proofs.Ytebdnjfohahpgaa
open Go Go.RowKit

/-- What From's function keeps: names and things from a place on, in a variable. -/
structure RestAt (b D : Nat) (l : List Nm) (vs : List Int) (W : World) : Prop where
  vlen : vs.length = l.length
  var : ∃ A c, W.heap[D]? = some (.cells #[.slice A l.length c] 55 (0, 0)) ∧ l.length ≤ c ∧ c ≤ maxLen ∧ Row W b A (entC l vs)
/-- What From gives. -/
def FromGot (b : Nat) (l : List Nm) (vs : List Int) (w : World) (e : Ending) (w' : World) : Prop :=
  ∃ D, e = .returned (.func (.func 38) #[] #[.pointer (some ⟨D, 0, none⟩)]) ∧ w.heap.size ≤ D ∧ RestAt b D l vs w' ∧ Below w.heap.size w w' ∧ w'.heap.size = D + 1

set_option maxHeartbeats 2000000 in
set_option maxRecDepth 100000 in
theorem dict_From (base B : Nat) (i : Int) (l : List Nm) (vs : List Int) (w0 w : World) (h0 : DictAt w0 base B l vs) (hw0 : Below w0.heap.size w0 w) (hl : l.length ≤ 1048576) (hi : i ≤ 9223372036854775807) :
    Calls Try.prog 24 #[.pointer (some ⟨B, 0, none⟩), .int .i64 i] w (FromGot w0.heap.size (l.drop i.toNat) (vs.drop i.toNat) w) := by
  have h := h0.below hw0
  have hvl := h.2.1
  have hbw := hw0.size
  have C0 := Lib.hid (fun W (hb : Below w.heap.size w W) => dict_Len base B l vs W (h.below hb))
  obtain ⟨m, hm⟩ : ∃ m : Nat, m = i.toNat := ⟨_, rfl⟩
  obtain ⟨n, hn⟩ : ∃ n, n = l.length := ⟨_, rfl⟩
  obtain ⟨k, hk⟩ : ∃ k : Nat, k = min m n := ⟨_, rfl⟩
  have hmx : ∀ (w : World) (ts : Array TypeId) (t : TypeId), (Builtin.max_ ts t #[.int .i64 i, .int .i64 0]).run Try.prog w = .ok (.int .i64 (m : Int)) w := fun w ts t => by rw [run_max_int2, hm]; congr 2; split <;> omega
  have hmn : ∀ (w : World) (ts : Array TypeId) (t : TypeId), (Builtin.min_ ts t #[.int .i64 m, .int .i64 n]).run Try.prog w = .ok (.int .i64 (k : Int)) w := fun w ts t => by rw [run_min_int2, hk]; congr 2; split <;> omega
  have hd1 : l.drop i.toNat = l.drop k := by
    rw [← hm]
    by_cases h1 : m ≤ n
    · rw [hk, Nat.min_eq_left h1]
    · rw [List.drop_of_length_le (by omega), List.drop_of_length_le (by omega)]
  have hd2 : vs.drop i.toNat = vs.drop k := by
    rw [← hm]
    by_cases h1 : m ≤ n
    · rw [hk, Nat.min_eq_left h1]
    · rw [List.drop_of_length_le (by omega), List.drop_of_length_le (by omega)]
  rw [hd1, hd2]
  have hkn : k ≤ n := by omega
  obtain ⟨A, c, hc0, hnc, hcm, hrow0, hA⟩ := h0.read
  have hc := (hw0.cell (p := ⟨B, 0, none⟩) h0.lt).trans hc0
  have hrow := hrow0.below hw0
  clear hc0 hrow0
  obtain ⟨b0, hb0⟩ : ∃ b, b = w0.heap.size := ⟨_, rfl⟩
  rw [← hb0] at hrow hbw ⊢
  rw [← hn] at hc hnc C0 hl
  have HN := Lib.hid hn
  have HV := Lib.hid hvl
  have HROW := Lib.hid hrow
  have k1 : (0 : Int) ≤ (k : Int) := by omega
  have k2 : (k : Int) ≤ (n : Int) := by omega
  have k3 : (n : Int) ≤ (c : Int) := by omega
  have k4 : (n : Int) ≤ 1048576 := by omega
  have HBL := Lib.hid h.lt
  unfold maxLen at hcm
  have HFIN : Hid (∀ A' c' W, (W.heap.size = w.heap.size + 1 ∧ Below w.heap.size w W ∧ W.heap[w.heap.size]? = some (.cells #[.slice A' (n - k) c'] 55 (0, 0))) → n - k ≤ c' → c' ≤ maxLen → Row w b0 A' (entC (l.drop k) (vs.drop k)) →
      FromGot b0 (l.drop k) (vs.drop k) w (.returned (.func (.func 38) #[] #[.pointer (some ⟨w.heap.size, 0, none⟩)])) W) := Lib.hid fun A' c' W ⟨h1, h2, h3⟩ h4 h5 h6 =>
    ⟨w.heap.size, rfl, Nat.le_refl _, ⟨by rw [List.length_drop, List.length_drop, hvl], A', c', by rw [List.length_drop, ← HN.out]; exact h3, by rw [List.length_drop, ← HN.out]; exact h4, h5, h6.below (h2.mono hbw)⟩, h2, by omega⟩
  clear h h0 hw0 hb0 hm hk hd1 hd2 hrow hvl hn
  rcases hA with ⟨rfl, hl0, rfl⟩ | ⟨g, rfl⟩
  · have hn0 : n = 0 := by rw [HN.out, hl0]; rfl
    have hk0 : k = 0 := by omega
    have hrow0 : Row w b0 none (entC (l.drop k) (vs.drop k)) := .inl (by rw [hl0]; simp [entC_nil])
    subst hn0 hk0
    have hmin : min (m : Int) 0 = 0 := by omega
    have HX0 := Lib.hid hrow0
    have hblk : ((w.alloc (.cells #[.slice none 0 0] 55)).drew).heap[w.heap.size]? = some (.cells #[.slice none 0 0] 55 (0, 0)) := heap_alloc_new w _
    have hba : Below w.heap.size w (w.alloc (.cells #[.slice none 0 0] 55)).drew := ((Below.refl _ w).alloc (Nat.le_refl _) _).drew
    have hn1 := cell_of_one hblk
    have hn2 := free_of_one hblk
    have hn3 := (hba.cell (p := ⟨B, 0, none⟩) HBL.out).trans hc
    have HBA := Lib.hid hba
    clear hrow0 hblk hba hl0
    go_enter Try.func24, Try.ntmps24
    go_wp2
    go_region_law (first
        | (go_simp; go_at_call 15; refine (C0.out _ (by first | exact (Below.refl _ w).drew | exact HBA.out)).mono ?_; rintro e w' ⟨rfl, rfl⟩))
    all_goals
      have hfin := HFIN.out none 0 ((w.alloc (.cells #[.slice none 0 0] 55)).drew) ⟨by simp, ((Below.refl _ w).alloc (Nat.le_refl _) _).drew, heap_alloc_new w _⟩ (by omega) (by unfold maxLen; omega) HX0.out
      have HF := Lib.hid hfin
      clear hfin
      go_wp2
      go_ret
      exact HF.out
  · obtain ⟨AN, hAN⟩ : ∃ AN, (if c = k then (some ⟨g, 0, none⟩ : Option Addr) else some ⟨g, k * 2, none⟩) = AN := ⟨_, rfl⟩
    have hrow0 : Row w b0 AN (entC (l.drop k) (vs.drop k)) := by
      rw [← hAN]
      by_cases hck : c = k
      · exact .inl (by rw [List.drop_of_length_le (by rw [← HN.out]; omega)]; simp [entC_nil])
      · rw [if_neg hck, ← entC_drop k HV.out]
        rcases HROW.out with h0 | ⟨b', o', e, hb, hcl⟩
        · exact .inl (by rw [h0]; simp)
        · injection e with e
          injection e with e1 e2
          subst e1 e2
          refine .inr ⟨g, k * 2, rfl, hb, fun j u hu => ?_⟩
          have := hcl (k * 2 + j) u (by rw [← hu]; simp)
          rwa [Nat.zero_add] at this
    have HX0 := Lib.hid hrow0
    have hblk : ((w.alloc (.cells #[.slice none 0 0] 55)).drew).heap[w.heap.size]? = some (.cells #[.slice none 0 0] 55 (0, 0)) := heap_alloc_new w _
    have hba : Below w.heap.size w (w.alloc (.cells #[.slice none 0 0] 55)).drew := ((Below.refl _ w).alloc (Nat.le_refl _) _).drew
    have hn1 := cell_of_one hblk
    have hn2 := free_of_one hblk
    have hn3 := (hba.cell (p := ⟨B, 0, none⟩) HBL.out).trans hc
    have HBLK := Lib.hid hblk
    have HBA := Lib.hid hba
    clear hrow0 hblk hba
    go_enter Try.func24, Try.ntmps24
    go_wp2
    go_region_law (first
        | (go_simp; go_at_call 15; refine (C0.out _ (by first | exact (Below.refl _ w).drew | exact HBA.out)).mono ?_; rintro e w' ⟨rfl, rfl⟩))
    all_goals
      have hfin := HFIN.out AN (c - k) ((w.alloc (.cells #[.slice AN (n - k) (c - k)] 55)).drew) ⟨by simp, ((Below.refl _ w).alloc (Nat.le_refl _) _).drew, heap_alloc_new w _⟩ (by omega) (by unfold maxLen; omega) HX0.out
      have HF := Lib.hid hfin
      clear hfin
      go_wp2
      go_ret
      exact HF.out
end Go.Proofs.Ytebdnjfohahpgaa
