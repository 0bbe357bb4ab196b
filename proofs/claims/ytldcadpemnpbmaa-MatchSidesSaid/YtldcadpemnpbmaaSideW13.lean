/- How many numbers stand side by side, as the program tells it. -/
import Derived.Shelf.Slices.SearchI
import Derived.Shelf.Slices.Empties
import Derived.Shelf.Abstract
import Derived.Test.YtldcadpemnpbmaaSide13
import Derived.Test.YtldcadpemnpbmaaInts
import Derived.BigCall
import Derived.BigQuiet
import Derived.Lib.Hide
set_option linter.unusedVariables false
namespace Go.Proofs.Ytldcadpemnpbmaa
open Go Go.RowKit Go.Shelf
def layBinI13_ren : Go.Shelf.Ren := ⟨fun | 25 => 27 | 31 => 30 | 32 => 31 | 37 => 32 | n => n, fun | 0 => 0 | 3 => 3 | 4 => 4 | 22 => 31 | 40 => 50 | n => n, fun | n => n⟩
theorem layBinI13 : Lays2.n25 Try.prog layBinI13_ren := {
  mixed := by kernel_rfl
  f25 := Try.func27.trans (congrArg some (by kernel_rfl))
  f31 := Try.func30.trans (congrArg some (by kernel_rfl))
  f32 := Try.func31.trans (congrArg some (by kernel_rfl))
  f37 := Try.func32.trans (congrArg some (by kernel_rfl))
  t0 := Try.underlying0
  a0 := Try.isAgg0
  z0 := Try.sizeOf0
  v0 := Try.zeroValue0
  t3 := Try.underlying3
  a3 := Try.isAgg3
  z3 := Try.sizeOf3
  v3 := Try.zeroValue3
  t4 := Try.underlying4
  a4 := Try.isAgg4
  z4 := Try.sizeOf4
  v4 := Try.zeroValue4
  t22 := Try.underlying31
  a22 := Try.isAgg31
  z22 := Try.sizeOf31
  v22 := Try.zeroValue31
  t40 := Try.underlying50
  a40 := Try.isAgg50
  z40 := Try.sizeOf50
  v40 := Try.zeroValue50 }

theorem bin_has (A : Option Addr) (n c : Nat) (l : List Int) (x : Int) (w : World) (hr : Row w w.heap.size A (ints l)) (hn : l.length = n) (hl : n ≤ 1099511627776) (hs : l.Pairwise (· ≤ ·)) :
    Calls Try.prog 27 #[.slice A n c, .int .i64 x] w fun e w' => (∃ z, e = .returned (.tuple #[.int .i64 z, .bool (decide (x ∈ l))])) ∧ Below w.heap.size w w' := by
  subst hn
  rcases hr with h0 | ⟨b, off, rfl, hb, hc⟩
  · have hl0 : l = [] := by simpa [ints] using h0
    subst hl0
    refine (Any.slices_BinarySearch_int_empty (ρ := layBinI13_ren) layBinI13 A c x w).mono ?_
    rintro e w' ⟨rfl, rfl⟩
    exact ⟨⟨0, by simp⟩, Below.refl _ _⟩
  · refine (Any.slices_BinarySearch_int (ρ := layBinI13_ren) layBinI13 b off l.length c l x w (Nat.le_refl _) (by omega) (fun j hj => ?_) (by rw [List.take_length]; exact hs)).mono ?_
    · rw [List.getD_eq_getElem?_getD, List.getElem?_eq_getElem hj]
      exact hc j _ (by simp [ints, hj])
    · rintro e w' ⟨rfl, q, rfl⟩
      rw [List.take_length]
      refine ⟨⟨_, by rw [show l.contains x = decide (x ∈ l) from by simp]⟩, ⟨rfl, rfl, rfl, Nat.le_refl _, fun _ _ => rfl⟩⟩

/-- The cells of lists of numbers, below a block; such lists. -/
def LisC (w : World) (B : Nat) (l : List (List Int)) (cs : List Value) : Prop := cs.length = l.length ∧ ∀ i (h : i < l.length), ∃ A c, cs[i]? = some (.slice A l[i].length c) ∧ Row w B A (ints l[i])
def Lis (w : World) (B : Nat) (A : Option Addr) (l : List (List Int)) : Prop := ∃ cs, LisC w B l cs ∧ Row w B A cs
section
variable {w w' : World} {B B' : Nat} {A : Option Addr} {l : List (List Int)} {cs : List Value}
theorem LisC.below (h : LisC w B l cs) (hb : Below B w w') : LisC w' B l cs := ⟨h.1, fun i hi => by obtain ⟨A, c, h1, h2⟩ := h.2 i hi; exact ⟨A, c, h1, h2.below hb⟩⟩
theorem LisC.more (h : LisC w B l cs) (hB : B ≤ B') : LisC w B' l cs := ⟨h.1, fun i hi => by obtain ⟨A, c, h1, h2⟩ := h.2 i hi; exact ⟨A, c, h1, h2.more hB⟩⟩
theorem LisC.nil : LisC w B [] [] := ⟨rfl, fun i h => by simp at h⟩
theorem LisC.snoc (h : LisC w B l cs) {x : List Int} {A : Option Addr} {c : Nat} (hx : Row w B A (ints x)) : LisC w B (l ++ [x]) (cs ++ [.slice A x.length c]) := by
  refine ⟨by simp [h.1], fun i hi => ?_⟩
  rw [List.length_append, List.length_singleton] at hi
  by_cases hil : i < l.length
  · obtain ⟨A', c', h1, h2⟩ := h.2 i hil
    refine ⟨A', c', ?_, ?_⟩
    · rw [List.getElem?_append_left (by rw [h.1]; omega), List.getElem_append_left hil]; exact h1
    · rw [List.getElem_append_left hil]; exact h2
  · have e : i = l.length := by omega
    subst e
    refine ⟨A, c, ?_, ?_⟩
    · rw [List.getElem?_append_right (by rw [h.1]; omega), h.1]; simp
    · simpa using hx
theorem LisC.tail {x : List Int} {u : Value} (h : LisC w B (x :: l) (u :: cs)) : LisC w B l cs := ⟨by have := h.1; simpa using this, fun i hi => by
  obtain ⟨A, c, h1, h2⟩ := h.2 (i + 1) (by simpa using hi)
  exact ⟨A, c, by simpa using h1, by simpa using h2⟩⟩
theorem Lis.below (h : Lis w B A l) (hb : Below B w w') : Lis w' B A l := by obtain ⟨cs, h1, h2⟩ := h; exact ⟨cs, h1.below hb, h2.below hb⟩
theorem Lis.more (h : Lis w B A l) (hB : B ≤ B') : Lis w B' A l := by obtain ⟨cs, h1, h2⟩ := h; exact ⟨cs, h1.more hB, h2.more hB⟩
theorem Lis.later (h : Lis w w.heap.size A l) (hb : Below w.heap.size w w') : Lis w' w'.heap.size A l := (h.below hb).more hb.size
theorem Lis.at_ (h : Lis w B A l) {i : Nat} (hi : i < l.length) : ∃ b off A' c', A = some ⟨b, off, none⟩ ∧ b < B ∧ w.cell? ⟨b, off + i, none⟩ = some (.slice A' l[i].length c') ∧ Row w B A' (ints l[i]) := by
  obtain ⟨cs, h1, h2⟩ := h
  obtain ⟨A', c', g1, g2⟩ := h1.2 i hi
  obtain ⟨b, off, rfl, hb, hc⟩ := h2.at_ (by rw [h1.1]; omega)
  exact ⟨b, off, A', c', rfl, hb, hc i _ g1, g2⟩
theorem Lis.tail {x : List Int} {b o c : Nat} {AN : Addr} (h : Lis w B (some ⟨b, o, none⟩) (x :: l)) (hc : l.length + 1 ≤ c) (hA : (if c = 1 then some (⟨b, o, none⟩ : Addr) else some ⟨b, o + 1, none⟩) = some AN) : Lis w B (some AN) l := by
  obtain ⟨cs, h1, h2⟩ := h
  rcases cs with _ | ⟨u, cs⟩
  · have := h1.1; simp at this
  · refine ⟨cs, h1.tail, ?_⟩
    by_cases e : c = 1
    · have : l = [] := List.eq_nil_of_length_eq_zero (by omega)
      subst this
      have : cs = [] := List.eq_nil_of_length_eq_zero h1.tail.1
      rw [this]
      exact .inl rfl
    · rw [if_neg e] at hA
      injection hA with hA
      subst hA
      rcases h2 with h | ⟨b', o', e', hb, hc⟩
      · cases h
      · injection e' with e'
        injection e' with e1 e2
        subst e1 e2
        refine .inr ⟨b, o + 1, rfl, hb, fun i u hu => ?_⟩
        have := hc (i + 1) u (by simpa using hu)
        rwa [show o + (i + 1) = o + 1 + i by omega] at this
end
/-- Lists of numbers that rise, not too long. -/
def RiseL (l : List (List Int)) : Prop := ∀ s ∈ l, s.length ≤ 1099511627776 ∧ s.Pairwise (· ≤ ·) ∧ ∀ x ∈ s, -9223372036854775808 ≤ x ∧ x ≤ 9223372036854775807
theorem RiseL.at_ {l : List (List Int)} (h : RiseL l) {i : Nat} (hi : i < l.length) : l[i].length ≤ 1099511627776 ∧ l[i].Pairwise (· ≤ ·) ∧ ∀ x ∈ l[i], -9223372036854775808 ≤ x ∧ x ≤ 9223372036854775807 := h _ (List.getElem_mem hi)
theorem follow_at {l : List (List Int)} {k : Nat} (hk : k < l.length) (n : Int) : followF (l.drop k) n = (decide (n + 1 ∈ l[k]) && followF (l.drop (k + 1)) (n + 1)) := by rw [List.drop_eq_getElem_cons hk, followF]
def FollowRel (x : Int) (l : List (List Int)) (w : World) (r vx vi : Value) (wr : World) : Prop :=
  r = .bool false ∧ ∃ k : Nat, k ≤ l.length ∧ vi = .int .i64 (k : Int) ∧ vx = .int .i64 (x + k) ∧ x + k ≤ 9223372036854775807 ∧ followF (l.drop k) (x + k) = followF l x ∧ Below w.heap.size w wr

set_option maxHeartbeats 4000000 in
set_option maxRecDepth 100000 in
theorem match_follow (A : Option Addr) (n c : Nat) (l : List (List Int)) (x : Int) (w : World) (h : Lis w w.heap.size A l) (hn : l.length = n) (hl : RiseL l) (hx0 : -9223372036854775808 ≤ x) (hx1 : x ≤ 9223372036854775807) (hm : n ≤ 1099511627776) :
    Calls Try.prog 24 #[.slice A n c, .int .i64 x] w fun e w' => e = .returned (.bool (followF l x)) ∧ Below w.heap.size w w' := by
  have HL := Lib.hid h
  have HR := Lib.hid hl
  have HN := Lib.hid hn
  obtain ⟨ans, hans⟩ : ∃ ans, ans = followF l x := ⟨_, rfl⟩
  rw [← hans]
  have HREL : Hid (FollowRel x l w (.bool false) (.int .i64 x) (.int .i64 ((0 : Nat) : Int)) w) := Lib.hid ⟨rfl, 0, Nat.zero_le _, rfl, by simp, by simpa using hx1, by simp, Below.refl _ _⟩
  have HA := Lib.hid hans
  clear h hl hn hans
  go_enter Try.func24, Try.ntmps24
  go_wp2
  go_loopw [4, 1, 11] (fun r vx vi wr => FollowRel x l w r vx vi wr) (fun _ _ i _ => n - (intOf i).toNat)
  case atStart => exact HREL.out
  case round =>
    obtain ⟨rfl, k, hk, rfl, rfl, hxk, hfo, hbw⟩ := hrel
    rw [HN.out] at hk
    by_cases hlt : k < n
    · have hkl : k < l.length := by rw [HN.out]; exact hlt
      obtain ⟨b1, o1, A1, c1, rfl, _, hc1, hr1⟩ := (HL.out.below hbw).at_ hkl
      have hfa := follow_at hkl (x + k)
      rw [hfo, ← HA.out] at hfa
      obtain ⟨h1, h2, h3⟩ := HR.out.at_ hkl
      obtain ⟨s, hs⟩ : ∃ s, s = l[k] := ⟨_, rfl⟩
      rw [← hs] at hc1 hr1 hfa h1 h2 h3
      obtain ⟨m, hms⟩ : ∃ m, m = s.length := ⟨_, rfl⟩
      rw [← hms] at hc1 h1
      have hkn : (k : Int) < (n : Int) := by omega
      obtain ⟨y, hy⟩ : ∃ y, y = x + (k : Int) := ⟨_, rfl⟩
      rw [← hy] at hxk hfa hfo ⊢
      by_cases hmax : y = 9223372036854775807
      · have hv : ans = false := by
          rw [hfa, show decide (y + 1 ∈ s) = false from decide_eq_false fun hm => by have := (h3 _ hm).2; omega]
          rfl
        have e1 : (y == 9223372036854775807) = true := by rw [hmax]; exact beq_self_eq_true _
        subst hv
        clear hfa hfo h1 h2 h3 hr1 hs hms hy hmax
        go_wp2
        go_ret
        exact ⟨rfl, hbw⟩
      · have e1 : (y == 9223372036854775807) = false := beq_eq_false_iff_ne.2 hmax
        have hyr : y < 9223372036854775807 := by omega
        have hy0 : -9223372036854775808 ≤ y := by omega
        have HB := Lib.hid (bin_has A1 m c1 s (y + 1) wr (hr1.more hbw.size) hms.symm h1 h2)
        have HBW := Lib.hid hbw
        have HY := Lib.hid hy
        have HS := Lib.hid hs
        have HKL := Lib.hid hkl
        clear hfo h1 h2 h3 hr1 hs hms hbw hy hmax
        by_cases hin : y + 1 ∈ s
        · rw [decide_eq_true hin, Bool.true_and] at hfa
          rw [decide_eq_true hin] at HB
          have HFA := Lib.hid hfa
          clear hfa hin
          go_wp2_with (go_at_call 27; refine HB.out.mono ?_; rintro e w2 ⟨⟨z, rfl⟩, hb2⟩)
          go_roundw
          case rel => exact ⟨rfl, k + 1, HKL.out, by go_num, by rw [HY.out]; congr 1; omega, by have := HY.out; omega, by rw [show x + ((k + 1 : Nat) : Int) = y + 1 by rw [HY.out]; omega, ← HFA.out, HA.out], HBW.out.trans (hb2.mono HBW.out.size)⟩
          case measure => simp [intOf]; omega
        · rw [decide_eq_false hin, Bool.false_and] at hfa
          rw [decide_eq_false hin] at HB
          subst hfa
          clear hin
          go_wp2_with (go_at_call 27; refine HB.out.mono ?_; rintro e w2 ⟨⟨z, rfl⟩, hb2⟩)
          go_ret
          exact ⟨rfl, HBW.out.trans (hb2.mono HBW.out.size)⟩
    · have hv : ans = true := by rw [HA.out, ← hfo, List.drop_of_length_le (by rw [HN.out]; omega)]; rfl
      subst hv
      clear hfo
      go_wp2
      go_ret
      exact ⟨rfl, hbw⟩
end Go.Proofs.Ytldcadpemnpbmaa
