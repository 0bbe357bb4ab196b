/- The library's own contracts (slices.Clone, Sort, Compact of texts; strings.HasPrefix; bits.Len) at this translation's numbers, in the words of owned rows. -/
import Derived.Shelf.Sort.Plain
import Derived.Shelf.Slices.Clone
import Derived.Shelf.Slices.CompactS
import Derived.Shelf.Slices.In.SortNone
import Derived.Shelf.Strings.Prefix
import Derived.Shelf.Small.Bits
import Derived.Shelf.SlSorted.Search
import Derived.Sort.OwnSorted
import Derived.Sort.Grow
import Derived.Lib.OwnBridge
import Derived.Test.YtebdnjfohahpgaaStr02
import Derived.Test.YtebdnjfohahpgaaPlain07
set_option linter.unusedVariables false
namespace Go.Proofs.Ytebdnjfohahpgaa
open Go.Shelf Go.RowKit Go.Sort
def layClone_ren : Go.Shelf.Ren := ⟨fun | 16 => 43 | n => n, fun | 4 => 4 | 9 => 9 | 24 => 22 | n => n, fun | n => n⟩
theorem layClone : Lays2.n16 Try.prog layClone_ren := {
  mixed := by kernel_rfl
  f16 := Try.func43.trans (congrArg some (by kernel_rfl))
  t4 := Try.underlying4
  a4 := Try.isAgg4
  z4 := Try.sizeOf4
  v4 := Try.zeroValue4
  t9 := Try.underlying9
  a9 := Try.isAgg9
  z9 := Try.sizeOf9
  v9 := Try.zeroValue9
  t24 := Try.underlying22
  a24 := Try.isAgg22
  z24 := Try.sizeOf22
  v24 := Try.zeroValue22
  i9 := by kernel_rfl }
def laySort_ren : Go.Shelf.Ren := ⟨fun | 125 => 40 | 128 => 47 | 129 => 48 | 190 => 44 | 258 => 49 | 302 => 50 | 303 => 51 | 304 => 52 | 305 => 53 | 306 => 54 | 307 => 55 | 308 => 56 | 309 => 57 | 310 => 58 | 329 => 60 | 330 => 61 | 333 => 59 | 334 => 62 | 335 => 63 | 336 => 41 | 344 => 64 | n => n, fun | 0 => 0 | 3 => 3 | 4 => 4 | 5 => 5 | 9 => 9 | 31 => 22 | 46 => 68 | 51 => 73 | 53 => 75 | 131 => 39 | 182 => 78 | 183 => 79 | 218 => 83 | 222 => 87 | 228 => 89 | 229 => 42 | n => n, fun | n => n⟩
theorem laySort : Lays.n190 Try.prog laySort_ren := {
  mixed := by kernel_rfl
  f125 := Try.func40.trans (congrArg some (by kernel_rfl))
  f128 := Try.func47.trans (congrArg some (by kernel_rfl))
  f129 := Try.func48.trans (congrArg some (by kernel_rfl))
  f190 := Try.func44.trans (congrArg some (by kernel_rfl))
  f258 := Try.func49.trans (congrArg some (by kernel_rfl))
  f302 := Try.func50.trans (congrArg some (by kernel_rfl))
  f303 := Try.func51.trans (congrArg some (by kernel_rfl))
  f304 := Try.func52.trans (congrArg some (by kernel_rfl))
  f305 := Try.func53.trans (congrArg some (by kernel_rfl))
  f306 := Try.func54.trans (congrArg some (by kernel_rfl))
  f307 := Try.func55.trans (congrArg some (by kernel_rfl))
  f308 := Try.func56.trans (congrArg some (by kernel_rfl))
  f309 := Try.func57.trans (congrArg some (by kernel_rfl))
  f310 := Try.func58.trans (congrArg some (by kernel_rfl))
  f329 := Try.func60.trans (congrArg some (by kernel_rfl))
  f330 := Try.func61.trans (congrArg some (by kernel_rfl))
  f333 := Try.func59.trans (congrArg some (by kernel_rfl))
  f334 := Try.func62.trans (congrArg some (by kernel_rfl))
  f335 := Try.func63.trans (congrArg some (by kernel_rfl))
  f336 := Try.func41.trans (congrArg some (by kernel_rfl))
  f344 := Try.func64.trans (congrArg some (by kernel_rfl))
  t0 := Try.underlying0
  a0 := Try.isAgg0
  z0 := Try.sizeOf0
  v0 := Try.zeroValue0
  t3 := Try.underlying3
  a3 := Try.isAgg3
  z3 := Try.sizeOf3
  v3 := Try.zeroValue3
  t4 := Try.underlying4
  a4 := Try.isAgg4
  z4 := Try.sizeOf4
  v4 := Try.zeroValue4
  t5 := Try.underlying5
  a5 := Try.isAgg5
  z5 := Try.sizeOf5
  v5 := Try.zeroValue5
  t9 := Try.underlying9
  a9 := Try.isAgg9
  z9 := Try.sizeOf9
  v9 := Try.zeroValue9
  t31 := Try.underlying22
  a31 := Try.isAgg22
  z31 := Try.sizeOf22
  v31 := Try.zeroValue22
  t46 := Try.underlying68
  a46 := Try.isAgg68
  z46 := Try.sizeOf68
  v46 := Try.zeroValue68
  t51 := Try.underlying73
  a51 := Try.isAgg73
  z51 := Try.sizeOf73
  v51 := Try.zeroValue73
  t53 := Try.underlying75
  a53 := Try.isAgg75
  z53 := Try.sizeOf75
  v53 := Try.zeroValue75
  t131 := Try.underlying39
  a131 := Try.isAgg39
  z131 := Try.sizeOf39
  v131 := Try.zeroValue39
  t182 := Try.underlying78
  a182 := Try.isAgg78
  z182 := Try.sizeOf78
  v182 := Try.zeroValue78
  t183 := Try.underlying79
  a183 := Try.isAgg79
  z183 := Try.sizeOf79
  v183 := Try.zeroValue79
  t218 := Try.underlying83
  a218 := Try.isAgg83
  z218 := Try.sizeOf83
  v218 := Try.zeroValue83
  t222 := Try.underlying87
  a222 := Try.isAgg87
  z222 := Try.sizeOf87
  v222 := Try.zeroValue87
  t228 := Try.underlying89
  a228 := Try.isAgg89
  z228 := Try.sizeOf89
  v228 := Try.zeroValue89
  t229 := Try.underlying42
  a229 := Try.isAgg42
  z229 := Try.sizeOf42
  v229 := Try.zeroValue42 }
def layCompact_ren : Go.Shelf.Ren := ⟨fun | 194 => 45 | n => n, fun | 0 => 0 | 3 => 3 | 4 => 4 | 9 => 9 | 31 => 22 | n => n, fun | n => n⟩
theorem layCompact : Lays.n194 Try.prog layCompact_ren := {
  mixed := by kernel_rfl
  f194 := Try.func45.trans (congrArg some (by kernel_rfl))
  t0 := Try.underlying0
  a0 := Try.isAgg0
  z0 := Try.sizeOf0
  v0 := Try.zeroValue0
  t3 := Try.underlying3
  a3 := Try.isAgg3
  z3 := Try.sizeOf3
  v3 := Try.zeroValue3
  t4 := Try.underlying4
  a4 := Try.isAgg4
  z4 := Try.sizeOf4
  v4 := Try.zeroValue4
  t9 := Try.underlying9
  a9 := Try.isAgg9
  z9 := Try.sizeOf9
  v9 := Try.zeroValue9
  t31 := Try.underlying22
  a31 := Try.isAgg22
  z31 := Try.sizeOf22
  v31 := Try.zeroValue22 }
def layHasPrefix_ren : Go.Shelf.Ren := ⟨fun | 99 => 36 | 206 => 42 | n => n, fun | 3 => 3 | 4 => 4 | 9 => 9 | n => n, fun | n => n⟩
theorem layHasPrefix : Lays.n99 Try.prog layHasPrefix_ren := {
  mixed := by kernel_rfl
  f99 := Try.func36.trans (congrArg some (by kernel_rfl))
  f206 := Try.func42.trans (congrArg some (by kernel_rfl))
  t3 := Try.underlying3
  a3 := Try.isAgg3
  z3 := Try.sizeOf3
  v3 := Try.zeroValue3
  t4 := Try.underlying4
  a4 := Try.isAgg4
  z4 := Try.sizeOf4
  v4 := Try.zeroValue4
  t9 := Try.underlying9
  a9 := Try.isAgg9
  z9 := Try.sizeOf9
  v9 := Try.zeroValue9 }
def layLen_ren : Go.Shelf.Ren := ⟨fun | 125 => 40 | 128 => 47 | 129 => 48 | n => n, fun | 3 => 3 | 4 => 4 | 5 => 5 | 9 => 9 | 46 => 68 | 51 => 73 | 53 => 75 | n => n, fun | n => n⟩
theorem layLen : Lays.n125 Try.prog layLen_ren := {
  mixed := by kernel_rfl
  f125 := Try.func40.trans (congrArg some (by kernel_rfl))
  f128 := Try.func47.trans (congrArg some (by kernel_rfl))
  f129 := Try.func48.trans (congrArg some (by kernel_rfl))
  t3 := Try.underlying3
  a3 := Try.isAgg3
  z3 := Try.sizeOf3
  v3 := Try.zeroValue3
  t4 := Try.underlying4
  a4 := Try.isAgg4
  z4 := Try.sizeOf4
  v4 := Try.zeroValue4
  t5 := Try.underlying5
  a5 := Try.isAgg5
  z5 := Try.sizeOf5
  v5 := Try.zeroValue5
  t9 := Try.underlying9
  a9 := Try.isAgg9
  z9 := Try.sizeOf9
  v9 := Try.zeroValue9
  t46 := Try.underlying68
  a46 := Try.isAgg68
  z46 := Try.sizeOf68
  v46 := Try.zeroValue68
  t51 := Try.underlying73
  a51 := Try.isAgg73
  z51 := Try.sizeOf73
  v51 := Try.zeroValue73
  t53 := Try.underlying75
  a53 := Try.isAgg75
  z53 := Try.sizeOf75
  v53 := Try.zeroValue75 }

theorem has_prefix (s p : ByteArray) (w : World) :
    Calls Try.prog 36 #[.string s, .string p] w fun e w' => e = .returned (.bool (beginsN s.data.toList p.data.toList)) ∧ w' = w := Any.strings_HasPrefix layHasPrefix s p w
theorem bits_len (x : Int) (w : World) (h0 : 0 ≤ x) (h1 : x ≤ 18446744073709551615) :
    Calls Try.prog 40 #[.int .u64 x] w fun e w' => e = .returned (.int .i64 (Lib.bitLen x.toNat)) ∧ w' = w := Any.bits_Len layLen x w h0 h1

theorem strs_enc (l : List Nm) : l.map encStr = strs l := rfl
/-- A list of texts of the call's own. -/
def OwnNm (base : Nat) (w : World) (v : Value) (l : List Nm) : Prop := w.ownsRow base 9 1 v l.length (strs l)
theorem OwnNm.below {base : Nat} {w w' : World} {v : Value} {l : List Nm} (h : OwnNm base w v l) (hb : Below w.heap.size w w') : OwnNm base w' v l := owned_below h hb
theorem OwnNm.low {base b : Nat} {w : World} {v : Value} {l : List Nm} (h : OwnNm base w v l) (hb : b ≤ base) : OwnNm b w v l := owned_low h hb
theorem OwnNm.row {base : Nat} {w : World} {v : Value} {l : List Nm} (h : OwnNm base w v l) : ∃ A c, v = .slice A l.length c ∧ l.length ≤ c ∧ Row w w.heap.size A (strs l) := owned_row h
theorem OwnNm.nil {base : Nat} {w : World} : OwnNm base w (.slice none 0 0) [] := World.ownsRow_nil _ _ _ _
/-- What a call gives that makes a list of texts. -/
def GaveNm (l : List Nm) (w : World) (e : Ending) (w' : World) : Prop := ∃ v, e = .returned v ∧ OwnNm w.heap.size w' v l ∧ Below w.heap.size w w'

theorem clone_own (A : Option Addr) (n c : Nat) (xs : List Nm) (w : World) (hn : xs.length = n) (hr : Row w w.heap.size A (strs xs)) (hbig : n ≤ 1073741824) :
    Calls Try.prog 43 #[.slice A n c] w (GaveNm xs w) := by
  rcases A with _ | a
  · have h0 : xs = [] := by
      rcases hr with h | ⟨_, _, h, _⟩
      · exact List.eq_nil_of_length_eq_zero (by rw [← strs_length, h]; rfl)
      · cases h
    subst h0
    exact (Any.slices_Clone_string_nil layClone n c w).mono fun e w' ⟨he, hw⟩ => ⟨_, he, OwnNm.nil, by rw [hw]; exact Below.refl _ _⟩
  · by_cases h0 : n = 0
    · subst h0
      obtain rfl : xs = [] := List.eq_nil_of_length_eq_zero hn
      exact (Any.slices_Clone_string_zero layClone a c w).mono fun e w' ⟨v, he, ho, _, hb⟩ => ⟨v, he, ho, hb⟩
    · obtain ⟨b, off, ha, hlt, hc⟩ := hr.at_ (by rw [strs_length]; omega)
      injection ha with ha
      subst ha
      refine (Any.slices_Clone_string layClone b off n c (xs.map fun x => ⟨x.toArray⟩) w (by simp; omega) (by omega) (fun j hj => ?_)).mono fun e w' ⟨v, he, ho, _, hb⟩ => ⟨v, he, ?_, hb⟩
      · rw [List.length_map] at hj
        rw [hc j (.string ⟨xs[j].toArray⟩) (by simp [strs, hj])]
        simp [List.getD, hj]
      · unfold OwnNm
        rw [hn]
        have e1 : ((xs.map fun x => (⟨x.toArray⟩ : ByteArray)).take n).map Value.string = strs xs := by
          rw [List.take_of_length_le (by simp; omega), List.map_map]; rfl
        rw [← e1]
        exact ho
theorem sort_own (base : Nat) (v : Value) (xs : List Nm) (w : World) (ho : OwnNm base w v xs) (hb : base ≤ w.heap.size) (hbig : xs.length ≤ 1073741824) :
    Calls Try.prog 44 #[v] w fun e w' => e = .returned (.tuple #[]) ∧ OwnNm base w' v (xs.mergeSort fun x y => decide (x ≤ y)) ∧ Below base w w' := by
  have hl2 : (xs.mergeSort fun x y => decide (x ≤ y)).length = xs.length := List.length_mergeSort xs
  rcases ho.2 with ⟨rfl, h0⟩ | ⟨g, cap, cur, rfl, hbase, hh, h1, h2, h3, h4⟩
  · obtain rfl : xs = [] := List.eq_nil_of_length_eq_zero h0
    exact (Any.slices_Sort_string_none laySort none 0 w).mono fun e w' ⟨he, hw⟩ => ⟨he, by rw [hw]; simpa using OwnNm.nil, by rw [hw]; exact Below.refl _ _⟩
  · have hH : Holds encStr w g 0 xs.toArray := holds_of_block hh (by simpa [strs] using h4)
    refine (Any.slices_Sort_string laySort g 0 cap xs w hH (lt_of_block hh) (by omega)).mono fun e w' ⟨he, n, os, hw⟩ => ⟨he, ?_, ?_⟩
    · rw [hw]
      unfold OwnNm
      rw [hl2]
      exact ownsRow_sorted hl2 hbase hh h1 h2 h3
    · rw [hw]
      exact (Below.refl base w).grown (grownBy_sorted _) hb (fun j hj => by cases hj; exact hbase)
theorem compact_own (base : Nat) (v : Value) (xs : List Nm) (w : World) (ho : OwnNm base w v xs) (hbig : xs.length ≤ 1073741824) :
    Calls Try.prog 45 #[v] w fun e w' => ∃ v', e = .returned v' ∧ OwnNm base w' v' (Lib.compact xs) ∧ Below base w w' := by
  have hle := Lib.compact_length_le xs
  rcases ho.2 with ⟨rfl, h0⟩ | ⟨g, cap, cur, rfl, hbase, hh, h1, h2, h3, h4⟩
  · obtain rfl : xs = [] := List.eq_nil_of_length_eq_zero h0
    exact (Any.slices_Compact_string_empty layCompact none 0 w).mono fun e w' ⟨he, hw⟩ => ⟨_, he, by rw [hw]; exact OwnNm.nil, by rw [hw]; exact Below.refl _ _⟩
  · have hH : Holds encStr w g 0 xs.toArray := holds_of_block hh (by simpa [strs] using h4)
    refine (Any.slices_Compact_string layCompact g 0 cap xs w hH (by omega) h1).mono fun e w' ⟨he, q, hw⟩ => ⟨_, he, ?_, ?_⟩
    · rw [hw]
      have h := Lib.ownsRow_putRow (q := q) (k := (Lib.compact xs).length) (ys := Lib.compact xs ++ List.replicate (xs.length - (Lib.compact xs).length) []) ho (by simp; omega) (by omega)
      rw [List.take_left] at h
      exact h
    · rw [hw]
      exact Lib.below_putRow (Below.refl base w) hbase

theorem is_nan (s : ByteArray) (w : World) : Calls Try.prog 41 #[.string s] w fun e w' => e = .returned (.bool false) ∧ w = w' := by
  go_enter Try.func41, Try.ntmps41
  go_wp2
  go_ret
  exact ⟨by simp, rfl⟩
theorem less_of {x y : Nm} : Op.bytesLess x y = decide (x < y) := bytesLess_eq x y
theorem ba_list (x : Nm) : ByteArray.toList ⟨x.toArray⟩ = x := by rw [Lib.toList_data]
set_option maxHeartbeats 1000000 in
theorem cmp_compare (x y : ByteArray) (w : World) : Calls Try.prog 33 #[.string x, .string y] w fun e w' => e = .returned (.int .i64 (cmpN x.data.toList y.data.toList)) ∧ w = w' := by
  have e1 : Op.bytesLess x.toList y.toList = decide (x.data.toList < y.data.toList) := by rw [Lib.toList_data, Lib.toList_data, less_of]
  have e2 : (x.toList == y.toList) = decide (x.data.toList = y.data.toList) := by rw [Lib.toList_data, Lib.toList_data, Bool.eq_iff_iff]; simp
  by_cases h1 : x.data.toList < y.data.toList
  · have hc : cmpN x.data.toList y.data.toList = -1 := by simp [cmpN, h1]
    rw [decide_eq_true h1] at e1
    rw [hc]
    clear e2 hc h1
    go_enter Try.func33, Try.ntmps33
    go_wp2_with (go_at_call 41; refine (is_nan _ _).mono ?_; rintro e w' ⟨rfl, rfl⟩)
    go_ret
    exact ⟨rfl, rfl⟩
  · rw [decide_eq_false h1] at e1
    by_cases h2 : x.data.toList = y.data.toList
    · have hc : cmpN x.data.toList y.data.toList = 0 := by simp [cmpN, h1, h2]
      rw [decide_eq_true h2] at e2
      rw [hc]
      clear hc h1 h2
      go_enter Try.func33, Try.ntmps33
      go_wp2_with (go_at_call 41; refine (is_nan _ _).mono ?_; rintro e w' ⟨rfl, rfl⟩)
      go_ret
      exact ⟨rfl, rfl⟩
    · have hc : cmpN x.data.toList y.data.toList = 1 := by simp [cmpN, h1, h2]
      rw [decide_eq_false h2] at e2
      rw [hc]
      clear hc h1 h2
      go_enter Try.func33, Try.ntmps33
      go_wp2_with (go_at_call 41; refine (is_nan _ _).mono ?_; rintro e w' ⟨rfl, rfl⟩)
      go_ret
      exact ⟨rfl, rfl⟩
end Go.Proofs.Ytebdnjfohahpgaa
