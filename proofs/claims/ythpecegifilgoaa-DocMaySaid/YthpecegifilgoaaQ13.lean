/- Texts laid together: Cmp08, LaySort08, Sort08, Sorted08. -/
import Derived.Test.YthpecegifilgoaaStr02
import Derived.Test.YthpecegifilgoaaQ07
import Derived.Test.YthpecegifilgoaaQ06
import Derived.Test.YthpecegifilgoaaPlain08
import Derived.Shelf.SlSortCmp.WholeK
import Derived.Deep.RegionHeld3
import Derived.Shelf.SlSortCmp.NoneTotal
import Derived.Test.YthpecegifilgoaaProg
import Derived.Test.YthpecegifilgoaaColl08

/- What cmp.Compare answers of two texts, what word's Key answers, to the world, and what the comparison that Invert hands on answers. -/
set_option linter.unusedVariables false
namespace Go.Proofs.Ythpecegifilgoaa
open Go Go.RowKit

theorem gtr_str (t : TypeId) (a b : ByteArray) : binOp .gtr t (.string a) (.string b) = pure (.bool !(Op.bytesLess a.toList b.toList || a.toList == b.toList)) := by simp [binOp, Op.stringOp]
attribute [local go_sem] gtr_str
theorem is_nan (s : ByteArray) (w : World) : Calls Try.prog 55 #[.string s] w fun e w' => e = .returned (.bool false) ∧ w = w' := by
  go_enter Try.func55, Try.ntmps55
  go_wp2
  go_ret
  exact ⟨by simp, rfl⟩
set_option maxHeartbeats 1000000 in
theorem cmp_compare (x y : ByteArray) (w : World) : Calls Try.prog 41 #[.string x, .string y] w fun e w' => e = .returned (.int .i64 (cmpN x.data.toList y.data.toList)) ∧ w = w' := by
  have e1 : Op.bytesLess x.toList y.toList = decide (x.data.toList < y.data.toList) := by rw [Lib.toList_data, Lib.toList_data, less_of]
  have e2 : (x.toList == y.toList) = decide (x.data.toList = y.data.toList) := by rw [Lib.toList_data, Lib.toList_data, Bool.eq_iff_iff]; simp
  by_cases h1 : x.data.toList < y.data.toList
  · have hc : cmpN x.data.toList y.data.toList = -1 := by simp [cmpN, h1]
    rw [decide_eq_true h1] at e1
    rw [hc]
    clear e2 hc h1
    go_enter Try.func41, Try.ntmps41
    go_wp2_with (go_at_call 55; refine (is_nan _ _).mono ?_; rintro e w' ⟨rfl, rfl⟩)
    go_ret
    exact ⟨rfl, rfl⟩
  · rw [decide_eq_false h1] at e1
    by_cases h2 : x.data.toList = y.data.toList
    · have hc : cmpN x.data.toList y.data.toList = 0 := by simp [cmpN, h2]
      rw [decide_eq_true h2] at e2
      rw [hc]
      clear hc h1 h2
      go_enter Try.func41, Try.ntmps41
      go_wp2_with (go_at_call 55; refine (is_nan _ _).mono ?_; rintro e w' ⟨rfl, rfl⟩)
      go_ret
      exact ⟨rfl, rfl⟩
    · have hc : cmpN x.data.toList y.data.toList = 1 := by simp [cmpN, h1, h2]
      rw [decide_eq_false h2] at e2
      rw [hc]
      clear hc h1 h2
      go_enter Try.func41, Try.ntmps41
      go_wp2_with (go_at_call 55; refine (is_nan _ _).mono ?_; rintro e w' ⟨rfl, rfl⟩)
      go_ret
      exact ⟨rfl, rfl⟩


open Go.Sort
/-- Draws, and blocks laid behind: nothing else. -/
def Grew (w w' : World) : Prop := ∃ q os, w' = grow (w.drewN q) os
theorem Grew.alloc {w w' : World} (h : Grew w w') (o : Obj) : Grew w (w'.alloc o) := by
  obtain ⟨q, os, rfl⟩ := h
  exact ⟨q, os ++ #[o], by rw [alloc_eq_grow, grow_grow]⟩
theorem Grew.refl (w : World) : Grew w w := ⟨0, #[], by rw [grow_empty]; rfl⟩
theorem Grew.trans {w w1 w2 : World} (h : Grew w w1) (k : Grew w1 w2) : Grew w w2 := by
  obtain ⟨q, os, rfl⟩ := h
  obtain ⟨q2, os2, rfl⟩ := k
  refine ⟨q + q2, os ++ os2, ?_⟩
  rw [← grow_grow]
  congr 1
  show grow ((w.drewN q).drewN q2) os = _
  congr 1
  exact World.drewN_drewN w q q2
theorem Grew.drew {w w' : World} (h : Grew w w') : Grew w w'.drew := h.trans ⟨1, #[], by rw [grow_empty]; rfl⟩
theorem Grew.below {w w' : World} (h : Grew w w') : Below w.heap.size w w' := by
  obtain ⟨q, os, rfl⟩ := h
  exact ⟨rfl, rfl, rfl, by simp [grow], fun k hk => heap_grow_old _ _ hk⟩

set_option maxHeartbeats 1000000 in
theorem word_Key_at (f g : ByteArray) (w : World) (hf : f.size ≤ 1073741824) (hg : g.size ≤ 1073741824) :
    Calls Try.prog 42 #[.agg #[.string f, .string g]] w fun e w' => e = .returned (.string (keyB f g)) ∧ Grew w w' := by
  go_enter Try.func42, Try.ntmps42
  go_wp2
  go_ret
  exact ⟨rfl, (Grew.refl w).alloc _⟩

set_option maxHeartbeats 4000000 in
set_option maxRecDepth 100000 in
theorem invert_cmp (a b c d : ByteArray) (w : World) (ha : a.size ≤ 1073741824) (hb : b.size ≤ 1073741824) (hc : c.size ≤ 1073741824) (hd : d.size ≤ 1073741824) :
    Calls Try.prog 40 #[.agg #[.string a, .string b], .agg #[.string c, .string d]] w fun e w' => e = .returned (.int .i64 (cmpN (keyL a.data.toList b.data.toList) (keyL c.data.toList d.data.toList))) ∧ Grew w w' := by
  obtain ⟨w1, hw1⟩ : ∃ w1, w1 = (w.alloc (.cells #[.string a, .string b] 43)).alloc (.cells #[.string c, .string d] 43) := ⟨_, rfl⟩
  have hg1 : Grew w w1 := by rw [hw1]; exact ((Grew.refl w).alloc _).alloc _
  have hcell : ∀ w', Below w1.heap.size w1 w' → w'.cell? ⟨w.heap.size, 0, none⟩ = some (.string a) ∧ w'.cell? ⟨w.heap.size, 1, none⟩ = some (.string b) ∧ w'.cell? ⟨w.heap.size + 1, 0, none⟩ = some (.string c) ∧ w'.cell? ⟨w.heap.size + 1, 1, none⟩ = some (.string d) := fun w' h => by
    have hs1 : w1.heap.size = w.heap.size + 2 := by rw [hw1]; simp
    have h0 : w1.heap[w.heap.size]? = some (.cells #[.string a, .string b] 43 (0, 0)) := by rw [hw1, Below.heap_alloc _ _ _ (by simp)]; exact heap_alloc_new _ _
    have h1 : w1.heap[w.heap.size + 1]? = some (.cells #[.string c, .string d] 43 (0, 0)) := by
      rw [hw1]
      have := heap_alloc_new (w.alloc (.cells #[.string a, .string b] 43)) (.cells #[.string c, .string d] 43)
      rwa [World.size_alloc] at this
    have h0' := (h.block _ (by omega)).trans h0
    have h1' := (h.block _ (by omega)).trans h1
    exact ⟨by simp [World.cell?, h0'], by simp [World.cell?, h0'], by simp [World.cell?, h1'], by simp [World.cell?, h1']⟩
  have hk1 := fun w' => word_Key_at a b w' ha hb
  have hk2 := fun w' => word_Key_at c d w' hc hd
  have hcmp := fun w' => cmp_compare (keyB a b) (keyB c d) w'
  rw [keyB_list, keyB_list] at hcmp
  obtain ⟨K1, hK1⟩ : ∃ K1, K1 = keyB a b := ⟨_, rfl⟩
  obtain ⟨K2, hK2⟩ : ∃ K2, K2 = keyB c d := ⟨_, rfl⟩
  obtain ⟨R, hR⟩ : ∃ R, R = cmpN (keyL a.data.toList b.data.toList) (keyL c.data.toList d.data.toList) := ⟨_, rfl⟩
  rw [← hK1] at hk1 hcmp
  rw [← hK2] at hk2 hcmp
  rw [← hR] at hcmp ⊢
  have HG1 := Lib.hid hg1
  have HC := Lib.hid hcell
  have HK1 := Lib.hid hk1
  have HK2 := Lib.hid hk2
  have HCM := Lib.hid hcmp
  have HW1 := Lib.hid hw1
  clear hw1 hg1 hcell hk1 hk2 hcmp hK1 hK2 hR
  go_enter Try.func40, Try.ntmps40
  go_wp2
  rw [show (w.alloc _).alloc _ = w1 from HW1.out.symm]
  have hst : Grew w1 w1.drew := (Grew.refl w1).drew
  have HST : Hid (Grew w1 w1.drew) := Lib.hid hst
  clear hst
  go_region_held3 (fun w' => (w'.cell? ⟨w.heap.size, 0, none⟩ = some (.string a) ∧ w'.cell? ⟨w.heap.size, 1, none⟩ = some (.string b) ∧ w'.cell? ⟨w.heap.size + 1, 0, none⟩ = some (.string c) ∧ w'.cell? ⟨w.heap.size + 1, 1, none⟩ = some (.string d)) ∧ Grew w1 w')
    (first | exact ⟨HC.out _ HST.out.below, HST.out⟩ | exact ⟨HC.out _ HG4.out.below, HG4.out⟩ | exact ⟨HC.out _ HG5.out.below, HG5.out⟩)
    (first
      | (go_at_call 42; (with_reducible refine (HK1.out _).mono ?_); rintro e w4 ⟨rfl, hg4⟩
         have HG4 : Hid (Grew w1 w4) := Lib.hid (HST.out.trans hg4))
      | (go_at_call 42; (with_reducible refine (HK2.out _).mono ?_); rintro e w5 ⟨rfl, hg5⟩
         have HG5 : Hid (Grew w1 w5) := Lib.hid (HG4.out.trans hg5))
      | (go_at_call 41; (with_reducible refine (HCM.out _).mono ?_); rintro e w6 ⟨rfl, rfl⟩))
  all_goals
    go_wp2
    go_ret
    exact ⟨rfl, HG1.out.trans HG5.out⟩
end Go.Proofs.Ythpecegifilgoaa

/- The library's own contract of slices.SortFunc, of terms, at this translation's numbers. -/
set_option linter.unusedVariables false
namespace Go.Proofs.Ythpecegifilgoaa
open Go.Shelf Go.RowKit
def laySortTm_ren : Go.Shelf.Ren := ⟨fun | 6 => 53 | 14 => 67 | 15 => 68 | 20 => 78 | 21 => 79 | 22 => 80 | 23 => 81 | 24 => 82 | 25 => 83 | 26 => 84 | 27 => 85 | 28 => 86 | 29 => 87 | 46 => 94 | 47 => 95 | 48 => 96 | 49 => 97 | 50 => 98 | 57 => 101 | n => n, fun | 0 => 0 | 3 => 3 | 4 => 4 | 5 => 5 | 9 => 9 | 22 => 37 | 24 => 43 | 25 => 74 | 39 => 99 | 45 => 104 | 46 => 105 | 50 => 86 | 53 => 111 | 55 => 113 | 66 => 123 | 70 => 127 | 76 => 131 | 77 => 100 | n => n, fun | n => n⟩
theorem laySortTm : SlLaysF0.n6 Try.prog laySortTm_ren := {
  mixed := by kernel_rfl
  f6 := ⟨Try.f53.name, by kernel_rfl, Try.func53.trans (congrArg some (by kernel_rfl))⟩
  f14 := ⟨Try.f67.name, by kernel_rfl, Try.func67.trans (congrArg some (by kernel_rfl))⟩
  f15 := Try.func68.trans (congrArg some (by kernel_rfl))
  f20 := ⟨Try.f78.name, by kernel_rfl, Try.func78.trans (congrArg some (by kernel_rfl))⟩
  f21 := ⟨Try.f79.name, by kernel_rfl, Try.func79.trans (congrArg some (by kernel_rfl))⟩
  f22 := ⟨Try.f80.name, by kernel_rfl, Try.func80.trans (congrArg some (by kernel_rfl))⟩
  f23 := ⟨Try.f81.name, by kernel_rfl, Try.func81.trans (congrArg some (by kernel_rfl))⟩
  f24 := ⟨Try.f82.name, by kernel_rfl, Try.func82.trans (congrArg some (by kernel_rfl))⟩
  f25 := ⟨Try.f83.name, by kernel_rfl, Try.func83.trans (congrArg some (by kernel_rfl))⟩
  f26 := ⟨Try.f84.name, by kernel_rfl, Try.func84.trans (congrArg some (by kernel_rfl))⟩
  f27 := ⟨Try.f85.name, by kernel_rfl, Try.func85.trans (congrArg some (by kernel_rfl))⟩
  f28 := Try.func86.trans (congrArg some (by kernel_rfl))
  f29 := Try.func87.trans (congrArg some (by kernel_rfl))
  f46 := ⟨Try.f94.name, by kernel_rfl, Try.func94.trans (congrArg some (by kernel_rfl))⟩
  f47 := Try.func95.trans (congrArg some (by kernel_rfl))
  f48 := Try.func96.trans (congrArg some (by kernel_rfl))
  f49 := ⟨Try.f97.name, by kernel_rfl, Try.func97.trans (congrArg some (by kernel_rfl))⟩
  f50 := ⟨Try.f98.name, by kernel_rfl, Try.func98.trans (congrArg some (by kernel_rfl))⟩
  f57 := ⟨Try.f101.name, by kernel_rfl, Try.func101.trans (congrArg some (by kernel_rfl))⟩
  t0 := Try.underlying0
  a0 := Try.isAgg0
  z0 := Try.sizeOf0
  v0 := Try.zeroValue0
  t3 := Try.underlying3
  a3 := Try.isAgg3
  z3 := Try.sizeOf3
  v3 := Try.zeroValue3
  t4 := Try.underlying4
  a4 := Try.isAgg4
  z4 := Try.sizeOf4
  v4 := Try.zeroValue4
  t5 := Try.underlying5
  a5 := Try.isAgg5
  z5 := Try.sizeOf5
  v5 := Try.zeroValue5
  t9 := Try.underlying9
  a9 := Try.isAgg9
  z9 := Try.sizeOf9
  v9 := Try.zeroValue9
  t22 := Try.underlying37
  a22 := Try.isAgg37
  z22 := Try.sizeOf37
  v22 := Try.zeroValue37
  t25 := Try.underlying74
  a25 := Try.isAgg74
  z25 := Try.sizeOf74
  v25 := Try.zeroValue74
  t39 := Try.underlying99
  a39 := Try.isAgg99
  z39 := Try.sizeOf99
  v39 := Try.zeroValue99
  t45 := Try.underlying104
  a45 := Try.isAgg104
  z45 := Try.sizeOf104
  v45 := Try.zeroValue104
  t46 := Try.underlying105
  a46 := Try.isAgg105
  z46 := Try.sizeOf105
  v46 := Try.zeroValue105
  t50 := Try.underlying86
  a50 := Try.isAgg86
  z50 := Try.sizeOf86
  v50 := Try.zeroValue86
  t53 := Try.underlying111
  a53 := Try.isAgg111
  z53 := Try.sizeOf111
  v53 := Try.zeroValue111
  t55 := Try.underlying113
  a55 := Try.isAgg113
  z55 := Try.sizeOf113
  v55 := Try.zeroValue113
  t66 := Try.underlying123
  a66 := Try.isAgg123
  z66 := Try.sizeOf123
  v66 := Try.zeroValue123
  t70 := Try.underlying127
  a70 := Try.isAgg127
  z70 := Try.sizeOf127
  v70 := Try.zeroValue127
  t76 := Try.underlying131
  a76 := Try.isAgg131
  z76 := Try.sizeOf131
  v76 := Try.zeroValue131
  t77 := Try.underlying100
  a77 := Try.isAgg100
  z77 := Try.sizeOf100
  v77 := Try.zeroValue100 }
end Go.Proofs.Ythpecegifilgoaa

/- slices.SortFunc of terms of the call's own, by their keys. -/
set_option linter.unusedVariables false
namespace Go.Proofs.Ythpecegifilgoaa
open Go Go.RowKit Go.Sort Go.Shelf

/-- Terms of short texts. -/
abbrev Tm' := { t : Tm // t.1.length ≤ 536870912 ∧ t.2.length ≤ 536870912 }
instance : Inhabited Tm' := ⟨⟨([], []), by simp, by simp⟩⟩
def encS (x : Tm') : List Value := [.string ⟨x.1.1.toArray⟩, .string ⟨x.1.2.toArray⟩]
def cfS (x y : Tm') : Int := cmpN (keyT x.1) (keyT y.1)
theorem cmpN_neg {x y : Nm} : cmpN x y < 0 ↔ x < y := by
  unfold cmpN
  by_cases h : x < y
  · simp [h]
  · rw [if_neg h]
    split <;> simp [h]
theorem ltS_iff (x y : Tm') : ltOf cfS x y = decide (keyT x.1 < keyT y.1) := by
  unfold ltOf cfS
  rw [Bool.eq_iff_iff, decide_eq_true_iff, decide_eq_true_iff]
  exact cmpN_neg
theorem swoS : SWO (ltOf cfS) := by
  refine ⟨fun x => ?_, fun x y z h1 h2 => ?_, fun x y z h1 h2 => ?_⟩
  · rw [ltS_iff]; simp
  · rw [ltS_iff, decide_eq_true_iff] at *; exact nm_trans h1 h2
  · rw [ltS_iff, decide_eq_false_iff_not] at *
    intro h3
    rcases nm_tri (keyT x.1) (keyT y.1) with e | e | e
    · exact h1 e
    · rw [e] at h3; exact h2 h3
    · exact h2 (nm_trans e h3)
theorem cmp_lays (blk off size : Nat) (w : World) : CmpLays Try.prog 40 #[] encS 2 cfS blk off size w := by
  intro m os dk hs x y
  obtain ⟨⟨x1, x2⟩, hx1, hx2⟩ := x
  obtain ⟨⟨y1, y2⟩, hy1, hy2⟩ := y
  have sz : ∀ l : Nm, (⟨l.toArray⟩ : ByteArray).size = l.length := fun l => by simp [ByteArray.size]
  have h := invert_cmp ⟨x1.toArray⟩ ⟨x2.toArray⟩ ⟨y1.toArray⟩ ⟨y2.toArray⟩ (sortWorldK encS 2 w blk off m dk os) (by rw [sz]; simp at hx1; omega) (by rw [sz]; simp at hx2; omega) (by rw [sz]; simp at hy1; omega) (by rw [sz]; simp at hy2; omega)
  exact h
theorem flatK_list (ts : List Tm') : (flatK encS 2 ts.toArray).toList = flds (ts.map (·.1)) := by
  apply List.ext_getElem?
  intro j
  have hsz : (flatK encS 2 ts.toArray).toList.length = ts.length * 2 := by rw [Array.length_toList, size_flatK]; simp
  have hf : (flds (ts.map (·.1))).length = ts.length * 2 := by rw [flds_length, List.length_map]
  by_cases hj : j < ts.length * 2
  · have h1 := get_flatK encS 2 ts.toArray j (by simpa using hj)
    have hk : j / 2 < ts.length := by omega
    obtain ⟨g1, g2⟩ := flds_at (l := ts.map (·.1)) (k := j / 2) (by simpa using hk)
    have hgd : ts.toArray[j / 2]! = ts[j / 2] := by rw [getElem!_pos _ _ (by simpa using hk)]; simp
    rw [hgd] at h1
    rw [List.getElem?_eq_getElem (by omega)]
    have h2 : (flatK encS 2 ts.toArray).toList[j]'(by omega) = (flatK encS 2 ts.toArray)[j]! := by
      rw [getElem!_pos _ _ (by rw [size_flatK]; simpa using hj)]; simp
    rw [h2, h1]
    rcases Nat.mod_two_eq_zero_or_one j with e | e
    · have e3 : (flds (ts.map (·.1)))[j]? = (flds (ts.map (·.1)))[j / 2 * 2]? := congrArg (fun k => (flds (ts.map (·.1)))[k]?) (by omega)
      rw [e3, g1, e]
      simp [encS]
    · have e3 : (flds (ts.map (·.1)))[j]? = (flds (ts.map (·.1)))[j / 2 * 2 + 1]? := congrArg (fun k => (flds (ts.map (·.1)))[k]?) (by omega)
      rw [e3, g2, e]
      simp [encS]
  · rw [List.getElem?_eq_none (by omega), List.getElem?_eq_none (by omega)]
theorem heap_rowK {w : World} {g n : Nat} {os : Array Obj} {cur : Array Value} {e : TypeId} {fr : Nat × Nat} (F : Array Value) (hb : w.heap[g]? = some (.cells cur e fr)) :
    (grow (putRow id (Sort.ahead w n) g 0 F) os).heap[g]? = some (.cells (putCells id 0 F cur) e fr) := by
  have hg : g < w.heap.size := (Array.getElem?_eq_some_iff.1 hb).1
  rw [heap_grow_old _ _ (by simpa using hg)]
  simp [putRow, mapBlock, Sort.ahead, Array.getElem?_modify, hb, onCells]
theorem grown_rowK {w : World} {g n : Nat} {os : Array Obj} (F : Array Value) : w.grownBy (grow (putRow id (Sort.ahead w n) g 0 F) os) (some g) := by
  refine ⟨rfl, rfl, rfl, by simp, fun k hk hne => ?_⟩
  rw [heap_grow_old _ _ (by simpa using hk)]
  have : g ≠ k := fun e => hne (by rw [e])
  simp [putRow, mapBlock, Sort.ahead, Array.getElem?_modify, this]
theorem take_rowK (cur F : Array Value) (h : F.size ≤ cur.size) : (putCells id 0 F cur).toList.take F.size = F.toList := by
  apply List.ext_getElem?
  intro j
  by_cases hj : j < F.size
  · rw [List.getElem?_take_of_lt hj, Array.getElem?_toList]
    simp [putCells, hj, show j < cur.size by omega]
  · rw [List.getElem?_take_eq_none (by omega), List.getElem?_eq_none (by simp; omega)]
theorem sort_tm (base : Nat) (v : Value) (ts : List Tm) (w : World) (ho : OwnTm base w v ts) (hb : base ≤ w.heap.size) (hf : ∀ t ∈ ts, t.1.length ≤ 536870912 ∧ t.2.length ≤ 536870912) (hbig : ts.length ≤ 1073741824) :
    Calls Try.prog 53 #[v, .func (.func 40) #[] #[]] w fun e w' => e = .returned (.tuple #[]) ∧ ∃ ts' : List Tm, ts'.Perm ts ∧ (ts'.Pairwise fun s t => ¬ keyT t < keyT s) ∧ OwnTm base w' v ts' ∧ Below base w w' := by
  rcases ho.2 with ⟨rfl, h0⟩ | ⟨g, cap, cur, rfl, hbase, hh, h1, h2, h3, h4⟩
  · obtain rfl : ts = [] := List.eq_nil_of_length_eq_zero h0
    exact (AnyF.slices_SortFunc_none (ρ := laySortTm_ren) laySortTm none 0 _ w).mono fun e w' ⟨he, hw⟩ => ⟨he, [], List.Perm.refl _, List.Pairwise.nil, by rw [hw]; exact OwnTm.nil, by rw [hw]; exact Below.refl _ _⟩
  · obtain ⟨us, hus⟩ : ∃ us : List Tm', us.map (·.1) = ts := ⟨ts.attach.map fun x => ⟨x.1, hf x.1 x.2⟩, by rw [List.map_map]; exact List.attach_map_subtype_val ts⟩
    have hul : us.length = ts.length := by rw [← hus, List.length_map]
    have hH : HoldsK encS 2 w g 0 us.toArray := by
      unfold HoldsK
      intro j hj
      rw [size_flatK] at hj
      have hj' : j < ts.length * 2 := by simpa [hul] using hj
      refine ⟨?_, by simp [World.frozen?, hh]⟩
      have e1 : (flatK encS 2 us.toArray)[j]? = (flds ts)[j]? := by rw [← Array.getElem?_toList, flatK_list, hus]
      have e2 : (flds ts)[j]? = cur[j]? := by
        rw [← h4, List.getElem?_take_of_lt hj', Array.getElem?_toList]
      have e3 : (flatK encS 2 us.toArray)[j]? = some (flatK encS 2 us.toArray)[j]! := by rw [getElem!_pos _ _ (by rw [size_flatK]; exact hj), Array.getElem?_eq_getElem]
      simp only [World.cell?, hh, Nat.zero_add, Option.isSome_none, Bool.false_eq_true, if_false, id]
      rw [← e3, e1, e2]
    have hsort := AnyQ.slices_SortFunc (ρ := laySortTm_ren) laySortTm 2 Try.isAgg43 Try.sizeOf43 encS (fun _ => rfl) (fun x u hu => by simp [encS] at hu; rcases hu with rfl | rfl <;> rfl) cfS swoS 40 #[] g 0 cap us.toArray w (enters_of Try.func40 (by kernel_rfl) rfl) (cmp_lays _ _ _ _) hH (Array.getElem?_eq_some_iff.1 hh).1 (by simp [hul]; omega)
    rw [show us.toArray.size = ts.length by simp [hul]] at hsort
    refine hsort.mono fun e w' ⟨he, d', n, os, hp, hs, hw⟩ => ⟨he, d'.toList.map (·.1), ?_, ?_, ?_, ?_⟩
    · obtain ⟨p1, p2, p3⟩ := hp
      have q1 : d'.size = ts.length := by rw [p1]; simp [hul]
      rw [show d'.extract 0 ts.length = d' by rw [← q1]; simp, show us.toArray.extract 0 ts.length = us.toArray by rw [← hul]; simp] at p3
      rw [← hus]
      exact p3.map _
    · have q1 : d'.size = ts.length := by rw [hp.1]; simp [hul]
      rw [List.pairwise_map, List.pairwise_iff_getElem]
      intro i j hi hj hij
      have := hs i j (Nat.zero_le _) hij (by rw [← q1]; simpa using hj)
      rw [ltS_iff, decide_eq_false_iff_not, getElem!_pos d' j (by simpa using hj), getElem!_pos d' i (by simpa using hi)] at this
      simpa using this
    · have q1 : d'.size = ts.length := by rw [hp.1]; simp [hul]
      have q2 : (flatK encS 2 d').toList = flds (d'.toList.map (·.1)) := by have := flatK_list d'.toList; simpa using this
      have q3 : (flatK encS 2 d').size = ts.length * 2 := by rw [size_flatK, q1]
      rw [hw]
      have hlen : (d'.toList.map (·.1)).length = ts.length := by simp [q1]
      refine ⟨by rw [flds_length], .inr ⟨g, cap, putCells id 0 (flatK encS 2 d') cur, by rw [hlen], hbase, heap_rowK _ hh, by rw [hlen]; exact h1, h2, by simp [putCells, h3], ?_⟩⟩
      rw [hlen, ← q3, take_rowK _ _ (by rw [q3, h3]; exact Nat.mul_le_mul_right _ h1), q2]
    · rw [hw]
      exact (Below.refl base w).grown (grown_rowK _) hb (fun j hj => by cases hj; exact hbase)
end Go.Proofs.Ythpecegifilgoaa

/- What slices.Collect and slices.SortedFunc answer of the keys of a map. -/
set_option linter.unusedVariables false
namespace Go.Proofs.Ythpecegifilgoaa
open Go Go.RowKit

set_option maxHeartbeats 1000000 in
theorem keys_collect (Bx B : Nat) (m : List Ent) (w : World) (hm : MapAt w B m) (hc : w.cell? ⟨Bx, 0, none⟩ = some (.map (some B))) (hl : m.length ≤ 134217727) :
    Calls Try.prog 52 #[.func (.func 54) #[] #[.pointer (some ⟨Bx, 0, none⟩)]] w (GotKeys (m.map (·.1)) w) := by
  have HA := Lib.hid (keys_append Bx B m w hm hc hl)
  clear hm hc
  go_enter Try.func52, Try.ntmps52
  go_wp2_with (go_at_call 66; (with_reducible refine HA.out.mono ?_); rintro e w' ⟨v, ts, rfl, hp, ho, hb⟩)
  go_ret
  exact ⟨v, ts, rfl, hp, ho, hb⟩

/-- What comes of sorting: each key once, rising by its key. -/
def GotSorted (ks : List Tm) (w : World) (e : Ending) (w' : World) : Prop := ∃ v ts, e = .returned v ∧ ts.Perm ks ∧ (ts.Pairwise fun s t => ¬ keyT t < keyT s) ∧ OwnTm w.heap.size w' v ts ∧ Below w.heap.size w w'
set_option maxHeartbeats 2000000 in
theorem keys_sorted (Bx B : Nat) (m : List Ent) (w : World) (hm : MapAt w B m) (hc : w.cell? ⟨Bx, 0, none⟩ = some (.map (some B))) (hl : m.length ≤ 134217727) (hf : ∀ t ∈ m.map (·.1), t.1.length ≤ 536870912 ∧ t.2.length ≤ 536870912) :
    Calls Try.prog 38 #[.func (.func 54) #[] #[.pointer (some ⟨Bx, 0, none⟩)], .func (.func 40) #[] #[]] w (GotSorted (m.map (·.1)) w) := by
  have HA := Lib.hid (keys_collect Bx B m w hm hc hl)
  have HF := Lib.hid hf
  have hks : (m.map (·.1)).length ≤ 134217727 := by simpa using hl
  obtain ⟨ks, hk⟩ : ∃ ks, ks = m.map (·.1) := ⟨_, rfl⟩
  rw [← hk] at hks HA HF ⊢
  clear hm hc hf hk
  go_enter Try.func38, Try.ntmps38
  go_wp2_with (first
    | (go_at_call 52; (with_reducible refine HA.out.mono ?_); rintro e w1 ⟨v, ts, rfl, hp, ho, hb⟩
       have hlt : ts.length ≤ 134217727 := by rw [hp.length_eq]; exact hks
       have HS := Lib.hid (sort_tm w.heap.size v ts w1 ho hb.size (fun t ht => HF.out t (hp.mem_iff.1 ht)) (by omega))
       have HP := Lib.hid hp
       have HB := Lib.hid hb
       clear hp ho hb)
    | (go_at_call 53; (with_reducible refine HS.out.mono ?_); rintro e w2 ⟨rfl, ts2, hp2, hs2, ho2, hb2⟩))
  go_ret
  exact ⟨v, ts2, rfl, hp2.trans HP.out, hs2, ho2, HB.out.trans hb2⟩
end Go.Proofs.Ythpecegifilgoaa
