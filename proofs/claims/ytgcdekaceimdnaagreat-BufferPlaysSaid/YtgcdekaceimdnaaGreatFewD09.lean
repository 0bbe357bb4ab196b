/- What the statements' own 'few' of layer 8 answers: the first ten fields, of each the first 20 bytes of its name, the first 60 of its text. -/
import Derived.Test.YtgcdekaceimdnaaGreatGood08
import Derived.Deep.RegionHeld3
import Derived.Deep.AppendLies
namespace Go.Proofs.YtgcdekaceimdnaaGreat
open Go Go.RowKit
set_option linter.unusedVariables false

def fewF (f : Fd) : Fd := (f.1.take 20, f.2.take 60)
def fewD (l : List Fd) : List Fd := (l.take 10).map fewF
theorem fewD_snoc {l : List Fd} {k : Nat} (hk : k < l.length) : (l.take (k + 1)).map fewF = (l.take k).map fewF ++ [fewF l[k]] := by
  rw [List.take_succ_eq_append_getElem hk, List.map_append]
  rfl
theorem fewD_length (l : List Fd) : (fewD l).length ≤ 10 := by simp [fewD]; omega
theorem fewD_bd (l : List Fd) : ∀ f ∈ fewD l, f.1.length ≤ 20 ∧ f.2.length ≤ 60 := fun f hf => by
  obtain ⟨g, _, rfl⟩ := List.mem_map.1 hf
  simp only [fewF, List.length_take]
  omega
theorem ext_few (x : ByteArray) (b m : Nat) (hm : m = min x.size b) : x.extract 0 m = ⟨(x.data.toList.take b).toArray⟩ := by
  have e2 : x.data.toList.length = x.size := Array.length_toList
  have e : (x.extract 0 m).data = x.data.extract 0 m := ByteArray.data_extract
  apply ByteArray.ext
  apply Array.ext'
  rw [e, Array.toList_extract, List.extract_eq_take_drop, List.drop_zero, Nat.sub_zero]
  show List.take _ _ = List.take b _
  by_cases h : x.size ≤ b
  · rw [List.take_of_length_le (by omega), List.take_of_length_le (by omega)]
  · rw [show m = b by omega]

/-- The blocks of a call of few: the document, what is handed back, what it has gathered. -/
def FewW (w : World) (id : Int) (A : Option Addr) (n c : Nat) (v : Value) (wr : World) : Prop :=
  Below w.heap.size w wr ∧ w.heap.size + 3 ≤ wr.heap.size ∧ wr.heap[w.heap.size]? = some (.cells #[.int .i64 id, .slice A n c] 30 (0, 0)) ∧ wr.heap[w.heap.size + 1]? = some (.cells #[.int .i64 0, .slice none 0 0] 30 (0, 0)) ∧
    wr.heap[w.heap.size + 1 + 1]? = some (.cells #[.int .i64 id, v] 30 (0, 0))
theorem FewW.below {w wr w' : World} {id : Int} {A : Option Addr} {n c : Nat} {v : Value} (h : FewW w id A n c v wr) (hb : Below wr.heap.size wr w') : FewW w id A n c v w' := by
  obtain ⟨h0, h1, h2, h3, h4⟩ := h
  exact ⟨h0.trans (hb.mono (by omega)), by have := hb.size; omega, (hb.block _ (by omega)).trans h2, (hb.block _ (by omega)).trans h3, (hb.block _ (by omega)).trans h4⟩
theorem FewW.low {w wr w' : World} {id : Int} {A : Option Addr} {n c : Nat} {v : Value} (h : FewW w id A n c v wr) (hb : Below (w.heap.size + 3) wr w') : FewW w id A n c v w' := by
  obtain ⟨h0, h1, h2, h3, h4⟩ := h
  exact ⟨h0.trans (hb.mono (by omega)), by have := hb.size; omega, (hb.block _ (by omega)).trans h2, (hb.block _ (by omega)).trans h3, (hb.block _ (by omega)).trans h4⟩
theorem FewW.cells {w wr : World} {id : Int} {A : Option Addr} {n c : Nat} {v : Value} (h : FewW w id A n c v wr) :
    wr.cell? ⟨w.heap.size, 0, none⟩ = some (.int .i64 id) ∧ wr.cell? ⟨w.heap.size, 1, none⟩ = some (.slice A n c) ∧ wr.cell? ⟨w.heap.size + 1 + 1, 0, none⟩ = some (.int .i64 id) ∧ wr.cell? ⟨w.heap.size + 1 + 1, 1, none⟩ = some v := by
  obtain ⟨_, _, h2, _, h4⟩ := h
  exact ⟨by simp [World.cell?, h2], by simp [World.cell?, h2], by simp [World.cell?, h4], by simp [World.cell?, h4]⟩
theorem fewW_start (w : World) (id : Int) (A : Option Addr) (n c : Nat) : FewW w id A n c (.slice none 0 0) (((w.alloc (.cells #[.int .i64 id, .slice A n c] 30)).alloc (.cells #[.int .i64 0, .slice none 0 0] 30)).alloc (.cells #[.int .i64 id, .slice none 0 0] 30)) := by
  refine ⟨(((Below.refl _ w).alloc (Nat.le_refl _) _).alloc (by simp) _).alloc (by simp; try omega) _, by simp, ?_, ?_, ?_⟩
  · rw [Below.heap_alloc _ _ _ (by simp; try omega), Below.heap_alloc _ _ _ (by simp)]
    exact heap_alloc_new w _
  · rw [Below.heap_alloc _ _ _ (by simp)]
    simpa using heap_alloc_new (w.alloc (.cells #[.int .i64 id, .slice A n c] 30)) (.cells #[.int .i64 0, .slice none 0 0] 30)
  · simpa using heap_alloc_new ((w.alloc (.cells #[.int .i64 id, .slice A n c] 30)).alloc (.cells #[.int .i64 0, .slice none 0 0] 30)) (.cells #[.int .i64 id, .slice none 0 0] 30)
theorem FewW.put {w wr : World} {id : Int} {A : Option Addr} {n c : Nat} {v : Value} (h : FewW w id A n c v wr) (v' : Value) : FewW w id A n c v' (wr.setCell ⟨w.heap.size + 1 + 1, 1, none⟩ v') := by
  obtain ⟨h0, h1, h2, h3, h4⟩ := h
  refine ⟨h0.setCell (by simp; omega) _, by simpa using h1, ?_, ?_, ?_⟩
  · rw [set_ne (by omega)]; exact h2
  · rw [set_ne (by omega)]; exact h3
  · rw [set_at h4]; rfl

def FewRel09 (l : List Fd) (w : World) (id : Int) (A : Option Addr) (n c : Nat) (i : Value) (wr : World) : Prop :=
  ∃ (k : Nat) (v : Value), k ≤ n ∧ k ≤ 10 ∧ i = .int .i64 (k : Int) ∧ FewW w id A n c v wr ∧ OwnFd (w.heap.size + 3) wr v ((l.take k).map fewF)

set_option maxHeartbeats 4000000 in
set_option maxRecDepth 100000 in
theorem law09_few (id : Int) (A : Option Addr) (n c : Nat) (l : List Fd) (w : World) (hl : l.length = n) (hr : FRow w w.heap.size A l) (hn : n ≤ 9223372036854775807) (ht : ∀ f ∈ l, f.1.length ≤ 9223372036854775807 ∧ f.2.length ≤ 9223372036854775807) :
    Calls Tryz.prog 10 #[docV id A n c] w fun e w' => ∃ v, e = .returned (.agg #[.int .i64 id, v]) ∧ OwnFd w.heap.size w' v (fewD l) ∧ Below w.heap.size w w' := by
  obtain ⟨i0, hi0, hz0, hz1, hz2⟩ := info_parts info_field
  have HR := Lib.hid hr
  have HT := Lib.hid ht
  have HL := Lib.hid hl
  clear hr ht hl
  go_enter Tryz.func10, Tryz.ntmps10
  go_wp2
  obtain ⟨w1, hw1⟩ : ∃ w1, w1 = (((w.alloc (.cells #[.int .i64 id, .slice A n c] 30)).alloc (.cells #[.int .i64 0, .slice none 0 0] 30)).alloc (.cells #[.int .i64 id, .slice none 0 0] 30)) := ⟨_, rfl⟩
  have HG : Hid (FewW w id A n c (.slice none 0 0) w1) := Lib.hid (by rw [hw1]; exact fewW_start w id A n c)
  rw [← hw1]
  clear hw1
  go_loopw [4, 5] (fun i a wr => FewRel09 l w id A n c i wr) (fun i _ _ => n - (intOf i).toNat)
  case atStart => exact ⟨0, _, by omega, by omega, rfl, HG.out, OwnFd.nil⟩
  case round =>
    obtain ⟨k, v, hk, hk10, rfl, hgw, hown⟩ := hrel
    obtain ⟨q0, q1, q2, q3⟩ := hgw.cells
    have hs3 := hgw.2.1
    by_cases hlt : k < n ∧ k < 10
    · obtain ⟨hkn, hk5⟩ := hlt
      have hkl : k < l.length := by rw [HL.out]; exact hkn
      obtain ⟨b1, o1, e1, hb1, hc1, hc2⟩ := (HR.out.below hgw.1).at_ hkl
      subst e1
      have ht8 := HT.out _ (List.getElem_mem hkl)
      have hsn := fewD_snoc hkl
      obtain ⟨f, hf⟩ : ∃ f, f = l[k] := ⟨_, rfl⟩
      rw [← hf] at hc1 hc2 ht8 hsn
      obtain ⟨x, hx, hx2⟩ := as_text f.1
      obtain ⟨y, hy, hy2⟩ := as_text f.2
      rw [← hx] at hc1
      rw [← hy] at hc2
      have hxs : x.size = f.1.length := by rw [hx]; exact size_nm _
      have hys : y.size = f.2.length := by rw [hy]; exact size_nm _
      have i0' : (0 : Int) ≤ k := by omega
      have i1 : (k : Int) < n := by omega
      have i2 : (k : Int) < 10 := by omega
      obtain ⟨mx, hmx⟩ : ∃ mx : Nat, mx = min x.size 20 := ⟨_, rfl⟩
      obtain ⟨my, hmy⟩ : ∃ my : Nat, my = min y.size 60 := ⟨_, rfl⟩
      have hnx : ∀ (w : World) (ts : Array TypeId) (ty : TypeId), (Builtin.min_ ts ty #[.int .i64 x.size, .int .i64 20]).run Tryz.prog w = .ok (.int .i64 (mx : Int)) w := fun w ts ty => by rw [run_min_int2, hmx]; congr 2; split <;> omega
      have hny : ∀ (w : World) (ts : Array TypeId) (ty : TypeId), (Builtin.min_ ts ty #[.int .i64 y.size, .int .i64 60]).run Tryz.prog w = .ok (.int .i64 (my : Int)) w := fun w ts ty => by rw [run_min_int2, hmy]; congr 2; split <;> omega
      obtain ⟨g, hg⟩ : ∃ g, g = fewF f := ⟨_, rfl⟩
      rw [← hg] at hsn
      obtain ⟨X, hX⟩ : ∃ X : ByteArray, X = ⟨g.1.toArray⟩ := ⟨_, rfl⟩
      obtain ⟨Y, hY⟩ : ∃ Y : ByteArray, Y = ⟨g.2.toArray⟩ := ⟨_, rfl⟩
      have hex : x.extract 0 mx = X := by rw [hX, hg, ext_few x 20 mx hmx, hx2]; rfl
      have hey : y.extract 0 my = Y := by rw [hY, hg, ext_few y 60 my hmy, hy2]; rfl
      have hmx1 : mx ≤ x.size := by omega
      have hmy1 : my ≤ y.size := by omega
      have hxb : x.size ≤ 9223372036854775807 := by omega
      have hyb : y.size ≤ 9223372036854775807 := by omega
      rw [OwnFd, show ((l.take k).map fewF).length = k by rw [List.length_map, List.length_take]; omega] at hown
      obtain ⟨cs, hcs⟩ : ∃ cs, cs = flds ((l.take k).map fewF) := ⟨_, rfl⟩
      rw [← hcs] at hown
      obtain ⟨w2, hw2⟩ : ∃ w2, w2 = wr.alloc (.cells #[.string x, .string y] 59) := ⟨_, rfl⟩
      have hb2 : Below wr.heap.size wr w2 := by rw [hw2]; exact (Below.refl _ _).alloc (Nat.le_refl _) _
      have hF : w2.heap[wr.heap.size]? = some (.cells #[.string x, .string y] 59 (0, 0)) := by rw [hw2]; exact heap_alloc_new _ _
      have hG2 : FewW w id (some ⟨b1, o1, none⟩) n c v w2 := hgw.below hb2
      have ho2 : w2.ownsRow (w.heap.size + 3) 59 2 v k cs := owned_below hown hb2
      have hvl : ∀ j, v.ownBlock = some j → w.heap.size + 3 ≤ j ∧ j < wr.heap.size := hown.lt
      have HS : Hid (∀ w', Below w2.heap.size w2 w' → w'.cell? ⟨wr.heap.size, 0, none⟩ = some (.string x) ∧ w'.cell? ⟨wr.heap.size, 1, none⟩ = some (.string y)) := Lib.hid fun w' h => by
        have := (h.block _ (lt_of_block hF)).trans hF
        exact ⟨(two_cells this).1, (two_cells this).2.1⟩
      have hsz2 : w2.heap.size = wr.heap.size + 1 := by rw [hw2]; simp
      have hge2 : w.heap.size + 3 ≤ w2.heap.size := by omega
      have HSZ2 := Lib.hid hsz2
      have t3 : w2.cell? ⟨w.heap.size + 1 + 1, 1, none⟩ = some v := hG2.cells.2.2.2
      have t4 : ∀ o, (w2.alloc o).cell? ⟨w.heap.size + 1 + 1, 1, none⟩ = some v := fun o => (((Below.refl _ w2).alloc (Nat.le_refl _) o).cell (p := ⟨w.heap.size + 1 + 1, 1, none⟩) (show w.heap.size + 1 + 1 < w2.heap.size by omega)).trans t3
      have t5 : ∀ o, (w2.drew.alloc o).cell? ⟨w.heap.size + 1 + 1, 1, none⟩ = some v := fun o => (((Below.refl _ w2).drew.alloc (Nat.le_refl _) o).cell (p := ⟨w.heap.size + 1 + 1, 1, none⟩) (show w.heap.size + 1 + 1 < w2.heap.size by omega)).trans t3
      have HC1 := Lib.hid ho2
      have HSN := Lib.hid hsn
      have HCS := Lib.hid hcs
      have HXY := Lib.hid (And.intro hX hY)
      have HW2 := Lib.hid hw2
      have HG2 := Lib.hid hG2
      have HF := Lib.hid hF
      have HVL := Lib.hid hvl
      clear hown hsn hx hx2 hy hy2 hxs hys hmx hmy hcs hf hg hX hY hw2 hb2 hF hG2 ho2 hvl ht8 hgw hsz2
      go_upto_region 6 with fail
      rw [show wr.alloc _ = w2 from HW2.out.symm]
      have HAPP : Hid (∀ gg cap w5, w5.ownsRow (w.heap.size + 3) 59 2 (.slice (some ⟨gg, 0, none⟩) (k + 1) cap) (k + 1) (cs ++ [.string X, .string Y]) → ((w2.drew).alloc (.cells #[.string X, .string Y] 59)).grownBy w5 v.ownBlock →
          (w5.cell? ⟨w.heap.size + 1 + 1, 1, none⟩ = some v ∧ w5.frozen? ⟨w.heap.size + 1 + 1, 1, none⟩ = false) ∧ True ∧ (w5.cell? ⟨wr.heap.size, 0, none⟩ = some (.string x) ∧ w5.cell? ⟨wr.heap.size, 1, none⟩ = some (.string y)) ∧
          ((w5.setCell ⟨w.heap.size + 1 + 1, 1, none⟩ (.slice (some ⟨gg, 0, none⟩) (k + 1) cap)).cell? ⟨wr.heap.size, 0, none⟩ = some (.string x) ∧ (w5.setCell ⟨w.heap.size + 1 + 1, 1, none⟩ (.slice (some ⟨gg, 0, none⟩) (k + 1) cap)).cell? ⟨wr.heap.size, 1, none⟩ = some (.string y)) ∧
          FewRel09 l w id (some ⟨b1, o1, none⟩) n c (.int .i64 ((k : Int) + 1)) (w5.setCell ⟨w.heap.size + 1 + 1, 1, none⟩ (.slice (some ⟨gg, 0, none⟩) (k + 1) cap))) := Lib.hid fun gg cap w5 hown5 hg5 => by
        have hsz2 := HSZ2.out
        have hal : Below w2.heap.size w2 ((w2.drew).alloc (.cells #[.string X, .string Y] 59)) := (Below.refl _ w2).drew.alloc (Nat.le_refl _) _
        have hb5 : Below (w.heap.size + 3) w2 w5 := (hal.mono (by omega)).grown hg5 (by simp; omega) fun k hk => (HVL.out k hk).1
        have hF5 : w5.heap[wr.heap.size]? = some (.cells #[.string x, .string y] 59 (0, 0)) := (hg5.block _ (by simp; omega) (fun e => by have := (HVL.out _ e.symm).2; omega)).trans ((hal.block _ (by omega)).trans HF.out)
        have hG5 := HG2.out.low hb5
        have hF6 : (w5.setCell ⟨w.heap.size + 1 + 1, 1, none⟩ (.slice (some ⟨gg, 0, none⟩) (k + 1) cap)).heap[wr.heap.size]? = some (.cells #[.string x, .string y] 59 (0, 0)) := (set_ne (by omega)).trans hF5
        have hO : OwnFd (w.heap.size + 3) (w5.setCell ⟨w.heap.size + 1 + 1, 1, none⟩ (.slice (some ⟨gg, 0, none⟩) (k + 1) cap)) (.slice (some ⟨gg, 0, none⟩) (k + 1) cap) ((l.take (k + 1)).map fewF) := by
          rw [HSN.out]
          unfold OwnFd
          rw [List.length_append, show ((l.take k).map fewF).length = k by rw [List.length_map, List.length_take]; have := HL.out; omega, flds_append, ← HCS.out]
          have := ownsRow_setCell_below hown5 (a := ⟨w.heap.size + 1 + 1, 1, none⟩) (by simp) (.slice (some ⟨gg, 0, none⟩) (k + 1) cap)
          rw [HXY.out.1, HXY.out.2] at this
          exact this
        exact ⟨⟨(two_cells hG5.2.2.2.2).2.1, (two_cells hG5.2.2.2.2).2.2.2⟩, trivial, ⟨(two_cells hF5).1, (two_cells hF5).2.1⟩, ⟨(two_cells hF6).1, (two_cells hF6).2.1⟩, ⟨k + 1, _, by omega, by omega, by simp, hG5.put _, hO⟩⟩
--R6
      refine wp_region_held_drew (S := (fun w' => w'.cell? ⟨wr.heap.size, 0, none⟩ = some (.string x) ∧ w'.cell? ⟨wr.heap.size, 1, none⟩ = some (.string y))) (by kernel_rfl) (HS.out _ (Below.refl _ w2).drew) (fun hHeld0 => ?_)
      refine wpAnyH_take (i := 0) (v := .pointer (some ⟨w.heap.size + 1 + 1, 1, none⟩)) rfl (by kernel_rfl) (by kernel_rfl) (by kernel_rfl) (fun _ _ _ h => h) (Or.inl ⟨by rfl, fun wx hSw => by obtain ⟨s1, s2⟩ := hSw; go_simp⟩) (by assumption) ?_
      try simp only [Act.put, List.getElem_toArray, List.getElem_cons_zero, List.setIfInBounds_toArray, List.set_cons_zero, List.set_cons_succ]
      refine wpAnyH_take (i := 2) (v := .pointer (some ⟨wr.heap.size, 0, none⟩)) rfl (by kernel_rfl) (by kernel_rfl) (by kernel_rfl) (fun _ _ _ h => h) (Or.inl ⟨by rfl, fun wx hSw => by obtain ⟨s1, s2⟩ := hSw; go_simp⟩) (by assumption) ?_
      try simp only [Act.put, List.getElem_toArray, List.getElem_cons_zero, List.getElem_cons_succ, List.setIfInBounds_toArray, List.set_cons_zero, List.set_cons_succ]
      refine wpAnyH_take (i := 3) (v := .string x) rfl (by kernel_rfl) (by kernel_rfl) (by kernel_rfl) (fun _ _ _ h => h) (Or.inl ⟨by rfl, fun wx hSw => by obtain ⟨s1, s2⟩ := hSw; go_simp⟩) (by assumption) ?_
      try simp only [Act.put, List.getElem_toArray, List.getElem_cons_zero, List.getElem_cons_succ, List.setIfInBounds_toArray, List.set_cons_zero, List.set_cons_succ]
      refine wpAnyH_take (i := 4) (v := .pointer (some ⟨wr.heap.size, 0, none⟩)) rfl (by kernel_rfl) (by kernel_rfl) (by kernel_rfl) (fun _ _ _ h => h) (Or.inl ⟨by rfl, fun wx hSw => by obtain ⟨s1, s2⟩ := hSw; go_simp⟩) (by assumption) ?_
      try simp only [Act.put, List.getElem_toArray, List.getElem_cons_zero, List.getElem_cons_succ, List.setIfInBounds_toArray, List.set_cons_zero, List.set_cons_succ]
      refine wpAnyH_take (i := 5) (v := .string x) rfl (by kernel_rfl) (by kernel_rfl) (by kernel_rfl) (fun _ _ _ h => h) (Or.inl ⟨by rfl, fun wx hSw => by obtain ⟨s1, s2⟩ := hSw; go_simp⟩) (by assumption) ?_
      try simp only [Act.put, List.getElem_toArray, List.getElem_cons_zero, List.getElem_cons_succ, List.setIfInBounds_toArray, List.set_cons_zero, List.set_cons_succ]
      refine wpAnyH_take (i := 6) (v := .int .i64 (x.size : Int)) rfl (by kernel_rfl) (by kernel_rfl) (by kernel_rfl) (fun _ _ _ h => h) (Or.inl ⟨by rfl, fun wx hSw => by obtain ⟨s1, s2⟩ := hSw; go_simp⟩) (by assumption) ?_
      try simp only [Act.put, List.getElem_toArray, List.getElem_cons_zero, List.getElem_cons_succ, List.setIfInBounds_toArray, List.set_cons_zero, List.set_cons_succ]
      refine wpAnyH_take (i := 7) (v := .int .i64 (mx : Int)) rfl (by kernel_rfl) (by kernel_rfl) (by kernel_rfl) (fun _ _ _ h => h) (Or.inl ⟨by rfl, fun wx hSw => by obtain ⟨s1, s2⟩ := hSw; go_simp⟩) (by assumption) ?_
      try simp only [Act.put, List.getElem_toArray, List.getElem_cons_zero, List.getElem_cons_succ, List.setIfInBounds_toArray, List.set_cons_zero, List.set_cons_succ]
      refine wpAnyH_take (i := 8) (v := .string X) rfl (by kernel_rfl) (by kernel_rfl) (by kernel_rfl) (fun _ _ _ h => h) (Or.inl ⟨by rfl, fun wx hSw => by obtain ⟨s1, s2⟩ := hSw; go_simp⟩) (by assumption) ?_
      try simp only [Act.put, List.getElem_toArray, List.getElem_cons_zero, List.getElem_cons_succ, List.setIfInBounds_toArray, List.set_cons_zero, List.set_cons_succ]
      refine wpAnyH_take (i := 9) (v := .pointer (some ⟨wr.heap.size, 1, none⟩)) rfl (by kernel_rfl) (by kernel_rfl) (by kernel_rfl) (fun _ _ _ h => h) (Or.inl ⟨by rfl, fun wx hSw => by obtain ⟨s1, s2⟩ := hSw; go_simp⟩) (by assumption) ?_
      try simp only [Act.put, List.getElem_toArray, List.getElem_cons_zero, List.getElem_cons_succ, List.setIfInBounds_toArray, List.set_cons_zero, List.set_cons_succ]
      refine wpAnyH_take (i := 10) (v := .string y) rfl (by kernel_rfl) (by kernel_rfl) (by kernel_rfl) (fun _ _ _ h => h) (Or.inl ⟨by rfl, fun wx hSw => by obtain ⟨s1, s2⟩ := hSw; go_simp⟩) (by assumption) ?_
      try simp only [Act.put, List.getElem_toArray, List.getElem_cons_zero, List.getElem_cons_succ, List.setIfInBounds_toArray, List.set_cons_zero, List.set_cons_succ]
      refine wpAnyH_take (i := 11) (v := .pointer (some ⟨wr.heap.size, 1, none⟩)) rfl (by kernel_rfl) (by kernel_rfl) (by kernel_rfl) (fun _ _ _ h => h) (Or.inl ⟨by rfl, fun wx hSw => by obtain ⟨s1, s2⟩ := hSw; go_simp⟩) (by assumption) ?_
      try simp only [Act.put, List.getElem_toArray, List.getElem_cons_zero, List.getElem_cons_succ, List.setIfInBounds_toArray, List.set_cons_zero, List.set_cons_succ]
      refine wpAnyH_take (i := 12) (v := .string y) rfl (by kernel_rfl) (by kernel_rfl) (by kernel_rfl) (fun _ _ _ h => h) (Or.inl ⟨by rfl, fun wx hSw => by obtain ⟨s1, s2⟩ := hSw; go_simp⟩) (by assumption) ?_
      try simp only [Act.put, List.getElem_toArray, List.getElem_cons_zero, List.getElem_cons_succ, List.setIfInBounds_toArray, List.set_cons_zero, List.set_cons_succ]
      refine wpAnyH_take (i := 13) (v := .int .i64 (y.size : Int)) rfl (by kernel_rfl) (by kernel_rfl) (by kernel_rfl) (fun _ _ _ h => h) (Or.inl ⟨by rfl, fun wx hSw => by obtain ⟨s1, s2⟩ := hSw; go_simp⟩) (by assumption) ?_
      try simp only [Act.put, List.getElem_toArray, List.getElem_cons_zero, List.getElem_cons_succ, List.setIfInBounds_toArray, List.set_cons_zero, List.set_cons_succ]
      refine wpAnyH_take (i := 14) (v := .int .i64 (my : Int)) rfl (by kernel_rfl) (by kernel_rfl) (by kernel_rfl) (fun _ _ _ h => h) (Or.inl ⟨by rfl, fun wx hSw => by obtain ⟨s1, s2⟩ := hSw; go_simp⟩) (by assumption) ?_
      try simp only [Act.put, List.getElem_toArray, List.getElem_cons_zero, List.getElem_cons_succ, List.setIfInBounds_toArray, List.set_cons_zero, List.set_cons_succ]
      refine wpAnyH_take (i := 15) (v := .string Y) rfl (by kernel_rfl) (by kernel_rfl) (by kernel_rfl) (fun _ _ _ h => h) (Or.inl ⟨by rfl, fun wx hSw => by obtain ⟨s1, s2⟩ := hSw; go_simp⟩) (by assumption) ?_
      try simp only [Act.put, List.getElem_toArray, List.getElem_cons_zero, List.getElem_cons_succ, List.setIfInBounds_toArray, List.set_cons_zero, List.set_cons_succ]
      refine wpAnyH_take (i := 16) (v := .agg #[.string X, .string Y]) rfl (by kernel_rfl) (by kernel_rfl) (by kernel_rfl) (fun _ _ _ h => h) (Or.inl ⟨by rfl, fun wx hSw => by obtain ⟨s1, s2⟩ := hSw; go_simp⟩) (by assumption) ?_
      try simp only [Act.put, List.getElem_toArray, List.getElem_cons_zero, List.getElem_cons_succ, List.setIfInBounds_toArray, List.set_cons_zero, List.set_cons_succ]
      refine wpAnyH_ready (rs := [1, 17]) (by kernel_rfl) (by simp) ?_
      refine AllReadyH.cons rfl (fun K hK => ?_) (AllReadyH.cons rfl (fun K hK => ?_) AllReadyH.nil)
      · try simp only [List.getElem_toArray, List.getElem_cons_zero, List.getElem_cons_succ]
        go_simp
        refine hK.out _ _ ?_ (fun hHeld1 => ?_)
        · exact HS.out _ (Below.refl _ w2).drew
        clear hK K
        try simp only [Act.put, List.getElem_toArray, List.getElem_cons_zero, List.getElem_cons_succ, List.setIfInBounds_toArray, List.set_cons_zero, List.set_cons_succ]
        refine wpAnyH_ready (rs := [17]) (by kernel_rfl) (by simp) ?_
        refine AllReadyH.cons rfl (fun K hK => ?_) AllReadyH.nil
        try simp only [List.getElem_toArray, List.getElem_cons_zero, List.getElem_cons_succ]
        go_simp
        refine hK.out _ _ ?_ (fun hHeld2 => ?_)
        · exact HS.out _ ((Below.refl _ w2).drew.alloc (Nat.le_refl _) _)
        clear hK K
        try simp only [Act.put, List.getElem_toArray, List.getElem_cons_zero, List.getElem_cons_succ, List.setIfInBounds_toArray, List.set_cons_zero, List.set_cons_succ]
        refine wpAnyH_ready (rs := [18]) (by kernel_rfl) (by simp) ?_
        refine AllReadyH.cons rfl (fun K hK => ?_) AllReadyH.nil
        try simp only [List.getElem_toArray, List.getElem_cons_zero, List.getElem_cons_succ]
        refine step_append_lies (a := ⟨_, _⟩) _ ?_ (.tmp 26) (.tmp 42) 28 ?_ (w.heap.size + 3) 59 i0 _ 2 32 Tryz.underlying28 hi0 hz0 hz1 hz2 rfl (by omega) v k cs ?_ ((HC1.out.alloc _).drew)
          ⟨w2.heap.size, 0, none⟩ 1 1 [.string X, .string Y] ?_ (by rfl) (World.news_of_block (cs := #[.string X, .string Y]) (t := 59) (fr := (0, 0)) (heap_alloc_new w2.drew _)) (by intro u hu; simp at hu; rcases hu with hu | hu <;> (subst hu; rfl))
          (by omega) (by unfold maxLen; omega) (by omega) (by simp; omega) (w2.heap.size + 1) (by simp) ?_
        · rfl
        · rfl
        · rfl
        · rfl
        intro gg cap w5 hown5 hg5 hat hlt5
        obtain ⟨g1, g2, g3, g4, g5⟩ := HAPP.out gg cap w5 hown5 hg5
        have s3 := g1.1
        have s4 := g1.2
        clear hown5 hg5 hat g1
        refine hK.out _ _ ?_ (fun hHeld3 => ?_)
        · exact g3
        clear hK K
        try simp only [Act.put, List.setIfInBounds_toArray, List.set_cons_zero, List.set_cons_succ]
        refine wpAnyH_take (i := 19) (v := .pointer (some ⟨w.heap.size + 1 + 1, 1, none⟩)) rfl (by kernel_rfl) (by kernel_rfl) (by kernel_rfl) (fun _ _ _ h => h) (Or.inl ⟨by rfl, fun wx hSw => by obtain ⟨s1, s2⟩ := hSw; go_simp⟩) (by assumption) ?_
        try simp only [Act.put, List.getElem_toArray, List.getElem_cons_zero, List.getElem_cons_succ, List.setIfInBounds_toArray, List.set_cons_zero, List.set_cons_succ]
        refine wpAnyH_ready (rs := [20]) (by kernel_rfl) (by simp) ?_
        refine AllReadyH.cons rfl (fun K hK => ?_) AllReadyH.nil
        try simp only [List.getElem_toArray, List.getElem_cons_zero, List.getElem_cons_succ]
        go_simp
        refine hK.out _ _ ?_ (fun hHeld4 => ?_)
        · exact g4
        clear hK K
        try simp only [Act.put, List.getElem_toArray, List.getElem_cons_zero, List.getElem_cons_succ, List.setIfInBounds_toArray, List.set_cons_zero, List.set_cons_succ]
        refine wpAnyH_done (by kernel_rfl) ?_ _
        have HFIN := Lib.hid g5
        clear g2 g3 g4 g5 s3 s4
        go_wp2
        exact ⟨HFIN.out, by simp [intOf]; omega⟩
      · try simp only [List.getElem_toArray, List.getElem_cons_zero, List.getElem_cons_succ]
        go_simp
        refine hK.out _ _ ?_ (fun hHeld1 => ?_)
        · exact HS.out _ ((Below.refl _ w2).drew.alloc (Nat.le_refl _) _)
        clear hK K
        try simp only [Act.put, List.getElem_toArray, List.getElem_cons_zero, List.getElem_cons_succ, List.setIfInBounds_toArray, List.set_cons_zero, List.set_cons_succ]
        refine wpAnyH_ready (rs := [1]) (by kernel_rfl) (by simp) ?_
        refine AllReadyH.cons rfl (fun K hK => ?_) AllReadyH.nil
        try simp only [List.getElem_toArray, List.getElem_cons_zero, List.getElem_cons_succ]
        go_simp
        refine hK.out _ _ ?_ (fun hHeld2 => ?_)
        · exact HS.out _ ((Below.refl _ w2).drew.alloc (Nat.le_refl _) _)
        clear hK K
        try simp only [Act.put, List.getElem_toArray, List.getElem_cons_zero, List.getElem_cons_succ, List.setIfInBounds_toArray, List.set_cons_zero, List.set_cons_succ]
        refine wpAnyH_ready (rs := [18]) (by kernel_rfl) (by simp) ?_
        refine AllReadyH.cons rfl (fun K hK => ?_) AllReadyH.nil
        try simp only [List.getElem_toArray, List.getElem_cons_zero, List.getElem_cons_succ]
        refine step_append_lies (a := ⟨_, _⟩) _ ?_ (.tmp 26) (.tmp 42) 28 ?_ (w.heap.size + 3) 59 i0 _ 2 32 Tryz.underlying28 hi0 hz0 hz1 hz2 rfl (by omega) v k cs ?_ ((HC1.out.alloc _).drew)
          ⟨w2.heap.size, 0, none⟩ 1 1 [.string X, .string Y] ?_ (by rfl) (World.news_of_block (cs := #[.string X, .string Y]) (t := 59) (fr := (0, 0)) (heap_alloc_new w2.drew _)) (by intro u hu; simp at hu; rcases hu with hu | hu <;> (subst hu; rfl))
          (by omega) (by unfold maxLen; omega) (by omega) (by simp; omega) (w2.heap.size + 1) (by simp) ?_
        · rfl
        · rfl
        · rfl
        · rfl
        intro gg cap w5 hown5 hg5 hat hlt5
        obtain ⟨g1, g2, g3, g4, g5⟩ := HAPP.out gg cap w5 hown5 hg5
        have s3 := g1.1
        have s4 := g1.2
        clear hown5 hg5 hat g1
        refine hK.out _ _ ?_ (fun hHeld3 => ?_)
        · exact g3
        clear hK K
        try simp only [Act.put, List.setIfInBounds_toArray, List.set_cons_zero, List.set_cons_succ]
        refine wpAnyH_take (i := 19) (v := .pointer (some ⟨w.heap.size + 1 + 1, 1, none⟩)) rfl (by kernel_rfl) (by kernel_rfl) (by kernel_rfl) (fun _ _ _ h => h) (Or.inl ⟨by rfl, fun wx hSw => by obtain ⟨s1, s2⟩ := hSw; go_simp⟩) (by assumption) ?_
        try simp only [Act.put, List.getElem_toArray, List.getElem_cons_zero, List.getElem_cons_succ, List.setIfInBounds_toArray, List.set_cons_zero, List.set_cons_succ]
        refine wpAnyH_ready (rs := [20]) (by kernel_rfl) (by simp) ?_
        refine AllReadyH.cons rfl (fun K hK => ?_) AllReadyH.nil
        try simp only [List.getElem_toArray, List.getElem_cons_zero, List.getElem_cons_succ]
        go_simp
        refine hK.out _ _ ?_ (fun hHeld4 => ?_)
        · exact g4
        clear hK K
        try simp only [Act.put, List.getElem_toArray, List.getElem_cons_zero, List.getElem_cons_succ, List.setIfInBounds_toArray, List.set_cons_zero, List.set_cons_succ]
        refine wpAnyH_done (by kernel_rfl) ?_ _
        have HFIN := Lib.hid g5
        clear g2 g3 g4 g5 s3 s4
        go_wp2
        exact ⟨HFIN.out, by simp [intOf]; omega⟩
      --R6END
    · have hfin : OwnFd (w.heap.size + 3) wr v (fewD l) := by
        have e : l.take k = l.take 10 := by
          by_cases h : k = 10
          · rw [h]
          · have := HL.out
            rw [List.take_of_length_le (by omega), List.take_of_length_le (by omega)]
        unfold fewD
        rw [← e]
        exact hown
      obtain ⟨Av, cv, hv, _, _⟩ := hfin.row
      subst hv
      have hz := two_cells hgw.2.2.2.1
      have r0 := hz.1
      have r1 := hz.2.1
      have r2 := hz.2.2.1
      have r3 := hz.2.2.2
      have h1 : (n : Int) ≤ k ∨ (k : Int) < n ∧ (10 : Int) ≤ k := by omega
      have HFIN := Lib.hid hfin
      have HGW := Lib.hid hgw
      clear hlt hz hown hfin hgw
      rcases h1 with h1 | ⟨h1, h2⟩
      all_goals
        go_wp2
        obtain ⟨we, hwe⟩ : ∃ we, we = (wr.setCell ⟨w.heap.size + 1, 0, none⟩ (.int .i64 id)).setCell ⟨w.heap.size + 1, 1, none⟩ (.slice Av (fewD l).length cv) := ⟨_, rfl⟩
        have h3 : we.heap[w.heap.size + 1]? = some (.cells #[.int .i64 id, .slice Av (fewD l).length cv] 30 (0, 0)) := by rw [hwe, set_at (set_at HGW.out.2.2.2.1)]; rfl
        have hbe : Below w.heap.size w we := by rw [hwe]; exact (HGW.out.1.setCell (by simp) _).setCell (by simp) _
        have hoe : OwnFd w.heap.size we (.slice Av (fewD l).length cv) (fewD l) := by
          rw [hwe]
          exact (show OwnFd (w.heap.size + 3) _ _ _ from ownsRow_setCell_below (ownsRow_setCell_below HFIN.out (a := ⟨w.heap.size + 1, 0, none⟩) (by simp) _) (a := ⟨w.heap.size + 1, 1, none⟩) (by simp) _).low (by omega)
        rw [← hwe]
        obtain ⟨d0, d1, _, _⟩ := two_cells h3
        exact bodyPost_ret (v := .agg #[.int .i64 id, .slice Av (fewD l).length cv]) (by simp [results, Tryz.results10, go_sem, d0, d1]) rfl ⟨_, rfl, hoe, hbe⟩
end Go.Proofs.YtgcdekaceimdnaaGreat
