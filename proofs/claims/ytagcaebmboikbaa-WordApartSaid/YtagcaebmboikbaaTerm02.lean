/- What package word's Key, Less and Term answer, and the document's own Key: for terms of texts of at most 2^30 bytes. -/
import Derived.Test.YtagcaebmboikbaaShelfIndex
import Derived.Test.YtagcaebmboikbaaMay02
import Derived.Deep.DeepCutAuto
namespace Go.Proofs.Ytagcaebmboikbaa
open Go Go.RowKit
set_option linter.unusedVariables false

theorem index_none : ∀ {l : List UInt8} {c : UInt8}, c ∉ l → Lib.indexByte l c = -1
  | [], _, _ => rfl
  | b :: l, c, h => by
    have h1 : (b == c) = false := by simpa using fun e => h (by rw [e]; exact List.mem_cons_self ..)
    have h2 := index_none (l := l) (c := c) (fun e => h (List.mem_cons_of_mem _ e))
    rw [Lib.indexByte, if_neg (by simp [h1]), if_pos (by simp [h2])]
theorem index_some : ∀ {l : List UInt8} {c : UInt8}, c ∈ l → ∃ i : Nat, Lib.indexByte l c = i ∧ i < l.length ∧ l = l.take i ++ c :: l.drop (i + 1) ∧ c ∉ l.take i
  | [], _, h => by cases h
  | b :: l, c, h => by
    by_cases hb : b = c
    · subst hb
      exact ⟨0, by rw [Lib.indexByte, if_pos (by simp)]; rfl, by simp, by simp, by simp⟩
    · have hm : c ∈ l := by
        rcases List.mem_cons.1 h with h | h
        · exact absurd h.symm hb
        · exact h
      obtain ⟨i, h1, h2, h3, h4⟩ := index_some hm
      refine ⟨i + 1, ?_, by simp; omega, ?_, ?_⟩
      · rw [Lib.indexByte, if_neg (by simpa using hb), h1, if_neg (by rw [beq_iff_eq]; omega)]; omega
      · rw [List.take_succ_cons, List.drop_succ_cons, List.cons_append, ← h3]
      · rw [List.take_succ_cons]
        intro hh
        rcases List.mem_cons.1 hh with hh | hh
        · exact hb hh.symm
        · exact h4 hh
/-- A term's key. -/
def keyL (f g : List UInt8) : List UInt8 := f ++ 0 :: g
theorem keyL_inj {f g f' g' : List UInt8} (h : keyL f g = keyL f' g') (h0 : (0 : UInt8) ∉ f) (h1 : (0 : UInt8) ∉ f') : f = f' ∧ g = g' := by
  induction f generalizing f' with
  | nil =>
    cases f' with
    | nil => simp [keyL] at h; exact ⟨rfl, h⟩
    | cons b f' => simp [keyL] at h; exact absurd (by rw [← h.1]; exact List.mem_cons_self ..) h1
  | cons a f ih =>
    cases f' with
    | nil => simp [keyL] at h; exact absurd (by rw [h.1]; exact List.mem_cons_self ..) h0
    | cons b f' =>
      simp only [keyL, List.cons_append, List.cons.injEq] at h
      obtain ⟨h2, h3⟩ := ih (f' := f') h.2 (fun e => h0 (List.mem_cons_of_mem _ e)) (fun e => h1 (List.mem_cons_of_mem _ e))
      exact ⟨by rw [h.1, h2], h3⟩
def keyB (f g : ByteArray) : ByteArray := f ++ ⟨#[0]⟩ ++ g
theorem keyB_list (f g : ByteArray) : (keyB f g).data.toList = keyL f.data.toList g.data.toList := by simp [keyB, keyL]

set_option maxHeartbeats 1000000 in
theorem word_Key (f g : ByteArray) (w : World) (hf : f.size ≤ 1073741824) (hg : g.size ≤ 1073741824) :
    Calls Try.prog 19 #[.agg #[.string f, .string g]] w fun e w' => e = .returned (.string (keyB f g)) ∧ Below w.heap.size w w' := by
  go_enter Try.func19, Try.ntmps19
  go_wp2
  go_ret
  exact ⟨rfl, (Below.refl _ _).alloc (Nat.le_refl _) _⟩
set_option maxHeartbeats 1000000 in
theorem ref_Key (f g : ByteArray) (w : World) (hf : f.size ≤ 1073741824) (hg : g.size ≤ 1073741824) :
    Calls Try.prog 20 #[.agg #[.string f, .string g]] w fun e w' => e = .returned (.string (keyB f g)) ∧ Below w.heap.size w w' := by
  go_enter Try.func20, Try.ntmps20
  go_wp2
  go_ret
  exact ⟨rfl, (Below.refl _ _).alloc (Nat.le_refl _) _⟩

/-- What Cut at the byte 0 gives. -/
def GaveCut (s : ByteArray) (w : World) (e : Ending) (w' : World) : Prop :=
  ((0 : UInt8) ∉ s.data.toList ∧ e = .returned (.tuple #[.string s, .string ByteArray.empty, .bool false]) ∨
    ∃ f g : ByteArray, s.data.toList = keyL f.data.toList g.data.toList ∧ (0 : UInt8) ∉ f.data.toList ∧ e = .returned (.tuple #[.string f, .string g, .bool true])) ∧ Below w.heap.size w w'
set_option maxHeartbeats 2000000 in
theorem lite_Cut (s : ByteArray) (w : World) (hs : s.size ≤ 1073741824) :
    Calls Try.prog 42 #[.string s, .string ⟨#[0]⟩] w (GaveCut s w) := by
  have hsz : s.data.toList.length = s.size := Array.length_toList
  by_cases h0 : (0 : UInt8) ∈ s.data.toList
  · obtain ⟨i, h1, h2, h3, h4⟩ := index_some h0
    have c1 := fun w => index_one s 0 w
    rw [h1] at c1
    rw [hsz] at h2
    have C1 := Lib.hid c1
    have H3 := Lib.hid h3
    have H4 := Lib.hid h4
    have k1 : (0 : Int) ≤ ↑i := by omega
    have k2 : (↑i : Int) ≤ ↑s.size := by omega
    have k3 : (0 : Int) ≤ ↑i + 1 := by omega
    have k4 : (↑i + 1 : Int) ≤ ↑s.size := by omega
    clear c1 h0 h1 h3 h4 hsz
    go_enter Try.func42, Try.ntmps42
    go_wp2_with (go_at_call 46; refine (C1.out _).mono ?_; rintro e w' ⟨rfl, rfl⟩)
    go_region
    go_wp2
    go_ret3
    refine ⟨.inr ⟨_, _, ?_, ?_, rfl⟩, (Below.refl _ _).drew⟩
    · rw [Lib.extract_to_end, ByteArray.data_extract, Array.toList_extract]
      simp [keyL]
      exact H3.out
    · rw [ByteArray.data_extract, Array.toList_extract]
      simp
      exact H4.out
  · have c1 := fun w => index_one s 0 w
    rw [index_none h0] at c1
    have C1 := Lib.hid c1
    have H0 := Lib.hid h0
    clear c1 h0 hsz
    go_enter Try.func42, Try.ntmps42
    go_wp2_with (go_at_call 46; refine (C1.out _).mono ?_; rintro e w' ⟨rfl, rfl⟩)
    go_ret3
    exact ⟨.inl ⟨H0.out, rfl⟩, Below.refl _ _⟩

set_option maxHeartbeats 2000000 in
theorem str_Cut (s : ByteArray) (w : World) (hs : s.size ≤ 1073741824) :
    Calls Try.prog 34 #[.string s, .string ⟨#[0]⟩] w (GaveCut s w) := by
  go_enter Try.func34, Try.ntmps34
  go_wp2_with (go_at_call 42; refine (lite_Cut s _ hs).mono ?_)
  rintro e w1 ⟨hh, hb⟩
  rcases hh with ⟨h0, rfl⟩ | ⟨f, g, hf, h0, rfl⟩
  · have H0 := Lib.hid h0
    clear h0
    go_wp2
    go_ret3
    exact ⟨.inl ⟨H0.out, rfl⟩, hb⟩
  · have H0 := Lib.hid h0
    have HF := Lib.hid hf
    clear h0 hf
    go_wp2
    go_ret3
    exact ⟨.inr ⟨f, g, HF.out, H0.out, rfl⟩, hb⟩

theorem set_at {w : World} {b k : Nat} {cs : Array Value} {t : TypeId} {v : Value} (h : w.heap[b]? = some (.cells cs t (0, 0))) : (w.setCell ⟨b, k, none⟩ v).heap[b]? = some (.cells (cs.setIfInBounds k v) t (0, 0)) := by
  have hlt := lt_of_block h
  have h' : w.heap[b] = .cells cs t (0, 0) := by simpa [Array.getElem?_eq_getElem hlt] using h
  show (w.heap.modify b _)[b]? = _
  rw [Array.getElem?_eq_getElem (by simpa using hlt), Array.getElem_modify_self, h']
  rfl
theorem two_set {w : World} {b : Nat} {x y u v : Value} {t : TypeId} (h : w.heap[b]? = some (.cells #[x, y] t (0, 0))) : ((w.setCell ⟨b, 0, none⟩ u).setCell ⟨b, 1, none⟩ v).heap[b]? = some (.cells #[u, v] t (0, 0)) := by
  rw [set_at (set_at h)]
  rfl
theorem two_cells {w : World} {b : Nat} {x y : Value} {t : TypeId} (h : w.heap[b]? = some (.cells #[x, y] t (0, 0))) :
    w.cell? ⟨b, 0, none⟩ = some x ∧ w.cell? ⟨b, 1, none⟩ = some y ∧ w.frozen? ⟨b, 0, none⟩ = false ∧ w.frozen? ⟨b, 1, none⟩ = false := by
  simp [World.cell?, World.frozen?, h]

/-- What Term gives. -/
def GaveTerm (s : ByteArray) (w : World) (e : Ending) (w' : World) : Prop :=
  ((0 : UInt8) ∉ s.data.toList ∧ e = .returned (.tuple #[.agg #[.string ByteArray.empty, .string ByteArray.empty], .bool false]) ∨
    ∃ f g : ByteArray, s.data.toList = keyL f.data.toList g.data.toList ∧ (0 : UInt8) ∉ f.data.toList ∧ e = .returned (.tuple #[.agg #[.string f, .string g], .bool true])) ∧ Below w.heap.size w w'
set_option maxHeartbeats 2000000 in
theorem word_Term (s : ByteArray) (w : World) (hs : s.size ≤ 1073741824) :
    Calls Try.prog 22 #[.string s] w (GaveTerm s w) := by
  go_enter Try.func22, Try.ntmps22
  go_wp2_with (go_at_call 34; refine (str_Cut s _ hs).mono ?_)
  rintro e w1 ⟨hh, hb⟩
  have hb1 : Below w.heap.size w w1 := ((Below.refl _ w).alloc (Nat.le_refl _) _).trans (hb.mono (by simp))
  have hz : w1.heap[w.heap.size]? = some (.cells #[.string ByteArray.empty, .string ByteArray.empty] 37 (0, 0)) := (hb.block w.heap.size (by simp)).trans (heap_alloc_new w _)
  obtain ⟨z0, z1, f0, f1⟩ := two_cells hz
  have HZ := Lib.hid hz
  rcases hh with ⟨h0, rfl⟩ | ⟨f, g, hf, h0, rfl⟩
  · have H0 := Lib.hid h0
    clear h0 hz hb
    go_wp2
    obtain ⟨w2, hw2⟩ : ∃ w2, w2 = (w1.setCell ⟨w.heap.size, 0, none⟩ (.string ⟨#[]⟩)).setCell ⟨w.heap.size, 1, none⟩ (.string ⟨#[]⟩) := ⟨_, rfl⟩
    have h2 : w2.heap[w.heap.size]? = some (.cells #[.string ⟨#[]⟩, .string ⟨#[]⟩] 37 (0, 0)) := by rw [hw2]; exact two_set HZ.out
    have hb2 : Below w.heap.size w w2 := by rw [hw2]; exact (hb1.setCell (Nat.le_refl _) _).setCell (Nat.le_refl _) _
    rw [← hw2]
    obtain ⟨d0, d1, _, _⟩ := two_cells h2
    exact bodyPost_ret (v := .tuple #[.agg #[.string ⟨#[]⟩, .string ⟨#[]⟩], .bool false]) (by simp [results, Try.results22, go_sem, d0, d1]) rfl ⟨.inl ⟨H0.out, rfl⟩, hb2⟩
  · have H0 := Lib.hid h0
    have HF := Lib.hid hf
    clear h0 hz hb hf
    go_wp2
    obtain ⟨w2, hw2⟩ : ∃ w2, w2 = (w1.setCell ⟨w.heap.size, 0, none⟩ (.string f)).setCell ⟨w.heap.size, 1, none⟩ (.string g) := ⟨_, rfl⟩
    have h2 : w2.heap[w.heap.size]? = some (.cells #[.string f, .string g] 37 (0, 0)) := by rw [hw2]; exact two_set HZ.out
    have hb2 : Below w.heap.size w w2 := by rw [hw2]; exact (hb1.setCell (Nat.le_refl _) _).setCell (Nat.le_refl _) _
    rw [← hw2]
    obtain ⟨d0, d1, _, _⟩ := two_cells h2
    exact bodyPost_ret (v := .tuple #[.agg #[.string f, .string g], .bool true]) (by simp [results, Try.results22, go_sem, d0, d1]) rfl ⟨.inr ⟨f, g, HF.out, H0.out, rfl⟩, hb2⟩
end Go.Proofs.Ytagcaebmboikbaa
