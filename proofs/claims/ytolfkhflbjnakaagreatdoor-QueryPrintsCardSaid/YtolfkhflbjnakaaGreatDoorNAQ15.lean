/- Texts laid together: GoodAt12, PartsP12, Parts12, ReadQ12, ReadT12, ParseW12. -/
import Derived.Test.YtolfkhflbjnakaaGreatDoorNAQ07
import Derived.Test.YtolfkhflbjnakaaGreatDoorNAQ14
import Derived.Test.YtolfkhflbjnakaaGreatDoorNAQ13
import Derived.BigQuiet
import Derived.BigRegion
import Derived.Deep.AppendLies
import Derived.Deep.RegionLaw
import Derived.Deep.LoopGhost
import Derived.Deep.RegionWith
import Derived.Laws.ResultCell
import Derived.Test.YtolfkhflbjnakaaGreatDoorNAQ06

/- A query that is being made: its kids, or its words, grow one by one. -/
set_option linter.unusedVariables false
namespace Go.Proofs.YtolfkhflbjnakaaGreatDoor
open Go Go.RowKit

/-- The query at block B has such cells, and kids of the call's own so far. -/
def GoodAt (w2 : World) (z B : Nat) (k : Int) (f x : ByteArray) (a : Value) (l : List Qy) (v : Value) (w : World) : Prop :=
  w.heap[B]? = some (.cells #[.int .i64 k, .string f, .string x, a, v] 27 (0, 0)) ∧ OwnQs (B + 1) w v l ∧ Below z w2 w ∧ z ≤ B
section
variable {w2 w w6 w8 : World} {z B g : Nat} {k : Int} {f x : ByteArray} {a v v' : Value} {l : List Qy} {q : Qy}
theorem GoodAt.lt (h : GoodAt w2 z B k f x a l v w) : B < w.heap.size := (Array.getElem?_eq_some_iff.1 h.1).1
theorem GoodAt.later (h : GoodAt w2 z B k f x a l v w) (hb : Below w.heap.size w w6) : GoodAt w2 z B k f x a l v w6 :=
  ⟨(hb.block B h.lt).trans h.1, h.2.1.below hb, h.2.2.1.trans (hb.mono (by have := h.lt; have := h.2.2.2; omega)), h.2.2.2⟩
theorem OwnQs.set {base C i : Nat} (h : OwnQs base w v l) (hC : C < base) (u : Value) : OwnQs base (w.setCell ⟨C, i, none⟩ u) v l := by
  obtain ⟨cs, h1, h2⟩ := h
  have hs : (w.setCell ⟨C, i, none⟩ u).heap.size = w.heap.size := by simp [World.setCell]
  exact ⟨cs, ownsRow_setCell_below h1 (a := ⟨C, i, none⟩) hC u, (h2.keep fun b hb => set_ne (by omega)).imp fun b hb => by rw [hs]; exact hb⟩
theorem GoodAt.push {cs kcs : List Value} {o : Obj} (h : GoodAt w2 z B k f x a l v w) (h1 : w.ownsRow (B + 1) 27 5 v l.length cs) (h2 : QsAt (fun b => B + 1 ≤ b ∧ b < w.heap.size ∧ v.ownBlock ≠ some b) w l cs) (hb : Below w.heap.size w w6)
    (hq : QAt (fun b => w.heap.size ≤ b ∧ b < w6.heap.size) w6 q kcs) (hown : w8.ownsRow (B + 1) 27 5 v' (l.length + 1) (cs ++ kcs)) (hg : (w6.alloc o).grownBy w8 v.ownBlock) (hv' : v'.ownBlock = some g) (hat : v.ownBlock = some g ∨ w6.heap.size ≤ g) :
    (w8.cell? ⟨B, 4, none⟩ = some v ∧ w8.frozen? ⟨B, 4, none⟩ = false) ∧ GoodAt w2 z B k f x a (l ++ [q]) v' (w8.setCell ⟨B, 4, none⟩ v') := by
  have hB := h.lt
  have hal : Below w6.heap.size w6 (w6.alloc o) := (Below.refl _ _).alloc (Nat.le_refl _) _
  have hne : v.ownBlock ≠ some B := fun e => by have := (h1.lt B e).1; omega
  have hblk : w8.heap[B]? = some (.cells #[.int .i64 k, .string f, .string x, a, v] 27 (0, 0)) := by
    rw [hg.block B (by have := hb.size; have := hal.size; omega) (fun e => hne e.symm), hal.block B (by have := hb.size; omega), hb.block B hB]
    exact h.1
  obtain ⟨⟨_, _, _, _, c4⟩, _, _, _, _, f4⟩ := five_cells hblk
  have hp := OwnQs.push h1 h2 hb hq (by omega) hal hown hg hv' hat
  have hz0 : Below z w2 (w6.alloc o) := (h.2.2.1.trans (hb.mono (by have := h.2.2.2; omega))).trans (hal.mono (by have := h.2.2.2; have := hb.size; omega))
  have hz : Below z w2 w8 := hz0.grown hg (by have := h.2.2.2; have := hb.size; have := hal.size; omega) (fun k hk => by have := (h1.lt k hk).1; have := h.2.2.2; omega)
  refine ⟨⟨c4, f4⟩, ?_, ?_, hz.setCell (p := ⟨B, 4, none⟩) h.2.2.2 _, h.2.2.2⟩
  · rw [set_at hblk]; rfl
  · exact hp.set (by omega) _
/-- All kids are there, and the answer is written into block C. -/
theorem GoodAt.done {C n : Nat} {y0 y1 y2 y3 y4 : Value} (h : GoodAt w2 z B k ⟨#[]⟩ ⟨#[]⟩ (.slice none 0 0) l v w) (hC : C < B) (hn : l.length = n) : ∃ A c, v = .slice A n c ∧
    QV (fun b => z ≤ b ∧ b < (set5 w C y0 y1 y2 y3 y4).heap.size) (set5 w C y0 y1 y2 y3 y4) (.mk k ([], []) [] l) (qV k ⟨#[]⟩ ⟨#[]⟩ none 0 0 A n c) := by
  subst hn
  obtain ⟨A, c, ds, rfl, hc, hr, hq⟩ := h.2.1.slice
  have hz := h.2.2.2
  refine ⟨A, c, rfl, QV.mk (ds := ds) rfl rfl rfl rfl (Nat.le_refl _) hc (.inl rfl) ?_ ?_⟩
  · exact (hr.keep fun b hb => set5_ne (by omega)).imp fun b hb => ⟨by omega, by rw [set5_size]; exact hb.2⟩
  · exact (hq.keep fun b hb => set5_ne (by omega)).imp fun b hb => ⟨by omega, by rw [set5_size]; exact hb.2⟩
/-- The query at block B has such words of the call's own so far. -/
def WordsAt (w2 : World) (z B : Nat) (k : Int) (f x : ByteArray) (a : Value) (l : List Nm) (v : Value) (w : World) : Prop :=
  w.heap[B]? = some (.cells #[.int .i64 k, .string f, .string x, v, a] 27 (0, 0)) ∧ OwnNm (B + 1) w v l ∧ Below z w2 w ∧ z ≤ B
theorem WordsAt.lt {l : List Nm} (h : WordsAt w2 z B k f x a l v w) : B < w.heap.size := (Array.getElem?_eq_some_iff.1 h.1).1
theorem WordsAt.later {l : List Nm} (h : WordsAt w2 z B k f x a l v w) (hb : Below w.heap.size w w6) : WordsAt w2 z B k f x a l v w6 :=
  ⟨(hb.block B h.lt).trans h.1, h.2.1.below hb, h.2.2.1.trans (hb.mono (by have := h.lt; have := h.2.2.2; omega)), h.2.2.2⟩
theorem WordsAt.push {W : World} {l : List Nm} {s : Nm} (h : WordsAt w2 z B k f x a l v w) (hown : w8.ownsRow (B + 1) 9 1 v' (l.length + 1) (strs l ++ [.string ⟨s.toArray⟩])) (hal : Below w.heap.size w W) (hg : W.grownBy w8 v.ownBlock) :
    (w8.cell? ⟨B, 3, none⟩ = some v ∧ w8.frozen? ⟨B, 3, none⟩ = false) ∧ WordsAt w2 z B k f x a (l ++ [s]) v' (w8.setCell ⟨B, 3, none⟩ v') := by
  have hB := h.lt
  have h1 : w.ownsRow (B + 1) 9 1 v l.length (strs l) := h.2.1
  have hne : v.ownBlock ≠ some B := fun e => by have := (h1.lt B e).1; omega
  have hblk : w8.heap[B]? = some (.cells #[.int .i64 k, .string f, .string x, v, a] 27 (0, 0)) := by
    rw [hg.block B (by have := hal.size; omega) (fun e => hne e.symm), hal.block B hB]
    exact h.1
  obtain ⟨⟨_, _, _, c3, _⟩, _, _, _, f3, _⟩ := five_cells hblk
  have hz0 : Below z w2 W := h.2.2.1.trans (hal.mono (by have := h.2.2.2; omega))
  have hz : Below z w2 w8 := hz0.grown hg (by have := h.2.2.2; have := hal.size; omega) (fun k hk => by have := (h1.lt k hk).1; have := h.2.2.2; omega)
  refine ⟨⟨c3, f3⟩, ?_, ?_, hz.setCell (p := ⟨B, 3, none⟩) h.2.2.2 _, h.2.2.2⟩
  · rw [set_at hblk]; rfl
  · have : OwnNm (B + 1) w8 v' (l ++ [s]) := by
      unfold OwnNm
      rw [List.length_append, List.length_singleton, show strs (l ++ [s]) = strs l ++ [.string ⟨s.toArray⟩] by simp [strs]]
      exact hown
    exact ownsRow_setCell_below this (a := ⟨B, 3, none⟩) (by show B < B + 1; omega) _
theorem WordsAt.done {C n : Nat} {l : List Nm} {s : Nm} {y0 y1 y2 y3 y4 : Value} (h : WordsAt w2 z B k f ⟨#[]⟩ (.slice none 0 0) l v w) (hC : C < B) (hn : l.length = n) (hf : f.data.toList = s) : ∃ A c, v = .slice A n c ∧
    QV (fun b => z ≤ b ∧ b < (set5 w C y0 y1 y2 y3 y4).heap.size) (set5 w C y0 y1 y2 y3 y4) (.mk k (s, []) l []) (qV k f ⟨#[]⟩ A n c none 0 0) := by
  subst hn
  have h1 : w.ownsRow (B + 1) 9 1 v l.length (strs l) := h.2.1
  have h1' := h1
  obtain ⟨A, c, rfl, hc, hr⟩ := owned_row h1
  have hz := h.2.2.2
  refine ⟨A, c, rfl, QV.mk rfl rfl hf rfl hc (Nat.le_refl _) ?_ (.inl rfl) QsAt.nil⟩
  rcases hr with hr | ⟨b, off, rfl, hb, hcell⟩
  · exact .inl hr
  · have hBb : B + 1 ≤ b := by
      rcases h1'.2 with ⟨hv, _⟩ | ⟨g, cap, cur, hv, hg, _⟩
      · injection hv with hv; cases hv
      · injection hv with hv
        injection hv with hv
        injection hv with hv
        subst hv
        exact hg
    have hrow : RowP (fun b' => b' = b) w (some ⟨b, off, none⟩) (strs l) := .inr ⟨b, off, rfl, rfl, hcell⟩
    exact (hrow.keep fun b' hb' => set5_ne (by omega)).imp fun b' hb' => ⟨by omega, by rw [set5_size]; omega⟩
end
end Go.Proofs.YtolfkhflbjnakaaGreatDoor

/- A text that is read: the kids so far. -/
namespace Go.Proofs.YtolfkhflbjnakaaGreatDoor
open Go Go.RowKit Go.Shelf
set_option linter.unusedVariables false

/-- Kids ahead of those that are read still. -/
def preKs (l : List Qy) (o : Option (List Qy × Nm)) : Option (List Qy × Nm) := match o with
  | none => none
  | some (ks, r) => some (l ++ ks, r)
theorem kidsR_none {rd : Nm → Option (Qy × Nm)} {m : Nat} {t : Nm} (h : rd t = none) : kidsR rd (m + 1) t = none := by rw [kidsR, h]
theorem kidsR_last {rd : Nm → Option (Qy × Nm)} {t r : Nm} {q : Qy} (h : rd t = some (q, r)) : kidsR rd 1 t = some ([q], r) := by
  rw [kidsR, h]
  cases r <;> simp
theorem kidsR_stop {rd : Nm → Option (Qy × Nm)} {m : Nat} {t r : Nm} {q : Qy} (h : rd t = some (q, r)) (h2 : (preV 32 r).2 = false) : kidsR rd (m + 1) t = some ([q], r) := by
  rw [kidsR, h]
  cases r with
  | nil => rfl
  | cons c r' =>
    have hc : c ≠ 32 := fun e => by simp [preV, e] at h2
    simp [hc]
theorem kidsR_more {rd : Nm → Option (Qy × Nm)} {m : Nat} {t r : Nm} {q : Qy} (hm : 0 < m) (h : rd t = some (q, r)) (h2 : (preV 32 r).2 = true) : kidsR rd (m + 1) t = preKs [q] (kidsR rd m (preV 32 r).1) := by
  rw [kidsR, h]
  cases r with
  | nil => cases h2
  | cons c r' =>
    have hc : c = 32 := Classical.byContradiction fun e => by simp [preV, e] at h2
    subst hc
    simp only [preV, if_pos, hm, and_self]
    cases kidsR rd m r' with
    | none => rfl
    | some y => rfl
theorem preKs_pre (l l' : List Qy) (o : Option (List Qy × Nm)) : preKs l (preKs l' o) = preKs (l ++ l') o := by
  cases o with
  | none => rfl
  | some y => simp [preKs]
theorem preV_false {c : UInt8} {s : Nm} (h : (preV c s).2 = false) : (preV c s).1 = s := by
  cases s with
  | nil => rfl
  | cons x r =>
    by_cases hc : x = c
    · simp [preV, hc] at h
    · simp [preV, hc]
theorem partsR_cut {rd : Nm → Option (Qy × Nm)} {s : Nm} : partsR rd s = if (cutV 32 s).2.2 = true then (if nameK (cutV 32 s).1 = 0 then none else match kidsR rd 8 (uptoL 32 s) with
    | none => none
    | some (ks, s2) => if (preV 41 s2).2 = true then some (.mk (nameK (cutV 32 s).1) ([], []) [] ks, (preV 41 s2).1) else none) else none := by
  unfold partsR uptoL cutV
  cases hc : cutB 32 s with
  | none => rfl
  | some y =>
    obtain ⟨name, s1⟩ := y
    simp only [if_true]
    split
    · rfl
    · cases kidsR rd 8 s1 with
      | none => rfl
      | some z =>
        obtain ⟨ks, s2⟩ := z
        cases s2 with
        | nil => rfl
        | cons c s3 =>
          by_cases h : c = 41
          · simp [preV, h]
          · simp [preV, h]
/-- A reading of what stands behind a bracket: block R holds what is left, block w0.heap.size what is answered, block B the query so far. -/
structure KidsRd (w0 : World) (R B : Nat) (k : Int) (t : Nm) (d : Int) (l : List Qy) (v : Value) (w : World) : Prop where
  at_ : w.heap[B]? = some (.cells #[.int .i64 k, .string ⟨#[]⟩, .string ⟨#[]⟩, .slice none 0 0, v] 27 (0, 0))
  own : OwnQs (B + 1) w v l
  only : OnlyR R w0 w
  rd : RdAt w R t d
  lt : w0.heap.size < B
  res : w.heap[w0.heap.size]? = some (.cells #[.int .i64 0, .string ⟨#[]⟩, .string ⟨#[]⟩, .slice none 0 0, .slice none 0 0] 27 (0, 0))
section
variable {w0 w w6 w8 W : World} {R B g : Nat} {k d : Int} {t t' : Nm} {l : List Qy} {v v' : Value} {q : Qy}
theorem KidsRd.size (h : KidsRd w0 R B k t d l v w) : B < w.heap.size := (Array.getElem?_eq_some_iff.1 h.at_).1
theorem OwnQs.only {base : Nat} (h : OwnQs base w v l) (ho : OnlyR R w w6) (hR : R < base) : OwnQs base w6 v l := by
  obtain ⟨cs, h1, h2⟩ := h
  exact ⟨cs, owned_keep h1 (fun g hg => ho.block g (h1.lt g hg).2 (by have := (h1.lt g hg).1; omega)), (h2.keep fun b hs => ho.block b hs.2.1 (by omega)).imp fun b hs => ⟨hs.1, Nat.lt_of_lt_of_le hs.2.1 ho.size, hs.2.2⟩⟩
theorem KidsRd.step (h : KidsRd w0 R B k t d l v w) (hR : R < w0.heap.size) (ho : OnlyR R w w6) (hr : RdAt w6 R t' d) : KidsRd w0 R B k t' d l v w6 := by
  have h1 := h.size
  have h2 := h.lt
  exact ⟨(ho.block B h1 (by omega)).trans h.at_, h.own.only ho (by omega), h.only.trans ho, hr, h2, (ho.block _ (by omega) (by omega)).trans h.res⟩
theorem KidsRd.later (h : KidsRd w0 R B k t d l v w) (hR : R < w0.heap.size) (hb : Below w.heap.size w w6) : KidsRd w0 R B k t d l v w6 := h.step hR (.of_below hb) (h.rd.below hb)
theorem KidsRd.push {cs kcs : List Value} (h : KidsRd w0 R B k t d l v w) (hR : R < w0.heap.size) (h1 : w.ownsRow (B + 1) 27 5 v l.length cs) (h2 : QsAt (fun b => B + 1 ≤ b ∧ b < w.heap.size ∧ v.ownBlock ≠ some b) w l cs) (ho : OnlyR R w w6) (hr : RdAt w6 R t' d)
    (hq : QAt (fun b => w.heap.size ≤ b ∧ b < w6.heap.size) w6 q kcs) (hb3 : Below w6.heap.size w6 W) (hown : w8.ownsRow (B + 1) 27 5 v' (l.length + 1) (cs ++ kcs)) (hg : W.grownBy w8 v.ownBlock) (hv' : v'.ownBlock = some g) (hat : v.ownBlock = some g ∨ w6.heap.size ≤ g) :
    (w8.cell? ⟨B, 4, none⟩ = some v ∧ w8.frozen? ⟨B, 4, none⟩ = false) ∧ KidsRd w0 R B k t' d (l ++ [q]) v' (w8.setCell ⟨B, 4, none⟩ v') := by
  have hB := h.size
  have hlt := h.lt
  have hsz := ho.size
  have hne : v.ownBlock ≠ some B := fun e => by have := (h1.lt B e).1; omega
  have hown0 : ∀ k, v.ownBlock = some k → B + 1 ≤ k ∧ k < w.heap.size := fun k hk => h1.lt k hk
  have hk8 : ∀ b, b < w6.heap.size → v.ownBlock ≠ some b → w8.heap[b]? = w6.heap[b]? := fun b hb1 hb2 => (hg.block b (Nat.lt_of_lt_of_le hb1 hb3.size) (fun e => hb2 e.symm)).trans (hb3.block b hb1)
  have h6 := h.step hR ho hr
  have hblk : w8.heap[B]? = some (.cells #[.int .i64 k, .string ⟨#[]⟩, .string ⟨#[]⟩, .slice none 0 0, v] 27 (0, 0)) := (hk8 B (by omega) hne).trans h6.at_
  obtain ⟨⟨_, _, _, _, c4⟩, _, _, _, _, f4⟩ := five_cells hblk
  have hsz8 : w6.heap.size ≤ w8.heap.size := Nat.le_trans hb3.size hg.size
  have hnB : ∀ b, b < w6.heap.size → v.ownBlock ≠ some b → v'.ownBlock ≠ some b := fun b hb1 hb2 e => by
    rw [hv'] at e
    injection e with e
    subst e
    rcases hat with h | h
    · exact hb2 h
    · omega
  have hO : OwnQs (B + 1) w8 v' (l ++ [q]) := by
    refine ⟨cs ++ kcs, by rw [List.length_append, List.length_singleton]; exact hown, QsAt.snoc ?_ ?_⟩
    · exact (h2.keep fun b hs => (hk8 b (by omega) hs.2.2).trans (ho.block b hs.2.1 (by omega))).imp fun b hs => ⟨hs.1, by omega, hnB b (by omega) hs.2.2⟩
    · refine (hq.keep fun b hs => hk8 b hs.2 fun e => ?_).imp fun b hs => ⟨by omega, by omega, hnB b hs.2 fun e => ?_⟩
      · have := (hown0 b e).2; omega
      · have := (hown0 b e).2; omega
  have hlow : ∀ b, b < w6.heap.size → b ≤ B → w8.heap[b]? = w6.heap[b]? := fun b hb1 hb2 => hk8 b hb1 fun e => by have := (hown0 b e).1; omega
  refine ⟨⟨c4, f4⟩, ?_, hO.set (by omega) _, ?_, ?_, hlt, ?_⟩
  · rw [set_at hblk]; rfl
  · have hz : Below (B + 1) w6 w8 := (hb3.mono (by omega)).grown hg (by have := hb3.size; omega) (fun k hk => (hown0 k hk).1)
    have hz2 := (hz.mono (show B ≤ B + 1 by omega)).setCell (p := ⟨B, 4, none⟩) (Nat.le_refl _) v'
    have h7 := h6.only
    exact ⟨hz2.os.trans h7.os, hz2.tape.trans h7.tape, hz2.output.trans h7.output, Nat.le_trans h7.size hz2.size, fun b hb hbR => (hz2.block b (by omega)).trans (h7.block b hb hbR)⟩
  · unfold RdAt
    rw [set_ne (by omega), hlow R (by omega) (by omega)]
    exact hr
  · rw [set_ne (by omega), hlow _ (by omega) (by omega)]
    exact h6.res
/-- All kids are there, and the answer is written. -/
theorem KidsRd.done {n : Nat} {y0 y1 y2 y3 y4 : Value} (h : KidsRd w0 R B k t d l v w) (hn : l.length = n) : ∃ A c, v = .slice A n c ∧
    QV (fun b => w0.heap.size ≤ b ∧ b < (set5 w w0.heap.size y0 y1 y2 y3 y4).heap.size) (set5 w w0.heap.size y0 y1 y2 y3 y4) (.mk k ([], []) [] l) (qV k ⟨#[]⟩ ⟨#[]⟩ none 0 0 A n c) := by
  subst hn
  obtain ⟨A, c, ds, rfl, hc, hr, hq⟩ := h.own.slice
  have hz := h.lt
  refine ⟨A, c, rfl, QV.mk (ds := ds) rfl rfl rfl rfl (Nat.le_refl _) hc (.inl rfl) ?_ ?_⟩
  · exact (hr.keep fun b hb => set5_ne (by omega)).imp fun b hb => ⟨by omega, by rw [set5_size]; exact hb.2⟩
  · exact (hq.keep fun b hb => set5_ne (by omega)).imp fun b hb => ⟨by omega, by rw [set5_size]; exact hb.2⟩
end
end Go.Proofs.YtolfkhflbjnakaaGreatDoor

/- A text that is read: what stands behind a bracket, where a query in it is read as it should be. -/
namespace Go.Proofs.YtolfkhflbjnakaaGreatDoor
open Go Go.RowKit Go.Shelf
set_option linter.unusedVariables false

theorem QV.cells {p : Nat → Prop} {w : World} {q : Qy} {k : Int} {f x : ByteArray} {A K : Option Addr} {n c m d : Nat} (h : QV p w q (qV k f x A n c K m d)) : QAt p w q (qC k f x A n c K m d) := by
  obtain ⟨k', f', x', A', n', c', K', m', d', e, h⟩ := h
  have e2 : qC k f x A n c K m d = qC k' f' x' A' n' c' K' m' d' := by
    injection e with e
    exact congrArg Array.toList e
  rw [e2]
  exact h
/-- A query that stands in so many is read as it should be. -/
def QueryOK (rd : Nm → Option (Qy × Nm)) (d : Int) : Prop := ∀ (R : Nat) (s : Nm) (w : World), RdAt w R s d → Glob w → 2 ≤ R → s.length < 4294967281 → Calls Tryz.prog 38 #[.pointer (some ⟨R, 0, none⟩)] w (GaveRd (rd s) R d w)
/-- The kids so far. -/
def KidsRel (w0 : World) (R B : Nat) (k d : Int) (rd : Nm → Option (Qy × Nm)) (s1 : Nm) (g : Nat) (u : Value) (wr : World) : Prop := ∃ l t v b, u = .bool b ∧ l.length + g = 9 ∧ l.length ≤ 8 ∧ t.length < 4294967281 ∧ KidsRd w0 R B k t d l v wr ∧
  (b = true → l.length < 8 ∧ kidsR rd 8 s1 = preKs l (kidsR rd (8 - l.length) t)) ∧ (b = false → kidsR rd 8 s1 = some (l, t))
theorem KidsRd.no {w0 w : World} {R B : Nat} {k d : Int} {t : Nm} {l : List Qy} {v y0 y1 y2 y3 y4 : Value} (h : KidsRd w0 R B k t d l v w) (hR : R < w0.heap.size) : GaveRd none R d w0 (.returned (.tuple #[zeroQ, .bool false])) (set5 w w0.heap.size y0 y1 y2 y3 y4) := by
  refine ⟨_, _, _, _, _, _, _, _, _, _, t, rfl, ?_, ?_, rfl⟩
  · unfold RdAt; rw [set5_ne (by omega)]; exact h.rd
  · have h4 := h.only
    have hb : Below w0.heap.size w (set5 w w0.heap.size y0 y1 y2 y3 y4) := set5_below (Below.refl _ _) (Nat.le_refl _)
    exact ⟨hb.os.trans h4.os, hb.tape.trans h4.tape, hb.output.trans h4.output, Nat.le_trans h4.size hb.size, fun b hb1 hb2 => (hb.block b hb1).trans (h4.block b hb1 hb2)⟩
theorem KidsRd.fin {w0 w : World} {R B n : Nat} {k d : Int} {t : Nm} {l : List Qy} {A : Option Addr} {c : Nat} {b : Bool} {res : Option (Qy × Nm)} (h : KidsRd w0 R B k t d l (.slice A n c) w) (hR : R < w0.heap.size) (hn : l.length = n) (hres : res = if b = true then some (Qy.mk k ([], []) [] l, t) else none) :
    GaveRd res R d w0 (.returned (.tuple #[qV k ⟨#[]⟩ ⟨#[]⟩ none 0 0 A n c, .bool b])) (set5 w w0.heap.size (.int .i64 k) (.string ⟨#[]⟩) (.string ⟨#[]⟩) (.slice none 0 0) (.slice A n c)) := by
  obtain ⟨A', c', e, hq⟩ := h.done (y0 := .int .i64 k) (y1 := .string ⟨#[]⟩) (y2 := .string ⟨#[]⟩) (y3 := .slice none 0 0) (y4 := .slice A n c) hn
  injection e with e1 e2 e3
  subst e1 e3
  refine ⟨_, _, _, _, _, _, _, _, _, _, t, rfl, ?_, ?_, ?_⟩
  · unfold RdAt; rw [set5_ne (by omega)]; exact h.rd
  · have h4 := h.only
    have hb : Below w0.heap.size w (set5 w w0.heap.size (.int .i64 k) (.string ⟨#[]⟩) (.string ⟨#[]⟩) (.slice none 0 0) (.slice A n c)) := set5_below (Below.refl _ _) (Nat.le_refl _)
    exact ⟨hb.os.trans h4.os, hb.tape.trans h4.tape, hb.output.trans h4.output, Nat.le_trans h4.size hb.size, fun b hb1 hb2 => (hb.block b hb1).trans (h4.block b hb1 hb2)⟩
  · rw [hres]
    cases b with
    | false => rfl
    | true => exact ⟨rfl, rfl, hq⟩
set_option maxHeartbeats 8000000 in
set_option maxRecDepth 100000 in
theorem parts_ok (rd : Nm → Option (Qy × Nm)) (d : Int) (HQ : Hid (QueryOK rd d)) (HL : Hid (∀ s q r, rd s = some (q, r) → r.length ≤ s.length)) : PartsOK rd d := fun R s w h hg hR2 hs => by
  have hRl := h.lt
  obtain ⟨w1, hw1⟩ : ∃ w1, w1 = w.alloc (.cells #[.int .i64 0, .string ⟨#[]⟩, .string ⟨#[]⟩, .slice none 0 0, .slice none 0 0] 27) := ⟨_, rfl⟩
  have hb1 : Below w.heap.size w w1 := by rw [hw1]; exact (Below.refl _ _).alloc (Nat.le_refl _) _
  have hs1 : w1.heap.size = w.heap.size + 1 := by rw [hw1]; simp
  have hres1 : w1.heap[w.heap.size]? = some (.cells #[.int .i64 0, .string ⟨#[]⟩, .string ⟨#[]⟩, .slice none 0 0, .slice none 0 0] 27 (0, 0)) := by rw [hw1]; exact heap_alloc_new w _
  have hU := query_upto 32 R s d w1 (h.below hb1) (hg.below hb1 hg.size) hs
  obtain ⟨a, ha⟩ : ∃ a : ByteArray, a = ⟨(cutV 32 s).1.toArray⟩ := ⟨_, rfl⟩
  have hat : a.data.toList = (cutV 32 s).1 := by rw [ha]
  obtain ⟨b, hb⟩ : ∃ b, b = (cutV 32 s).2.2 := ⟨_, rfl⟩
  obtain ⟨s1, hs1'⟩ : ∃ s1, s1 = uptoL 32 s := ⟨_, rfl⟩
  obtain ⟨GK, hGK⟩ : ∃ GK, GK = nameK (cutV 32 s).1 := ⟨_, rfl⟩
  have hs1l : s1.length < 4294967281 := by rw [hs1']; have := uptoL_length 32 s; omega
  have hpc := partsR_cut (rd := rd) (s := s)
  rw [← ha, ← hb, ← hs1'] at hU
  rw [← hb, ← hs1', ← hGK] at hpc
  obtain ⟨res, hres⟩ : ∃ res, res = partsR rd s := ⟨_, rfl⟩
  rw [← hres] at hpc ⊢
  have HU := Lib.hid hU
  have HW1 := Lib.hid hw1
  have HN : Hid (∀ w2, OnlyR R w1 w2 → Calls Tryz.prog 110 #[.string a] w2 fun e w' => e = .returned (.int .i64 GK) ∧ w2 = w') := Lib.hid fun w2 ho => by
    rw [hGK, ← hat]
    exact query_named a w2 ((hg.below hb1 hg.size).only ho hR2)
  have HK3 : Hid (∀ w2, RdAt w2 R s1 d → OnlyR R w1 w2 → KidsRd w R w2.heap.size GK s1 d [] (.slice none 0 0) (w2.alloc (.cells #[.int .i64 GK, .string ⟨#[]⟩, .string ⟨#[]⟩, .slice none 0 0, .slice none 0 0] 27))) := Lib.hid fun w2 hr ho => by
    have hz := ho.size
    have hbw : Below w2.heap.size w2 (w2.alloc (.cells #[.int .i64 GK, .string ⟨#[]⟩, .string ⟨#[]⟩, .slice none 0 0, .slice none 0 0] 27)) := (Below.refl _ _).alloc (Nat.le_refl _) _
    exact ⟨heap_alloc_new _ _, OwnQs.nil, ((OnlyIn.of_below hb1).trans ho).trans (.of_below hbw), hr.below hbw, by omega, (hbw.block _ (by omega)).trans ((ho.block _ (by omega) (by omega)).trans hres1)⟩
  have HG : Hid (∀ w2, OnlyR R w w2 → Glob w2) := Lib.hid fun w2 ho => hg.only ho hR2
  have HPC := Lib.hid hpc
  have HS1 := Lib.hid hs1l
  clear hU hw1 hb1 hs1 hres1 ha hat hb hs1' hGK hpc hres hs1l h hg hs
  cases b with
  | false =>
    have hnone : res = none := by rw [HPC.out, if_neg (by decide)]
    subst hnone
    go_enter Tryz.func78, Tryz.ntmps78
    go_wp2_with (first
      | (go_at_call 79; rw [show w.alloc _ = w1 from HW1.out.symm]; (with_reducible refine HU.out.mono ?_); rintro e w2 ⟨rfl, hr2, ho2⟩; have hn2 := HN.out w2 ho2; have hk3 := HK3.out w2 hr2 ho2; have HN2 := Lib.hid hn2; obtain ⟨⟨s0, s1, s2, s3, s4⟩, g0, g1, g2, g3, g4⟩ := five_cells hk3.res; have HK := Lib.hid hk3; clear hr2 ho2 hn2 hk3)
      | (go_at_call 110; (with_reducible refine HN2.out.mono ?_); rintro e w3 ⟨rfl, rfl⟩))
    obtain ⟨⟨t0, t1, t2, t3, t4⟩, -⟩ := five_cells (set5_at (y0 := .int .i64 0) (y1 := .string ⟨#[]⟩) (y2 := .string ⟨#[]⟩) (y3 := .slice none 0 0) (y4 := .slice none 0 0) HK.out.res)
    have hfin := HK.out.no (y0 := .int .i64 0) (y1 := .string ⟨#[]⟩) (y2 := .string ⟨#[]⟩) (y3 := .slice none 0 0) (y4 := .slice none 0 0) hRl
    unfold set5 at t0 t1 t2 t3 t4 hfin
    exact bodyPost_ret (v := .tuple #[zeroQ, .bool false]) (by simp [results, Tryz.results78, go_sem, t0, t1, t2, t3, t4]) rfl hfin
  | true =>
    by_cases hk0 : GK = 0
    · have hnone : res = none := by rw [HPC.out, if_pos rfl, if_pos hk0]
      subst hnone hk0
      go_enter Tryz.func78, Tryz.ntmps78
      go_wp2_with (first
        | (go_at_call 79; rw [show w.alloc _ = w1 from HW1.out.symm]; (with_reducible refine HU.out.mono ?_); rintro e w2 ⟨rfl, hr2, ho2⟩; have hn2 := HN.out w2 ho2; have hk3 := HK3.out w2 hr2 ho2; have HN2 := Lib.hid hn2; obtain ⟨⟨s0, s1', s2, s3, s4⟩, g0, g1, g2, g3, g4⟩ := five_cells hk3.res; have HK := Lib.hid hk3; clear hr2 ho2 hn2 hk3)
        | (go_at_call 110; (with_reducible refine HN2.out.mono ?_); rintro e w3 ⟨rfl, rfl⟩))
      obtain ⟨⟨t0, t1, t2, t3, t4⟩, -⟩ := five_cells (set5_at (y0 := .int .i64 0) (y1 := .string ⟨#[]⟩) (y2 := .string ⟨#[]⟩) (y3 := .slice none 0 0) (y4 := .slice none 0 0) HK.out.res)
      have hfin := HK.out.no (y0 := .int .i64 0) (y1 := .string ⟨#[]⟩) (y2 := .string ⟨#[]⟩) (y3 := .slice none 0 0) (y4 := .slice none 0 0) hRl
      unfold set5 at t0 t1 t2 t3 t4 hfin
      exact bodyPost_ret (v := .tuple #[zeroQ, .bool false]) (by simp [results, Tryz.results78, go_sem, t0, t1, t2, t3, t4]) rfl hfin
    · have e0 : (GK == 0) = false := by rw [beq_eq_false_iff_ne]; exact hk0
      rw [if_pos rfl, if_neg hk0] at HPC
      obtain ⟨j0, hj0, hj1, hj2, hj3⟩ := info_parts info_query
      clear hk0
      go_enter Tryz.func78, Tryz.ntmps78
      go_wp2_with (first
        | (go_at_call 79; rw [show w.alloc _ = w1 from HW1.out.symm]; (with_reducible refine HU.out.mono ?_); rintro e w2 ⟨rfl, hr2, ho2⟩; have hn2 := HN.out w2 ho2; have hk3 := HK3.out w2 hr2 ho2; have HN2 := Lib.hid hn2; obtain ⟨⟨s0, s1', s2, s3, s4⟩, g0, g1, g2, g3, g4⟩ := five_cells hk3.res; have HK := Lib.hid hk3; clear hr2 ho2 hn2 hk3)
        | (go_at_call 110; (with_reducible refine HN2.out.mono ?_); rintro e w3 ⟨rfl, rfl⟩))
      obtain ⟨B, hB⟩ : ∃ B, B = w2.heap.size := ⟨_, rfl⟩
      rw [← hB]
      rw [← hB] at HK
      obtain ⟨w3, hw3⟩ : ∃ w3, w3 = w2.alloc (.cells #[.int .i64 GK, .string ⟨#[]⟩, .string ⟨#[]⟩, .slice none 0 0, .slice none 0 0] 27) := ⟨_, rfl⟩
      rw [← hw3]
      rw [← hw3] at HK
      clear hw3 hB s0 s1' s2 s3 s4 g0 g1 g2 g3 g4
      go_loopg [7] 9 (fun g u wr => KidsRel w R B GK d rd s1 g u wr)
      case atStart => exact ⟨[], s1, _, true, rfl, rfl, Nat.zero_le _, HS1.out, HK.out, fun _ => ⟨by decide, by cases kidsR rd 8 s1 <;> rfl⟩, fun h => by cases h⟩
      case round =>
        obtain ⟨l, t, v, b, rfl, hlg, hl8, htl, hkr, hyes, hno⟩ := hrel
        obtain ⟨A4, c5, ds, rfl, -⟩ := hkr.own.slice
        have hBl := hkr.size
        cases b with
        | false =>
          have hks := hno rfl
          rw [hks] at HPC
          have hkd : KidsRd w R B GK t d l (.slice A4 l.length c5) wr.drew := hkr.later hRl (⟨rfl, rfl, rfl, Nat.le_refl _, fun _ _ => rfl⟩)
          obtain ⟨b', hb'⟩ : ∃ b', b' = (preV 41 t).2 := ⟨_, rfl⟩
          obtain ⟨t', ht'⟩ : ∃ t', t' = (preV 41 t).1 := ⟨_, rfl⟩
          have hTK := query_take 41 R t d wr.drew hkd.rd
          have HPC2 : Hid (res = if b' = true then some (Qy.mk GK ([], []) [] l, t') else none) := Lib.hid (by rw [hb', ht']; exact HPC.out)
          rw [← hb', ← ht'] at hTK
          have HTK := Lib.hid hTK
          have HKD := Lib.hid hkd
          obtain ⟨n, hn⟩ : ∃ n, n = l.length := ⟨_, rfl⟩
          rw [← hn] at HKD
          obtain ⟨⟨q0, q1, q2, q3, q4⟩, -⟩ := five_cells hkr.at_
          rw [← hn] at q4
          have HN' := Lib.hid hn
          clear hks hkd hb' ht' hTK hn hkr hyes hno htl hl8 hlg
          go_wp2
          go_region_with (go_at_call 77; (with_reducible refine HTK.out.mono ?_); rintro e w9 ⟨rfl, hr9, ho9⟩; have hk9 := HKD.out.step hRl ho9 hr9; obtain ⟨⟨p0, p1, p2, p3, p4⟩, -⟩ := five_cells hk9.at_; obtain ⟨⟨s0, s1', s2, s3, s4⟩, g0, g1, g2, g3, g4⟩ := five_cells hk9.res; have HK9 := Lib.hid hk9; clear hr9 ho9 hk9)
          all_goals
            go_wp2
            obtain ⟨⟨t0, t1, t2, t3, t4⟩, -⟩ := five_cells (set5_at (y0 := .int .i64 GK) (y1 := .string ⟨#[]⟩) (y2 := .string ⟨#[]⟩) (y3 := .slice none 0 0) (y4 := .slice A4 n c5) HK9.out.res)
            have hfin := HK9.out.fin hRl HN'.out.symm HPC2.out
            unfold set5 at t0 t1 t2 t3 t4 hfin
            exact bodyPost_ret (v := .tuple #[qV GK ⟨#[]⟩ ⟨#[]⟩ none 0 0 A4 n c5, .bool b']) (by simp [results, Tryz.results78, go_sem, t0, t1, t2, t3, t4]) rfl hfin
        | true =>
          obtain ⟨hj8, hks⟩ := hyes rfl
          clear hyes hno
          obtain ⟨j, hj⟩ : ∃ j, j = l.length := ⟨_, rfl⟩
          rw [← hj] at hlg hl8 hj8 hks hkr
          obtain ⟨m, hm⟩ : ∃ m, 8 - j = m + 1 := ⟨7 - j, by omega⟩
          rw [hm] at hks
          have hQC := HQ.out R t wr hkr.rd (HG.out wr hkr.only) hR2 htl
          have HQC := Lib.hid hQC
          have HKR := Lib.hid hkr
          cases hrd : rd t with
          | none =>
            rw [kidsR_none hrd] at hks
            have hnone : res = none := by rw [HPC.out, hks]; rfl
            subst hnone
            rw [hrd] at HQC
            clear hks hkr hQC hrd
            go_wp2_with (go_at_call 38; (with_reducible refine HQC.out.mono ?_); rintro e w6 ⟨k6, f6, x6, A6, n6, c6, K6, m6, d6, b6, s6, rfl, hr6, ho6, hm6⟩; have hk7 := (HKR.out.step hRl ho6 hr6).later hRl ((Below.refl w6.heap.size w6).alloc (Nat.le_refl _) (.cells #[.int .i64 k6, .string f6, .string x6, .slice A6 n6 c6, .slice K6 m6 d6] 27)); obtain ⟨⟨s0, s1', s2, s3, s4⟩, g0, g1, g2, g3, g4⟩ := five_cells hk7.res; have HK7 := Lib.hid hk7; have e6 : b6 = false := hm6; subst e6; clear hr6 ho6 hm6 hk7)
            obtain ⟨⟨t0, t1, t2, t3, t4⟩, -⟩ := five_cells (set5_at (y0 := .int .i64 0) (y1 := .string ⟨#[]⟩) (y2 := .string ⟨#[]⟩) (y3 := .slice none 0 0) (y4 := .slice none 0 0) HK7.out.res)
            have hfin := HK7.out.no (y0 := .int .i64 0) (y1 := .string ⟨#[]⟩) (y2 := .string ⟨#[]⟩) (y3 := .slice none 0 0) (y4 := .slice none 0 0) hRl
            unfold set5 at t0 t1 t2 t3 t4 hfin
            exact bodyPost_ret (v := .tuple #[zeroQ, .bool false]) (by simp [results, Tryz.results78, go_sem, t0, t1, t2, t3, t4]) rfl hfin
          | some y =>
            obtain ⟨q, r⟩ := y
            rw [hrd] at HQC
            have hrl := HL.out t q r hrd
            obtain ⟨cs, h1, h2⟩ := hkr.own
            rw [← hj] at h1
            have HO := Lib.hid h1
            have HQS := Lib.hid h2
            have HJ := Lib.hid hj
            have hln : (l ++ [q]).length = j + 1 := by rw [List.length_append, ← hj]; rfl
            by_cases hm0 : 0 < m
            · obtain ⟨b', hb'⟩ : ∃ b', b' = (preV 32 r).2 := ⟨_, rfl⟩
              obtain ⟨t', ht'⟩ : ∃ t', t' = (preV 32 r).1 := ⟨_, rfl⟩
              have htl' := preV_length 32 r
              have hyes : b' = true → (l ++ [q]).length < 8 ∧ kidsR rd 8 s1 = preKs (l ++ [q]) (kidsR rd (8 - (l ++ [q]).length) t') := fun e => by
                rw [hln]
                refine ⟨by omega, ?_⟩
                rw [hks, kidsR_more hm0 hrd (hb'.symm.trans e), preKs_pre, ht', show 8 - (j + 1) = m by omega]
              have hno : b' = false → kidsR rd 8 s1 = some (l ++ [q], t') := fun e => by
                rw [hks, kidsR_stop hrd (hb'.symm.trans e), ht', preV_false (hb'.symm.trans e)]
                rfl
              have HYES := Lib.hid hyes
              have HNO := Lib.hid hno
              have HTK : Hid (∀ w9, RdAt w9 R r d → Calls Tryz.prog 77 #[.pointer (some ⟨R, 0, none⟩), .string ⟨#[32]⟩] w9 fun e w' => e = .returned (.bool b') ∧ RdAt w' R t' d ∧ OnlyR R w9 w') := Lib.hid fun w9 h9 => by
                rw [hb', ht']
                exact query_take 32 R r d w9 h9
              have htl2 : t'.length < 4294967281 := by rw [ht']; omega
              have d8 : ((j + 1 : Nat) : Int) < 8 := by omega
              have HLN := Lib.hid hln
              clear hks hkr hQC hrd h1 h2 hj hb' ht' htl' hyes hno hm hln hrl
              go_wp2_with (first
                | (go_at_call 38; (with_reducible refine HQC.out.mono ?_); rintro e w6 ⟨k6, f6, x6, A6, n6, c6, K6, m6, d6, b6, s6, rfl, hr6, ho6, hm6⟩
                   obtain ⟨e6, e6', hq6⟩ := hm6
                   subst e6 e6'
                   have hq4 : ∀ o, (w6.alloc o).cell? ⟨B, 4, none⟩ = some (.slice A4 j c5) := fun o => (five_cells ((HKR.out.step hRl ho6 hr6).later hRl ((Below.refl w6.heap.size w6).alloc (Nat.le_refl _) o)).at_).1.2.2.2.2
                   have hq5 : ∀ o o', ((w6.alloc o).alloc o').cell? ⟨B, 4, none⟩ = some (.slice A4 j c5) := fun o o' => (five_cells ((HKR.out.step hRl ho6 hr6).later hRl (((Below.refl w6.heap.size w6).alloc (Nat.le_refl _) o).alloc (by simp) o')).at_).1.2.2.2.2
                   have HR6 := Lib.hid hr6
                   have HO6 := Lib.hid ho6
                   have HQ6 := Lib.hid hq6.cells
                   have HW6 : Hid (w6.ownsRow (B + 1) 27 5 (.slice A4 j c5) j cs) := Lib.hid (owned_keep HO.out fun g hg => ho6.block g (HO.out.lt g hg).2 (by have := (HO.out.lt g hg).1; have := HKR.out.lt; omega))
                   clear hr6 ho6 hq6)
                | (at_builtin; refine wpList_append_lies _ rfl (.tmp 44) (.tmp 46) 25 rfl (B + 1) 27 j0 _ 5 88 Tryz.underlying25 hj0 hj1 hj2 hj3 rfl (by omega) (.slice A4 j c5) j cs rfl ((HW6.out.alloc _).alloc _)
                     ⟨w6.heap.size + 1, 0, none⟩ 1 1 (qC k6 f6 x6 A6 n6 c6 K6 m6 d6) rfl rfl (World.news_of_block (cs := #[.int .i64 k6, .string f6, .string x6, .slice A6 n6 c6, .slice K6 m6 d6]) (t := 27) (fr := (0, 0)) (by have := heap_alloc_new (w6.alloc (.cells #[.int .i64 k6, .string f6, .string x6, .slice A6 n6 c6, .slice K6 m6 d6] 27)) (.cells #[.int .i64 k6, .string f6, .string x6, .slice A6 n6 c6, .slice K6 m6 d6] 27); simpa using this)) HQ6.out.one
                     (by omega) (by unfold maxLen; omega) (by omega) (by have := HO6.out.size; have := HKR.out.size; simp; omega) (w6.heap.size + 2) (by simp) ?_
                   intro gg cap w8 hown8 hgrow hat8 hlt8
                   obtain ⟨⟨c8, f8⟩, hd8⟩ := HKR.out.push (g := gg) hRl (by rw [← HJ.out]; exact HO.out) HQS.out HO6.out HR6.out HQ6.out (((Below.refl w6.heap.size w6).alloc (Nat.le_refl _) _).alloc (by simp) _) (by rw [← HJ.out]; exact hown8) hgrow rfl (hat8.imp id fun h => by omega)
                   obtain ⟨⟨_, _, _, _, c9⟩, -⟩ := five_cells hd8.at_
                   have HD8 := Lib.hid hd8
                   clear hown8 hgrow hat8 hlt8 hd8)
                | (go_at_call 77; (with_reducible refine (HTK.out _ HD8.out.rd).mono ?_); rintro e w10 ⟨rfl, hr10, ho10⟩
                   have HD10 := Lib.hid (HD8.out.step hRl ho10 hr10)
                   clear hr10 ho10))
              go_roundg (gk - 1)
              case measure => omega
              case rel => exact ⟨l ++ [q], t', _, b', rfl, by rw [HLN.out]; omega, by rw [HLN.out]; omega, htl2, HD10.out, HYES.out, HNO.out⟩
            · have hm1 : m = 0 := by omega
              have hlast : kidsR rd 8 s1 = some (l ++ [q], r) := by
                rw [hks, hm1, kidsR_last hrd]
                rfl
              have HLAST := Lib.hid hlast
              have d8 : ¬ ((j + 1 : Nat) : Int) < 8 := by omega
              have HLN := Lib.hid hln
              have htl2 : r.length < 4294967281 := by omega
              clear hks hkr hQC hrd h1 h2 hj hm hln hrl hm1 hlast hm0
              go_wp2_with (first
                | (go_at_call 38; (with_reducible refine HQC.out.mono ?_); rintro e w6 ⟨k6, f6, x6, A6, n6, c6, K6, m6, d6, b6, s6, rfl, hr6, ho6, hm6⟩
                   obtain ⟨e6, e6', hq6⟩ := hm6
                   subst e6 e6'
                   have hq4 : ∀ o, (w6.alloc o).cell? ⟨B, 4, none⟩ = some (.slice A4 j c5) := fun o => (five_cells ((HKR.out.step hRl ho6 hr6).later hRl ((Below.refl w6.heap.size w6).alloc (Nat.le_refl _) o)).at_).1.2.2.2.2
                   have hq5 : ∀ o o', ((w6.alloc o).alloc o').cell? ⟨B, 4, none⟩ = some (.slice A4 j c5) := fun o o' => (five_cells ((HKR.out.step hRl ho6 hr6).later hRl (((Below.refl w6.heap.size w6).alloc (Nat.le_refl _) o).alloc (by simp) o')).at_).1.2.2.2.2
                   have HR6 := Lib.hid hr6
                   have HO6 := Lib.hid ho6
                   have HQ6 := Lib.hid hq6.cells
                   have HW6 : Hid (w6.ownsRow (B + 1) 27 5 (.slice A4 j c5) j cs) := Lib.hid (owned_keep HO.out fun g hg => ho6.block g (HO.out.lt g hg).2 (by have := (HO.out.lt g hg).1; have := HKR.out.lt; omega))
                   clear hr6 ho6 hq6)
                | (at_builtin; refine wpList_append_lies _ rfl (.tmp 44) (.tmp 46) 25 rfl (B + 1) 27 j0 _ 5 88 Tryz.underlying25 hj0 hj1 hj2 hj3 rfl (by omega) (.slice A4 j c5) j cs rfl ((HW6.out.alloc _).alloc _)
                     ⟨w6.heap.size + 1, 0, none⟩ 1 1 (qC k6 f6 x6 A6 n6 c6 K6 m6 d6) rfl rfl (World.news_of_block (cs := #[.int .i64 k6, .string f6, .string x6, .slice A6 n6 c6, .slice K6 m6 d6]) (t := 27) (fr := (0, 0)) (by have := heap_alloc_new (w6.alloc (.cells #[.int .i64 k6, .string f6, .string x6, .slice A6 n6 c6, .slice K6 m6 d6] 27)) (.cells #[.int .i64 k6, .string f6, .string x6, .slice A6 n6 c6, .slice K6 m6 d6] 27); simpa using this)) HQ6.out.one
                     (by omega) (by unfold maxLen; omega) (by omega) (by have := HO6.out.size; have := HKR.out.size; simp; omega) (w6.heap.size + 2) (by simp) ?_
                   intro gg cap w8 hown8 hgrow hat8 hlt8
                   obtain ⟨⟨c8, f8⟩, hd8⟩ := HKR.out.push (g := gg) hRl (by rw [← HJ.out]; exact HO.out) HQS.out HO6.out HR6.out HQ6.out (((Below.refl w6.heap.size w6).alloc (Nat.le_refl _) _).alloc (by simp) _) (by rw [← HJ.out]; exact hown8) hgrow rfl (hat8.imp id fun h => by omega)
                   obtain ⟨⟨_, _, _, _, c9⟩, -⟩ := five_cells hd8.at_
                   have HD8 := Lib.hid hd8
                   clear hown8 hgrow hat8 hlt8 hd8))
              go_roundg (gk - 1)
              case measure => omega
              case rel => exact ⟨l ++ [q], _, _, false, rfl, by rw [HLN.out]; omega, by rw [HLN.out]; omega, htl2, HD8.out, (fun e => by cases e), fun _ => HLAST.out⟩
end Go.Proofs.YtolfkhflbjnakaaGreatDoor

/- A text that is read: a query, however deep it stands. -/
namespace Go.Proofs.YtolfkhflbjnakaaGreatDoor
open Go Go.RowKit Go.Shelf
set_option linter.unusedVariables false

theorem readQ_length (n : Nat) (s : Nm) (q : Qy) (r : Nm) (h : readQ n s = some (q, r)) : r.length ≤ s.length := by
  rw [read_text n s q r h, List.length_append]
  omega
theorem query_ok : ∀ n : Nat, n ≤ 6 → QueryOK (readQ n) (6 - (n : Int))
  | 0, _ => fun R s w h hg hR hs => query_over R s w h
  | n + 1, hn => fun R s w h hg hR hs => by
    have hf : readQ (n + 1) s = stepR (readQ n) s := readQ_step n s
    rw [hf]
    have hd : (6 - ((n + 1 : Nat) : Int)) + 1 = 6 - (n : Int) := by omega
    exact query_step (readQ n) (6 - ((n + 1 : Nat) : Int)) (by omega) (by omega) (Lib.hid (by rw [hd]; exact parts_ok (readQ n) _ (Lib.hid (query_ok n (by omega))) (Lib.hid (readQ_length n)))) R s w h hg hR hs
/-- Reading at the top. -/
theorem query_top (R : Nat) (s : Nm) (w : World) (h : RdAt w R s 0) (hg : Glob w) (hR : 2 ≤ R) (hs : s.length < 4294967281) : Calls Tryz.prog 38 #[.pointer (some ⟨R, 0, none⟩)] w (GaveRd (readQ 6 s) R 0 w) :=
  query_ok 6 (Nat.le_refl _) R s w h hg hR hs
end Go.Proofs.YtolfkhflbjnakaaGreatDoor

/- What is read of a text that is not too long is not too large, and not deeper than it may stand. Plain; no program. -/
set_option linter.unusedVariables false
namespace Go.Proofs.YtolfkhflbjnakaaGreatDoor
open Go

theorem deepL_le {n : Nat} : ∀ {l : List Qy}, (∀ q ∈ l, deepQ q ≤ n) → deepL l ≤ n
  | [], _ => by rw [deepL]; omega
  | q :: l, h => by
    rw [deepL]
    have h1 := h q (List.mem_cons_self ..)
    have h2 := deepL_le fun x hx => h x (List.mem_cons_of_mem _ hx)
    omega
theorem kidsR_all {rd : Nm → Option (Qy × Nm)} {P : Qy → Prop} {L : Nat} (h : ∀ s q r, rd s = some (q, r) → s.length ≤ L → P q ∧ r.length ≤ s.length) : ∀ {m : Nat} {s : Nm} {ks : List Qy} {r : Nm}, kidsR rd m s = some (ks, r) → s.length ≤ L → (∀ q ∈ ks, P q) ∧ ks.length ≤ m
  | 0, s, ks, r, hk, hs => by
    rw [kidsR] at hk
    simp only [Option.some.injEq, Prod.mk.injEq] at hk
    obtain ⟨rfl, rfl⟩ := hk
    exact ⟨fun q hq => (by cases hq), Nat.zero_le _⟩
  | m + 1, s, ks, r, hk, hs => by
    rw [kidsR] at hk
    cases hr : rd s with
    | none => rw [hr] at hk; cases hk
    | some y =>
      obtain ⟨q, r1⟩ := y
      rw [hr] at hk
      obtain ⟨hP, hl⟩ := h _ _ _ hr hs
      have one : ∀ x ∈ [q], P x := fun x hx => by simp at hx; subst hx; exact hP
      simp only at hk
      cases r1 with
      | nil =>
        simp only [Option.some.injEq, Prod.mk.injEq] at hk
        obtain ⟨rfl, rfl⟩ := hk
        exact ⟨one, by simp⟩
      | cons c r' =>
        simp only at hk
        split at hk
        · rename_i hc
          cases hk2 : kidsR rd m r' with
          | none => rw [hk2] at hk; cases hk
          | some z =>
            obtain ⟨ks', r2⟩ := z
            rw [hk2] at hk
            simp only [Option.some.injEq, Prod.mk.injEq] at hk
            obtain ⟨rfl, rfl⟩ := hk
            simp only [List.length_cons] at hl
            obtain ⟨h1, h2⟩ := kidsR_all h hk2 (by omega)
            exact ⟨fun x hx => (List.mem_cons.1 hx).elim (fun e => e ▸ hP) (h1 x), by simp only [List.length_cons]; omega⟩
        · simp only [Option.some.injEq, Prod.mk.injEq] at hk
          obtain ⟨rfl, rfl⟩ := hk
          exact ⟨one, by simp⟩
theorem cutB_length {c : UInt8} {s a b : Nm} (h : cutB c s = some (a, b)) : a.length ≤ s.length ∧ b.length ≤ s.length := by
  have := congrArg List.length (cutB_some h).1
  simp only [List.length_append, List.length_cons] at this
  omega
theorem wordR_length (s : Nm) : (wordR s).1.length ≤ s.length := by
  have := congrArg List.length (wordR_is s)
  rw [List.length_append] at this
  omega
theorem read_fine : ∀ (n : Nat) (s : Nm) (q : Qy) (r : Nm), readQ n s = some (q, r) → s.length ≤ 100000000 → FineQ q ∧ deepQ q ≤ n
  | 0, _, _, _, h, _ => by cases h
  | n + 1, s, q, r, h, hs => by
    cases s with
    | nil => cases h
    | cons c s1 =>
      have hs0 : s1.length ≤ 100000000 := by simp only [List.length_cons] at hs; omega
      rw [readQ] at h
      split at h
      · unfold partsR at h
        cases h1 : cutB 32 s1 with
        | none => rw [h1] at h; cases h
        | some y =>
          obtain ⟨name, s2⟩ := y
          rw [h1] at h
          have hl1 := (cutB_length h1).2
          simp only at h
          split at h
          · cases h
          · cases h2 : kidsR (readQ n) 8 s2 with
            | none => rw [h2] at h; cases h
            | some z =>
              obtain ⟨ks, s3⟩ := z
              rw [h2] at h
              simp only at h
              cases s3 with
              | nil => cases h
              | cons c s4 =>
                simp only at h
                split at h
                · simp only [Option.some.injEq, Prod.mk.injEq] at h
                  obtain ⟨rfl, rfl⟩ := h
                  obtain ⟨g1, g2⟩ := kidsR_all (P := fun q => FineQ q ∧ deepQ q ≤ n) (L := 100000000) (fun s q r hr hl => ⟨read_fine n s q r hr hl, by rw [read_text n s q r hr, List.length_append]; omega⟩) h2 (by omega)
                  refine ⟨?_, ?_⟩
                  · rw [FineQ]
                    exact ⟨⟨Nat.zero_le _, Nat.zero_le _⟩, ⟨Nat.zero_le _, fun w hw => by cases hw⟩, by omega, fineL_of fun q hq => (g1 q hq).1⟩
                  · rw [deepQ]
                    have := deepL_le fun q hq => (g1 q hq).2
                    omega
                · cases h
      · unfold leafR at h
        cases h1 : cutB 58 (c :: s1) with
        | none => rw [h1] at h; cases h
        | some y =>
          obtain ⟨field, s2⟩ := y
          rw [h1] at h
          have hl1 := cutB_length h1
          have hd0 : deepQ (.mk 1 (field, []) [] []) = 1 := rfl
          cases s2 with
          | nil =>
            simp only [Option.some.injEq, Prod.mk.injEq] at h
            obtain ⟨rfl, rfl⟩ := h
            refine ⟨?_, by rw [hd0]; omega⟩
            rw [FineQ]
            exact ⟨⟨Nat.le_trans hl1.1 hs, Nat.zero_le _⟩, ⟨Nat.zero_le _, fun w hw => by cases hw⟩, Nat.zero_le _, by rw [FineL]; trivial⟩
          | cons d s3 =>
            simp only at h
            split at h
            · unfold phraseR at h
              cases h2 : cutB 34 s3 with
              | none => rw [h2] at h; cases h
              | some z =>
                obtain ⟨ws, s4⟩ := z
                rw [h2] at h
                have hl2 := (cutB_length h2).1
                have hl3 := hl1.2
                simp only [List.length_cons] at hl3
                simp only [Option.some.injEq, Prod.mk.injEq] at h
                obtain ⟨rfl, rfl⟩ := h
                refine ⟨?_, by rw [deepQ, deepL]; omega⟩
                rw [FineQ]
                simp only [List.length_cons] at hl1 hs
                exact ⟨⟨by show field.length ≤ _; omega, Nat.zero_le _⟩, ⟨by have := splitW_length 6 ws; omega, fun w hw => by have := splitW_size 6 ws w hw; omega⟩, Nat.zero_le _, by rw [FineL]; trivial⟩
            · simp only [Option.some.injEq, Prod.mk.injEq] at h
              obtain ⟨rfl, rfl⟩ := h
              refine ⟨?_, by rw [deepQ, deepL]; omega⟩
              rw [FineQ]
              have := wordR_length (d :: s3)
              exact ⟨⟨Nat.le_trans hl1.1 hs, by show (wordR (d :: s3)).1.length ≤ _; omega⟩, ⟨Nat.zero_le _, fun w hw => by cases hw⟩, Nat.zero_le _, by rw [FineL]; trivial⟩
end Go.Proofs.YtolfkhflbjnakaaGreatDoor

/- Package query's Parse: a text's query. -/
namespace Go.Proofs.YtolfkhflbjnakaaGreatDoor
open Go Go.RowKit Go.Shelf
set_option linter.unusedVariables false

/-- What Parse answers: a query of new memory, or ErrForm. -/
def GaveP (res : Option Qy) (w : World) (e : Ending) (w' : World) : Prop := Below w.heap.size w w' ∧ match res with
  | none => e = .returned (.tuple #[zeroQ, .int .i64 2])
  | some q => ∃ v, e = .returned (.tuple #[v, .int .i64 0]) ∧ QV (fun b => w.heap.size ≤ b ∧ b < w'.heap.size) w' q v
/-- Behind the reading: the reader's block, the answer's block; all else is as it was. -/
structure PAt (w : World) (s' : Nm) (w6 : World) : Prop where
  bel : Below w.heap.size w w6
  rd : RdAt w6 (w.heap.size + 1) s' 0
  res : w6.heap[w.heap.size]? = some (.cells #[.int .i64 0, .string ⟨#[]⟩, .string ⟨#[]⟩, .slice none 0 0, .slice none 0 0] 27 (0, 0))
theorem PAt.later {w w6 w7 : World} {s' : Nm} (h : PAt w s' w6) (hb : Below w6.heap.size w6 w7) : PAt w s' w7 := by
  have hz := h.rd.lt
  exact ⟨h.bel.trans (hb.mono (by omega)), h.rd.below hb, (hb.block _ (by omega)).trans h.res⟩
theorem PAt.fin {w w6 : World} {s' : Nm} {y0 y1 y2 y3 y4 : Value} (h : PAt w s' w6) : Below w.heap.size w (set5 w6 w.heap.size y0 y1 y2 y3 y4) := set5_below h.bel (Nat.le_refl _)
theorem QV.below {z : Nat} {w w' : World} {q : Qy} {v : Value} (h : QV (fun b => z ≤ b ∧ b < w.heap.size) w q v) (hb : Below w.heap.size w w') : QV (fun b => z ≤ b ∧ b < w'.heap.size) w' q v :=
  (QV.keep h fun b hb' => hb.block b hb'.2).imp fun b hb' => ⟨hb'.1, Nat.lt_of_lt_of_le hb'.2 hb.size⟩
theorem QV.inw {z : Nat} {w : World} {q : Qy} {v : Value} (h : QV (fun b => z ≤ b ∧ b < w.heap.size) w q v) : QIn w q v := QV.imp h fun b hb => hb.2
set_option maxHeartbeats 4000000 in
set_option maxRecDepth 100000 in
theorem query_Parse (s : Nm) (w : World) (hg : Glob w) (hs : s.length ≤ 100000000) : Calls Tryz.prog 21 #[.string ⟨s.toArray⟩] w (GaveP (parseQ s) w) := by
  obtain ⟨w1, hw1⟩ : ∃ w1, w1 = (w.alloc (.cells #[.int .i64 0, .string ⟨#[]⟩, .string ⟨#[]⟩, .slice none 0 0, .slice none 0 0] 27)).alloc (.cells #[.string ⟨s.toArray⟩, .int .i64 0] 67) := ⟨_, rfl⟩
  have hsz := hg.size
  have hsa : (w.alloc (.cells #[.int .i64 0, .string ⟨#[]⟩, .string ⟨#[]⟩, .slice none 0 0, .slice none 0 0] 27)).heap.size = w.heap.size + 1 := by simp
  have hp1 : PAt w s w1 := by
    rw [hw1]
    have h1 := heap_alloc_new w (.cells #[.int .i64 0, .string ⟨#[]⟩, .string ⟨#[]⟩, .slice none 0 0, .slice none 0 0] 27)
    have h2 := heap_alloc_new (w.alloc (.cells #[.int .i64 0, .string ⟨#[]⟩, .string ⟨#[]⟩, .slice none 0 0, .slice none 0 0] 27)) (.cells #[.string ⟨s.toArray⟩, .int .i64 0] 67)
    rw [hsa] at h2
    exact ⟨((Below.refl _ _).alloc (Nat.le_refl _) _).alloc (by simp) _, h2, by rw [Below.heap_alloc _ _ _ (by omega)]; exact h1⟩
  have hs1 : w1.heap.size = w.heap.size + 2 := by rw [hw1]; simp
  have hQT := query_top (w.heap.size + 1) s w1 hp1.rd (hg.below hp1.bel hsz) (by omega) (by omega)
  have HP : Hid (∀ w6 s', RdAt w6 (w.heap.size + 1) s' 0 → OnlyR (w.heap.size + 1) w1 w6 → PAt w s' w6) := Lib.hid fun w6 s' hr ho => by
    refine ⟨?_, hr, (ho.block _ (by omega) (by omega)).trans hp1.res⟩
    exact ⟨ho.os.trans hp1.bel.os, ho.tape.trans hp1.bel.tape, ho.output.trans hp1.bel.output, Nat.le_trans hp1.bel.size ho.size, fun k hk => (ho.block k (by omega) (by omega)).trans (hp1.bel.block k hk)⟩
  obtain ⟨rq, hrq⟩ : ∃ rq, rq = readQ 6 s := ⟨_, rfl⟩
  obtain ⟨res, hres⟩ : ∃ res, res = parseQ s := ⟨_, rfl⟩
  have hpq : res = match (generalizing := false) rq with | none => none | some (q, r) => if r ≠ [] ∨ mayQ 1 q ≠ 0 then none else some q := by rw [hres, hrq]; rfl
  have hfine : ∀ q r, rq = some (q, r) → FineQ q ∧ deepQ q ≤ 6 := fun q r e => read_fine 6 s q r (hrq.symm.trans e) hs
  rw [← hres]
  rw [← hrq] at hQT
  have HW1 := Lib.hid hw1
  have HQT := Lib.hid hQT
  have HS1 := Lib.hid hs1
  clear hw1 hg hsz hsa hp1 hs1 hQT hrq hres hs
  cases rq with
  | none =>
    simp only [] at hpq
    subst hpq
    clear hfine
    go_enter Tryz.func21, Tryz.ntmps21
    go_wp2_with (go_at_call 38; rw [show (w.alloc _).alloc _ = w1 from HW1.out.symm]; (with_reducible refine HQT.out.mono ?_); rintro e w6 ⟨k6, f6, x6, A6, n6, c6, K6, m6, d6, b6, s6, rfl, hr6, ho6, hm6⟩; have hp7 := (HP.out w6 s6 hr6 ho6).later ((Below.refl w6.heap.size w6).alloc (Nat.le_refl _) (.cells #[.int .i64 k6, .string f6, .string x6, .slice A6 n6 c6, .slice K6 m6 d6] 27)); have e6 : b6 = false := hm6; subst e6; obtain ⟨⟨s0, s1, s2, s3, s4⟩, g0, g1, g2, g3, g4⟩ := five_cells hp7.res; have HP7 := Lib.hid hp7; clear hr6 ho6 hm6 hp7)
    obtain ⟨⟨t0, t1, t2, t3, t4⟩, -⟩ := five_cells (set5_at (y0 := .int .i64 0) (y1 := .string ⟨#[]⟩) (y2 := .string ⟨#[]⟩) (y3 := .slice none 0 0) (y4 := .slice none 0 0) HP7.out.res)
    have hfin : GaveP none w (.returned (.tuple #[zeroQ, .int .i64 2])) _ := ⟨HP7.out.fin (y0 := .int .i64 0) (y1 := .string ⟨#[]⟩) (y2 := .string ⟨#[]⟩) (y3 := .slice none 0 0) (y4 := .slice none 0 0), rfl⟩
    unfold set5 at t0 t1 t2 t3 t4 hfin
    exact bodyPost_ret (v := .tuple #[zeroQ, .int .i64 2]) (by simp [results, Tryz.results21, go_sem, t0, t1, t2, t3, t4]) rfl hfin
  | some y =>
    obtain ⟨q, r⟩ := y
    simp only [] at hpq
    obtain ⟨hf, hd⟩ := hfine q r rfl
    have HF := Lib.hid hf
    have HD := Lib.hid hd
    clear hfine hf hd
    by_cases hr : r = []
    · obtain ⟨M, hM⟩ : ∃ M, M = mayQ 1 q := ⟨_, rfl⟩
      rw [← hM] at hpq
      have HM : Hid (∀ (w7 : World) v, QIn w7 q v → Calls Tryz.prog 14 #[v] w7 fun e w' => e = .returned (.int .i64 M) ∧ Below w7.heap.size w7 w') := Lib.hid fun w7 v hv => by
        rw [hM]
        exact query_May q v w7 (by have := HD.out; omega) hv HF.out
      by_cases hm : M = 0
      · rw [if_neg (fun h => h.elim (fun h => h hr) (fun h => h hm))] at hpq
        subst hpq hm
        clear hM
        go_enter Tryz.func21, Tryz.ntmps21
        go_wp2_with (first
          | (go_at_call 38; rw [show (w.alloc _).alloc _ = w1 from HW1.out.symm]; (with_reducible refine HQT.out.mono ?_); rintro e w6 ⟨k6, f6, x6, A6, n6, c6, K6, m6, d6, b6, s6, rfl, hr6, ho6, hm6⟩; have hp7 := (HP.out w6 s6 hr6 ho6).later ((Below.refl w6.heap.size w6).alloc (Nat.le_refl _) (.cells #[.int .i64 k6, .string f6, .string x6, .slice A6 n6 c6, .slice K6 m6 d6] 27)); obtain ⟨e6, e6', hq6⟩ := hm6; subst e6 e6'; obtain ⟨⟨s0, s1, s2, s3, s4⟩, g0, g1, g2, g3, g4⟩ := five_cells hp7.res; obtain ⟨r0, -, -, -⟩ := two_cells hp7.rd; have HQ6 := Lib.hid hq6; have HB6 := Lib.hid ho6.size; have HP7 := Lib.hid hp7; clear hr6 ho6 hp7 hq6)
          | (go_at_call 14; (with_reducible refine (HM.out (w6.alloc (.cells #[.int .i64 k6, .string f6, .string x6, .slice A6 n6 c6, .slice K6 m6 d6] 27)) (qV k6 f6 x6 A6 n6 c6 K6 m6 d6) (HQ6.out.below ((Below.refl _ _).alloc (Nat.le_refl _) _)).inw).mono ?_)
             rintro e w8 ⟨rfl, hb8⟩
             have hp8 := HP7.out.later hb8
             have hk8 : w8.heap[w6.heap.size]? = some (.cells #[.int .i64 k6, .string f6, .string x6, .slice A6 n6 c6, .slice K6 m6 d6] 27 (0, 0)) := (hb8.block _ (by simp)).trans (heap_alloc_new w6 _)
             have hq8 : QV (fun b => w1.heap.size ≤ b ∧ b < w8.heap.size) w8 q (qV k6 f6 x6 A6 n6 c6 K6 m6 d6) := (HQ6.out.below ((Below.refl _ _).alloc (Nat.le_refl _) _)).below hb8
             obtain ⟨⟨s0, s1, s2, s3, s4⟩, g0, g1, g2, g3, g4⟩ := five_cells hp8.res
             obtain ⟨⟨i0, i1, i2, i3, i4⟩, -⟩ := five_cells hk8
             have HQ8 := Lib.hid hq8
             have HP8 := Lib.hid hp8
             clear hb8 hp8 hk8 hq8))
        obtain ⟨⟨t0, t1, t2, t3, t4⟩, -⟩ := five_cells (set5_at (y0 := .int .i64 k6) (y1 := .string f6) (y2 := .string x6) (y3 := .slice A6 n6 c6) (y4 := .slice K6 m6 d6) HP8.out.res)
        have hfin : GaveP (some q) w (.returned (.tuple #[qV k6 f6 x6 A6 n6 c6 K6 m6 d6, .int .i64 0])) _ := ⟨HP8.out.fin (y0 := .int .i64 k6) (y1 := .string f6) (y2 := .string x6) (y3 := .slice A6 n6 c6) (y4 := .slice K6 m6 d6), _, rfl, (HQ8.out.keep fun b hb => set5_ne (by have := HS1.out; omega)).imp fun b hb => ⟨by have := HS1.out; omega, by rw [set5_size]; exact hb.2⟩⟩
        unfold set5 at t0 t1 t2 t3 t4 hfin
        exact bodyPost_ret (v := .tuple #[qV k6 f6 x6 A6 n6 c6 K6 m6 d6, .int .i64 0]) (by simp [results, Tryz.results21, go_sem, t0, t1, t2, t3, t4]) rfl hfin
      · rw [if_pos (.inr hm)] at hpq
        subst hpq
        have hm2 : (M != 0) = true := by rw [bne_iff_ne]; exact hm
        clear hM hm
        go_enter Tryz.func21, Tryz.ntmps21
        go_wp2_with (first
          | (go_at_call 38; rw [show (w.alloc _).alloc _ = w1 from HW1.out.symm]; (with_reducible refine HQT.out.mono ?_); rintro e w6 ⟨k6, f6, x6, A6, n6, c6, K6, m6, d6, b6, s6, rfl, hr6, ho6, hm6⟩; have hp7 := (HP.out w6 s6 hr6 ho6).later ((Below.refl w6.heap.size w6).alloc (Nat.le_refl _) (.cells #[.int .i64 k6, .string f6, .string x6, .slice A6 n6 c6, .slice K6 m6 d6] 27)); obtain ⟨e6, e6', hq6⟩ := hm6; subst e6 e6'; obtain ⟨⟨s0, s1, s2, s3, s4⟩, g0, g1, g2, g3, g4⟩ := five_cells hp7.res; obtain ⟨r0, -, -, -⟩ := two_cells hp7.rd; have HQ6 := Lib.hid hq6; have HB6 := Lib.hid ho6.size; have HP7 := Lib.hid hp7; clear hr6 ho6 hp7 hq6)
          | (go_at_call 14; (with_reducible refine (HM.out (w6.alloc (.cells #[.int .i64 k6, .string f6, .string x6, .slice A6 n6 c6, .slice K6 m6 d6] 27)) (qV k6 f6 x6 A6 n6 c6 K6 m6 d6) (HQ6.out.below ((Below.refl _ _).alloc (Nat.le_refl _) _)).inw).mono ?_)
             rintro e w8 ⟨rfl, hb8⟩
             have hp8 := HP7.out.later hb8
             have hk8 : w8.heap[w6.heap.size]? = some (.cells #[.int .i64 k6, .string f6, .string x6, .slice A6 n6 c6, .slice K6 m6 d6] 27 (0, 0)) := (hb8.block _ (by simp)).trans (heap_alloc_new w6 _)
             have hq8 : QV (fun b => w1.heap.size ≤ b ∧ b < w8.heap.size) w8 q (qV k6 f6 x6 A6 n6 c6 K6 m6 d6) := (HQ6.out.below ((Below.refl _ _).alloc (Nat.le_refl _) _)).below hb8
             obtain ⟨⟨s0, s1, s2, s3, s4⟩, g0, g1, g2, g3, g4⟩ := five_cells hp8.res
             obtain ⟨⟨i0, i1, i2, i3, i4⟩, -⟩ := five_cells hk8
             have HQ8 := Lib.hid hq8
             have HP8 := Lib.hid hp8
             clear hb8 hp8 hk8 hq8))
        obtain ⟨⟨t0, t1, t2, t3, t4⟩, -⟩ := five_cells (set5_at (y0 := .int .i64 0) (y1 := .string ⟨#[]⟩) (y2 := .string ⟨#[]⟩) (y3 := .slice none 0 0) (y4 := .slice none 0 0) HP8.out.res)
        have hfin : GaveP none w (.returned (.tuple #[zeroQ, .int .i64 2])) _ := ⟨HP8.out.fin (y0 := .int .i64 0) (y1 := .string ⟨#[]⟩) (y2 := .string ⟨#[]⟩) (y3 := .slice none 0 0) (y4 := .slice none 0 0), rfl⟩
        unfold set5 at t0 t1 t2 t3 t4 hfin
        exact bodyPost_ret (v := .tuple #[zeroQ, .int .i64 2]) (by simp [results, Tryz.results21, go_sem, t0, t1, t2, t3, t4]) rfl hfin
    · rw [if_pos (.inl hr)] at hpq
      subst hpq
      go_enter Tryz.func21, Tryz.ntmps21
      go_wp2_with (go_at_call 38; rw [show (w.alloc _).alloc _ = w1 from HW1.out.symm]; (with_reducible refine HQT.out.mono ?_); rintro e w6 ⟨k6, f6, x6, A6, n6, c6, K6, m6, d6, b6, s6, rfl, hr6, ho6, hm6⟩; have hp7 := (HP.out w6 s6 hr6 ho6).later ((Below.refl w6.heap.size w6).alloc (Nat.le_refl _) (.cells #[.int .i64 k6, .string f6, .string x6, .slice A6 n6 c6, .slice K6 m6 d6] 27)); obtain ⟨e6, e6', hq6⟩ := hm6; subst e6 e6'; obtain ⟨⟨s0, s1, s2, s3, s4⟩, g0, g1, g2, g3, g4⟩ := five_cells hp7.res; obtain ⟨r0, -, -, -⟩ := two_cells hp7.rd; have HQ6 := Lib.hid hq6; have HB6 := Lib.hid ho6.size; have HP7 := Lib.hid hp7; clear hr6 ho6 hp7 hq6)
      obtain ⟨⟨t0, t1, t2, t3, t4⟩, -⟩ := five_cells (set5_at (y0 := .int .i64 0) (y1 := .string ⟨#[]⟩) (y2 := .string ⟨#[]⟩) (y3 := .slice none 0 0) (y4 := .slice none 0 0) HP7.out.res)
      have hfin : GaveP none w (.returned (.tuple #[zeroQ, .int .i64 2])) _ := ⟨HP7.out.fin (y0 := .int .i64 0) (y1 := .string ⟨#[]⟩) (y2 := .string ⟨#[]⟩) (y3 := .slice none 0 0) (y4 := .slice none 0 0), rfl⟩
      unfold set5 at t0 t1 t2 t3 t4 hfin
      exact bodyPost_ret (v := .tuple #[zeroQ, .int .i64 2]) (by simp [results, Tryz.results21, go_sem, t0, t1, t2, t3, t4]) rfl hfin
end Go.Proofs.YtolfkhflbjnakaaGreatDoor
