/- Texts laid together: Follow08, BoxT08, PhraseD08, Tie08, Lives08, Count08, Has08. -/
import Derived.Test.YthpecegifilgoaaGr08
import Derived.Test.YthpecegifilgoaaQ14
import Derived.Test.YthpecegifilgoaaQ07
import Derived.Test.YthpecegifilgoaaQ01
import Derived.Shelf.Slices.Empties
import Derived.Deep.RegionHeld3
import Derived.Test.YthpecegifilgoaaInv08

/- What follow answers: do words stand in a field from a place on? -/
namespace Go.Proofs.Ythpecegifilgoaa
open Go Go.RowKit Go.Shelf
set_option linter.unusedVariables false

theorem bin_I (base : Nat) (v : Value) (l : List Int) (x : Int) (w : World) (ho : OwnI base w v l) (hs : l.Pairwise (· < ·)) (hl : l.length ≤ 1073741824) :
    Calls Try.prog 57 #[v, .int .i64 x] w fun e w' => (∃ i : Int, e = .returned (.tuple #[.int .i64 i, .bool (decide (x ∈ l))])) ∧ Below w.heap.size w w' := by
  have hsle : (l.take l.length).Pairwise (· ≤ ·) := by rw [List.take_length]; exact hs.imp fun h => Int.le_of_lt h
  obtain ⟨A, c, rfl, _, hrow⟩ := owned_row ho
  rcases hrow with h0 | ⟨b, off, rfl, hb, hc⟩
  · have : l = [] := by simpa [ints] using h0
    subst this
    refine (Any.slices_BinarySearch_int_empty (ρ := layBinInt_ren) layBinInt A c x w).mono ?_
    rintro e w' ⟨rfl, rfl⟩
    exact ⟨⟨0, by simp⟩, Below.refl _ _⟩
  · refine (Any.slices_BinarySearch_int (ρ := layBinInt_ren) layBinInt b off l.length c l x w (Nat.le_refl _) (by omega) (fun j hj => ?_) hsle).mono ?_
    · have := hc j (.int .i64 l[j]) (by simp [ints, hj])
      rw [this, List.getD_eq_getElem?_getD, List.getElem?_eq_getElem hj]
      rfl
    · rintro e w' ⟨rfl, q, rfl⟩
      refine ⟨⟨((l.take l.length).countP (· < x) : Nat), ?_⟩, drewN_below _ _⟩
      simp

/-- Do the words stand there, by the groups? -/
def followG (g : List Gr) (f : Nm) : List Nm → Int → Bool
  | [], _ => true
  | x :: ws, a => decide (a ∈ getG g (f, x)) && followG g f ws (a + 1)
theorem followG_at {g : List Gr} {f : Nm} {ws : List Nm} {k : Nat} (hk : k < ws.length) (a : Int) : followG g f (ws.drop k) a = (decide (a ∈ getG g (f, ws[k])) && followG g f (ws.drop (k + 1)) (a + 1)) := by
  rw [List.drop_eq_getElem_cons hk, followG]
def FollowRel (g : List Gr) (f : Nm) (ws : List Nm) (a : Int) (r : Bool) (w : World) (o i : Value) (wr : World) : Prop :=
  o = .bool false ∧ ∃ k : Nat, k ≤ ws.length ∧ i = .int .i64 (k : Int) ∧ followG g f (ws.drop k) (a + k) = r ∧ Below w.heap.size w wr

set_option maxHeartbeats 2000000 in
set_option maxRecDepth 100000 in
theorem doc_follow (base B : Nat) (g : List Gr) (f : ByteArray) (A : Option Addr) (n c : Nat) (ws : List Nm) (a : Int) (w : World) (hg : GrAt base w B g) (hl : ws.length = n) (hr : Row w w.heap.size A (strs ws)) (hn : n ≤ 1048576) (ha : 0 ≤ a) (ha2 : a ≤ 1073741824)
    (hs : ∀ t, (getG g t).Pairwise (· < ·)) (hgl : ∀ t, (getG g t).length ≤ 1073741824) :
    Calls Try.prog 44 #[.map (some B), .string f, .slice A n c, .int .i64 a] w fun e w' => e = .returned (.bool (followG g f.data.toList ws a)) ∧ Below w.heap.size w w' := by
  subst hl
  have HG := Lib.hid hg
  have HR := Lib.hid hr
  have HS := Lib.hid hs
  have HGL := Lib.hid hgl
  obtain ⟨r, hres⟩ : ∃ r, r = followG g f.data.toList ws a := ⟨_, rfl⟩
  rw [← hres]
  have HRES := Lib.hid hres
  clear hg hr hs hgl hres
  go_enter Try.func44, Try.ntmps44
  go_wp2
  go_loopw [8, 15] (fun o i wr => FollowRel g f.data.toList ws a r w o i wr) (fun _ i _ => ws.length - (intOf i).toNat)
  case atStart => exact ⟨rfl, 0, by omega, rfl, by rw [HRES.out]; simp, Below.refl _ _⟩
  case round =>
    obtain ⟨rfl, k, hk, rfl, hgo, hbw⟩ := hrel
    by_cases hlt : k < ws.length
    · obtain ⟨b2, o2, e2, hb2, hg1⟩ := row_nm (HR.out.below hbw) hlt
      subst e2
      obtain ⟨x, hx, hx2⟩ := as_text ws[k]
      rw [← hx] at hg1
      rw [followG_at hlt, ← hx2] at hgo
      have hgr := HG.out.below hbw
      obtain ⟨v, ⟨m, hm, hv⟩, hown⟩ := hgr.look (f.data.toList, x.data.toList)
      have j0 : (0 : Int) ≤ k := by omega
      have j1 : (k : Int) < ws.length := by omega
      have ho2 := bin_I base v (getG g (f.data.toList, x.data.toList)) (a + k) wr hown (HS.out _) (HGL.out _)
      have e1 : wrap64 (a + k) = a + k := by unfold wrap64; omega
      have hk1 : a + ((k + 1 : Nat) : Int) = a + k + 1 := by push_cast; omega
      rw [← hk1] at hgo
      cases hd : decide (a + k ∈ getG g (f.data.toList, x.data.toList)) <;> rw [hd] at ho2 hgo
      all_goals
        have HGO := Lib.hid hgo
        have HO2 := Lib.hid ho2
        have HBW := Lib.hid hbw
        clear hx hx2 hgo ho2 hd hbw hgr hown hk1
        go_wp2_with (first
          | (refine wpList_lookup_tm _ (by rfl) _ _ (by rfl) B m (f.data.toList, x.data.toList) (by rfl) hm (by rfl) ?_
             rw [hv])
          | (go_at_call 57; (with_reducible refine HO2.out.mono ?_); rintro e w5 ⟨⟨i5, rfl⟩, hb5⟩))
      · go_ret
        refine ⟨ret_bool ?_, HBW.out.trans (hb5.mono HBW.out.size)⟩
        rw [← HGO.out]
        rfl
      · exact ⟨⟨rfl, k + 1, by omega, by go_num, by rw [← HGO.out]; rfl, HBW.out.trans (hb5.mono HBW.out.size)⟩, by simp [intOf]; omega⟩
    · have hkl : k = ws.length := by omega
      subst hkl
      rw [List.drop_length] at hgo
      have HGO := Lib.hid hgo
      have HBW := Lib.hid hbw
      clear hgo hbw
      go_wp2
      go_ret
      exact ⟨ret_bool (by rw [← HGO.out]; rfl), HBW.out⟩
end Go.Proofs.Ythpecegifilgoaa

/- A document and a term in blocks of their own. -/
namespace Go.Proofs.Ythpecegifilgoaa
open Go Go.RowKit
set_option linter.unusedVariables false

/-- A document in a block of its own, a term in the next one. -/
def boxDT (w : World) (id : Int) (A : Option Addr) (n c : Nat) (f x : ByteArray) : World := (boxD w id A n c).alloc (.cells #[.string f, .string x] 43)
theorem boxDT_size (w : World) (id : Int) (A : Option Addr) (n c : Nat) (f x : ByteArray) : (boxDT w id A n c f x).heap.size = w.heap.size + 2 := by simp [boxDT, boxD]
theorem boxDT_of {w wr : World} {id : Int} {A : Option Addr} {n c : Nat} {f x : ByteArray} (h : Below (boxDT w id A n c f x).heap.size (boxDT w id A n c f x) wr) :
    Below w.heap.size w wr ∧ wr.cell? ⟨w.heap.size, 0, none⟩ = some (.int .i64 id) ∧ wr.cell? ⟨w.heap.size, 1, none⟩ = some (.slice A n c) ∧ wr.cell? ⟨w.heap.size + 1, 0, none⟩ = some (.string f) ∧ wr.cell? ⟨w.heap.size + 1, 1, none⟩ = some (.string x) := by
  have hs := boxDT_size w id A n c f x
  have h0 : Below (boxD w id A n c).heap.size (boxD w id A n c) (boxDT w id A n c f x) := (Below.refl _ _).alloc (Nat.le_refl _) _
  have h1 : Below (boxD w id A n c).heap.size (boxD w id A n c) wr := h0.trans (h.mono (by rw [hs, boxD_size]; omega))
  have hb : wr.heap[w.heap.size + 1]? = some (.cells #[.string f, .string x] 43 (0, 0)) := (h.block (w.heap.size + 1) (by omega)).trans (by have := heap_alloc_new (boxD w id A n c) (.cells #[.string f, .string x] 43); rwa [boxD_size] at this)
  obtain ⟨c0, c1⟩ := boxD_cells h1
  exact ⟨boxD_out h1, c0, c1, by simp [World.cell?, hb], by simp [World.cell?, hb]⟩

theorem boxDT_below (w : World) (id : Int) (A : Option Addr) (n c : Nat) (f x : ByteArray) : Below w.heap.size w (boxDT w id A n c f x) := (boxD_below w id A n c).alloc (by simp [boxD]) _
end Go.Proofs.Ythpecegifilgoaa

/- What Phrase answers. -/
namespace Go.Proofs.Ythpecegifilgoaa
open Go Go.RowKit
set_option linter.unusedVariables false

theorem row_rest {w : World} {B b o c : Nat} {x : Nm} {r : List Nm} {AN : Addr} (h : Row w B (some ⟨b, o, none⟩) (strs (x :: r))) (hc : r.length + 1 ≤ c) (hA : (if c = 1 then some (⟨b, o, none⟩ : Addr) else some ⟨b, o + 1, none⟩) = some AN) : Row w B (some AN) (strs r) := by
  by_cases h1 : c = 1
  · have : r = [] := List.eq_nil_of_length_eq_zero (by omega)
    subst this
    exact .inl rfl
  · rw [if_neg h1] at hA
    rw [← hA]
    have := h.dropped 1
    simpa using this
/-- Of the places from the k-th on, at how many the words stand. -/
def standG (g : List Gr) (f : Nm) (ws : List Nm) (at_ : List Int) : Nat := (at_.filter fun a => followG g f ws (a + 1)).length
theorem standG_at {g : List Gr} {f : Nm} {ws : List Nm} {l : List Int} {k : Nat} (hk : k < l.length) : standG g f ws (l.drop k) = (if followG g f ws (l[k] + 1) = true then 1 else 0) + standG g f ws (l.drop (k + 1)) := by
  unfold standG
  rw [List.drop_eq_getElem_cons hk, List.filter_cons]
  split <;> simp <;> omega
theorem standG_le (g : List Gr) (f : Nm) (ws : List Nm) (l : List Int) : standG g f ws l ≤ l.length := List.length_filter_le _ _
def PhraseDRel (g : List Gr) (f : Nm) (ws : List Nm) (l : List Int) (N : Nat) (w4 : World) (u i : Value) (wr : World) : Prop :=
  ∃ (k p : Nat), k ≤ l.length ∧ i = .int .i64 (k : Int) ∧ u = .int .i64 (p : Int) ∧ p ≤ k ∧ p + standG g f ws (l.drop k) = N ∧ Below w4.heap.size w4 wr

/-- How often words stand side by side, by the groups. -/
def phraseG (g : List Gr) (f : Nm) : List Nm → Nat
  | [] => 0
  | x :: r => standG g f r (getG g (f, x))

set_option maxHeartbeats 4000000 in
set_option maxRecDepth 100000 in
theorem doc_Phrase (id : Int) (A : Option Addr) (n c : Nat) (l : List Fd) (f : ByteArray) (A2 : Option Addr) (n2 c2 : Nat) (ws : List Nm) (w : World) (hl : l.length = n) (hr : FRow w w.heap.size A l) (hn : n ≤ 100) (ht : ∀ f ∈ l, f.2.length ≤ 268435456) (hw : ∀ f ∈ l, (words f.2).length ≤ 1048576)
    (hl2 : ws.length = n2) (hr2 : Row w w.heap.size A2 (strs ws)) (hn2 : n2 ≤ 1048576) (hc2 : n2 ≤ c2) (hs : ∀ t, (placesS (tellD l) t).Pairwise (· < ·)) (hp : ∀ t, ∀ a ∈ placesS (tellD l) t, 0 ≤ a ∧ a ≤ 1048576) :
    Calls Try.prog 28 #[docV id A n c, .string f, .slice A2 n2 c2] w fun e w' => e = .returned (.int .i64 (phraseG (groupsT (tellD l)) f.data.toList ws : Int)) ∧ Below w.heap.size w w' := by
  have hS := fun w' (h : Below w.heap.size w w') => doc_stands id A n c l w' hl (hr.later h) hn ht hw
  have hlen := tellD_len (M := 1048576) l hw
  have hlen2 : (tellD l).length ≤ 104857600 := Nat.le_trans hlen (Nat.le_trans (Nat.mul_le_mul_right _ (by omega : l.length ≤ 100)) (by omega))
  cases ws with
  | nil =>
    have HB := Lib.hid (boxD_below w id A n c)
    have hn0 : n2 = 0 := by simpa using hl2.symm
    subst hn0
    clear hS hr ht hw hr2 hs hp hlen hlen2
    go_enter Try.func28, Try.ntmps28
    go_wp2
    go_ret
    exact ⟨rfl, HB.out⟩
  | cons x0 r =>
    obtain ⟨b2, o2, e2, hb2, hg1⟩ := row_nm (xs := x0 :: r) (k := 0) hr2 (by simp)
    subst e2
    obtain ⟨AN, hAN⟩ : ∃ AN : Addr, (if c2 = 1 then some (⟨b2, o2, none⟩ : Addr) else some ⟨b2, o2 + 1, none⟩) = some AN := by split <;> exact ⟨_, rfl⟩
    rw [List.length_cons] at hl2
    have hrr : Row w w.heap.size (some AN) (strs r) := row_rest hr2 (by omega) hAN
    obtain ⟨x, hx, hx2⟩ := as_text x0
    rw [show (x0 :: r)[0] = x0 from rfl, ← hx] at hg1
    rw [← hx2]
    obtain ⟨g, hg⟩ : ∃ g, g = groupsT (tellD l) := ⟨_, rfl⟩
    have hgs : ∀ t, (getG g t).Pairwise (· < ·) := fun t => by rw [hg, getG_groups]; exact hs t
    have hgp : ∀ t, ∀ a ∈ getG g t, 0 ≤ a ∧ a ≤ 1048576 := fun t => by rw [hg, getG_groups]; exact hp t
    have hgl : ∀ t, (getG g t).length ≤ 104857600 := fun t => by rw [hg, getG_groups]; have := placesS_length (tellD l) t; omega
    have hS' : ∀ w', Below w.heap.size w w' → Calls Try.prog 37 #[docV id A n c] w' fun e w'' => ∃ B, e = .returned (.map (some B)) ∧ GrAt w'.heap.size w'' B g ∧ Below w'.heap.size w' w'' := fun w' h => by rw [hg]; exact hS w' h
    rw [← hg]
    obtain ⟨l2, hl2⟩ : ∃ l2, l2 = getG g (f.data.toList, x.data.toList) := ⟨_, rfl⟩
    obtain ⟨N, hN⟩ : ∃ N, N = phraseG g f.data.toList (x.data.toList :: r) := ⟨_, rfl⟩
    have hgo : standG g f.data.toList r l2 = N := by rw [hN, hl2]; rfl
    have hl2p : ∀ a ∈ l2, 0 ≤ a ∧ a ≤ 1048576 := by rw [hl2]; exact hgp _
    have hl2l : l2.length ≤ 104857600 := by rw [hl2]; exact hgl _
    rw [← hN]
    have HS := Lib.hid hS'
    have HGS := Lib.hid hgs
    have HGP := Lib.hid hl2p
    have HGL := Lib.hid fun t => Nat.le_trans (hgl t) (by omega : 104857600 ≤ 1073741824)
    have HGO := Lib.hid hgo
    have HL2 := Lib.hid hl2
    have HRR := Lib.hid hrr
    have HN2 : Hid (r.length = n2 - 1) := Lib.hid (by omega)
    have k0 : (0 : Int) < n2 := by omega
    have k1 : (1 : Int) ≤ n2 := by omega
    obtain ⟨w1, hw1⟩ : ∃ w1, w1 = boxD w id A n c := ⟨_, rfl⟩
    have hb1 : Below w.heap.size w w1 := by rw [hw1]; exact boxD_below _ _ _ _ _
    have hcc := boxD_cells (w := w) (id := id) (A := A) (n := n) (c := c) (Below.refl _ _)
    rw [← hw1] at hcc
    obtain ⟨hc0, hc1⟩ := hcc
    have hx1 : w1.cell? ⟨b2, o2, none⟩ = some (.string x) := (hb1.cell (p := ⟨b2, o2, none⟩) hb2).trans (by simpa using hg1)
    have HB1 := Lib.hid hb1
    have HW1 := Lib.hid hw1
    clear hS hS' hr ht hw hr2 hs hp hlen hlen2 hx hx2 hg hgs hgp hgl hl2 hN hgo hl2p hrr hb1 hw1 hg1
    go_enter Try.func28, Try.ntmps28
    go_wp2_with (first
      | (go_at_call 37; rw [show w.alloc _ = w1 from HW1.out.symm]
         (with_reducible refine (HS.out w1 HB1.out).mono ?_)
         rintro e w4 ⟨B, rfl, hg4, hb4⟩
         have hx4 : w4.cell? ⟨b2, o2, none⟩ = some (.string x) := (hb4.cell (p := ⟨b2, o2, none⟩) (by have := HB1.out.size; show b2 < _; omega)).trans hx1
         obtain ⟨v, ⟨m, hm, hv⟩, hown⟩ := hg4.look (f.data.toList, x.data.toList)
         rw [← HL2.out] at hown
         obtain ⟨A4, c4, rfl, _, hrow4⟩ := owned_row hown
         have HROW := Lib.hid hrow4
         have HB4 := Lib.hid hb4
         have HG4 := Lib.hid hg4
         have HM := Lib.hid hm
         have HV := Lib.hid hv
         clear hb4 hg4 hrow4 hown hm hv)
      | (refine wpList_lookup_tm _ (by rfl) _ _ (by rfl) B m (f.data.toList, x.data.toList) (by rfl) HM.out (by rfl) ?_
         rw [HV.out]))
    go_loopw [8, 24] (fun u i wr => PhraseDRel g f.data.toList r l2 N w4 u i wr) (fun _ i _ => l2.length - (intOf i).toNat)
    case atStart => exact ⟨0, 0, by omega, rfl, rfl, by omega, by rw [List.drop_zero, Nat.zero_add]; exact HGO.out, Below.refl _ _⟩
    case round =>
      obtain ⟨k, p, hk, rfl, rfl, hpk, hsum, hbw⟩ := hrel
      by_cases hlt : k < l2.length
      · obtain ⟨b5, o5, e5, hb5, hg5⟩ := row_int (HROW.out.below hbw) hlt
        subst e5
        rw [standG_at hlt] at hsum
        obtain ⟨hp0, hp1⟩ := HGP.out _ (List.getElem_mem hlt)
        obtain ⟨y, hy⟩ : ∃ y, y = l2[k] := ⟨_, rfl⟩
        rw [← hy] at hg5 hsum hp0 hp1
        have hww : Below w.heap.size w wr := HB1.out.trans ((HB4.out.trans (hbw.mono HB4.out.size)).mono HB1.out.size)
        have hF := doc_follow w1.heap.size B g f (some AN) (n2 - 1) (c2 - 1) r (y + 1) wr (HG4.out.below hbw) HN2.out ((HRR.out.below hww).more hww.size) (by omega) (by omega) (by omega) HGS.out HGL.out
        have j0 : (0 : Int) ≤ k := by omega
        have j1 : (k : Int) < l2.length := by omega
        have e1 : wrap64 (y + 1) = y + 1 := by unfold wrap64; omega
        cases hd : followG g f.data.toList r (y + 1) <;> rw [hd] at hF hsum
        all_goals
          have HSUM := Lib.hid hsum
          have HF := Lib.hid hF
          have HBW := Lib.hid hbw
          clear hy hsum hF hd hbw hww
          go_wp2_with (go_at_call 44; (with_reducible refine HF.out.mono ?_); rintro e w6 ⟨rfl, hb6⟩)
        · exact ⟨⟨k + 1, p, by omega, by go_num, rfl, by omega, by have := HSUM.out; simpa using this, HBW.out.trans (hb6.mono HBW.out.size)⟩, by simp [intOf]; omega⟩
        · exact ⟨⟨k + 1, p + 1, by omega, by go_num, by go_num, by omega, by have := HSUM.out; simp at this; omega, HBW.out.trans (hb6.mono HBW.out.size)⟩, by simp [intOf]; omega⟩
      · have hkl : k = l2.length := by omega
        subst hkl
        rw [List.drop_length] at hsum
        have hpN : p = N := by simpa [standG] using hsum
        subst hpN
        have HWW : Hid (Below w.heap.size w wr) := Lib.hid (HB1.out.trans ((HB4.out.trans (hbw.mono HB4.out.size)).mono HB1.out.size))
        clear hsum hbw
        go_wp2
        go_ret
        exact ⟨rfl, HWW.out⟩
end Go.Proofs.Ythpecegifilgoaa

/- What is told by groups is the document's own answer. No program. -/
set_option linter.unusedVariables false
namespace Go.Proofs.Ythpecegifilgoaa
open Go

theorem followG_W {l : List Fd} (ha : ApartF l) (f : Nm) : ∀ (ws : List Nm) (a : Nat), followG (groupsT (tellD l)) f ws (a : Int) = followW (wordsD l f) ws a
  | [], a => by simp [followG, followW]
  | x :: ws, a => by
    have ih := followG_W ha f ws (a + 1)
    rw [followG, getG_groups, placesS_D ha, show ((a : Int) + 1) = ((a + 1 : Nat) : Int) by push_cast; rfl, ih, Bool.eq_iff_iff, Bool.and_eq_true, decide_eq_true_iff]
    rw [follow_iff, follow_iff]
    constructor
    · rintro ⟨h1, h2⟩ k hk
      cases k with
      | zero => exact h1
      | succ k =>
        have := h2 k (by simpa using hk)
        rw [show a + (k + 1) = a + 1 + k by omega]
        exact this
    · intro h
      refine ⟨h 0 (by simp), fun k hk => ?_⟩
      have := h (k + 1) (by simpa using hk)
      rw [show a + 1 + k = a + (k + 1) by omega]
      exact this
theorem places_bd {l : List Fd} (ha : ApartF l) {M : Nat} (hw : ∀ s, (wordsD l s).length ≤ M) (t : Tm) : ∀ a ∈ placesS (tellD l) t, 0 ≤ a ∧ a ≤ M := by
  intro a h
  rw [placesS_D ha] at h
  obtain ⟨k, h1, h2⟩ := (placesW_mem _ _ _ _).1 h
  have := (List.getElem?_eq_some_iff.1 h2).1
  have := hw t.1
  omega
theorem places_rise {l : List Fd} (ha : ApartF l) (t : Tm) : (placesS (tellD l) t).Pairwise (· < ·) := by
  rw [placesS_D ha]
  exact placesW_rise _ _ _
theorem phraseG_D {l : List Fd} (ha : ApartF l) (f : Nm) (ws : List Nm) : phraseG (groupsT (tellD l)) f ws = phraseD l f ws := by
  cases ws with
  | nil => rw [phraseG, phraseD, phraseW_nil]
  | cons x r =>
    rw [phraseG, phraseD_count, standG, getG_groups, placesS_D ha]
    congr 1
    apply List.filter_congr
    intro a h
    obtain ⟨k, h1, _⟩ := (placesW_mem _ _ _ _).1 h
    have := followG_W ha f r (a.toNat + 1)
    rw [← this]
    congr 1
    omega
end Go.Proofs.Ythpecegifilgoaa

/- The statements' lives: the document's example. -/
set_option linter.unusedVariables false
namespace Go.Proofs.Ythpecegifilgoaa
open Go Go.RowKit

def bab : List Fd := [([116], [98, 32, 97, 32, 98])]
theorem bab_terms : termsD bab = [([116], [97]), ([116], [98])] := by decide
theorem bab_places : (termsD bab).map (placesD bab) = [[1], [0, 2]] := by decide
theorem bab_phrase : phraseD bab [116] [[98], [97]] = 1 := by decide
theorem bab_may : mayD bab = 0 := by decide
theorem bab_words : ∀ f ∈ bab, (words f.2).length ≤ 1048576 := by decide
theorem bab_wordsD (s : Nm) : (wordsD bab s).length ≤ 1048576 := by
  unfold bab
  rw [wordsD]
  split
  · decide
  · simp [wordsD]
set_option maxHeartbeats 4000000 in
set_option maxRecDepth 100000 in
theorem law08_lives (w : World) : Calls Try.prog 18 #[] w fun e w' => e = .returned (.bool true) ∧ Below w.heap.size w w' := by
  obtain ⟨g1, g2, g3, g4, g5⟩ := mayD_of bab_may
  obtain ⟨w1, hw1⟩ : ∃ w1, w1 = w.alloc (.cells #[.string ⟨#[116]⟩, .string ⟨#[98, 32, 97, 32, 98]⟩] 31) := ⟨_, rfl⟩
  have hb1 : Below w.heap.size w w1 := by rw [hw1]; exact (Below.refl _ _).alloc (Nat.le_refl _) _
  have hr1 : FRow w1 w1.heap.size (some ⟨w.heap.size, 0, none⟩) bab := by
    rw [hw1]
    exact frow_new w ([116], [98, 32, 97, 32, 98]) 31
  obtain ⟨w2, hw2⟩ : ∃ w2, w2 = w1.alloc (.cells #[.int .i64 0, .slice (some ⟨w.heap.size, 0, none⟩) 1 1] 24) := ⟨_, rfl⟩
  have hb2 : Below w1.heap.size w1 w2 := by rw [hw2]; exact (Below.refl _ _).alloc (Nat.le_refl _) _
  have hr2 := hr1.later hb2
  have hd2 : ∀ w', Below w2.heap.size w2 w' → w'.cell? ⟨w.heap.size + 1, 0, none⟩ = some (.int .i64 0) ∧ w'.cell? ⟨w.heap.size + 1, 1, none⟩ = some (.slice (some ⟨w.heap.size, 0, none⟩) 1 1) := fun w' h => by
    have := boxD_cells (w := w1) (id := 0) (A := some ⟨w.heap.size, 0, none⟩) (n := 1) (c := 1) (wr := w') (by rw [hw2] at h; exact h)
    rw [show w1.heap.size = w.heap.size + 1 by rw [hw1]; simp] at this
    exact this
  have hI := doc_Invert 0 (some ⟨w.heap.size, 0, none⟩) 1 1 bab w2 rfl hr2 (by omega) (by decide) bab_words g3 g4
  rw [bab_places, bab_terms] at hI
  have HI := Lib.hid hI
  have HR2 := Lib.hid hr2
  have HD2 := Lib.hid hd2
  have HB2 : Hid (Below w.heap.size w w2) := Lib.hid (hb1.trans (hb2.mono hb1.size))
  have HW2 : Hid (w2 = (w.alloc (.cells #[.string ⟨#[116]⟩, .string ⟨#[98, 32, 97, 32, 98]⟩] 31)).alloc (.cells #[.int .i64 0, .slice (some ⟨w.heap.size, 0, none⟩) 1 1] 24)) := Lib.hid (by rw [hw2, hw1])
  have HAP := Lib.hid g3
  clear hI hr1 hr2 hd2 hb1 hb2 hw1 hw2 g1 g2 g3 g4 g5
  go_enter Try.func18, Try.ntmps18
  obtain ⟨d0, d1⟩ := HD2.out w2 (Below.refl _ _)
  go_wp2_with (first
    | (go_at_call 21; rw [show (w.alloc _).alloc _ = w2 from HW2.out.symm]
       (with_reducible refine HI.out.mono ?_)
       rintro e w3 ⟨v1, v2, rfl, ho1, ho2, hb3⟩
       obtain ⟨A1, c1, rfl, hc1, hr1⟩ := ho1.row
       obtain ⟨A2, c2, rfl, hc2, hr2⟩ := ho2.rows
       obtain ⟨ba, oa, rfl, hba, _, ha1⟩ := hr1.at_ (k := 0) (by simp)
       obtain ⟨_, _, hbb, _, _, hb1⟩ := hr1.at_ (k := 1) (by simp)
       cases hbb
       obtain ⟨bp, op, A3, c3, rfl, hbp, hp1, hc3, hr3⟩ := hr2.at_ (k := 1) (by simp)
       obtain ⟨bq, oq, rfl, hbq, hq1⟩ := row_int (k := 1) hr3 (by simp)
       obtain ⟨e0, e1⟩ := HD2.out w3 hb3
       have HB3 := Lib.hid hb3
       have hb4 : Below w3.heap.size w3 (w3.alloc (.cells #[.string ⟨#[98]⟩, .string ⟨#[97]⟩] 9)) := (Below.refl _ _).alloc (Nat.le_refl _) _
       have hws : Row (w3.alloc (.cells #[.string ⟨#[98]⟩, .string ⟨#[97]⟩] 9)) (w3.alloc (.cells #[.string ⟨#[98]⟩, .string ⟨#[97]⟩] 9)).heap.size (some ⟨w3.heap.size, 0, none⟩) (strs [[98], [97]]) := .inr ⟨w3.heap.size, 0, rfl, by simp, fun j u hu => by
         have := news_at w3 [.string ⟨#[98]⟩, .string ⟨#[97]⟩] 9 j u hu
         rw [Addr.add_lit] at this
         exact this⟩
       have hP := doc_Phrase 0 (some ⟨w.heap.size, 0, none⟩) 1 1 bab ⟨#[116]⟩ (some ⟨w3.heap.size, 0, none⟩) 2 2 [[98], [97]] (w3.alloc (.cells #[.string ⟨#[98]⟩, .string ⟨#[97]⟩] 9)) rfl ((HR2.out.later hb3).later hb4) (by omega) (by decide) bab_words rfl hws (by omega) (by omega) (fun t => places_rise HAP.out t) (fun t a h => places_bd HAP.out bab_wordsD t a h)
       rw [phraseG_D HAP.out] at hP
       have HP := Lib.hid hP
       have HB4 := Lib.hid hb4
       clear ho1 ho2 hr1 hr2 hr3 hb3 hb4 hws hP)
    | (go_at_call 28; (with_reducible refine HP.out.mono ?_); rintro e w5 ⟨rfl, hb5⟩; rw [show phraseD bab (⟨#[116]⟩ : ByteArray).data.toList [[98], [97]] = 1 from bab_phrase]))
  go_ret
  exact ⟨rfl, HB2.out.trans ((HB3.out.trans ((HB4.out.trans (hb5.mono HB4.out.size)).mono HB3.out.size)).mono HB2.out.size)⟩
end Go.Proofs.Ythpecegifilgoaa

/- What Count and Has answer. -/
namespace Go.Proofs.Ythpecegifilgoaa
open Go Go.RowKit
set_option linter.unusedVariables false

set_option maxHeartbeats 2000000 in
set_option maxRecDepth 100000 in
theorem doc_Count (id : Int) (A : Option Addr) (n c : Nat) (l : List Fd) (f x : ByteArray) (w : World) (hl : l.length = n) (hr : FRow w w.heap.size A l) (hn : n ≤ 100) (ht : ∀ f ∈ l, f.2.length ≤ 268435456) (hw : ∀ f ∈ l, (words f.2).length ≤ 1048576) :
    Calls Try.prog 26 #[docV id A n c, .agg #[.string f, .string x]] w fun e w' => e = .returned (.int .i64 ((placesS (tellD l) (f.data.toList, x.data.toList)).length : Int)) ∧ Below w.heap.size w w' := by
  have hS := fun w' (h : Below w.heap.size w w') => doc_stands id A n c l w' hl (hr.later h) hn ht hw
  have HS := Lib.hid hS
  obtain ⟨w1, hw1⟩ : ∃ w1, w1 = boxDT w id A n c f x := ⟨_, rfl⟩
  have hb1 : ∀ wr, Below w1.heap.size w1 wr → Below w.heap.size w wr ∧ wr.cell? ⟨w.heap.size, 0, none⟩ = some (.int .i64 id) ∧ wr.cell? ⟨w.heap.size, 1, none⟩ = some (.slice A n c) ∧ wr.cell? ⟨w.heap.size + 1, 0, none⟩ = some (.string f) ∧ wr.cell? ⟨w.heap.size + 1, 1, none⟩ = some (.string x) := fun wr h => by
    subst hw1
    exact boxDT_of h
  have HB1 := Lib.hid hb1
  have HW1 := Lib.hid hw1
  clear hS hr ht hw hb1 hw1
  obtain ⟨N, hN⟩ : ∃ N, N = (placesS (tellD l) (f.data.toList, x.data.toList)).length := ⟨_, rfl⟩
  rw [← hN]
  have HN := Lib.hid hN
  clear hN
  go_enter Try.func26, Try.ntmps26
  go_wp2
  rw [show (w.alloc _).alloc _ = w1 from HW1.out.symm]
  go_region_held3 (fun w' => w'.cell? ⟨w.heap.size, 0, none⟩ = some (.int .i64 id) ∧ w'.cell? ⟨w.heap.size, 1, none⟩ = some (.slice A n c) ∧ w'.cell? ⟨w.heap.size + 1, 0, none⟩ = some (.string f) ∧ w'.cell? ⟨w.heap.size + 1, 1, none⟩ = some (.string x))
    (first | exact (HB1.out _ (Below.refl _ _).drew).2 | exact (HB1.out _ HB4.out).2)
    (first
      | (go_at_call 37; (with_reducible refine (HS.out _ (HB1.out _ (Below.refl _ w1).drew).1).mono ?_); rintro e w4 ⟨B, rfl, hg4, hb4⟩
         obtain ⟨v, ⟨m, hm, hv⟩, hown⟩ := hg4.look (f.data.toList, x.data.toList)
         have hrun := run_lookup_tm hm (f.data.toList, x.data.toList)
         rw [hv, getG_groups] at *
         obtain ⟨A4, c4, rfl, _, _⟩ := owned_row hown
         rw [← HN.out] at *
         have hrun2 : Sem.run Try.prog (Instr.lookup 66 (.map (some B)) (.agg #[.string f, .string x]) false) w4 = .ok (.slice A4 N c4) w4 := hrun
         have HB4 : Hid (Below w1.heap.size w1 w4) := Lib.hid ((Below.refl _ w1).drew.trans hb4)
         clear hg4 hb4 hm hv hown hrun))
  all_goals
    go_wp2
    go_ret
    exact ⟨rfl, (HB1.out _ HB4.out).1⟩
end Go.Proofs.Ythpecegifilgoaa

/- What Has answers. -/
namespace Go.Proofs.Ythpecegifilgoaa
open Go Go.RowKit
set_option linter.unusedVariables false

set_option maxHeartbeats 1000000 in
theorem doc_Has (id : Int) (A : Option Addr) (n c : Nat) (l : List Fd) (f x : ByteArray) (w : World) (hl : l.length = n) (hr : FRow w w.heap.size A l) (hn : n ≤ 100) (ht : ∀ f ∈ l, f.2.length ≤ 268435456) (hw : ∀ f ∈ l, (words f.2).length ≤ 1048576) :
    Calls Try.prog 27 #[docV id A n c, .agg #[.string f, .string x]] w fun e w' => e = .returned (.bool (decide (0 < (placesS (tellD l) (f.data.toList, x.data.toList)).length))) ∧ Below w.heap.size w w' := by
  have hS := fun w' (h : Below w.heap.size w w') => doc_Count id A n c l f x w' hl (hr.later h) hn ht hw
  obtain ⟨N, hN⟩ : ∃ N, N = (placesS (tellD l) (f.data.toList, x.data.toList)).length := ⟨_, rfl⟩
  rw [← hN] at hS ⊢
  have HS := Lib.hid hS
  have HB := Lib.hid (boxDT_below w id A n c f x)
  clear hS hr ht hw hN
  go_enter Try.func27, Try.ntmps27
  go_wp2_with (go_at_call 26; refine (HS.out (boxDT w id A n c f x) HB.out).mono ?_; rintro e w4 ⟨rfl, hb4⟩)
  go_ret
  exact ⟨ret_bool (by simp), HB.out.trans (hb4.mono HB.out.size)⟩
end Go.Proofs.Ythpecegifilgoaa
