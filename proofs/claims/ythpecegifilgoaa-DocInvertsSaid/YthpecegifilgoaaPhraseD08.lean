/- What Phrase and Has answer. -/
import Derived.Test.YthpecegifilgoaaQ11
namespace Go.Proofs.Ythpecegifilgoaa
open Go Go.RowKit
set_option linter.unusedVariables false

set_option maxHeartbeats 1000000 in
theorem doc_Has (id : Int) (A : Option Addr) (n c : Nat) (l : List Fd) (f x : ByteArray) (w : World) (hl : l.length = n) (hr : FRow w w.heap.size A l) (hn : n ≤ 100) (ht : ∀ f ∈ l, f.2.length ≤ 268435456) (hw : ∀ f ∈ l, (words f.2).length ≤ 1048576) :
    Calls Try.prog 27 #[docV id A n c, .agg #[.string f, .string x]] w fun e w' => e = .returned (.bool (decide (0 < (placesS (tellD l) (f.data.toList, x.data.toList)).length))) ∧ Below w.heap.size w w' := by
  have hS := fun w' (h : Below w.heap.size w w') => doc_Count id A n c l f x w' hl (hr.later h) hn ht hw
  obtain ⟨N, hN⟩ : ∃ N, N = (placesS (tellD l) (f.data.toList, x.data.toList)).length := ⟨_, rfl⟩
  rw [← hN] at hS ⊢
  have HS := Lib.hid hS
  have HB := Lib.hid (boxDT_below w id A n c f x)
  clear hS hr ht hw hN
  go_enter Try.func27, Try.ntmps27
  go_wp2_with (go_at_call 26; refine (HS.out (boxDT w id A n c f x) HB.out).mono ?_; rintro e w4 ⟨rfl, hb4⟩)
  go_ret
  exact ⟨ret_bool (by simp), HB.out.trans (hb4.mono HB.out.size)⟩

theorem row_rest {w : World} {B b o c : Nat} {x : Nm} {r : List Nm} {AN : Addr} (h : Row w B (some ⟨b, o, none⟩) (strs (x :: r))) (hc : r.length + 1 ≤ c) (hA : (if c = 1 then some (⟨b, o, none⟩ : Addr) else some ⟨b, o + 1, none⟩) = some AN) : Row w B (some AN) (strs r) := by
  by_cases h1 : c = 1
  · have : r = [] := List.eq_nil_of_length_eq_zero (by omega)
    subst this
    exact .inl rfl
  · rw [if_neg h1] at hA
    rw [← hA]
    have := h.dropped 1
    simpa using this
/-- Of the places from the k-th on, at how many the words stand. -/
def standG (g : List Gr) (f : Nm) (ws : List Nm) (at_ : List Int) : Nat := (at_.filter fun a => followG g f ws (a + 1)).length
theorem standG_at {g : List Gr} {f : Nm} {ws : List Nm} {l : List Int} {k : Nat} (hk : k < l.length) : standG g f ws (l.drop k) = (if followG g f ws (l[k] + 1) = true then 1 else 0) + standG g f ws (l.drop (k + 1)) := by
  unfold standG
  rw [List.drop_eq_getElem_cons hk, List.filter_cons]
  split <;> simp <;> omega
theorem standG_le (g : List Gr) (f : Nm) (ws : List Nm) (l : List Int) : standG g f ws l ≤ l.length := List.length_filter_le _ _
def PhraseDRel (g : List Gr) (f : Nm) (ws : List Nm) (l : List Int) (N : Nat) (w4 : World) (u i : Value) (wr : World) : Prop :=
  ∃ (k p : Nat), k ≤ l.length ∧ i = .int .i64 (k : Int) ∧ u = .int .i64 (p : Int) ∧ p ≤ k ∧ p + standG g f ws (l.drop k) = N ∧ Below w4.heap.size w4 wr

/-- How often words stand side by side, by the groups. -/
def phraseG (g : List Gr) (f : Nm) : List Nm → Nat
  | [] => 0
  | x :: r => standG g f r (getG g (f, x))

set_option maxHeartbeats 4000000 in
set_option maxRecDepth 100000 in
theorem doc_Phrase (id : Int) (A : Option Addr) (n c : Nat) (l : List Fd) (f : ByteArray) (A2 : Option Addr) (n2 c2 : Nat) (ws : List Nm) (w : World) (hl : l.length = n) (hr : FRow w w.heap.size A l) (hn : n ≤ 100) (ht : ∀ f ∈ l, f.2.length ≤ 268435456) (hw : ∀ f ∈ l, (words f.2).length ≤ 1048576)
    (hl2 : ws.length = n2) (hr2 : Row w w.heap.size A2 (strs ws)) (hn2 : n2 ≤ 1048576) (hc2 : n2 ≤ c2) (hs : ∀ t, (placesS (tellD l) t).Pairwise (· < ·)) (hp : ∀ t, ∀ a ∈ placesS (tellD l) t, 0 ≤ a ∧ a ≤ 1048576) :
    Calls Try.prog 28 #[docV id A n c, .string f, .slice A2 n2 c2] w fun e w' => e = .returned (.int .i64 (phraseG (groupsT (tellD l)) f.data.toList ws : Int)) ∧ Below w.heap.size w w' := by
  have hS := fun w' (h : Below w.heap.size w w') => doc_stands id A n c l w' hl (hr.later h) hn ht hw
  have hlen := tellD_len (M := 1048576) l hw
  have hlen2 : (tellD l).length ≤ 104857600 := Nat.le_trans hlen (Nat.le_trans (Nat.mul_le_mul_right _ (by omega : l.length ≤ 100)) (by omega))
  cases ws with
  | nil =>
    have HB := Lib.hid (boxD_below w id A n c)
    have hn0 : n2 = 0 := by simpa using hl2.symm
    subst hn0
    clear hS hr ht hw hr2 hs hp hlen hlen2
    go_enter Try.func28, Try.ntmps28
    go_wp2
    go_ret
    exact ⟨rfl, HB.out⟩
  | cons x0 r =>
    obtain ⟨b2, o2, e2, hb2, hg1⟩ := row_nm (xs := x0 :: r) (k := 0) hr2 (by simp)
    subst e2
    obtain ⟨AN, hAN⟩ : ∃ AN : Addr, (if c2 = 1 then some (⟨b2, o2, none⟩ : Addr) else some ⟨b2, o2 + 1, none⟩) = some AN := by split <;> exact ⟨_, rfl⟩
    rw [List.length_cons] at hl2
    have hrr : Row w w.heap.size (some AN) (strs r) := row_rest hr2 (by omega) hAN
    obtain ⟨x, hx, hx2⟩ := as_text x0
    rw [show (x0 :: r)[0] = x0 from rfl, ← hx] at hg1
    rw [← hx2]
    obtain ⟨g, hg⟩ : ∃ g, g = groupsT (tellD l) := ⟨_, rfl⟩
    have hgs : ∀ t, (getG g t).Pairwise (· < ·) := fun t => by rw [hg, getG_groups]; exact hs t
    have hgp : ∀ t, ∀ a ∈ getG g t, 0 ≤ a ∧ a ≤ 1048576 := fun t => by rw [hg, getG_groups]; exact hp t
    have hgl : ∀ t, (getG g t).length ≤ 104857600 := fun t => by rw [hg, getG_groups]; have := placesS_length (tellD l) t; omega
    have hS' : ∀ w', Below w.heap.size w w' → Calls Try.prog 37 #[docV id A n c] w' fun e w'' => ∃ B, e = .returned (.map (some B)) ∧ GrAt w'.heap.size w'' B g ∧ Below w'.heap.size w' w'' := fun w' h => by rw [hg]; exact hS w' h
    rw [← hg]
    obtain ⟨l2, hl2⟩ : ∃ l2, l2 = getG g (f.data.toList, x.data.toList) := ⟨_, rfl⟩
    obtain ⟨N, hN⟩ : ∃ N, N = phraseG g f.data.toList (x.data.toList :: r) := ⟨_, rfl⟩
    have hgo : standG g f.data.toList r l2 = N := by rw [hN, hl2]; rfl
    have hl2p : ∀ a ∈ l2, 0 ≤ a ∧ a ≤ 1048576 := by rw [hl2]; exact hgp _
    have hl2l : l2.length ≤ 104857600 := by rw [hl2]; exact hgl _
    rw [← hN]
    have HS := Lib.hid hS'
    have HGS := Lib.hid hgs
    have HGP := Lib.hid hl2p
    have HGL := Lib.hid fun t => Nat.le_trans (hgl t) (by omega : 104857600 ≤ 1073741824)
    have HGO := Lib.hid hgo
    have HL2 := Lib.hid hl2
    have HRR := Lib.hid hrr
    have HN2 : Hid (r.length = n2 - 1) := Lib.hid (by omega)
    have k0 : (0 : Int) < n2 := by omega
    have k1 : (1 : Int) ≤ n2 := by omega
    obtain ⟨w1, hw1⟩ : ∃ w1, w1 = boxD w id A n c := ⟨_, rfl⟩
    have hb1 : Below w.heap.size w w1 := by rw [hw1]; exact boxD_below _ _ _ _ _
    have hcc := boxD_cells (w := w) (id := id) (A := A) (n := n) (c := c) (Below.refl _ _)
    rw [← hw1] at hcc
    obtain ⟨hc0, hc1⟩ := hcc
    have hx1 : w1.cell? ⟨b2, o2, none⟩ = some (.string x) := (hb1.cell (p := ⟨b2, o2, none⟩) hb2).trans (by simpa using hg1)
    have HB1 := Lib.hid hb1
    have HW1 := Lib.hid hw1
    clear hS hS' hr ht hw hr2 hs hp hlen hlen2 hx hx2 hg hgs hgp hgl hl2 hN hgo hl2p hrr hb1 hw1 hg1
    go_enter Try.func28, Try.ntmps28
    go_wp2_with (first
      | (go_at_call 37; rw [show w.alloc _ = w1 from HW1.out.symm]
         (with_reducible refine (HS.out w1 HB1.out).mono ?_)
         rintro e w4 ⟨B, rfl, hg4, hb4⟩
         have hx4 : w4.cell? ⟨b2, o2, none⟩ = some (.string x) := (hb4.cell (p := ⟨b2, o2, none⟩) (by have := HB1.out.size; show b2 < _; omega)).trans hx1
         obtain ⟨v, ⟨m, hm, hv⟩, hown⟩ := hg4.look (f.data.toList, x.data.toList)
         rw [← HL2.out] at hown
         obtain ⟨A4, c4, rfl, _, hrow4⟩ := owned_row hown
         have HROW := Lib.hid hrow4
         have HB4 := Lib.hid hb4
         have HG4 := Lib.hid hg4
         have HM := Lib.hid hm
         have HV := Lib.hid hv
         clear hb4 hg4 hrow4 hown hm hv)
      | (refine wpList_lookup_tm _ (by rfl) _ _ (by rfl) B m (f.data.toList, x.data.toList) (by rfl) HM.out (by rfl) ?_
         rw [HV.out]))
    go_loopw [8, 24] (fun u i wr => PhraseDRel g f.data.toList r l2 N w4 u i wr) (fun _ i _ => l2.length - (intOf i).toNat)
    case atStart => exact ⟨0, 0, by omega, rfl, rfl, by omega, by rw [List.drop_zero, Nat.zero_add]; exact HGO.out, Below.refl _ _⟩
    case round =>
      obtain ⟨k, p, hk, rfl, rfl, hpk, hsum, hbw⟩ := hrel
      by_cases hlt : k < l2.length
      · obtain ⟨b5, o5, e5, hb5, hg5⟩ := row_int (HROW.out.below hbw) hlt
        subst e5
        rw [standG_at hlt] at hsum
        obtain ⟨hp0, hp1⟩ := HGP.out _ (List.getElem_mem hlt)
        obtain ⟨y, hy⟩ : ∃ y, y = l2[k] := ⟨_, rfl⟩
        rw [← hy] at hg5 hsum hp0 hp1
        have hww : Below w.heap.size w wr := HB1.out.trans ((HB4.out.trans (hbw.mono HB4.out.size)).mono HB1.out.size)
        have hF := doc_follow w1.heap.size B g f (some AN) (n2 - 1) (c2 - 1) r (y + 1) wr (HG4.out.below hbw) HN2.out ((HRR.out.below hww).more hww.size) (by omega) (by omega) (by omega) HGS.out HGL.out
        have j0 : (0 : Int) ≤ k := by omega
        have j1 : (k : Int) < l2.length := by omega
        have e1 : wrap64 (y + 1) = y + 1 := by unfold wrap64; omega
        cases hd : followG g f.data.toList r (y + 1) <;> rw [hd] at hF hsum
        all_goals
          have HSUM := Lib.hid hsum
          have HF := Lib.hid hF
          have HBW := Lib.hid hbw
          clear hy hsum hF hd hbw hww
          go_wp2_with (go_at_call 44; (with_reducible refine HF.out.mono ?_); rintro e w6 ⟨rfl, hb6⟩)
        · exact ⟨⟨k + 1, p, by omega, by go_num, rfl, by omega, by have := HSUM.out; simpa using this, HBW.out.trans (hb6.mono HBW.out.size)⟩, by simp [intOf]; omega⟩
        · exact ⟨⟨k + 1, p + 1, by omega, by go_num, by go_num, by omega, by have := HSUM.out; simp at this; omega, HBW.out.trans (hb6.mono HBW.out.size)⟩, by simp [intOf]; omega⟩
      · have hkl : k = l2.length := by omega
        subst hkl
        rw [List.drop_length] at hsum
        have hpN : p = N := by simpa [standG] using hsum
        subst hpN
        have HWW : Hid (Below w.heap.size w wr) := Lib.hid (HB1.out.trans ((HB4.out.trans (hbw.mono HB4.out.size)).mono HB1.out.size))
        clear hsum hbw
        go_wp2
        go_ret
        exact ⟨rfl, HWW.out⟩
end Go.Proofs.Ythpecegifilgoaa
