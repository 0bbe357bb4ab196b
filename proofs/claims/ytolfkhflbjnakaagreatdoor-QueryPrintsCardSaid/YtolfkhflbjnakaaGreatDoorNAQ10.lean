/- Texts laid together: PhraseD08, Tie08, Count08, DocIn08, Words08, SameAny02, Phrase08, Counts12, LeafG12, NameD08, Tokensg, Same02g, RefFold. -/
import Derived.Test.YtolfkhflbjnakaaGreatDoorNAQ09
import Derived.Deep.RegionHeld3
import Derived.Test.YtolfkhflbjnakaaGreatDoorNAQ04
import Derived.Test.YtolfkhflbjnakaaGreatDoorNAQ05
import Derived.Test.YtolfkhflbjnakaaGreatDoorNAQ03
import Derived.BigCall
import Derived.BigQuiet
import Derived.Deep.QuietTactic
import Derived.Test.YtolfkhflbjnakaaGreatDoorNAQ08
import Derived.Test.YtolfkhflbjnakaaGreatDoorNAQ06
import Derived.Test.YtolfkhflbjnakaaGreatDoorNAQ02

/- What Phrase answers. -/
namespace Go.Proofs.YtolfkhflbjnakaaGreatDoor
open Go Go.RowKit
set_option linter.unusedVariables false


theorem row_rest {w : World} {B b o c : Nat} {x : Nm} {r : List Nm} {AN : Addr} (h : Row w B (some ⟨b, o, none⟩) (strs (x :: r))) (hc : r.length + 1 ≤ c) (hA : (if c = 1 then some (⟨b, o, none⟩ : Addr) else some ⟨b, o + 1, none⟩) = some AN) : Row w B (some AN) (strs r) := by
  by_cases h1 : c = 1
  · have : r = [] := List.eq_nil_of_length_eq_zero (by omega)
    subst this
    exact .inl rfl
  · rw [if_neg h1] at hA
    rw [← hA]
    have := h.dropped 1
    simpa using this
/-- Of the places from the k-th on, at how many the words stand. -/
def standG (g : List Gr) (f : Nm) (ws : List Nm) (at_ : List Int) : Nat := (at_.filter fun a => followG g f ws (a + 1)).length
theorem standG_at {g : List Gr} {f : Nm} {ws : List Nm} {l : List Int} {k : Nat} (hk : k < l.length) : standG g f ws (l.drop k) = (if followG g f ws (l[k] + 1) = true then 1 else 0) + standG g f ws (l.drop (k + 1)) := by
  unfold standG
  rw [List.drop_eq_getElem_cons hk, List.filter_cons]
  split <;> simp <;> omega
theorem standG_le (g : List Gr) (f : Nm) (ws : List Nm) (l : List Int) : standG g f ws l ≤ l.length := List.length_filter_le _ _
def PhraseDRel (g : List Gr) (f : Nm) (ws : List Nm) (l : List Int) (N : Nat) (w4 : World) (u i : Value) (wr : World) : Prop :=
  ∃ (k p : Nat), k ≤ l.length ∧ i = .int .i64 (k : Int) ∧ u = .int .i64 (p : Int) ∧ p ≤ k ∧ p + standG g f ws (l.drop k) = N ∧ Below w4.heap.size w4 wr

/-- How often words stand side by side, by the groups. -/
def phraseG (g : List Gr) (f : Nm) : List Nm → Nat
  | [] => 0
  | x :: r => standG g f r (getG g (f, x))

set_option maxHeartbeats 4000000 in
set_option maxRecDepth 100000 in
theorem doc_Phrase (id : Int) (A : Option Addr) (n c : Nat) (l : List Fd) (f : ByteArray) (A2 : Option Addr) (n2 c2 : Nat) (ws : List Nm) (w : World) (hl : l.length = n) (hr : FRow w w.heap.size A l) (hn : n ≤ 100) (ht : ∀ f ∈ l, f.2.length ≤ 268435456) (hw : ∀ f ∈ l, (words f.2).length ≤ 1048576)
    (hl2 : ws.length = n2) (hr2 : Row w w.heap.size A2 (strs ws)) (hn2 : n2 ≤ 1048576) (hc2 : n2 ≤ c2) (hs : ∀ t, (placesS (tellD l) t).Pairwise (· < ·)) (hp : ∀ t, ∀ a ∈ placesS (tellD l) t, 0 ≤ a ∧ a ≤ 1048576) :
    Calls Tryz.prog 105 #[docV id A n c, .string f, .slice A2 n2 c2] w fun e w' => e = .returned (.int .i64 (phraseG (groupsT (tellD l)) f.data.toList ws : Int)) ∧ Below w.heap.size w w' := by
  have hS := fun w' (h : Below w.heap.size w w') => doc_stands id A n c l w' hl (hr.later h) hn ht hw
  have hlen := tellD_len (M := 1048576) l hw
  have hlen2 : (tellD l).length ≤ 104857600 := Nat.le_trans hlen (Nat.le_trans (Nat.mul_le_mul_right _ (by omega : l.length ≤ 100)) (by omega))
  cases ws with
  | nil =>
    have HB := Lib.hid (boxD_below w id A n c)
    have hn0 : n2 = 0 := by simpa using hl2.symm
    subst hn0
    clear hS hr ht hw hr2 hs hp hlen hlen2
    go_enter Tryz.func105, Tryz.ntmps105
    go_wp2
    go_ret
    exact ⟨rfl, HB.out⟩
  | cons x0 r =>
    obtain ⟨b2, o2, e2, hb2, hg1⟩ := row_nm (xs := x0 :: r) (k := 0) hr2 (by simp)
    subst e2
    obtain ⟨AN, hAN⟩ : ∃ AN : Addr, (if c2 = 1 then some (⟨b2, o2, none⟩ : Addr) else some ⟨b2, o2 + 1, none⟩) = some AN := by split <;> exact ⟨_, rfl⟩
    rw [List.length_cons] at hl2
    have hrr : Row w w.heap.size (some AN) (strs r) := row_rest hr2 (by omega) hAN
    obtain ⟨x, hx, hx2⟩ := as_text x0
    rw [show (x0 :: r)[0] = x0 from rfl, ← hx] at hg1
    rw [← hx2]
    obtain ⟨g, hg⟩ : ∃ g, g = groupsT (tellD l) := ⟨_, rfl⟩
    have hgs : ∀ t, (getG g t).Pairwise (· < ·) := fun t => by rw [hg, getG_groups]; exact hs t
    have hgp : ∀ t, ∀ a ∈ getG g t, 0 ≤ a ∧ a ≤ 1048576 := fun t => by rw [hg, getG_groups]; exact hp t
    have hgl : ∀ t, (getG g t).length ≤ 104857600 := fun t => by rw [hg, getG_groups]; have := placesS_length (tellD l) t; omega
    have hS' : ∀ w', Below w.heap.size w w' → Calls Tryz.prog 137 #[docV id A n c] w' fun e w'' => ∃ B, e = .returned (.map (some B)) ∧ GrAt w'.heap.size w'' B g ∧ Below w'.heap.size w' w'' := fun w' h => by rw [hg]; exact hS w' h
    rw [← hg]
    obtain ⟨l2, hl2⟩ : ∃ l2, l2 = getG g (f.data.toList, x.data.toList) := ⟨_, rfl⟩
    obtain ⟨N, hN⟩ : ∃ N, N = phraseG g f.data.toList (x.data.toList :: r) := ⟨_, rfl⟩
    have hgo : standG g f.data.toList r l2 = N := by rw [hN, hl2]; rfl
    have hl2p : ∀ a ∈ l2, 0 ≤ a ∧ a ≤ 1048576 := by rw [hl2]; exact hgp _
    have hl2l : l2.length ≤ 104857600 := by rw [hl2]; exact hgl _
    rw [← hN]
    have HS := Lib.hid hS'
    have HGS := Lib.hid hgs
    have HGP := Lib.hid hl2p
    have HGL := Lib.hid fun t => Nat.le_trans (hgl t) (by omega : 104857600 ≤ 1073741824)
    have HGO := Lib.hid hgo
    have HL2 := Lib.hid hl2
    have HRR := Lib.hid hrr
    have HN2 : Hid (r.length = n2 - 1) := Lib.hid (by omega)
    have k0 : (0 : Int) < n2 := by omega
    have k1 : (1 : Int) ≤ n2 := by omega
    obtain ⟨w1, hw1⟩ : ∃ w1, w1 = boxD w id A n c := ⟨_, rfl⟩
    have hb1 : Below w.heap.size w w1 := by rw [hw1]; exact boxD_below _ _ _ _ _
    have hcc := boxD_cells (w := w) (id := id) (A := A) (n := n) (c := c) (Below.refl _ _)
    rw [← hw1] at hcc
    obtain ⟨hc0, hc1⟩ := hcc
    have hx1 : w1.cell? ⟨b2, o2, none⟩ = some (.string x) := (hb1.cell (p := ⟨b2, o2, none⟩) hb2).trans (by simpa using hg1)
    have HB1 := Lib.hid hb1
    have HW1 := Lib.hid hw1
    clear hS hS' hr ht hw hr2 hs hp hlen hlen2 hx hx2 hg hgs hgp hgl hl2 hN hgo hl2p hrr hb1 hw1 hg1
    go_enter Tryz.func105, Tryz.ntmps105
    go_wp2_with (first
      | (go_at_call 137; rw [show w.alloc _ = w1 from HW1.out.symm]
         (with_reducible refine (HS.out w1 HB1.out).mono ?_)
         rintro e w4 ⟨B, rfl, hg4, hb4⟩
         have hx4 : w4.cell? ⟨b2, o2, none⟩ = some (.string x) := (hb4.cell (p := ⟨b2, o2, none⟩) (by have := HB1.out.size; show b2 < _; omega)).trans hx1
         obtain ⟨v, ⟨m, hm, hv⟩, hown⟩ := hg4.look (f.data.toList, x.data.toList)
         rw [← HL2.out] at hown
         obtain ⟨A4, c4, rfl, _, hrow4⟩ := owned_row hown
         have HROW := Lib.hid hrow4
         have HB4 := Lib.hid hb4
         have HG4 := Lib.hid hg4
         have HM := Lib.hid hm
         have HV := Lib.hid hv
         clear hb4 hg4 hrow4 hown hm hv)
      | (refine wpList_lookup_tm _ (by rfl) _ _ (by rfl) B m (f.data.toList, x.data.toList) (by rfl) HM.out (by rfl) ?_
         rw [HV.out]))
    go_loopw [8, 24] (fun u i wr => PhraseDRel g f.data.toList r l2 N w4 u i wr) (fun _ i _ => l2.length - (intOf i).toNat)
    case atStart => exact ⟨0, 0, by omega, rfl, rfl, by omega, by rw [List.drop_zero, Nat.zero_add]; exact HGO.out, Below.refl _ _⟩
    case round =>
      obtain ⟨k, p, hk, rfl, rfl, hpk, hsum, hbw⟩ := hrel
      by_cases hlt : k < l2.length
      · obtain ⟨b5, o5, e5, hb5, hg5⟩ := row_int (HROW.out.below hbw) hlt
        subst e5
        rw [standG_at hlt] at hsum
        obtain ⟨hp0, hp1⟩ := HGP.out _ (List.getElem_mem hlt)
        obtain ⟨y, hy⟩ : ∃ y, y = l2[k] := ⟨_, rfl⟩
        rw [← hy] at hg5 hsum hp0 hp1
        have hww : Below w.heap.size w wr := HB1.out.trans ((HB4.out.trans (hbw.mono HB4.out.size)).mono HB1.out.size)
        have hF := doc_follow w1.heap.size B g f (some AN) (n2 - 1) (c2 - 1) r (y + 1) wr (HG4.out.below hbw) HN2.out ((HRR.out.below hww).more hww.size) (by omega) (by omega) (by omega) HGS.out HGL.out
        have j0 : (0 : Int) ≤ k := by omega
        have j1 : (k : Int) < l2.length := by omega
        have e1 : wrap64 (y + 1) = y + 1 := by unfold wrap64; omega
        cases hd : followG g f.data.toList r (y + 1) <;> rw [hd] at hF hsum
        all_goals
          have HSUM := Lib.hid hsum
          have HF := Lib.hid hF
          have HBW := Lib.hid hbw
          clear hy hsum hF hd hbw hww
          go_wp2_with (go_at_call 142; (with_reducible refine HF.out.mono ?_); rintro e w6 ⟨rfl, hb6⟩)
        · exact ⟨⟨k + 1, p, by omega, by go_num, rfl, by omega, by have := HSUM.out; simpa using this, HBW.out.trans (hb6.mono HBW.out.size)⟩, by simp [intOf]; omega⟩
        · exact ⟨⟨k + 1, p + 1, by omega, by go_num, by go_num, by omega, by have := HSUM.out; simp at this; omega, HBW.out.trans (hb6.mono HBW.out.size)⟩, by simp [intOf]; omega⟩
      · have hkl : k = l2.length := by omega
        subst hkl
        rw [List.drop_length] at hsum
        have hpN : p = N := by simpa [standG] using hsum
        subst hpN
        have HWW : Hid (Below w.heap.size w wr) := Lib.hid (HB1.out.trans ((HB4.out.trans (hbw.mono HB4.out.size)).mono HB1.out.size))
        clear hsum hbw
        go_wp2
        go_ret
        exact ⟨rfl, HWW.out⟩
end Go.Proofs.YtolfkhflbjnakaaGreatDoor

/- What is told by groups is the document's own answer. No program. -/
set_option linter.unusedVariables false
namespace Go.Proofs.YtolfkhflbjnakaaGreatDoor
open Go


theorem followG_W {l : List Fd} (ha : ApartF l) (f : Nm) : ∀ (ws : List Nm) (a : Nat), followG (groupsT (tellD l)) f ws (a : Int) = followW (wordsD l f) ws a
  | [], a => by simp [followG, followW]
  | x :: ws, a => by
    have ih := followG_W ha f ws (a + 1)
    rw [followG, getG_groups, placesS_D ha, show ((a : Int) + 1) = ((a + 1 : Nat) : Int) by push_cast; rfl, ih, Bool.eq_iff_iff, Bool.and_eq_true, decide_eq_true_iff]
    rw [follow_iff, follow_iff]
    constructor
    · rintro ⟨h1, h2⟩ k hk
      cases k with
      | zero => exact h1
      | succ k =>
        have := h2 k (by simpa using hk)
        rw [show a + (k + 1) = a + 1 + k by omega]
        exact this
    · intro h
      refine ⟨h 0 (by simp), fun k hk => ?_⟩
      have := h (k + 1) (by simpa using hk)
      rw [show a + 1 + k = a + (k + 1) by omega]
      exact this
theorem places_bd {l : List Fd} (ha : ApartF l) {M : Nat} (hw : ∀ s, (wordsD l s).length ≤ M) (t : Tm) : ∀ a ∈ placesS (tellD l) t, 0 ≤ a ∧ a ≤ M := by
  intro a h
  rw [placesS_D ha] at h
  obtain ⟨k, h1, h2⟩ := (placesW_mem _ _ _ _).1 h
  have := (List.getElem?_eq_some_iff.1 h2).1
  have := hw t.1
  omega
theorem places_rise {l : List Fd} (ha : ApartF l) (t : Tm) : (placesS (tellD l) t).Pairwise (· < ·) := by
  rw [placesS_D ha]
  exact placesW_rise _ _ _
theorem phraseG_D {l : List Fd} (ha : ApartF l) (f : Nm) (ws : List Nm) : phraseG (groupsT (tellD l)) f ws = phraseD l f ws := by
  cases ws with
  | nil => rw [phraseG, phraseD, phraseW_nil]
  | cons x r =>
    rw [phraseG, phraseD_count, standG, getG_groups, placesS_D ha]
    congr 1
    apply List.filter_congr
    intro a h
    obtain ⟨k, h1, _⟩ := (placesW_mem _ _ _ _).1 h
    have := followG_W ha f r (a.toNat + 1)
    rw [← this]
    congr 1
    omega
end Go.Proofs.YtolfkhflbjnakaaGreatDoor

/- What Count and Has answer. -/
namespace Go.Proofs.YtolfkhflbjnakaaGreatDoor
open Go Go.RowKit
set_option linter.unusedVariables false


set_option maxHeartbeats 2000000 in
set_option maxRecDepth 100000 in
theorem doc_Count (id : Int) (A : Option Addr) (n c : Nat) (l : List Fd) (f x : ByteArray) (w : World) (hl : l.length = n) (hr : FRow w w.heap.size A l) (hn : n ≤ 100) (ht : ∀ f ∈ l, f.2.length ≤ 268435456) (hw : ∀ f ∈ l, (words f.2).length ≤ 1048576) :
    Calls Tryz.prog 101 #[docV id A n c, .agg #[.string f, .string x]] w fun e w' => e = .returned (.int .i64 ((placesS (tellD l) (f.data.toList, x.data.toList)).length : Int)) ∧ Below w.heap.size w w' := by
  have hS := fun w' (h : Below w.heap.size w w') => doc_stands id A n c l w' hl (hr.later h) hn ht hw
  have HS := Lib.hid hS
  obtain ⟨w1, hw1⟩ : ∃ w1, w1 = boxDT w id A n c f x := ⟨_, rfl⟩
  have hb1 : ∀ wr, Below w1.heap.size w1 wr → Below w.heap.size w wr ∧ wr.cell? ⟨w.heap.size, 0, none⟩ = some (.int .i64 id) ∧ wr.cell? ⟨w.heap.size, 1, none⟩ = some (.slice A n c) ∧ wr.cell? ⟨w.heap.size + 1, 0, none⟩ = some (.string f) ∧ wr.cell? ⟨w.heap.size + 1, 1, none⟩ = some (.string x) := fun wr h => by
    subst hw1
    exact boxDT_of h
  have HB1 := Lib.hid hb1
  have HW1 := Lib.hid hw1
  clear hS hr ht hw hb1 hw1
  obtain ⟨N, hN⟩ : ∃ N, N = (placesS (tellD l) (f.data.toList, x.data.toList)).length := ⟨_, rfl⟩
  rw [← hN]
  have HN := Lib.hid hN
  clear hN
  go_enter Tryz.func101, Tryz.ntmps101
  go_wp2
  rw [show (w.alloc _).alloc _ = w1 from HW1.out.symm]
  go_region_held3 (fun w' => w'.cell? ⟨w.heap.size, 0, none⟩ = some (.int .i64 id) ∧ w'.cell? ⟨w.heap.size, 1, none⟩ = some (.slice A n c) ∧ w'.cell? ⟨w.heap.size + 1, 0, none⟩ = some (.string f) ∧ w'.cell? ⟨w.heap.size + 1, 1, none⟩ = some (.string x))
    (first | exact (HB1.out _ (Below.refl _ _).drew).2 | exact (HB1.out _ HB4.out).2)
    (first
      | (go_at_call 137; (with_reducible refine (HS.out _ (HB1.out _ (Below.refl _ w1).drew).1).mono ?_); rintro e w4 ⟨B, rfl, hg4, hb4⟩
         obtain ⟨v, ⟨m, hm, hv⟩, hown⟩ := hg4.look (f.data.toList, x.data.toList)
         have hrun := run_lookup_tm hm (f.data.toList, x.data.toList)
         rw [hv, getG_groups] at *
         obtain ⟨A4, c4, rfl, _, _⟩ := owned_row hown
         rw [← HN.out] at *
         have hrun2 : Sem.run Tryz.prog (Instr.lookup 156 (.map (some B)) (.agg #[.string f, .string x]) false) w4 = .ok (.slice A4 N c4) w4 := hrun
         have HB4 : Hid (Below w1.heap.size w1 w4) := Lib.hid ((Below.refl _ w1).drew.trans hb4)
         clear hg4 hb4 hm hv hown hrun))
  all_goals
    go_wp2
    go_ret
    exact ⟨rfl, (HB1.out _ HB4.out).1⟩
end Go.Proofs.YtolfkhflbjnakaaGreatDoor

/- A document in a block of its own. -/
set_option linter.unusedVariables false
namespace Go.Proofs.YtolfkhflbjnakaaGreatDoor
open Go Go.RowKit

/-- A document in a block of its own, its fields below. -/
structure DocIn (w : World) (B : Nat) (id : Int) (A : Option Addr) (n c : Nat) (l : List Fd) : Prop where
  blk : w.heap[B]? = some (.cells #[.int .i64 id, .slice A n c] 46 (0, 0))
  len : l.length = n
  row : FRow w w.heap.size A l
theorem DocIn.later {w w' : World} {B : Nat} {id : Int} {A : Option Addr} {n c : Nat} {l : List Fd} (h : DocIn w B id A n c l) (hb : Below w.heap.size w w') : DocIn w' B id A n c l := ⟨(hb.block B (Array.getElem?_eq_some_iff.1 h.blk).1).trans h.blk, h.len, h.row.later hb⟩
theorem DocIn.cells {w : World} {B : Nat} {id : Int} {A : Option Addr} {n c : Nat} {l : List Fd} (h : DocIn w B id A n c l) : w.cell? ⟨B, 0, none⟩ = some (.int .i64 id) ∧ w.cell? ⟨B, 1, none⟩ = some (.slice A n c) := ⟨by simp [World.cell?, h.blk], by simp [World.cell?, h.blk]⟩
theorem DocIn.made {w : World} {id : Int} {A : Option Addr} {n c : Nat} {l : List Fd} (hl : l.length = n) (hr : FRow w w.heap.size A l) : DocIn (w.alloc (.cells #[.int .i64 id, .slice A n c] 46)) w.heap.size id A n c l := ⟨heap_alloc_new _ _, hl, hr.later ((Below.refl _ _).alloc (Nat.le_refl _) _)⟩
end Go.Proofs.YtolfkhflbjnakaaGreatDoor

/- What the document's Words answers: the words of the field of a name. -/
namespace Go.Proofs.YtolfkhflbjnakaaGreatDoor
open Go Go.RowKit
set_option linter.unusedVariables false

def WordsRel8 (l : List Fd) (s : Nm) (w1 : World) (a i : Value) (wr : World) : Prop :=
  a = .slice none 0 0 ∧ ∃ k : Nat, k ≤ l.length ∧ i = .int .i64 (k : Int) ∧ Below w1.heap.size w1 wr ∧ ∀ j (hj : j < l.length), j < k → l[j].1 ≠ s

set_option maxHeartbeats 1000000 in
set_option maxRecDepth 100000 in
theorem ref08_Words (id : Int) (A : Option Addr) (n c : Nat) (l : List Fd) (s : ByteArray) (w : World) (hl : l.length = n) (hr : FRow w w.heap.size A l) (hn : n ≤ 1073741824) (ht : ∀ f ∈ l, f.2.length ≤ 268435456) :
    Calls Tryz.prog 94 #[docV id A n c, .string s] w (GaveStrs (wordsD l s.data.toList) w) := by
  subst hl
  have HR := Lib.hid hr
  have HT := Lib.hid ht
  obtain ⟨ws, hws⟩ : ∃ ws, ws = wordsD l s.data.toList := ⟨_, rfl⟩
  rw [← hws]
  have HW := Lib.hid hws
  clear hws hr ht
  go_enter Tryz.func94, Tryz.ntmps94
  go_wp2
  obtain ⟨w1, hw1⟩ : ∃ w1, w1 = boxD w id A l.length c := ⟨_, rfl⟩
  have hb1 : ∀ wr, Below w1.heap.size w1 wr → Below w.heap.size w wr ∧ wr.cell? ⟨w.heap.size, 0, none⟩ = some (.int .i64 id) ∧ wr.cell? ⟨w.heap.size, 1, none⟩ = some (.slice A l.length c) := fun wr h => by
    subst hw1
    exact ⟨boxD_out h, boxD_cells h⟩
  have HB1 := Lib.hid hb1
  clear hb1
  rw [show w.alloc _ = w1 from hw1.symm]
  clear hw1
  go_loopw [4, 5] (fun a i wr => WordsRel8 l s.data.toList w1 a i wr) (fun _ i _ => l.length - (intOf i).toNat)
  case atStart => exact ⟨rfl, 0, by omega, rfl, Below.refl _ _, fun j _ hj => by omega⟩
  case round =>
    obtain ⟨rfl, k, hk, rfl, hbw, hall⟩ := hrel
    obtain ⟨hb0, hc0, hc1⟩ := HB1.out _ hbw
    by_cases hlt : k < l.length
    · obtain ⟨b1, o1, e1, _, hf1, hf2⟩ := (HR.out.below hb0).at_ hlt
      subst e1
      have ht8 := HT.out _ (List.getElem_mem hlt)
      obtain ⟨x, hx, hx2⟩ := as_text l[k].1
      obtain ⟨y, hy, hy2⟩ := as_text l[k].2
      rw [← hx] at hf1
      rw [← hy] at hf2
      have i0 : (0 : Int) ≤ k := by omega
      have i1 : (k : Int) < l.length := by omega
      by_cases he : l[k].1 = s.data.toList
      · have t1 := same_true (s := x) (t := s) (by rw [hx2]; exact he)
        have hys : y.size ≤ 268435456 := by rw [hy, size_nm]; omega
        have C1 := Lib.hid fun w => ref_Words y w hys
        have hww : words y.data.toList = ws := by rw [hy2, HW.out]; exact (wordsD_at hlt hall he).symm
        rw [hww] at C1
        have HB0 := Lib.hid hb0
        clear hall he hx hx2 hy hy2 hww ht8 hb0
        go_wp2_with (go_at_call 133; refine (C1.out _).mono ?_)
        rintro e w2 ⟨v, rfl, hown, hb2⟩
        have HO := Lib.hid hown
        have HB2 := Lib.hid hb2
        clear hown hb2
        go_wp2
        go_ret
        exact ⟨_, rfl, owned_low HO.out HB0.out.size, HB0.out.trans (HB2.out.mono HB0.out.size)⟩
      · have t1 := same_false (s := x) (t := s) (by rw [hx2]; exact he)
        have HN : Hid (∀ j (hj : j < l.length), j < k + 1 → l[j].1 ≠ s.data.toList) := Lib.hid fun j hj hjk => by
          by_cases e : j = k
          · subst e; exact he
          · exact hall j hj (by omega)
        clear hall he hx hx2 hy hy2 ht8 hb0
        go_wp2
        go_roundw
        case rel => exact ⟨rfl, k + 1, by omega, by go_num, hbw, HN.out⟩
        case measure => simp [intOf]; omega
    · have hn0 : ws = [] := by rw [HW.out]; exact wordsD_none fun j hj => hall j hj (by omega)
      subst hn0
      have HB0 := Lib.hid hb0
      clear hall hb0
      go_wp2
      go_ret
      exact ⟨_, rfl, World.ownsRow_nil _ _ _ _, HB0.out⟩
end Go.Proofs.YtolfkhflbjnakaaGreatDoor

/- What the document's Same answers of any two lists of texts. -/
namespace Go.Proofs.YtolfkhflbjnakaaGreatDoor
open Go Go.RowKit
set_option linter.unusedVariables false

theorem ne_at {xs ys : List Nm} {k : Nat} (hx : k < xs.length) (hy : k < ys.length) (h : xs[k] ≠ ys[k]) : decide (xs = ys) = false := decide_eq_false fun e => h (by subst e; rfl)
theorem eq_all {xs ys : List Nm} (hl : xs.length = ys.length) (h : ∀ j (hj : j < xs.length), xs[j] = ys[j]'(by omega)) : decide (xs = ys) = true := decide_eq_true (List.ext_getElem hl fun j h1 _ => h j h1)
def SameRel (xs ys : List Nm) (w : World) (r i : Value) (wr : World) : Prop := r = .bool false ∧ ∃ k : Nat, k ≤ xs.length ∧ i = .int .i64 (k : Int) ∧ Below w.heap.size w wr ∧ ∀ j (hj : j < xs.length) (hj' : j < ys.length), j < k → xs[j] = ys[j]

set_option maxHeartbeats 1000000 in
set_option maxRecDepth 100000 in
theorem ref02_Same_any (A C : Option Addr) (n m c d : Nat) (xs ys : List Nm) (w : World) (hn : xs.length = n) (hm : ys.length = m) (hx : Row w w.heap.size A (strs xs)) (hy : Row w w.heap.size C (strs ys)) (hxl : n ≤ 1073741824) (hyl : m ≤ 1073741824) :
    Calls Tryz.prog 39 #[.slice A n c, .slice C m d] w fun e w' => e = .returned (.bool (decide (xs = ys))) ∧ Below w.heap.size w w' := by
  subst hn hm
  have HX := Lib.hid hx
  have HY := Lib.hid hy
  obtain ⟨z, hz⟩ : ∃ z, z = decide (xs = ys) := ⟨_, rfl⟩
  rw [← hz]
  have HZ := Lib.hid hz
  clear hx hy hz
  by_cases hlen : xs.length = ys.length
  · go_enter Tryz.func39, Tryz.ntmps39
    go_wp2
    go_loopw [4, 5] (fun r i wr => SameRel xs ys w r i wr) (fun _ i _ => xs.length - (intOf i).toNat)
    case atStart => exact ⟨rfl, 0, Nat.zero_le _, rfl, Below.refl _ _, fun j _ _ hj => by omega⟩
    case round =>
      obtain ⟨rfl, k, hk, rfl, hbw, hall⟩ := hrel
      by_cases hlt : k < xs.length
      · have hlt2 : k < ys.length := by omega
        obtain ⟨b1, o1, e1, _, hc1⟩ := row_nm (HX.out.below hbw) hlt
        obtain ⟨b2, o2, e2, _, hc2⟩ := row_nm (HY.out.below hbw) hlt2
        subst e1 e2
        obtain ⟨x, hx, hx2⟩ := as_text xs[k]
        obtain ⟨y, hy, hy2⟩ := as_text ys[k]
        rw [← hx] at hc1
        rw [← hy] at hc2
        have hi0 : (0 : Int) ≤ k := by omega
        have hi1 : (k : Int) < xs.length := by omega
        have hi2 : (k : Int) < ys.length := by omega
        by_cases he : xs[k] = ys[k]
        · have t1 := same_true (s := x) (t := y) (by rw [hx2, hy2]; exact he)
          have HN : Hid (∀ j (hj : j < xs.length) (hj' : j < ys.length), j < k + 1 → xs[j] = ys[j]) := Lib.hid fun j hj hj' hjk => by
            by_cases e : j = k
            · subst e; exact he
            · exact hall j hj hj' (by omega)
          clear hall he hx hx2 hy hy2
          go_wp2
          go_quiet (fail)
          go_wp2
          go_roundw
          case rel => exact ⟨rfl, k + 1, by omega, by go_num, hbw.trans ⟨rfl, rfl, rfl, Nat.le_refl _, fun _ _ => rfl⟩, HN.out⟩
          case measure => simp [intOf]; omega
        · have t1 := same_false (s := x) (t := y) (by rw [hx2, hy2]; exact he)
          have hzf : z = false := by rw [HZ.out]; exact ne_at hlt hlt2 he
          subst hzf
          clear hall he hx hx2 hy hy2
          go_wp2
          go_quiet (fail)
          go_wp2
          go_ret
          exact ⟨rfl, hbw.trans ⟨rfl, rfl, rfl, Nat.le_refl _, fun _ _ => rfl⟩⟩
      · have hzt : z = true := by rw [HZ.out]; exact eq_all hlen fun j hj => hall j hj (by omega) (by omega)
        subst hzt
        clear hall
        go_wp2
        go_ret
        exact ⟨rfl, hbw⟩
  · have hzf : z = false := by rw [HZ.out]; exact decide_eq_false fun e => hlen (by rw [e])
    subst hzf
    go_enter Tryz.func39, Tryz.ntmps39
    go_wp2
    go_ret
    exact ⟨rfl, Below.refl _ _⟩
end Go.Proofs.YtolfkhflbjnakaaGreatDoor

/- What the document's Phrase answers. -/
namespace Go.Proofs.YtolfkhflbjnakaaGreatDoor
open Go Go.RowKit
set_option linter.unusedVariables false

def PhraseRel (lw ws : List Nm) (N : Nat) (w2 : World) (a i : Value) (wr : World) : Prop :=
  ∃ k p : Nat, k ≤ lw.length ∧ p ≤ k ∧ a = .int .i64 (p : Int) ∧ i = .int .i64 (k : Int) ∧ Below w2.heap.size w2 wr ∧ p + phraseW ws (lw.drop k) = N

set_option maxHeartbeats 2000000 in
set_option maxRecDepth 100000 in
theorem ref08_Phrase (id : Int) (A C : Option Addr) (n c m d : Nat) (l : List Fd) (s : ByteArray) (ws : List Nm) (w : World) (hl : l.length = n) (hr : FRow w w.heap.size A l) (hn : n ≤ 1073741824) (ht : ∀ f ∈ l, f.2.length ≤ 268435456) (hw : ∀ s, (wordsD l s).length ≤ 1073741824)
    (hm : ws.length = m) (hws : Row w w.heap.size C (strs ws)) (hmd : m ≤ d) (hml : m ≤ 1073741824) :
    Calls Tryz.prog 53 #[docV id A n c, .string s, .slice C m d] w fun e w' => e = .returned (.int .i64 (phraseD l s.data.toList ws : Int)) ∧ Below w.heap.size w w' := by
  have c1 := fun w' (h : Below w.heap.size w w') => ref08_Words id A n c l s w' hl (hr.later h) hn ht
  obtain ⟨lw, hlw⟩ : ∃ lw, lw = wordsD l s.data.toList := ⟨_, rfl⟩
  have hwl := hw s.data.toList
  rw [← hlw] at c1 hwl
  obtain ⟨N, hN⟩ : ∃ N, N = phraseD l s.data.toList ws := ⟨_, rfl⟩
  rw [← hN]
  have HN : Hid (0 + phraseW ws (lw.drop 0) = N) := Lib.hid (by rw [hN, hlw, Nat.zero_add]; rfl)
  have C1 := Lib.hid c1
  have HWS := Lib.hid hws
  clear c1 hlw hN hw ht hr hl hws
  go_enter Tryz.func53, Tryz.ntmps53
  go_wp2_with (go_at_call 94; refine (C1.out _ (boxD_below w id A n c)).mono ?_)
  rintro e w2 ⟨v, rfl, hown, hb2⟩
  obtain ⟨A2, c2, rfl, hlc, hrow⟩ := owned_row hown
  have HB2 : Hid (Below w.heap.size w w2) := Lib.hid ((boxD_below w id A n c).trans (hb2.mono (boxD_below w id A n c).size))
  have HR := Lib.hid hrow
  obtain ⟨L, hL⟩ : ∃ L, L = lw.length := ⟨_, rfl⟩
  rw [← hL] at hlc hwl
  rw [← hL]
  have HL := Lib.hid hL
  have HM := Lib.hid hm
  clear hb2 hown hrow hL hm
  go_wp2
  go_loopw [8, 9, 10] (fun a i x wr => PhraseRel lw ws N w2 a i wr) (fun _ i _ _ => L - (intOf i).toNat)
  case atStart => exact ⟨0, 0, by omega, by omega, rfl, rfl, Below.refl _ _, HN.out⟩
  case round =>
    obtain ⟨k, p, hk, hp, rfl, rfl, hbw, hgo⟩ := hrel
    rw [← HL.out] at hk
    by_cases h0 : 0 < m ∧ k + m ≤ L
    · obtain ⟨h0, hkm⟩ := h0
      have hkl : k < lw.length := by rw [← HL.out]; omega
      rw [phraseW_at hkl] at hgo
      have j0 : (0 : Int) ≤ k := by omega
      have j1 : (k : Int) ≤ k + m := by omega
      have j2 : ((k : Int) + m) ≤ c2 := by omega
      have j3 : k < c2 := by omega
      have j4 : (k : Int) + m ≤ L := by omega
      have j5 : (0 : Int) < m := by omega
      obtain ⟨b1, o1, e1, hb1, _⟩ := row_nm (HR.out.below hbw) hkl
      subst e1
      have HRD : Hid (∀ wi, Below w2.heap.size w2 wi → Row wi wi.heap.size (some ⟨b1, o1 + k, none⟩) (strs ((lw.drop k).take m))) := Lib.hid fun wi h => by
        have := ((HR.out.later h).dropped k).cut m
        rwa [show (strs (lw.drop k)).take m = strs ((lw.drop k).take m) by simp [strs, List.map_take]] at this
      have HDL : Hid (((lw.drop k).take m).length = m) := Lib.hid (by rw [List.length_take, List.length_drop, ← HL.out]; omega)
      have HS : Hid (∀ wi e, Below w2.heap.size w2 wi → Calls Tryz.prog 39 #[.slice (some ⟨b1, o1 + k, none⟩) m e, .slice C m d] wi fun e w' => e = .returned (.bool (decide ((lw.drop k).take m = ws))) ∧ Below wi.heap.size wi w') := Lib.hid fun wi e h =>
        ref02_Same_any _ _ _ _ _ _ _ _ _ HDL.out HM.out (HRD.out wi h) (HWS.out.later (HB2.out.trans (h.mono HB2.out.size))) (by omega) (by omega)
      obtain ⟨z, hz⟩ : ∃ z, z = decide ((lw.drop k).take m = ws) := ⟨_, rfl⟩
      rw [← hz] at HS
      have HG : Hid ((p + (if z = true then 1 else 0)) + phraseW ws (lw.drop (k + 1)) = N) := Lib.hid (by
        rw [← hgo, hz, HM.out]
        have hne : ws ≠ [] := by intro e; have := HM.out; rw [e] at this; simp at this; omega
        by_cases he : (lw.drop k).take m = ws
        · rw [if_pos (decide_eq_true he), if_pos ⟨hne, he⟩]; omega
        · rw [if_neg (by simpa using he), if_neg (fun h => he h.2)]; omega)
      clear hgo hz
      go_wp2_with (go_at_call 39; refine (HS.out _ _ hbw).mono ?_; rintro e w3 ⟨rfl, hb3⟩)
      · rename_i hz
        have hg := HG.out
        rw [if_pos hz] at hg
        exact ⟨⟨k + 1, p + 1, by rw [← HL.out]; omega, by omega, by go_num, by go_num, hbw.trans (hb3.mono hbw.size), hg⟩, by simp [intOf]; omega⟩
      · rename_i hz
        have hg := HG.out
        rw [if_neg (by simp [hz])] at hg
        exact ⟨⟨k + 1, p, by rw [← HL.out]; omega, by omega, rfl, by go_num, hbw.trans (hb3.mono hbw.size), hg⟩, by simp [intOf]; omega⟩
    · have hz : phraseW ws (lw.drop k) = 0 := by
        by_cases hm0 : m = 0
        · have : ws = [] := List.eq_nil_of_length_eq_zero (by rw [HM.out, hm0])
          rw [this]
          exact phraseW_nil _
        · exact phraseW_short (by rw [List.length_drop, ← HL.out, HM.out]; omega)
      rw [hz, Nat.add_zero] at hgo
      subst hgo
      have h1 : (L : Int) < (k : Int) + m ∨ (k : Int) + m ≤ L ∧ (m : Int) ≤ 0 := by omega
      clear h0 hz
      rcases h1 with h1 | ⟨h1, h2⟩
      all_goals
        go_wp2
        go_ret
        exact ⟨rfl, HB2.out.trans (hbw.mono HB2.out.size)⟩
end Go.Proofs.YtolfkhflbjnakaaGreatDoor

/- What the calls of package doc answer of a document that may be: how often a term, a phrase stands in it. -/
set_option linter.unusedVariables false
namespace Go.Proofs.YtolfkhflbjnakaaGreatDoor
open Go Go.RowKit

section
variable {id : Int} {A : Option Addr} {n c : Nat} {l : List Fd} {w : World}

theorem good_count (hg : GoodF l) (hl : l.length = n) (hr : FRow w w.heap.size A l) (f x : ByteArray) : Calls Tryz.prog 101 #[docV id A n c, .agg #[.string f, .string x]] w fun e w' => e = .returned (.int .i64 ((placesD l (f.data.toList, x.data.toList)).length : Int)) ∧ Below w.heap.size w w' := by
  rw [← placesS_D hg.apart]
  exact doc_Count id A n c l f x w hl hr (by have := hg.len; omega) (fun f hf => by have := hg.texts f hf; omega) (fun f hf => by have := hg.wordsF f hf; omega)
theorem good_phrase (hg : GoodF l) (hl : l.length = n) (hr : FRow w w.heap.size A l) (f : ByteArray) {A2 : Option Addr} {n2 c2 : Nat} {ws : List Nm} (hl2 : ws.length = n2) (hr2 : Row w w.heap.size A2 (strs ws)) (hn2 : n2 ≤ 1048576) (hc2 : n2 ≤ c2) :
    Calls Tryz.prog 105 #[docV id A n c, .string f, .slice A2 n2 c2] w fun e w' => e = .returned (.int .i64 (phraseD l f.data.toList ws : Int)) ∧ Below w.heap.size w w' := by
  rw [← phraseG_D hg.apart]
  exact doc_Phrase id A n c l f A2 n2 c2 ws w hl hr (by have := hg.len; omega) (fun f hf => by have := hg.texts f hf; omega) (fun f hf => by have := hg.wordsF f hf; omega) hl2 hr2 hn2 hc2 (fun t => places_rise hg.apart t) (fun t a h => places_bd hg.apart (M := 1048576) (fun s => by have := hg.wordsS s; omega) t a h)
theorem good_rphrase (hg : GoodF l) (hl : l.length = n) (hr : FRow w w.heap.size A l) (f : ByteArray) {A2 : Option Addr} {n2 c2 : Nat} {ws : List Nm} (hl2 : ws.length = n2) (hr2 : Row w w.heap.size A2 (strs ws)) (hn2 : n2 ≤ 1048576) (hc2 : n2 ≤ c2) :
    Calls Tryz.prog 53 #[docV id A n c, .string f, .slice A2 n2 c2] w fun e w' => e = .returned (.int .i64 (phraseD l f.data.toList ws : Int)) ∧ Below w.heap.size w w' :=
  ref08_Phrase id A A2 n c n2 c2 l f ws w hl hr (by have := hg.len; omega) (fun f hf => by have := hg.texts f hf; omega) (fun s => by have := hg.wordsS s; omega) hl2 hr2 hc2 (by omega)
end
end Go.Proofs.YtolfkhflbjnakaaGreatDoor

/- How a document fits a term, a phrase: how often it stands there. -/
namespace Go.Proofs.YtolfkhflbjnakaaGreatDoor
open Go Go.RowKit
set_option linter.unusedVariables false

/-- A query's block, a document's block, an answer's block. -/
def box3 (w : World) (k : Int) (f x : ByteArray) (A : Option Addr) (n c : Nat) (K : Option Addr) (m d : Nat) (id : Int) (D : Option Addr) (dn dc : Nat) : World :=
  ((boxQ w k f x A n c K m d).alloc (.cells #[.int .i64 id, .slice D dn dc] 46)).alloc (.cells #[.bool false, .int .i64 0] 85)
theorem box3_of {w : World} {k : Int} {f x : ByteArray} {A K D : Option Addr} {n c m d dn dc : Nat} {id : Int} (g : Bool × Nat) {wr : World} (h : Below (w.heap.size + 3) (box3 w k f x A n c K m d id D dn dc) wr) :
    Below w.heap.size w wr ∧ (wr.cell? ⟨w.heap.size, 0, none⟩ = some (.int .i64 k) ∧ wr.cell? ⟨w.heap.size, 1, none⟩ = some (.string f) ∧ wr.cell? ⟨w.heap.size, 2, none⟩ = some (.string x) ∧ wr.cell? ⟨w.heap.size, 3, none⟩ = some (.slice A n c) ∧ wr.cell? ⟨w.heap.size, 4, none⟩ = some (.slice K m d)) ∧
    (wr.cell? ⟨w.heap.size + 1, 0, none⟩ = some (.int .i64 id) ∧ wr.cell? ⟨w.heap.size + 1, 1, none⟩ = some (.slice D dn dc)) ∧
    (wr.cell? ⟨w.heap.size + 2, 0, none⟩ = some (.bool false) ∧ wr.cell? ⟨w.heap.size + 2, 1, none⟩ = some (.int .i64 0) ∧ wr.frozen? ⟨w.heap.size + 2, 0, none⟩ = false ∧ wr.frozen? ⟨w.heap.size + 2, 1, none⟩ = false) ∧
    GaveG g w (.returned (gV g)) (set2 wr (w.heap.size + 2) (.bool g.1) (.int .i64 (g.2 : Int))) ∧ (set2 wr (w.heap.size + 2) (.bool g.1) (.int .i64 (g.2 : Int))).cell? ⟨w.heap.size + 2, 0, none⟩ = some (.bool g.1) ∧ (set2 wr (w.heap.size + 2) (.bool g.1) (.int .i64 (g.2 : Int))).cell? ⟨w.heap.size + 2, 1, none⟩ = some (.int .i64 (g.2 : Int)) := by
  have hs1 : (boxQ w k f x A n c K m d).heap.size = w.heap.size + 1 := boxQ_size
  obtain ⟨w1, hw1⟩ : ∃ w1, w1 = (boxQ w k f x A n c K m d).alloc (.cells #[.int .i64 id, .slice D dn dc] 46) := ⟨_, rfl⟩
  have hs2 : w1.heap.size = w.heap.size + 2 := by rw [hw1]; simp [boxQ]
  have hb1 : Below (boxQ w k f x A n c K m d).heap.size (boxQ w k f x A n c K m d) w1 := by rw [hw1]; exact (Below.refl _ _).alloc (Nat.le_refl _) _
  have hd1 : w1.heap[w.heap.size + 1]? = some (.cells #[.int .i64 id, .slice D dn dc] 46 (0, 0)) := by
    rw [hw1, ← hs1]
    exact heap_alloc_new _ _
  unfold box3 at h
  rw [← hw1] at h
  have hb2 : Below w1.heap.size w1 (w1.alloc (.cells #[.bool false, .int .i64 0] 85)) := (Below.refl _ _).alloc (Nat.le_refl _) _
  have hs3 : (w1.alloc (.cells #[.bool false, .int .i64 0] 85)).heap.size = w.heap.size + 3 := by simp [hs2]
  have hr : ResG (w1.alloc (.cells #[.bool false, .int .i64 0] 85)) (w.heap.size + 2) := by
    unfold ResG
    rw [← hs2]
    exact heap_alloc_new _ _
  rw [← hs3] at h
  have hb3 : Below w1.heap.size w1 wr := hb2.trans (h.mono hb2.size)
  have hbq := boxQ_of (hb1.trans (hb3.mono hb1.size))
  have hw0 : Below w.heap.size w (w1.alloc (.cells #[.bool false, .int .i64 0] 85)) := boxQ_below.trans ((hb1.trans (hb2.mono hb1.size)).mono (by rw [hs1]; omega))
  have hd : wr.heap[w.heap.size + 1]? = some (.cells #[.int .i64 id, .slice D dn dc] 46 (0, 0)) := (hb3.block _ (by omega)).trans hd1
  obtain ⟨⟨e0, e1⟩, -⟩ := two_cells12 hd
  exact ⟨hbq.1, hbq.2, ⟨e0, e1⟩, resG g hw0 hr (by omega) h⟩

set_option maxHeartbeats 2000000 in
set_option maxRecDepth 100000 in
theorem query_termGrade {l : List Fd} (hg : GoodF l) (k : Int) (t : Tm) (f x : ByteArray) (A : Option Addr) (n c : Nat) (K : Option Addr) (m d : Nat) (id : Int) (D : Option Addr) (dn dc : Nat) (v : Value) (w : World) (hf : f.data.toList = t.1) (hx : x.data.toList = t.2) (hl : l.length = dn) (hr : FRow w w.heap.size D l) :
    Calls Tryz.prog 61 #[qV k f x A n c K m d, docV id D dn dc, v] w (GaveG (decide (0 < (placesD l t).length), (placesD l t).length) w) := by
  obtain ⟨N, hN⟩ : ∃ N, N = (placesD l t).length := ⟨_, rfl⟩
  obtain ⟨w1, hw1⟩ : ∃ w1, w1 = box3 w k f x A n c K m d id D dn dc := ⟨_, rfl⟩
  have hs1 : w1.heap.size = w.heap.size + 3 := by rw [hw1]; simp [box3, boxQ]
  have HB : Hid (∀ wr, Below w1.heap.size w1 wr → _) := Lib.hid fun wr h => box3_of (decide (0 < N), N) (wr := wr) (by rw [hs1, hw1] at h; exact h)
  have h0 := HB.out _ (Below.refl _ _)
  have hC := good_count (id := id) (c := dc) hg hl (hr.later h0.1) f x
  rw [hf, hx] at hC
  rw [show ((t.1, t.2) : Tm) = t from rfl, ← hN] at hC
  rw [← hN]
  have HC := Lib.hid hC
  have HW1 := Lib.hid hw1
  obtain ⟨hb0, ⟨a0, a1, a2, a3, a4⟩, ⟨b0, b1⟩, -, -⟩ := h0
  clear hw1 hN hr hf hx hC hs1 hb0
  go_enter Tryz.func61, Tryz.ntmps61
  go_wp2_with fail
  rw [show ((w.alloc _).alloc _).alloc _ = w1 from HW1.out.symm]
  go_wp2_with (go_at_call 101; (with_reducible refine HC.out.mono ?_); rintro e w2 ⟨rfl, hb2⟩; obtain ⟨-, -, -, ⟨r0, r1, q0, q1⟩, hres, s0, s1⟩ := HB.out _ hb2; have HR := Lib.hid hres; have S0 := Lib.hid s0; have S1 := Lib.hid s1; clear hres s0 s1 hb2)
  unfold set2 at S0 S1 HR
  exact bodyPost_ret (v := gV (decide (0 < N), N)) (by simp [results, Tryz.results61, go_sem, S0.out, S1.out]) rfl HR.out
set_option maxHeartbeats 2000000 in
set_option maxRecDepth 100000 in
theorem query_phraseGrade {l : List Fd} (hg : GoodF l) (k : Int) (t : Tm) (f x : ByteArray) (A : Option Addr) (ws : List Nm) (n c : Nat) (K : Option Addr) (m d : Nat) (id : Int) (D : Option Addr) (dn dc : Nat) (v : Value) (w : World) (hf : f.data.toList = t.1) (hl : l.length = dn) (hr : FRow w w.heap.size D l)
    (hn : ws.length = n) (hw : Row w w.heap.size A (strs ws)) (h9 : n ≤ 9) (hc : n ≤ c) :
    Calls Tryz.prog 66 #[qV k f x A n c K m d, docV id D dn dc, v] w (GaveG (decide (0 < phraseD l t.1 ws), phraseD l t.1 ws) w) := by
  obtain ⟨N, hN⟩ : ∃ N, N = phraseD l t.1 ws := ⟨_, rfl⟩
  obtain ⟨w1, hw1⟩ : ∃ w1, w1 = box3 w k f x A n c K m d id D dn dc := ⟨_, rfl⟩
  have hs1 : w1.heap.size = w.heap.size + 3 := by rw [hw1]; simp [box3, boxQ]
  have HB : Hid (∀ wr, Below w1.heap.size w1 wr → _) := Lib.hid fun wr h => box3_of (decide (0 < N), N) (wr := wr) (by rw [hs1, hw1] at h; exact h)
  have h0 := HB.out _ (Below.refl _ _)
  have hC := good_phrase (id := id) (c := dc) hg hl (hr.later h0.1) f hn ((Row.below hw h0.1).more h0.1.size) (by omega) hc
  rw [hf, ← hN] at hC
  rw [← hN]
  have HC := Lib.hid hC
  have HW1 := Lib.hid hw1
  obtain ⟨hb0, ⟨a0, a1, a2, a3, a4⟩, ⟨b0, b1⟩, -, -⟩ := h0
  clear hw1 hN hr hf hC hs1 hb0 hw hn
  go_enter Tryz.func66, Tryz.ntmps66
  go_wp2_with fail
  rw [show ((w.alloc _).alloc _).alloc _ = w1 from HW1.out.symm]
  go_wp2_with (go_at_call 105; (with_reducible refine HC.out.mono ?_); rintro e w2 ⟨rfl, hb2⟩; obtain ⟨-, -, -, ⟨r0, r1, q0, q1⟩, hres, s0, s1⟩ := HB.out _ hb2; have HR := Lib.hid hres; have S0 := Lib.hid s0; have S1 := Lib.hid s1; clear hres s0 s1 hb2)
  unfold set2 at S0 S1 HR
  exact bodyPost_ret (v := gV (decide (0 < N), N)) (by simp [results, Tryz.results66, go_sem, S0.out, S1.out]) rfl HR.out
end Go.Proofs.YtolfkhflbjnakaaGreatDoor

/- What package doc's Name answers. -/
namespace Go.Proofs.YtolfkhflbjnakaaGreatDoor
open Go Go.RowKit
set_option linter.unusedVariables false

set_option maxHeartbeats 1000000 in
set_option maxRecDepth 100000 in
theorem doc_Name (s : ByteArray) (w : World) (hs : s.size ≤ 9223372036854775807) :
    Calls Tryz.prog 99 #[.string s] w fun e w' => e = .returned (.bool (nameB s.data.toList)) ∧ Below w.heap.size w w' := by
  have hsz : s.data.toList.length = s.size := Array.length_toList
  by_cases h0 : s.size = 0
  · have he : s = ByteArray.empty := by
      have : s.data.toList = [] := List.eq_nil_of_length_eq_zero (by omega)
      cases s with | mk d => cases d with | mk l => simp at this; subst this; rfl
    have hm : nameB s.data.toList = false := by rw [he]; rfl
    rw [hm]
    subst he
    clear hm hsz h0
    go_enter Tryz.func99, Tryz.ntmps99
    go_wp2
    go_ret
    exact ⟨rfl, Below.refl _ _⟩
  · have hne : s.data.toList ≠ [] := fun h => h0 (by rw [← hsz, h]; rfl)
    have hs0 : (s.toList == []) = false := by
      rw [Lib.toList_data]
      simpa using hne
    obtain ⟨z, hz⟩ : ∃ z, z = nameB s.data.toList := ⟨_, rfl⟩
    rw [← hz]
    have HZ := Lib.hid hz
    clear hz hne
    by_cases h12 : 12 < s.size
    · have hzf : z = false := by
        rw [HZ.out, nameB, hsz]
        have d : decide (s.size ≤ 12) = false := decide_eq_false (by omega)
        rw [d]
        simp
      subst hzf
      clear hsz h0
      go_enter Tryz.func99, Tryz.ntmps99
      go_wp2
      go_ret
      exact ⟨rfl, Below.refl _ _⟩
    · have hs12 : s.size ≤ 12 := by omega
      have h1 : 1 ≤ s.size := by omega
      have HSZ := Lib.hid hsz
      clear hsz h0 h12
      go_enter Tryz.func99, Tryz.ntmps99
      go_wp2
      go_loopw [2, 13] (fun r i wr => r = .bool false ∧ NameRel s.data.toList w i wr) (fun _ i _ => s.size - (intOf i).toNat)
      case atStart => exact ⟨rfl, 0, by omega, rfl, Below.refl _ _, fun j _ hj => by omega⟩
      case round =>
        obtain ⟨rfl, k, hk, rfl, hbw, hall⟩ := hrel
        rw [HSZ.out] at hk
        by_cases hlt : k < s.size
        · have hkl : k < s.data.toList.length := by rw [HSZ.out]; exact hlt
          have i0 : (0 : Int) ≤ k := by omega
          have i1 : (k : Int) < s.size := by omega
          have hb : s[k] = s.data.toList[k] := rfl
          cases hsm : smallB s.data.toList[k] with
          | true =>
            have h2 := hsm
            rw [smallB, ← hb, Bool.and_eq_true, decide_eq_true_iff, decide_eq_true_iff] at h2
            have j1 : (97 : Int) ≤ s[k].toNat := by omega
            have j2 : (s[k].toNat : Int) ≤ 122 := by omega
            have HN : Hid (∀ j (hj : j < s.data.toList.length), j < k + 1 → smallB s.data.toList[j] = true) := Lib.hid fun j hj hjk => by
              by_cases e : j = k
              · subst e; exact hsm
              · exact hall j hj (by omega)
            clear hall hsm h2 hb
            go_wp2
            go_roundw
            case rel => exact ⟨rfl, k + 1, by have := HSZ.out; omega, by go_num, hbw, HN.out⟩
            case measure => simp [intOf]; omega
          | false =>
            have h2 := hsm
            rw [smallB, ← hb, Bool.and_eq_false_iff, decide_eq_false_iff_not, decide_eq_false_iff_not] at h2
            have hbad : z = false := by rw [HZ.out]; exact nameB_bad hkl hsm
            subst hbad
            have j1 : (s[k].toNat : Int) < 97 ∨ (97 : Int) ≤ s[k].toNat ∧ (122 : Int) < s[k].toNat := by omega
            clear hall hsm h2 hb
            rcases j1 with j1 | ⟨j1, j2⟩
            all_goals
              go_wp2
              go_ret
              exact ⟨rfl, hbw⟩
        · have e := nameB_good (s := s.data.toList) (fun j hj => hall j hj (by rw [HSZ.out] at hj; omega))
          have d1 : (decide (1 ≤ s.size) && decide (s.size ≤ 12)) = true := by simp [h1, hs12]
          rw [HSZ.out, ← HZ.out, d1] at e
          subst e
          clear hall d1
          go_wp2
          go_ret
          exact ⟨rfl, hbw⟩
end Go.Proofs.YtolfkhflbjnakaaGreatDoor

/- What package word's Tokens answers: each word with its place, or the first error; in new memory; nothing that was there turns. -/
namespace Go.Proofs.YtolfkhflbjnakaaGreatDoor
open Go Go.RowKit
set_option linter.unusedVariables false


end Go.Proofs.YtolfkhflbjnakaaGreatDoor

/- (Parted off.) What the document's Same answers of two lists of texts that are the same; what the statements' own 'few' answers. -/
namespace Go.Proofs.YtolfkhflbjnakaaGreatDoor
open Go Go.RowKit
set_option linter.unusedVariables false


def GaveFew (n : Nat) (w : World) (e : Ending) (w' : World) : Prop := ∃ t : ByteArray, e = .returned (.string t) ∧ t.size ≤ n ∧ w = w'
end Go.Proofs.YtolfkhflbjnakaaGreatDoor

/- What the document's own FoldText answers: the bytes of the signs, each folded; nothing that was there turns. For every text of at most 2^28 bytes. -/
namespace Go.Proofs.YtolfkhflbjnakaaGreatDoor
open Go Go.RowKit
set_option linter.unusedVariables false

/-- A list whose first k signs are folded. -/
def halfFolded (l : List Int) (k : Nat) : List Int := (l.take k).map fold ++ l.drop k
theorem halfFolded_length (l : List Int) (k : Nat) : (halfFolded l k).length = l.length := by
  simp [halfFolded]; omega
theorem halfFolded_zero (l : List Int) : halfFolded l 0 = l := by simp [halfFolded]
theorem halfFolded_all (l : List Int) : halfFolded l l.length = l.map fold := by simp [halfFolded]
theorem halfFolded_at {l : List Int} {k : Nat} (hk : k < l.length) : (halfFolded l k)[k]? = some l[k] := by
  unfold halfFolded
  rw [List.getElem?_append_right (by simp; omega)]
  have : k - (List.map fold (List.take k l)).length = 0 := by simp; omega
  rw [this, List.getElem?_drop]
  simp [hk]
theorem halfFolded_set {l : List Int} {k : Nat} (hk : k < l.length) : (ints (halfFolded l k)).set k (.int .i64 (fold l[k])) = ints (halfFolded l (k + 1)) := by
  unfold halfFolded ints
  rw [← List.map_set]
  congr 1
  have hlen : (List.map fold (List.take k l)).length = k := by simp; omega
  rw [List.set_append_right _ _ (by omega), hlen, Nat.sub_self, List.take_succ_eq_append_getElem hk, List.map_append, List.append_assoc]
  congr 1
  rw [List.drop_eq_getElem_cons hk, List.set_cons_zero]
  simp

def RefFoldRel (w : World) (l : List Int) (g cap : Nat) (i : Value) (wr : World) : Prop :=
  ∃ k : Nat, k ≤ l.length ∧ i = .int .i64 k ∧ wr.ownsRow w.heap.size 3 1 (.slice (some ⟨g, 0, none⟩) l.length cap) l.length (ints (halfFolded l k)) ∧ Below w.heap.size w wr

set_option maxHeartbeats 1000000 in
set_option maxRecDepth 100000 in
theorem ref_FoldText (s : ByteArray) (w : World) (hs : s.size ≤ 1073741824) :
    Calls Tryz.prog 55 #[.string s] w (GaveText (foldText s.data.toList) w) := by
  have hsl := signs_length s.data.toList
  rw [size_list] at hsl
  go_enter Tryz.func55, Tryz.ntmps55
  go_wp2_with (go_at_call 54; refine (ref_Signs s _ hs).mono ?_)
  rintro e w1 ⟨v, rfl, hown, hb1⟩
  have hft : foldText s.data.toList = text ((signs s.data.toList).map fold) := rfl
  obtain ⟨l, hl⟩ : ∃ l, l = signs s.data.toList := ⟨_, rfl⟩
  rw [← hl] at hown hsl hft
  have HFT := Lib.hid hft
  clear hl hft
  by_cases h0 : 0 < l.length
  · obtain ⟨g, cap, rfl, hg0, hglt⟩ := hown.form h0
    go_wp2
    go_loopw [4] (fun i wr => RefFoldRel w l g cap i wr) (fun i _ => l.length - (intOf i).toNat)
    case atStart => exact ⟨0, Nat.zero_le _, rfl, by rw [halfFolded_zero]; exact hown, hb1⟩
    case round =>
      obtain ⟨k, hk, rfl, hownr, hbw⟩ := hrel
      by_cases hlt : k < l.length
      · have hat := halfFolded_at hlt
        have hset := halfFolded_set hlt
        obtain ⟨x, hx⟩ : ∃ x, x = l[k] := ⟨_, rfl⟩
        rw [← hx] at hat hset
        clear hx
        have hc1 : wr.cell? ⟨g, k, none⟩ = some (.int .i64 x) := by
          rw [hownr.cellAt k (by omega), ints, List.getElem?_map, hat]
          rfl
        have hfz : wr.frozen? ⟨g, k, none⟩ = false := hownr.frozenAt k
        obtain ⟨hown2, hgr⟩ := hownr.stored k (.int .i64 (fold x))
        rw [hset] at hown2
        have HO := Lib.hid hown2
        have HG := Lib.hid hgr
        have hHB : Below w.heap.size w (wr.setCell ⟨g, k, none⟩ (.int .i64 (fold x))) := hbw.setCell (by simpa using hg0) _
        clear hat hset hown2 hgr hownr
        go_wp2_with (go_at_call 96; refine (ref_Fold _ _).mono ?_)
        rintro e w' ⟨rfl, rfl⟩
        go_wp2
        go_roundw
        case rel => exact ⟨k + 1, by omega, by go_num, HO.out, hHB⟩
        case measure => simp [intOf]; omega
      · have hkl : k = l.length := by omega
        subst hkl
        rw [halfFolded_all] at hownr
        obtain ⟨A2, c2, he, _, hrow⟩ := owned_row hownr
        have hA2 : A2 = some ⟨g, 0, none⟩ := by injection he with h1 h2 h3; exact h1.symm
        rw [hA2] at hrow
        clear he hA2 hownr
        go_wp2_with (go_at_call 97; refine (ref_Text_at _ _ _ (l.map fold) _ (by simp) hrow (by omega)).mono ?_)
        rintro e w2 ⟨rfl, hb2⟩
        go_wp2
        go_ret
        rw [HFT.out]
        exact ⟨rfl, hbw.trans (hb2.mono hbw.size)⟩
  · have hnil : l = [] := List.eq_nil_of_length_eq_zero (by omega)
    subst hnil
    obtain ⟨A2, c2, rfl, _, hrow⟩ := owned_row hown
    go_wp2
    refine wp_loop_rounds 1 ?_
    rw [rounds_succ]
    go_wp2_with (go_at_call 97; refine (ref_Text_at _ _ _ [] _ rfl .nil (by omega)).mono ?_)
    rintro e w2 ⟨rfl, hb2⟩
    go_wp2
    go_ret
    rw [HFT.out]
    exact ⟨rfl, hb1.trans (hb2.mono hb1.size)⟩
end Go.Proofs.YtolfkhflbjnakaaGreatDoor
