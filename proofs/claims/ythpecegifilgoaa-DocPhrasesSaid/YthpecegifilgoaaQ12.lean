/- Texts laid together: Tie08, Lives08, Weight08, Name08, RefToks02. -/
import Derived.Test.YthpecegifilgoaaPhraseD08
import Derived.Test.YthpecegifilgoaaInv08
import Derived.Test.YthpecegifilgoaaQ11
import Derived.Deep.RegionHeld3
import Derived.Test.YthpecegifilgoaaQ07
import Derived.BigCall
import Derived.BigQuiet
import Derived.Deep.QuietTactic
import Derived.Test.YthpecegifilgoaaQ06

/- What is told by groups is the document's own answer. No program. -/
set_option linter.unusedVariables false
namespace Go.Proofs.Ythpecegifilgoaa
open Go

theorem followG_W {l : List Fd} (ha : ApartF l) (f : Nm) : ∀ (ws : List Nm) (a : Nat), followG (groupsT (tellD l)) f ws (a : Int) = followW (wordsD l f) ws a
  | [], a => by simp [followG, followW]
  | x :: ws, a => by
    have ih := followG_W ha f ws (a + 1)
    rw [followG, getG_groups, placesS_D ha, show ((a : Int) + 1) = ((a + 1 : Nat) : Int) by push_cast; rfl, ih, Bool.eq_iff_iff, Bool.and_eq_true, decide_eq_true_iff]
    rw [follow_iff, follow_iff]
    constructor
    · rintro ⟨h1, h2⟩ k hk
      cases k with
      | zero => exact h1
      | succ k =>
        have := h2 k (by simpa using hk)
        rw [show a + (k + 1) = a + 1 + k by omega]
        exact this
    · intro h
      refine ⟨h 0 (by simp), fun k hk => ?_⟩
      have := h (k + 1) (by simpa using hk)
      rw [show a + 1 + k = a + (k + 1) by omega]
      exact this
theorem places_bd {l : List Fd} (ha : ApartF l) {M : Nat} (hw : ∀ s, (wordsD l s).length ≤ M) (t : Tm) : ∀ a ∈ placesS (tellD l) t, 0 ≤ a ∧ a ≤ M := by
  intro a h
  rw [placesS_D ha] at h
  obtain ⟨k, h1, h2⟩ := (placesW_mem _ _ _ _).1 h
  have := (List.getElem?_eq_some_iff.1 h2).1
  have := hw t.1
  omega
theorem places_rise {l : List Fd} (ha : ApartF l) (t : Tm) : (placesS (tellD l) t).Pairwise (· < ·) := by
  rw [placesS_D ha]
  exact placesW_rise _ _ _
theorem phraseG_D {l : List Fd} (ha : ApartF l) (f : Nm) (ws : List Nm) : phraseG (groupsT (tellD l)) f ws = phraseD l f ws := by
  cases ws with
  | nil => rw [phraseG, phraseD, phraseW_nil]
  | cons x r =>
    rw [phraseG, phraseD_count, standG, getG_groups, placesS_D ha]
    congr 1
    apply List.filter_congr
    intro a h
    obtain ⟨k, h1, _⟩ := (placesW_mem _ _ _ _).1 h
    have := followG_W ha f r (a.toNat + 1)
    rw [← this]
    congr 1
    omega
end Go.Proofs.Ythpecegifilgoaa

/- The statements' lives: the document's example. -/
set_option linter.unusedVariables false
namespace Go.Proofs.Ythpecegifilgoaa
open Go Go.RowKit

def bab : List Fd := [([116], [98, 32, 97, 32, 98])]
theorem bab_terms : termsD bab = [([116], [97]), ([116], [98])] := by decide
theorem bab_places : (termsD bab).map (placesD bab) = [[1], [0, 2]] := by decide
theorem bab_phrase : phraseD bab [116] [[98], [97]] = 1 := by decide
theorem bab_may : mayD bab = 0 := by decide
theorem bab_words : ∀ f ∈ bab, (words f.2).length ≤ 1048576 := by decide
theorem bab_wordsD (s : Nm) : (wordsD bab s).length ≤ 1048576 := by
  unfold bab
  rw [wordsD]
  split
  · decide
  · simp [wordsD]
set_option maxHeartbeats 4000000 in
set_option maxRecDepth 100000 in
theorem law08_lives (w : World) : Calls Try.prog 18 #[] w fun e w' => e = .returned (.bool true) ∧ Below w.heap.size w w' := by
  obtain ⟨g1, g2, g3, g4, g5⟩ := mayD_of bab_may
  obtain ⟨w1, hw1⟩ : ∃ w1, w1 = w.alloc (.cells #[.string ⟨#[116]⟩, .string ⟨#[98, 32, 97, 32, 98]⟩] 31) := ⟨_, rfl⟩
  have hb1 : Below w.heap.size w w1 := by rw [hw1]; exact (Below.refl _ _).alloc (Nat.le_refl _) _
  have hr1 : FRow w1 w1.heap.size (some ⟨w.heap.size, 0, none⟩) bab := by
    rw [hw1]
    exact frow_new w ([116], [98, 32, 97, 32, 98]) 31
  obtain ⟨w2, hw2⟩ : ∃ w2, w2 = w1.alloc (.cells #[.int .i64 0, .slice (some ⟨w.heap.size, 0, none⟩) 1 1] 24) := ⟨_, rfl⟩
  have hb2 : Below w1.heap.size w1 w2 := by rw [hw2]; exact (Below.refl _ _).alloc (Nat.le_refl _) _
  have hr2 := hr1.later hb2
  have hd2 : ∀ w', Below w2.heap.size w2 w' → w'.cell? ⟨w.heap.size + 1, 0, none⟩ = some (.int .i64 0) ∧ w'.cell? ⟨w.heap.size + 1, 1, none⟩ = some (.slice (some ⟨w.heap.size, 0, none⟩) 1 1) := fun w' h => by
    have := boxD_cells (w := w1) (id := 0) (A := some ⟨w.heap.size, 0, none⟩) (n := 1) (c := 1) (wr := w') (by rw [hw2] at h; exact h)
    rw [show w1.heap.size = w.heap.size + 1 by rw [hw1]; simp] at this
    exact this
  have hI := doc_Invert 0 (some ⟨w.heap.size, 0, none⟩) 1 1 bab w2 rfl hr2 (by omega) (by decide) bab_words g3 g4
  rw [bab_places, bab_terms] at hI
  have HI := Lib.hid hI
  have HR2 := Lib.hid hr2
  have HD2 := Lib.hid hd2
  have HB2 : Hid (Below w.heap.size w w2) := Lib.hid (hb1.trans (hb2.mono hb1.size))
  have HW2 : Hid (w2 = (w.alloc (.cells #[.string ⟨#[116]⟩, .string ⟨#[98, 32, 97, 32, 98]⟩] 31)).alloc (.cells #[.int .i64 0, .slice (some ⟨w.heap.size, 0, none⟩) 1 1] 24)) := Lib.hid (by rw [hw2, hw1])
  have HAP := Lib.hid g3
  clear hI hr1 hr2 hd2 hb1 hb2 hw1 hw2 g1 g2 g3 g4 g5
  go_enter Try.func18, Try.ntmps18
  obtain ⟨d0, d1⟩ := HD2.out w2 (Below.refl _ _)
  go_wp2_with (first
    | (go_at_call 21; rw [show (w.alloc _).alloc _ = w2 from HW2.out.symm]
       (with_reducible refine HI.out.mono ?_)
       rintro e w3 ⟨v1, v2, rfl, ho1, ho2, hb3⟩
       obtain ⟨A1, c1, rfl, hc1, hr1⟩ := ho1.row
       obtain ⟨A2, c2, rfl, hc2, hr2⟩ := ho2.rows
       obtain ⟨ba, oa, rfl, hba, _, ha1⟩ := hr1.at_ (k := 0) (by simp)
       obtain ⟨_, _, hbb, _, _, hb1⟩ := hr1.at_ (k := 1) (by simp)
       cases hbb
       obtain ⟨bp, op, A3, c3, rfl, hbp, hp1, hc3, hr3⟩ := hr2.at_ (k := 1) (by simp)
       obtain ⟨bq, oq, rfl, hbq, hq1⟩ := row_int (k := 1) hr3 (by simp)
       obtain ⟨e0, e1⟩ := HD2.out w3 hb3
       have HB3 := Lib.hid hb3
       have hb4 : Below w3.heap.size w3 (w3.alloc (.cells #[.string ⟨#[98]⟩, .string ⟨#[97]⟩] 9)) := (Below.refl _ _).alloc (Nat.le_refl _) _
       have hws : Row (w3.alloc (.cells #[.string ⟨#[98]⟩, .string ⟨#[97]⟩] 9)) (w3.alloc (.cells #[.string ⟨#[98]⟩, .string ⟨#[97]⟩] 9)).heap.size (some ⟨w3.heap.size, 0, none⟩) (strs [[98], [97]]) := .inr ⟨w3.heap.size, 0, rfl, by simp, fun j u hu => by
         have := news_at w3 [.string ⟨#[98]⟩, .string ⟨#[97]⟩] 9 j u hu
         rw [Addr.add_lit] at this
         exact this⟩
       have hP := doc_Phrase 0 (some ⟨w.heap.size, 0, none⟩) 1 1 bab ⟨#[116]⟩ (some ⟨w3.heap.size, 0, none⟩) 2 2 [[98], [97]] (w3.alloc (.cells #[.string ⟨#[98]⟩, .string ⟨#[97]⟩] 9)) rfl ((HR2.out.later hb3).later hb4) (by omega) (by decide) bab_words rfl hws (by omega) (by omega) (fun t => places_rise HAP.out t) (fun t a h => places_bd HAP.out bab_wordsD t a h)
       rw [phraseG_D HAP.out] at hP
       have HP := Lib.hid hP
       have HB4 := Lib.hid hb4
       clear ho1 ho2 hr1 hr2 hr3 hb3 hb4 hws hP)
    | (go_at_call 28; (with_reducible refine HP.out.mono ?_); rintro e w5 ⟨rfl, hb5⟩; rw [show phraseD bab (⟨#[116]⟩ : ByteArray).data.toList [[98], [97]] = 1 from bab_phrase]))
  go_ret
  exact ⟨rfl, HB2.out.trans ((HB3.out.trans ((HB4.out.trans (hb5.mono HB4.out.size)).mono HB3.out.size)).mono HB2.out.size)⟩
end Go.Proofs.Ythpecegifilgoaa

/- What the document's Weight answers. -/
namespace Go.Proofs.Ythpecegifilgoaa
open Go Go.RowKit
set_option linter.unusedVariables false

def weightUp (l : List Fd) (k : Nat) : Nat := ((l.take k).map fun f => (wordsD l f.1).length).sum
theorem weightUp_succ {l : List Fd} {k : Nat} (hk : k < l.length) : weightUp l (k + 1) = weightUp l k + (wordsD l l[k].1).length := by
  unfold weightUp
  rw [List.take_succ_eq_append_getElem hk, List.map_append, List.sum_append]
  simp
theorem weightUp_all (l : List Fd) : weightUp l l.length = weightD l := by rw [weightUp, List.take_length]; rfl
theorem weightUp_le {l : List Fd} {m : Nat} (hw : ∀ s, (wordsD l s).length ≤ m) : ∀ k, k ≤ l.length → weightUp l k ≤ k * m
  | 0, _ => by simp [weightUp]
  | k + 1, hk => by
    have h1 := weightUp_le hw k (by omega)
    have h2 := hw (l[k]'(by omega)).1
    rw [weightUp_succ (by omega), Nat.succ_mul]
    omega

def WeightRel (l : List Fd) (w1 : World) (a i : Value) (wr : World) : Prop := ∃ k : Nat, k ≤ l.length ∧ a = .int .i64 (weightUp l k : Int) ∧ i = .int .i64 (k : Int) ∧ Below w1.heap.size w1 wr

set_option maxHeartbeats 2000000 in
set_option maxRecDepth 100000 in
theorem ref08_Weight (id : Int) (A : Option Addr) (n c : Nat) (l : List Fd) (w : World) (hl : l.length = n) (hr : FRow w w.heap.size A l) (hn : n ≤ 100) (ht : ∀ f ∈ l, f.2.length ≤ 268435456) (hw : ∀ s, (wordsD l s).length ≤ 1048576) :
    Calls Try.prog 25 #[docV id A n c] w fun e w' => e = .returned (.int .i64 (weightD l : Int)) ∧ Below w.heap.size w w' := by
  have HC : Hid (∀ w' (x : ByteArray), Below w.heap.size w w' → Calls Try.prog 30 #[docV id A n c, .string x] w' (GaveStrs (wordsD l x.data.toList) w')) := Lib.hid fun w' x h => ref08_Words id A n c l x w' hl (hr.later h) (by omega) ht
  subst hl
  have HR := Lib.hid hr
  have HW := Lib.hid hw
  clear hr ht hw
  obtain ⟨N, hN⟩ : ∃ N, N = weightD l := ⟨_, rfl⟩
  rw [← hN]
  have HN := Lib.hid hN
  clear hN
  go_enter Try.func25, Try.ntmps25
  go_wp2
  obtain ⟨w1, hw1⟩ : ∃ w1, w1 = boxD w id A l.length c := ⟨_, rfl⟩
  have hb1 : ∀ wr, Below w1.heap.size w1 wr → Below w.heap.size w wr ∧ wr.cell? ⟨w.heap.size, 0, none⟩ = some (.int .i64 id) ∧ wr.cell? ⟨w.heap.size, 1, none⟩ = some (.slice A l.length c) := fun wr h => by
    subst hw1
    exact ⟨boxD_out h, boxD_cells h⟩
  have HB1 := Lib.hid hb1
  clear hb1
  rw [show w.alloc _ = w1 from hw1.symm]
  clear hw1
  go_loopw [3, 4] (fun a i wr => WeightRel l w1 a i wr) (fun _ i _ => l.length - (intOf i).toNat)
  case atStart => exact ⟨0, by omega, rfl, rfl, Below.refl _ _⟩
  case round =>
    obtain ⟨k, hk, rfl, rfl, hbw⟩ := hrel
    obtain ⟨hb0, hc0, hc1⟩ := HB1.out _ hbw
    by_cases hlt : k < l.length
    · obtain ⟨b1, o1, e1, hb1, hf1, _⟩ := (HR.out.below hb0).at_ hlt
      subst e1
      have hsu := weightUp_succ hlt
      have hle := weightUp_le HW.out k (by omega)
      have hwk := HW.out l[k].1
      obtain ⟨x, hx, hx2⟩ := as_text l[k].1
      rw [← hx] at hf1
      rw [← hx2] at hsu hwk
      have C1 := Lib.hid fun w' h => HC.out w' x h
      obtain ⟨M, hM⟩ : ∃ M, M = weightUp l k := ⟨_, rfl⟩
      obtain ⟨ws, hws⟩ : ∃ ws, ws = wordsD l x.data.toList := ⟨_, rfl⟩
      rw [← hM, ← hws] at hsu
      rw [← hM] at hle
      rw [← hM]
      rw [← hws] at C1 hwk
      have hmb : M ≤ 104857600 := Nat.le_trans hle (Nat.le_trans (Nat.mul_le_mul_right _ (by omega : k ≤ 100)) (by omega))
      have i0 : (0 : Int) ≤ k := by omega
      have i1 : (k : Int) < l.length := by omega
      have HSU := Lib.hid hsu
      have HSS : Hid (∀ w', Below w1.heap.size wr w' → w'.cell? ⟨w.heap.size, 0, none⟩ = some (.int .i64 id) ∧ w'.cell? ⟨w.heap.size, 1, none⟩ = some (.slice (some ⟨b1, o1, none⟩) l.length c) ∧ w'.cell? ⟨b1, o1 + k * 2, none⟩ = some (.string x)) := Lib.hid fun w' h => by
        have h2 := HB1.out _ (hbw.trans h)
        refine ⟨h2.2.1, h2.2.2, ?_⟩
        have h3 := (h.mono (by have := (HB1.out _ (Below.refl _ _)).1.size; omega : w.heap.size ≤ w1.heap.size)).cell (p := ⟨b1, o1 + k * 2, none⟩) hb1
        exact h3.trans hf1
      have HB0 := Lib.hid hb0
      have hsz := hbw.size
      clear hx hx2 hM hws hsu hle hb0
      go_wp2
      go_region_held3 (fun w' => w'.cell? ⟨w.heap.size, 0, none⟩ = some (.int .i64 id) ∧ w'.cell? ⟨w.heap.size, 1, none⟩ = some (.slice (some ⟨b1, o1, none⟩) l.length c) ∧ w'.cell? ⟨b1, o1 + k * 2, none⟩ = some (.string x))
        (first | exact HSS.out _ (Below.refl _ _).drew | exact HSS.out _ HB4.out)
        (first
          | (go_at_call 30; (with_reducible refine (C1.out _ (HB0.out.trans ((Below.refl _ wr).drew.mono (HB0.out.size)))).mono ?_); rintro e w4 ⟨v4, rfl, ho4, hb4⟩
             obtain ⟨A4, c4, rfl, _, _⟩ := owned_row ho4
             have HB4 : Hid (Below w1.heap.size wr w4) := Lib.hid (((Below.refl _ wr).drew.trans hb4).mono hsz)
             clear ho4 hb4))
      all_goals
        go_wp2
        refine ⟨⟨k + 1, by omega, ?_, by go_num, hbw.trans HB4.out⟩, by simp [intOf]; omega⟩
        rw [HSU.out, IntWalk.i64_in _ (by omega)]
        push_cast
        rfl
    · have hkl : k = l.length := by omega
      subst hkl
      rw [weightUp_all, ← HN.out]
      have HB0 := Lib.hid hb0
      clear hb0
      go_wp2
      go_ret
      exact ⟨rfl, HB0.out⟩
end Go.Proofs.Ythpecegifilgoaa

/- What the document's Name answers. -/
namespace Go.Proofs.Ythpecegifilgoaa
open Go Go.RowKit
set_option linter.unusedVariables false

def NameRel (s : Nm) (w : World) (i : Value) (wr : World) : Prop := ∃ k : Nat, k ≤ s.length ∧ i = .int .i64 (k : Int) ∧ Below w.heap.size w wr ∧ ∀ j (hj : j < s.length), j < k → smallB s[j] = true

set_option maxHeartbeats 1000000 in
set_option maxRecDepth 100000 in
theorem ref08_Name (s : ByteArray) (w : World) (hs : s.size ≤ 9223372036854775807) :
    Calls Try.prog 16 #[.string s] w fun e w' => e = .returned (.bool (nameB s.data.toList)) ∧ Below w.heap.size w w' := by
  have hsz : s.data.toList.length = s.size := Array.length_toList
  obtain ⟨z, hz⟩ : ∃ z, z = nameB s.data.toList := ⟨_, rfl⟩
  rw [← hz]
  have HZ := Lib.hid hz
  clear hz
  go_enter Try.func16, Try.ntmps16
  go_wp2
  go_loopw [2, 3] (fun r i wr => r = .bool false ∧ NameRel s.data.toList w i wr) (fun _ i _ => s.size - (intOf i).toNat)
  case atStart => exact ⟨rfl, 0, by omega, rfl, Below.refl _ _, fun j _ hj => by omega⟩
  case round =>
    obtain ⟨rfl, k, hk, rfl, hbw, hall⟩ := hrel
    rw [hsz] at hk
    by_cases hlt : k < s.size
    · have hkl : k < s.data.toList.length := by omega
      have i0 : (0 : Int) ≤ k := by omega
      have i1 : (k : Int) < s.size := by omega
      have hb : s[k] = s.data.toList[k] := rfl
      cases hsm : smallB s.data.toList[k] with
      | true =>
        have h2 := hsm
        rw [smallB, ← hb, Bool.and_eq_true, decide_eq_true_iff, decide_eq_true_iff] at h2
        have j1 : (97 : Int) ≤ s[k].toNat := by omega
        have j2 : (s[k].toNat : Int) ≤ 122 := by omega
        have HN : Hid (∀ j (hj : j < s.data.toList.length), j < k + 1 → smallB s.data.toList[j] = true) := Lib.hid fun j hj hjk => by
          by_cases e : j = k
          · subst e; exact hsm
          · exact hall j hj (by omega)
        have HSZ := Lib.hid hsz
        clear hall hsm h2 hb hsz
        go_wp2
        go_roundw
        case rel => exact ⟨rfl, k + 1, by have := HSZ.out; omega, by go_num, hbw, HN.out⟩
        case measure => simp [intOf]; omega
      | false =>
        have h2 := hsm
        rw [smallB, ← hb, Bool.and_eq_false_iff, decide_eq_false_iff_not, decide_eq_false_iff_not] at h2
        have hbad : z = false := by rw [HZ.out]; exact nameB_bad hkl hsm
        subst hbad
        have j1 : (s[k].toNat : Int) < 97 ∨ (97 : Int) ≤ s[k].toNat ∧ (122 : Int) < s[k].toNat := by omega
        clear hall hsm h2 hb hsz
        rcases j1 with j1 | ⟨j1, j2⟩
        all_goals
          go_wp2
          go_ret
          exact ⟨rfl, hbw⟩
    · have e := nameB_good (s := s.data.toList) (fun j hj => hall j hj (by omega))
      rw [hsz, ← HZ.out] at e
      clear hall hsz
      by_cases g1 : 1 ≤ s.size
      · by_cases g2 : s.size ≤ 12
        · have d1 : (decide (1 ≤ s.size) && decide (s.size ≤ 12)) = true := by simp [g1, g2]
          rw [d1] at e
          subst e
          clear d1
          go_wp2
          go_ret
          exact ⟨ret_bool (decide_eq_true (by omega)), hbw⟩
        · have d1 : (decide (1 ≤ s.size) && decide (s.size ≤ 12)) = false := by simp [g2]
          have g3 : 12 < s.size := by omega
          rw [d1] at e
          subst e
          clear d1 g2
          go_wp2
          go_ret
          exact ⟨ret_bool (decide_eq_false (by omega)), hbw⟩
      · have d1 : (decide (1 ≤ s.size) && decide (s.size ≤ 12)) = false := by simp [g1]
        have g3 : s.size < 1 := by omega
        rw [d1] at e
        subst e
        clear d1 g1
        go_wp2
        go_ret
        exact ⟨rfl, hbw⟩
end Go.Proofs.Ythpecegifilgoaa

/- What the document's Tokens answers: each word with its place, or the first error; in new memory; nothing that was there turns. -/
namespace Go.Proofs.Ythpecegifilgoaa
open Go Go.RowKit
set_option linter.unusedVariables false

set_option maxHeartbeats 2000000 in
set_option maxRecDepth 100000 in
theorem ref_Tokens (s : ByteArray) (w : World) (hs : s.size ≤ 268435456) :
    Calls Try.prog 33 #[.string s] w (GaveToks (words s.data.toList) w) := by
  obtain ⟨i0, hi0, hz0, hz1, hz2⟩ := info_parts info_token
  have hwl := words_length s.data.toList
  have hsz : s.data.toList.length = s.size := Array.length_toList
  rw [hsz] at hwl
  go_enter Try.func33, Try.ntmps33
  go_wp2_with (go_at_call 46; refine (ref_Words s _ (by omega)).mono ?_)
  rintro e w1 ⟨v, rfl, hown, hb⟩
  obtain ⟨A, c, rfl, _, hrow⟩ := owned_row hown
  obtain ⟨ws, hl⟩ : ∃ ws, ws = words s.data.toList := ⟨_, rfl⟩
  rw [← hl] at hrow hwl
  rw [← hl]
  have FIN : Hid (∀ e w', GaveToks ws w e w' → GaveToks (words s.data.toList) w e w') := by rw [← hl]; exact fun _ _ h => h
  have HB := Lib.hid hb
  have HR := Lib.hid hrow
  clear hl hb hown hrow
  go_wp2
  go_loopw [2, 3, 5, 6] (fun a b o i wr => ToksRel ws w1 a b o i wr) (fun _ _ _ i _ => ws.length - (intOf i).toNat)
  case atStart => exact ⟨0, _, rfl, rfl, rfl, Nat.zero_le _, by omega, rfl, World.ownsRow_nil _ _ _ _, Below.refl _ _, rfl⟩
  case round =>
    obtain ⟨k, vo, rfl, rfl, rfl, hk, hk5, rfl, hown, hbw, her⟩ := hrel
    by_cases hlt : k < ws.length
    · obtain ⟨b1, o1, e1, _, hc1⟩ := row_str (HR.out.below hbw) hlt
      subst e1
      have hat := errFrom_at hlt
      have htk := tokCells_take hlt
      obtain ⟨tx, htx⟩ : ∃ tx : ByteArray, tx = ⟨ws[k].toArray⟩ := ⟨_, rfl⟩
      have htl : ws[k].length = tx.size := by rw [htx]; simp [ByteArray.size]
      rw [← htx] at hc1 htk
      rw [htl, her] at hat
      clear htx htl her
      have HTK := Lib.hid htk
      clear htk
      have hszj := hbw.size
      by_cases h30 : 30 < tx.size
      · rw [if_pos h30] at hat
        have HAT := Lib.hid hat
        clear hat
        go_wp2
        go_ret2
        exact FIN.out _ _ ⟨_, by rw [HAT.out]; rfl, fun h => by rw [HAT.out] at h; omega, fun _ => rfl, HB.out.trans (hbw.mono HB.out.size)⟩
      · rw [if_neg h30] at hat
        by_cases h500 : k = 500
        · rw [if_pos (by omega)] at hat
          have HAT := Lib.hid hat
          subst h500
          clear hat
          go_wp2
          go_ret2
          exact FIN.out _ _ ⟨_, by rw [HAT.out]; rfl, fun h => by rw [HAT.out] at h; omega, fun _ => rfl, HB.out.trans (hbw.mono HB.out.size)⟩
        · rw [if_neg (by omega)] at hat
          have HAT := Lib.hid hat
          clear hat
          have h5 : (k : Int) < 500 := by omega
          have h5' : ¬ (500 : Int) ≤ k := by omega
          go_wp2_with (at_builtin; refine wpList_append_own _ rfl (.tmp 23) (.tmp 30) 59 rfl w1.heap.size 82 i0 _ 2 24 Try.underlying59 hi0 hz0 hz1 hz2 rfl (by omega) _ k (tokCells 0 (ws.take k)) rfl (hown.alloc _) ⟨wr.heap.size, 0, none⟩ 1 1 [.string tx, .int .i64 k] rfl rfl (news_at wr [.string tx, .int .i64 k] 82) (by intro u hu; simp at hu; rcases hu with hu | hu <;> (subst hu; rfl)) (by unfold maxLen; omega) (by omega) (by simp; omega) ?_)
          intro v' w5 hown5 hgrow5 _
          have hbw5 := (hbw.alloc (by omega) _).grown hgrow5 (by simp; omega) (fun j hj => (hown.lt j hj).1)
          rw [← HTK.out] at hown5
          clear hgrow5
          go_wp2
          go_roundw
          case rel => exact ⟨k + 1, _, rfl, rfl, rfl, by omega, by omega, by go_num, hown5, hbw5, HAT.out.symm⟩
          case measure => simp [intOf]; omega
    · have hkl : k = ws.length := by omega
      have her0 : errFrom 0 ws = 0 := by rw [← her, List.drop_of_length_le (by omega)]; rfl
      rw [hkl, List.take_length] at hown
      have HE := Lib.hid her0
      clear her her0 hkl
      go_wp2
      go_ret2
      exact FIN.out _ _ ⟨_, by rw [HE.out]; rfl, fun _ => owned_low hown HB.out.size, fun h => absurd HE.out h, HB.out.trans (hbw.mono HB.out.size)⟩
end Go.Proofs.Ythpecegifilgoaa
