/- The walk of DocPhrases. -/
import Derived.Test.YthpecegifilgoaaQ13
import Derived.Test.YthpecegifilgoaaNat
set_option linter.unusedVariables false
namespace Go.Proofs.Ythpecegifilgoaa
open Go Go.RowKit

theorem phraseW_pos {ws : List Nm} (h0 : ws ≠ []) : ∀ {l : List Nm} {k : Nat}, k < l.length → (l.drop k).take ws.length = ws → 1 ≤ phraseW ws l
  | [], k, hk, _ => by simp at hk
  | y :: l, 0, _, h => by rw [phraseW, if_pos ⟨h0, h⟩]; omega
  | y :: l, k + 1, hk, h => by
    have := phraseW_pos h0 (l := l) (k := k) (by simpa using hk) h
    rw [phraseW]
    omega
theorem phraseW_bd (ws : List Nm) : ∀ l : List Nm, ws.length ≤ l.length → phraseW ws l ≤ l.length - ws.length + 1
  | [], h => by simp [phraseW]
  | y :: l, h => by
    rw [phraseW]
    by_cases h1 : ws.length ≤ l.length
    · have := phraseW_bd ws l h1
      simp only [List.length_cons]
      split <;> omega
    · rw [phraseW_short (by omega)]
      split <;> omega
def PhrasesRel (gl : Nat) (w3 : World) (i : Value) (wr : World) : Prop := ∃ k : Nat, k ≤ gl ∧ i = .int .i64 (k : Int) ∧ Below w3.heap.size w3 wr

set_option maxHeartbeats 8000000 in
set_option maxRecDepth 100000 in
theorem walk_DocPhrases (id : Int) (A : Option Addr) (n c : Nat) (l : List Fd) (a1 a2 : Int) (w : World) (hid : (Lit.int .i64 id).wf = true) (hin : InFlds w A n c l) (h1 : (Lit.int .i64 a1).wf = true) (h2 : (Lit.int .i64 a2).wf = true) :
    Calls Try.prog 7 #[.agg #[.int .i64 id, .slice A n c], .int .i64 a1, .int .i64 a2] w fun e w' => e = .returned (.bool true) ∧ Below w.heap.size w w' := by
  obtain ⟨hnc, hcm, hln, hrow, hbd⟩ := hin
  obtain ⟨N1, hN1, hneg1, hpos1⟩ := made_nat (wf_bd h1)
  obtain ⟨N2, hN2, hneg2, hpos2⟩ := made_nat (wf_bd h2)
  have b1 := wf_bd h1
  have b2 := wf_bd h2
  have HNG1 := Lib.hid hneg1
  have HPS1 := Lib.hid hpos1
  have HNG2 := Lib.hid hneg2
  have HPS2 := Lib.hid hpos2
  obtain ⟨w1, hw1⟩ : ∃ w1, w1 = boxD w id A n c := ⟨_, rfl⟩
  have hb1 : Below w.heap.size w w1 := by rw [hw1]; exact boxD_below _ _ _ _ _
  have hcc := boxD_cells (w := w) (id := id) (A := A) (n := n) (c := c) (Below.refl _ _)
  rw [← hw1] at hcc
  obtain ⟨hc0, hc1⟩ := hcc
  have hG := ref08_Good id A n c l w1 hln (hrow.later hb1) (by unfold maxLen at hcm; omega) (fun f hf => by have := hbd f hf; unfold maxLen at this; omega)
  have hgood := goodD_good l
  obtain ⟨g, hg⟩ : ∃ g, g = goodD l := ⟨_, rfl⟩
  rw [← hg] at hG hgood
  have HG := Lib.hid hG
  have HGOOD := Lib.hid hgood
  have HB1 := Lib.hid hb1
  have HW1 := Lib.hid hw1
  have HLV : Hid (∀ w', Calls Try.prog 18 #[] w' fun e w'' => e = .returned (.bool true) ∧ Below w'.heap.size w' w'') := Lib.hid law08_lives
  clear hG hgood hb1 hw1 hrow hbd hg hneg1 hpos1 hneg2 hpos2 h1 h2
  go_enter Try.func7, Try.ntmps7
  go_upto_if 16 with (first
    | (go_at_call 17; rw [show w.alloc _ = w1 from HW1.out.symm]
       (with_reducible refine HG.out.mono ?_)
       rintro e w2 ⟨v2, rfl, ho2, hb2⟩
       obtain ⟨A2, c2, rfl, hc2, hr2⟩ := ho2.row
       obtain ⟨gl, hgl⟩ : ∃ gl, gl = g.length := ⟨_, rfl⟩
       rw [← hgl] at hc2 ⊢
       obtain ⟨w3, hw3⟩ : ∃ w3, w3 = w2.alloc (.cells #[.int .i64 id, .slice A2 gl c2] 24) := ⟨_, rfl⟩
       have hd3 : DocIn w3 w2.heap.size id A2 gl c2 g := by rw [hw3]; exact DocIn.made hgl.symm hr2
       have HD3 := Lib.hid hd3
       have HW3 := Lib.hid hw3
       have HGL := Lib.hid hgl
       have HB3 : Hid (Below w.heap.size w w3) := Lib.hid (HB1.out.trans ((hb2.trans (by rw [hw3]; exact ((Below.refl _ _).alloc (Nat.le_refl _) _).mono hb2.size)).mono HB1.out.size))
       clear ho2 hb2 hr2 hw3 hd3 hgl))
  rw [show w2.alloc _ = w3 from HW3.out.symm]
  go_cut [1] from 17 to 19 (fun s wx => s = .int .i64 (N1 : Int) ∧ w3 = wx)
  case first =>
    by_cases h0 : a1 < 0
    · have hng := HNG1.out h0
      go_wp2_with fail
      go_meet
      exact ⟨rfl, rfl⟩
    · have hng := HPS1.out (by omega)
      subst hng
      go_wp2_with fail
      go_meet
      exact ⟨rfl, rfl⟩
  case rest =>
    obtain ⟨rfl, rfl⟩ := hcut
    clear b1 HNG1 HPS1
    go_upto_if 21 with fail
    go_cut [2] from 22 to 24 (fun s wx => s = .int .i64 (N2 : Int) ∧ w3 = wx)
    case first =>
      by_cases h0 : a2 < 0
      · have hng := HNG2.out h0
        go_wp2_with fail
        go_meet
        exact ⟨rfl, rfl⟩
      · have hng := HPS2.out (by omega)
        subst hng
        go_wp2_with fail
        go_meet
        exact ⟨rfl, rfl⟩
    case rest =>
      obtain ⟨rfl, rfl⟩ := hcut
      clear b2 HNG2 HPS2
      obtain ⟨d0, d1⟩ := HD3.out.cells
      have hg8 : gl ≤ 8 := by rw [HGL.out]; exact HGOOD.out.len
      go_wp2
      go_loopw [8] (fun i wr => PhrasesRel gl w3 i wr) (fun i _ => gl - (intOf i).toNat)
      case atStart => exact ⟨0, by omega, rfl, Below.refl _ _⟩
      case round =>
        obtain ⟨i, hi, rfl, hbw⟩ := hrel
        have hd := HD3.out.later hbw
        have hsr := hbw.size
        obtain ⟨d0, d1⟩ := hd.cells
        by_cases hlt : i < gl
        · have hig : i < g.length := by rw [← HGL.out]; exact hlt
          obtain ⟨b4, o4, e4, hb4, hx4, hy4⟩ := hd.row.at_ hig
          subst e4
          obtain ⟨x, hx, hx2⟩ := as_text g[i].1
          rw [← hx] at hx4
          have HDW := Lib.hid hd
          obtain ⟨lw, hlw⟩ : ∃ lw, lw = wordsD g x.data.toList := ⟨_, rfl⟩
          have hLl : lw.length ≤ 500 := by rw [hlw]; exact HGOOD.out.wordsS _
          have HWC : Hid (∀ w', Below wr.heap.size wr w' → Calls Try.prog 30 #[docV id (some ⟨b4, o4, none⟩) gl c2, .string x] w' (GaveStrs lw w')) := Lib.hid fun w' h => by
            have hd' := HDW.out.later h
            have := good_words (id := id) (c := c2) HGOOD.out hd'.len hd'.row x
            rwa [← hlw] at this
          have HS : Hid (∀ w', Below wr.heap.size wr w' → (w'.cell? ⟨w2.heap.size, 0, none⟩ = some (.int .i64 id) ∧ w'.cell? ⟨w2.heap.size, 1, none⟩ = some (.slice (some ⟨b4, o4, none⟩) gl c2) ∧ w'.cell? ⟨b4, o4 + i * 2, none⟩ = some (.string x))) := Lib.hid fun w' h => by
            have hd' := (HDW.out.later h).cells
            exact ⟨hd'.1, hd'.2, (h.cell (p := ⟨b4, _, none⟩) hb4).trans hx4⟩
          have HLW := Lib.hid hlw
          obtain ⟨L, hL⟩ : ∃ L, L = lw.length := ⟨_, rfl⟩
          have HL := Lib.hid hL
          rw [← hL] at hLl
          have i0 : (0 : Int) ≤ i := by omega
          have i1 : (i : Int) < gl := by omega
          have HBW := Lib.hid hbw
          clear hx hx2 hd hlw hL hbw hx4 hy4 hig
          go_wp2
          go_region_held3 (fun w' => (w'.cell? ⟨w2.heap.size, 0, none⟩ = some (.int .i64 id) ∧ w'.cell? ⟨w2.heap.size, 1, none⟩ = some (.slice (some ⟨b4, o4, none⟩) gl c2) ∧ w'.cell? ⟨b4, o4 + i * 2, none⟩ = some (.string x)))
            (first | exact HS.out _ (Below.refl _ _).drew | exact HS.out _ HB7.out)
            (first
              | (go_at_call 30; (with_reducible refine (HWC.out _ (Below.refl _ wr).drew).mono ?_); rintro e w7 ⟨v7, rfl, ho7, hb7⟩
                 obtain ⟨A8, c8, rfl, hc8, hr8⟩ := owned_row ho7
                 rw [← HL.out] at hc8 ⊢
                 have HB7 : Hid (Below wr.heap.size wr w7) := Lib.hid ((Below.refl _ wr).drew.trans hb7)
                 have HR8 := Lib.hid hr8
                 clear ho7 hb7 hr8))
          all_goals
            obtain ⟨q0, q1, q2⟩ := HS.out _ HB7.out
            by_cases hL0 : L = 0
            · have j0 : (L : Int) = 0 := by omega
              subst hL0
              clear j0
              go_wp2
              exact ⟨⟨i + 1, by omega, by go_num, HBW.out.trans (HB7.out.mono hsr)⟩, by simp [intOf]; omega⟩
            · have hL1 : 0 < L := by omega
              obtain ⟨b8, o8, e8, hb8, hz8⟩ := row_nm HR8.out (k := 0) (by rw [← HL.out]; exact hL1)
              subst e8
              clear hz8
              obtain ⟨k, hk⟩ : ∃ k, k = N1 % L := ⟨_, rfl⟩
              have hkI : (N1 : Int) % (L : Int) = (k : Int) := by rw [hk]; rfl
              have hkL : k < L := by rw [hk]; exact Nat.mod_lt _ hL1
              obtain ⟨q, hq⟩ : ∃ q, q = N2 % (L - k) := ⟨_, rfl⟩
              have hqL : q < L - k := by rw [hq]; exact Nat.mod_lt _ (by omega)
              have hqI : (N2 : Int) % ((L : Int) - (k : Int)) = (q : Int) := by rw [hq, show (L : Int) - (k : Int) = ((L - k : Nat) : Int) by omega]; rfl
              obtain ⟨t, ht⟩ : ∃ t, t = k + 1 + q := ⟨_, rfl⟩
              have hsum : (k : Int) + 1 + (q : Int) = (t : Int) := by omega
              have hk0 : (k : Int) + 1 = ((k + 1 : Nat) : Int) := by omega
              obtain ⟨m, hm⟩ : ∃ m, m = q + 1 := ⟨_, rfl⟩
              have ht1 : t - k = m := by omega
              have ht2 : t ≤ c8 := by omega
              have ht3 : k ≤ t := by omega
              have ht4 : ¬ c8 = k := by omega
              have ht5 : (t : Int) ≤ c8 := by omega
              have ht6 : (k : Int) ≤ t := by omega
              have ht7 : (0 : Int) ≤ k := by omega
              have ht8 : (0 : Int) < (L : Int) - (k : Int) := by omega
              have ht9 : (0 : Int) < (L : Int) := by omega
              have hmL : k + m ≤ L := by omega
              have HKM := Lib.hid hmL
              clear hk hq ht hm hmL hk0
              go_upto_region 13 with fail
              obtain ⟨own, hown⟩ : ∃ own, own = (lw.drop k).take m := ⟨_, rfl⟩
              have howl : own.length = m := by rw [hown, List.length_take, List.length_drop, ← HL.out]; have := HKM.out; omega
              obtain ⟨P, hP⟩ : ∃ P, P = phraseD g x.data.toList own := ⟨_, rfl⟩
              have hm1 : 1 ≤ m := by omega
              have hP1 : 1 ≤ P := by
                rw [hP, phraseD, ← HLW.out]
                refine phraseW_pos (fun e => by rw [e] at howl; simp at howl; omega) (k := k) (by rw [← HL.out]; omega) ?_
                rw [howl, hown]
              have hP2 : P ≤ L - m + 1 := by
                rw [hP, phraseD, ← HLW.out]
                have := phraseW_bd own lw (by rw [howl, ← HL.out]; have := HKM.out; omega)
                rwa [howl, ← HL.out] at this
              have hkm := HKM.out
              have hrow : ∀ w', Below w7.heap.size w7 w' → Row w' w'.heap.size (some ⟨b8, o8 + k, none⟩) (strs own) := fun w' h => by
                have := (((HR8.out.below h).more h.size).dropped k).cut m
                rwa [show (strs (lw.drop k)).take m = strs own by rw [hown]; simp [strs, List.map_take]] at this
              have HP1 : Hid (∀ w', Below w7.heap.size w7 w' → Calls Try.prog 28 #[docV id (some ⟨b4, o4, none⟩) gl c2, .string x, .slice (some ⟨b8, o8 + k, none⟩) m (c8 - k)] w' fun e w'' => e = .returned (.int .i64 (P : Int)) ∧ Below w'.heap.size w' w'') := Lib.hid fun w' h => by
                have hd' := HDW.out.later (HB7.out.trans (h.mono HB7.out.size))
                have := good_phrase (id := id) (c := c2) (c2 := c8 - k) HGOOD.out hd'.len hd'.row x howl (hrow w' h) (by omega) (by omega)
                rwa [← hP] at this
              have HP2 : Hid (∀ w', Below w7.heap.size w7 w' → Calls Try.prog 29 #[docV id (some ⟨b4, o4, none⟩) gl c2, .string x, .slice (some ⟨b8, o8 + k, none⟩) m (c8 - k)] w' fun e w'' => e = .returned (.int .i64 (P : Int)) ∧ Below w'.heap.size w' w'') := Lib.hid fun w' h => by
                have hd' := HDW.out.later (HB7.out.trans (h.mono HB7.out.size))
                have := good_rphrase (id := id) (c := c2) (c2 := c8 - k) HGOOD.out hd'.len hd'.row x howl (hrow w' h) (by omega) (by omega)
                rwa [← hP] at this
              have g1 : decide ((P : Int) < 1) = false := decide_eq_false (by omega)
              have g2 : decide ((L : Int) - (m : Int) + 1 < (P : Int)) = false := decide_eq_false (by omega)
              have g3 : IntKind.i64.wrap ((L : Int) - (m : Int)) = (L : Int) - (m : Int) := IntWalk.i64_in _ (by omega)
              have g4 : IntKind.i64.wrap ((L : Int) - (m : Int) + 1) = (L : Int) - (m : Int) + 1 := IntWalk.i64_in _ (by omega)
              have HS7 : Hid (∀ w', Below w7.heap.size w7 w' → (w'.cell? ⟨w2.heap.size, 0, none⟩ = some (.int .i64 id) ∧ w'.cell? ⟨w2.heap.size, 1, none⟩ = some (.slice (some ⟨b4, o4, none⟩) gl c2) ∧ w'.cell? ⟨b4, o4 + i * 2, none⟩ = some (.string x))) := Lib.hid fun w' h => HS.out w' (HB7.out.trans (h.mono HB7.out.size))
              have hs7 := HB7.out.size
              clear hown howl hP hP1 hP2 hrow hkm hm1
              go_region_held3 (fun w' => (w'.cell? ⟨w2.heap.size, 0, none⟩ = some (.int .i64 id) ∧ w'.cell? ⟨w2.heap.size, 1, none⟩ = some (.slice (some ⟨b4, o4, none⟩) gl c2) ∧ w'.cell? ⟨b4, o4 + i * 2, none⟩ = some (.string x)))
                (first | exact HS7.out _ (Below.refl _ _).drew | exact HS7.out _ HB8.out)
                (first
                  | (go_at_call 28; (with_reducible refine (HP1.out _ (Below.refl _ w7).drew).mono ?_); rintro e w8 ⟨rfl, hb8'⟩
                     have HB8 : Hid (Below w7.heap.size w7 w8) := Lib.hid ((Below.refl _ w7).drew.trans hb8')
                     clear hb8'))
              all_goals
                obtain ⟨r0, r1, r2⟩ := HS7.out _ HB8.out
                go_wp2
                go_region_held3 (fun w' => (w'.cell? ⟨w2.heap.size, 0, none⟩ = some (.int .i64 id) ∧ w'.cell? ⟨w2.heap.size, 1, none⟩ = some (.slice (some ⟨b4, o4, none⟩) gl c2) ∧ w'.cell? ⟨b4, o4 + i * 2, none⟩ = some (.string x)))
                  (first | exact HS7.out _ (HB8.out.trans ((Below.refl _ w8).drew.mono HB8.out.size)) | exact HS7.out _ HB9.out)
                  (first
                    | (go_at_call 29; (with_reducible refine (HP2.out _ (HB8.out.trans ((Below.refl _ w8).drew.mono HB8.out.size))).mono ?_); rintro e w9 ⟨rfl, hb9⟩
                       have HB9 : Hid (Below w7.heap.size w7 w9) := Lib.hid ((HB8.out.trans ((Below.refl _ w8).drew.mono HB8.out.size)).trans (hb9.mono HB8.out.size))
                       clear hb9))
                all_goals
                  go_wp2
                  exact ⟨⟨i + 1, by omega, by go_num, HBW.out.trans ((HB7.out.trans (HB9.out.mono hs7)).mono hsr)⟩, by simp [intOf]; omega⟩
        · have HBW := Lib.hid hbw
          have hs3 := HB3.out.size
          clear hbw hd
          go_wp2_with (go_at_call 18; (with_reducible refine (HLV.out _).mono ?_); rintro e w8 ⟨rfl, hb8⟩)
          go_ret
          exact ⟨rfl, HB3.out.trans ((HBW.out.trans (hb8.mono hsr)).mono hs3)⟩
end Go.Proofs.Ythpecegifilgoaa
