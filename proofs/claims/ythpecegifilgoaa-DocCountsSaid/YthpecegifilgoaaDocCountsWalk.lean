/- The walk of DocCounts. -/
import Derived.Test.YthpecegifilgoaaQ13
import Derived.Test.YthpecegifilgoaaArgS08
set_option linter.unusedVariables false
namespace Go.Proofs.Ythpecegifilgoaa
open Go Go.RowKit

theorem terms_len8 {l : List Fd} (h : GoodF l) : (termsD l).length ≤ 4000 := by
  have h1 := termsUp_length (l := l) (M := 500) h.wordsS l.length (Nat.le_refl _)
  rw [termsUp_all] at h1
  exact Nat.le_trans h1 (Nat.le_trans (Nat.mul_le_mul_right _ h.len) (by omega))
theorem own_one (w : World) (x y : ByteArray) : OwnTm w.heap.size (w.alloc (.cells #[.string x, .string y] 43)) (.slice (some ⟨w.heap.size, 0, none⟩) 1 1) [(x.data.toList, y.data.toList)] :=
  ⟨rfl, .inr ⟨w.heap.size, 1, _, rfl, Nat.le_refl _, heap_alloc_new _ _, Nat.le_refl _, by decide, rfl, rfl⟩⟩
def CountsRel (N : Nat) (w5 : World) (i : Value) (wr : World) : Prop := ∃ k : Nat, k ≤ N ∧ i = .int .i64 (k : Int) ∧ Below w5.heap.size w5 wr
theorem phrase_one {l : List Fd} (f x : Nm) : phraseD l f [x] = (placesD l (f, x)).length := phraseW_one x _ 0
/-- The first five texts. -/
def fiveN (n : Nat) : Nat := if 5 < n then 5 else n

set_option maxHeartbeats 8000000 in
set_option maxRecDepth 100000 in
theorem walk_DocCounts (id : Int) (A : Option Addr) (n c : Nat) (l : List Fd) (f0 x0 : ByteArray) (AL : Option Addr) (nl cl : Nat) (ls : List Nm) (w : World) (hid : (Lit.int .i64 id).wf = true) (hin : InFlds w A n c l) (hf0 : f0.size ≤ maxLen) (hx0 : x0.size ≤ maxLen) (hil : InStrs w AL nl cl ls) :
    Calls Try.prog 6 #[.agg #[.int .i64 id, .slice A n c], .agg #[.string f0, .string x0], .slice AL nl cl] w fun e w' => e = .returned (.bool true) ∧ Below w.heap.size w w' := by
  obtain ⟨hnc, hcm, hln, hrow, hbd⟩ := hin
  obtain ⟨hnl, hcl, hll, hrl, _⟩ := hil
  obtain ⟨w1, hw1⟩ : ∃ w1, w1 = boxDT w id A n c f0 x0 := ⟨_, rfl⟩
  have hb1 : Below w.heap.size w w1 := by rw [hw1]; exact boxDT_below _ _ _ _ _ _ _
  have hcc := boxDT_of (w := w) (id := id) (A := A) (n := n) (c := c) (f := f0) (x := x0) (Below.refl _ _)
  rw [← hw1] at hcc
  obtain ⟨_, hc0, hc1, hc2, hc3⟩ := hcc
  have hs1 : w1.heap.size = w.heap.size + 2 := by rw [hw1]; exact boxDT_size _ _ _ _ _ _ _
  have hG := ref08_Good id A n c l w1 hln (hrow.later hb1) (by unfold maxLen at hcm; omega) (fun f hf => by have := hbd f hf; unfold maxLen at this; omega)
  have hgood := goodD_good l
  obtain ⟨g, hg⟩ : ∃ g, g = goodD l := ⟨_, rfl⟩
  rw [← hg] at hG hgood
  have htl := terms_len8 hgood
  obtain ⟨T, hT⟩ : ∃ T, T = (f0.data.toList, x0.data.toList) :: termsD g := ⟨_, rfl⟩
  obtain ⟨N, hN⟩ : ∃ N, N = T.length := ⟨_, rfl⟩
  obtain ⟨td, htd⟩ : ∃ td, td = termsD g := ⟨_, rfl⟩
  have htdl : td.length = N - 1 := by rw [hN, hT, htd]; simp
  have hN1 : N ≤ 4001 ∧ 1 ≤ N := by rw [hN, hT]; simp; omega
  have HT0 : Hid (∀ b w' v, OwnTm b w' v ([(f0.data.toList, x0.data.toList)] ++ td) → OwnTm b w' v T) := Lib.hid fun b w' v h => by rw [hT, ← htd]; exact h
  have HCK : Hid (∀ w', Below w1.heap.size w1 w' → w'.cell? ⟨w.heap.size + 1, 0, none⟩ = some (.string f0) ∧ w'.cell? ⟨w.heap.size + 1, 1, none⟩ = some (.string x0)) := Lib.hid fun w' h => ⟨(h.cell (p := ⟨w.heap.size + 1, 0, none⟩) (by show w.heap.size + 1 < w1.heap.size; omega)).trans hc2, (h.cell (p := ⟨w.heap.size + 1, 1, none⟩) (by show w.heap.size + 1 < w1.heap.size; omega)).trans hc3⟩
  have HG := Lib.hid hG
  have HGOOD := Lib.hid hgood
  have HB1 := Lib.hid hb1
  have HW1 := Lib.hid hw1
  have HLV : Hid (∀ w', Calls Try.prog 18 #[] w' fun e w'' => e = .returned (.bool true) ∧ Below w'.heap.size w' w'') := Lib.hid law08_lives
  have HTD := Lib.hid htd
  have HTL := Lib.hid htdl
  have HN := Lib.hid hN
  obtain ⟨m5, hm5⟩ : ∃ m5, m5 = fiveN nl := ⟨_, rfl⟩
  have HRL : Hid (Row w w.heap.size AL (strs (ls.take m5)) ∧ (ls.take m5).length = m5 ∧ m5 ≤ 5 ∧ m5 ≤ cl) := Lib.hid (by
    have hrl5 := hrl.cut m5
    rw [show (strs ls).take m5 = strs (ls.take m5) by simp [strs, List.map_take]] at hrl5
    have h5 : m5 ≤ 5 ∧ m5 ≤ nl := by rw [hm5]; unfold fiveN; split <;> omega
    exact ⟨hrl5, by rw [List.length_take]; omega, h5.1, by omega⟩)
  have HM5 := Lib.hid hm5
  obtain ⟨l5, hl5⟩ : ∃ l5, l5 = ls.take m5 := ⟨_, rfl⟩
  rw [← hl5] at HRL
  clear hG hgood hb1 hw1 hrow hbd hg hT hN htd htdl htl hrl hl5 hm5 hc2 hc3 hll hf0 hx0
  go_enter Try.func6, Try.ntmps6
  go_upto_if 15 with (first
    | (go_at_call 17; rw [show (w.alloc _).alloc _ = w1 from HW1.out.symm]
       (with_reducible refine HG.out.mono ?_)
       rintro e w2 ⟨v2, rfl, ho2, hb2⟩
       obtain ⟨A2, c2, rfl, hc2, hr2⟩ := ho2.row
       obtain ⟨gl, hgl⟩ : ∃ gl, gl = g.length := ⟨_, rfl⟩
       rw [← hgl]
       obtain ⟨w3, hw3⟩ : ∃ w3, w3 = w2.alloc (.cells #[.int .i64 id, .slice A2 gl c2] 24) := ⟨_, rfl⟩
       have hd3 : DocIn w3 w2.heap.size id A2 gl c2 g := by rw [hw3]; exact DocIn.made hgl.symm hr2
       have HD3 := Lib.hid hd3
       have HW3 := Lib.hid hw3
       have HB13 : Hid (Below w1.heap.size w1 w3) := Lib.hid (hb2.trans (by rw [hw3]; exact ((Below.refl _ _).alloc (Nat.le_refl _) _).mono hb2.size))
       clear ho2 hb2 hr2 hw3 hd3 hc2 hgl))
  rw [show w2.alloc _ = w3 from HW3.out.symm]
  have hsz3 := HB13.out.size
  obtain ⟨w4, hw4⟩ : ∃ w4, w4 = w3.alloc (.cells #[.string f0, .string x0] 43) := ⟨_, rfl⟩
  have hb4 : Below w3.heap.size w3 w4 := by rw [hw4]; exact (Below.refl _ _).alloc (Nat.le_refl _) _
  have HO4 : Hid (OwnTm w3.heap.size w4 (.slice (some ⟨w3.heap.size, 0, none⟩) 1 1) [(f0.data.toList, x0.data.toList)]) := Lib.hid (by rw [hw4]; exact own_one w3 f0 x0)
  have HW4 := Lib.hid hw4
  have HB4 := Lib.hid hb4
  have HD4 := Lib.hid (HD3.out.later hb4)
  have HTM := Lib.hid (good_terms (id := id) (c := c2) HGOOD.out HD4.out.len HD4.out.row)
  rw [← HTD.out] at HTM
  obtain ⟨d0, d1⟩ := HD4.out.cells
  rw [HW4.out] at d0 d1
  obtain ⟨x30, x31⟩ := HCK.out w3 HB13.out
  have hfive : ((5 : Nat) < nl → m5 = 5) ∧ (¬ (5 : Nat) < nl → m5 = nl) := by rw [HM5.out]; unfold fiveN; exact ⟨fun h => if_pos h, fun h => if_neg h⟩
  have HFV := Lib.hid hfive
  clear hw4 hb4 hfive
  go_cut [2] from 18 to 27 (fun s wx => s = .slice AL m5 cl ∧ wx = w3)
  case first =>
    by_cases h5 : (5 : Nat) < nl
    · have e5 := HFV.out.1 h5
      have j5 : (5 : Int) < nl := by omega
      have j6 : (5 : Int) ≤ cl := by omega
      clear h5
      go_wp2_with fail
      go_meet
      exact ⟨by rw [e5], rfl⟩
    · have e5 := HFV.out.2 h5
      have j5 : (nl : Int) ≤ 5 := by omega
      clear h5
      go_wp2_with fail
      go_meet
      exact ⟨by rw [e5], rfl⟩
  case rest =>
    obtain ⟨rfl, rfl⟩ := hcut
    go_wp2_with (first
      | (go_at_call 22; rw [show World.alloc _ (.cells #[.string f0, .string x0] 43) = w4 from HW4.out.symm]
         (with_reducible refine HTM.out.mono ?_)
         rintro e w5 ⟨v5, rfl, ho5, hb5⟩
         obtain ⟨A5, c5, rfl, hc5, hr5⟩ := ho5.row
         obtain ⟨SV, hSV⟩ : ∃ SV, SV = Value.slice (some ⟨wc.heap.size, 0, none⟩) 1 1 := ⟨_, rfl⟩
         have HO5 : Hid (OwnTm wc.heap.size w5 SV [(f0.data.toList, x0.data.toList)]) := Lib.hid (by rw [hSV]; exact HO4.out.below hb5)
         have hs5 := hb5.size
         have hs4 := HB4.out.size
         have HB5 := Lib.hid hb5
         have HR5 := Lib.hid hr5
         obtain ⟨tl, htl⟩ : ∃ tl, tl = td.length := ⟨_, rfl⟩
         have HTLL := Lib.hid htl
         have htl4 : tl ≤ 4000 := by have := HTL.out; omega
         rw [← hSV, ← htl]
         clear ho5 hb5 hr5 hSV htl)
      | (at_builtin; refine wpList_append_tm _ rfl (.tmp 20) (.tmp 22) rfl wc.heap.size SV [(f0.data.toList, x0.data.toList)] rfl HO5.out A5 tl c5 td rfl HTLL.out.symm HR5.out (by simp; omega) (by omega) ?_
         intro v6 w6 ho6 hb6
         obtain ⟨A6, c6, rfl, hc6, hr6⟩ := (HT0.out _ _ _ ho6).row
         rw [← HN.out] at hc6 ⊢
         have HO6 := Lib.hid ho6
         have HB6 := Lib.hid hb6
         have HR6 := Lib.hid hr6
         clear ho6 hb6 hr6))
    have HB36 : Hid (Below wc.heap.size wc w6) := Lib.hid (HB4.out.trans ((HB5.out.mono hs4).trans HB6.out))
    have hs36 := HB36.out.size
    have hlt2 : w2.heap.size < wc.heap.size := (Array.getElem?_eq_some_iff.1 HD3.out.blk).1
    have HDW : Hid (∀ w', Below wc.heap.size wc w' → DocIn w' w2.heap.size id A2 gl c2 g) := Lib.hid fun w' h => HD3.out.later h
    have HCK3 : Hid (∀ w', Below wc.heap.size wc w' → w'.cell? ⟨w.heap.size + 1, 0, none⟩ = some (.string f0) ∧ w'.cell? ⟨w.heap.size + 1, 1, none⟩ = some (.string x0)) := Lib.hid fun w' h => HCK.out _ (HB13.out.trans (h.mono hsz3))
    have HB03 : Hid (Below w.heap.size w wc) := Lib.hid (HB1.out.trans (HB13.out.mono HB1.out.size))
    have hs03 := HB03.out.size
    clear d0 d1 x30 x31
    go_loopw [9] (fun i wr => CountsRel N w6 i wr) (fun i _ => N - (intOf i).toNat)
    case atStart => exact ⟨0, by omega, rfl, Below.refl _ _⟩
    case round =>
      obtain ⟨k, hk, rfl, hbw⟩ := hrel
      have hb3r : Below wc.heap.size wc wr := HB36.out.trans (hbw.mono hs36)
      have hsr := hbw.size
      have hs3r := hb3r.size
      by_cases hlt : k < N
      · have hkT : k < T.length := by rw [← HN.out]; exact hlt
        obtain ⟨b4, o4, e4, hb4, hx4, hy4⟩ := (HR6.out.below hbw).at_ hkT
        subst e4
        obtain ⟨x, hx, hx2⟩ := as_text T[k].1
        obtain ⟨y, hy, hy2⟩ := as_text T[k].2
        rw [← hx] at hx4
        rw [← hy] at hy4
        obtain ⟨P, hP⟩ : ∃ P, P = placesD g (x.data.toList, y.data.toList) := ⟨_, rfl⟩
        have hPl : P.length ≤ 500 := by rw [hP]; exact Nat.le_trans (placesW_length _ _ _) (HGOOD.out.wordsS _)
        obtain ⟨pl, hpl⟩ : ∃ pl, pl = P.length := ⟨_, rfl⟩
        have HPC : Hid (∀ w', Below wr.heap.size wr w' → Calls Try.prog 24 #[docV id A2 gl c2, .agg #[.string x, .string y]] w' (GaveInts P w')) := Lib.hid fun w' h => by
          have hd := HDW.out _ (hb3r.trans (h.mono hs3r))
          have := good_places (id := id) (c := c2) HGOOD.out hd.len hd.row x y
          rwa [← hP] at this
        have HCC : Hid (∀ w', Below wr.heap.size wr w' → Calls Try.prog 26 #[docV id A2 gl c2, .agg #[.string x, .string y]] w' fun e w'' => e = .returned (.int .i64 (pl : Int)) ∧ Below w'.heap.size w' w'') := Lib.hid fun w' h => by
          have hd := HDW.out _ (hb3r.trans (h.mono hs3r))
          have := good_count (id := id) (c := c2) HGOOD.out hd.len hd.row x y
          rwa [← hP, ← hpl] at this
        obtain ⟨bz, hbz⟩ : ∃ bz, bz = decide (0 < pl) := ⟨_, rfl⟩
        have HHC : Hid (∀ w', Below wr.heap.size wr w' → Calls Try.prog 27 #[docV id A2 gl c2, .agg #[.string x, .string y]] w' fun e w'' => e = .returned (.bool bz) ∧ Below w'.heap.size w' w'') := Lib.hid fun w' h => by
          have hd := HDW.out _ (hb3r.trans (h.mono hs3r))
          have := good_has (id := id) (c := c2) HGOOD.out hd.len hd.row x y
          rwa [← hP, ← hpl, ← hbz] at this
        have hbi : decide ((0 : Int) < (pl : Int)) = bz := by rw [hbz, Bool.eq_iff_iff, decide_eq_true_iff, decide_eq_true_iff]; omega
        have HBI := Lib.hid hbi
        have HBZ := Lib.hid hbz.symm
        clear hbz hbi
        have HPH : Hid (∀ w' A7, Below wr.heap.size wr w' → Row w' w'.heap.size A7 [.string y] → Calls Try.prog 28 #[docV id A2 gl c2, .string x, .slice A7 1 1] w' fun e w'' => e = .returned (.int .i64 (pl : Int)) ∧ Below w'.heap.size w' w'') := Lib.hid fun w' A7 h hr7 => by
          have hd := HDW.out _ (hb3r.trans (h.mono hs3r))
          have := good_phrase (id := id) (c := c2) HGOOD.out hd.len hd.row x (A2 := A7) (n2 := 1) (c2 := 1) (ws := [y.data.toList]) rfl hr7 (by omega) (by omega)
          rwa [phrase_one, ← hP, ← hpl] at this
        have HS : Hid (∀ w', Below wr.heap.size wr w' → (w'.cell? ⟨w2.heap.size, 0, none⟩ = some (.int .i64 id) ∧ w'.cell? ⟨w2.heap.size, 1, none⟩ = some (.slice A2 gl c2) ∧ w'.cell? ⟨b4, o4 + k * 2, none⟩ = some (.string x) ∧ w'.cell? ⟨b4, o4 + k * 2 + 1, none⟩ = some (.string y))) := Lib.hid fun w' h => by
          have hd' := (HDW.out _ (hb3r.trans (h.mono hs3r))).cells
          exact ⟨hd'.1, hd'.2, (h.cell (p := ⟨b4, _, none⟩) (by show b4 < _; omega)).trans hx4, (h.cell (p := ⟨b4, _, none⟩) (by show b4 < _; omega)).trans hy4⟩
        have i0 : (0 : Int) ≤ k := by omega
        have i1 : (k : Int) < N := by omega
        have hpl5 : pl ≤ 500 := by omega
        have HPL := Lib.hid hpl
        have HBW := Lib.hid hbw
        clear hx hx2 hy hy2 hP hPl hpl hbw hb3r hkT hx4 hy4
        go_wp2
        go_region_held3 (fun w' => (w'.cell? ⟨w2.heap.size, 0, none⟩ = some (.int .i64 id) ∧ w'.cell? ⟨w2.heap.size, 1, none⟩ = some (.slice A2 gl c2) ∧ w'.cell? ⟨b4, o4 + k * 2, none⟩ = some (.string x) ∧ w'.cell? ⟨b4, o4 + k * 2 + 1, none⟩ = some (.string y)))
          (first | exact HS.out _ (Below.refl _ _).drew | exact HS.out _ HB7.out)
          (first
            | (go_at_call 24; (with_reducible refine (HPC.out _ (Below.refl _ wr).drew).mono ?_); rintro e w7 ⟨v7, rfl, ho7, hb7⟩
               obtain ⟨A8, c8, rfl, hc8, hr8⟩ := owned_row ho7
               rw [← HPL.out] at hc8 ⊢
               have HB7 : Hid (Below wr.heap.size wr w7) := Lib.hid ((Below.refl _ wr).drew.trans hb7)
               clear ho7 hb7 hr8))
        all_goals
          obtain ⟨q0, q1, q2, q3⟩ := HS.out _ HB7.out
          go_wp2
          have hbi := HBI.out
          have hbn := HBZ.out
          clear HBI HBZ
          cases bz
          all_goals
           go_region_held3 (fun w' => (w'.cell? ⟨w2.heap.size, 0, none⟩ = some (.int .i64 id) ∧ w'.cell? ⟨w2.heap.size, 1, none⟩ = some (.slice A2 gl c2) ∧ w'.cell? ⟨b4, o4 + k * 2, none⟩ = some (.string x) ∧ w'.cell? ⟨b4, o4 + k * 2 + 1, none⟩ = some (.string y)))
             (first | exact HS.out _ HB7.out | exact HS.out _ (HB7.out.trans ((Below.refl _ w7).drew.mono HB7.out.size)) | exact HS.out _ HB8.out | exact HS.out _ HB9.out | exact HS.out _ (HB9.out.alloc HB9.out.size _) | exact HS.out _ HB10.out)
             (first
               | (go_at_call 26; (with_reducible refine (HCC.out _ (HB7.out.trans ((Below.refl _ w7).drew.mono HB7.out.size))).mono ?_); rintro e w8 ⟨rfl, hb8⟩
                  have HB8 : Hid (Below wr.heap.size wr w8) := Lib.hid ((HB7.out.trans ((Below.refl _ w7).drew.mono HB7.out.size)).trans (hb8.mono HB7.out.size))
                  clear hb8)
               | (go_at_call 27; (with_reducible refine (HHC.out _ HB8.out).mono ?_); rintro e w9 ⟨rfl, hb9⟩
                  have HB9 : Hid (Below wr.heap.size wr w9) := Lib.hid (HB8.out.trans (hb9.mono HB8.out.size))
                  clear hb9)
               | (go_at_call 28; (with_reducible refine (HPH.out _ _ (HB9.out.alloc HB9.out.size (.cells #[.string y] 9)) ?row).mono ?_)
                  case row =>
                    refine .inr ⟨w9.heap.size, 0, rfl, by simp, fun j u hu => ?_⟩
                    have := news_at w9 [.string y] 9 j u hu
                    rw [Addr.add_lit] at this
                    exact this
                  rintro e w10 ⟨rfl, hb10⟩
                  have HB10 : Hid (Below wr.heap.size wr w10) := Lib.hid ((HB9.out.alloc HB9.out.size _).trans (hb10.mono (by have := HB9.out.size; simp; omega)))
                  clear hb10))
           all_goals
             go_wp2
             exact ⟨⟨k + 1, by omega, by go_num, HBW.out.trans (HB10.out.mono hsr)⟩, by simp [intOf]; omega⟩
      · obtain ⟨hr5, hl5, h55, hcl5⟩ := HRL.out
        obtain ⟨Q, hQ⟩ : ∃ Q, Q = phraseD g f0.data.toList l5 := ⟨_, rfl⟩
        have hw0r : Below w.heap.size w wr := HB03.out.trans (hb3r.mono hs03)
        have HP1 : Hid (∀ w', Below wr.heap.size wr w' → Calls Try.prog 28 #[docV id A2 gl c2, .string f0, .slice AL m5 cl] w' fun e w'' => e = .returned (.int .i64 (Q : Int)) ∧ Below w'.heap.size w' w'') := Lib.hid fun w' h => by
          have hd := HDW.out _ (hb3r.trans (h.mono hs3r))
          have h0 := hw0r.trans (h.mono hw0r.size)
          have := good_phrase (id := id) (c := c2) HGOOD.out hd.len hd.row f0 hl5 ((hr5.below h0).more h0.size) (by omega) hcl5
          rwa [← hQ] at this
        have HP2 : Hid (∀ w', Below wr.heap.size wr w' → Calls Try.prog 29 #[docV id A2 gl c2, .string f0, .slice AL m5 cl] w' fun e w'' => e = .returned (.int .i64 (Q : Int)) ∧ Below w'.heap.size w' w'') := Lib.hid fun w' h => by
          have hd := HDW.out _ (hb3r.trans (h.mono hs3r))
          have h0 := hw0r.trans (h.mono hw0r.size)
          have := good_rphrase (id := id) (c := c2) HGOOD.out hd.len hd.row f0 hl5 ((hr5.below h0).more h0.size) (by omega) hcl5
          rwa [← hQ] at this
        have HP3 : Hid (∀ w', Below wr.heap.size wr w' → Calls Try.prog 28 #[docV id A2 gl c2, .string f0, .slice none 0 0] w' fun e w'' => e = .returned (.int .i64 0) ∧ Below w'.heap.size w' w'') := Lib.hid fun w' h => by
          have hd := HDW.out _ (hb3r.trans (h.mono hs3r))
          have := good_phrase (id := id) (c := c2) HGOOD.out hd.len hd.row f0 (A2 := none) (n2 := 0) (c2 := 0) (ws := []) rfl (.inl rfl) (by omega) (by omega)
          rwa [show phraseD g f0.data.toList [] = 0 from phraseW_nil _] at this
        have HS : Hid (∀ w', Below wr.heap.size wr w' → (w'.cell? ⟨w2.heap.size, 0, none⟩ = some (.int .i64 id) ∧ w'.cell? ⟨w2.heap.size, 1, none⟩ = some (.slice A2 gl c2) ∧ w'.cell? ⟨w.heap.size + 1, 0, none⟩ = some (.string f0))) := Lib.hid fun w' h => by
          have h3 := hb3r.trans (h.mono hs3r)
          have hd' := (HDW.out _ h3).cells
          exact ⟨hd'.1, hd'.2, (HCK3.out _ h3).1⟩
        have HWR := Lib.hid hw0r
        have hsw := hw0r.size
        clear hr5 hl5 h55 hcl5 hQ hw0r hb3r hbw
        go_wp2
        go_region_held3 (fun w' => (w'.cell? ⟨w2.heap.size, 0, none⟩ = some (.int .i64 id) ∧ w'.cell? ⟨w2.heap.size, 1, none⟩ = some (.slice A2 gl c2) ∧ w'.cell? ⟨w.heap.size + 1, 0, none⟩ = some (.string f0)))
          (first | exact HS.out _ (Below.refl _ _).drew | exact HS.out _ HB7.out | exact HS.out _ HB8.out | exact HS.out _ HB9.out | exact HS.out _ HB10.out)
          (first
            | (go_at_call 28; (with_reducible refine (HP1.out _ (Below.refl _ wr).drew).mono ?_); rintro e w7 ⟨rfl, hb7⟩
               have HB7 : Hid (Below wr.heap.size wr w7) := Lib.hid ((Below.refl _ wr).drew.trans hb7)
               clear hb7)
            | (go_at_call 29; (with_reducible refine (HP2.out _ HB7.out).mono ?_); rintro e w8 ⟨rfl, hb8⟩
               have HB8 : Hid (Below wr.heap.size wr w8) := Lib.hid (HB7.out.trans (hb8.mono HB7.out.size))
               clear hb8)
            | (go_at_call 28; (with_reducible refine (HP3.out _ HB8.out).mono ?_); rintro e w9 ⟨rfl, hb9⟩
               have HB9 : Hid (Below wr.heap.size wr w9) := Lib.hid (HB8.out.trans (hb9.mono HB8.out.size))
               clear hb9)
            | (go_at_call 18; (with_reducible refine (HLV.out _).mono ?_); rintro e w10 ⟨rfl, hb10⟩
               have HB10 : Hid (Below wr.heap.size wr w10) := Lib.hid (HB9.out.trans (hb10.mono HB9.out.size))
               clear hb10))
        all_goals
          go_wp2
          go_ret
          exact ⟨rfl, HWR.out.trans (HB10.out.mono hsw)⟩
end Go.Proofs.Ythpecegifilgoaa
