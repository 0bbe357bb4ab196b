/- The walk of DocFields. -/
import Derived.Test.YthpecegifilgoaaSwap08
set_option linter.unusedVariables false
namespace Go.Proofs.Ythpecegifilgoaa
open Go Go.RowKit

theorem terms_len_f {l : List Fd} (h : GoodF l) : (termsD l).length ≤ 4000 := by
  have h1 := termsUp_length (l := l) (M := 500) h.wordsS l.length (Nat.le_refl _)
  rw [termsUp_all] at h1
  exact Nat.le_trans h1 (Nat.le_trans (Nat.mul_le_mul_right _ h.len) (by omega))
/-- Two fields that were just laid in a block of their own. -/
theorem frow_two (w : World) (a b x y : ByteArray) (t : TypeId) : FRow (w.alloc (.cells #[.string a, .string x, .string b, .string y] t)) (w.alloc (.cells #[.string a, .string x, .string b, .string y] t)).heap.size (some ⟨w.heap.size, 0, none⟩) [(a.data.toList, x.data.toList), (b.data.toList, y.data.toList)] := by
  refine .inr ⟨w.heap.size, 0, rfl, by simp, fun j u hu => ?_⟩
  have := news_at w [.string a, .string x, .string b, .string y] t j u hu
  rw [Addr.add_lit] at this
  exact this
theorem made_a (w : World) (X Y : ByteArray) : DocIn ((w.alloc (.cells #[.string ⟨#[117]⟩, .string X, .string ⟨#[116]⟩, .string Y] 31)).alloc (.cells #[.int .i64 0, .slice (some ⟨w.heap.size, 0, none⟩) 2 2] 24)).drew (w.heap.size + 1) 0 (some ⟨w.heap.size, 0, none⟩) 2 2 (owt X.data.toList Y.data.toList) := by
  have hr := frow_two w ⟨#[117]⟩ ⟨#[116]⟩ X Y 31
  refine ⟨?_, rfl, hr.later ((Below.refl _ _).alloc (Nat.le_refl _) _).drew⟩
  have := heap_alloc_new (w.alloc (.cells #[.string ⟨#[117]⟩, .string X, .string ⟨#[116]⟩, .string Y] 31)) (.cells #[.int .i64 0, .slice (some ⟨w.heap.size, 0, none⟩) 2 2] 24)
  rwa [World.size_alloc] at this
theorem made_b (w : World) (X Y : ByteArray) : DocIn ((w.alloc (.cells #[.int .i64 0, .slice (some ⟨w.heap.size + 1, 0, none⟩) 2 2] 24)).alloc (.cells #[.string ⟨#[117]⟩, .string X, .string ⟨#[116]⟩, .string Y] 31)).drew w.heap.size 0 (some ⟨w.heap.size + 1, 0, none⟩) 2 2 (owt X.data.toList Y.data.toList) := by
  have hr := frow_two (w.alloc (.cells #[.int .i64 0, .slice (some ⟨w.heap.size + 1, 0, none⟩) 2 2] 24)) ⟨#[117]⟩ ⟨#[116]⟩ X Y 31
  rw [show (w.alloc (.cells #[.int .i64 0, .slice (some ⟨w.heap.size + 1, 0, none⟩) 2 2] 24)).heap.size = w.heap.size + 1 by simp] at hr
  refine ⟨?_, rfl, hr⟩
  show ((w.alloc _).alloc _).heap[w.heap.size]? = _
  rw [Below.heap_alloc _ _ _ (by simp)]
  exact heap_alloc_new _ _
def FieldsRel (N : Nat) (w6 : World) (i : Value) (wr : World) : Prop := ∃ k : Nat, k ≤ N ∧ i = .int .i64 (k : Int) ∧ Below w6.heap.size w6 wr

set_option maxHeartbeats 8000000 in
set_option maxRecDepth 100000 in
theorem walk_DocFields (s t : ByteArray) (w : World) (hs : s.size ≤ maxLen) (ht : t.size ≤ maxLen) :
    Calls Try.prog 8 #[.string s, .string t] w fun e w' => e = .returned (.bool true) ∧ Below w.heap.size w w' := by
  unfold maxLen at hs ht
  obtain ⟨w1, hw1⟩ : ∃ w1, w1 = w.alloc (.cells #[.string ⟨#[116]⟩, .string s, .string ⟨#[117]⟩, .string t] 31) := ⟨_, rfl⟩
  have hb1 : Below w.heap.size w w1 := by rw [hw1]; exact (Below.refl _ _).alloc (Nat.le_refl _) _
  have hr1 : FRow w1 w1.heap.size (some ⟨w.heap.size, 0, none⟩) (two s.data.toList t.data.toList) := by rw [hw1]; exact frow_two w ⟨#[116]⟩ ⟨#[117]⟩ s t 31
  have sz : ∀ b : ByteArray, b.data.toList.length = b.size := fun b => Array.length_toList
  have hG := ref08_Good 0 (some ⟨w.heap.size, 0, none⟩) 2 2 (two s.data.toList t.data.toList) w1 rfl hr1 (by omega) (fun f hf => by
    simp only [two, List.mem_cons, List.not_mem_nil, or_false] at hf
    rcases hf with rfl | rfl
    · exact ⟨show nT.length ≤ 9223372036854775807 by decide, by rw [sz]; omega⟩
    · exact ⟨show nU.length ≤ 9223372036854775807 by decide, by rw [sz]; omega⟩)
  have hgood := goodD_good (two s.data.toList t.data.toList)
  have htwo := good_two (s := s.data.toList) (t := t.data.toList)
  obtain ⟨g, hg⟩ : ∃ g, g = goodD (two s.data.toList t.data.toList) := ⟨_, rfl⟩
  rw [← hg] at hG hgood htwo
  have HG := Lib.hid hG
  have HGOOD := Lib.hid hgood
  have HTWO := Lib.hid htwo
  have HB1 := Lib.hid hb1
  have HW1 := Lib.hid hw1
  have HLV : Hid (∀ w', Calls Try.prog 18 #[] w' fun e w'' => e = .returned (.bool true) ∧ Below w'.heap.size w' w'') := Lib.hid law08_lives
  clear hG hgood htwo hb1 hw1 hr1 hg sz
  go_enter Try.func8, Try.ntmps8
  go_upto_if 23 with (first
    | (go_at_call 17; rw [show w.alloc _ = w1 from HW1.out.symm]
       (with_reducible refine HG.out.mono ?_)
       rintro e w2 ⟨v2, rfl, ho2, hb2⟩
       obtain ⟨A2, c2, rfl, hc2, hr2⟩ := ho2.row
       obtain ⟨gl, hgl⟩ : ∃ gl, gl = g.length := ⟨_, rfl⟩
       rw [← hgl] at hc2 ⊢
       obtain ⟨w3, hw3⟩ : ∃ w3, w3 = w2.alloc (.cells #[.int .i64 0, .slice A2 gl c2] 24) := ⟨_, rfl⟩
       have hd3 : DocIn w3 w2.heap.size 0 A2 gl c2 g := by rw [hw3]; exact DocIn.made hgl.symm hr2
       have HD3 := Lib.hid hd3
       have HW3 := Lib.hid hw3
       have HGL := Lib.hid hgl
       have HB3 : Hid (Below w.heap.size w w3) := Lib.hid (HB1.out.trans ((hb2.trans (by rw [hw3]; exact ((Below.refl _ _).alloc (Nat.le_refl _) _).mono hb2.size)).mono HB1.out.size))
       clear ho2 hb2 hr2 hw3 hd3 hgl))
  rw [show w2.alloc _ = w3 from HW3.out.symm]
  by_cases hg2 : gl = 2
  · subst hg2
    have htw := HTWO.out HGL.out.symm
    obtain ⟨X, hX⟩ : ∃ X : ByteArray, X.data.toList = s.data.toList.take 40 := ⟨⟨(s.data.toList.take 40).toArray⟩, by simp⟩
    obtain ⟨Y, hY⟩ : ∃ Y : ByteArray, Y.data.toList = t.data.toList.take 40 := ⟨⟨(t.data.toList.take 40).toArray⟩, by simp⟩
    rw [← hX, ← hY] at htw
    subst htw
    obtain ⟨d0, d1⟩ := HD3.out.cells
    obtain ⟨b4, o4, e4, hb4, hx0, hy0⟩ := HD3.out.row.at_ (k := 0) (by simp [two])
    subst e4
    obtain ⟨_, _, e5, _, hx1, hy1⟩ := HD3.out.row.at_ (k := 1) (by simp [two])
    cases e5
    have hy0' : w3.cell? ⟨b4, o4 + 1, none⟩ = some (.string X) := by simpa [two] using hy0
    have hy1' : w3.cell? ⟨b4, o4 + 2 + 1, none⟩ = some (.string Y) := by simpa [two] using hy1
    clear hx0 hy0 hx1 hy1
    go_upto_region 4 with fail
    have HS : Hid (∀ w', Below w3.heap.size w3 w' → (w'.cell? ⟨w2.heap.size, 0, none⟩ = some (.int .i64 0) ∧ w'.cell? ⟨w2.heap.size, 1, none⟩ = some (.slice (some ⟨b4, o4, none⟩) 2 c2) ∧ w'.cell? ⟨b4, o4 + 1, none⟩ = some (.string X) ∧ w'.cell? ⟨b4, o4 + 2 + 1, none⟩ = some (.string Y))) := Lib.hid fun w' h => by
      have hd' := (HD3.out.later h).cells
      exact ⟨hd'.1, hd'.2, (h.cell (p := ⟨b4, _, none⟩) hb4).trans hy0', (h.cell (p := ⟨b4, _, none⟩) hb4).trans hy1'⟩
    go_cut [6] from 25 to 38 (fun s wx => ∃ Bb Ar, s = .pointer (some ⟨Bb, 0, none⟩) ∧ Below w3.heap.size w3 wx ∧ DocIn wx Bb 0 (some ⟨Ar, 0, none⟩) 2 2 (owt X.data.toList Y.data.toList))
    case first =>
     go_region_held3 (fun w' => (w'.cell? ⟨w2.heap.size, 0, none⟩ = some (.int .i64 0) ∧ w'.cell? ⟨w2.heap.size, 1, none⟩ = some (.slice (some ⟨b4, o4, none⟩) 2 c2) ∧ w'.cell? ⟨b4, o4 + 1, none⟩ = some (.string X) ∧ w'.cell? ⟨b4, o4 + 2 + 1, none⟩ = some (.string Y)))
      (first | exact HS.out _ (Below.refl _ _).drew | exact HS.out _ ((Below.refl _ _).drew.alloc (Nat.le_refl _) _) | exact HS.out _ (((Below.refl _ _).drew.alloc (Nat.le_refl _) _).alloc (by simp) _) | exact HS.out _ ((((Below.refl _ _).drew.alloc (Nat.le_refl _) _).alloc (by simp) _).setCell (by simp) _))
      (fail)
     · go_wp2_with fail
       go_meet
       exact ⟨_, _, rfl, (((Below.refl _ _).alloc (Nat.le_refl _) _).alloc (by simp) _).drew, made_a w3 X Y⟩
     · go_wp2_with fail
       go_meet
       exact ⟨_, _, rfl, (((Below.refl _ _).alloc (Nat.le_refl _) _).alloc (by simp) _).drew, made_b w3 X Y⟩
    case rest =>
      obtain ⟨Bb, Ar, rfl, hbc, hdb⟩ := hcut
      have hd := HD3.out.later hbc
      have HGB := Lib.hid (good_owt HGOOD.out)
      have hNM := terms_swap HGOOD.out
      have htl := terms_len_f HGOOD.out
      obtain ⟨T, hT⟩ : ∃ T, T = termsD (two X.data.toList Y.data.toList) := ⟨_, rfl⟩
      obtain ⟨N, hN⟩ : ∃ N, N = T.length := ⟨_, rfl⟩
      have HIA := Lib.hid (good_inv (id := 0) (c := c2) HGOOD.out hd.len hd.row)
      rw [← hT, ← hN] at hNM htl
      rw [← hT] at HIA
      have HT := Lib.hid hT
      have HN := Lib.hid hN
      have HNM := Lib.hid hNM
      have HBC := Lib.hid hbc
      have HDC := Lib.hid hd
      have HDB := Lib.hid hdb
      obtain ⟨d0, d1⟩ := hd.cells
      have hs3c := hbc.size
      clear hT hN hNM hbc hd hdb hy0' hy1' HS
      go_wp2_with (first
        | (go_at_call 21; (with_reducible refine HIA.out.mono ?_); rintro e w5 ⟨v1, v2, rfl, ho1, ho2, hb5⟩
           obtain ⟨A5, c5, rfl, hc5, hr5⟩ := ho1.row
           obtain ⟨A6, c6, rfl, hc6, hr6⟩ := ho2.rows
           rw [List.length_map, ← HN.out] at hc6 ⊢
           rw [← HN.out] at hc5
           have hdb5 := HDB.out.later hb5
           obtain ⟨q0, q1⟩ := hdb5.cells
           have HIB := Lib.hid (good_inv (id := 0) (c := 2) HGB.out hdb5.len hdb5.row)
           have HDB5 := Lib.hid hdb5
           have HB5 := Lib.hid hb5
           have HR5 := Lib.hid hr5
           have HR6 := Lib.hid hr6
           clear ho1 ho2 hb5 hr5 hr6 hdb5)
        | (go_at_call 21; (with_reducible refine HIB.out.mono ?_); rintro e w6 ⟨v3, v4, rfl, ho3, ho4, hb6⟩
           obtain ⟨A7, c7, rfl, hc7, _⟩ := ho3.row
           obtain ⟨A8, c8, rfl, hc8, _⟩ := ho4.rows
           rw [List.length_map, HNM.out] at hc8 ⊢
           rw [HNM.out] at hc7
           have HB6 := Lib.hid hb6
           clear ho3 ho4 hb6))
      have HBC6 : Hid (Below wc.heap.size wc w6) := Lib.hid (HB5.out.trans (HB6.out.mono HB5.out.size))
      have hs56 := HB6.out.size
      have hsc6 := HBC6.out.size
      have HB06 : Hid (Below w.heap.size w w6) := Lib.hid (HB3.out.trans ((HBC.out.trans (HBC6.out.mono HBC.out.size)).mono HB3.out.size))
      have hs06 := HB06.out.size
      clear d0 d1 q0 q1
      go_loopw [11] (fun i wr => FieldsRel N w6 i wr) (fun i _ => N - (intOf i).toNat)
      case atStart => exact ⟨0, by omega, rfl, Below.refl _ _⟩
      case round =>
        obtain ⟨k, hk, rfl, hbw⟩ := hrel
        have hbcr : Below wc.heap.size wc wr := HBC6.out.trans (hbw.mono hsc6)
        have hda := HDC.out.later hbcr
        have hdb := HDB.out.later hbcr
        have hsr := hbw.size
        by_cases hlt : k < N
        · have hkT : k < T.length := by rw [← HN.out]; exact hlt
          obtain ⟨b5, o5, e5, hb5, hx5, hy5⟩ := ((HR5.out.below HB6.out).below (hbw.mono hs56)).at_ hkT
          subst e5
          obtain ⟨b6, o6, A9, c9, e6, hb6, hp6, hc9, hr9⟩ := ((HR6.out.below HB6.out).below (hbw.mono hs56)).at_ (k := k) (by rw [List.length_map]; exact hkT)
          subst e6
          simp only [List.getElem_map] at hp6 hc9
          obtain ⟨x, hx, hx2⟩ := as_text T[k].1
          obtain ⟨y, hy, hy2⟩ := as_text T[k].2
          rw [← hx] at hx5
          rw [← hy] at hy5
          have htk : (x.data.toList, y.data.toList) = T[k] := Prod.ext hx2 hy2
          have hmem : T[k] ∈ termsD (two X.data.toList Y.data.toList) := by rw [← HT.out]; exact List.getElem_mem hkT
          have hnames := two_names HGOOD.out hmem
          have hsw := places_swap X.data.toList Y.data.toList hnames
          rw [← htk] at hp6 hc9 hsw hnames
          obtain ⟨pl, hpl⟩ : ∃ pl, pl = (placesD (two X.data.toList Y.data.toList) (x.data.toList, y.data.toList)).length := ⟨_, rfl⟩
          rw [← hpl] at hp6 hc9
          obtain ⟨z, hz⟩ : ∃ z : ByteArray, z = if x.data.toList = nT then (⟨#[117]⟩ : ByteArray) else ⟨#[116]⟩ := ⟨_, rfl⟩
          have hzn : z.data.toList = swapN x.data.toList := by rw [hz]; unfold swapN; split <;> rfl
          have hswz : (placesD (owt X.data.toList Y.data.toList) (z.data.toList, y.data.toList)).length = pl := by
            rw [hzn, hpl, ← hsw]
            rfl
          have HCB : Hid (∀ w', Below wr.heap.size wr w' → Calls Try.prog 26 #[docV 0 (some ⟨Ar, 0, none⟩) 2 2, .agg #[.string z, .string y]] w' fun e w'' => e = .returned (.int .i64 (pl : Int)) ∧ Below w'.heap.size w' w'') := Lib.hid fun w' h => by
            have hd := hdb.later h
            have := good_count (id := 0) (c := 2) HGB.out hd.len hd.row z y
            rwa [hswz] at this
          have HCA : Hid (∀ w', Below wr.heap.size wr w' → Calls Try.prog 26 #[docV 0 (some ⟨b4, o4, none⟩) 2 c2, .agg #[.string x, .string y]] w' fun e w'' => e = .returned (.int .i64 (pl : Int)) ∧ Below w'.heap.size w' w'') := Lib.hid fun w' h => by
            have hd := hda.later h
            have := good_count (id := 0) (c := c2) HGOOD.out hd.len hd.row x y
            rwa [← hpl] at this
          have HS : Hid (∀ w', Below wr.heap.size wr w' → w'.heap[wr.heap.size]? = some (.cells #[.string z, .string y] 43 (0, 0)) → (w'.cell? ⟨w2.heap.size, 0, none⟩ = some (.int .i64 0) ∧ w'.cell? ⟨w2.heap.size, 1, none⟩ = some (.slice (some ⟨b4, o4, none⟩) 2 c2) ∧ w'.cell? ⟨Bb, 0, none⟩ = some (.int .i64 0) ∧ w'.cell? ⟨Bb, 1, none⟩ = some (.slice (some ⟨Ar, 0, none⟩) 2 2) ∧ w'.cell? ⟨b5, o5 + k * 2, none⟩ = some (.string x) ∧ w'.cell? ⟨b5, o5 + k * 2 + 1, none⟩ = some (.string y) ∧ w'.cell? ⟨b6, o6 + k, none⟩ = some (.slice A9 pl c9) ∧ w'.cell? ⟨wr.heap.size, 0, none⟩ = some (.string z) ∧ w'.cell? ⟨wr.heap.size, 1, none⟩ = some (.string y))) := Lib.hid fun w' h ho => by
            have ha' := (hda.later h).cells
            have hb' := (hdb.later h).cells
            have ho' := pair_cells ho
            exact ⟨ha'.1, ha'.2, hb'.1, hb'.2, (h.cell (p := ⟨b5, _, none⟩) (by show b5 < _; omega)).trans hx5, (h.cell (p := ⟨b5, _, none⟩) (by show b5 < _; omega)).trans hy5, (h.cell (p := ⟨b6, _, none⟩) (by show b6 < _; omega)).trans hp6, ho'.1, ho'.2⟩
          have i0 : (0 : Int) ≤ k := by omega
          have i1 : (k : Int) < N := by omega
          have HZ := Lib.hid hz
          have HBW := Lib.hid hbw
          obtain ⟨w7, hw7⟩ : ∃ w7, w7 = wr.alloc (.cells #[.string x, .string y] 43) := ⟨_, rfl⟩
          have hblk : w7.heap[wr.heap.size]? = some (.cells #[.string x, .string y] 43 (0, 0)) := by rw [hw7]; exact heap_alloc_new _ _
          have hb7 : Below wr.heap.size wr w7 := by rw [hw7]; exact (Below.refl _ _).alloc (Nat.le_refl _) _
          have HW7 := Lib.hid hw7
          have HBL := Lib.hid hblk
          have HB7 := Lib.hid hb7
          clear hr9 hx hx2 hy hy2 htk hmem hnames hsw hpl hzn hswz hz hbw hbcr hda hdb hkT hw7 hblk hb7
          go_upto_if 73 with fail
          rw [show wr.alloc _ = w7 from HW7.out.symm]
          go_cut [] from 74 to 75 (fun wx => Below wr.heap.size wr wx ∧ wx.heap[wr.heap.size]? = some (.cells #[.string z, .string y] 43 (0, 0)))
          case first =>
            obtain ⟨hq0, hq1, hf0, hf1⟩ := two_cells HBL.out
            by_cases he : x.data.toList = nT
            · have t1 : (x.toList == [116]) = true := by rw [Lib.toList_data, he]; rfl
              have hz2 := HZ.out
              rw [if_pos he] at hz2
              subst hz2
              clear he
              go_wp2_with fail
              · go_meet
                exact ⟨HB7.out.setCell (Nat.le_refl _) _, by rw [set_at HBL.out]; rfl⟩
              · rename_i hh
                rw [t1] at hh
                cases hh
            · have t1 : (x.toList == [116]) = false := by rw [Lib.toList_data]; exact beq_eq_false_iff_ne.2 he
              have hz2 := HZ.out
              rw [if_neg he] at hz2
              subst hz2
              clear he
              go_wp2_with fail
              · rename_i hh
                rw [t1] at hh
                cases hh
              · go_meet
                exact ⟨HB7.out.setCell (Nat.le_refl _) _, by rw [set_at HBL.out]; rfl⟩
          case rest =>
            obtain ⟨hb8, ho8⟩ := hcut
            have HB8 := Lib.hid hb8
            have HO8 := Lib.hid ho8
            have hs8 := hb8.size
            have HS8 : Hid (∀ w', Below wc.heap.size wc w' → Below wr.heap.size wr w' ∧ w'.heap[wr.heap.size]? = some (.cells #[.string z, .string y] 43 (0, 0))) := Lib.hid fun w' h => ⟨hb8.trans (h.mono hs8), (h.block _ (Array.getElem?_eq_some_iff.1 ho8).1).trans ho8⟩
            clear hb8 ho8
            go_wp2
            go_region_held3 (fun w' => (w'.cell? ⟨w2.heap.size, 0, none⟩ = some (.int .i64 0) ∧ w'.cell? ⟨w2.heap.size, 1, none⟩ = some (.slice (some ⟨b4, o4, none⟩) 2 c2) ∧ w'.cell? ⟨Bb, 0, none⟩ = some (.int .i64 0) ∧ w'.cell? ⟨Bb, 1, none⟩ = some (.slice (some ⟨Ar, 0, none⟩) 2 2) ∧ w'.cell? ⟨b5, o5 + k * 2, none⟩ = some (.string x) ∧ w'.cell? ⟨b5, o5 + k * 2 + 1, none⟩ = some (.string y) ∧ w'.cell? ⟨b6, o6 + k, none⟩ = some (.slice A9 pl c9) ∧ w'.cell? ⟨wr.heap.size, 0, none⟩ = some (.string z) ∧ w'.cell? ⟨wr.heap.size, 1, none⟩ = some (.string y)))
              (first | (obtain ⟨s1, s2⟩ := HS8.out _ (Below.refl _ _).drew; exact HS.out _ s1 s2) | (obtain ⟨s1, s2⟩ := HS8.out _ HB9.out; exact HS.out _ s1 s2) | (obtain ⟨s1, s2⟩ := HS8.out _ HB10.out; exact HS.out _ s1 s2))
              (first
                | (go_at_call 26; (with_reducible refine (HCB.out _ (HS8.out _ (Below.refl _ wc).drew).1).mono ?_); rintro e w9 ⟨rfl, hb9⟩
                   have HB9 : Hid (Below wc.heap.size wc w9) := Lib.hid ((Below.refl _ wc).drew.trans hb9)
                   clear hb9)
                | (go_at_call 26; (with_reducible refine (HCA.out _ (HS8.out _ HB9.out).1).mono ?_); rintro e w10 ⟨rfl, hb10⟩
                   have HB10 : Hid (Below wc.heap.size wc w10) := Lib.hid (HB9.out.trans (hb10.mono HB9.out.size))
                   clear hb10))
            all_goals
              go_wp2
              exact ⟨⟨k + 1, by omega, by go_num, HBW.out.trans ((HS8.out _ HB10.out).1.mono hsr)⟩, by simp [intOf]; omega⟩
        · have HWA : Hid (∀ w', Below wr.heap.size wr w' → Calls Try.prog 20 #[docV 0 (some ⟨b4, o4, none⟩) 2 c2] w' fun e w'' => e = .returned (.int .i64 (weightD (two X.data.toList Y.data.toList) : Int)) ∧ Below w'.heap.size w' w'') := Lib.hid fun w' h => good_weight (id := 0) (c := c2) HGOOD.out (hda.later h).len (hda.later h).row
          have HWB : Hid (∀ w', Below wr.heap.size wr w' → Calls Try.prog 20 #[docV 0 (some ⟨Ar, 0, none⟩) 2 2] w' fun e w'' => e = .returned (.int .i64 (weightD (two X.data.toList Y.data.toList) : Int)) ∧ Below w'.heap.size w' w'') := Lib.hid fun w' h => by
            have := good_weight (id := 0) (c := 2) HGB.out (hdb.later h).len (hdb.later h).row
            rwa [weight_swap] at this
          obtain ⟨M, hM⟩ : ∃ M, M = weightD (two X.data.toList Y.data.toList) := ⟨_, rfl⟩
          rw [← hM] at HWA HWB
          have HS : Hid (∀ w', Below wr.heap.size wr w' → (w'.cell? ⟨w2.heap.size, 0, none⟩ = some (.int .i64 0) ∧ w'.cell? ⟨w2.heap.size, 1, none⟩ = some (.slice (some ⟨b4, o4, none⟩) 2 c2) ∧ w'.cell? ⟨Bb, 0, none⟩ = some (.int .i64 0) ∧ w'.cell? ⟨Bb, 1, none⟩ = some (.slice (some ⟨Ar, 0, none⟩) 2 2))) := Lib.hid fun w' h => by
            have ha' := (hda.later h).cells
            have hb' := (hdb.later h).cells
            exact ⟨ha'.1, ha'.2, hb'.1, hb'.2⟩
          have HBW := Lib.hid hbw
          clear hM hda hdb hbw hbcr
          go_wp2
          go_region_held3 (fun w' => (w'.cell? ⟨w2.heap.size, 0, none⟩ = some (.int .i64 0) ∧ w'.cell? ⟨w2.heap.size, 1, none⟩ = some (.slice (some ⟨b4, o4, none⟩) 2 c2) ∧ w'.cell? ⟨Bb, 0, none⟩ = some (.int .i64 0) ∧ w'.cell? ⟨Bb, 1, none⟩ = some (.slice (some ⟨Ar, 0, none⟩) 2 2)))
            (first | exact HS.out _ (Below.refl _ _).drew | exact HS.out _ HB9.out | exact HS.out _ HB10.out | exact HS.out _ HB11.out)
            (first
              | (go_at_call 20; (with_reducible refine (HWA.out _ (Below.refl _ wr).drew).mono ?_); rintro e w9 ⟨rfl, hb9⟩
                 have HB9 : Hid (Below wr.heap.size wr w9) := Lib.hid ((Below.refl _ wr).drew.trans hb9)
                 clear hb9)
              | (go_at_call 20; (with_reducible refine (HWB.out _ HB9.out).mono ?_); rintro e w10 ⟨rfl, hb10⟩
                 have HB10 : Hid (Below wr.heap.size wr w10) := Lib.hid (HB9.out.trans (hb10.mono HB9.out.size))
                 clear hb10)
              | (go_at_call 18; (with_reducible refine (HLV.out _).mono ?_); rintro e w11 ⟨rfl, hb11⟩
                 have HB11 : Hid (Below wr.heap.size wr w11) := Lib.hid (HB10.out.trans (hb11.mono HB10.out.size))
                 clear hb11))
          all_goals
            go_wp2
            go_ret
            exact ⟨rfl, HB06.out.trans ((HBW.out.trans (HB11.out.mono hsr)).mono hs06)⟩
  · have j2 : ¬ (gl : Int) = 2 := by omega
    have hs3 := HB3.out.size
    clear hg2
    go_wp2_with (go_at_call 18; (with_reducible refine (HLV.out _).mono ?_); rintro e w8 ⟨rfl, hb8⟩)
    go_ret
    exact ⟨rfl, HB3.out.trans (hb8.mono hs3)⟩
end Go.Proofs.Ythpecegifilgoaa
