/- The walk of DocWords. -/
import Derived.Test.YthpecegifilgoaaMayD08
import Derived.Test.YthpecegifilgoaaQ18
set_option linter.unusedVariables false
namespace Go.Proofs.Ythpecegifilgoaa
open Go Go.RowKit

theorem frow_two8 (w : World) (a b x y : ByteArray) (t : TypeId) : FRow (w.alloc (.cells #[.string a, .string x, .string b, .string y] t)) (w.alloc (.cells #[.string a, .string x, .string b, .string y] t)).heap.size (some ⟨w.heap.size, 0, none⟩) [(a.data.toList, x.data.toList), (b.data.toList, y.data.toList)] := by
  refine .inr ⟨w.heap.size, 0, rfl, by simp, fun j u hu => ?_⟩
  have := news_at w [.string a, .string x, .string b, .string y] t j u hu
  rw [Addr.add_lit] at this
  exact this

set_option maxHeartbeats 8000000 in
set_option maxRecDepth 100000 in
theorem walk_DocWords (a1 a2 : Int) (w : World) (h1 : (Lit.int .i64 a1).wf = true) (h2 : (Lit.int .i64 a2).wf = true) :
    Calls Try.prog 4 #[.int .i64 a1, .int .i64 a2] w fun e w' => e = .returned (.bool true) ∧ Below w.heap.size w w' := by
  obtain ⟨N1, hN1, hneg1, hpos1⟩ := made_nat (wf_bd h1)
  obtain ⟨N2, hN2, hneg2, hpos2⟩ := made_nat (wf_bd h2)
  have b1 := wf_bd h1
  have b2 := wf_bd h2
  have HNG1 := Lib.hid hneg1
  have HPS1 := Lib.hid hpos1
  have HNG2 := Lib.hid hneg2
  have HPS2 := Lib.hid hpos2
  have HLV : Hid (∀ w', Calls Try.prog 18 #[] w' fun e w'' => e = .returned (.bool true) ∧ Below w'.heap.size w' w'') := Lib.hid law08_lives
  clear hneg1 hpos1 hneg2 hpos2 h1 h2
  go_enter Try.func4, Try.ntmps4
  go_upto_if 8 with fail
  obtain ⟨d1, hd1⟩ : ∃ d1, d1 = decide (a1 < 0) := ⟨_, rfl⟩
  rw [← hd1]
  have HD1 := Lib.hid hd1
  clear hd1
  go_cut [0] from 9 to 11 (fun s wx => s = .int .i64 (N1 : Int) ∧ w = wx)
  case first =>
    cases d1 with
    | true =>
      have h0 : a1 < 0 := of_decide_eq_true HD1.out.symm
      have hng := HNG1.out h0
      go_wp2_with fail
      go_meet
      exact ⟨rfl, rfl⟩
    | false =>
      have h0 : ¬ a1 < 0 := of_decide_eq_false HD1.out.symm
      have hng := HPS1.out h0
      subst hng
      clear h0
      go_wp2_with fail
      go_meet
      exact ⟨rfl, rfl⟩
  case rest =>
    obtain ⟨rfl, rfl⟩ := hcut
    clear b1 HNG1 HPS1 HD1
    go_upto_if 13 with fail
    obtain ⟨d2, hd2⟩ : ∃ d2, d2 = decide (a2 < 0) := ⟨_, rfl⟩
    rw [← hd2]
    have HD2 := Lib.hid hd2
    clear hd2
    go_cut [1] from 14 to 16 (fun s wx => s = .int .i64 (N2 : Int) ∧ w = wx)
    case first =>
      cases d2 with
      | true =>
        have h0 : a2 < 0 := of_decide_eq_true HD2.out.symm
        have hng := HNG2.out h0
        go_wp2_with fail
        go_meet
        exact ⟨rfl, rfl⟩
      | false =>
        have h0 : ¬ a2 < 0 := of_decide_eq_false HD2.out.symm
        have hng := HPS2.out h0
        subst hng
        clear h0
        go_wp2_with fail
        go_meet
        exact ⟨rfl, rfl⟩
    case rest =>
      obtain ⟨rfl, rfl⟩ := hcut
      clear b2 HNG2 HPS2 HD2
      obtain ⟨n, hn⟩ : ∃ n, n = N1 % 511 := ⟨_, rfl⟩
      obtain ⟨m, hm⟩ : ∃ m, m = N2 % 511 := ⟨_, rfl⟩
      have hn5 : n ≤ 510 := by omega
      have hm5 : m ≤ 510 := by omega
      have e1 : (N1 : Int).tmod 511 = (n : Int) := by rw [hn]; exact (Int.ofNat_tmod N1 511).symm
      have e2 : (N2 : Int).tmod 511 = (m : Int) := by rw [hm]; exact (Int.ofNat_tmod N2 511).symm
      clear hn hm
      obtain ⟨X, hX⟩ : ∃ X : ByteArray, X = ⟨(wordsB n).toArray⟩ := ⟨_, rfl⟩
      obtain ⟨Y, hY⟩ : ∃ Y : ByteArray, Y = ⟨(wordsB m).toArray⟩ := ⟨_, rfl⟩
      have C1 : Hid (∀ w', Calls Try.prog 19 #[.int .i64 n] w' fun e w'' => e = .returned (.string X) ∧ Below w'.heap.size w' w'') := Lib.hid fun w' => by rw [hX]; exact law08_words n w' (by omega)
      have C2 : Hid (∀ w', Calls Try.prog 19 #[.int .i64 m] w' fun e w'' => e = .returned (.string Y) ∧ Below w'.heap.size w' w'') := Lib.hid fun w' => by rw [hY]; exact law08_words m w' (by omega)
      have hX2 : X.data.toList = wordsB n := by rw [hX]
      have hY2 : Y.data.toList = wordsB m := by rw [hY]
      have hlx : X.data.toList.length ≤ 1020 := by rw [hX2, wordsB_length]; omega
      have hly : Y.data.toList.length ≤ 1020 := by rw [hY2, wordsB_length]; omega
      have hmay := may_many n m
      have hwgt := weight_many n m
      rw [← hX2, ← hY2] at hmay hwgt
      obtain ⟨l, hl⟩ : ∃ l, l = two X.data.toList Y.data.toList := ⟨_, rfl⟩
      rw [← hl] at hmay hwgt
      obtain ⟨E, hE⟩ : ∃ E : Int, E = if 500 < n + m then 7 else 0 := ⟨_, rfl⟩
      rw [← hE] at hmay
      have hbd : ∀ f ∈ l, f.1.length ≤ 1 ∧ f.2.length ≤ 1020 := fun f hf => by
        rw [hl] at hf
        simp only [two, List.mem_cons, List.not_mem_nil, or_false] at hf
        rcases hf with rfl | rfl
        · exact ⟨show nT.length ≤ 1 by decide, hlx⟩
        · exact ⟨show nU.length ≤ 1 by decide, hly⟩
      have HMAY := Lib.hid hmay
      have HWGT := Lib.hid hwgt
      have HBD := Lib.hid hbd
      have HL := Lib.hid hl
      have HE := Lib.hid hE
      clear hX hY hX2 hY2 hlx hly hmay hwgt hl hE hbd
      go_upto_region 9 with (first
        | (go_at_call 19; (with_reducible refine (C1.out _).mono ?_); rintro e w1 ⟨rfl, hb1⟩
           have HB1 := Lib.hid hb1
           clear hb1)
        | (go_at_call 19; (with_reducible refine (C2.out _).mono ?_); rintro e w2 ⟨rfl, hb2⟩
           have HB2 := Lib.hid hb2
           clear hb2))
      obtain ⟨w3, hw3⟩ : ∃ w3, w3 = (w2.alloc (.cells #[.string ⟨#[116]⟩, .string X, .string ⟨#[117]⟩, .string Y] 31)).alloc (.cells #[.int .i64 0, .slice (some ⟨w2.heap.size, 0, none⟩) 2 2] 24) := ⟨_, rfl⟩
      have hb23 : Below w2.heap.size w2 w3 := by rw [hw3]; exact ((Below.refl _ _).alloc (Nat.le_refl _) _).alloc (by simp) _
      have hd3 : DocIn w3 (w2.heap.size + 1) 0 (some ⟨w2.heap.size, 0, none⟩) 2 2 l := by
        have hr := frow_two8 w2 ⟨#[116]⟩ ⟨#[117]⟩ X Y 31
        have := heap_alloc_new (w2.alloc (.cells #[.string ⟨#[116]⟩, .string X, .string ⟨#[117]⟩, .string Y] 31)) (.cells #[.int .i64 0, .slice (some ⟨w2.heap.size, 0, none⟩) 2 2] 24)
        rw [World.size_alloc] at this
        rw [hw3, HL.out]
        exact ⟨this, rfl, hr.later ((Below.refl _ _).alloc (Nat.le_refl _) _)⟩
      have hb03 : Below w.heap.size w w3 := HB1.out.trans ((HB2.out.trans (hb23.mono HB2.out.size)).mono HB1.out.size)
      rw [show (w2.alloc _).alloc _ = w3 from hw3.symm]
      have HD3 := Lib.hid hd3
      have HB03 := Lib.hid hb03
      obtain ⟨d0, d1⟩ := hd3.cells
      clear hw3 hb23 hd3 hb03 C1 C2
      have h4 : (500 : Int) < n ∨ ((n : Int) ≤ 500 ∧ ((500 : Int) < m ∨ ((m : Int) ≤ 500 ∧ ((500 : Int) < n + m ∨ ((n : Int) + m ≤ 500))))) := by omega
      have CM : Hid (∀ w', Below w3.heap.size w3 w' → Calls Try.prog 11 #[docV 0 (some ⟨w2.heap.size, 0, none⟩) 2 2] w' fun e w'' => e = .returned (.int .i64 E) ∧ Below w'.heap.size w' w'') := Lib.hid fun w' h => by
        have hd := HD3.out.later h
        have := doc_May 0 (some ⟨w2.heap.size, 0, none⟩) 2 2 l w' hd.len hd.row (by omega) (by omega) (fun f hf => by have := HBD.out f hf; omega)
        rwa [HMAY.out] at this
      have hE := HE.out
      rcases h4 with j1 | ⟨j1, j2 | ⟨j2, j3 | j3⟩⟩
      case inr.inr.inr =>
        rw [if_neg (by omega)] at hE
        subst hE
        have hgf : GoodF l := goodF_of HMAY.out fun f hf => by have := (HBD.out f hf).2; omega
        have CW : Hid (∀ w', Below w3.heap.size w3 w' → Calls Try.prog 20 #[docV 0 (some ⟨w2.heap.size, 0, none⟩) 2 2] w' fun e w'' => e = .returned (.int .i64 ((n : Int) + (m : Int))) ∧ Below w'.heap.size w' w'') := Lib.hid fun w' h => by
          have hd := HD3.out.later h
          have := good_weight (id := 0) (c := 2) hgf hd.len hd.row
          rwa [HWGT.out, Int.natCast_add] at this
        have HCL : Hid (∀ w', Below w3.heap.size w3 w' → w'.cell? ⟨w2.heap.size + 1, 0, none⟩ = some (.int .i64 0) ∧ w'.cell? ⟨w2.heap.size + 1, 1, none⟩ = some (.slice (some ⟨w2.heap.size, 0, none⟩) 2 2)) := Lib.hid fun w' h => (HD3.out.later h).cells
        clear hgf
        go_wp2_with (first
          | (go_at_call 11; (with_reducible refine (CM.out _ (Below.refl _ _)).mono ?_); rintro e w4 ⟨rfl, hb4⟩
             obtain ⟨f0, f1⟩ := HCL.out _ hb4
             have HB4 := Lib.hid hb4
             clear hb4)
          | (go_at_call 20; (with_reducible refine (CW.out _ HB4.out).mono ?_); rintro e w5 ⟨rfl, hb5⟩
             have HB5 := Lib.hid (HB03.out.trans ((HB4.out.trans (hb5.mono HB4.out.size)).mono HB03.out.size))
             clear hb5)
          | (go_at_call 18; (with_reducible refine (HLV.out _).mono ?_); rintro e w6 ⟨rfl, hb6⟩))
        go_ret
        exact ⟨rfl, HB5.out.trans (hb6.mono HB5.out.size)⟩
      all_goals
        rw [if_pos (by omega)] at hE
        subst hE
        go_wp2_with (first
          | (go_at_call 11; (with_reducible refine (CM.out _ (Below.refl _ _)).mono ?_); rintro e w4 ⟨rfl, hb4⟩
             have HB4 := Lib.hid (HB03.out.trans (hb4.mono HB03.out.size))
             clear hb4)
          | (go_at_call 18; (with_reducible refine (HLV.out _).mono ?_); rintro e w5 ⟨rfl, hb5⟩))
        go_ret
        exact ⟨rfl, HB4.out.trans (hb5.mono HB4.out.size)⟩
end Go.Proofs.Ythpecegifilgoaa
