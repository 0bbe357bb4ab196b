/- DictFinds, walked: true for every input. -/
import Derived.Test.YtebdnjfohahpgaaMade07
import Derived.Test.YtebdnjfohahpgaaGood07
import Derived.Test.YtebdnjfohahpgaaArg07
import Derived.Test.YtebdnjfohahpgaaNat
import Derived.Deep.RegionLaw
import Derived.Deep.CutRange
set_option linter.unusedVariables false
namespace Go.Proofs.Ytebdnjfohahpgaa
open Go Go.RowKit

/-- What is asked, in a row of the call's own. -/
def AskAt (w0 : World) (n : Nat) (s : Value) (wx : World) : Prop := ∃ L : List Nm, L.length ≤ 5 ∧ (∀ x ∈ L, x.length ≤ 9) ∧ OwnNm w0.heap.size wx s L ∧ Below w0.heap.size w0 wx
theorem own_built (w : World) (base : Nat) (hb : base ≤ w.heap.size) (x y : Nm) : OwnNm base (w.alloc (.cells #[.string ⟨x.toArray⟩, .string ⟨y.toArray⟩] 9)) (.slice (some ⟨w.heap.size, 0, none⟩) 2 2) [x, y] :=
  ⟨rfl, .inr ⟨w.heap.size, 2, _, rfl, hb, heap_alloc_new w _, Nat.le_refl _, by unfold maxLen; omega, rfl, rfl⟩⟩
theorem row_three (w : World) (x y z : Nm) : Row (w.alloc (.cells #[.string ⟨x.toArray⟩, .string ⟨y.toArray⟩, .string ⟨z.toArray⟩] 9)) (w.alloc (.cells #[.string ⟨x.toArray⟩, .string ⟨y.toArray⟩, .string ⟨z.toArray⟩] 9)).heap.size (some ⟨w.heap.size, 0, none⟩) (strs [x, y, z]) := by
  refine .inr ⟨w.heap.size, 0, rfl, by simp, fun j u hu => ?_⟩
  have := news_at w (strs [x, y, z]) 9 j u hu
  rw [Addr.add_lit] at this
  exact this
def FindsRel (m : Nat) (w3 : World) (r i : Value) (wr : World) : Prop := r = .bool false ∧ ∃ k : Nat, k ≤ m ∧ i = .int .i64 (k : Int) ∧ Below w3.heap.size w3 wr

set_option maxHeartbeats 8000000 in
set_option maxRecDepth 100000 in
theorem walk_DictFinds (a0 : Option Addr) (len0 cap0 : Nat) (z0 : List Nm) (a1 : ByteArray) (a2 : Int) (w : World) (h0 : InStrs w a0 len0 cap0 z0) (h1 : a1.size ≤ maxLen) (h2 : (Lit.int .i64 a2).wf = true) :
    Calls Try.prog 4 #[.slice a0 len0 cap0, .string a1, .int .i64 a2] w fun e w' => e = .returned (.bool true) ∧ Below w.heap.size w w' := by
  obtain ⟨hlc, hcm, hzl, hrow, hzm⟩ := h0
  obtain ⟨N, hN, hneg0, hpos0⟩ := made_nat (wf_bd h2)
  have b0 := wf_bd h2
  have HN0 := Lib.hid hneg0
  have HP0 := Lib.hid hpos0
  have C1 := Lib.hid (ref_Good07 a0 len0 cap0 20 z0 w hrow hzl hzm (by omega) (by omega))
  have hgood := good_goodN z0 20
  obtain ⟨g, hg⟩ : ∃ g, g = goodN z0 20 := ⟨_, rfl⟩
  rw [← hg] at C1 hgood
  obtain ⟨hgd, hgl⟩ := hgood
  have HGD := Lib.hid hgd
  have HGR := Lib.hid (risesN_iff.2 hgd.rise)
  obtain ⟨n, hn⟩ : ∃ n, n = g.length := ⟨_, rfl⟩
  have HN := Lib.hid hn
  have hn20 : n ≤ 20 := by omega
  unfold maxLen at h1
  obtain ⟨mm, hmm⟩ : ∃ mm : Nat, mm = min a1.size 8 := ⟨_, rfl⟩
  have hmn : ∀ (w : World) (ts : Array TypeId) (ty : TypeId), (Builtin.min_ ts ty #[.int .i64 a1.size, .int .i64 8]).run Try.prog w = .ok (.int .i64 (mm : Int)) w := fun w ts ty => by rw [run_min_int2, hmm]; congr 2; split <;> omega
  have hm1 : mm ≤ a1.size := by omega
  have hm8 : mm ≤ 8 := by omega
  obtain ⟨y, hy⟩ : ∃ y : Nm, y = (a1.extract 0 mm).data.toList := ⟨_, rfl⟩
  have hys : y.length ≤ 8 := by rw [hy, Array.length_toList]; show (a1.extract 0 mm).size ≤ 8; rw [ByteArray.size_extract]; omega
  have hy2 : a1.extract 0 mm = ⟨y.toArray⟩ := by rw [hy]
  have HMN := Lib.hid hmn
  have HY := Lib.hid hy2
  clear hrow hzm hg hgd hgl hn hmm hzl hlc hcm hy hy2 hneg0 hpos0 h2 hmn
  go_enter Try.func4, Try.ntmps4
  go_wp2_with (go_at_call 12; refine (C1.out).mono ?_)
  rintro e w1 ⟨v, rfl, ho, hb1⟩
  obtain ⟨A1, c1, rfl, hnc, hcm, hr1⟩ := ho.room
  have C2 := Lib.hid (law07_made A1 n c1 g w1 hr1 HN.out.symm (by omega) HGR.out)
  rw [← HN.out]
  have HB1 := Lib.hid hb1
  have HR1 := Lib.hid hr1
  clear ho hb1 hr1 hnc hcm
  go_wp2_with (go_at_call 13; refine (C2.out).mono ?_)
  rintro e w2 ⟨B, rfl, hd, hb2⟩
  rw [← HN.out] at hd
  have HD := Lib.hid hd
  have HR2 := Lib.hid ((HR1.out.below hb2).more hb2.size)
  have HB2 := Lib.hid (HB1.out.trans (hb2.mono HB1.out.size))
  clear hd hb2 C1 C2
  go_upto_if 29 with fail
  go_cut [2] from 28 to 32 (fun s wx => s = .int .i64 (N : Int) ∧ w2 = wx)
  case first =>
    by_cases h0 : a2 < 0
    · have hng := HN0.out h0
      go_wp2_with fail
      go_meet
      exact ⟨rfl, rfl⟩
    · have hng := HP0.out (by omega)
      subst hng
      go_wp2_with fail
      go_meet
      exact ⟨rfl, rfl⟩
  case rest =>
    obtain ⟨rfl, rfl⟩ := hcut
    clear b0 HN0 HP0
    have hmn := HMN.out
    have hy2 := HY.out
    go_upto_if 41 with fail
    clear hmn hy2
    obtain ⟨SV, hSV⟩ : ∃ SV, SV = Value.slice (some ⟨w2.heap.size, 0, none⟩) 2 2 := ⟨_, rfl⟩
    obtain ⟨wa, hwa⟩ : ∃ wa, wa = w2.alloc (.cells #[.string ⟨y.toArray⟩, .string ⟨#[]⟩] 9) := ⟨_, rfl⟩
    have HB0 : Hid (OwnNm w2.heap.size wa SV [y, []]) := Lib.hid (by rw [hSV, hwa]; exact own_built w2 w2.heap.size (Nat.le_refl _) y [])
    have HBA : Hid (Below w2.heap.size w2 wa) := Lib.hid (by rw [hwa]; exact (Below.refl _ _).alloc (Nat.le_refl _) _)
    rw [← hSV, ← hwa]
    clear hSV hwa
    go_cut [9, 10] from 41 to 59 (fun s t wx => AskAt w2 n s wx)
    case first =>
      by_cases hn0 : 0 < n
      · obtain ⟨m, hm⟩ : ∃ m : Nat, m = N % n := ⟨_, rfl⟩
        have hmI : (N : Int) % (n : Int) = (m : Int) := by rw [hm]; rfl
        have hml : m < n := by rw [hm]; exact Nat.mod_lt _ hn0
        have hmg : m < g.length := by rw [← HN.out]; exact hml
        obtain ⟨b1, o1, rfl, hb1, hc1⟩ := row_nm (HR2.out.below HBA.out) hmg
        have hx8 := HGD.out.eight _ (List.getElem_mem hmg)
        obtain ⟨x, hx⟩ : ∃ x, x = g[m] := ⟨_, rfl⟩
        rw [← hx] at hc1 hx8
        obtain ⟨X, hX⟩ : ∃ X : ByteArray, X = ⟨x.toArray⟩ := ⟨_, rfl⟩
        rw [← hX] at hc1
        have hXs : X.size ≤ 8 := by rw [hX, size_nm]; exact hx8
        obtain ⟨Z, hZ⟩ : ∃ Z : ByteArray, Z = ⟨(x ++ [0]).toArray⟩ := ⟨_, rfl⟩
        have hcat : X ++ ⟨#[0]⟩ = Z := by rw [hX, hZ]; exact str_cat x [0]
        obtain ⟨h, hh⟩ : ∃ h : Nat, h = X.size / 2 := ⟨_, rfl⟩
        have hhI : (X.size : Int) / 2 = (h : Int) := by omega
        have hh1 : h ≤ X.size := by omega
        obtain ⟨Y, hYY⟩ : ∃ Y : Nm, Y = (X.extract 0 h).data.toList := ⟨_, rfl⟩
        have hYl : Y.length ≤ 8 := by rw [hYY, Array.length_toList]; show (X.extract 0 h).size ≤ 8; rw [ByteArray.size_extract]; omega
        obtain ⟨YB, hYB⟩ : ∃ YB : ByteArray, YB = ⟨Y.toArray⟩ := ⟨_, rfl⟩
        have hext : X.extract 0 h = YB := by rw [hYB, hYY]
        have HX := Lib.hid hX
        have HZ := Lib.hid hZ
        have HYB := Lib.hid hYB
        have k1 : (0 : Int) ≤ (m : Int) := by omega
        have k2 : (m : Int) < (n : Int) := by omega
        have k3 : (0 : Int) < (n : Int) := by omega
        have k4 : (1 : Int) ≤ (n : Int) := by omega
        have k5 : (0 : Int) ≤ (N : Int) := by omega
        have d0 : decide ((0 : Int) < (n : Int)) = true := decide_eq_true (by omega)
        clear hm hx hX hZ hh hYY hYB hmg
        go_wp2_with (at_builtin; refine wpList_append_nm _ rfl (.tmp 49) (.tmp 58) rfl w2.heap.size _ [y, []] rfl (HB0.out.below ((Below.refl _ _).alloc (Nat.le_refl _) _)) _ 3 3 [x, x ++ [0], Y] rfl rfl (by rw [HX.out, HZ.out, HYB.out]; exact row_three _ x (x ++ [0]) Y) (by simp) (by have := HBA.out.size; simp; omega) ?_)
        intro v4 w4 ho4 hb4
        have hfin : AskAt w2 n v4 w4 := ⟨_, by simp, fun u hu => by
          simp only [List.cons_append, List.nil_append, List.mem_cons, List.not_mem_nil, or_false] at hu
          rcases hu with rfl | rfl | rfl | rfl | rfl <;> first | omega | (simp; done) | (simp; omega), ho4, HBA.out.trans ((((Below.refl wa.heap.size wa).alloc (Nat.le_refl _) _).mono HBA.out.size).trans hb4)⟩
        have HF := Lib.hid hfin
        clear hfin ho4 hb4
        go_wp2_with fail
        go_meet
        exact HF.out
      · have d0 : decide ((0 : Int) < (n : Int)) = false := decide_eq_false (by omega)
        have hnz : n = 0 := by omega
        have HF : Hid (AskAt w2 n SV wa) := Lib.hid ⟨[y, []], by simp, fun u hu => by
          simp only [List.mem_cons, List.not_mem_nil, or_false] at hu
          rcases hu with rfl | rfl <;> first | omega | (simp; done) | (simp; omega), HB0.out, HBA.out⟩
        subst hnz
        go_wp2_with fail
        go_meet
        exact HF.out
    case rest =>
      obtain ⟨L, hL5, hL9, hoL, hbL⟩ := hcut
      obtain ⟨AL, cL, rfl, hLc, hLm, hrL⟩ := hoL.room
      obtain ⟨m, hm⟩ : ∃ m, m = L.length := ⟨_, rfl⟩
      rw [← hm] at hLc hL5
      rw [← hm]
      have HRL := Lib.hid hrL
      have HLM := Lib.hid hm
      have HL9 := Lib.hid hL9
      have HBL := Lib.hid hbL
      have HDL := Lib.hid (HD.out.below hbL)
      have HRG := Lib.hid ((HR2.out.below hbL).more hbL.size)
      clear hoL hrL hm hL9 hbL hLc hLm HB0 HBA
      go_wp2
      go_loopw [6, 11] (FindsRel m wc) (fun _ i _ => m - (intOf i).toNat)
      case atStart => exact ⟨rfl, 0, Nat.zero_le _, rfl, Below.refl _ _⟩
      case round =>
        obtain ⟨rfl, k, hk, rfl, hbw⟩ := hrel
        by_cases hlt : k < m
        · have hkl : k < L.length := by rw [← HLM.out]; exact hlt
          obtain ⟨b2, o2, rfl, hb2, hc2⟩ := row_nm (HRL.out.below hbw) hkl
          have hx9 := HL9.out _ (List.getElem_mem hkl)
          obtain ⟨t, ht, ht2⟩ := as_text L[k]
          have hts : t.size ≤ 9 := by rw [ht, size_nm]; exact hx9
          rw [← ht] at hc2
          have hzw := hbw.size
          have HC : Hid (∀ W, Below wr.heap.size wr W → W.cell? ⟨b2, o2 + k, none⟩ = some (.string t)) := Lib.hid fun W h => (h.cell (p := ⟨b2, o2 + k, none⟩) (by show b2 < wr.heap.size; omega)).trans hc2
          have hd := HDL.out.below hbw
          have hrg := (HRG.out.below hbw).more hbw.size
          have cp := fun W (h : Below wr.heap.size wr W) => dict_Place _ B g _ t W (hd.below h) HGD.out.rise (by rw [← HN.out]; omega)
          have cr := fun W (h : Below wr.heap.size wr W) => ref_Place07 A1 n c1 g t W ((hrg.below h).more h.size) HN.out.symm (by omega)
          have cf := fun W (h : Below wr.heap.size wr W) => dict_Find _ B g _ t W (hd.below h) HGD.out.rise (by rw [← HN.out]; omega)
          have cx := fun W (h : Below wr.heap.size wr W) => dict_Prefix _ B g _ t W (hd.below h) HGD.out.rise (by rw [← HN.out]; omega)
          have cy := fun W (h : Below wr.heap.size wr W) => ref_Prefix07 A1 n c1 g t W ((hrg.below h).more h.size) HN.out.symm (by omega) (by unfold maxLen; omega) (fun x hx => by have := HGD.out.eight x hx; omega)
          have hpl := placeN_le g t.data.toList
          have hel := endN_le g t.data.toList
          have hfd := isN_found (l := g) (s := t.data.toList)
          obtain ⟨p, hp⟩ : ∃ p, p = placeN g t.data.toList := ⟨_, rfl⟩
          obtain ⟨q, hq⟩ : ∃ q, q = endN g t.data.toList := ⟨_, rfl⟩
          obtain ⟨z, hz⟩ : ∃ z, z = isN g t.data.toList := ⟨_, rfl⟩
          rw [← hp, ← hz] at cp cr cf
          rw [← hp, ← hq] at cx cy
          rw [← hp, ← HN.out] at hpl
          rw [← hq, ← HN.out] at hel
          rw [← hz, ← hp] at hfd
          have CP := Lib.hid cp
          have CR := Lib.hid cr
          have CX := Lib.hid cx
          have CY := Lib.hid cy
          have HBWR := Lib.hid hbw
          have k1 : (0 : Int) ≤ (k : Int) := by omega
          have k2 : (k : Int) < (m : Int) := by omega
          have k3 : (p : Int) ≤ 20 := by omega
          have k4 : (0 : Int) ≤ (p : Int) := by omega
          cases z with
          | true =>
            have hpn : p < n := by rw [HN.out]; exact (hfd rfl).1
            simp only [if_true] at cf
            rw [thingsN_at hpn] at cf
            have CF := Lib.hid cf
            clear cp cr cf cx cy hp hq hz hfd hd hrg ht ht2 hkl hbw hx9
            go_wp2_with (first
            | (go_at_call 19; refine (CP.out _ (Below.refl _ _)).mono ?_; rintro e wb0 ⟨rfl, hq0⟩; have HQ0 : Hid (Below wr.heap.size wr wb0) := Lib.hid hq0; have cc0 := HC.out _ HQ0.out; clear hq0)
            | (go_at_call 20; refine (CR.out _ HQ0.out).mono ?_; rintro e wb1 ⟨rfl, hq1⟩; have HQ1 : Hid (Below wr.heap.size wr wb1) := Lib.hid (HQ0.out.trans (hq1.mono HQ0.out.size)); have cc1 := HC.out _ HQ1.out; clear hq1)
            | (go_at_call 21; refine (CF.out _ HQ1.out).mono ?_; rintro e wb2 ⟨rfl, hq2⟩; have HQ2 : Hid (Below wr.heap.size wr wb2) := Lib.hid (HQ1.out.trans (hq2.mono HQ1.out.size)); have cc2 := HC.out _ HQ2.out; clear hq2)
            | (go_at_call 22; refine (CX.out _ HQ2.out).mono ?_; rintro e wb3 ⟨rfl, hq3⟩; have HQ3 : Hid (Below wr.heap.size wr wb3) := Lib.hid (HQ2.out.trans (hq3.mono HQ2.out.size)); have cc3 := HC.out _ HQ3.out; clear hq3)
            | (go_at_call 23; refine (CY.out _ HQ3.out).mono ?_; rintro e wb4 ⟨rfl, hq4⟩; have HQ4 : Hid (Below wr.heap.size wr wb4) := Lib.hid (HQ3.out.trans (hq4.mono HQ3.out.size)); have cc4 := HC.out _ HQ4.out; clear hq4))
            go_roundw
            case rel => exact ⟨rfl, k + 1, by omega, by go_num, HBWR.out.trans (HQ4.out.mono HBWR.out.size)⟩
            case measure => simp [intOf]; omega
          | false =>
            simp only [Bool.false_eq_true, if_false] at cf
            have CF := Lib.hid cf
            clear cp cr cf cx cy hp hq hz hfd hd hrg ht ht2 hkl hbw hx9
            go_wp2_with (first
            | (go_at_call 19; refine (CP.out _ (Below.refl _ _)).mono ?_; rintro e wb0 ⟨rfl, hq0⟩; have HQ0 : Hid (Below wr.heap.size wr wb0) := Lib.hid hq0; have cc0 := HC.out _ HQ0.out; clear hq0)
            | (go_at_call 20; refine (CR.out _ HQ0.out).mono ?_; rintro e wb1 ⟨rfl, hq1⟩; have HQ1 : Hid (Below wr.heap.size wr wb1) := Lib.hid (HQ0.out.trans (hq1.mono HQ0.out.size)); have cc1 := HC.out _ HQ1.out; clear hq1)
            | (go_at_call 21; refine (CF.out _ HQ1.out).mono ?_; rintro e wb2 ⟨rfl, hq2⟩; have HQ2 : Hid (Below wr.heap.size wr wb2) := Lib.hid (HQ1.out.trans (hq2.mono HQ1.out.size)); have cc2 := HC.out _ HQ2.out; clear hq2)
            | (go_at_call 22; refine (CX.out _ HQ2.out).mono ?_; rintro e wb3 ⟨rfl, hq3⟩; have HQ3 : Hid (Below wr.heap.size wr wb3) := Lib.hid (HQ2.out.trans (hq3.mono HQ2.out.size)); have cc3 := HC.out _ HQ3.out; clear hq3)
            | (go_at_call 23; refine (CY.out _ HQ3.out).mono ?_; rintro e wb4 ⟨rfl, hq4⟩; have HQ4 : Hid (Below wr.heap.size wr wb4) := Lib.hid (HQ3.out.trans (hq4.mono HQ3.out.size)); have cc4 := HC.out _ HQ4.out; clear hq4))
            go_roundw
            case rel => exact ⟨rfl, k + 1, by omega, by go_num, HBWR.out.trans (HQ4.out.mono HBWR.out.size)⟩
            case measure => simp [intOf]; omega
        · have LV := Lib.hid (law07_lives wr)
          have HBW := Lib.hid (HB2.out.trans ((HBL.out.trans (hbw.mono HBL.out.size)).mono HB2.out.size))
          clear hbw
          go_wp2_with (go_at_call 18; refine (LV.out).mono ?_; rintro e w9 ⟨rfl, hb9⟩)
          go_ret
          exact ⟨rfl, HBW.out.trans (hb9.mono HBW.out.size)⟩
end Go.Proofs.Ytebdnjfohahpgaa
