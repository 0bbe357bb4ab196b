/- DictOwns, walked: true for every input. -/
import Derived.Test.YtebdnjfohahpgaaMade07
import Derived.Test.YtebdnjfohahpgaaGood07
import Derived.Test.YtebdnjfohahpgaaNames07
import Derived.Test.YtebdnjfohahpgaaArg07
import Derived.Test.YtebdnjfohahpgaaPut07
set_option linter.unusedVariables false
namespace Go.Proofs.Ytebdnjfohahpgaa
open Go Go.RowKit

theorem DictAt.setOther {w : World} {base B g o : Nat} {l : List Nm} {vs : List Int} {cs : Array Value} {t : TypeId} {fr : Nat × Nat} (h : DictAt w base B l vs) (hg : w.heap[g]? = some (.cells cs t fr)) (h1 : t ≠ 57) (h2 : t ≠ 59) (u : Value) : DictAt (w.setCell ⟨g, o, none⟩ u) base B l vs :=
  h.kinds fun k cs' t' fr' hk ht => by
    by_cases e : k = g
    · subst e
      rw [hg] at hk
      injection hk with hk
      injection hk with _ hk _
      subst hk
      rcases ht with ht | ht
      · exact absurd ht h1
      · exact absurd ht h2
    · rw [Below.heap_setCell _ _ _ _ e]; exact hk
/-- A text laid over one of a list of the call's own. -/
theorem OwnNm.set {base : Nat} {w : World} {g n c k : Nat} {L : List Nm} (h : OwnNm base w (.slice (some ⟨g, 0, none⟩) n c) L) (hn : L.length = n) (x : Nm) :
    OwnNm base (w.setCell ⟨g, k, none⟩ (.string ⟨x.toArray⟩)) (.slice (some ⟨g, 0, none⟩) n c) (L.set k x) ∧ w.grownBy (w.setCell ⟨g, k, none⟩ (.string ⟨x.toArray⟩)) (some g) := by
  unfold OwnNm at h
  rw [hn] at h
  obtain ⟨s1, s2⟩ := h.stored k (.string ⟨x.toArray⟩)
  refine ⟨?_, s2⟩
  unfold OwnNm
  rw [List.length_set, hn]
  have : (strs L).set k (.string ⟨x.toArray⟩) = strs (L.set k x) := by simp [strs, List.map_set]
  rw [← this]
  exact s1
theorem OwnNm.cell {base : Nat} {w : World} {g n c k : Nat} {L : List Nm} (h : OwnNm base w (.slice (some ⟨g, 0, none⟩) n c) L) (hn : L.length = n) (hk : k < n) :
    (∃ x : Nm, w.cell? ⟨g, k, none⟩ = some (.string ⟨x.toArray⟩)) ∧ w.frozen? ⟨g, k, none⟩ = false ∧ base ≤ g ∧ ∃ cs fr, w.heap[g]? = some (.cells cs 9 fr) := by
  unfold OwnNm at h
  rw [hn] at h
  have h1 := h.cellAt k (by omega)
  have hl : k < L.length := by omega
  rw [List.getElem?_eq_getElem (by rw [strs_length]; exact hl)] at h1
  refine ⟨⟨L[k], by rw [h1]; simp [strs]⟩, h.frozenAt k, (h.lt g rfl).1, ?_⟩
  rcases h.2 with ⟨hv, _⟩ | ⟨g', cap, cur, hv, _, hh, _⟩
  · cases hv
  · injection hv with e
    injection e with e
    injection e with e
    subst e
    exact ⟨_, _, hh⟩

def OwnsRel1 (n : Nat) (w1 w2 w3 : World) (V2 : Value) (T B : Nat) (g : List Nm) (vs : List Int) (r i : Value) (wr : World) : Prop := r = .bool false ∧ ∃ (k : Nat) (L : List Nm) (ts : List Int), k ≤ n ∧ i = .int .i64 (k : Int) ∧ OwnNm w1.heap.size wr V2 L ∧ L.length = n ∧
  wr.ownsRow w1.heap.size 3 1 (.slice (some ⟨T, 0, none⟩) n n) n (ints ts) ∧ DictAt wr w3.heap.size B g vs ∧ Below w1.heap.size w1 wr
def OwnsRel2 (n : Nat) (w5 w6 : World) (V9 : Value) (r i : Value) (wr : World) : Prop := r = .bool false ∧ ∃ (k : Nat) (L : List Nm), k ≤ n ∧ i = .int .i64 (k : Int) ∧ OwnNm w5.heap.size wr V9 L ∧ L.length = n ∧ Below w5.heap.size w5 wr
def OwnsRel3 (n : Nat) (w7 : World) (r i : Value) (wr : World) : Prop := r = .bool false ∧ ∃ k : Nat, k ≤ n ∧ i = .int .i64 (k : Int) ∧ Below w7.heap.size w7 wr

set_option maxHeartbeats 8000000 in
set_option maxRecDepth 100000 in
theorem walk_DictOwns (a0 : Option Addr) (len0 cap0 : Nat) (z0 : List Nm) (w : World) (h0 : InStrs w a0 len0 cap0 z0) :
    Calls Try.prog 7 #[.slice a0 len0 cap0] w fun e w' => e = .returned (.bool true) ∧ Below w.heap.size w w' := by
  obtain ⟨i0, hi0, hz0, hz1, hz2⟩ := info_parts info_int
  obtain ⟨hlc, hcm, hzl, hrow, hzm⟩ := h0
  have C1 := Lib.hid (fun W (hb : Below w.heap.size w W) => ref_Good07 a0 len0 cap0 20 z0 W (Row.later hrow hb) hzl hzm (by omega) (by omega))
  have hgood := good_goodN z0 20
  obtain ⟨g, hg⟩ : ∃ g, g = goodN z0 20 := ⟨_, rfl⟩
  rw [← hg] at C1 hgood
  obtain ⟨hgd, hgl⟩ := hgood
  have HGD := Lib.hid hgd
  have HGR := Lib.hid (risesN_iff.2 hgd.rise)
  obtain ⟨n, hn⟩ : ∃ n, n = g.length := ⟨_, rfl⟩
  have HN := Lib.hid hn
  have hn20 : n ≤ 20 := by omega
  clear hrow hzm hg hgd hgl hn hzl hlc hcm
  go_enter Try.func7, Try.ntmps7
  go_wp2_with (go_at_call 12; refine (C1.out _ (Below.refl _ _)).mono ?_)
  rintro e w1 ⟨v1, rfl, ho1, hb1⟩
  obtain ⟨A1, c1, rfl, hnc1, hcm1, hr1⟩ := ho1.room
  rw [← HN.out]
  have HB1 := Lib.hid hb1
  have HR1 := Lib.hid hr1
  clear ho1 hb1 hr1 hnc1 hcm1
  go_wp2_with (go_at_call 12; refine (C1.out _ HB1.out).mono ?_)
  rintro e w2 ⟨v2, rfl, ho2, hb2⟩
  obtain ⟨A2, c2, rfl, hnc2, hcm2, hr2⟩ := ho2.room
  rw [← HN.out] at ho2 hnc2
  rw [← HN.out]
  obtain ⟨w3, hrun, hown3, hgrow3⟩ := run_make_full (P := Try.prog) w2 w2.heap.size 29 3 i0 _ 1 Try.underlying29 hi0 hz0 hz1 .i64 .i64 n (by rw [hz2]; omega) (by unfold maxLen; omega) (Nat.le_refl _)
  have hrep : (madeCells #[Value.int .i64 0] n).toList = ints (fillT n 0) := by rw [toList_madeCells_one, ints, fillT_zero, List.map_replicate]
  rw [Nat.mul_one] at hown3
  have hown3 : w3.ownsRow w2.heap.size 3 1 (.slice (some ⟨w2.heap.size, 0, none⟩) n n) n (ints (fillT n 0)) := by rw [← hrep]; exact hown3
  have hb3 : Below w2.heap.size w2 w3 := (Below.refl _ _).grown hgrow3 (Nat.le_refl _) (fun k hk => by cases hk)
  have hrow3 : Row w3 w3.heap.size (some ⟨w2.heap.size, 0, none⟩) (ints (fillT n 0)) := owned_row_of hown3
  have C3 := Lib.hid (dict_Make A2 (some ⟨w2.heap.size, 0, none⟩) n c2 n g (fillT n 0) w3 (Row.later hr2 hb3) HN.out.symm (by omega) hrow3 (fillT_length n 0) HGR.out)
  have ho23 := ho2.below hb3
  have hb13 := hb2.trans (hb3.mono hb2.size)
  have HO2 := Lib.hid ho23
  have HO3 := Lib.hid (owned_low hown3 hb2.size)
  have HB13 := Lib.hid hb13
  obtain ⟨T, hT⟩ : ∃ T, T = w2.heap.size := ⟨_, rfl⟩
  rw [← hT] at C3 HO3
  have HT := Lib.hid hT
  clear ho2 hb2 hr2 hown3 hgrow3 hrep hb3 hrow3 ho23 hb13 hT
  go_wp2_with (go_at_call 11; rw [← HT.out]; refine (C3.out).mono ?_)
  rintro e w4 ⟨B, rfl, hd, hb4⟩
  have HREL : Hid (OwnsRel1 n w1 w2 w3 (.slice A2 n c2) T B g (fillT n 0) (.bool false) (.int .i64 ((0 : Nat) : Int)) w4) :=
    Lib.hid ⟨rfl, 0, g, fillT n 0, Nat.zero_le _, rfl, HO2.out.below hb4, HN.out.symm, owned_below HO3.out hb4, hd, HB13.out.trans (hb4.mono HB13.out.size)⟩
  clear hd hb4 hrun C3
  go_wp2
  go_loopw [8] (OwnsRel1 n w1 w2 w3 (.slice A2 n c2) T B g (fillT n 0) (.bool false)) (fun i _ => n - (intOf i).toNat)
  case atStart => exact HREL.out
  case round =>
    obtain ⟨_, k, L, ts, hk, rfl, hoL, hLn, hoT, hd, hbw⟩ := hrel
    have hsz := hbw.size
    by_cases hlt : k < n
    · obtain ⟨gb, hA2⟩ : ∃ gb, A2 = some ⟨gb, 0, none⟩ := by
        rcases hoL.2 with ⟨hv, h5⟩ | ⟨g', cap, cur, hv, _⟩
        · omega
        · injection hv with e
          exact ⟨g', e⟩
      subst hA2
      obtain ⟨⟨x, hcx⟩, hfx, hbx, cs, fr, hblk⟩ := hoL.cell hLn hlt
      obtain ⟨hoL2, hgL⟩ := hoL.set (k := k) hLn [115, 112, 111, 105, 108, 101, 100]
      have hoT2 := owned_set hoT hblk (by decide) k (.string ⟨#[115, 112, 111, 105, 108, 101, 100]⟩)
      have hd2 := hd.setOther (o := k) hblk (by decide) (by decide) (.string ⟨#[115, 112, 111, 105, 108, 101, 100]⟩)
      have hbw2 : Below w1.heap.size w1 (wr.setCell ⟨gb, k, none⟩ (.string ⟨#[115, 112, 111, 105, 108, 101, 100]⟩)) := hbw.setCell hbx _
      obtain ⟨wr2, hwr2⟩ : ∃ wr2, wr2 = wr.setCell ⟨gb, k, none⟩ (.string ⟨#[115, 112, 111, 105, 108, 101, 100]⟩) := ⟨_, rfl⟩
      have hoL2' : OwnNm w1.heap.size wr2 (.slice (some ⟨gb, 0, none⟩) n c2) (L.set k [115, 112, 111, 105, 108, 101, 100]) := by rw [hwr2]; exact hoL2
      rw [← hwr2] at hoT2 hd2 hbw2
      obtain ⟨st1, st2⟩ := hoT2.stored k (.int .i64 5)
      have htl : ts.length = n := by have := hoT.1; rw [ints_length] at this; omega
      have hcT := hoT2.cellAt k (by omega)
      rw [List.getElem?_eq_getElem (by rw [ints_length, htl]; exact hlt)] at hcT
      have hfT := hoT2.frozenAt k
      have hlT := hoT2.lt T rfl
      obtain ⟨cs2, fr2, hblk2⟩ : ∃ cs fr, wr2.heap[T]? = some (.cells cs 3 fr) := by
        rcases hoT2.2 with ⟨hv, _⟩ | ⟨g', cap, cur, hv, _, hh, _⟩
        · cases hv
        · injection hv with e
          injection e with e
          injection e with e
          subst e
          exact ⟨_, _, hh⟩
      have hnext : OwnsRel1 n w1 w2 w3 (.slice (some ⟨gb, 0, none⟩) n c2) T B g (fillT n 0) (.bool false) (.int .i64 ((k : Int) + 1)) (wr2.setCell ⟨T, k, none⟩ (.int .i64 5)) := by
        refine ⟨rfl, k + 1, _, ts.set k 5, by omega, by go_num, owned_set hoL2' hblk2 (by decide) k _, by rw [List.length_set]; exact hLn, ?_, hd2.setOther hblk2 (by decide) (by decide) _, hbw2.setCell hlT.1 _⟩
        have e : (ints ts).set k (.int .i64 5) = ints (ts.set k 5) := by simp [ints, List.map_set]
        rw [← e]
        exact st1
      obtain ⟨q, hq⟩ : ∃ q, (ints ts)[k]'(by rw [ints_length, htl]; exact hlt) = .int .i64 q := ⟨ts[k]'(by rw [htl]; exact hlt), by simp [ints]⟩
      rw [hq] at hcT
      rw [hwr2] at hcT hfT hnext
      have HNEXT := Lib.hid hnext
      have k1 : (0 : Int) ≤ (k : Int) := by omega
      have k2 : (k : Int) < (n : Int) := by omega
      clear hwr2 hoL2 hgL hoT2 hd2 hbw2 hoL2' st1 st2 hq hnext hoL hoT hd hblk hblk2 hlT htl
      go_wp2
      go_roundw
      case rel => exact HNEXT.out
      case measure => simp [intOf]; omega
    · obtain ⟨w5, hw5⟩ : ∃ w5, w5 = wr := ⟨_, rfl⟩
      subst hw5
      have CN := Lib.hid (dict_Names _ B g _ w5 hd (by rw [← HN.out]; omega))
      have HD := Lib.hid hd
      have HBW := Lib.hid hbw
      clear hoL hoT hd hbw hLn
      go_wp2_with (go_at_call 17; refine (CN.out).mono ?_)
      rintro e w6 ⟨v9, rfl, ho9, hb9⟩
      obtain ⟨A9, c9, rfl, hnc9, hcm9, hr9⟩ := ho9.room
      rw [← HN.out] at ho9
      rw [← HN.out]
      have HREL2 : Hid (OwnsRel2 n w5 w6 (.slice A9 n c9) (.bool false) (.int .i64 ((0 : Nat) : Int)) w6) := Lib.hid ⟨rfl, 0, g, Nat.zero_le _, rfl, ho9, HN.out.symm, hb9⟩
      clear ho9 hb9 hr9 hnc9 hcm9 CN
      go_wp2
      go_loopw [10] (OwnsRel2 n w5 w6 (.slice A9 n c9) (.bool false)) (fun i _ => n - (intOf i).toNat)
      case atStart => exact HREL2.out
      case round =>
        obtain ⟨_, k2, L2, hk2, rfl, hoL, hLn, hbw⟩ := hrel
        by_cases hlt2 : k2 < n
        · obtain ⟨gb, hA9⟩ : ∃ gb, A9 = some ⟨gb, 0, none⟩ := by
            rcases hoL.2 with ⟨hv, h5⟩ | ⟨g', cap, cur, hv, _⟩
            · omega
            · injection hv with e
              exact ⟨g', e⟩
          subst hA9
          obtain ⟨⟨x, hcx⟩, hfx, hbx, cs, fr, hblk⟩ := hoL.cell hLn hlt2
          obtain ⟨hoL2, hgL⟩ := hoL.set (k := k2) hLn [115, 112, 111, 105, 108, 101, 100]
          have hnext : OwnsRel2 n w5 w6 (.slice (some ⟨gb, 0, none⟩) n c9) (.bool false) (.int .i64 ((k2 : Int) + 1)) (wr.setCell ⟨gb, k2, none⟩ (.string ⟨#[115, 112, 111, 105, 108, 101, 100]⟩)) :=
            ⟨rfl, k2 + 1, _, by omega, by go_num, hoL2, by rw [List.length_set]; exact hLn, hbw.setCell hbx _⟩
          have HNEXT := Lib.hid hnext
          have k1 : (0 : Int) ≤ (k2 : Int) := by omega
          have k3 : (k2 : Int) < (n : Int) := by omega
          clear hoL2 hgL hnext hoL hbw hblk hLn
          go_wp2
          go_roundw
          case rel => exact HNEXT.out
          case measure => simp [intOf]; omega
        · obtain ⟨w7, hw7⟩ : ∃ w7, w7 = wr := ⟨_, rfl⟩
          subst hw7
          have HD7 := Lib.hid (HD.out.below hbw)
          have HB7 := Lib.hid (HBW.out.trans (hbw.mono HBW.out.size))
          clear hoL hLn hbw
          go_wp2
          go_loopw [2, 11] (OwnsRel3 n w7) (fun _ i _ => n - (intOf i).toNat)
          case atStart => exact ⟨rfl, 0, Nat.zero_le _, rfl, Below.refl _ _⟩
          case round =>
            obtain ⟨rfl, k3, hk3, rfl, hbw⟩ := hrel
            have hb17 := HB7.out.trans (hbw.mono HB7.out.size)
            by_cases hlt3 : k3 < n
            · have hkg : k3 < g.length := by rw [← HN.out]; exact hlt3
              obtain ⟨b8, o8, rfl, hb8, hc8⟩ := row_nm (HR1.out.below hb17) hkg
              obtain ⟨t, ht, ht2⟩ := as_text g[k3]
              rw [← ht] at hc8
              have cf := dict_Find _ B g _ t wr (HD7.out.below hbw) HGD.out.rise (by rw [← HN.out]; omega)
              obtain ⟨e1, e2⟩ := isN_own HGD.out.rise hkg
              rw [ht2, e1, e2, if_pos rfl] at cf
              have e3 : (fillT n 0).getD k3 0 = 0 := by
                rw [List.getD_eq_getElem?_getD, List.getElem?_eq_getElem (by rw [fillT_length]; exact hlt3)]
                simp [fillT]
              rw [e3] at cf
              have CF := Lib.hid cf
              have HBW3 := Lib.hid hbw
              have k1 : (0 : Int) ≤ (k3 : Int) := by omega
              have k4 : (k3 : Int) < (n : Int) := by omega
              clear cf e1 e2 e3 ht ht2 hbw hb17 hkg
              go_wp2_with (go_at_call 21; refine (CF.out).mono ?_; rintro e w9 ⟨rfl, hb9⟩)
              go_roundw
              case rel => exact ⟨rfl, k3 + 1, by omega, by go_num, HBW3.out.trans (hb9.mono HBW3.out.size)⟩
              case measure => simp [intOf]; omega
            · have CN := Lib.hid (dict_Names _ B g _ wr (HD7.out.below hbw) (by rw [← HN.out]; omega))
              have HRG := Lib.hid ((HR1.out.below hb17).more hb17.size)
              have HBF := Lib.hid (HB1.out.trans (hb17.mono HB1.out.size))
              have LV := Lib.hid (fun W => law07_lives W)
              clear hbw hb17
              go_wp2_with (first
                | (go_at_call 17; refine (CN.out).mono ?_; rintro e w8 ⟨v8, rfl, ho8, hb8⟩
                   obtain ⟨A8, c8, rfl, hn8, hm8, hr8⟩ := ho8.room
                   have CS := Lib.hid (ref02_Same A8 A1 n n c8 c1 g w8 HN.out.symm HN.out.symm hr8 (Row.later HRG.out hb8) (by rw [← HN.out]; omega))
                   have HB8 := Lib.hid (HBF.out.trans (hb8.mono HBF.out.size))
                   rw [← HN.out]
                   clear ho8 hb8 hr8 hn8 hm8)
                | (go_at_call 16; refine (CS.out).mono ?_; rintro e w9 ⟨rfl, hb9⟩; have HB9 := Lib.hid (HB8.out.trans (hb9.mono HB8.out.size)); clear hb9)
                | (go_at_call 18; refine (LV.out _).mono ?_; rintro e w10 ⟨rfl, hb10⟩))
              go_ret
              exact ⟨rfl, HB9.out.trans (hb10.mono HB9.out.size)⟩
end Go.Proofs.Ytebdnjfohahpgaa
