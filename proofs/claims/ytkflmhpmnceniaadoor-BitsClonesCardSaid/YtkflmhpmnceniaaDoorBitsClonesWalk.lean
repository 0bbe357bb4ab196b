/- BitsClones, walked: true for every input. -/
import Derived.Test.YtkflmhpmnceniaaDoorLike03
set_option linter.unusedVariables false
namespace Go.Proofs.YtkflmhpmnceniaaDoor
open Go Go.RowKit
open Plain (Rep WS hasB mayB turnB turnedB ones nextB rankB)

/-- What a list of truths is behind deeds that all put, or all cut. -/
def turnAll (b : Bool) (r : List Bool) (ds : List (Int × Int)) : List Bool := ds.foldl (fun r d => turnB r d.2 b) r
theorem turnAll_length (b : Bool) : ∀ (ds : List (Int × Int)) (r : List Bool), (turnAll b r ds).length = r.length
  | [], r => rfl
  | d :: ds, r => by
    unfold turnAll
    rw [List.foldl_cons]
    have := turnAll_length b ds (turnB r d.2 b)
    unfold turnAll at this
    rw [this, Plain.turnB_length]
theorem turnAll_take (b : Bool) (r : List Bool) {ds : List (Int × Int)} {k : Nat} (hk : k < ds.length) : turnAll b r (ds.take (k + 1)) = turnB (turnAll b r (ds.take k)) (ds[k]'hk).2 b := by
  unfold turnAll
  rw [List.take_succ_eq_append_getElem hk, List.foldl_append]
  rfl
theorem apart_new {w1 w2 : World} {base B C : Nat} {r r' : List Bool} (h : SetIs w1 base B r) (h' : SetIs w2 w1.heap.size C r') (hb : Below w1.heap.size w1 w2) : Apart w2 B C := by
  obtain ⟨ws, hs, _⟩ := h
  obtain ⟨ws', hs', _⟩ := h'
  have hl := hs.lt
  have hc := hs'.1
  refine ⟨by omega, fun g hg e => ?_⟩
  rw [setOwn_eq (hb.block B hl)] at hg
  have h1 := (hs.own g hg).2
  have h2 := (hs'.own g e).1
  omega

def ClonesRel (ds : List (Int × Int)) (r : List Bool) (v : Value) (base B C : Nat) (w0 : World) (i : Value) (wr : World) : Prop :=
  ∃ m : Nat, m ≤ ds.length ∧ m ≤ 60 ∧ i = .int .i64 m ∧ SetIs wr base B (turnAll true r (ds.take m)) ∧ SetIs wr base C (turnAll false r (ds.take m)) ∧ Apart wr B C ∧ wr.ownsRow base 4 1 v r.length (bcells r) ∧ Below base w0 wr
def ClonesRel2 (ds : List (Int × Int)) (r : List Bool) (base : Nat) (w0 : World) (x y i : Value) (wr : World) : Prop :=
  ∃ (m : Nat) (x' y' : Value), x' = x ∧ y' = y ∧ m ≤ ds.length ∧ m ≤ 60 ∧ i = .int .i64 m ∧ wr.ownsRow base 4 1 x (turnAll true r (ds.take m)).length (bcells (turnAll true r (ds.take m))) ∧
    wr.ownsRow base 4 1 y (turnAll false r (ds.take m)).length (bcells (turnAll false r (ds.take m))) ∧ Below w0.heap.size w0 wr

set_option maxHeartbeats 8000000 in
set_option maxRecDepth 100000 in
theorem walk_BitsClones (n : Int) (a : Option Addr) (len cap : Nat) (ds : List (Int × Int)) (a2 : Option Addr) (len2 cap2 : Nat) (ds2 : List (Int × Int)) (w : World) (hn : n < 9223372036854775808) (hn0 : -9223372036854775808 ≤ n) (hd : InDeeds w a len cap ds) (hd2 : InDeeds w a2 len2 cap2 ds2) (hT : Tab w) :
    Calls Tryd.prog 6 #[.int .i64 n, .slice a len cap, .slice a2 len2 cap2] w (GaveTrue w) := by
  have HZ := Lib.hid (law03_size n w hn hn0)
  have HM := Lib.hid (law03_made (sizeI n) a len cap ds w (sizeI_le n) (sizeI_ge n hn0) hd hT)
  have hN : (sizeI n).toNat ≤ 200 := by have := sizeI_le n; omega
  have HT := Lib.hid hT
  have HN1 := Lib.hid hn
  have HN0 := Lib.hid hn0
  obtain ⟨hlc2, hcm2, hdl2, hrow2, hdr2⟩ := hd2
  subst hdl2
  have HR2 := Lib.hid hrow2
  have HD2 := Lib.hid hdr2
  obtain ⟨N, hNe⟩ : ∃ N, N = (sizeI n).toNat := ⟨_, rfl⟩
  rw [← hNe] at HM hN
  obtain ⟨Z, hZe⟩ : ∃ Z, Z = sizeI n := ⟨_, rfl⟩
  rw [← hZe] at HM HZ
  unfold maxLen at hcm2
  clear hNe hZe hd hT hn hn0 hrow2 hdr2
  go_enter Tryd.func6, Tryd.ntmps6
  go_wp2_with (first
    | (go_at_call 10; (with_reducible refine HZ.out.mono ?_); rintro e w' ⟨rfl, rfl⟩)
    | (go_at_call 9; (with_reducible refine HM.out.mono ?_)))
  rintro e w1 ⟨B, v, r, rfl, hrl, hset, hown, hb1⟩
  have hrb : r.length ≤ big := by unfold big; omega
  have HRB := Lib.hid hrb
  have HCL := Lib.hid (set_Clone w.heap.size B r w1 hset hrb)
  have HSET := Lib.hid hset
  have HOWN := Lib.hid hown
  have HB1 := Lib.hid hb1
  have hz1 := hb1.size
  clear hset hown hb1 hrl hrb
  go_wp2_with (go_at_call 25; (with_reducible refine HCL.out.mono ?_))
  rintro e w2 ⟨C, rfl, hcl, hb2⟩
  obtain ⟨base, hbase⟩ : ∃ base, base = w.heap.size := ⟨_, rfl⟩
  have HBA := Lib.hid hbase
  have hrel0 : ClonesRel ds2 r v base B C w (.int .i64 ((0 : Nat) : Int)) w2 :=
    ⟨0, Nat.zero_le _, Nat.zero_le _, rfl, by rw [hbase]; exact HSET.out.below hb2, by rw [hbase]; exact hcl.low hz1, apart_new HSET.out hcl hb2, by rw [hbase]; exact owned_below HOWN.out hb2, by rw [hbase]; exact HB1.out.trans (hb2.mono hz1)⟩
  have HREL0 := Lib.hid hrel0
  clear hrel0 hcl hb2 hbase
  go_wp2
  go_loopw [11] (ClonesRel ds2 r v base B C w) (fun i _ => ds2.length - (intOf i).toNat)
  case atStart => exact HREL0.out
  case round =>
    obtain ⟨m, hm, hm60, rfl, hsb, hsc, hap, hov, hbw⟩ := hrel
    have HSB := Lib.hid hsb
    have HSC := Lib.hid hsc
    have HAP := Lib.hid hap
    have HOV := Lib.hid hov
    have HBW := Lib.hid hbw
    have hzw : base ≤ wr.heap.size := by have := hbw.size; have := HBA.out; omega
    have hbw2 : Below w.heap.size w wr := by have := hbw; rwa [HBA.out] at this
    have HBW2 := Lib.hid hbw2
    clear hsb hsc hap hov hbw
    by_cases hgo : m < ds2.length ∧ m < 60
    · obtain ⟨hlt, h60⟩ := hgo
      obtain ⟨b1, o1, e1, _, hc1, hc2⟩ := row_deed (HR2.out.below hbw2) hlt
      obtain ⟨_, hy0, hy1⟩ := HD2.out _ (List.getElem_mem hlt)
      have ht1 := turnAll_take true r hlt
      have ht2 := turnAll_take false r hlt
      obtain ⟨y, hye⟩ : ∃ y, y = (ds2[m]'hlt).2 := ⟨_, rfl⟩
      rw [← hye] at hc2 hy0 hy1 ht1 ht2
      have HYE := Lib.hid hye
      have hd1 : decide (m < ds2.length) = true := by simpa using hlt
      have hd2 : decide ((m : Int) < 60) = true := by simp; omega
      have hml : (m : Int) < ds2.length := by omega
      have hl1 : (turnAll true r (ds2.take m)).length ≤ big := by rw [turnAll_length]; exact HRB.out
      have hl2 : (turnAll false r (ds2.take m)).length ≤ big := by rw [turnAll_length]; exact HRB.out
      have HP := Lib.hid (set_Put base B _ y wr HSB.out hl1 hy1 hy0 hzw)
      have HC := Lib.hid (fun w3 h => set_Cut base C (turnAll false r (ds2.take m)) y w3 h hl2 hy1 hy0)
      rw [← ht1] at HP
      rw [← ht2] at HC
      obtain ⟨q1, hq1⟩ : ∃ q, q = (mayB (turnAll true r (ds2.take m)).length y && !hasB (turnAll true r (ds2.take m)) y) := ⟨_, rfl⟩
      rw [← hq1] at HP
      have hcell : wr.cell? ⟨b1, o1 + m * 2 + 1, none⟩ = some (.int .i64 y) := hc2
      have HCELL := Lib.hid hcell
      have hb1lt := World.block_lt_of_cell? wr _ hcell
      have HRW := Lib.hid (HR2.out.below hbw2)
      clear ht1 ht2 hye hc1 hy0 hy1 hl1 hl2 hq1 hcell hbw2
      subst e1
      go_wp2_with (go_at_call 26; (with_reducible refine HP.out.mono ?_))
      rintro e w3 ⟨rfl, hs3, ht3⟩
      obtain ⟨hc3, hap3⟩ := HSB.out.stays HSC.out HAP.out ht3
      have hov3 := HSB.out.row ht3 HOV.out (by decide) (by decide)
      have hbb3 := HSB.out.turned_below ht3
      have hw3 : Below w.heap.size w w3 := by have := HBW2.out.trans (hbb3.mono (by rw [HBA.out]; exact Nat.le_refl _)); exact this
      have HS3 := Lib.hid hs3
      have HC3 := Lib.hid hc3
      have HA3 := Lib.hid hap3
      have HO3 := Lib.hid hov3
      have HB3 := Lib.hid hw3
      obtain ⟨b2, o2, e2, _, _, hc23⟩ := row_deed (HR2.out.below hw3) hlt
      have he2 : b2 = b1 ∧ o2 = o1 := by
        injection e2 with e2
        injection e2 with h1 h2
        exact ⟨h1.symm, h2.symm⟩
      obtain ⟨rfl, rfl⟩ := he2
      rw [← HYE.out] at hc23
      clear hs3 hc3 hap3 hov3 hbb3 hw3 ht3 e2
      go_wp2_with (go_at_call 27; (with_reducible refine (HC.out _ HC3.out).mono ?_))
      rintro e w4 ⟨rfl, hs4, ht4⟩
      obtain ⟨hB4, hap4⟩ := HC3.out.stays HS3.out HA3.out.symm ht4
      have hov4 := HC3.out.row ht4 HO3.out (by decide) (by decide)
      have hbb4 := HC3.out.turned_below ht4
      have HF : Hid (ClonesRel ds2 r v base B C w (.int .i64 ((m + 1 : Nat) : Int)) w4) := Lib.hid ⟨m + 1, by omega, by omega, rfl, hB4, hs4, hap4.symm, hov4, (by rw [HBA.out] at hbb4 ⊢; exact HB3.out.trans hbb4)⟩
      clear hs4 ht4 hB4 hap4 hov4 hbb4
      go_wp2
      go_roundw
      case rel => exact HF.out
      case measure => simp [intOf]; omega
    · have HMM := Lib.hid (show m = min ds2.length 60 by omega)
      obtain ⟨wl, rfl⟩ : ∃ wl, wl = wr := ⟨_, rfl⟩
      have HZW := Lib.hid hzw
      have HZL := Lib.hid HBW2.out.size
      have hvs : ∃ A c, v = .slice A r.length c := by obtain ⟨A, c, e, _⟩ := owned_row HOV.out; exact ⟨A, c, e⟩
      obtain ⟨A, c, rfl⟩ := hvs
      have hrel2 : ClonesRel2 ds2 r base wl (.slice A r.length c) (.slice A r.length c) (.int .i64 ((0 : Nat) : Int)) wl := ⟨0, _, _, rfl, rfl, Nat.zero_le _, Nat.zero_le _, rfl, HOV.out, HOV.out, Below.refl _ _⟩
      have HREL2 := Lib.hid hrel2
      have hways : (decide (m < ds2.length) = true ∧ decide ((m : Int) < 60) = false) ∨ decide (m < ds2.length) = false := by
        by_cases hlt : m < ds2.length
        · exact .inl ⟨by simpa using hlt, by simp; omega⟩
        · exact .inr (by simpa using hlt)
      clear hgo hrel2 hbw2 hzw
      rcases hways with ⟨hd1, hd2⟩ | hd1
      all_goals
        go_wp2
        clear hd1
        try clear hd2
        go_loopw [12, 13, 14] (ClonesRel2 ds2 r base wl) (fun _ _ i _ => ds2.length - (intOf i).toNat)
        case atStart => exact HREL2.out
        case round =>
          obtain ⟨k, x', y', rfl, rfl, hk, hk60, rfl, hx, hy, hbi⟩ := hrel
          have HX := Lib.hid hx
          have HY := Lib.hid hy
          have HBI := Lib.hid hbi
          have hbw2 : Below w.heap.size w wr := HBW2.out.trans (hbi.mono HZL.out)
          have HB2 := Lib.hid hbw2
          have HZR : Hid (base ≤ wr.heap.size) := Lib.hid (Nat.le_trans HZW.out hbi.size)
          clear hx hy hbi
          have hways2 : (k < ds2.length ∧ k < 60) ∨ (k = m ∧ decide (k < ds2.length) = true ∧ decide ((k : Int) < 60) = false) ∨ (k = m ∧ decide (k < ds2.length) = false) := by
            have := HMM.out
            by_cases h1 : k < ds2.length
            · by_cases h2 : k < 60
              · exact .inl ⟨h1, h2⟩
              · exact .inr (.inl ⟨by omega, by simpa using h1, by simp; omega⟩)
            · exact .inr (.inr ⟨by omega, by simpa using h1⟩)
          rcases hways2 with ⟨hlt, h60⟩ | ⟨hkm, hd1, hd2⟩ | ⟨hkm, hd1⟩
          · obtain ⟨b1, o1, e1, _, hc1, hc2⟩ := row_deed (HR2.out.below hbw2) hlt
            obtain ⟨_, hy0, hy1⟩ := HD2.out _ (List.getElem_mem hlt)
            have ht1 := turnAll_take true r hlt
            have ht2 := turnAll_take false r hlt
            obtain ⟨z, hze⟩ : ∃ z, z = (ds2[k]'hlt).2 := ⟨_, rfl⟩
            rw [← hze] at hc2 hy0 hy1 ht1 ht2
            have HZE := Lib.hid hze
            have hd1 : decide (k < ds2.length) = true := by simpa using hlt
            have hd2 : decide ((k : Int) < 60) = true := by simp; omega
            have hml : (k : Int) < ds2.length := by omega
            have hl1 : (turnAll true r (ds2.take k)).length ≤ big := by rw [turnAll_length]; exact HRB.out
            have hl2 : (turnAll false r (ds2.take k)).length ≤ big := by rw [turnAll_length]; exact HRB.out
            have HP := Lib.hid (ref03_Turn base x' _ (turnAll true r (ds2.take k)) z true wr rfl HX.out hl1 hy1 hy0 HZR.out)
            have HC := Lib.hid (fun w3 h hz => ref03_Turn base y' _ (turnAll false r (ds2.take k)) z false w3 rfl h hl2 hy1 hy0 hz)
            rw [← ht1] at HP
            rw [← ht2] at HC
            obtain ⟨q1, hq1⟩ : ∃ q, q = turnedB (turnAll true r (ds2.take k)) z true := ⟨_, rfl⟩
            rw [← hq1] at HP
            obtain ⟨q2, hq2⟩ : ∃ q, q = turnedB (turnAll false r (ds2.take k)) z false := ⟨_, rfl⟩
            rw [← hq2] at HC
            have hcell : wr.cell? ⟨b1, o1 + k * 2 + 1, none⟩ = some (.int .i64 z) := hc2
            clear ht1 ht2 hze hc1 hc2 hy0 hy1 hl1 hl2 hq1 hq2
            subst e1
            go_wp2_with (go_at_call 28; (with_reducible refine HP.out.mono ?_))
            rintro e w3 ⟨v3, rfl, hs3, hb3⟩
            have HS3 := Lib.hid hs3
            have hw3 : Below w.heap.size w w3 := HB2.out.trans (hb3.mono HB2.out.size)
            have HB3 := Lib.hid hb3
            have HW3 := Lib.hid hw3
            have HZ3 : Hid (base ≤ w3.heap.size) := Lib.hid (Nat.le_trans HZR.out hb3.size)
            have HC3 := Lib.hid (HC.out w3 (owned_below HY.out hb3) HZ3.out)
            obtain ⟨b2, o2, e2, _, _, hc23⟩ := row_deed (HR2.out.below hw3) hlt
            have he2 : b2 = b1 ∧ o2 = o1 := by
              injection e2 with e2
              injection e2 with h1 h2
              exact ⟨h1.symm, h2.symm⟩
            obtain ⟨rfl, rfl⟩ := he2
            rw [← HZE.out] at hc23
            clear hs3 hb3 hw3 e2 hcell
            go_wp2_with (go_at_call 28; (with_reducible refine HC3.out.mono ?_))
            rintro e w4 ⟨v4, rfl, hs4, hb4⟩
            have HF : Hid (ClonesRel2 ds2 r base wl v3 v4 (.int .i64 ((k + 1 : Nat) : Int)) w4) := Lib.hid ⟨k + 1, _, _, rfl, rfl, by omega, by omega, rfl, owned_below HS3.out hb4, hs4, HBI.out.trans ((HB3.out.mono HBI.out.size).trans (hb4.mono (Nat.le_trans HBI.out.size HB3.out.size)))⟩
            clear hs4 hb4
            go_wp2
            go_roundw
            case rel => exact HF.out
            case measure => simp [intOf]; omega
          all_goals
            subst hkm
            obtain ⟨x1, hx1⟩ : ∃ x1, x1 = turnAll true r (ds2.take k) := ⟨_, rfl⟩
            obtain ⟨x2, hx2⟩ : ∃ x2, x2 = turnAll false r (ds2.take k) := ⟨_, rfl⟩
            have hl1 : x1.length ≤ big := by rw [hx1, turnAll_length]; exact HRB.out
            have hl2 : x2.length ≤ big := by rw [hx2, turnAll_length]; exact HRB.out
            rw [← hx1] at HSB HX
            rw [← hx2] at HSC HY
            have HTR := Lib.hid (HT.out.below HB2.out HT.out.lt)
            have HLB := Lib.hid (law03_like base base B x' x1 wr (HSB.out.below HBI.out) HX.out hl1 HTR.out)
            have HLC := Lib.hid (fun w2 hb => law03_like base base C y' x2 w2 ((HSC.out.below HBI.out).below hb) (owned_below HY.out hb) hl2 (HT.out.below (HB2.out.trans (hb.mono HB2.out.size)) HT.out.lt))
            clear hx1 hx2 hl1 hl2
            go_wp2_with (go_at_call 11; (with_reducible refine HLB.out.mono ?_))
            rintro e w3 ⟨rfl, hb3⟩
            have HB3 := Lib.hid hb3
            have hz3 := hb3.size
            clear hb3
            go_wp2_with (go_at_call 11; (with_reducible refine (HLC.out _ HB3.out).mono ?_))
            rintro e w4 ⟨rfl, hb4⟩
            have hB4 := HB2.out.trans ((HB3.out.trans (hb4.mono hz3)).mono HB2.out.size)
            have HB4 := Lib.hid hB4
            have hz4 := hB4.size
            have HT4 := Lib.hid (HT.out.below hB4 HT.out.lt)
            clear hb4 hB4
            go_wp2_with (go_at_call 12; (with_reducible refine (law03_lives _ HT4.out).mono ?_))
            rintro e w5 ⟨rfl, hb5⟩
            go_wp2
            go_ret
            exact ⟨rfl, HB4.out.trans (hb5.mono hz4)⟩
end Go.Proofs.YtkflmhpmnceniaaDoor
