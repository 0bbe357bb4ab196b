/- QueryKids' walk: what fits And fits each of its kids, what fits one of Or's kids fits Or; scores are their sums. -/
import Derived.Test.YtolfkhflbjnakaaGreatDoorNAQ19
import Derived.Test.YtolfkhflbjnakaaGreatDoorNAQ16
import Derived.Test.YtolfkhflbjnakaaGreatDoorNAQ17
import Derived.Test.YtolfkhflbjnakaaGreatDoorNAQ07
import Derived.Deep.RegionHeld3
set_option linter.unusedVariables false
namespace Go.Proofs.YtolfkhflbjnakaaGreatDoor
open Go Go.RowKit

def allF (f : List Fd) (l : List Qy) : Bool := decide (fitL f l = l.length)
def anyF (f : List Fd) (l : List Qy) : Bool := decide (0 < fitL f l)
theorem fitL_append (f : List Fd) : ∀ a b : List Qy, fitL f (a ++ b) = fitL f a + fitL f b
  | [], b => by rw [List.nil_append, fitL]; omega
  | q :: a, b => by rw [List.cons_append, fitL, fitL, fitL_append f a b]; omega
theorem scoreL_append (f : List Fd) : ∀ a b : List Qy, scoreL f (a ++ b) = scoreL f a + scoreL f b
  | [], b => by rw [List.nil_append, scoreL]; omega
  | q :: a, b => by rw [List.cons_append, scoreL, scoreL, scoreL_append f a b]; omega
theorem allF_snoc (f : List Fd) (a : List Qy) (q : Qy) : allF f (a ++ [q]) = (allF f a && fitsQ f q) := by
  have := fitL_le f a
  unfold allF
  rw [fitL_append, fitL, fitL, List.length_append, List.length_singleton]
  cases fitsQ f q
  · rw [if_neg (by decide), Bool.and_false]; exact decide_eq_false (by omega)
  · rw [if_pos rfl, Bool.and_true]
    by_cases h : fitL f a = a.length
    · rw [decide_eq_true h]; exact decide_eq_true (by omega)
    · rw [decide_eq_false h]; exact decide_eq_false (by omega)
theorem anyF_snoc (f : List Fd) (a : List Qy) (q : Qy) : anyF f (a ++ [q]) = (anyF f a || fitsQ f q) := by
  unfold anyF
  rw [fitL_append, fitL, fitL]
  cases fitsQ f q
  · rw [if_neg (by decide), Bool.or_false]; rfl
  · rw [if_pos rfl, Bool.or_true]; exact decide_eq_true (by omega)
theorem kids_two {a : List Qy} {i : Nat} (h : i < a.length) : a.take (i + 1) = a.take i ++ [a[i]] := List.take_succ_eq_append_getElem h

/-- The queries that are made, so far. -/
def OwnKRel (ks : List Qy) (base M : Nat) (w1 : World) (u i : Value) (wr : World) : Prop :=
  ∃ j : Nat, j ≤ M ∧ i = .int .i64 (j : Int) ∧ OwnQs base wr u ((ks.take j).map (goodQ 2)) ∧ Below w1.heap.size w1 wr
/-- What was told of them, so far. -/
def SumKRel (f : List Fd) (os : List Qy) (w1 : World) (a b s i u : Value) (wr : World) : Prop :=
  ∃ j : Nat, j ≤ os.length ∧ i = .int .i64 (j : Int) ∧ a = .bool (allF f (os.take j)) ∧ b = .bool (anyF f (os.take j)) ∧ s = .int .i64 (scoreL f (os.take j) : Int) ∧ Below w1.heap.size w1 wr

set_option maxHeartbeats 8000000 in
set_option maxRecDepth 100000 in
theorem walk_QueryKids (w : World) (hg : Glob w) (ks : List Qy) (K : Option Addr) (kn kc : Nat) (ds : List Value) (hkn : ks.length = kn) (hK : RowP (fun b => b < w.heap.size) w K ds) (hks : QsAt (fun b => b < w.heap.size) w ks ds) (hraw : ∀ q ∈ ks, RawQ 100000000 q)
    (id : Int) (D : Option Addr) (dn dc : Nat) (fs : List Fd) (hd : InFlds w D dn dc fs) :
    Calls Tryz.prog 10 #[.slice K kn kc, docV id D dn dc] w fun e w' => e = .returned (.bool true) ∧ Below w.heap.size w w' := by
  subst hkn
  obtain ⟨hnc, hcm, hln, hrow, hbd⟩ := hd
  obtain ⟨w1, hw1⟩ : ∃ w1, w1 = w.alloc (.cells #[.int .i64 id, .slice D dn dc] 46) := ⟨_, rfl⟩
  have hb1 : Below w.heap.size w w1 := by rw [hw1]; exact (Below.refl _ _).alloc (Nat.le_refl _) _
  have hd1 : w1.heap[w.heap.size]? = some (.cells #[.int .i64 id, .slice D dn dc] 46 (0, 0)) := by rw [hw1]; exact heap_alloc_new _ _
  have HGD : Hid (Calls Tryz.prog 26 #[docV id D dn dc] w1 fun e w' => ∃ v, e = .returned (.agg #[.int .i64 id, v]) ∧ OwnFd w1.heap.size w' v (goodD fs) ∧ Below w1.heap.size w1 w') := Lib.hid (
    ref08_Good id D dn dc fs w1 hln (hrow.later hb1) (by unfold maxLen at hcm; omega) (fun f hf => by have := hbd f hf; unfold maxLen at this; omega))
  have HGQ : Hid (∀ (i : Nat) (hi : i < ks.length) (v : Value) (w1 : World), QIn w1 ks[i] v → Calls Tryz.prog 13 #[v, .int .i64 2] w1 (GaveQ (goodQ 2 ks[i]) w1)) := Lib.hid fun i hi v w1 hv => ref12_Good 2 _ 2 v w1 (by omega) (by omega) (hraw _ (List.getElem_mem hi)) hv
  have HMAY : Hid (∀ q : Qy, mayQ 2 (goodQ 2 q) = 0 ∧ deepQ (goodQ 2 q) ≤ 3) := Lib.hid fun q => good_may 2 (d := 2) (q := q) (by omega) (by omega)
  have HGOOD : Hid (GoodF (goodD fs)) := Lib.hid (goodD_good fs)
  obtain ⟨l, hl⟩ : ∃ l, l = goodD fs := ⟨_, rfl⟩
  rw [← hl] at HGOOD HGD
  have HL : Hid (∀ w2, Below w.heap.size w w2 → Calls Tryz.prog 18 #[] w2 fun e w' => e = .returned (.bool true) ∧ Below w2.heap.size w2 w') := Lib.hid fun w2 hb => law12_lives w2 (hg.below hb hg.size)
  have HK := Lib.hid (kids_at hK hks hb1)
  obtain ⟨d0, d1⟩ := (two_cells12 hd1).1
  have HB1 := Lib.hid hb1
  have HW1 := Lib.hid hw1
  obtain ⟨M, hM, hM3, hMk⟩ : ∃ M, M = min 3 ks.length ∧ M ≤ 3 ∧ M ≤ ks.length := ⟨_, rfl, by omega, by omega⟩
  have HM := Lib.hid hM
  clear hl hrow hbd hg hw1 hb1 hd1 hK hks hraw hM hnc hcm hln
  go_enter Tryz.func10, Tryz.ntmps10
  go_upto_region 1 with fail
  rw [show w.alloc _ = w1 from HW1.out.symm]
  go_upto_region 2 with (go_at_call 26; (with_reducible refine HGD.out.mono ?_); rintro e w3 ⟨v3, rfl, ho3, hb3⟩; obtain ⟨A3, c3, rfl, hc3, hr3⟩ := ho3.row; have HR3 := Lib.hid hr3; have HB3 := Lib.hid hb3; clear ho3 hr3 hb3 d0 d1)
  obtain ⟨w4, hw4⟩ : ∃ w4, w4 = w3.alloc (.cells #[.int .i64 id, .slice A3 l.length c3] 46) := ⟨_, rfl⟩
  rw [show w3.alloc _ = w4 from hw4.symm]
  have hb4 : Below w3.heap.size w3 w4 := by rw [hw4]; exact (Below.refl _ _).alloc (Nat.le_refl _) _
  have DD : Hid (DocIn w4 w3.heap.size id A3 l.length c3 l) := Lib.hid (by rw [hw4]; exact DocIn.made rfl HR3.out)
  have HB4 : Hid (Below w1.heap.size w1 w4) := Lib.hid (HB3.out.trans (hb4.mono HB3.out.size))
  obtain ⟨Bd, hBd⟩ : ∃ Bd, Bd = w3.heap.size := ⟨_, rfl⟩
  rw [← hBd] at DD ⊢
  obtain ⟨dl, hdl⟩ : ∃ dl, dl = l.length := ⟨_, rfl⟩
  rw [← hdl] at DD ⊢
  obtain ⟨j0, hj0, hj1, hj2, hj3⟩ := info_parts info_query
  clear hw4 hb4 hBd hdl HR3 HB3 hc3
  go_wp2_with fail
  go_loopw [6, 7] (fun u i wr => OwnKRel ks w4.heap.size M w4 u i wr) (fun _ i _ => M - (intOf i).toNat)
  case atStart => exact ⟨0, by omega, rfl, OwnQs.nil, Below.refl _ _⟩
  case round =>
    obtain ⟨j, hj, rfl, hown, hbw⟩ := hrel
    have hln : ((ks.take j).map (goodQ 2)).length = j := by rw [List.length_map, List.length_take]; omega
    by_cases hlt : j < M
    · obtain ⟨b, off, k', f', x', A', n', c', K', m', d', e', hbl, hv, q0, q1, q2, q3, q4⟩ := HK.out wr (HB4.out.trans (hbw.mono HB4.out.size)) j (by omega)
      subst e'
      obtain ⟨A5, c5, -, hu, -⟩ := hown.slice
      subst hu
      obtain ⟨cs, hcs, hqs⟩ := hown
      have HC : Hid (Calls Tryz.prog 13 #[qV k' f' x' A' n' c' K' m' d', .int .i64 2] wr (GaveQ (goodQ 2 (ks[j]'(by omega))) wr)) := Lib.hid (HGQ.out j (by omega) _ wr hv)
      have HTK : Hid ((ks.take (j + 1)).map (goodQ 2) = (ks.take j).map (goodQ 2) ++ [goodQ 2 (ks[j]'(by omega))]) := Lib.hid (by rw [List.take_succ_eq_append_getElem (by omega : j < ks.length), List.map_append]; rfl)
      obtain ⟨gq, hgq⟩ : ∃ gq, gq = goodQ 2 (ks[j]'(by omega)) := ⟨_, rfl⟩
      rw [← hgq] at HC HTK
      obtain ⟨os, hos⟩ : ∃ os, os = (ks.take j).map (goodQ 2) := ⟨_, rfl⟩
      rw [← hos] at HTK hln hcs hqs
      rw [← hos, hln]
      have HLN := Lib.hid hln
      have HO : Hid (wr.ownsRow w4.heap.size 27 5 (.slice A5 j c5) j cs) := Lib.hid (by rw [hln] at hcs; exact hcs)
      have HQS : Hid (QsAt (fun b => w4.heap.size ≤ b ∧ b < wr.heap.size ∧ (Value.slice A5 j c5).ownBlock ≠ some b) wr os cs) := Lib.hid (by rw [hln] at hqs; exact hqs)
      have HBW := Lib.hid hbw
      have i0 : (0 : Int) ≤ j := by omega
      have i3 : (j : Int) < ks.length := by omega
      have i4 : (j : Int) < 3 := by omega
      clear hv hbw hgq hos hcs hqs hln
      go_wp2_with (first
        | (go_at_call 13; (with_reducible refine HC.out.mono ?_); rintro e w6 ⟨v6, rfl, hq6, hb6⟩
           obtain ⟨k6, f6, x6, A6, n6, c6, K6, m6, d6, e6, hq7⟩ := hq6
           subst e6
           have HB6 := Lib.hid hb6
           have HQ7 := Lib.hid hq7
           clear hb6 hq7)
        | (at_builtin; refine wpList_append_lies _ rfl (.tmp 28) (.tmp 34) 25 rfl w4.heap.size 27 j0 _ 5 88 Tryz.underlying25 hj0 hj1 hj2 hj3 rfl (by omega) (.slice A5 j c5) j cs rfl ((owned_below HO.out HB6.out).alloc _)
             ⟨w6.heap.size, 0, none⟩ 1 1 (qC k6 f6 x6 A6 n6 c6 K6 m6 d6) rfl rfl (World.news_of_block (cs := #[.int .i64 k6, .string f6, .string x6, .slice A6 n6 c6, .slice K6 m6 d6]) (t := 27) (fr := (0, 0)) (heap_alloc_new w6 _)) HQ7.out.one
             (by omega) (by unfold maxLen; omega) (by omega) (by have := HB6.out.size; have := HBW.out.size; simp; omega) (w6.heap.size + 1) (by simp) ?_
           intro gg cap w8 hown8 hgrow hat8 hlt8
           have ho9 : OwnQs w4.heap.size w8 (.slice (some ⟨gg, 0, none⟩) (j + 1) cap) (os ++ [gq]) := OwnQs.push (g := gg) (by rw [HLN.out]; exact HO.out) HQS.out HB6.out HQ7.out HBW.out.size ((Below.refl _ _).alloc (Nat.le_refl _) _) (by rw [HLN.out]; exact hown8) hgrow rfl (hat8.imp (fun h => h) fun h => by omega)
           have hb8 : Below w4.heap.size w4 w8 := ((HBW.out.trans (HB6.out.mono HBW.out.size)).alloc (by have := HB6.out.size; have := HBW.out.size; omega) _).grown hgrow (by have := HB6.out.size; have := HBW.out.size; simp; omega) (fun k hk => (HO.out.lt k hk).1)
           have HB8 := Lib.hid hb8
           have HO9 := Lib.hid ho9
           clear hb8 ho9 hown8 hgrow hat8 hlt8))
      go_roundw
      case rel => exact ⟨j + 1, by omega, by go_num, by rw [HTK.out]; exact HO9.out, HB8.out⟩
      case measure => simp [intOf]; omega
    · obtain rfl : j = M := by omega
      obtain ⟨os, hos⟩ : ∃ os, os = (ks.take j).map (goodQ 2) := ⟨_, rfl⟩
      rw [← hos] at hown hln
      obtain ⟨A5, c5, ds5, rfl, hc5, hr5, hq5⟩ := hown.slice
      have HMO : Hid (∀ q ∈ os, mayQ 2 q = 0 ∧ deepQ q ≤ 3) := Lib.hid fun q hq => by
        rw [hos] at hq
        obtain ⟨q', -, rfl⟩ := List.mem_map.1 hq
        exact HMAY.out q'
      rw [hln]
      have HLN := Lib.hid hln
      have HBW := Lib.hid hbw
      have h04 : Below w.heap.size w w4 := HB1.out.trans (HB4.out.mono HB1.out.size)
      have HB0 : Hid (Below w.heap.size w wr) := Lib.hid (h04.trans (hbw.mono h04.size))
      have HD1 := Lib.hid (DD.out.later hbw)
      have hlast : (j = ks.length ∧ j ≤ 3) ∨ (j = 3 ∧ j < ks.length) := by have := HM.out; omega
      by_cases j0' : j = 0
      · subst j0'
        have hk0 : ks.length = 0 := by have := HM.out; omega
        have e0 : ¬ (0 : Int) < (ks.length : Int) := by omega
        clear hown hln hbw hr5 hq5 hos hlast h04
        go_wp2_with (go_at_call 18; (with_reducible refine (HL.out _ HB0.out).mono ?_); rintro e w7 ⟨rfl, hb7⟩; have HB7 := Lib.hid (HB0.out.trans (hb7.mono HB0.out.size)); clear hb7)
        go_ret
        exact ⟨rfl, HB7.out⟩
      have hj1 : 0 < os.length := by omega
      have hj8 : os.length ≤ 8 := by omega
      have mw : mayQ 1 (andQ os) = 0 := and_may (by omega) hj1 hj8 fun q hq => (HMO.out q hq).1
      have mo : mayQ 1 (orQ os) = 0 := or_may (by omega) hj1 hj8 fun q hq => (HMO.out q hq).1
      have hr6 : RowP (fun b => b < wr.heap.size) wr A5 ds5 := hr5.imp fun b hb => hb.2
      have hq6 : QsAt (fun b => b < wr.heap.size) wr os ds5 := hq5.imp fun b hb => hb.2
      have qw : QIn wr (andQ os) (qV 2 ⟨#[]⟩ ⟨#[]⟩ none 0 0 A5 j c5) := QV.mk rfl hln rfl rfl (Nat.le_refl _) hc5 (.inl rfl) hr6 hq6
      have qo : QIn wr (orQ os) (qV 3 ⟨#[]⟩ ⟨#[]⟩ none 0 0 A5 j c5) := QV.mk rfl hln rfl rfl (Nat.le_refl _) hc5 (.inl rfl) hr6 hq6
      obtain ⟨w6, hw6⟩ : ∃ w6, w6 = boxQ wr 2 ⟨#[]⟩ ⟨#[]⟩ none 0 0 A5 j c5 := ⟨_, rfl⟩
      obtain ⟨w7, hw7⟩ : ∃ w7, w7 = boxQ w6 3 ⟨#[]⟩ ⟨#[]⟩ none 0 0 A5 j c5 := ⟨_, rfl⟩
      have hb6 : Below wr.heap.size wr w6 := by rw [hw6]; exact boxQ_below
      have hb7 : Below w6.heap.size w6 w7 := by rw [hw7]; exact boxQ_below
      have hs6 : w6.heap.size = wr.heap.size + 1 := by rw [hw6, boxQ_size]
      have hb67 : Below wr.heap.size wr w7 := hb6.trans (hb7.mono hb6.size)
      have VW : Hid (VQ w7 wr.heap.size (andQ os) 2 ⟨#[]⟩ ⟨#[]⟩ none 0 0 A5 j c5) := Lib.hid (by
        have := VQ.made qw
        rw [← hw6] at this
        exact this.later hb7)
      have VO : Hid (VQ w7 (wr.heap.size + 1) (orQ os) 3 ⟨#[]⟩ ⟨#[]⟩ none 0 0 A5 j c5) := Lib.hid (by
        have := VQ.made (qo.later hb6)
        rw [← hw7, hs6] at this
        exact this)
      have HKO := Lib.hid (kids_at hr6 hq6 hb67)
      have HD7 := Lib.hid (HD1.out.later hb67)
      have HB7 := Lib.hid (HB0.out.trans (hb67.mono HB0.out.size))
      have HW7 : Hid (w7 = (wr.alloc (.cells #[.int .i64 2, .string ⟨#[]⟩, .string ⟨#[]⟩, .slice none 0 0, .slice A5 j c5] 27)).alloc (.cells #[.int .i64 3, .string ⟨#[]⟩, .string ⟨#[]⟩, .slice none 0 0, .slice A5 j c5] 27)) := Lib.hid (by rw [hw7, hw6]; rfl)
      obtain ⟨AF, hAF⟩ : ∃ AF, AF = allF l os := ⟨_, rfl⟩
      obtain ⟨OF, hOF⟩ : ∃ OF, OF = anyF l os := ⟨_, rfl⟩
      obtain ⟨S, hS⟩ : ∃ S, S = scoreL l os := ⟨_, rfl⟩
      have HFw : Hid (∀ (v : Value) (id : Int) (D : Option Addr) (dn dc : Nat) (w2 : World), QIn w2 (andQ os) v → l.length = dn → FRow w2 w2.heap.size D l → Calls Tryz.prog 27 #[v, docV id D dn dc] w2 fun e w' => e = .returned (.bool AF) ∧ Below w2.heap.size w2 w') := Lib.hid fun v id D dn dc w2 h1 h2 h3 => by
        rw [hAF, allF, ← and_fits]; exact query_Fits HGOOD.out _ v id D dn dc w2 mw h1 h2 h3
      have HFo : Hid (∀ (v : Value) (id : Int) (D : Option Addr) (dn dc : Nat) (w2 : World), QIn w2 (orQ os) v → l.length = dn → FRow w2 w2.heap.size D l → Calls Tryz.prog 27 #[v, docV id D dn dc] w2 fun e w' => e = .returned (.bool OF) ∧ Below w2.heap.size w2 w') := Lib.hid fun v id D dn dc w2 h1 h2 h3 => by
        rw [hOF, anyF, ← or_fits]; exact query_Fits HGOOD.out _ v id D dn dc w2 mo h1 h2 h3
      have HSw : Hid (∀ (v : Value) (id : Int) (D : Option Addr) (dn dc : Nat) (w2 : World), QIn w2 (andQ os) v → l.length = dn → FRow w2 w2.heap.size D l → Calls Tryz.prog 29 #[v, docV id D dn dc] w2 fun e w' => e = .returned (.int .i64 (if AF = true then (S : Int) else 0)) ∧ Below w2.heap.size w2 w') := Lib.hid fun v id D dn dc w2 h1 h2 h3 => by
        have e : ((scoreQ l (andQ os) : Nat) : Int) = if AF = true then (S : Int) else 0 := by
          rw [and_score, hAF, allF, hS]
          by_cases h : fitL l os = os.length
          · rw [if_pos h, if_pos (by simp [h])]
          · rw [if_neg h, if_neg (by simp [h])]; rfl
        rw [← e]; exact query_Score HGOOD.out _ v id D dn dc w2 mw h1 h2 h3
      have HSo : Hid (∀ (v : Value) (id : Int) (D : Option Addr) (dn dc : Nat) (w2 : World), QIn w2 (orQ os) v → l.length = dn → FRow w2 w2.heap.size D l → Calls Tryz.prog 29 #[v, docV id D dn dc] w2 fun e w' => e = .returned (.int .i64 (S : Int)) ∧ Below w2.heap.size w2 w') := Lib.hid fun v id D dn dc w2 h1 h2 h3 => by
        rw [hS, ← or_score]; exact query_Score HGOOD.out _ v id D dn dc w2 mo h1 h2 h3
      have HFK : Hid (∀ (i : Nat) (hi : i < os.length) (v : Value) (id : Int) (D : Option Addr) (dn dc : Nat) (w2 : World), QIn w2 os[i] v → l.length = dn → FRow w2 w2.heap.size D l → Calls Tryz.prog 27 #[v, docV id D dn dc] w2 fun e w' => e = .returned (.bool (fitsQ l os[i])) ∧ Below w2.heap.size w2 w') := Lib.hid fun i hi v id D dn dc w2 h1 h2 h3 =>
        query_Fits HGOOD.out _ v id D dn dc w2 (may_shift (HMO.out _ (List.getElem_mem hi)).1 (by have := (HMO.out _ (List.getElem_mem hi)).2; omega)) h1 h2 h3
      have HSK : Hid (∀ (i : Nat) (hi : i < os.length) (v : Value) (id : Int) (D : Option Addr) (dn dc : Nat) (w2 : World), QIn w2 os[i] v → l.length = dn → FRow w2 w2.heap.size D l → Calls Tryz.prog 29 #[v, docV id D dn dc] w2 fun e w' => e = .returned (.int .i64 (scoreQ l os[i] : Int)) ∧ Below w2.heap.size w2 w') := Lib.hid fun i hi v id D dn dc w2 h1 h2 h3 =>
        query_Score HGOOD.out _ v id D dn dc w2 (may_shift (HMO.out _ (List.getElem_mem hi)).1 (by have := (HMO.out _ (List.getElem_mem hi)).2; omega)) h1 h2 h3
      have HMOST : Hid (∀ i, scoreL l (os.take i) ≤ 1000000000) := Lib.hid fun i => by
        have h1 := score_mostL (f := l) (M := 500) HGOOD.out.wordsS (os.take i)
        have h2 : sizeL (os.take i) ≤ (os.take i).length * 600000 := sizeL_le fun q hq => may_size (d := 2) (by omega) (HMO.out q (List.mem_of_mem_take hq)).1
        have h3 : (os.take i).length ≤ 3 := by rw [List.length_take]; omega
        have h4 : (os.take i).length * 600000 ≤ 3 * 600000 := Nat.mul_le_mul_right _ h3
        omega
      have HAF := Lib.hid hAF
      have HOF := Lib.hid hOF
      have HS := Lib.hid hS
      have jp : ¬ (j : Int) = 0 := by omega
      have jb : ((j : Int) == 0) = false := by rw [beq_eq_false_iff_ne]; omega
      obtain ⟨Bw, hBw⟩ : ∃ Bw, Bw = wr.heap.size := ⟨_, rfl⟩
      have HBW' := Lib.hid hBw
      clear hown hln hbw hr5 hq5 hos h04 hr6 hq6 qw qo hw6 hw7 hb6 hb7 hs6 hb67 mw mo hAF hOF hS hBw hj8
      rcases hlast with ⟨l1, l2⟩ | ⟨l1, l2⟩
      · have e3 : ¬ (j : Int) < (ks.length : Int) := by omega
        clear l1 l2
        go_upto_region 11 with fail
        rw [show (wr.alloc _).alloc _ = w7 from HW7.out.symm, ← HBW'.out]
        have hle7 : Bw ≤ w7.heap.size := by rw [HBW'.out, HW7.out]; simp; omega
        go_wp2_with fail
        go_loopw [10, 11, 12, 13, 14] (fun a b s i u wx => SumKRel l os w7 a b s i u wx) (fun _ _ _ i _ _ => os.length - (intOf i).toNat)
        case atStart => exact ⟨0, by omega, rfl, rfl, rfl, rfl, Below.refl _ _⟩
        case round =>
          obtain ⟨i, hi, rfl, rfl, rfl, rfl, hbx⟩ := hrel
          rw [HLN.out] at hi
          have HBX := Lib.hid hbx
          by_cases hlt2 : i < j
          · have hio : i < os.length := by rw [HLN.out]; exact hlt2
            obtain ⟨b, off, k', f', x', A', n', c', K', m', d', e', hbl, hv, q0, q1, q2, q3, q4⟩ := HKO.out wr hbx i hio
            rw [← HBW'.out] at hbl
            subst e'
            obtain ⟨F1, hF1⟩ : ∃ F1, F1 = fitsQ l os[i] := ⟨_, rfl⟩
            obtain ⟨S1, hS1⟩ : ∃ S1, S1 = scoreQ l os[i] := ⟨_, rfl⟩
            have HALL : Hid (allF l (os.take (i + 1)) = (allF l (os.take i) && F1)) := Lib.hid (by rw [kids_two hio, allF_snoc, hF1])
            have HANY : Hid (anyF l (os.take (i + 1)) = (anyF l (os.take i) || F1)) := Lib.hid (by rw [kids_two hio, anyF_snoc, hF1])
            have HSUM : Hid (scoreL l (os.take (i + 1)) = scoreL l (os.take i) + S1) := Lib.hid (by rw [kids_two hio, scoreL_append, scoreL, scoreL, hS1]; rfl)
            have hm2 := HMOST.out (i + 1)
            rw [HSUM.out] at hm2
            have hd1 := HD7.out.later hbx
            have KC : Hid (∀ w', Below wr.heap.size wr w' → (w'.cell? ⟨b, off + i * 5, none⟩ = some (.int .i64 k') ∧ w'.cell? ⟨b, off + i * 5 + 1, none⟩ = some (.string f') ∧ w'.cell? ⟨b, off + i * 5 + 2, none⟩ = some (.string x') ∧ w'.cell? ⟨b, off + i * 5 + 3, none⟩ = some (.slice A' n' c') ∧ w'.cell? ⟨b, off + i * 5 + 4, none⟩ = some (.slice K' m' d')) ∧ DocIn w' Bd id A3 dl c3 l ∧ QIn w' os[i] (qV k' f' x' A' n' c' K' m' d')) := Lib.hid fun w' h => by
              have e := h.block b (Nat.lt_of_lt_of_le hbl (Nat.le_trans hle7 hbx.size))
              refine ⟨?_, hd1.later h, hv.later h⟩
              simp only [World.cell?, e]
              exact ⟨q0, q1, q2, q3, q4⟩
            have HF1 : Hid (∀ w', Below wr.heap.size wr w' → Calls Tryz.prog 27 #[qV k' f' x' A' n' c' K' m' d', docV id A3 dl c3] w' fun e w'' => e = .returned (.bool F1) ∧ Below w'.heap.size w' w'') := Lib.hid fun w' h => by
              obtain ⟨-, hd, hv⟩ := KC.out w' h
              rw [hF1]
              exact HFK.out i hio _ id A3 dl c3 w' hv hd.len hd.row
            have HS1 : Hid (∀ w', Below wr.heap.size wr w' → Calls Tryz.prog 29 #[qV k' f' x' A' n' c' K' m' d', docV id A3 dl c3] w' fun e w'' => e = .returned (.int .i64 (S1 : Int)) ∧ Below w'.heap.size w' w'') := Lib.hid fun w' h => by
              obtain ⟨-, hd, hv⟩ := KC.out w' h
              rw [hS1]
              exact HSK.out i hio _ id A3 dl c3 w' hv hd.len hd.row
            obtain ⟨av, hav⟩ : ∃ av, av = allF l (os.take i) := ⟨_, rfl⟩
            obtain ⟨bv, hbv⟩ : ∃ bv, bv = anyF l (os.take i) := ⟨_, rfl⟩
            obtain ⟨T, hT⟩ : ∃ T, T = scoreL l (os.take i) := ⟨_, rfl⟩
            rw [← hav] at HALL ⊢
            rw [← hbv] at HANY ⊢
            rw [← hT] at HSUM hm2 ⊢
            obtain ⟨d0, d1⟩ := hd1.cells
            have HDR : Hid (Below wr.heap.size wr wr.drew) := Lib.hid (Below.refl _ wr).drew
            have i0 : (0 : Int) ≤ i := by omega
            have i3 : (i : Int) < j := by omega
            clear hF1 hS1 hav hbv hT hv hbx hd1 hbl
            obtain ⟨av', hav'⟩ : ∃ av', av' = (av && F1) := ⟨_, rfl⟩
            obtain ⟨bv', hbv'⟩ : ∃ bv', bv' = (bv || F1) := ⟨_, rfl⟩
            rw [← hav'] at HALL
            rw [← hbv'] at HANY
            have HAV := Lib.hid hav'
            have HBV := Lib.hid hbv'
            clear hav' hbv'
            go_wp2_with fail
            go_region_with (go_at_call 27; (with_reducible refine (HF1.out _ HDR.out).mono ?_); rintro e w8 ⟨rfl, hb8⟩; have HB8 : Hid (Below wr.heap.size wr w8) := Lib.hid (HDR.out.trans hb8); clear hb8)
            all_goals
              go_simp
              go_upto_region 18 with fail
              go_cut [10] from 56 to 59 (fun sa wx => sa = .bool av' ∧ w8 = wx)
              case first =>
                have hav' := HAV.out
                subst hav'
                cases av <;> cases F1
                all_goals
                  go_wp2_with fail
                  go_meet
                  exact ⟨rfl, rfl⟩
              case rest =>
                obtain ⟨rfl, rfl⟩ := hcut
                go_upto_region 19 with fail
                go_cut [11] from 60 to 63 (fun sb wx => sb = .bool bv' ∧ w8 = wx)
                case first =>
                  have hbv' := HBV.out
                  subst hbv'
                  cases bv <;> cases F1
                  all_goals
                    go_wp2_with fail
                    go_meet
                    exact ⟨rfl, rfl⟩
                case rest =>
                 obtain ⟨rfl, rfl⟩ := hcut
                 obtain ⟨⟨q0, q1, q2, q3, q4⟩, hd8, -⟩ := KC.out w8 HB8.out
                 obtain ⟨d0, d1⟩ := hd8.cells
                 have HDS : Hid (Below wr.heap.size wr w8.drew) := Lib.hid (HB8.out.trans ((Below.refl _ w8).drew.mono HB8.out.size))
                 clear hd8
                 go_wp2_with fail
                 go_region_with (go_at_call 29; (with_reducible refine (HS1.out _ HDS.out).mono ?_); rintro e w9 ⟨rfl, hb9⟩; have HB9 : Hid (Below w7.heap.size w7 w9) := Lib.hid (HBX.out.trans ((HDS.out.trans (hb9.mono HDS.out.size)).mono HBX.out.size)); clear hb9)
                 all_goals
                   go_wp2_with fail
                   go_roundw
                   case rel => exact ⟨i + 1, by omega, by go_num, congrArg Value.bool HALL.out.symm, congrArg Value.bool HANY.out.symm, by rw [HSUM.out]; go_num, HB9.out⟩
                   case measure => simp [intOf]; omega
          · obtain rfl : i = j := by omega
            have htk : os.take i = os := List.take_of_length_le (by rw [HLN.out]; exact Nat.le_refl _)
            rw [htk, ← HAF.out, ← HOF.out, ← HS.out]
            have HV : Hid (∀ w', Below w7.heap.size w7 w' → VQ w' Bw (andQ os) 2 ⟨#[]⟩ ⟨#[]⟩ none 0 0 A5 i c5 ∧ VQ w' (Bw + 1) (orQ os) 3 ⟨#[]⟩ ⟨#[]⟩ none 0 0 A5 i c5 ∧ DocIn w' Bd id A3 dl c3 l ∧ Below w.heap.size w w') := Lib.hid fun w' h => by
              rw [HBW'.out]
              exact ⟨VW.out.later h, VO.out.later h, HD7.out.later h, HB7.out.trans (h.mono HB7.out.size)⟩
            have HX := Lib.hid (HV.out _ HBX.out)
            obtain ⟨a0, a1, a2, a3, a4⟩ := HX.out.1.cells
            obtain ⟨o0, o1, o2, o3, o4⟩ := HX.out.2.1.cells
            obtain ⟨d0, d1⟩ := HX.out.2.2.1.cells
            clear hbx htk HAF HOF HS HMOST HFK HSK
            cases AF
            all_goals
              cases OF
              all_goals
                simp only [Bool.false_eq_true, if_false, if_true] at HSw
                go_wp2_with (first
                  | (go_at_call 27; (with_reducible refine (HFw.out _ _ _ _ _ _ HX.out.1.in_ HX.out.2.2.1.len HX.out.2.2.1.row).mono ?_); rintro e wn ⟨rfl, hbn⟩; have HBX := Lib.hid (HBX.out.trans (hbn.mono HBX.out.size)); have HX := Lib.hid (HV.out _ HBX.out); clear hbn a0 a1 a2 a3 a4 o0 o1 o2 o3 o4 d0 d1; obtain ⟨a0, a1, a2, a3, a4⟩ := HX.out.1.cells; obtain ⟨o0, o1, o2, o3, o4⟩ := HX.out.2.1.cells; obtain ⟨d0, d1⟩ := HX.out.2.2.1.cells)
                  | (go_at_call 27; (with_reducible refine (HFo.out _ _ _ _ _ _ HX.out.2.1.in_ HX.out.2.2.1.len HX.out.2.2.1.row).mono ?_); rintro e wn ⟨rfl, hbn⟩; have HBX := Lib.hid (HBX.out.trans (hbn.mono HBX.out.size)); have HX := Lib.hid (HV.out _ HBX.out); clear hbn a0 a1 a2 a3 a4 o0 o1 o2 o3 o4 d0 d1; obtain ⟨a0, a1, a2, a3, a4⟩ := HX.out.1.cells; obtain ⟨o0, o1, o2, o3, o4⟩ := HX.out.2.1.cells; obtain ⟨d0, d1⟩ := HX.out.2.2.1.cells)
                  | (go_at_call 29; (with_reducible refine (HSw.out _ _ _ _ _ _ HX.out.1.in_ HX.out.2.2.1.len HX.out.2.2.1.row).mono ?_); rintro e wn ⟨rfl, hbn⟩; have HBX := Lib.hid (HBX.out.trans (hbn.mono HBX.out.size)); have HX := Lib.hid (HV.out _ HBX.out); clear hbn a0 a1 a2 a3 a4 o0 o1 o2 o3 o4 d0 d1; obtain ⟨a0, a1, a2, a3, a4⟩ := HX.out.1.cells; obtain ⟨o0, o1, o2, o3, o4⟩ := HX.out.2.1.cells; obtain ⟨d0, d1⟩ := HX.out.2.2.1.cells)
                  | (go_at_call 29; (with_reducible refine (HSo.out _ _ _ _ _ _ HX.out.2.1.in_ HX.out.2.2.1.len HX.out.2.2.1.row).mono ?_); rintro e wn ⟨rfl, hbn⟩; have HBX := Lib.hid (HBX.out.trans (hbn.mono HBX.out.size)); have HX := Lib.hid (HV.out _ HBX.out); clear hbn a0 a1 a2 a3 a4 o0 o1 o2 o3 o4 d0 d1; obtain ⟨a0, a1, a2, a3, a4⟩ := HX.out.1.cells; obtain ⟨o0, o1, o2, o3, o4⟩ := HX.out.2.1.cells; obtain ⟨d0, d1⟩ := HX.out.2.2.1.cells)
                  | (go_at_call 18; (with_reducible refine (HL.out _ HX.out.2.2.2).mono ?_); rintro e wn ⟨rfl, hbn⟩; have HE := Lib.hid (HX.out.2.2.2.trans (hbn.mono HX.out.2.2.2.size)); clear hbn))
                go_ret
                exact ⟨rfl, HE.out⟩
      · have e3 : (j : Int) < (ks.length : Int) := by omega
        have e4 : ¬ (j : Int) < 3 := by omega
        clear l1 l2
        go_upto_region 11 with fail
        rw [show (wr.alloc _).alloc _ = w7 from HW7.out.symm, ← HBW'.out]
        have hle7 : Bw ≤ w7.heap.size := by rw [HBW'.out, HW7.out]; simp; omega
        go_wp2_with fail
        go_loopw [10, 11, 12, 13, 14] (fun a b s i u wx => SumKRel l os w7 a b s i u wx) (fun _ _ _ i _ _ => os.length - (intOf i).toNat)
        case atStart => exact ⟨0, by omega, rfl, rfl, rfl, rfl, Below.refl _ _⟩
        case round =>
          obtain ⟨i, hi, rfl, rfl, rfl, rfl, hbx⟩ := hrel
          rw [HLN.out] at hi
          have HBX := Lib.hid hbx
          by_cases hlt2 : i < j
          · have hio : i < os.length := by rw [HLN.out]; exact hlt2
            obtain ⟨b, off, k', f', x', A', n', c', K', m', d', e', hbl, hv, q0, q1, q2, q3, q4⟩ := HKO.out wr hbx i hio
            rw [← HBW'.out] at hbl
            subst e'
            obtain ⟨F1, hF1⟩ : ∃ F1, F1 = fitsQ l os[i] := ⟨_, rfl⟩
            obtain ⟨S1, hS1⟩ : ∃ S1, S1 = scoreQ l os[i] := ⟨_, rfl⟩
            have HALL : Hid (allF l (os.take (i + 1)) = (allF l (os.take i) && F1)) := Lib.hid (by rw [kids_two hio, allF_snoc, hF1])
            have HANY : Hid (anyF l (os.take (i + 1)) = (anyF l (os.take i) || F1)) := Lib.hid (by rw [kids_two hio, anyF_snoc, hF1])
            have HSUM : Hid (scoreL l (os.take (i + 1)) = scoreL l (os.take i) + S1) := Lib.hid (by rw [kids_two hio, scoreL_append, scoreL, scoreL, hS1]; rfl)
            have hm2 := HMOST.out (i + 1)
            rw [HSUM.out] at hm2
            have hd1 := HD7.out.later hbx
            have KC : Hid (∀ w', Below wr.heap.size wr w' → (w'.cell? ⟨b, off + i * 5, none⟩ = some (.int .i64 k') ∧ w'.cell? ⟨b, off + i * 5 + 1, none⟩ = some (.string f') ∧ w'.cell? ⟨b, off + i * 5 + 2, none⟩ = some (.string x') ∧ w'.cell? ⟨b, off + i * 5 + 3, none⟩ = some (.slice A' n' c') ∧ w'.cell? ⟨b, off + i * 5 + 4, none⟩ = some (.slice K' m' d')) ∧ DocIn w' Bd id A3 dl c3 l ∧ QIn w' os[i] (qV k' f' x' A' n' c' K' m' d')) := Lib.hid fun w' h => by
              have e := h.block b (Nat.lt_of_lt_of_le hbl (Nat.le_trans hle7 hbx.size))
              refine ⟨?_, hd1.later h, hv.later h⟩
              simp only [World.cell?, e]
              exact ⟨q0, q1, q2, q3, q4⟩
            have HF1 : Hid (∀ w', Below wr.heap.size wr w' → Calls Tryz.prog 27 #[qV k' f' x' A' n' c' K' m' d', docV id A3 dl c3] w' fun e w'' => e = .returned (.bool F1) ∧ Below w'.heap.size w' w'') := Lib.hid fun w' h => by
              obtain ⟨-, hd, hv⟩ := KC.out w' h
              rw [hF1]
              exact HFK.out i hio _ id A3 dl c3 w' hv hd.len hd.row
            have HS1 : Hid (∀ w', Below wr.heap.size wr w' → Calls Tryz.prog 29 #[qV k' f' x' A' n' c' K' m' d', docV id A3 dl c3] w' fun e w'' => e = .returned (.int .i64 (S1 : Int)) ∧ Below w'.heap.size w' w'') := Lib.hid fun w' h => by
              obtain ⟨-, hd, hv⟩ := KC.out w' h
              rw [hS1]
              exact HSK.out i hio _ id A3 dl c3 w' hv hd.len hd.row
            obtain ⟨av, hav⟩ : ∃ av, av = allF l (os.take i) := ⟨_, rfl⟩
            obtain ⟨bv, hbv⟩ : ∃ bv, bv = anyF l (os.take i) := ⟨_, rfl⟩
            obtain ⟨T, hT⟩ : ∃ T, T = scoreL l (os.take i) := ⟨_, rfl⟩
            rw [← hav] at HALL ⊢
            rw [← hbv] at HANY ⊢
            rw [← hT] at HSUM hm2 ⊢
            obtain ⟨d0, d1⟩ := hd1.cells
            have HDR : Hid (Below wr.heap.size wr wr.drew) := Lib.hid (Below.refl _ wr).drew
            have i0 : (0 : Int) ≤ i := by omega
            have i3 : (i : Int) < j := by omega
            clear hF1 hS1 hav hbv hT hv hbx hd1 hbl
            obtain ⟨av', hav'⟩ : ∃ av', av' = (av && F1) := ⟨_, rfl⟩
            obtain ⟨bv', hbv'⟩ : ∃ bv', bv' = (bv || F1) := ⟨_, rfl⟩
            rw [← hav'] at HALL
            rw [← hbv'] at HANY
            have HAV := Lib.hid hav'
            have HBV := Lib.hid hbv'
            clear hav' hbv'
            go_wp2_with fail
            go_region_with (go_at_call 27; (with_reducible refine (HF1.out _ HDR.out).mono ?_); rintro e w8 ⟨rfl, hb8⟩; have HB8 : Hid (Below wr.heap.size wr w8) := Lib.hid (HDR.out.trans hb8); clear hb8)
            all_goals
              go_simp
              go_upto_region 18 with fail
              go_cut [10] from 56 to 59 (fun sa wx => sa = .bool av' ∧ w8 = wx)
              case first =>
                have hav' := HAV.out
                subst hav'
                cases av <;> cases F1
                all_goals
                  go_wp2_with fail
                  go_meet
                  exact ⟨rfl, rfl⟩
              case rest =>
                obtain ⟨rfl, rfl⟩ := hcut
                go_upto_region 19 with fail
                go_cut [11] from 60 to 63 (fun sb wx => sb = .bool bv' ∧ w8 = wx)
                case first =>
                  have hbv' := HBV.out
                  subst hbv'
                  cases bv <;> cases F1
                  all_goals
                    go_wp2_with fail
                    go_meet
                    exact ⟨rfl, rfl⟩
                case rest =>
                 obtain ⟨rfl, rfl⟩ := hcut
                 obtain ⟨⟨q0, q1, q2, q3, q4⟩, hd8, -⟩ := KC.out w8 HB8.out
                 obtain ⟨d0, d1⟩ := hd8.cells
                 have HDS : Hid (Below wr.heap.size wr w8.drew) := Lib.hid (HB8.out.trans ((Below.refl _ w8).drew.mono HB8.out.size))
                 clear hd8
                 go_wp2_with fail
                 go_region_with (go_at_call 29; (with_reducible refine (HS1.out _ HDS.out).mono ?_); rintro e w9 ⟨rfl, hb9⟩; have HB9 : Hid (Below w7.heap.size w7 w9) := Lib.hid (HBX.out.trans ((HDS.out.trans (hb9.mono HDS.out.size)).mono HBX.out.size)); clear hb9)
                 all_goals
                   go_wp2_with fail
                   go_roundw
                   case rel => exact ⟨i + 1, by omega, by go_num, congrArg Value.bool HALL.out.symm, congrArg Value.bool HANY.out.symm, by rw [HSUM.out]; go_num, HB9.out⟩
                   case measure => simp [intOf]; omega
          · obtain rfl : i = j := by omega
            have htk : os.take i = os := List.take_of_length_le (by rw [HLN.out]; exact Nat.le_refl _)
            rw [htk, ← HAF.out, ← HOF.out, ← HS.out]
            have HV : Hid (∀ w', Below w7.heap.size w7 w' → VQ w' Bw (andQ os) 2 ⟨#[]⟩ ⟨#[]⟩ none 0 0 A5 i c5 ∧ VQ w' (Bw + 1) (orQ os) 3 ⟨#[]⟩ ⟨#[]⟩ none 0 0 A5 i c5 ∧ DocIn w' Bd id A3 dl c3 l ∧ Below w.heap.size w w') := Lib.hid fun w' h => by
              rw [HBW'.out]
              exact ⟨VW.out.later h, VO.out.later h, HD7.out.later h, HB7.out.trans (h.mono HB7.out.size)⟩
            have HX := Lib.hid (HV.out _ HBX.out)
            obtain ⟨a0, a1, a2, a3, a4⟩ := HX.out.1.cells
            obtain ⟨o0, o1, o2, o3, o4⟩ := HX.out.2.1.cells
            obtain ⟨d0, d1⟩ := HX.out.2.2.1.cells
            clear hbx htk HAF HOF HS HMOST HFK HSK
            cases AF
            all_goals
              cases OF
              all_goals
                simp only [Bool.false_eq_true, if_false, if_true] at HSw
                go_wp2_with (first
                  | (go_at_call 27; (with_reducible refine (HFw.out _ _ _ _ _ _ HX.out.1.in_ HX.out.2.2.1.len HX.out.2.2.1.row).mono ?_); rintro e wn ⟨rfl, hbn⟩; have HBX := Lib.hid (HBX.out.trans (hbn.mono HBX.out.size)); have HX := Lib.hid (HV.out _ HBX.out); clear hbn a0 a1 a2 a3 a4 o0 o1 o2 o3 o4 d0 d1; obtain ⟨a0, a1, a2, a3, a4⟩ := HX.out.1.cells; obtain ⟨o0, o1, o2, o3, o4⟩ := HX.out.2.1.cells; obtain ⟨d0, d1⟩ := HX.out.2.2.1.cells)
                  | (go_at_call 27; (with_reducible refine (HFo.out _ _ _ _ _ _ HX.out.2.1.in_ HX.out.2.2.1.len HX.out.2.2.1.row).mono ?_); rintro e wn ⟨rfl, hbn⟩; have HBX := Lib.hid (HBX.out.trans (hbn.mono HBX.out.size)); have HX := Lib.hid (HV.out _ HBX.out); clear hbn a0 a1 a2 a3 a4 o0 o1 o2 o3 o4 d0 d1; obtain ⟨a0, a1, a2, a3, a4⟩ := HX.out.1.cells; obtain ⟨o0, o1, o2, o3, o4⟩ := HX.out.2.1.cells; obtain ⟨d0, d1⟩ := HX.out.2.2.1.cells)
                  | (go_at_call 29; (with_reducible refine (HSw.out _ _ _ _ _ _ HX.out.1.in_ HX.out.2.2.1.len HX.out.2.2.1.row).mono ?_); rintro e wn ⟨rfl, hbn⟩; have HBX := Lib.hid (HBX.out.trans (hbn.mono HBX.out.size)); have HX := Lib.hid (HV.out _ HBX.out); clear hbn a0 a1 a2 a3 a4 o0 o1 o2 o3 o4 d0 d1; obtain ⟨a0, a1, a2, a3, a4⟩ := HX.out.1.cells; obtain ⟨o0, o1, o2, o3, o4⟩ := HX.out.2.1.cells; obtain ⟨d0, d1⟩ := HX.out.2.2.1.cells)
                  | (go_at_call 29; (with_reducible refine (HSo.out _ _ _ _ _ _ HX.out.2.1.in_ HX.out.2.2.1.len HX.out.2.2.1.row).mono ?_); rintro e wn ⟨rfl, hbn⟩; have HBX := Lib.hid (HBX.out.trans (hbn.mono HBX.out.size)); have HX := Lib.hid (HV.out _ HBX.out); clear hbn a0 a1 a2 a3 a4 o0 o1 o2 o3 o4 d0 d1; obtain ⟨a0, a1, a2, a3, a4⟩ := HX.out.1.cells; obtain ⟨o0, o1, o2, o3, o4⟩ := HX.out.2.1.cells; obtain ⟨d0, d1⟩ := HX.out.2.2.1.cells)
                  | (go_at_call 18; (with_reducible refine (HL.out _ HX.out.2.2.2).mono ?_); rintro e wn ⟨rfl, hbn⟩; have HE := Lib.hid (HX.out.2.2.2.trans (hbn.mono HX.out.2.2.2.size)); clear hbn))
                go_ret
                exact ⟨rfl, HE.out⟩
end Go.Proofs.YtolfkhflbjnakaaGreatDoor
