/- What the document's Postings of entries answers. -/
import Derived.Test.YtgcdekaceimdnaaGreatQ14
import Derived.Test.YtgcdekaceimdnaaGreatQ07
import Derived.Deep.RegionHeld3
import Derived.Deep.AppendLies
import Derived.Deep.DeepCutAuto
namespace Go.Proofs.YtgcdekaceimdnaaGreat
open Go Go.RowKit
set_option linter.unusedVariables false

theorem key_iff {z key : ByteArray} {t : Tm} (h : z.data.toList = keyT t) : (z.toList == key.toList) = decide (keyT t = key.data.toList) := by
  rw [Lib.toList_data, Lib.toList_data, h, Bool.eq_iff_iff, beq_iff_eq, decide_eq_true_iff]
theorem postIn_length (i : Nat) (d : List Fd) (ts : List Tm) (key : Nm) : (postIn i d ts key).length ≤ ts.length := by
  unfold postIn
  rw [List.length_map]
  exact List.length_filter_le _ _
theorem postsE_length {M : Nat} : ∀ {l : List En} {i : Nat} {key : Nm}, (∀ q ∈ l, (termsD q.2.1).length ≤ M) → (postsE i l key).length ≤ l.length * M
  | [], i, key, _ => by simp [postsE]
  | q :: l, i, key, h => by
    have h1 := postsE_length (l := l) (i := i + 1) (key := key) fun x hx => h x (List.mem_cons_of_mem _ hx)
    have h2 := postIn_length i q.2.1 (termsD q.2.1) key
    have h3 := h q (List.mem_cons_self ..)
    rw [postsE, List.length_append, List.length_cons, Nat.add_mul, Nat.one_mul]
    omega
def PostsRel09 (l : List En) (key : Nm) (w : World) (o i : Value) (wr : World) : Prop := ∃ (k : Nat) (vo : Value), vo = o ∧ k ≤ l.length ∧ i = .int .i64 (k : Int) ∧ OwnPo 54 w.heap.size wr vo (postsE 0 (l.take k) key) ∧ Below w.heap.size w wr
def PostsRel9 (a : List Pn) (i0 : Nat) (d : List Fd) (ts : List Tm) (key : Nm) (b b2 : Nat) (w2 : World) (V : Value) (o i : Value) (wi : World) : Prop := ∃ (j : Nat) (vo : Value), vo = o ∧ j ≤ ts.length ∧ i = .int .i64 (j : Int) ∧ OwnPo 54 b wi vo (a ++ postIn i0 d (ts.take j) key) ∧ OwnTm b2 wi V ts ∧ Below b w2 wi

set_option maxHeartbeats 4000000 in
set_option maxRecDepth 100000 in
theorem ref09_Postings (A : Option Addr) (n c : Nat) (l : List En) (key : ByteArray) (w : World) (hl : l.length = n) (hr : Nest enS w w.heap.size A l) (hg : GoodE l) (hn : n ≤ 100) :
    Calls Tryz.prog 35 #[.slice A n c, .string key] w (GavePo (postsE 0 l key.data.toList) w) := by
  obtain ⟨i0, hi0, hz0, hz1, hz2⟩ := info_parts info_posting
  have HR := Lib.hid hr
  have HG := Lib.hid hg
  have HL := Lib.hid hl
  clear hr hg hl
  go_enter Tryz.func35, Tryz.ntmps35
  go_wp2
  go_loopw [5, 6, 7, 8] (fun o i t j wr => PostsRel09 l key.data.toList w o i wr) (fun _ i _ _ _ => n - (intOf i).toNat)
  case atStart => exact ⟨0, _, rfl, Nat.zero_le _, rfl, OwnPo.nil, Below.refl _ _⟩
  case round =>
    obtain ⟨k, vo, rfl, hk, rfl, hown, hbw⟩ := hrel
    obtain ⟨wo, rfl⟩ : ∃ wo, wo = wr := ⟨_, rfl⟩
    by_cases hlt : k < n
    · have hkl : k < l.length := by rw [HL.out]; exact hlt
      have hnr := Nest.below HR.out hbw
      obtain ⟨b, off, A', c', e1, hb, g1, g2, _, _, _, hfr0⟩ := enS_at hnr hkl
      have hfr : FRow wo w.heap.size A' l[k].2.1 := hfr0
      subst e1
      have hkt := postsE_take (key := key.data.toList) hkl
      have hgk := HG.out _ (List.getElem_mem hkl)
      have HC := Lib.hid (good_terms (id := l[k].1) (c := c') hgk rfl (hfr.more hbw.size))
      have hbnd : (postsE 0 (l.take k) key.data.toList).length ≤ 400000 := by
        have h1 := postsE_length (l := l.take k) (i := 0) (key := key.data.toList) (M := 4000) fun q hq => terms_len9 (HG.out q (List.mem_of_mem_take hq))
        rw [List.length_take] at h1
        have h2 : min k l.length * 4000 ≤ 100 * 4000 := Nat.mul_le_mul_right _ (by omega)
        omega
      obtain ⟨m, hm⟩ : ∃ m, m = l[k].2.1.length := ⟨_, rfl⟩
      obtain ⟨q, hq⟩ : ∃ q, q = l[k].1 := ⟨_, rfl⟩
      obtain ⟨d, hd⟩ : ∃ d, d = l[k].2.1 := ⟨_, rfl⟩
      rw [← hd] at hgk hm hkt HC hfr g2
      have hfits : ∀ t ∈ termsD d, t.1.length ≤ 12 ∧ t.2.length ≤ 4096 := fun t ht => term_fits9 hgk ht
      have htl := terms_len9 hgk
      obtain ⟨ts, hts⟩ : ∃ ts, ts = termsD d := ⟨_, rfl⟩
      obtain ⟨a, ha⟩ : ∃ a, a = postsE 0 (l.take k) key.data.toList := ⟨_, rfl⟩
      rw [← hm, ← hq, ← hts] at HC
      rw [← hm] at g2
      rw [← hq] at g1
      rw [← ha] at hown hbnd
      rw [← ha, ← hts] at hkt
      rw [← hts] at hfits htl
      have HFT := Lib.hid hfits
      have HKT := Lib.hid hkt
      have HOW := Lib.hid hown
      have HGK := Lib.hid hgk
      have HM := Lib.hid hm
      have HFR := Lib.hid hfr
      have HBB := Lib.hid hb
      have p0 : (0 : Int) ≤ k := by omega
      have p1 : (k : Int) < n := by omega
      clear hnr hfr hfr0 hm hts ha hq hkt hfits hown hgk hd hb
      go_wp2_with (go_at_call 50; (with_reducible refine HC.out.mono ?_); rintro e w2 ⟨v2, rfl, ho2, hb2⟩)
      obtain ⟨A2, c2, rfl, _, hr2⟩ := ho2.row
      obtain ⟨N, hN⟩ : ∃ N, N = ts.length := ⟨_, rfl⟩
      rw [← hN] at htl ho2 ⊢
      have HN := Lib.hid hN
      have HB2 := Lib.hid (hbw.trans (hb2.mono hbw.size))
      have HOW2 := Lib.hid (HOW.out.below hb2)
      have HOT := Lib.hid ho2
      have HS2 : Hid (∀ wi, Below w.heap.size w2 wi → wi.cell? ⟨b, off + k * 3, none⟩ = some (.int .i64 q) ∧ wi.cell? ⟨b, off + k * 3 + 1, none⟩ = some (.slice A' m c') ∧ FRow wi w.heap.size A' d) := Lib.hid fun wi h => by
        have h2 := (hb2.mono hbw.size).trans h
        exact ⟨(h2.cell (p := ⟨b, _, none⟩) HBB.out).trans g1, (h2.cell (p := ⟨b, _, none⟩) HBB.out).trans g2, HFR.out.below h2⟩
      have hs2 := HB2.out.size
      clear ho2 hr2 hb2 hN
      go_wp2
      go_loopw [5, 8] (fun o i wi => PostsRel9 a k d ts key.data.toList w.heap.size wo.heap.size w2 (.slice A2 N c2) o i wi) (fun _ i _ => N - (intOf i).toNat)
      case atStart => exact ⟨0, _, rfl, Nat.zero_le _, rfl, by simpa [postIn] using HOW2.out, HOT.out, Below.refl _ _⟩
      case round =>
        obtain ⟨j, vi, rfl, hj, rfl, howi, hoti, hbi⟩ := hrel
        obtain ⟨wi, rfl⟩ : ∃ wi, wi = wr := ⟨_, rfl⟩
        have hsi : w.heap.size ≤ wi.heap.size := Nat.le_trans hs2 hbi.size
        by_cases hjt : j < N
        · have hjl : j < ts.length := by rw [← HN.out]; exact hjt
          obtain ⟨b4, hA2⟩ : ∃ b4, A2 = some ⟨b4, 0, none⟩ := by
            rcases hoti.2 with ⟨hv, h5⟩ | ⟨g', cap, cur, hv, _⟩
            · omega
            · injection hv with e
              exact ⟨g', e⟩
          subst hA2
          obtain ⟨A9, c9, e4, _, hr4⟩ := OwnTm.row hoti
          have hA9 : A9 = some ⟨b4, 0, none⟩ := by injection e4 with e _ _; exact e.symm
          clear e4
          subst hA9
          obtain ⟨_, _, e5, _, hx4, hy4⟩ := hr4.at_ hjl
          cases e5
          rw [Nat.zero_add] at hx4 hy4
          obtain ⟨x, hx, hx2⟩ := as_text ts[j].1
          obtain ⟨y, hy, hy2⟩ := as_text ts[j].2
          rw [← hx] at hx4
          rw [← hy] at hy4
          have hf := HFT.out _ (List.getElem_mem hjl)
          have hkj := postIn_take (i := k) (d := d) (key := key.data.toList) hjl
          have hpl := postIn_length k d (ts.take j) key.data.toList
          rw [List.length_take] at hpl
          have CK := Lib.hid (fun w' => ref_Key x y w' (by rw [hx, size_nm]; omega) (by rw [hy, size_nm]; omega))
          have hkey : (keyB x y).data.toList = keyT ts[j] := by rw [keyB_list, hx2, hy2]; rfl
          have htx : (x.data.toList, y.data.toList) = ts[j] := Prod.ext hx2 hy2
          obtain ⟨z, hz⟩ : ∃ z, z = keyB x y := ⟨_, rfl⟩
          rw [← hz] at CK hkey
          have ht1 := key_iff (key := key) hkey
          obtain ⟨F, hF⟩ : ∃ F, F = postIn k d (ts.take j) key.data.toList := ⟨_, rfl⟩
          rw [← hF] at hkj hpl howi
          obtain ⟨t1, t2, t3⟩ := HS2.out _ hbi
          have HPL : Hid (∀ w', Below wi.heap.size wi w' → Calls Tryz.prog 54 #[docV q A' m c', .agg #[.string x, .string y]] w' (GaveInts (placesD d ts[j]) w')) := Lib.hid fun w' h => by
            have := good_rplaces (id := q) (c := c') HGK.out HM.out.symm ((FRow.later (FRow.more t3 hsi) h)) x y
            rwa [htx] at this
          have HOI := Lib.hid howi
          have HTI := Lib.hid hoti
          have HKJ := Lib.hid hkj
          have HBI := Lib.hid hbi
          have j0 : (0 : Int) ≤ j := by omega
          have j1 : (j : Int) < N := by omega
          have hjn : j ≤ 4000 := by omega
          clear hx hx2 hy hy2 hf hkj hkey hz howi hoti hbi hF htx hr4
          by_cases hk9 : keyT ts[j] = key.data.toList
          · rw [decide_eq_true hk9] at ht1
            have hkj := HKJ.out
            rw [if_pos hk9] at hkj
            have HKJ2 := Lib.hid hkj
            clear hk9 hkj HKJ
            have hpd : (placesD d ts[j]).length ≤ 500 := Nat.le_trans (placesW_length _ _ _) (HGK.out.wordsS _)
            obtain ⟨pl, hpl2⟩ : ∃ pl, pl = placesD d ts[j] := ⟨_, rfl⟩
            rw [← hpl2] at hpd HPL HKJ2
            obtain ⟨cs, hcs1, hcs2⟩ := HOI.out
            have HC1 := Lib.hid hcs1
            have HC2 := Lib.hid hcs2
            obtain ⟨M, hM⟩ : ∃ M, M = (a ++ F).length := ⟨_, rfl⟩
            rw [← hM] at HC1
            have hM4 : M ≤ 404000 := by rw [hM, List.length_append]; omega
            have HMM := Lib.hid hM
            have HS : Hid (∀ w', Below wi.heap.size wi w' → w'.cell? ⟨b, off + k * 3, none⟩ = some (.int .i64 q) ∧ w'.cell? ⟨b, off + k * 3 + 1, none⟩ = some (.slice A' m c') ∧ w'.cell? ⟨b4, j * 2, none⟩ = some (.string x) ∧ w'.cell? ⟨b4, j * 2 + 1, none⟩ = some (.string y)) := Lib.hid fun w' h => by
              have hbl : b < wi.heap.size := Nat.lt_of_lt_of_le HBB.out hsi
              have hbl4 := (HTI.out.lt b4 rfl).2
              exact ⟨(h.cell (p := ⟨b, _, none⟩) hbl).trans t1, (h.cell (p := ⟨b, _, none⟩) hbl).trans t2, (h.cell (p := ⟨b4, _, none⟩) hbl4).trans hx4, (h.cell (p := ⟨b4, _, none⟩) hbl4).trans hy4⟩
            clear hcs1 hcs2 hpl2 hM
            have HAPP : Hid (∀ (w4 : World) (A4 : Option Addr) (c4 : Nat), Below wi.heap.size wi w4 → (∃ b3, w4.ownsRow b3 3 1 (.slice A4 pl.length c4) pl.length (ints pl)) → pl.length ≤ c4 → c4 ≤ maxLen → ∀ (gg cap : Nat) (w5 : World), w5.ownsRow w.heap.size 54 2 (.slice (some ⟨gg, 0, none⟩) (M + 1) cap) (M + 1) (cs ++ [.int .i64 k, .slice A4 pl.length c4]) → (w4.alloc (.cells #[.int .i64 k, .slice A4 pl.length c4] 54)).grownBy w5 vi.ownBlock →
                (w5.cell? ⟨b, off + k * 3, none⟩ = some (.int .i64 q) ∧ w5.cell? ⟨b, off + k * 3 + 1, none⟩ = some (.slice A' m c') ∧ w5.cell? ⟨b4, j * 2, none⟩ = some (.string x) ∧ w5.cell? ⟨b4, j * 2 + 1, none⟩ = some (.string y)) ∧
                OwnPo 54 w.heap.size w5 (.slice (some ⟨gg, 0, none⟩) (M + 1) cap) (a ++ F ++ [((k : Int), pl)]) ∧ OwnTm wo.heap.size w5 (.slice (some ⟨b4, 0, none⟩) N c2) ts ∧ Below w.heap.size w2 w5) := Lib.hid fun w4 A4 c4 hb4 ⟨b3, ho4⟩ hc1 hc2 gg cap w5 hown5 hg5 => by
              have hal : Below wi.heap.size wi (w4.alloc (.cells #[.int .i64 k, .slice A4 pl.length c4] 54)) := hb4.alloc hb4.size _
              have h1 := hal.size
              have hoA := (owned_below HC1.out hb4).alloc (.cells #[.int .i64 k, .slice A4 pl.length c4] 54)
              have htA := owned_below HTI.out hal
              have hb5 : Below w.heap.size (w4.alloc (.cells #[.int .i64 k, .slice A4 pl.length c4] 54)) w5 := (Below.refl _ _).grown hg5 (by omega) fun g hg => (HC1.out.lt g hg).1
              have hk4 : ∀ g, (Value.slice (some ⟨b4, 0, none⟩) N c2).ownBlock = some g → w5.heap[g]? = (w4.alloc (.cells #[.int .i64 k, .slice A4 pl.length c4] 54)).heap[g]? := fun g hg => hg5.block g (htA.lt g hg).2 fun e => owned_apart2 hoA htA (by decide) hg e.symm
              have ht5 : OwnTm wo.heap.size w5 (.slice (some ⟨b4, 0, none⟩) N c2) ts := owned_keep htA hk4
              have hS4 := HS.out _ hal
              have hk40 := hk4 b4 rfl
              have hpush := OwnPo.push (E := 54) (base := w.heap.size) (l := a ++ F) (c := c4) (A := A4) (cs := cs) (d := (k : Int)) (ps := pl) (by decide) (by rw [← HMM.out]; exact hoA) (HC2.out.imp fun _ _ h => h.below hal) hc1 hc2 ((RowS.of_own ho4).below ((Below.refl _ _).alloc (Nat.le_refl _) _)) (by rw [← HMM.out]; exact hown5) hg5
              exact ⟨⟨(hb5.cell (p := ⟨b, _, none⟩) HBB.out).trans hS4.1, (hb5.cell (p := ⟨b, _, none⟩) HBB.out).trans hS4.2.1, (World.cell?_of_block (a := ⟨b4, _, none⟩) hk40).trans hS4.2.2.1, (World.cell?_of_block (a := ⟨b4, _, none⟩) hk40).trans hS4.2.2.2⟩, hpush, ht5, HBI.out.trans ((hal.mono hsi).trans hb5)⟩
            go_upto_region 10 with (first
              | (go_at_call 52; (with_reducible refine (CK.out _).mono ?_); rintro e w3 ⟨rfl, hb3⟩
                 have HB3 := Lib.hid hb3
                 clear hb3))
            go_region_held3 (fun w' => w'.cell? ⟨b, off + k * 3, none⟩ = some (.int .i64 q) ∧ w'.cell? ⟨b, off + k * 3 + 1, none⟩ = some (.slice A' m c') ∧ w'.cell? ⟨b4, j * 2, none⟩ = some (.string x) ∧ w'.cell? ⟨b4, j * 2 + 1, none⟩ = some (.string y))
              (first | exact HS.out _ HB3.out.drew | exact HS.out _ HB4.out | exact HS.out _ (HB4.out.alloc HB4.out.size _) | exact HS5.out)
              (first
                | (go_at_call 54; (with_reducible refine (HPL.out _ HB3.out.drew).mono ?_); rintro e w4 ⟨v4, rfl, ho4, hb4⟩
                   obtain ⟨A4, c4, rfl, hc4, hr4⟩ := owned_roomed ho4
                   have HO4 : Hid (∃ b3, w4.ownsRow b3 3 1 (.slice A4 pl.length c4) pl.length (ints pl)) := Lib.hid ⟨_, ho4⟩
                   have HB4 : Hid (Below wi.heap.size wi w4) := Lib.hid (HB3.out.drew.trans (hb4.mono HB3.out.size))
                   clear hb4 ho4 hr4)
                | (refine step_append_lies _ (by rfl) _ _ _ (by rfl) w.heap.size 54 i0 _ 2 32 Tryz.underlying49 hi0 hz0 hz1 hz2 rfl (by omega) vi M cs (by rfl) ((owned_below HC1.out HB4.out).alloc _)
                    ⟨w4.heap.size, 0, none⟩ 1 1 [.int .i64 k, .slice A4 pl.length c4] (by rfl) (by rfl) (World.news_of_block (cs := #[.int .i64 k, .slice A4 pl.length c4]) (t := 54) (fr := (0, 0)) (heap_alloc_new w4 _)) (by intro u hu; simp at hu; rcases hu with hu | hu <;> (subst hu; rfl))
                    (by omega) (by unfold maxLen; omega) (by omega) (by have := HB4.out.size; simp; omega) (w4.heap.size + 1) (by simp) ?_
                   intro gg cap w5 hown5 hg5 hat hlt5
                   obtain ⟨HS5', HPU', HT5', HB5'⟩ := HAPP.out w4 A4 c4 HB4.out HO4.out hc4.1 hc4.2 gg cap w5 hown5 hg5
                   have HS5 := Lib.hid HS5'
                   have HPU := Lib.hid HPU'
                   have HT5 := Lib.hid HT5'
                   have HB5 := Lib.hid HB5'
                   clear HS5' HPU' HT5' HB5' hown5 hg5 hat))
            all_goals
              go_wp2
              refine ⟨⟨j + 1, _, rfl, hjl, by go_num, ?_, HT5.out, HB5.out⟩, by simp [intOf]; omega⟩
              rw [HKJ2.out, ← List.append_assoc]
              exact HPU.out
          · rw [decide_eq_false hk9] at ht1
            have hkj := HKJ.out
            rw [if_neg hk9] at hkj
            have HKJ2 := Lib.hid hkj
            clear hk9 hkj HKJ
            go_wp2_with (go_at_call 52; (with_reducible refine (CK.out _).mono ?_); rintro e w3 ⟨rfl, hb3⟩)
            refine ⟨⟨j + 1, _, rfl, hjl, by go_num, ?_, ?_, HBI.out.trans (hb3.mono hsi)⟩, by simp [intOf]; omega⟩
            · rw [HKJ2.out]
              exact HOI.out.below hb3
            · exact HTI.out.below hb3
        · have hjt2 : j = ts.length := by have := HN.out; omega
          subst hjt2
          rw [List.take_length, ← HKT.out] at howi
          have HOI := Lib.hid howi
          have HBI := Lib.hid (HB2.out.trans hbi)
          clear howi hoti
          go_wp2
          exact ⟨⟨k + 1, _, rfl, hkl, by go_num, HOI.out, HBI.out⟩, by simp [intOf]; omega⟩
    · have hkn : k = l.length := by have := HL.out; omega
      subst hkn
      rw [List.take_length] at hown
      go_wp2
      go_ret
      exact ⟨_, rfl, hown, hbw⟩
end Go.Proofs.YtgcdekaceimdnaaGreat
