/- The document's own Join of lists of documents: And, or Or. -/
import Derived.Test.YtldcadpemnpbmaaRefJ13
import Derived.Deep.CutRange
set_option linter.unusedVariables false
namespace Go.Proofs.Ytldcadpemnpbmaa
open Go Go.RowKit

/-- One behind the greatest document. -/
def topD (l : List Fo) : Nat := match l.getLast? with | none => 0 | some x => x.1 + 1
theorem top_at {l : List Fo} (h : 0 < l.length) : topD l = (l[l.length - 1]'(by omega)).1 + 1 := by
  unfold topD
  rw [List.getLast?_eq_getElem?, List.getElem?_eq_getElem (by omega)]
theorem top_lt {l : List Fo} (hr : RiseF l) : ∀ x ∈ l, x.1 < topD l := fun x hx => by
  unfold topD
  cases h : l.getLast? with
  | none => rw [List.getLast?_eq_none_iff] at h; rw [h] at hx; cases hx
  | some y => exact rise_last hr h hx
def JoinRel (g : Nat → Option Int) (n : Nat) (w : World) (vo vi : Value) (wr : World) : Prop := ∃ k : Nat, k ≤ n ∧ vi = .int .i64 (k : Int) ∧ OwnFo w.heap.size wr vo (tabF k g) ∧ Below w.heap.size w wr
/-- .. another round. -/
theorem JoinRel.keep {g : Nat → Option Int} {n k q : Nat} {w w2 : World} {v : Value} {L : List Fo} (hk : k < n) (hL : tabF (k + 1) g = L) (ho : OwnFo w.heap.size w2 v L) (hb : Below w.heap.size w w2) : JoinRel g n w v (.int .i64 ((k : Int) + 1)) w2 := ⟨k + 1, by omega, rfl, by rw [hL]; exact ho, hb⟩
set_option maxHeartbeats 16000000 in
set_option maxRecDepth 100000 in
theorem ref13_Join (va vb : Value) (a b : List Fo) (or : Bool) (w : World) (ha : InFo w va a) (hb : InFo w vb b) (hra : RiseF a) (hrb : RiseF b) (hfa : FewF a) (hfb : FewF b) (hta : topD a ≤ 1048576) (htb : topD b ≤ 1048576) :
    Calls Try.prog 9 #[va, vb, .bool or] w (GaveFo (keptF (if or = true then orB else andB) a b) w) := by
  obtain ⟨i0, hi0, hz0, hz1, hz2⟩ := info_parts info_found
  rw [join_is or hra hrb (most := max (topD a) (topD b)) (fun x hx => by have := top_lt hra x hx; omega) (fun x hx => by have := top_lt hrb x hx; omega)]
  unfold joinD
  obtain ⟨g, hg⟩ : ∃ g : Nat → Option Int, g = fun d => bothF (if or = true then orB else andB) (scF a d) (scF b d) := ⟨_, rfl⟩
  rw [← hg]
  obtain ⟨A, c, rfl, hac, hcm, hrowa⟩ := ha
  obtain ⟨A2, c2, rfl, hbc, hcm2, hrowb⟩ := hb
  obtain ⟨ta, hta'⟩ : ∃ t, t = topD a := ⟨_, rfl⟩
  obtain ⟨tb, htb'⟩ : ∃ t, t = topD b := ⟨_, rfl⟩
  rw [← hta'] at hta
  rw [← htb'] at htb
  rw [← hta', ← htb']
  obtain ⟨n, hn⟩ : ∃ n, n = a.length := ⟨_, rfl⟩
  obtain ⟨m, hm⟩ : ∃ m, m = b.length := ⟨_, rfl⟩
  rw [← hn, ← hm]
  have HATA : Hid (∀ d w2, Below w.heap.size w w2 → Calls Try.prog 20 #[.slice A n c, .int .i64 ((d : Nat) : Int)] w2 fun e w' => (∃ i, e = .returned (.int .i64 i) ∧ AtF a d i) ∧ Below w2.heap.size w2 w') := Lib.hid fun d w2 hb => ref13_at A n c a d w2 (FoRow.later hrowa hb) hn.symm (by have := hfa.1; omega)
  have HATB : Hid (∀ d w2, Below w.heap.size w w2 → Calls Try.prog 20 #[.slice A2 m c2, .int .i64 ((d : Nat) : Int)] w2 fun e w' => (∃ i, e = .returned (.int .i64 i) ∧ AtF b d i) ∧ Below w2.heap.size w2 w') := Lib.hid fun d w2 hb => ref13_at A2 m c2 b d w2 (FoRow.later hrowb hb) hm.symm (by have := hfb.1; omega)
  have HG := Lib.hid hg
  have HRA := Lib.hid hrowa
  have HRB := Lib.hid hrowb
  have HFA := Lib.hid hfa
  have HFB := Lib.hid hfb
  have HN := Lib.hid hn
  have HM := Lib.hid hm
  have HTA := Lib.hid hta'
  have HTB := Lib.hid htb'
  have HREL : Hid (∀ wr, w = wr → JoinRel g (max ta tb) w (.slice none 0 0) (.int .i64 ((0 : Nat) : Int)) wr) := Lib.hid fun wr e => by subst e; exact ⟨0, Nat.zero_le _, rfl, OwnFo.nil, Below.refl _ _⟩
  have hmx : ∀ (w : World) (ts : Array TypeId) (t : TypeId), (Builtin.max_ ts t #[.int .i64 (ta : Int), .int .i64 (tb : Int)]).run Try.prog w = .ok (.int .i64 ((max ta tb : Nat) : Int)) w := fun w ts t => by rw [run_max_int2]; congr 2; split <;> omega
  clear hg hrowa hrowb hfa hfb hn hm hta' htb' hra hrb hac hbc hcm hcm2
  go_enter Try.func9, Try.ntmps9
  go_upto_if 15 with fail
  go_cut [7] from 13 to 23 (fun s wx => s = .int .i64 (ta : Int) ∧ w = wx)
  case first =>
    rcases Nat.eq_zero_or_pos n with h0 | h0
    · have ht : ta = 0 := by rw [HTA.out, show a = [] from List.eq_nil_of_length_eq_zero (by rw [← HN.out]; exact h0)]; rfl
      subst h0 ht
      go_wp2_with fail
      go_meet
      exact ⟨rfl, rfl⟩
    · obtain ⟨j, rfl⟩ : ∃ j, n = j + 1 := ⟨n - 1, by omega⟩
      have hl : 0 < a.length := by rw [← HN.out]; omega
      have hjl : j < a.length := by rw [← HN.out]; omega
      obtain ⟨b1, o1, rfl, -, p0, -⟩ := HRA.out.at_ hjl
      have hjb : (j : Int) ≤ 1073741824 := by have := HFA.out.1; omega
      have ht := top_at hl
      obtain ⟨x, hx⟩ : ∃ x, x = a[j] := ⟨_, rfl⟩
      have hx2 : a[a.length - 1]'(by omega) = x := by rw [hx]; congr 1; rw [← HN.out]; omega
      rw [hx2, ← HTA.out] at ht
      rw [← hx] at p0
      obtain ⟨y, hy⟩ : ∃ y : Int, y = (x.1 : Int) := ⟨_, rfl⟩
      rw [← hy] at p0
      have hyt : (ta : Int) = y + 1 := by rw [ht, hy]; omega
      have hy0 : 0 ≤ y := by omega
      have hy1 : y ≤ 1048576 := by omega
      have HYT := Lib.hid hyt
      have d0 : decide (((j + 1 : Nat) : Int) > 0) = true := decide_eq_true (by omega)
      clear hl hjl ht hx hx2 hy hyt h0 hmx
      go_wp2_with fail
      go_meet
      exact ⟨by rw [HYT.out], rfl⟩
  case rest =>
    obtain ⟨rfl, rfl⟩ := hcut
    go_upto_if 26 with fail
    go_cut [7] from 24 to 36 (fun s wx => s = .int .i64 ((max ta tb : Nat) : Int) ∧ w = wx)
    case first =>
      rcases Nat.eq_zero_or_pos m with h0 | h0
      · have ht : tb = 0 := by rw [HTB.out, show b = [] from List.eq_nil_of_length_eq_zero (by rw [← HM.out]; exact h0)]; rfl
        have hmm : max ta tb = ta := by omega
        have HMM := Lib.hid hmm
        subst h0
        clear hmm ht
        go_wp2_with fail
        go_meet
        exact ⟨by rw [HMM.out], rfl⟩
      · obtain ⟨j, rfl⟩ : ∃ j, m = j + 1 := ⟨m - 1, by omega⟩
        have hl : 0 < b.length := by rw [← HM.out]; omega
        have hjl : j < b.length := by rw [← HM.out]; omega
        obtain ⟨b1, o1, rfl, -, p0, -⟩ := HRB.out.at_ hjl
        have hjb : (j : Int) ≤ 1073741824 := by have := HFB.out.1; omega
        have ht := top_at hl
        obtain ⟨x, hx⟩ : ∃ x, x = b[j] := ⟨_, rfl⟩
        have hx2 : b[b.length - 1]'(by omega) = x := by rw [hx]; congr 1; rw [← HM.out]; omega
        rw [hx2, ← HTB.out] at ht
        rw [← hx] at p0
        obtain ⟨y, hy⟩ : ∃ y : Int, y = (x.1 : Int) := ⟨_, rfl⟩
        rw [← hy] at p0
        have hyt : (tb : Int) = y + 1 := by rw [ht, hy]; omega
        have hy0 : 0 ≤ y := by omega
        have hy1 : y ≤ 1048576 := by omega
        rw [hyt] at hmx
        have d0 : decide (((j + 1 : Nat) : Int) > 0) = true := decide_eq_true (by omega)
        clear hl hjl ht hx hx2 hy hyt h0
        go_wp2_with fail
        go_meet
        exact ⟨rfl, rfl⟩
    case rest =>
      obtain ⟨rfl, rfl⟩ := hcut
      obtain ⟨M, hM⟩ : ∃ M, M = max ta tb := ⟨_, rfl⟩
      have hM1 : M ≤ 1048576 := by omega
      rw [← hM] at HREL ⊢
      have HMX := Lib.hid hM
      clear hmx hM
      go_wp2
      go_loopw [8, 9] (JoinRel g M w) (fun _ i _ => M - (intOf i).toNat)
      case atStart => exact HREL.out _ rfl
      case round =>
        obtain ⟨k, hk, rfl, hown, hbw⟩ := hrel
        by_cases hlt : k < M
        · have hkn : (k : Int) < (M : Int) := by omega
          have hsz := hbw.size
          have hts := tab_succ k g
          have htl := tab_length g k
          have HA := Lib.hid (HATA.out k wr hbw)
          have HB : Hid (∀ w2, Below wr.heap.size wr w2 → _) := Lib.hid fun w2 h2 => HATB.out k w2 (hbw.trans (h2.mono hsz))
          obtain ⟨L, hL⟩ : ∃ L, L = tabF k g := ⟨_, rfl⟩
          rw [← hL] at hts htl
          unfold OwnFo at hown
          rw [← hL] at hown
          obtain ⟨q, hq⟩ : ∃ q, q = L.length := ⟨_, rfl⟩
          rw [← hq] at hown htl
          have hown0 := hown
          obtain ⟨Av, cv, rfl, -, -⟩ := owned_row hown0
          have HQ := Lib.hid hq
          have HO := Lib.hid hown
          have HTS := Lib.hid hts
          have HBW := Lib.hid hbw
          clear hL hown hown0 hq hts hbw
          go_wp2_with (go_at_call 20; (with_reducible refine HA.out.mono ?_))
          rintro e w2 ⟨⟨i, rfl, hat⟩, hb2⟩
          have HB2 := Lib.hid hb2
          have HBX := Lib.hid (HB.out w2 hb2)
          have HAT := Lib.hid hat
          clear hb2 hat
          go_wp2_with (go_at_call 20; (with_reducible refine HBX.out.mono ?_))
          rintro e w3 ⟨⟨i2, rfl, hat2⟩, hb3⟩
          have hb23 : Below wr.heap.size wr w3 := HB2.out.trans (hb3.mono HB2.out.size)
          have hsz3 := hb23.size
          have hbw3 := HBW.out.trans (hb23.mono hsz)
          have HW3 := Lib.hid hbw3
          have HO3 := Lib.hid (owned_below HO.out hb23)
          clear hb3 hb23
          have hat := HAT.out
          rcases hat with ⟨h1, rfl⟩ | ⟨j, hj, rfl, h1⟩
          · have hat := HAT.out
            rcases hat2 with ⟨h2, rfl⟩ | ⟨j2, hj2, rfl, h2⟩
            · have hat2 := True.intro
              cases or with
              | false =>
                have hgk : g k = none := by rw [HG.out]; simp [h1, h2, bothF, andB]
                have hts2 : tabF (k + 1) g = L := by rw [HTS.out, hgk]; simp
                have hfin : JoinRel g M w (.slice Av q cv) (.int .i64 ((k : Int) + 1)) w3 := by
                  refine ⟨k + 1, by omega, rfl, ?_, HW3.out⟩
                  unfold OwnFo
                  rw [hts2, ← HQ.out]
                  exact HO3.out
                have HF := Lib.hid hfin
                clear hfin hts2 hgk h1 h2 hbw3 hat hat2
                go_wp2
                go_roundw
                case rel => exact HF.out
                case measure => simp [intOf]; omega
              | true =>
                have hgk : g k = none := by rw [HG.out]; simp [h1, h2, bothF, orB]
                have hts2 : tabF (k + 1) g = L := by rw [HTS.out, hgk]; simp
                have hfin : JoinRel g M w (.slice Av q cv) (.int .i64 ((k : Int) + 1)) w3 := by
                  refine ⟨k + 1, by omega, rfl, ?_, HW3.out⟩
                  unfold OwnFo
                  rw [hts2, ← HQ.out]
                  exact HO3.out
                have HF := Lib.hid hfin
                clear hfin hts2 hgk h1 h2 hbw3 hat hat2
                go_wp2
                go_roundw
                case rel => exact HF.out
                case measure => simp [intOf]; omega
            · have hat2 := True.intro
              cases or with
              | false =>
                obtain ⟨b2, o2, rfl, -, -, p2⟩ := (FoRow.later HRB.out hbw3).at_ hj2
                obtain ⟨ys, hys⟩ : ∃ ys, ys = b[j2].2 := ⟨_, rfl⟩
                rw [← hys] at p2 h2
                have hy1 := HFB.out.2 b[j2] (List.getElem_mem hj2)
                rw [← hys] at hy1
                obtain ⟨hy1, hy2⟩ := hy1
                have hj21 : j2 < m := by rw [HM.out]; exact hj2
                have hj20 : (j2 : Int) < (m : Int) := by omega
                have hj2n : decide ((j2 : Int) ≥ 0) = true := decide_eq_true (by omega)
                clear hys
                have hgk : g k = none := by rw [HG.out]; simp [h1, h2, bothF, andB]
                have hts2 : tabF (k + 1) g = L := by rw [HTS.out, hgk]; simp
                have hfin : JoinRel g M w (.slice Av q cv) (.int .i64 ((k : Int) + 1)) w3 := by
                  refine ⟨k + 1, by omega, rfl, ?_, HW3.out⟩
                  unfold OwnFo
                  rw [hts2, ← HQ.out]
                  exact HO3.out
                have HF := Lib.hid hfin
                clear hfin hts2 hgk h1 h2 hj2 hbw3 hat hat2
                go_wp2
                go_roundw
                case rel => exact HF.out
                case measure => simp [intOf]; omega
              | true =>
                obtain ⟨b2, o2, rfl, -, -, p2⟩ := (FoRow.later HRB.out hbw3).at_ hj2
                obtain ⟨ys, hys⟩ : ∃ ys, ys = b[j2].2 := ⟨_, rfl⟩
                rw [← hys] at p2 h2
                have hy1 := HFB.out.2 b[j2] (List.getElem_mem hj2)
                rw [← hys] at hy1
                obtain ⟨hy1, hy2⟩ := hy1
                have hj21 : j2 < m := by rw [HM.out]; exact hj2
                have hj20 : (j2 : Int) < (m : Int) := by omega
                have hj2n : decide ((j2 : Int) ≥ 0) = true := decide_eq_true (by omega)
                clear hys
                have hgk : g k = some ys := by rw [HG.out]; simp [h1, h2, bothF, orB]
                have hts2 : tabF (k + 1) g = L ++ [(k, ys)] := by rw [HTS.out, hgk]
                have HT2 := Lib.hid hts2
                clear hts2 hgk h1 h2 hj2 hbw3 hat hat2
                go_wp2_with (at_builtin; refine wpList_append_own _ rfl (.tmp 83) (.tmp 87) 22 rfl w.heap.size 36 i0 _ 2 16 Try.underlying22 hi0 hz0 hz1 hz2 rfl (by omega) _ q (foC L) rfl (HO3.out.alloc _) ⟨w3.heap.size, 0, none⟩ 1 1 [.int .i64 (k : Int), .int .i64 ys] rfl rfl (news_at w3 [.int .i64 (k : Int), .int .i64 ys] 36) (by intro u hu; simp at hu; rcases hu with rfl | rfl <;> rfl) (by unfold maxLen; omega) (by omega) (by simp; omega) ?_)
                intro v5 w5 hown5 hg5 _
                have hb5 : Below w.heap.size w3 w5 := ((Below.refl _ w3).alloc (by omega) _).grown hg5 (by simp; omega) fun j hj => (HO3.out.lt j hj).1
                have hfin : JoinRel g M w v5 (.int .i64 ((k : Int) + 1)) w5 := by
                  refine ⟨k + 1, by omega, rfl, ?_, HW3.out.trans hb5⟩
                  unfold OwnFo
                  rw [HT2.out, List.length_append, List.length_singleton, ← HQ.out, foC_append]
                  exact hown5
                have HF := Lib.hid hfin
                clear hfin hb5 hg5 hown5
                go_wp2
                go_roundw
                case rel => exact HF.out
                case measure => simp [intOf]; omega
          · have hat := HAT.out
            rcases hat2 with ⟨h2, rfl⟩ | ⟨j2, hj2, rfl, h2⟩
            · have hat2 := True.intro
              cases or with
              | false =>
                obtain ⟨b1, o1, rfl, -, -, p1⟩ := (FoRow.later HRA.out hbw3).at_ hj
                obtain ⟨xs, hxs⟩ : ∃ xs, xs = a[j].2 := ⟨_, rfl⟩
                rw [← hxs] at p1 h1
                have hx1 := HFA.out.2 a[j] (List.getElem_mem hj)
                rw [← hxs] at hx1
                obtain ⟨hx1, hx2⟩ := hx1
                have hj1 : j < n := by rw [HN.out]; exact hj
                have hj0 : (j : Int) < (n : Int) := by omega
                have hjn : decide ((j : Int) ≥ 0) = true := decide_eq_true (by omega)
                clear hxs
                have hgk : g k = none := by rw [HG.out]; simp [h1, h2, bothF, andB]
                have hts2 : tabF (k + 1) g = L := by rw [HTS.out, hgk]; simp
                have hfin : JoinRel g M w (.slice Av q cv) (.int .i64 ((k : Int) + 1)) w3 := by
                  refine ⟨k + 1, by omega, rfl, ?_, HW3.out⟩
                  unfold OwnFo
                  rw [hts2, ← HQ.out]
                  exact HO3.out
                have HF := Lib.hid hfin
                clear hfin hts2 hgk h1 h2 hj hbw3 hat hat2
                go_wp2
                go_roundw
                case rel => exact HF.out
                case measure => simp [intOf]; omega
              | true =>
                obtain ⟨b1, o1, rfl, -, -, p1⟩ := (FoRow.later HRA.out hbw3).at_ hj
                obtain ⟨xs, hxs⟩ : ∃ xs, xs = a[j].2 := ⟨_, rfl⟩
                rw [← hxs] at p1 h1
                have hx1 := HFA.out.2 a[j] (List.getElem_mem hj)
                rw [← hxs] at hx1
                obtain ⟨hx1, hx2⟩ := hx1
                have hj1 : j < n := by rw [HN.out]; exact hj
                have hj0 : (j : Int) < (n : Int) := by omega
                have hjn : decide ((j : Int) ≥ 0) = true := decide_eq_true (by omega)
                clear hxs
                have hgk : g k = some xs := by rw [HG.out]; simp [h1, h2, bothF, orB]
                have hts2 : tabF (k + 1) g = L ++ [(k, xs)] := by rw [HTS.out, hgk]
                have HT2 := Lib.hid hts2
                clear hts2 hgk h1 h2 hj hbw3 hat hat2
                go_wp2_with (at_builtin; refine wpList_append_own _ rfl (.tmp 83) (.tmp 87) 22 rfl w.heap.size 36 i0 _ 2 16 Try.underlying22 hi0 hz0 hz1 hz2 rfl (by omega) _ q (foC L) rfl (HO3.out.alloc _) ⟨w3.heap.size, 0, none⟩ 1 1 [.int .i64 (k : Int), .int .i64 xs] rfl rfl (news_at w3 [.int .i64 (k : Int), .int .i64 xs] 36) (by intro u hu; simp at hu; rcases hu with rfl | rfl <;> rfl) (by unfold maxLen; omega) (by omega) (by simp; omega) ?_)
                intro v5 w5 hown5 hg5 _
                have hb5 : Below w.heap.size w3 w5 := ((Below.refl _ w3).alloc (by omega) _).grown hg5 (by simp; omega) fun j hj => (HO3.out.lt j hj).1
                have hfin : JoinRel g M w v5 (.int .i64 ((k : Int) + 1)) w5 := by
                  refine ⟨k + 1, by omega, rfl, ?_, HW3.out.trans hb5⟩
                  unfold OwnFo
                  rw [HT2.out, List.length_append, List.length_singleton, ← HQ.out, foC_append]
                  exact hown5
                have HF := Lib.hid hfin
                clear hfin hb5 hg5 hown5
                go_wp2
                go_roundw
                case rel => exact HF.out
                case measure => simp [intOf]; omega
            · have hat2 := True.intro
              cases or with
              | false =>
                obtain ⟨b1, o1, rfl, -, -, p1⟩ := (FoRow.later HRA.out hbw3).at_ hj
                obtain ⟨xs, hxs⟩ : ∃ xs, xs = a[j].2 := ⟨_, rfl⟩
                rw [← hxs] at p1 h1
                have hx1 := HFA.out.2 a[j] (List.getElem_mem hj)
                rw [← hxs] at hx1
                obtain ⟨hx1, hx2⟩ := hx1
                have hj1 : j < n := by rw [HN.out]; exact hj
                have hj0 : (j : Int) < (n : Int) := by omega
                have hjn : decide ((j : Int) ≥ 0) = true := decide_eq_true (by omega)
                clear hxs
                obtain ⟨b2, o2, rfl, -, -, p2⟩ := (FoRow.later HRB.out hbw3).at_ hj2
                obtain ⟨ys, hys⟩ : ∃ ys, ys = b[j2].2 := ⟨_, rfl⟩
                rw [← hys] at p2 h2
                have hy1 := HFB.out.2 b[j2] (List.getElem_mem hj2)
                rw [← hys] at hy1
                obtain ⟨hy1, hy2⟩ := hy1
                have hj21 : j2 < m := by rw [HM.out]; exact hj2
                have hj20 : (j2 : Int) < (m : Int) := by omega
                have hj2n : decide ((j2 : Int) ≥ 0) = true := decide_eq_true (by omega)
                clear hys
                have hgk : g k = some (xs + ys) := by rw [HG.out]; simp [h1, h2, bothF, andB]
                have hts2 : tabF (k + 1) g = L ++ [(k, (xs + ys))] := by rw [HTS.out, hgk]
                have HT2 := Lib.hid hts2
                clear hts2 hgk h1 h2 hj hj2 hbw3 hat hat2
                go_wp2_with (at_builtin; refine wpList_append_own _ rfl (.tmp 83) (.tmp 87) 22 rfl w.heap.size 36 i0 _ 2 16 Try.underlying22 hi0 hz0 hz1 hz2 rfl (by omega) _ q (foC L) rfl (HO3.out.alloc _) ⟨w3.heap.size, 0, none⟩ 1 1 [.int .i64 (k : Int), .int .i64 (xs + ys)] rfl rfl (news_at w3 [.int .i64 (k : Int), .int .i64 (xs + ys)] 36) (by intro u hu; simp at hu; rcases hu with rfl | rfl <;> rfl) (by unfold maxLen; omega) (by omega) (by simp; omega) ?_)
                intro v5 w5 hown5 hg5 _
                have hb5 : Below w.heap.size w3 w5 := ((Below.refl _ w3).alloc (by omega) _).grown hg5 (by simp; omega) fun j hj => (HO3.out.lt j hj).1
                have hfin : JoinRel g M w v5 (.int .i64 ((k : Int) + 1)) w5 := by
                  refine ⟨k + 1, by omega, rfl, ?_, HW3.out.trans hb5⟩
                  unfold OwnFo
                  rw [HT2.out, List.length_append, List.length_singleton, ← HQ.out, foC_append]
                  exact hown5
                have HF := Lib.hid hfin
                clear hfin hb5 hg5 hown5
                go_wp2
                go_roundw
                case rel => exact HF.out
                case measure => simp [intOf]; omega
              | true =>
                obtain ⟨b1, o1, rfl, -, -, p1⟩ := (FoRow.later HRA.out hbw3).at_ hj
                obtain ⟨xs, hxs⟩ : ∃ xs, xs = a[j].2 := ⟨_, rfl⟩
                rw [← hxs] at p1 h1
                have hx1 := HFA.out.2 a[j] (List.getElem_mem hj)
                rw [← hxs] at hx1
                obtain ⟨hx1, hx2⟩ := hx1
                have hj1 : j < n := by rw [HN.out]; exact hj
                have hj0 : (j : Int) < (n : Int) := by omega
                have hjn : decide ((j : Int) ≥ 0) = true := decide_eq_true (by omega)
                clear hxs
                obtain ⟨b2, o2, rfl, -, -, p2⟩ := (FoRow.later HRB.out hbw3).at_ hj2
                obtain ⟨ys, hys⟩ : ∃ ys, ys = b[j2].2 := ⟨_, rfl⟩
                rw [← hys] at p2 h2
                have hy1 := HFB.out.2 b[j2] (List.getElem_mem hj2)
                rw [← hys] at hy1
                obtain ⟨hy1, hy2⟩ := hy1
                have hj21 : j2 < m := by rw [HM.out]; exact hj2
                have hj20 : (j2 : Int) < (m : Int) := by omega
                have hj2n : decide ((j2 : Int) ≥ 0) = true := decide_eq_true (by omega)
                clear hys
                have hgk : g k = some (xs + ys) := by rw [HG.out]; simp [h1, h2, bothF, orB]
                have hts2 : tabF (k + 1) g = L ++ [(k, (xs + ys))] := by rw [HTS.out, hgk]
                have HT2 := Lib.hid hts2
                clear hts2 hgk h1 h2 hj hj2 hbw3 hat hat2
                go_wp2_with (at_builtin; refine wpList_append_own _ rfl (.tmp 83) (.tmp 87) 22 rfl w.heap.size 36 i0 _ 2 16 Try.underlying22 hi0 hz0 hz1 hz2 rfl (by omega) _ q (foC L) rfl (HO3.out.alloc _) ⟨w3.heap.size, 0, none⟩ 1 1 [.int .i64 (k : Int), .int .i64 (xs + ys)] rfl rfl (news_at w3 [.int .i64 (k : Int), .int .i64 (xs + ys)] 36) (by intro u hu; simp at hu; rcases hu with rfl | rfl <;> rfl) (by unfold maxLen; omega) (by omega) (by simp; omega) ?_)
                intro v5 w5 hown5 hg5 _
                have hb5 : Below w.heap.size w3 w5 := ((Below.refl _ w3).alloc (by omega) _).grown hg5 (by simp; omega) fun j hj => (HO3.out.lt j hj).1
                have hfin : JoinRel g M w v5 (.int .i64 ((k : Int) + 1)) w5 := by
                  refine ⟨k + 1, by omega, rfl, ?_, HW3.out.trans hb5⟩
                  unfold OwnFo
                  rw [HT2.out, List.length_append, List.length_singleton, ← HQ.out, foC_append]
                  exact hown5
                have HF := Lib.hid hfin
                clear hfin hb5 hg5 hown5
                go_wp2
                go_roundw
                case rel => exact HF.out
                case measure => simp [intOf]; omega
        · obtain rfl : k = M := by omega
          have HO := Lib.hid hown
          clear hown hlt
          go_wp2
          go_ret
          exact ⟨_, rfl, by rw [← HMX.out]; exact HO.out, hbw⟩
end Go.Proofs.Ytldcadpemnpbmaa
