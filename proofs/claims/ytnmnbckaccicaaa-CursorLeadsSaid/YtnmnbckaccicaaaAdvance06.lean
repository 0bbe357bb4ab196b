/- Where Advance and Next lead. -/
import Derived.Test.YtnmnbckaccicaaaTurn06
import Derived.Test.YtnmnbckaccicaaaPlaces06
import Derived.Test.YtnmnbckaccicaaaCur06
set_option linter.unusedVariables false
namespace Go.Proofs.Ytnmnbckaccicaaa
open Go Go.RowKit

/-- How much of the block that was read last is left. -/
def restLen (C : Nat) (w : World) : Nat := match w.cell? ⟨C, 4, none⟩ with | some (.slice _ n _) => n | _ => 0
theorem Pos.next {g : List Po} {i : Int} {nx : Nat} {bh : Bool} {p : Po} {r : List Po} {doc : Int} (h : Pos g i nx bh (p :: r)) (hlt : p.1 < doc) (hle : doc ≤ lastP g ((nx : Int) - 1)) :
    Pos g (i + 1) nx bh r ∧ r ≠ [] ∧ advC g doc i = advC g doc (i + 1) := by
  have ht := (h.tells).2.2.2 p r rfl
  rcases h with ⟨_, _, _, h⟩ | ⟨_, _, _, h⟩ | ⟨k, j, hj, rfl, rfl, rfl, hr⟩
  · cases h
  · cases h
  · obtain ⟨h1, h2, h3⟩ := block_at hj
    rw [h3] at hr
    injection hr with hp hr
    rw [show ((k + 1 : Nat) : Int) - 1 = (k : Int) by omega, lastP_doc h1] at hle
    have hj2 : j + 1 < (blockP g (k : Int)).length := by
      rcases Nat.lt_or_ge (j + 1) (blockP g (k : Int)).length with h | h
      · exact h
      · have e : 8 * k + (blockP g (k : Int)).length - 1 = 8 * k + j := by omega
        rw [e, ht.2.1] at hle
        omega
    refine ⟨.inr (.inr ⟨k, j + 1, hj2, by omega, rfl, rfl, hr⟩), ?_, ?_⟩
    · intro e
      rw [e] at hr
      have := List.length_drop (i := j + 1) (l := blockP g (k : Int))
      rw [← hr] at this
      simp at this
      omega
    · exact advC_step ⟨by rw [ht.2.1]; exact hlt, by omega⟩
theorem next_adv {g : List Po} (h : mayB' (-1) g = true) {i : Int} (h0 : -1 ≤ i) (h1 : i ≤ (g.length : Int)) : advC g (docC g i + 1) i = nextC g i := by
  unfold nextC
  by_cases hi : i < (g.length : Int)
  · rw [if_pos hi, advC_step ⟨by omega, hi⟩]
    refine advC_stay ?_
    rintro ⟨h2, h3⟩
    obtain ⟨k, hk⟩ := Int.eq_ofNat_of_zero_le (show 0 ≤ i + 1 by omega)
    rw [hk] at h2 h3
    rcases Nat.eq_zero_or_pos k with rfl | hp
    · have := docC_lt h (k := 0) (by omega)
      rw [docC_ahead (i := i) (by omega)] at h2
      omega
    · obtain ⟨j, rfl⟩ : ∃ j, k = j + 1 := ⟨k - 1, by omega⟩
      have hij : i = (j : Int) := by omega
      rw [hij, docC_at (by omega), docC_at (by omega)] at h2
      have := doc_mono h (i := j) (j := j + 1) (by omega) (by omega)
      omega
  · rw [if_neg hi]
    exact advC_stay (by omega)

theorem Turned06.at_ {fu : Prop × Nat} {C : Nat} {g : List Po} {doc i : Int} {w w' : World} (h : Turned06 fu C g doc i w w') (hg : GoodG g) : ∃ i', CAt fu C g i' w' := by
  obtain ⟨i', vb, ve, A, c, nx, bh, rd, rest, h1, h2, h3, h4, h5, h6, _⟩ := h
  exact ⟨i', vb, ve, A, c, nx, bh, rd, rest, h1, h2, h3, h4, h5, h6, hg⟩

set_option maxHeartbeats 4000000 in
set_option maxRecDepth 100000 in
theorem cur_Advance {fu : Prop × Nat} (C : Nat) (g : List Po) (i doc : Int) (w : World) (h : CAt fu C g i w) :
    Calls Try.prog 15 #[.pointer (some ⟨C, 0, none⟩), .int .i64 doc] w fun e w' => e = .returned (.int .i64 (docC g (advC g doc i))) ∧ CAt fu C g (advC g doc i) w' ∧ OnlyAt C w w' := by
  obtain ⟨vb, ve, A, c, nx, bh, rd, rest, hblk, hl, hp, hc, hcx, hpo, hg⟩ := h
  have hnb := hp.bd.2.2
  have hb1000 : blocksP g.length ≤ 1000 := by have := hg.len; unfold blocksP; omega
  have hsub : IntKind.i64.wrap ((nx : Int) - 1) = (nx : Int) - 1 := IntWalk.i64_in _ (by omega)
  obtain ⟨⟨_, _, _, _, _, c5, _⟩, _⟩ := cell_eight hblk
  have HLA : Hid (∀ n, Calls Try.prog 33 #[.pointer (some ⟨C, 0, none⟩), .int .i64 ((nx : Int) - 1)] (w.drewN n) fun e w' => e = .returned (.int .i64 (lastP g ((nx : Int) - 1))) ∧ w' = w.drewN n) := Lib.hid fun n =>
    (in_Last C _ g (w.drewN n) ((hblk.lin hl).below ⟨rfl, rfl, rfl, Nat.le_refl _, fun _ _ => rfl⟩) (by have := hg.len; omega) ((nx : Int) - 1) (by omega)).mono fun e w' h => ⟨h.1, h.2.symm⟩
  have hdw : ∀ n, Below w.heap.size w (w.drewN n) := fun n => ⟨rfl, rfl, rfl, Nat.le_refl _, fun _ _ => rfl⟩
  have HTU : Hid (lastP g ((nx : Int) - 1) < doc → ∀ n, Calls Try.prog 34 #[.pointer (some ⟨C, 0, none⟩), .int .i64 doc] (w.drewN n) fun e w' => (∃ v, e = .returned v) ∧ Turned06 fu C g doc i w w') := Lib.hid fun hlt n =>
    (cur_turn C nx vb ve g A c bh rd rest doc i (w.drewN n) (hblk.only (OnlyIn.of_below (S := fun _ => False) (hdw n)) (fun h => h)) (hl.only (OnlyIn.of_below (S := fun _ => False) (hdw n)) (fun D hD => hD.elim)) hp hg hlt (Nat.le_trans hpo.1 (hdw n).size)).mono fun e w' h => by
      obtain ⟨h1, i', vb, ve, A, c, nx, bh, rd, rest, k1, k2, k3, k4, k5, k6, k7, k8, k9, k10⟩ := h
      exact ⟨h1, i', vb, ve, A, c, nx, bh, rd, rest, k1, k2, k3, k4, k5, k6, k7, k8, k9, (OnlyIn.of_below (hdw n)).trans k10⟩
  have HSTAY : Hid (doc ≤ lastP g ((nx : Int) - 1) → ∀ n, Turned06 fu C g doc i w (w.drewN n)) := Lib.hid fun hlt n =>
    ⟨i, vb, ve, A, c, nx, bh, rd, rest, hblk.only (OnlyIn.of_below (S := fun _ => False) (hdw n)) (fun h => h), hl.only (OnlyIn.of_below (S := fun _ => False) (hdw n)) (fun D hD => hD.elim), hp, hc, hcx,
      hpo.only (OnlyIn.of_below (S := fun _ => False) (hdw n)) (fun D hD => hD.elim), rfl, (fun _ => by omega), (fun hr => hp.stays (by omega) hr), OnlyIn.of_below (hdw n)⟩
  have HG := Lib.hid hg
  obtain ⟨x, hx⟩ : ∃ x, x = lastP g ((nx : Int) - 1) := ⟨_, rfl⟩
  rw [← hx] at HLA HTU HSTAY
  clear hblk hl hp hc hcx hpo hg hdw hx
  go_enter Try.func15, Try.ntmps15
  go_wp2
  go_quiet ((go_at_call 33; exact Calls.quiet_of_same (HLA.out _)))
  clear c5
  go_upto_if 15 with fail
  go_cut [] from 15 to 18 (fun wx => Turned06 fu C g doc i w wx)
  case first =>
    by_cases hlt : x < doc
    · have hd : decide (x < doc) = true := decide_eq_true hlt
      rw [hd]
      have HT := Lib.hid (HTU.out hlt nq)
      clear hlt
      go_wp2_with (go_at_call 34; (with_reducible refine HT.out.mono ?_); rintro e w5 ⟨⟨v, rfl⟩, ht⟩)
      go_meet
      exact ht
    · have hd : decide (x < doc) = false := decide_eq_false hlt
      rw [hd]
      have HT := Lib.hid (HSTAY.out (by omega) nq)
      clear hlt
      go_wp2_with fail
      go_meet
      exact HT.out
  case rest =>
    have HCU := Lib.hid hcut
    clear hcut HTU HSTAY HLA
    go_wp2_with fail
    go_loopw [] (fun wr => Turned06 fu C g doc i w wr) (fun wr => restLen C wr)
    case atStart => exact HCU.out
    case round =>
      obtain ⟨i', vb, ve, A, c, nx, bh, rd, rest, k1, k2, k3, k4, k5, k6, k7, k8, k9, k10⟩ := hrel
      obtain ⟨⟨_, _, _, _, d4, _⟩, e4, _⟩ := cell_eight k1
      cases rest with
      | nil =>
        have HD := Lib.hid (cur_Doc C g i' wr ⟨vb, ve, A, c, nx, bh, rd, [], k1, k2, k3, k4, k5, k6, HG.out⟩)
        have HAT : Hid (CAt fu C g i' wr) := Lib.hid ⟨vb, ve, A, c, nx, bh, rd, [], k1, k2, k3, k4, k5, k6, HG.out⟩
        have HAD := Lib.hid (k7.trans (k9 rfl))
        have HON := Lib.hid k10
        simp only [List.length_nil] at d4
        clear k1 k2 k3 k4 k5 k6 k7 k8 k9 k10 e4
        go_wp2_with (go_at_call 23; (with_reducible refine HD.out.mono ?_); rintro e w5 ⟨rfl, rfl⟩)
        go_ret
        rw [HAD.out]
        exact ⟨rfl, HAT.out, HON.out⟩
      | cons p r =>
        obtain ⟨b, off, A2, c2, rfl, h1, _⟩ := k6.head
        have htl := (k3.tells).2.2.2 p r rfl
        obtain ⟨y, hy⟩ : ∃ y, y = p.1 := ⟨_, rfl⟩
        rw [← hy] at h1
        simp only [List.length_cons] at d4
        obtain ⟨n, hn⟩ : ∃ n, n = r.length := ⟨_, rfl⟩
        rw [← hn] at d4
        have hz : (0 : Int) < (n : Int) + 1 := by omega
        by_cases hlt : y < doc
        · have hdl : decide (y < doc) = true := decide_eq_true hlt
          have hnx := k3.next (doc := doc) (by rw [← hy]; exact hlt) (k8 (by simp))
          have hr0 : 0 < n := by
            rw [hn]
            rcases Nat.eq_zero_or_pos r.length with h | h
            · exact absurd (List.eq_nil_of_length_eq_zero h) hnx.2.1
            · exact h
          simp only [List.length_cons] at k4
          have hc1 : ¬ c = 1 := by omega
          have hz2 := k1.setRest (some ⟨b, off + 2, none⟩) n (c - 1)
          have ho2 : OnlyAt C wr (wr.setCell ⟨C, 4, none⟩ (.slice (some ⟨b, off + 2, none⟩) n (c - 1))) := (OnlyIn.of_below (Below.refl _ wr)).setCell _
          have hrl : restLen C wr = n + 1 := by unfold restLen; rw [d4]
          have hrl2 : restLen C (wr.setCell ⟨C, 4, none⟩ (.slice (some ⟨b, off + 2, none⟩) n (c - 1))) = n := by unfold restLen; rw [(cell_eight hz2).1.2.2.2.2.1]
          have HREL : Hid (Turned06 fu C g doc i w (wr.setCell ⟨C, 4, none⟩ (.slice (some ⟨b, off + 2, none⟩) n (c - 1)))) := Lib.hid
            ⟨i' + 1, vb, ve, some ⟨b, off + 2, none⟩, c - 1, nx, bh, rd, r, (by rw [← hn]; exact hz2), k2.only ho2 k1.curs, hnx.1, by omega, by omega, k6.tail.only ho2 k1.curs, k7.trans hnx.2.2, (fun _ => k8 (by simp)), (fun h => absurd h hnx.2.1), k10.trans ho2⟩
          have HRL := Lib.hid hrl
          have HRL2 := Lib.hid hrl2
          have hnc : n + 1 ≤ c := by omega
          clear k1 k2 k3 k4 k6 k7 k8 k9 k10 hlt hn hy htl hnx hz2 ho2 hrl hrl2
          go_wp2
          exact ⟨HREL.out, by rw [HRL.out, HRL2.out]; omega⟩
        · have hdl : decide (y < doc) = false := decide_eq_false hlt
          have HD := Lib.hid (cur_Doc C g i' wr ⟨vb, ve, _, c, nx, bh, rd, p :: r, k1, k2, k3, k4, k5, k6, HG.out⟩)
          have HAT : Hid (CAt fu C g i' wr) := Lib.hid ⟨vb, ve, _, c, nx, bh, rd, p :: r, k1, k2, k3, k4, k5, k6, HG.out⟩
          have HAD : Hid (advC g doc i = i') := Lib.hid (k7.trans (advC_stay (by rw [htl.2.1, ← hy]; omega)))
          have HON := Lib.hid k10
          clear k1 k2 k3 k4 k5 k6 k7 k8 k9 k10 e4 hlt hn hy htl
          go_wp2_with (go_at_call 23; (with_reducible refine HD.out.mono ?_); rintro e w5 ⟨rfl, rfl⟩)
          go_ret
          rw [HAD.out]
          exact ⟨rfl, HAT.out, HON.out⟩

set_option maxHeartbeats 1000000 in
set_option maxRecDepth 100000 in
theorem cur_Next {fu : Prop × Nat} (C : Nat) (g : List Po) (i : Int) (w : World) (h : CAt fu C g i w) :
    Calls Try.prog 13 #[.pointer (some ⟨C, 0, none⟩)] w fun e w' => e = .returned (.int .i64 (docC g (nextC g i))) ∧ CAt fu C g (nextC g i) w' ∧ OnlyAt C w w' := by
  have hbd := h.bd
  have hg : GoodG g := by obtain ⟨vb, ve, A, c, nx, bh, rd, rest, _, _, _, _, _, _, hg⟩ := h; exact hg
  have hD := Lib.hid (cur_Doc C g i w h)
  have hA := cur_Advance C g i (docC g i + 1) w h
  rw [next_adv hg.may hbd.1 hbd.2] at hA
  have HA := Lib.hid hA
  have hdx : -1 ≤ docC g i ∧ docC g i ≤ 2147483648 := by
    rcases Int.lt_or_le i 0 with h0 | h0
    · rw [docC_ahead h0]; omega
    · obtain ⟨k, rfl⟩ := Int.eq_ofNat_of_zero_le h0
      rcases Nat.lt_or_ge k g.length with h1 | h1
      · have := docC_lt hg.may h1; omega
      · rw [docC_behind (by omega) (by omega)]; omega
  obtain ⟨x, hx⟩ : ∃ x, x = docC g i := ⟨_, rfl⟩
  rw [← hx] at hD HA hdx
  obtain ⟨y, hy⟩ : ∃ y, y = docC g (nextC g i) := ⟨_, rfl⟩
  rw [← hy] at HA
  rw [← hy]
  have hw : IntKind.i64.wrap (x + 1) = x + 1 := IntWalk.i64_in _ (by omega)
  clear hx hy hA h hbd hg
  go_enter Try.func13, Try.ntmps13
  go_wp2_with (first
    | (go_at_call 23; (with_reducible refine hD.out.mono ?_); rintro e w' ⟨rfl, rfl⟩)
    | (go_at_call 15; (with_reducible refine HA.out.mono ?_); rintro e w' ⟨rfl, h1, h2⟩))
  go_ret
  exact ⟨rfl, h1, h2⟩

theorem places_len : ∀ {l : List Int} {x : Int}, placesOn x l = true → x < 2147483648 → x + (l.length : Int) < 2147483648
  | [], x, _, h => by simpa using h
  | q :: r, x, h, _ => by
    simp only [placesOn, Bool.and_eq_true, decide_eq_true_eq] at h
    obtain ⟨⟨h1, h2⟩, h3⟩ := h
    have := places_len h3 h2
    simp only [List.length_cons]
    omega
theorem placesC_len {g : List Po} (h : mayB' (-1) g = true) (i : Int) : (placesC g i).length ≤ 2147483648 := by
  by_cases hi : i < 0 ∨ (g.length : Int) ≤ i
  · rw [placesC_none hi]; simp
  · obtain ⟨k, rfl⟩ := Int.eq_ofNat_of_zero_le (show 0 ≤ i by omega)
    have hk : k < g.length := by omega
    rw [placesC_at hk]
    have hp : placesB (g.getD k (0, [])).2 = true := by
      have key : ∀ (l : List Po) (x : Int), mayB' x l = true → ∀ q ∈ l, placesB q.2 = true := by
        intro l
        induction l with
        | nil => intro _ _ q hq; cases hq
        | cons a r ih =>
          intro x h q hq
          obtain ⟨_, _, h3, h4⟩ := mayB'_cons.1 h
          rcases List.mem_cons.1 hq with rfl | hq
          · exact h3
          · exact ih _ h4 q hq
      exact key g _ h _ (by rw [List.getD_eq_getElem?_getD, List.getElem?_eq_getElem hk]; exact List.getElem_mem hk)
    rw [placesB_on, Bool.and_eq_true] at hp
    have := places_len hp.1 (by omega)
    omega

/-- All that a cursor is to give. -/
theorem cur_ok (C : Nat) (g : List Po) (hg : GoodG g) : CurOk C g (CAt (True, 0) C g) where
  stays := fun i w w' h hb => h.below hb
  aside := fun i w w' S h hS ho => h.only ho (fun D hD => (hS D hD).2) (fun hC => (hS C hC).1 rfl)
  real := fun i w h => h.weak
  box := fun i w w' R cs fr h hne hR ho => h.soft (X := fun k => k = C) ⟨ho.os, ho.tape, ho.output, ho.size, fun k hk => by
    by_cases e : k = R
    · subst e
      exact .inr ⟨fun e => hne e.symm, _, hR, fun cs t fr e => by injection e with _ e _; rw [← e]; rintro (h | h | h | ⟨_, _, h⟩) <;> exact absurd h (by decide)⟩
    · exact .inl (ho.block k hk e)⟩ rfl
  own := fun i w h => by obtain ⟨vb, ve, A, c, nx, bh, rd, rest, h1, _⟩ := h; exact ⟨_, _, h1⟩
  doc := fun i w h _ _ => (cur_Doc C g i w h).mono fun e w' h => ⟨h.1, by rw [← h.2]; exact Below.refl _ _⟩
  places := fun i w h _ _ => cur_Places trivial C g i w h (placesC_len hg.may i)
  count := fun i w h _ _ => (cur_Count C g i w h).mono fun e w' h => ⟨h.1, by rw [← h.2]; exact Below.refl _ _⟩
  next := fun i w h _ _ => cur_Next C g i w h
  advance := fun i w doc h _ _ _ _ => cur_Advance C g i doc w h
end Go.Proofs.Ytnmnbckaccicaaa
