/- What All hands on: each document, and its places, one by one. -/
import Derived.Test.YtnmnbckaccicaaaAdvance06
import Derived.Test.YtnmnbckaccicaaaLeaps06
import Derived.Test.YtnmnbckaccicaaaP05
import Derived.Test.YtnmnbckaccicaaaNew06
import Derived.OneCell
set_option linter.unusedVariables false
namespace Go.Proofs.Ytnmnbckaccicaaa
open Go Go.RowKit
attribute [local go_sem] Oper.semAt_some

/-- What All gives: a function that keeps the list. -/
theorem cur_All (p : Addr) (w : World) :
    Calls Try.prog 19 #[.pointer (some p)] w fun e w' => e = .returned (.func (.func 35) #[] #[.pointer (some ⟨w.heap.size, 0, none⟩)]) ∧
      w'.heap[w.heap.size]? = some (.cells #[.pointer (some p)] 25 (0, 0)) ∧ Below w.heap.size w w' ∧ w'.heap.size = w.heap.size + 1 := by
  go_enter Try.func19, Try.ntmps19
  go_wp2
  go_ret
  exact ⟨rfl, heap_alloc_new w _, (Below.refl _ w).alloc (Nat.le_refl _) _, by simp⟩

/-- The iterator turns nothing but cursors of its own. -/
def MvC (b0 : Nat) (A B : World) : Prop := OnlyIn (fun k => b0 ≤ k ∧ ∃ cs fr, A.heap[k]? = some (.cells cs 68 fr)) A B
/-- The body turns nothing that is the iterator's. -/
def KpC (b0 : Nat) (A B : World) : Prop := OnlyIn (fun k => ∃ o, A.heap[k]? = some o ∧ (o.isCells = false ∨ (k < b0 ∧ ∀ cs t fr, o = .cells cs t fr → ¬ Kept (True, b0) k t))) A B
theorem KpC.trans {b0 : Nat} {A B C : World} (h : KpC b0 A B) (k : KpC b0 B C) : KpC b0 A C := by
  refine ⟨k.os.trans h.os, k.tape.trans h.tape, k.output.trans h.output, Nat.le_trans h.size k.size, fun i hi hn => ?_⟩
  have e := h.block i hi hn
  refine (k.block i (Nat.lt_of_lt_of_le hi h.size) fun ⟨o, h1, h2⟩ => hn ⟨o, e.symm.trans h1, h2⟩).trans e
theorem KpC.of_below {b0 : Nat} {A B : World} (h : Below A.heap.size A B) : KpC b0 A B := OnlyIn.of_below h
theorem KpC.putObj {b0 : Nat} {W : World} {l : Nat} {o o' : Obj} (ho : W.heap[l]? = some o) (hc : o.isCells = false) : KpC b0 W (W.putObj l o') := by
  have hb : Below 0 W (W.putObj l o') := (Below.refl 0 W).grown (grownBy_putObj' W l o') (Nat.zero_le _) (fun k e => Nat.zero_le _)
  refine ⟨hb.os, hb.tape, hb.output, hb.size, fun k _ hn => World.putObj_heap_other (fun e => hn ?_)⟩
  subst e
  exact ⟨o, ho, .inl hc⟩
theorem KpC.soft {b0 C : Nat} {A B : World} (h : KpC b0 A B) {cs : Array Value} {t : TypeId} {fr : Nat × Nat} (hC : A.heap[C]? = some (.cells cs t fr)) (hb : b0 ≤ C) : Soft (True, b0) (fun k => k = C) A B := by
  refine ⟨h.os, h.tape, h.output, h.size, fun k hk => ?_⟩
  by_cases hs : ∃ o, A.heap[k]? = some o ∧ (o.isCells = false ∨ (k < b0 ∧ ∀ cs t fr, o = .cells cs t fr → ¬ Kept (True, b0) k t))
  · obtain ⟨o, h1, h2⟩ := hs
    refine .inr ⟨fun e => ?_, o, h1, fun cs' t' fr' e => ?_⟩
    · subst e
      rcases h2 with h2 | ⟨h2, _⟩
      · rw [hC] at h1
        injection h1 with h1
        rw [← h1] at h2
        cases h2
      · omega
    · rcases h2 with h2 | ⟨_, h2⟩
      · rw [e] at h2
        cases h2
      · exact h2 _ _ _ e
  · exact .inl (h.block k hk hs)

/-- What holds of each thing that is told. -/
def OkAll (g : List Po) (pre : List (Int × Value)) (x : Int × Value) (W : World) : Prop := pre.length < g.length ∧ x.1 = docC g (pre.length : Int) ∧ ∃ A c, x.2 = .slice A (placesC g (pre.length : Int)).length c ∧ Row W W.heap.size A (ints (placesC g (pre.length : Int)))
def AllRel (b0 C : Nat) (g : List Po) (J : List (Int × Value) → World → Prop) (wr : World) : Prop := ∃ pre : List (Int × Value), pre.length ≤ g.length ∧ CAt (True, b0) C g ((pre.length : Int) - 1) wr ∧ J pre wr
/-- Where a cursor stands, as its cells tell. -/
def standsAt (C : Nat) (w : World) : Int :=
  match w.cell? ⟨C, 6, none⟩ with
  | some (.bool true) => 2147483648
  | _ => match w.cell? ⟨C, 4, none⟩ with
    | some (.slice (some a) (_ + 1) _) => (match w.cell? a with | some v => intOf v | none => 0)
    | _ => -1
theorem CAt.stand {p : Prop × Nat} {C : Nat} {g : List Po} {i : Int} {w : World} (h : CAt p C g i w) : standsAt C w = docC g i := by
  obtain ⟨vb, ve, A, c, nx, bh, rd, rest, hblk, _, hpos, _, _, hpo, _⟩ := h
  obtain ⟨⟨_, _, _, _, c4, _, c6, _⟩, _⟩ := cell_eight hblk
  obtain ⟨t1, t2, _, t4⟩ := hpos.tells
  cases bh with
  | true =>
    rw [t1 rfl]
    simp only [Go.Proofs.Ytnmnbckaccicaaa.standsAt, c6]
  | false =>
    cases rest with
    | nil =>
      rw [t2 rfl rfl]
      simp only [Go.Proofs.Ytnmnbckaccicaaa.standsAt, c6, c4, List.length_nil]
    | cons p r =>
      obtain ⟨b, off, A', c', rfl, h1, _⟩ := hpo.head
      rw [(t4 p r rfl).2.1]
      simp only [Go.Proofs.Ytnmnbckaccicaaa.standsAt, c6, c4, List.length_cons, h1, intOf]
theorem docC_step {g : List Po} (hg : GoodG g) (k : Nat) (hk : k < g.length) : docC g ((k : Int) - 1) < docC g (k : Int) ∧ docC g (k : Int) < 2147483648 := by
  have h1 := docC_lt hg.may hk
  refine ⟨?_, h1.2⟩
  rcases Nat.eq_zero_or_pos k with rfl | hp
  · rw [docC_ahead (by omega)]; omega
  · obtain ⟨j, rfl⟩ : ∃ j, k = j + 1 := ⟨k - 1, by omega⟩
    rw [show ((j + 1 : Nat) : Int) - 1 = (j : Int) by omega, docC_at (by omega), docC_at hk]
    exact doc_mono hg.may (by omega) hk

set_option maxHeartbeats 4000000 in
set_option maxRecDepth 100000 in
theorem all_told (m D1 B base : Nat) (g : List Po) (w : World) (hm : 1 ≤ m) (hg : GoodG g) (hl : LAt w base B (bytesP (-1) g) g) (h1 : w.heap[D1]? = some (.cells #[.pointer (some ⟨B, 0, none⟩)] 25 (0, 0))) :
    Tells m Try.prog 35 #[.pointer (some ⟨D1, 0, none⟩)] (fun p : Int × Value => #[.int .i64 p.1, p.2]) (MvC w.heap.size) (KpC w.heap.size) (OkAll g) (fun xs => xs.length = g.length) (fun _ => True) w := by
  intro lp J X W hW hJ hY h0
  obtain ⟨b0, hb0⟩ : ∃ b0, b0 = w.heap.size := ⟨_, rfl⟩
  rw [← hb0] at hJ hY
  have hbW : b0 ≤ W.heap.size := by have := hW.size; omega
  have e1 := (hW.block D1 (lt_of_block h1)).trans h1
  have HJ := Lib.hid hJ
  have HY := Lib.hid hY
  have H0 := Lib.hid h0
  have HN := Lib.hid (cur_New (fu := (True, b0)) base B g W (hl.below hW) hg hbW)
  have HG := Lib.hid hg
  have HBW := Lib.hid hbW
  have c1 := cell_of_one e1
  clear hJ hY h0 hl h1 hW e1 hg hb0 hbW
  refine callsIn_of_wp Try.func35 rfl trivial ?_ rfl
  simp only [Try.ntmps35, List.size_toArray, List.length_cons, List.length_nil, Nat.reduceAdd, Nat.reduceSub, Array.replicate_succ, Array.replicate_zero, List.push_toArray, List.append_toArray, List.nil_append, List.cons_append]
  gi_wp2_with (first
    | (refine ⟨trivial, ?_⟩; gi_at_call 10; refine (callsIn_wide.2 HN.out).mono ?_)
    | (gi_at_call 10; refine (callsIn_wide.2 HN.out).mono ?_))
  first | rintro e w1 C rfl hC hc1 hb1 | rintro e w1 ⟨C, rfl, hC, hc1, hb1⟩
  have hrel : AllRel b0 C g J w1 := ⟨[], Nat.zero_le _, by simpa using hc1, HJ.out _ _ _ H0.out (OnlyIn.of_below hb1)⟩
  have HREL := Lib.hid hrel
  have HC : Hid (b0 ≤ C) := Lib.hid (Nat.le_trans HBW.out hC)
  clear hrel hc1 hb1 c1 hC
  gi_wp2
  gi_loopw [] (fun wr => AllRel b0 C g J wr) (fun wr => (2147483648 - standsAt C wr).toNat)
  case atStart => exact HREL.out
  case round =>
    obtain ⟨pre, hpl, hci, hj⟩ := hrel
    obtain ⟨k, hk⟩ : ∃ k, k = pre.length := ⟨_, rfl⟩
    rw [← hk] at hpl hci
    have hnx : nextC g ((k : Int) - 1) = (k : Int) := by unfold nextC; rw [if_pos (by omega)]; omega
    have hN := cur_Next C g ((k : Int) - 1) wr hci
    rw [hnx] at hN
    have hdo := hci.stand
    have hcu : ∀ q, q = C → b0 ≤ q ∧ ∃ cs fr, wr.heap[q]? = some (.cells cs 68 fr) := fun q hq => ⟨by rw [hq]; exact HC.out, by rw [hq]; exact hci.curs C rfl⟩
    obtain ⟨x, hx⟩ : ∃ x, x = docC g (k : Int) := ⟨_, rfl⟩
    rw [← hx] at hN
    have HNX := Lib.hid hN
    have HX := Lib.hid hx
    have HK := Lib.hid hk
    have HJ0 := Lib.hid hj
    have HDO := Lib.hid hdo
    have HCU := Lib.hid hcu
    clear hnx hN hx hj hci hk hdo hcu HREL
    gi_wp2_with (first
      | (refine ⟨trivial, ?_⟩; gi_at_call 13; refine (callsIn_wide.2 HNX.out).mono ?_)
      | (gi_at_call 13; refine (callsIn_wide.2 HNX.out).mono ?_))
    first | rintro e w5 rfl hc5 ho5 | rintro e w5 ⟨rfl, hc5, ho5⟩
    have hj5 := HJ.out _ _ _ HJ0.out (ho5.mono HCU.out)
    have HC5 := Lib.hid hc5
    have HJ5 := Lib.hid hj5
    have hcu5 := hc5.curs C rfl
    have HCU5 := Lib.hid hcu5
    clear hc5 hj5 ho5 hcu5
    by_cases hend : k = g.length
    · have hxe : x = 2147483648 := by rw [HX.out, hend]; exact docC_behind (by omega) (Int.le_refl _)
      subst hxe
      have HF : Hid (pre.length = g.length) := Lib.hid (by rw [← HK.out]; exact hend)
      clear hend hpl
      gi_wp2
      go_end0
      exact ⟨⟨_, rfl⟩, .inl ⟨pre, HF.out, HJ5.out⟩⟩
    · have hkl : k < g.length := by omega
      obtain ⟨hs1, hs2⟩ := docC_step HG.out k hkl
      rw [← HX.out] at hs1 hs2
      have hxl : (x == 2147483648) = false := by rw [beq_eq_false_iff_ne]; omega
      have hxl' : x ≠ 2147483648 := by omega
      have hD := cur_Doc C g (k : Int) w5 HC5.out
      rw [← HX.out] at hD
      have HD := Lib.hid hD
      have HP := Lib.hid (cur_Places trivial C g (k : Int) w5 HC5.out (placesC_len HG.out.may _))
      have HS := Lib.hid (And.intro hs1 hs2)
      have HKL := Lib.hid hkl
      clear hD hend hpl hs1 hs2 hkl
      gi_wp2_with (first
        | (refine ⟨trivial, ?_⟩; gi_at_call 23; refine (callsIn_wide.2 HD.out).mono ?_; rintro e w6 ⟨rfl, rfl⟩)
        | (gi_at_call 23; refine (callsIn_wide.2 HD.out).mono ?_; rintro e w6 ⟨rfl, rfl⟩)
        | (refine ⟨trivial, ?_⟩; gi_at_call 24; refine (callsIn_wide.2 HP.out).mono ?_)
        | (gi_at_call 24; refine (callsIn_wide.2 HP.out).mono ?_))
      first | rintro e w6 A6 c6 rfl hr6 hb6 | rintro e w6 ⟨A6, c6, rfl, hr6, hb6⟩
      have hj6 := HJ.out _ _ _ HJ5.out (OnlyIn.of_below hb6)
      have hc6 := HC5.out.below hb6
      obtain ⟨cs5, fr5, hcu5⟩ := HCU5.out
      have hcu6 := (hb6.block C (lt_of_block hcu5)).trans hcu5
      have hok : OkAll g pre (x, .slice A6 (placesC g (k : Int)).length c6) w6 := by
        unfold OkAll
        rw [← HK.out]
        exact ⟨HKL.out, HX.out, A6, c6, rfl, hr6⟩
      obtain ⟨fn, tmps, assign, body, hyy, hR⟩ := HY.out pre _ w6 hj6 hok
      have HC6 := Lib.hid hc6
      have HCU6 := Lib.hid hcu6
      clear hj6 hc6 hok hr6 hb6 hcu5 hcu6
      gi_wp2
      refine hR.mono ?_
      rintro e W7 (⟨rfl, hJ7, hk7⟩ | ⟨rfl, hX7⟩)
      · have hrel7 : AllRel b0 C g J W7 := ⟨pre ++ [(x, .slice A6 (placesC g (k : Int)).length c6)], by rw [List.length_append, List.length_singleton, ← HK.out]; exact HKL.out, by rw [List.length_append, List.length_singleton, ← HK.out]; simpa using HC6.out.soft (hk7.soft HCU6.out HC.out) rfl, hJ7⟩
        have hst7 : standsAt C W7 = x := by rw [(HC6.out.soft (hk7.soft HCU6.out HC.out) rfl).stand, HX.out]
        have HREL7 := Lib.hid hrel7
        have HST7 := Lib.hid hst7
        clear hrel7 hst7 hJ7 hk7 hyy hR
        gi_wp2
        go_roundw
        case rel => exact HREL7.out
        case measure =>
          rw [HST7.out, HDO.out]
          have := HS.out
          omega
      · have HX7 := Lib.hid hX7
        clear hX7 hyy hR
        gi_wp2
        refine bodyPost_ret (results_none rfl _ _ _) rfl ?_
        exact ⟨⟨_, rfl⟩, .inr ⟨_, trivial, HX7.out⟩⟩
end Go.Proofs.Ytnmnbckaccicaaa
