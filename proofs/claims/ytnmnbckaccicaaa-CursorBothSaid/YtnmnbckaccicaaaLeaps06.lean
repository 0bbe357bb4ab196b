/- What leaps hands on: the documents at which two cursors stand that leap over each other. -/
import Derived.Test.YtnmnbckaccicaaaLeap06
import Derived.Test.YtnmnbckaccicaaaAdvance06
import Derived.Test.YtnmnbckaccicaaaTells06
import Derived.Test.YtnmnbckaccicaaaP05
import Derived.OneCell
set_option linter.unusedVariables false
namespace Go.Proofs.Ytnmnbckaccicaaa
open Go Go.RowKit
attribute [local go_sem] Oper.semAt_some

/-- What leaps gives: a function that keeps the two cursors. -/
theorem cur_leaps (p q : Addr) (w : World) :
    Calls Try.prog 36 #[.pointer (some p), .pointer (some q)] w fun e w' => e = .returned (.func (.func 48) #[] #[.pointer (some ⟨w.heap.size, 0, none⟩), .pointer (some ⟨w.heap.size + 1, 0, none⟩)]) ∧
      w'.heap[w.heap.size]? = some (.cells #[.pointer (some p)] 29 (0, 0)) ∧ w'.heap[w.heap.size + 1]? = some (.cells #[.pointer (some q)] 29 (0, 0)) ∧ Below w.heap.size w w' ∧ w'.heap.size = w.heap.size + 2 := by
  go_enter Try.func36, Try.ntmps36
  go_wp2
  go_ret
  exact ⟨rfl, (Below.heap_alloc _ _ _ (by simp)).trans (heap_alloc_new w _), heap_alloc2_new _ _ _, ((Below.refl _ w).alloc (Nat.le_refl _) _).alloc (by simp) _, by simp⟩

abbrev Two (C D : Nat) : Nat → Prop := fun k => k = C ∨ k = D
abbrev Four (C D D1 D2 : Nat) : Nat → Prop := fun k => k = C ∨ k = D ∨ k = D1 ∨ k = D2
def OkLeap (pre : List (Int × Int)) (x : Int × Int) (W : World) : Prop := (coll pre).length ≤ 1000
def LeapRel (C D D1 D2 : Nat) (g h : List Po) (J : List (Int × Int) → World → Prop) (v : Value) (wr : World) : Prop :=
  ∃ (pre : List (Int × Int)) (i j : Int), v = .int .i64 (docC g i) ∧ 0 ≤ i ∧ i ≤ (g.length : Int) ∧ -1 ≤ j ∧ j ≤ (h.length : Int) ∧ coll pre ++ interP (g.drop i.toNat) (h.drop j.toNat) = interP g h ∧ J pre wr ∧ CAt (False, 0) C g i wr ∧ CAt (False, 0) D h j wr ∧
    wr.heap[D1]? = some (.cells #[.pointer (some ⟨C, 0, none⟩)] 29 (0, 0)) ∧ wr.heap[D2]? = some (.cells #[.pointer (some ⟨D, 0, none⟩)] 29 (0, 0))
theorem CAt.curs {p : Prop × Nat} {C : Nat} {g : List Po} {i : Int} {w : World} (h : CAt p C g i w) : Curs (fun k => k = C) w := by
  obtain ⟨vb, ve, A, c, nx, bh, rd, rest, h1, _⟩ := h
  exact h1.curs
theorem OnlyIn.mono {S S' : Nat → Prop} {w w' : World} (h : OnlyIn S w w') (hs : ∀ k, S k → S' k) : OnlyIn S' w w' := ⟨h.os, h.tape, h.output, h.size, fun k hk hn => h.block k hk fun e => hn (hs k e)⟩
theorem inter_length' : ∀ (a b : List Po), (interP a b).length ≤ a.length
  | [], _ => by rw [interP]; simp
  | _ :: _, [] => by rw [interP]; simp
  | p :: r, q :: s => by
    rw [interP]
    split
    · have := inter_length' r s
      simp only [List.length_cons]
      omega
    · split
      · have := inter_length' r (q :: s)
        simp only [List.length_cons]
        omega
      · exact inter_length' (p :: r) s
termination_by a b => a.length + b.length

set_option maxHeartbeats 4000000 in
set_option maxRecDepth 100000 in
theorem leaps_told (m C D D1 D2 : Nat) (g h : List Po) (w : World) (hm : 1 ≤ m) (hg : GoodG g) (hh : GoodG h) (hCD : C ≠ D) (hc : CAt (False, 0) C g (-1) w) (hd : CAt (False, 0) D h (-1) w)
    (h1 : w.heap[D1]? = some (.cells #[.pointer (some ⟨C, 0, none⟩)] 29 (0, 0))) (h2 : w.heap[D2]? = some (.cells #[.pointer (some ⟨D, 0, none⟩)] 29 (0, 0))) (hn1 : D1 ≠ C ∧ D1 ≠ D ∧ D2 ≠ C ∧ D2 ≠ D) :
    Tells m Try.prog 48 #[.pointer (some ⟨D1, 0, none⟩), .pointer (some ⟨D2, 0, none⟩)] (fun p : Int × Int => #[.int .i64 p.1, .int .i64 p.2]) (OnlyIn (Two C D)) (Soft (False, 0) (Four C D D1 D2)) OkLeap (fun xs => coll xs = interP g h) (fun _ => True) w := by
  intro lp J X W hW hJ hY h0
  have e1 := (hW.block D1 (lt_of_block h1)).trans h1
  have e2 := (hW.block D2 (lt_of_block h2)).trans h2
  have HJ := Lib.hid hJ
  have HY := Lib.hid hY
  have H0 := Lib.hid h0
  have HC0 := Lib.hid (hc.below hW)
  have HD0 := Lib.hid (hd.below hW)
  have HNE := Lib.hid hn1
  have HCD := Lib.hid hCD
  have HG := Lib.hid hg
  have HH := Lib.hid hh
  have c1 := cell_of_one e1
  have E1 := Lib.hid e1
  have E2 := Lib.hid e2
  clear hJ hY h0 hc hd hn1 h1 h2 hW e1 e2 hCD hg hh
  refine callsIn_of_wp Try.func48 rfl trivial ?_ rfl
  simp only [Try.ntmps48, List.size_toArray, List.length_cons, List.length_nil, Nat.reduceAdd, Nat.reduceSub, Array.replicate_succ, Array.replicate_zero, List.push_toArray, List.append_toArray, List.nil_append, List.cons_append]
  have hn0 := cur_Next C g (-1) W HC0.out
  have hnx : nextC g (-1) = 0 := by unfold nextC; rw [if_pos (by omega)]; rfl
  rw [hnx] at hn0
  obtain ⟨x0, hx0⟩ : ∃ x0, x0 = docC g 0 := ⟨_, rfl⟩
  rw [← hx0] at hn0
  have HX0 := Lib.hid hx0
  have HN0 := Lib.hid hn0
  clear hn0 hnx hx0
  gi_wp2_with (first
    | (refine ⟨trivial, ?_⟩; gi_at_call 13; refine (callsIn_wide.2 HN0.out).mono ?_)
    | (gi_at_call 13; refine (callsIn_wide.2 HN0.out).mono ?_))
  rintro e w1 rfl hc1 ho1
  have hrel : LeapRel C D D1 D2 g h J (.int .i64 x0) w1 := ⟨[], 0, -1, (by rw [HX0.out]), by omega, by omega, by omega, by omega, by simp [coll_nil], HJ.out _ _ _ H0.out (ho1.mono fun k hk => .inl hk), hc1,
    HD0.out.only ho1 HC0.out.curs (fun e => HCD.out e.symm), (ho1.block D1 (lt_of_block E1.out) (HNE.out.1)).trans E1.out, (ho1.block D2 (lt_of_block E2.out) (HNE.out.2.2.1)).trans E2.out⟩
  have HREL := Lib.hid hrel
  clear hrel hc1 ho1 c1
  gi_wp2
  gi_loopw [4] (fun v wr => LeapRel C D D1 D2 g h J v wr) (fun v _ => (2147483648 - intOf v).toNat)
  case atStart => exact HREL.out
  case round =>
    obtain ⟨pre, i, j, rfl, hi0, hi1, hj0, hj1, hcol, hj, hci, hdj, e1, e2⟩ := hrel
    have c1 := cell_of_one e1
    have c2 := cell_of_one e2
    by_cases hend : i = (g.length : Int)
    · have hx : docC g i = 2147483648 := by rw [hend]; exact docC_behind (by omega) (Int.le_refl _)
      rw [hx]
      have hcol2 : coll pre = interP g h := by
        rw [← hcol, hend, Int.toNat_natCast, List.drop_length, interP, List.append_nil]
      have HF := Lib.hid hcol2
      have HJK := Lib.hid hj
      clear hcol2 hcol hj hci hdj e1 e2 hend hx hi0 hi1 hj0 hj1 HREL
      gi_wp2
      go_end0
      exact ⟨⟨_, rfl⟩, .inl ⟨pre, HF.out, HJK.out⟩⟩
    · obtain ⟨k, rfl⟩ := Int.eq_ofNat_of_zero_le hi0
      obtain ⟨x, hx⟩ : ∃ x, x = docC g (k : Int) := ⟨_, rfl⟩
      obtain ⟨j', hj'⟩ : ∃ j', j' = advC h x j := ⟨_, rfl⟩
      obtain ⟨y, hy⟩ : ∃ y, y = docC h j' := ⟨_, rfl⟩
      obtain ⟨z, hz⟩ : ∃ z, z = if x + 1 ≤ y then y else x + 1 := ⟨_, rfl⟩
      obtain ⟨i', hi'⟩ : ∃ i', i' = advC g z (k : Int) := ⟨_, rfl⟩
      obtain ⟨x', hx'⟩ : ∃ x', x' = docC g i' := ⟨_, rfl⟩
      obtain ⟨s1, s2, s3, s4, s5, s6, s7, s8, s9, s10⟩ := leap_step HG.out.may HH.out.may k (by omega) j hj0 hj1 x y z j' i' hx hj' hy hz hi'
      rw [← hx]
      have hA := cur_Advance D h j x wr hdj
      rw [← hj', ← hy] at hA
      have HA := Lib.hid hA
      have HXY := Lib.hid s6
      have hxl : (x == 2147483648) = false := by rw [beq_eq_false_iff_ne]; omega
      have hxl' : x ≠ 2147483648 := by omega
      have hmx : ∀ (w : World) (ts : Array TypeId) (t : TypeId), (Builtin.max_ ts t #[.int .i64 y, .int .i64 (x + 1)]).run Try.prog w = .ok (.int .i64 z) w := fun w ts t => by rw [run_max_int2, hz]; congr 2; split <;> split <;> omega
      have hwx : IntKind.i64.wrap (x + 1) = x + 1 := IntWalk.i64_in _ (by omega)
      have hlen : (coll pre).length ≤ 1000 := by
        have h1 := congrArg List.length hcol
        rw [List.length_append] at h1
        have h2 := inter_length' g h
        have := HG.out.len
        omega
      have HJK := Lib.hid hj
      have HCI := Lib.hid hci
      have HDJ := Lib.hid hdj
      have E1' := Lib.hid e1
      have E2' := Lib.hid e2
      have HLEN := Lib.hid hlen
      have hcol2 : ∀ b, b = (if x = y then [x] else []) → coll (pre ++ [(x, y)]) = coll pre ++ b := fun b hb => by
        rw [hb]
        by_cases e : x = y
        · rw [if_pos e, coll_same _ _ _ e]
        · rw [if_neg e, coll_other _ _ _ e, List.append_nil]
      have HCOL : Hid (coll (pre ++ [(x, y)]) ++ interP (g.drop i'.toNat) (h.drop j'.toNat) = interP g h) := Lib.hid (by
        rw [hcol2 _ rfl, List.append_assoc, ← s1]
        rw [Int.toNat_natCast] at hcol
        exact hcol)
      have HAZ : Hid (∀ W6, CAt (False, 0) C g (k : Int) W6 → Calls Try.prog 15 #[.pointer (some ⟨C, 0, none⟩), .int .i64 z] W6 fun e w' => e = .returned (.int .i64 x') ∧ CAt (False, 0) C g i' w' ∧ OnlyAt C W6 w') := Lib.hid fun W6 h6 => by
        have := cur_Advance C g (k : Int) z W6 h6
        rw [← hi', ← hx'] at this
        exact this
      have hxx : x < x' := by
        rw [hx, hx']
        obtain ⟨n, hn⟩ := Int.eq_ofNat_of_zero_le (show 0 ≤ i' by omega)
        rw [hn]
        have hkg : k < g.length := by omega
        rcases Nat.lt_or_ge n g.length with hl | hl
        · rw [docC_at (k := k) hkg, docC_at (k := n) hl]
          exact doc_mono HG.out.may (by omega) hl
        · rw [docC_behind (i := (n : Int)) (by omega) (by omega)]
          exact (docC_lt HG.out.may (by omega)).2
      have HX' := Lib.hid hx'
      have HI := Lib.hid (And.intro (And.intro s2 s3) (And.intro s4 s5))
      clear hx hj' hy hz hi' hx' s1 s2 s3 s4 s5 hcol hcol2 hj hci hdj e1 e2 hlen hA HREL hend hi0 hi1 hj0 hj1 s6
      gi_wp2_with (first
        | (refine ⟨trivial, ?_⟩; gi_at_call 15; refine (callsIn_wide.2 HA.out).mono ?_)
        | (gi_at_call 15; refine (callsIn_wide.2 HA.out).mono ?_))
      first | rintro e w5 rfl hd5 ho5 | rintro e w5 ⟨rfl, hd5, ho5⟩
      have hj5 := HJ.out _ _ _ HJK.out (ho5.mono fun k hk => .inr hk)
      obtain ⟨fn, tmps, assign, body, hyy, hR⟩ := HY.out pre (x, y) w5 hj5 HLEN.out
      have HC5 := Lib.hid (HCI.out.only ho5 HDJ.out.curs HCD.out)
      have HD5 := Lib.hid hd5
      have E15 := Lib.hid ((ho5.block D1 (lt_of_block E1'.out) (HNE.out.2.1)).trans E1'.out)
      have E25 := Lib.hid ((ho5.block D2 (lt_of_block E2'.out) (HNE.out.2.2.2)).trans E2'.out)
      clear hd5 ho5 hj5 c1 c2
      gi_wp2
      refine hR.mono ?_
      rintro e W6 (⟨rfl, hJ6, hk6⟩ | ⟨rfl, hX6⟩)
      · have e16 := hk6.keep E15.out (.inr (.inr (.inl rfl)))
        have e26 := hk6.keep E25.out (.inr (.inr (.inr rfl)))
        have c1 := cell_of_one e16
        have HC6 := Lib.hid (HC5.out.soft hk6 (.inl rfl))
        have HD6 := Lib.hid (HD5.out.soft hk6 (.inr (.inl rfl)))
        have HAZ6 := Lib.hid (HAZ.out W6 HC6.out)
        have HJ6 := Lib.hid hJ6
        have E16 := Lib.hid e16
        have E26 := Lib.hid e26
        clear hJ6 hk6 e16 e26 hyy hR
        gi_wp2_with (first
          | (refine ⟨trivial, ?_⟩; gi_at_call 15; refine (callsIn_wide.2 HAZ6.out).mono ?_)
          | (gi_at_call 15; refine (callsIn_wide.2 HAZ6.out).mono ?_))
        first | rintro e w7 rfl hc7 ho7 | rintro e w7 ⟨rfl, hc7, ho7⟩
        have hrel : LeapRel C D D1 D2 g h J (.int .i64 x') w7 := ⟨pre ++ [(x, y)], i', j', (by rw [HX'.out]), by have := HI.out; omega, by have := HI.out; omega, by have := HI.out; omega, by have := HI.out; omega, HCOL.out, HJ.out _ _ _ HJ6.out (ho7.mono fun k hk => .inl hk), hc7,
          HD6.out.only ho7 HC6.out.curs (fun e => HCD.out e.symm), (ho7.block D1 (lt_of_block E16.out) (HNE.out.1)).trans E16.out, (ho7.block D2 (lt_of_block E26.out) (HNE.out.2.2.1)).trans E26.out⟩
        have HREL := Lib.hid hrel
        clear hrel hc7 ho7 c1
        gi_wp2
        go_roundw
        case rel => exact HREL.out
        case measure => simp [intOf]; omega
      · have HX6 := Lib.hid hX6
        clear hX6 hyy hR
        gi_wp2
        refine bodyPost_ret (results_none rfl _ _ _) rfl ?_
        exact ⟨⟨_, rfl⟩, .inr ⟨_, trivial, HX6.out⟩⟩
end Go.Proofs.Ytnmnbckaccicaaa
