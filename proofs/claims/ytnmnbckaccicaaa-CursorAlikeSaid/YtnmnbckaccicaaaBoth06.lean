/- What Both answers. -/
import Derived.Test.YtnmnbckaccicaaaLeaps06
import Derived.Test.YtnmnbckaccicaaaP05
import Derived.Test.YtnmnbckaccicaaaCur06
set_option linter.unusedVariables false
namespace Go.Proofs.Ytnmnbckaccicaaa
open Go Go.RowKit
attribute [local go_sem] Oper.semAt_some

theorem OnlyIn.then_below {S : Nat → Prop} {w W W' : World} (h : OnlyIn S w W) (hb : Below w.heap.size W W') : OnlyIn S w W' :=
  ⟨hb.os.trans h.os, hb.tape.trans h.tape, hb.output.trans h.output, Nat.le_trans h.size hb.size, fun k hk hn => (hb.block k hk).trans (h.block k hk hn)⟩
/-- What lies there between two leaps: what came twice, in a row of its own. -/
def BothI (C D : Nat) (w : World) (R : Nat) (pre : List (Int × Int)) (W : World) : Prop :=
  (∃ v, W.heap[R]? = some (.cells #[v] 23 (0, 0)) ∧ W.ownsRow w.heap.size 3 1 v (coll pre).length (ints (coll pre))) ∧ (W.heap[R + 1]? = some (.cells #[.pointer (some ⟨C, 0, none⟩)] 29 (0, 0)) ∧ W.heap[R + 2]? = some (.cells #[.pointer (some ⟨D, 0, none⟩)] 29 (0, 0))) ∧ OnlyIn (Two C D) w W
theorem owned_only {S : Nat → Prop} {w w' : World} {b : Nat} {e : TypeId} {size n : Nat} {v : Value} {xs : List Value} (h : w.ownsRow b e size v n xs) (ho : OnlyIn S w w') (hs : ∀ k, S k → k < b) : w'.ownsRow b e size v n xs :=
  owned_keep h fun g hg => ho.block g (h.lt g hg).2 fun hk => by have := hs g hk; have := (h.lt g hg).1; omega

theorem lt_of_block' {w : World} {k : Nat} {o : Obj} (h : w.heap[k]? = some o) : k < w.heap.size := (Array.getElem?_eq_some_iff.1 h).1
theorem soft_putObj {p : Prop × Nat} {X : Nat → Prop} {W : World} {l : Nat} {o o' : Obj} (ho : W.heap[l]? = some o) (hc : o.isCells = false) (hX : ¬ X l) : Soft p X W (W.putObj l o') := by
  have hb : Below 0 W (W.putObj l o') := (Below.refl 0 W).grown (grownBy_putObj' W l o') (Nat.zero_le _) (fun k e => Nat.zero_le _)
  exact Soft.of_one ho hX (fun cs t fr e => by rw [e] at hc; cases hc) hb.os hb.tape hb.output hb.size (fun i hi _ => World.putObj_heap_other hi)
theorem both_moves {C D R : Nat} {w A B : World} {pre : List (Int × Int)} (hC : C < w.heap.size) (hD : D < w.heap.size) (hR : R = w.heap.size) (h : BothI C D w R pre A) (hm : OnlyIn (Two C D) A B) : BothI C D w R pre B := by
  obtain ⟨⟨v, hb, ho⟩, ⟨h1, h2⟩, hon⟩ := h
  exact ⟨⟨v, (hm.block R (lt_of_block' hb) (fun h => by rcases h with h | h <;> omega)).trans hb, owned_only ho hm (fun k h => by rcases h with h | h <;> omega)⟩,
    ⟨(hm.block _ (lt_of_block' h1) (fun h => by rcases h with h | h <;> omega)).trans h1, (hm.block _ (lt_of_block' h2) (fun h => by rcases h with h | h <;> omega)).trans h2⟩, hon.trans hm⟩
theorem both_firm {C D R N : Nat} {w : World} {pre : List (Int × Int)} (hN : w.heap.size ≤ N) : Firm N (BothI C D w R pre) := fun W l o o' hl ho hc h => by
  obtain ⟨⟨v, hb, hw⟩, ⟨h1, h2⟩, hon⟩ := h
  have hk := kept_putObj (o' := o') ho hc
  refine ⟨⟨v, hk _ _ hb rfl, cellsKept_owned hw hk⟩, ⟨hk _ _ h1 rfl, hk _ _ h2 rfl⟩, hon.then_below ?_⟩
  exact (Below.refl _ W).grown (grownBy_putObj' W l o') hon.size (fun k e => by cases e; omega)

set_option maxHeartbeats 8000000 in
set_option maxRecDepth 100000 in
theorem cur_Both (C D : Nat) (g h : List Po) (w : World) (hg : GoodG g) (hh : GoodG h) (hCD : C ≠ D) (hc : CAt (False, 0) C g (-1) w) (hd : CAt (False, 0) D h (-1) w) (hC : C < w.heap.size) (hD : D < w.heap.size) :
    Calls Try.prog 21 #[.pointer (some ⟨C, 0, none⟩), .pointer (some ⟨D, 0, none⟩)] w (GaveBoth C D (interP g h) w) := by
  obtain ⟨i0, hi0, hz0, hz1, hz2⟩ := info_parts info_int
  refine (callsIn_wide (n := 6)).1 ?_
  obtain ⟨R, hR⟩ : ∃ R, R = w.heap.size := ⟨_, rfl⟩
  have HTOLD : Hid (∀ (w' : World), Below w.heap.size w w' → w'.heap[R + 1]? = some (.cells #[.pointer (some ⟨C, 0, none⟩)] 29 (0, 0)) → w'.heap[R + 2]? = some (.cells #[.pointer (some ⟨D, 0, none⟩)] 29 (0, 0)) →
      Tells 5 Try.prog 48 #[.pointer (some ⟨R + 1, 0, none⟩), .pointer (some ⟨R + 2, 0, none⟩)] (fun p : Int × Int => #[.int .i64 p.1, .int .i64 p.2]) (OnlyIn (Two C D)) (Soft (False, 0) (Four C D (R + 1) (R + 2))) OkLeap (fun xs => coll xs = interP g h) (fun _ => True) w') := Lib.hid fun w' hb h1 h2 =>
    leaps_told 5 C D (R + 1) (R + 2) g h w' (by omega) hg hh hCD (hc.below hb) (hd.below hb) h1 h2 ⟨by omega, by omega, by omega, by omega⟩
  have HGL := Lib.hid hg.len
  have HIL := Lib.hid (inter_length' g h)
  have HCD := Lib.hid (And.intro hC hD)
  clear hg hh hc hd hC hD hCD
  refine callsIn_of_wp_marks Try.func21 rfl trivial ?_ rfl
  simp only [Try.ntmps21, List.size_toArray, List.length_cons, List.length_nil, Nat.reduceAdd, Nat.reduceSub, Array.replicate_succ, Array.replicate_zero, List.push_toArray, List.append_toArray, List.nil_append, List.cons_append]
  gi_wp2_with (first
    | (refine ⟨trivial, ?_⟩; gi_at_call 36; refine (callsIn_wide.2 (cur_leaps _ _ _)).mono ?_)
    | (gi_at_call 36; refine (callsIn_wide.2 (cur_leaps _ _ _)).mono ?_))
  first | rintro e w3 rfl e1 e2 hb3 hz3 | rintro e w3 ⟨rfl, e1, e2, hb3, hz3⟩
  rw [World.size_alloc, ← hR] at e1 e2 hz3
  have hb1 : Below w.heap.size w (w.alloc (.cells #[.slice none 0 0] 23)) := (Below.refl _ w).alloc (Nat.le_refl _) _
  have hr1 : (w.alloc (.cells #[.slice none 0 0] 23)).heap[R]? = some (.cells #[.slice none 0 0] 23 (0, 0)) := by rw [hR]; exact heap_alloc_new w _
  have hr3 : w3.heap[R]? = some (.cells #[.slice none 0 0] 23 (0, 0)) := (hb3.block R (lt_of_block hr1)).trans hr1
  have hb03 := hb1.trans (hb3.mono hb1.size)
  have hi0' : BothI C D w R [] w3 := ⟨⟨.slice none 0 0, hr3, World.ownsRow_nil _ _ _ _⟩, ⟨e1, e2⟩, OnlyIn.of_below hb03⟩
  have HI0 := Lib.hid hi0'
  have HT := Lib.hid (HTOLD.out w3 hb03 e1 e2)
  have HZ3 := Lib.hid hz3
  have HR := Lib.hid hR
  gi_wp2
  rw [← hR]
  clear hi0' hr3 hr1 hb03 hb1 e1 e2 hz3 hb3 hR
  refine wpIn_range_tells (by omega) (gf := 48) (lb := #[.pointer (some ⟨R + 1, 0, none⟩), .pointer (some ⟨R + 2, 0, none⟩)]) rfl (enters_of Try.func48 (by kernel_rfl) rfl)
    HT.out (fun hb => OnlyIn.of_below hb) (fun {A B k o} hk hmv ho hnc => (hmv.block k (lt_of_block' ho) (fun h => by have := HZ3.out; have := HCD.out; have := HR.out; rcases h with h | h <;> omega)).trans ho)
    Soft.trans (fun W lp o o' hlp ho hc => soft_putObj ho hc (fun h => by have := HZ3.out; have := HCD.out; have := HR.out; rcases h with h | h | h | h <;> omega)) (fun _ => rfl)
    (BothI C D w R) (fun _ _ _ => False) (fun s A' B' h hmv => both_moves HCD.out.1 HCD.out.2 HR.out h hmv) (fun s => both_firm (by have := HZ3.out; have := HR.out; omega)) (fun _ _ => Firm.pure) (fun s x => Firm.pure) HI0.out
    (fun v => { tmps := #[.pointer (some ⟨C, 0, none⟩), .pointer (some ⟨D, 0, none⟩), undef, undef, .slice none 0 0, .pointer (some ⟨R, 0, none⟩), .int .i64 v.1, .int .i64 v.2, .pointer (some ⟨C, 0, none⟩), .bool false, .bool false, .pointer (some ⟨D, 0, none⟩), .bool false, .bool false,
      .pointer (some ⟨C, 0, none⟩), .pointer (some ⟨D, 0, none⟩), .func (.func 48) #[] #[.pointer (some ⟨R + 1, 0, none⟩), .pointer (some ⟨R + 2, 0, none⟩)], .int .i64 v.1, .int .i64 v.2, undef, undef, undef, undef, undef, undef, undef, undef], defers := [] }) ?assign ?body ?done ?stop
  case assign =>
    intro lp x W K' hK'
    gi_wp2
    exact hK'
  case stop => intro _ _ _ _ _ _ h; exact h.elim
  case body =>
    rintro lp pre ⟨x, y⟩ W ⟨⟨v, hbox, hown⟩, ⟨hp1, hp2⟩, hon⟩ hok
    simp only
    have c0 := cell_of_one hbox
    have f0 := free_of_one hbox
    by_cases hxy : x = y
    · have hq : (x == y) = true := by rw [hxy]; exact beq_self_eq_true _
      obtain ⟨cur, hcur⟩ : ∃ cur, cur = coll pre := ⟨_, rfl⟩
      have hnx : coll (pre ++ [(x, y)]) = cur ++ [x] := by rw [hcur]; exact coll_same _ _ _ hxy
      have hlen : cur.length ≤ 1000 := by rw [hcur]; exact hok
      rw [← hcur] at hown
      obtain ⟨AA, cc, rfl, _, _⟩ := owned_row hown
      have HOW := Lib.hid hown
      have HBOX := Lib.hid hbox
      have HP1 := Lib.hid hp1
      have HP2 := Lib.hid hp2
      have HON := Lib.hid hon
      have HNX := Lib.hid hnx
      have hsz := hon.size
      have hlt := lt_of_block' hbox
      clear hown hp1 hp2 hon hnx hcur hok hxy hbox
      gi_wp2_with (gi_at_builtin; refine wpListIn_append_own _ rfl (.tmp 22) (.tmp 24) 23 rfl w.heap.size 3 i0 _ 1 8 Try.underlying23 hi0 hz0 hz1 hz2 rfl (by omega) _ cur.length (ints cur) rfl (HOW.out.alloc _) ⟨W.heap.size, 0, none⟩ 1 1 [.int .i64 x] rfl rfl (news_at W [.int .i64 x] 3) (by intro u hu; simp at hu; subst hu; rfl) (by unfold maxLen; omega) (by omega) (by simp; omega) ?_)
      intro v9 w9 hown9 hg9 _
      obtain ⟨A9, c9, rfl, _, _⟩ := owned_row hown9
      have hal : Below W.heap.size W (W.alloc (.cells #[.int .i64 x] 3)) := (Below.refl _ W).alloc (Nat.le_refl _) _
      have hapart : ∀ (k : Nat) (cs : Array Value) (t : TypeId) (fr : Nat × Nat), W.heap[k]? = some (.cells cs t fr) → t ≠ 3 → w9.heap[k]? = some (.cells cs t fr) := fun k cs t fr hk ht => by
        have hk1 := (hal.block k (lt_of_block' hk)).trans hk
        refine (hg9.block k (lt_of_block' hk1) (fun e => ?_)).trans hk1
        obtain ⟨cs', fr', h'⟩ := owned_type HOW.out e.symm
        rw [h'] at hk
        injection hk with hk
        injection hk with _ hk _
        exact ht hk.symm
      have hb9 := hapart R _ _ _ HBOX.out (by decide)
      have p19 := hapart _ _ _ _ HP1.out (by decide)
      have p29 := hapart _ _ _ _ HP2.out (by decide)
      have c9' := cell_of_one hb9
      have f9' := free_of_one hb9
      obtain ⟨w10, hw10⟩ : ∃ w10, w10 = w9.setCell ⟨R, 0, none⟩ (.slice A9 (cur.length + 1) c9) := ⟨_, rfl⟩
      have hR10 : ∀ k, k ≠ R → w10.heap[k]? = w9.heap[k]? := fun k hk => by rw [hw10]; exact Below.heap_setCell _ _ _ _ hk
      have hne9 : (Value.slice A9 (cur.length + 1) c9).ownBlock ≠ some R := fun e => by
        obtain ⟨cs', fr', h'⟩ := owned_type hown9 e
        rw [hb9] at h'
        injection h' with h'
        injection h' with _ h' _
        exact absurd h' (by decide)
      have hb10 : Below w.heap.size W w10 := by
        rw [hw10]
        exact ((hal.mono hsz).grown hg9 (Nat.le_trans hsz hal.size) (fun k e => (HOW.out.lt k e).1)).setCell (by show w.heap.size ≤ R; have := HR.out; omega) _
      have hi10 : BothI C D w R (pre ++ [(x, y)]) w10 := by
        refine ⟨⟨.slice A9 (cur.length + 1) c9, by rw [hw10]; exact one_setCell hb9, ?_⟩, ⟨(hR10 _ (by omega)).trans p19, (hR10 _ (by omega)).trans p29⟩, HON.out.then_below hb10⟩
        rw [HNX.out, hw10]
        exact owned_setCell (by simpa [ints] using hown9) hne9 _
      have hso : Soft (False, 0) (Four C D (R + 1) (R + 2)) W w10 := by
        refine ⟨hb10.os, hb10.tape, hb10.output, hb10.size, fun k hk => ?_⟩
        by_cases hkR : k = R
        · subst hkR
          exact .inr ⟨(fun h => by have := HCD.out; have := HR.out; rcases h with h | h | h | h <;> omega), _, HBOX.out, fun cs t fr e => by injection e with _ e _; rw [← e]; rintro (h | h | h | ⟨h, _⟩); all_goals first | exact absurd h (by decide) | exact h.elim⟩
        · by_cases hkg : (Value.slice AA cur.length cc).ownBlock = some k
          · obtain ⟨cs', fr', h'⟩ := owned_type HOW.out hkg
            refine .inr ⟨(fun h => ?_), _, h', fun cs t fr e => by injection e with _ e _; rw [← e]; rintro (h | h | h | ⟨h, _⟩); all_goals first | exact absurd h (by decide) | exact h.elim⟩
            have hge := (HOW.out.lt k hkg).1
            rcases h with h | h | h | h
            · have := HCD.out; omega
            · have := HCD.out; omega
            · rw [h, HP1.out] at h'; injection h' with h'; injection h' with _ h' _; exact absurd h' (by decide)
            · rw [h, HP2.out] at h'; injection h' with h'; injection h' with _ h' _; exact absurd h' (by decide)
          · refine .inl ((hR10 k hkR).trans ?_)
            exact (hg9.block k (by have := hal.size; omega) (fun e => hkg e.symm)).trans (hal.block k hk)
      have hko : KeepsOthers W w10 := by
        rw [hw10]
        exact ((KeepsOthers.alloc W _).trans (KeepsOthers.of_grownBy hg9 fun j o ej hj => by
          obtain ⟨cs', fr', h'⟩ := owned_type HOW.out ej
          have hj1 := (hal.block j (lt_of_block' h')).trans h'
          rw [hj1] at hj
          injection hj with hj
          subst hj
          rfl)).trans (KeepsOthers.setCell _ _ _)
      have HF := Lib.hid (And.intro hko (And.intro hso hi10))
      have HW10 := Lib.hid hw10
      clear hko hso hi10 hb10 hne9 hR10 hw10 hg9 hown9 hapart p19 p29 hb9 hal c0 f0
      gi_wp2
      rw [← HW10.out]
      exact HF.out
    · have hq : (x == y) = false := by rw [beq_eq_false_iff_ne]; exact hxy
      have hi : BothI C D w R (pre ++ [(x, y)]) W := by
        unfold BothI
        rw [coll_other _ _ _ hxy]
        exact ⟨⟨v, hbox, hown⟩, ⟨hp1, hp2⟩, hon⟩
      have HF := Lib.hid hi
      clear hxy hi hbox hown hp1 hp2 hon hok
      gi_wp2
      exact ⟨KeepsOthers.refl _, Soft.of_below (Below.refl _ _), HF.out⟩
  case done =>
    rintro D' ys W hD hys ⟨⟨v, hbox, hown⟩, ⟨hp1, hp2⟩, hon⟩ hK'
    rw [hys] at hown
    have c0 := cell_of_one hbox
    have HOW := Lib.hid hown
    have HON := Lib.hid hon
    clear hbox hown hp1 hp2 hon hys
    gi_wp2
    refine ⟨by simp, .inl ⟨_, _, rfl, run_takeDeferred hK', ?_⟩⟩
    refine ⟨_, results_tmp rfl _ _ _, ?_⟩
    refine ⟨v, rfl, cellsKept_owned HOW.out (kept_putObj hK' rfl), HON.out.then_below ?_⟩
    exact (Below.refl _ W).grown (grownBy_putObj' W D' _) HON.out.size (fun k e => by cases e; have := HR.out; have := HZ3.out; omega)
end Go.Proofs.Ytnmnbckaccicaaa
