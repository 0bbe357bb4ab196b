/- Texts laid together: RefLeaf12, RefDeep12, RefMay12, MayAt12, KidsG12. -/
import Derived.Test.YtolfkhflbjnakaaGreatDoorNAQ11
import Derived.Test.YtolfkhflbjnakaaGreatDoorNAQ06
import Derived.BigCall
import Derived.Laws.Small
import Derived.Laws.EntriesVeiled
import Derived.Test.YtolfkhflbjnakaaGreatDoorNAQ10

/- What the document's own answers of a term, and of a phrase. -/
namespace Go.Proofs.YtolfkhflbjnakaaGreatDoor
open Go Go.RowKit
set_option linter.unusedVariables false

/-- The first word that may not be, looked for from place j on. -/
def OwnRel (ws : List Nm) (B : Bool) (w1 : World) (r i : Value) (wr : World) : Prop := r = .int .i64 0 ∧ ∃ j : Nat, j ≤ ws.length ∧ i = .int .i64 (j : Int) ∧ Below w1.heap.size w1 wr ∧ badW (ws.drop j) = B

theorem own_leaf {k : Int} {t : Tm} {ws : List Nm} {m : Nat} (h : k = 1 ∨ k = 5) : ownQ k t ws m = if 0 < m ∨ (k = 1 ∧ ws ≠ []) ∨ (k = 5 ∧ t.2 ≠ []) then 9 else if nameB t.1 = false then 4 else if k = 1 then if mayWord t.2 = true then 0 else 9 else if ws = [] ∨ badW ws = true then 9 else if 6 < ws.length then 7 else 0 := by
  rw [ownQ, if_neg (by omega), if_neg (by omega)]
set_option maxHeartbeats 4000000 in
set_option maxRecDepth 100000 in
theorem ref12_own_term (t : Tm) (f x : ByteArray) (A : Option Addr) (ws : List Nm) (n c : Nat) (K : Option Addr) (m d : Nat) (w : World) (hf : f.data.toList = t.1) (hx : x.data.toList = t.2) (hn : ws.length = n) (hA : Row w w.heap.size A (strs ws))
    (hs : f.size ≤ 100000000 ∧ x.size ≤ 100000000) (hws : ws.length ≤ 9 ∧ ∀ w ∈ ws, w.length ≤ 100000000) (hm : m ≤ 9) :
    Calls Tryz.prog 75 #[qV 1 f x A n c K m d] w fun e w' => e = .returned (.int .i64 (ownQ 1 t ws m)) ∧ Below w.heap.size w w' := by
  obtain ⟨R, hR⟩ : ∃ R, R = ownQ 1 t ws m := ⟨_, rfl⟩
  rw [← hR]
  have HR := Lib.hid hR
  have HA := Lib.hid hA
  have HWS := Lib.hid hws
  have hn9 : n ≤ 9 := by omega
  clear hR hA hws
  obtain ⟨w1, hw1⟩ : ∃ w1, w1 = boxQ w 1 f x A n c K m d := ⟨_, rfl⟩
  have HB : Hid (∀ wr, Below w1.heap.size w1 wr → Below w.heap.size w wr ∧ wr.cell? ⟨w.heap.size, 0, none⟩ = some (.int .i64 1) ∧ wr.cell? ⟨w.heap.size, 1, none⟩ = some (.string f) ∧ wr.cell? ⟨w.heap.size, 2, none⟩ = some (.string x) ∧ wr.cell? ⟨w.heap.size, 3, none⟩ = some (.slice A n c) ∧ wr.cell? ⟨w.heap.size, 4, none⟩ = some (.slice K m d)) := Lib.hid fun wr h => by
    rw [hw1] at h
    exact boxQ_of h
  have HW1 := Lib.hid hw1
  have HT1 : Hid (∀ w', Calls Tryz.prog 108 #[.agg #[.string f, .string x]] w' fun e w'' => e = .returned (.bool (isNone f x)) ∧ Below w'.heap.size w' w'') := Lib.hid fun w' => ref12_noTerm f x w'
  have HT2 : Hid (∀ w', Calls Tryz.prog 31 #[.string f] w' fun e w'' => e = .returned (.bool (nameB t.1)) ∧ Below w'.heap.size w' w'') := Lib.hid fun w' => by rw [← hf]; exact ref08_Name f w' (by omega)
  have hNone : isNone f x = decide (t = ([], [])) := by
    obtain ⟨t1, t2⟩ := t
    rw [isNone, hf, hx, decide_eq_decide, Prod.mk.injEq]
  obtain ⟨z, hz⟩ : ∃ z, z = isNone f x := ⟨_, rfl⟩
  rw [← hz] at HT1 hNone
  obtain ⟨y, hy⟩ : ∃ y, y = nameB t.1 := ⟨_, rfl⟩
  rw [← hy] at HT2
  have HZ := Lib.hid hNone
  have HY := Lib.hid hy
  have HF := Lib.hid (And.intro hf (And.intro hx hn))
  clear hz hNone hy hw1 hf hx hn
  rw [own_leaf (.inl rfl)] at HR
  by_cases hm0 : m = 0
  · subst hm0
    by_cases hn0 : n = 0
    · have hw0 : ws = [] := List.eq_nil_of_length_eq_zero (by have := HF.out.2.2; omega)
      subst hn0
      have HR2 : Hid (R = if nameB t.1 = false then 4 else if mayWord t.2 = true then 0 else 9) := Lib.hid (by rw [HR.out, if_neg (fun hh => hh.elim (fun h => absurd h (by decide)) fun hh => hh.elim (fun h => h.2 hw0) fun h => absurd h.1 (by decide)), if_pos rfl])
      clear hw0
      cases y with
      | false =>
        have H : Hid (4 = R) := Lib.hid (by rw [HR2.out, if_pos HY.out.symm])
        go_enter Tryz.func75, Tryz.ntmps75
        go_wp2_with fail
        rw [show w.alloc _ = w1 from HW1.out.symm]
        go_wp2_with (go_at_call 108; (with_reducible refine (HT1.out _).mono ?_); rintro e w2 ⟨rfl, hb2⟩; obtain ⟨hb0, a0, a1, a2, a3, a4⟩ := HB.out _ hb2; have HB2 := Lib.hid hb2; clear hb2)
        go_wp2_with (go_at_call 31; (with_reducible refine (HT2.out _).mono ?_); rintro e w3 ⟨rfl, hb3⟩; have HB3 := Lib.hid (HB2.out.trans (hb3.mono HB2.out.size)); clear hb0 a0 a1 a2 a3 a4 hb3; obtain ⟨hb0, a0, a1, a2, a3, a4⟩ := HB.out _ HB3.out; have HB0 := Lib.hid hb0; clear hb0)
        go_ret
        exact ⟨ret_int H.out, HB0.out⟩
      | true =>
        obtain ⟨b, hb⟩ : ∃ b, b = mayWord t.2 := ⟨_, rfl⟩
        have HT3 : Hid (∀ w', Calls Tryz.prog 32 #[.string x] w' fun e w'' => e = .returned (.bool b) ∧ Below w'.heap.size w' w'') := Lib.hid fun w' => by rw [hb, ← HF.out.2.1]; exact ref_May x w' (by omega)
        cases b with
        | false =>
          have H : Hid (9 = R) := Lib.hid (by rw [HR2.out, if_neg (by rw [← HY.out]; decide), if_neg (by rw [← hb]; decide)])
          clear hb
          go_enter Tryz.func75, Tryz.ntmps75
          go_wp2_with fail
          rw [show w.alloc _ = w1 from HW1.out.symm]
          go_wp2_with (go_at_call 108; (with_reducible refine (HT1.out _).mono ?_); rintro e w2 ⟨rfl, hb2⟩; obtain ⟨hb0, a0, a1, a2, a3, a4⟩ := HB.out _ hb2; have HB2 := Lib.hid hb2; clear hb2)
          go_wp2_with (go_at_call 31; (with_reducible refine (HT2.out _).mono ?_); rintro e w3 ⟨rfl, hb3⟩; have HB3 := Lib.hid (HB2.out.trans (hb3.mono HB2.out.size)); clear hb0 a0 a1 a2 a3 a4 hb3; obtain ⟨hb0, a0, a1, a2, a3, a4⟩ := HB.out _ HB3.out; have HB0 := Lib.hid hb0; clear hb0)
          go_wp2_with (go_at_call 32; (with_reducible refine (HT3.out _).mono ?_); rintro e w4 ⟨rfl, hb4⟩; have HB4 := Lib.hid (HB0.out.trans (hb4.mono HB0.out.size)); clear hb4)
          go_ret
          exact ⟨ret_int H.out, HB4.out⟩
        | true =>
          have H : Hid (0 = R) := Lib.hid (by rw [HR2.out, if_neg (by rw [← HY.out]; decide), if_pos hb.symm])
          clear hb
          go_enter Tryz.func75, Tryz.ntmps75
          go_wp2_with fail
          rw [show w.alloc _ = w1 from HW1.out.symm]
          go_wp2_with (go_at_call 108; (with_reducible refine (HT1.out _).mono ?_); rintro e w2 ⟨rfl, hb2⟩; obtain ⟨hb0, a0, a1, a2, a3, a4⟩ := HB.out _ hb2; have HB2 := Lib.hid hb2; clear hb2)
          go_wp2_with (go_at_call 31; (with_reducible refine (HT2.out _).mono ?_); rintro e w3 ⟨rfl, hb3⟩; have HB3 := Lib.hid (HB2.out.trans (hb3.mono HB2.out.size)); clear hb0 a0 a1 a2 a3 a4 hb3; obtain ⟨hb0, a0, a1, a2, a3, a4⟩ := HB.out _ HB3.out; have HB0 := Lib.hid hb0; clear hb0)
          go_wp2_with (go_at_call 32; (with_reducible refine (HT3.out _).mono ?_); rintro e w4 ⟨rfl, hb4⟩; have HB4 := Lib.hid (HB0.out.trans (hb4.mono HB0.out.size)); clear hb4)
          go_ret
          exact ⟨ret_int H.out, HB4.out⟩
    · have H : Hid (9 = R) := Lib.hid (by rw [HR.out, if_pos (.inr (.inl ⟨rfl, fun h => hn0 (by rw [← HF.out.2.2, h]; rfl)⟩))])
      have e0 : 0 < n := by omega
      clear hn0
      go_enter Tryz.func75, Tryz.ntmps75
      go_wp2_with fail
      rw [show w.alloc _ = w1 from HW1.out.symm]
      go_wp2_with (go_at_call 108; (with_reducible refine (HT1.out _).mono ?_); rintro e w2 ⟨rfl, hb2⟩; obtain ⟨hb0, a0, a1, a2, a3, a4⟩ := HB.out _ hb2; have HB2 := Lib.hid hb2; clear hb2)
      go_wp2_with (go_at_call 31; (with_reducible refine (HT2.out _).mono ?_); rintro e w3 ⟨rfl, hb3⟩; have HB3 := Lib.hid (HB2.out.trans (hb3.mono HB2.out.size)); clear hb0 a0 a1 a2 a3 a4 hb3; obtain ⟨hb0, a0, a1, a2, a3, a4⟩ := HB.out _ HB3.out; have HB0 := Lib.hid hb0; clear hb0)
      go_ret
      exact ⟨ret_int H.out, HB0.out⟩
  · have H : Hid (9 = R) := Lib.hid (by rw [HR.out, if_pos (.inl (by omega))])
    have e0 : 0 < m := by omega
    clear hm0
    go_enter Tryz.func75, Tryz.ntmps75
    go_wp2_with fail
    rw [show w.alloc _ = w1 from HW1.out.symm]
    go_wp2_with (go_at_call 108; (with_reducible refine (HT1.out _).mono ?_); rintro e w2 ⟨rfl, hb2⟩; obtain ⟨hb0, a0, a1, a2, a3, a4⟩ := HB.out _ hb2; have HB2 := Lib.hid hb2; clear hb2)
    go_wp2_with (go_at_call 31; (with_reducible refine (HT2.out _).mono ?_); rintro e w3 ⟨rfl, hb3⟩; have HB3 := Lib.hid (HB2.out.trans (hb3.mono HB2.out.size)); clear hb0 a0 a1 a2 a3 a4 hb3; obtain ⟨hb0, a0, a1, a2, a3, a4⟩ := HB.out _ HB3.out; have HB0 := Lib.hid hb0; clear hb0)
    go_ret
    exact ⟨ret_int H.out, HB0.out⟩
set_option maxHeartbeats 4000000 in
set_option maxRecDepth 100000 in
theorem ref12_own_phrase (t : Tm) (f x : ByteArray) (A : Option Addr) (ws : List Nm) (n c : Nat) (K : Option Addr) (m d : Nat) (w : World) (hf : f.data.toList = t.1) (hx : x.data.toList = t.2) (hn : ws.length = n) (hA : Row w w.heap.size A (strs ws))
    (hs : f.size ≤ 100000000 ∧ x.size ≤ 100000000) (hws : ws.length ≤ 9 ∧ ∀ w ∈ ws, w.length ≤ 100000000) (hm : m ≤ 9) :
    Calls Tryz.prog 75 #[qV 5 f x A n c K m d] w fun e w' => e = .returned (.int .i64 (ownQ 5 t ws m)) ∧ Below w.heap.size w w' := by
  obtain ⟨R, hR⟩ : ∃ R, R = ownQ 5 t ws m := ⟨_, rfl⟩
  rw [← hR]
  have HR := Lib.hid hR
  have HA := Lib.hid hA
  have HWS := Lib.hid hws
  have hn9 : n ≤ 9 := by omega
  clear hR hA hws
  obtain ⟨w1, hw1⟩ : ∃ w1, w1 = boxQ w 5 f x A n c K m d := ⟨_, rfl⟩
  have HB : Hid (∀ wr, Below w1.heap.size w1 wr → Below w.heap.size w wr ∧ wr.cell? ⟨w.heap.size, 0, none⟩ = some (.int .i64 5) ∧ wr.cell? ⟨w.heap.size, 1, none⟩ = some (.string f) ∧ wr.cell? ⟨w.heap.size, 2, none⟩ = some (.string x) ∧ wr.cell? ⟨w.heap.size, 3, none⟩ = some (.slice A n c) ∧ wr.cell? ⟨w.heap.size, 4, none⟩ = some (.slice K m d)) := Lib.hid fun wr h => by
    rw [hw1] at h
    exact boxQ_of h
  have HW1 := Lib.hid hw1
  have HT1 : Hid (∀ w', Calls Tryz.prog 108 #[.agg #[.string f, .string x]] w' fun e w'' => e = .returned (.bool (isNone f x)) ∧ Below w'.heap.size w' w'') := Lib.hid fun w' => ref12_noTerm f x w'
  have HT2 : Hid (∀ w', Calls Tryz.prog 31 #[.string f] w' fun e w'' => e = .returned (.bool (nameB t.1)) ∧ Below w'.heap.size w' w'') := Lib.hid fun w' => by rw [← hf]; exact ref08_Name f w' (by omega)
  have hNone : isNone f x = decide (t = ([], [])) := by
    obtain ⟨t1, t2⟩ := t
    rw [isNone, hf, hx, decide_eq_decide, Prod.mk.injEq]
  obtain ⟨z, hz⟩ : ∃ z, z = isNone f x := ⟨_, rfl⟩
  rw [← hz] at HT1 hNone
  obtain ⟨y, hy⟩ : ∃ y, y = nameB t.1 := ⟨_, rfl⟩
  rw [← hy] at HT2
  have HZ := Lib.hid hNone
  have HY := Lib.hid hy
  have HF := Lib.hid (And.intro hf (And.intro hx hn))
  clear hz hNone hy hw1 hf hx hn
  rw [own_leaf (.inr rfl)] at HR
  by_cases hm0 : m = 0
  · subst hm0
    by_cases hx0 : t.2 = []
    · have hx1 := toList_nil (show x.data.toList = [] by rw [HF.out.2.1]; exact hx0)
      have HR2 : Hid (R = if nameB t.1 = false then 4 else if ws = [] ∨ badW ws = true then 9 else if 6 < ws.length then 7 else 0) := Lib.hid (by rw [HR.out, if_neg (fun hh => hh.elim (fun h => absurd h (by decide)) fun hh => hh.elim (fun h => absurd h.1 (by decide)) fun h => h.2 hx0), if_neg (c := (5 : Int) = 1) (by decide)])
      clear hx0
      cases y with
      | false =>
        have H : Hid (4 = R) := Lib.hid (by rw [HR2.out, if_pos HY.out.symm])
        go_enter Tryz.func75, Tryz.ntmps75
        go_wp2_with fail
        rw [show w.alloc _ = w1 from HW1.out.symm]
        go_wp2_with (go_at_call 108; (with_reducible refine (HT1.out _).mono ?_); rintro e w2 ⟨rfl, hb2⟩; obtain ⟨hb0, a0, a1, a2, a3, a4⟩ := HB.out _ hb2; have HB2 := Lib.hid hb2; clear hb2)
        go_wp2_with (go_at_call 31; (with_reducible refine (HT2.out _).mono ?_); rintro e w3 ⟨rfl, hb3⟩; have HB3 := Lib.hid (HB2.out.trans (hb3.mono HB2.out.size)); clear hb0 a0 a1 a2 a3 a4 hb3; obtain ⟨hb0, a0, a1, a2, a3, a4⟩ := HB.out _ HB3.out; have HB0 := Lib.hid hb0; clear hb0)
        go_ret
        exact ⟨ret_int H.out, HB0.out⟩
      | true =>
        by_cases hn0 : n = 0
        · have hw0 : ws = [] := List.eq_nil_of_length_eq_zero (by have := HF.out.2.2; omega)
          have H : Hid (9 = R) := Lib.hid (by rw [HR2.out, if_neg (by rw [← HY.out]; decide), if_pos (.inl hw0)])
          subst hn0
          clear hw0
          go_enter Tryz.func75, Tryz.ntmps75
          go_wp2_with fail
          rw [show w.alloc _ = w1 from HW1.out.symm]
          go_wp2_with (go_at_call 108; (with_reducible refine (HT1.out _).mono ?_); rintro e w2 ⟨rfl, hb2⟩; obtain ⟨hb0, a0, a1, a2, a3, a4⟩ := HB.out _ hb2; have HB2 := Lib.hid hb2; clear hb2)
          go_wp2_with (go_at_call 31; (with_reducible refine (HT2.out _).mono ?_); rintro e w3 ⟨rfl, hb3⟩; have HB3 := Lib.hid (HB2.out.trans (hb3.mono HB2.out.size)); clear hb0 a0 a1 a2 a3 a4 hb3; obtain ⟨hb0, a0, a1, a2, a3, a4⟩ := HB.out _ HB3.out; have HB0 := Lib.hid hb0; clear hb0)
          go_ret
          exact ⟨ret_int H.out, HB0.out⟩
        · have hw0 : ws ≠ [] := fun h => hn0 (by rw [← HF.out.2.2, h]; rfl)
          have e0 : 0 < n := by omega
          have e1 : ((n : Int) == 0) = false := by rw [beq_eq_false_iff_ne]; omega
          obtain ⟨B, hB⟩ : ∃ B, B = badW ws := ⟨_, rfl⟩
          have HR3 : Hid (R = if B = true then 9 else if 6 < ws.length then 7 else 0) := Lib.hid (by
            rw [HR2.out, if_neg (by rw [← HY.out]; decide), ← hB]
            cases B with
            | true => rw [if_pos (.inr rfl), if_pos rfl]
            | false => rw [if_neg (c := ws = [] ∨ false = true) (fun h => h.elim hw0 (fun h => by cases h)), if_neg (c := false = true) (by decide)])
          have HB5 : Hid (badW (ws.drop 0) = B) := Lib.hid (by rw [List.drop_zero, hB])
          have hn : ws.length = n := HF.out.2.2
          subst hn
          clear hn0 hw0 hB
          go_enter Tryz.func75, Tryz.ntmps75
          go_wp2_with fail
          rw [show w.alloc _ = w1 from HW1.out.symm]
          go_wp2_with (go_at_call 108; (with_reducible refine (HT1.out _).mono ?_); rintro e w2 ⟨rfl, hb2⟩; obtain ⟨hb0, a0, a1, a2, a3, a4⟩ := HB.out _ hb2; have HB2 := Lib.hid hb2; clear hb2)
          go_wp2_with (go_at_call 31; (with_reducible refine (HT2.out _).mono ?_); rintro e w3 ⟨rfl, hb3⟩; have HB3 := Lib.hid (HB2.out.trans (hb3.mono HB2.out.size)); clear hb0 a0 a1 a2 a3 a4 hb3; obtain ⟨hb0, a0, a1, a2, a3, a4⟩ := HB.out _ HB3.out; have HB0 := Lib.hid hb0; clear hb0)
          go_wp2
          go_loopw [2, 6] (fun r i wr => OwnRel ws B w1 r i wr) (fun _ i _ => ws.length - (intOf i).toNat)
          case atStart => exact ⟨rfl, 0, by omega, rfl, HB3.out, HB5.out⟩
          case round =>
            obtain ⟨rfl, j, hj, rfl, hbw, hgo⟩ := hrel
            obtain ⟨hb0, a0, a1, a2, a3, a4⟩ := HB.out _ hbw
            clear a0 a1 a2 a4
            by_cases hlt : j < ws.length
            · obtain ⟨b1, o1, e1, hb1, hc1⟩ := row_str (HA.out.below hb0) hlt
              subst e1
              rw [badW_at hlt] at hgo
              obtain ⟨u, hu, hu2⟩ := as_text ws[j]
              rw [← hu] at hc1
              have hul := HWS.out.2 _ (List.getElem_mem hlt)
              have HT3 : Hid (∀ w', Calls Tryz.prog 32 #[.string u] w' fun e w'' => e = .returned (.bool (mayWord ws[j])) ∧ Below w'.heap.size w' w'') := Lib.hid fun w' => by rw [← hu2]; exact ref_May u w' (by rw [hu, size_nm]; omega)
              have HB0' := Lib.hid hb0
              have HBW := Lib.hid hbw
              clear hu hu2 hul hb0 hbw
              cases hmw : mayWord ws[j] with
              | false =>
                rw [hmw] at HT3 hgo
                have H : Hid (9 = R) := Lib.hid (by rw [HR3.out, if_pos (by rw [← hgo]; rfl)])
                clear hgo hmw
                go_wp2_with (go_at_call 32; (with_reducible refine (HT3.out _).mono ?_); rintro e w4 ⟨rfl, hb4⟩; have HB4 := Lib.hid (HB0'.out.trans (hb4.mono HB0'.out.size)); clear hb4)
                go_ret
                exact ⟨ret_int H.out, HB4.out⟩
              | true =>
                rw [hmw] at HT3 hgo
                have HG : Hid (badW (ws.drop (j + 1)) = B) := Lib.hid (by rw [← hgo]; rfl)
                clear hgo hmw
                go_wp2_with (go_at_call 32; (with_reducible refine (HT3.out _).mono ?_); rintro e w4 ⟨rfl, hb4⟩; have HB4 := Lib.hid (HBW.out.trans (hb4.mono HBW.out.size)); clear hb4)
                go_roundw
                case rel => exact ⟨rfl, j + 1, by omega, by go_num, HB4.out, HG.out⟩
                case measure => simp [intOf]; omega
            · have : j = ws.length := by omega
              subst this
              rw [List.drop_length, badW] at hgo
              have HB0' := Lib.hid hb0
              by_cases h6 : 6 < ws.length
              · have H : Hid (7 = R) := Lib.hid (by rw [HR3.out, ← hgo, if_neg (by decide), if_pos h6])
                clear hgo hb0 hbw
                go_wp2
                go_ret
                exact ⟨ret_int H.out, HB0'.out⟩
              · have H : Hid (0 = R) := Lib.hid (by rw [HR3.out, ← hgo, if_neg (by decide), if_neg h6])
                have h6' : ws.length ≤ 6 := by omega
                clear hgo hb0 hbw h6
                go_wp2
                go_ret
                exact ⟨ret_int H.out, HB0'.out⟩
    · have hx1 := toList_some (show ¬ x.data.toList = [] by rw [HF.out.2.1]; exact hx0)
      have hx2 : (!x.toList.isEmpty) = true := by simpa using hx1
      have H : Hid (9 = R) := Lib.hid (by rw [HR.out, if_pos (.inr (.inr ⟨rfl, hx0⟩))])
      clear hx0
      go_enter Tryz.func75, Tryz.ntmps75
      go_wp2_with fail
      rw [show w.alloc _ = w1 from HW1.out.symm]
      go_wp2_with (go_at_call 108; (with_reducible refine (HT1.out _).mono ?_); rintro e w2 ⟨rfl, hb2⟩; obtain ⟨hb0, a0, a1, a2, a3, a4⟩ := HB.out _ hb2; have HB2 := Lib.hid hb2; clear hb2)
      go_wp2_with (go_at_call 31; (with_reducible refine (HT2.out _).mono ?_); rintro e w3 ⟨rfl, hb3⟩; have HB3 := Lib.hid (HB2.out.trans (hb3.mono HB2.out.size)); clear hb0 a0 a1 a2 a3 a4 hb3; obtain ⟨hb0, a0, a1, a2, a3, a4⟩ := HB.out _ HB3.out; have HB0 := Lib.hid hb0; clear hb0)
      go_ret
      exact ⟨ret_int H.out, HB0.out⟩
  · have H : Hid (9 = R) := Lib.hid (by rw [HR.out, if_pos (.inl (by omega))])
    have e0 : 0 < m := by omega
    clear hm0
    go_enter Tryz.func75, Tryz.ntmps75
    go_wp2_with fail
    rw [show w.alloc _ = w1 from HW1.out.symm]
    go_wp2_with (go_at_call 108; (with_reducible refine (HT1.out _).mono ?_); rintro e w2 ⟨rfl, hb2⟩; obtain ⟨hb0, a0, a1, a2, a3, a4⟩ := HB.out _ hb2; have HB2 := Lib.hid hb2; clear hb2)
    go_wp2_with (go_at_call 31; (with_reducible refine (HT2.out _).mono ?_); rintro e w3 ⟨rfl, hb3⟩; have HB3 := Lib.hid (HB2.out.trans (hb3.mono HB2.out.size)); clear hb0 a0 a1 a2 a3 a4 hb3; obtain ⟨hb0, a0, a1, a2, a3, a4⟩ := HB.out _ HB3.out; have HB0 := Lib.hid hb0; clear hb0)
    go_ret
    exact ⟨ret_int H.out, HB0.out⟩
/-- What the document's own answers: may a query be, but for its kids? -/
theorem ref12_own (k : Int) (t : Tm) (f x : ByteArray) (A : Option Addr) (ws : List Nm) (n c : Nat) (K : Option Addr) (m d : Nat) (w : World) (hf : f.data.toList = t.1) (hx : x.data.toList = t.2) (hn : ws.length = n) (hA : Row w w.heap.size A (strs ws))
    (hs : f.size ≤ 100000000 ∧ x.size ≤ 100000000) (hws : ws.length ≤ 9 ∧ ∀ w ∈ ws, w.length ≤ 100000000) (hm : m ≤ 9) :
    Calls Tryz.prog 75 #[qV k f x A n c K m d] w fun e w' => e = .returned (.int .i64 (ownQ k t ws m)) ∧ Below w.heap.size w w' := by
  by_cases h1 : k = 2 ∨ k = 3 ∨ k = 4
  · exact ref12_own_kids k h1 t f x A ws n c K m d w hf hx hn hA hs hws hm
  · by_cases h2 : k = 1
    · subst h2; exact ref12_own_term t f x A ws n c K m d w hf hx hn hA hs hws hm
    · by_cases h3 : k = 5
      · subst h3; exact ref12_own_phrase t f x A ws n c K m d w hf hx hn hA hs hws hm
      · have H9 : Hid (9 = ownQ k t ws m) := Lib.hid (by rw [ownQ, if_pos (by omega)])
        obtain ⟨R, hR⟩ : ∃ R, R = ownQ k t ws m := ⟨_, rfl⟩
        rw [← hR] at H9 ⊢
        have hk : k < 1 ∨ 5 < k := by omega
        clear hf hx hn hs hA hws hm h1 h2 h3 hR
        rcases hk with hk | hk
        · go_enter Tryz.func75, Tryz.ntmps75
          go_wp2
          go_ret
          exact ⟨ret_int H9.out, (Below.refl _ _).alloc (Nat.le_refl _) _⟩
        · have hk1 : ¬ k < 1 := by omega
          go_enter Tryz.func75, Tryz.ntmps75
          go_wp2
          go_ret
          exact ⟨ret_int H9.out, (Below.refl _ _).alloc (Nat.le_refl _) _⟩
end Go.Proofs.YtolfkhflbjnakaaGreatDoor

/- What the document's Deep answers: how many queries stand one in the other. -/
namespace Go.Proofs.YtolfkhflbjnakaaGreatDoor
open Go Go.RowKit
set_option linter.unusedVariables false

/-- What a walk over a query in a block of its own is told: its cells, and its kids. -/
def KidsAt (w w1 : World) (ks : List Qy) (K : Option Addr) : Prop := ∀ wr, Below w1.heap.size w1 wr → ∀ (i : Nat) (hi : i < ks.length), ∃ b off k f x A n c K' m d, K = some ⟨b, off, none⟩ ∧ b < w.heap.size ∧ QIn wr ks[i] (qV k f x A n c K' m d) ∧
  wr.cell? ⟨b, off + i * 5, none⟩ = some (.int .i64 k) ∧ wr.cell? ⟨b, off + i * 5 + 1, none⟩ = some (.string f) ∧ wr.cell? ⟨b, off + i * 5 + 2, none⟩ = some (.string x) ∧ wr.cell? ⟨b, off + i * 5 + 3, none⟩ = some (.slice A n c) ∧ wr.cell? ⟨b, off + i * 5 + 4, none⟩ = some (.slice K' m d)
theorem kids_at {w w1 : World} {ks : List Qy} {K : Option Addr} {ds : List Value} (hK : RowP (fun b => b < w.heap.size) w K ds) (hks : QsAt (fun b => b < w.heap.size) w ks ds) (h1 : Below w.heap.size w w1) : KidsAt w w1 ks K := fun wr hr i hi => by
  have hb := h1.trans (hr.mono h1.size)
  have hblk : ∀ b, b < w.heap.size → wr.heap[b]? = w.heap[b]? := fun b h => hb.block b h
  obtain ⟨b, off, k, f, x, A, n, c, K', m, d, e, hp, hv, hc⟩ := kid_at (hK.keep hblk) (hks.keep hblk) hi
  exact ⟨b, off, k, f, x, A, n, c, K', m, d, e, hp, hv.imp fun b h => Nat.lt_of_lt_of_le h hb.size, hc⟩

def DeepRel (ks : List Qy) (N : Nat) (w1 : World) (a i : Value) (wr : World) : Prop :=
  ∃ j m : Nat, j ≤ ks.length ∧ a = .int .i64 (m : Int) ∧ i = .int .i64 (j : Int) ∧ Below w1.heap.size w1 wr ∧ max m (1 + deepL (ks.drop j)) = N ∧ 1 ≤ m

set_option maxHeartbeats 1000000 in
set_option maxRecDepth 100000 in
theorem ref12_Deep (n : Nat) : ∀ (q : Qy) (v : Value) (w : World), deepQ q ≤ n → n ≤ 1000 → FineQ q → QIn w q v →
    Calls Tryz.prog 17 #[v] w fun e w' => e = .returned (.int .i64 (deepQ q : Int)) ∧ Below w.heap.size w w' := by
  induction n with
  | zero => intro q v w h; have := deepQ_pos q; omega
  | succ n ih =>
    intro q v w hd hn hfine hq
    obtain ⟨k, t, ws, ks, f, x, A, c, K, d, ds, rfl, rfl, hf, hx, hc, hdd, hA, hK, hks⟩ := hq.open_
    rw [FineQ] at hfine
    obtain ⟨_, _, h9, hfl⟩ := hfine
    obtain ⟨N, hN⟩ : ∃ N, N = deepQ (.mk k t ws ks) := ⟨_, rfl⟩
    have hNle : N ≤ 1001 := by omega
    rw [← hN]
    have HIH := Lib.hid fun (i : Nat) (hi : i < ks.length) => And.intro (deep_kid hd hi) (fineL_mem hfl (List.getElem_mem hi))
    have HIC := Lib.hid ih
    obtain ⟨w1, hw1⟩ : ∃ w1, w1 = boxQ w k f x A ws.length c K ks.length d := ⟨_, rfl⟩
    have HK := Lib.hid (kids_at hK hks (w1 := w1) (by rw [hw1]; exact boxQ_below))
    have HB : Hid (∀ wr, Below w1.heap.size w1 wr → Below w.heap.size w wr ∧ wr.cell? ⟨w.heap.size, 4, none⟩ = some (.slice K ks.length d)) := Lib.hid fun wr h => by
      rw [hw1] at h
      have := boxQ_of h
      exact ⟨this.1, this.2.2.2.2.2⟩
    have HNN : Hid (max 1 (1 + deepL (ks.drop 0)) = N) := Lib.hid (by rw [hN, deepQ, List.drop_zero]; omega)
    have HW1 := Lib.hid hw1
    clear hw1 hN hd hfl ih hq hA hK hks hf hx hc hdd
    go_enter Tryz.func17, Tryz.ntmps17
    go_wp2
    rw [show w.alloc _ = w1 from HW1.out.symm]
    go_loopw [3, 4] (fun a i wr => DeepRel ks N w1 a i wr) (fun _ i _ => ks.length - (intOf i).toNat)
    case atStart => exact ⟨0, 1, by omega, rfl, rfl, Below.refl _ _, HNN.out, by omega⟩
    case round =>
      obtain ⟨j, m, hj, rfl, rfl, hbw, hmax, hm1⟩ := hrel
      obtain ⟨hb0, a4⟩ := HB.out _ hbw
      have hmN : m ≤ 1001 := by omega
      have HB0 := Lib.hid hb0
      clear hb0
      by_cases hlt : j < ks.length
      · obtain ⟨b, off, k', f', x', A', n', c', K', m', d', e', hbl, hv, c0, c1, c2, c3, c4⟩ := HK.out _ hbw j hlt
        subst e'
        obtain ⟨i1, i2⟩ := HIH.out j hlt
        have hdk := i1
        rw [deepL_at hlt] at hmax
        have HC := Lib.hid (HIC.out ks[j] _ wr i1 (by omega) i2 hv)
        obtain ⟨D, hD⟩ : ∃ D, D = deepQ ks[j] := ⟨_, rfl⟩
        rw [← hD] at hmax hdk HC
        have hD2 : D ≤ 1000 := by omega
        have HMAX := Lib.hid hmax
        have HBW := Lib.hid hbw
        have i0 : (0 : Int) ≤ j := by omega
        have i3 : (j : Int) < ks.length := by omega
        clear hmax hD hdk i1 i2 hv hbw
        go_wp2_with (go_at_call 17; (with_reducible refine HC.out.mono ?_); rintro e w2 ⟨rfl, hb2⟩)
        obtain ⟨M, hM⟩ : ∃ M : Nat, M = max m (1 + D) := ⟨_, rfl⟩
        have HME : Hid (max (m : Int) (1 + (D : Int)) = (M : Int)) := Lib.hid (by omega)
        have HM : Hid (max M (1 + deepL (ks.drop (j + 1))) = N ∧ 1 ≤ M) := Lib.hid (by have := HMAX.out; omega)
        have HB2 := Lib.hid (HBW.out.trans (hb2.mono HBW.out.size))
        clear hM hb2
        go_wp2
        go_roundw
        case rel => exact ⟨j + 1, M, by omega, by rw [HME.out], by go_num, HB2.out, HM.out.1, HM.out.2⟩
        case measure => simp [intOf]; omega
      · have : j = ks.length := by omega
        subst this
        rw [List.drop_length, deepL] at hmax
        obtain rfl : m = N := by omega
        clear hmax
        go_wp2
        go_ret
        exact ⟨rfl, HB0.out⟩
end Go.Proofs.YtolfkhflbjnakaaGreatDoor

/- What the document's May answers of a query: which may be. -/
namespace Go.Proofs.YtolfkhflbjnakaaGreatDoor
open Go Go.RowKit
set_option linter.unusedVariables false

def MayQRel (ks : List Qy) (D : Nat) (R : Int) (w1 : World) (r i : Value) (wr : World) : Prop :=
  r = .int .i64 0 ∧ ∃ j : Nat, j ≤ ks.length ∧ i = .int .i64 (j : Int) ∧ Below w1.heap.size w1 wr ∧ mayL D (ks.drop j) = R

set_option maxHeartbeats 2000000 in
set_option maxRecDepth 100000 in
theorem ref12_may (n : Nat) : ∀ (q : Qy) (D : Nat) (v : Value) (w : World), deepQ q ≤ n → D ≤ 1000 → FineQ q → QIn w q v →
    Calls Tryz.prog 35 #[v, .int .i64 (D : Int)] w fun e w' => e = .returned (.int .i64 (mayQ D q)) ∧ Below w.heap.size w w' := by
  induction n with
  | zero => intro q D v w h; have := deepQ_pos q; omega
  | succ n ih =>
    intro q D v w hd hD hfine hq
    obtain ⟨k, t, ws, ks, f, x, A, c, K, d, ds, rfl, rfl, hf, hx, hc, hdd, hA, hK, hks⟩ := hq.open_
    rw [FineQ] at hfine
    obtain ⟨hft, hfw, h9, hfl⟩ := hfine
    obtain ⟨R, hR⟩ : ∃ R, R = mayQ D (.mk k t ws ks) := ⟨_, rfl⟩
    rw [← hR]
    rw [mayQ] at hR
    obtain ⟨w1, hw1⟩ : ∃ w1, w1 = boxQ w k f x A ws.length c K ks.length d := ⟨_, rfl⟩
    have HW1 := Lib.hid hw1
    have HB : Hid (∀ wr, Below w1.heap.size w1 wr → Below w.heap.size w wr ∧ wr.cell? ⟨w.heap.size, 0, none⟩ = some (.int .i64 k) ∧ wr.cell? ⟨w.heap.size, 1, none⟩ = some (.string f) ∧ wr.cell? ⟨w.heap.size, 2, none⟩ = some (.string x) ∧ wr.cell? ⟨w.heap.size, 3, none⟩ = some (.slice A ws.length c) ∧ wr.cell? ⟨w.heap.size, 4, none⟩ = some (.slice K ks.length d)) := Lib.hid fun wr h => by
      rw [hw1] at h
      exact boxQ_of h
    by_cases h6 : 6 < D
    · rw [if_pos h6] at hR
      subst hR
      have H0 := Lib.hid (HB.out _ (Below.refl _ _)).1
      have e6 : decide ((6 : Int) < (D : Int)) = true := by simp; omega
      clear hf hx hc hdd hA hK hks hft hfw h9 hfl hd hq ih hw1
      go_enter Tryz.func35, Tryz.ntmps35
      go_wp2_with fail
      rw [show w.alloc _ = w1 from HW1.out.symm]
      go_wp2_with fail
      go_ret
      exact ⟨rfl, H0.out⟩
    · rw [if_neg h6] at hR
      have e6 : decide ((6 : Int) < (D : Int)) = false := by simp; omega
      have hD6 : D ≤ 6 := by omega
      have hbl : Below w.heap.size w w1 := (HB.out _ (Below.refl _ _)).1
      have hfs : f.data.toList.length = f.size := Array.length_toList
      have hxs : x.data.toList.length = x.size := Array.length_toList
      have HO : Hid (Calls Tryz.prog 75 #[qV k f x A ws.length c K ks.length d] w1 fun e w' => e = .returned (.int .i64 (ownQ k t ws ks.length)) ∧ Below w1.heap.size w1 w') :=
        Lib.hid (ref12_own k t f x A ws ws.length c K ks.length d w1 hf hx rfl ((Row.below (RowP.row hA fun _ h => h) hbl).more hbl.size) ⟨by rw [← hfs, hf]; exact hft.1, by rw [← hxs, hx]; exact hft.2⟩ hfw h9)
      obtain ⟨E, hE⟩ : ∃ E, E = ownQ k t ws ks.length := ⟨_, rfl⟩
      rw [← hE] at HO hR
      have HIH := Lib.hid fun (i : Nat) (hi : i < ks.length) => And.intro (deep_kid hd hi) (fineL_mem hfl (List.getElem_mem hi))
      have HIC := Lib.hid ih
      have HK := Lib.hid (kids_at hK hks hbl)
      have h0 := HB.out _ (Below.refl _ _)
      obtain ⟨hb0, a0, a1, a2, a3, a4⟩ := h0
      have HB00 := Lib.hid hb0
      clear hb0 hf hx hc hdd hA hK hks hft hfw hfl hd hq ih hw1 hbl hfs hxs hE h6
      by_cases hE0 : E = 0
      · subst hE0
        rw [if_neg (fun h => h rfl)] at hR
        have HG : Hid (mayL (D + 1) (ks.drop 0) = R) := Lib.hid (by rw [List.drop_zero, hR])
        clear hR
        go_enter Tryz.func35, Tryz.ntmps35
        go_wp2_with fail
        rw [show w.alloc _ = w1 from HW1.out.symm]
        go_wp2_with (go_at_call 75; (with_reducible refine HO.out.mono ?_); rintro e w2 ⟨rfl, hb2⟩; have HB2 := Lib.hid hb2; clear hb2)
        clear a0 a1 a2 a3 a4
        go_loopw [4, 6] (fun r i wr => MayQRel ks (D + 1) R w1 r i wr) (fun _ i _ => ks.length - (intOf i).toNat)
        case atStart => exact ⟨rfl, 0, by omega, rfl, HB2.out, HG.out⟩
        case round =>
          obtain ⟨rfl, j, hj, rfl, hbw, hgo⟩ := hrel
          obtain ⟨hb0, _, _, _, _, a4⟩ := HB.out _ hbw
          have HB0 := Lib.hid hb0
          clear hb0
          by_cases hlt : j < ks.length
          · obtain ⟨b, off, k', f', x', A', n', c', K', m', d', e', hbl, hv, c0, c1, c2, c3, c4⟩ := HK.out _ hbw j hlt
            subst e'
            obtain ⟨i1, i2⟩ := HIH.out j hlt
            rw [mayL_at hlt] at hgo
            obtain ⟨M, hM⟩ : ∃ M, M = mayQ (D + 1) ks[j] := ⟨_, rfl⟩
            have HC0 := HIC.out ks[j] (D + 1) _ wr i1 (by omega) i2 hv
            rw [← hM] at hgo HC0
            rw [show ((D + 1 : Nat) : Int) = (D : Int) + 1 by omega] at HC0
            have HC := Lib.hid HC0
            have HBW := Lib.hid hbw
            have i0 : (0 : Int) ≤ j := by omega
            have i3 : (j : Int) < ks.length := by omega
            clear hM i1 i2 hv hbw HC0
            by_cases hM0 : M = 0
            · subst hM0
              rw [if_neg (fun h => h rfl)] at hgo
              have HGO := Lib.hid hgo
              clear hgo
              go_wp2_with (go_at_call 35; (with_reducible refine HC.out.mono ?_); rintro e w2 ⟨rfl, hb2⟩; have HB3 := Lib.hid (HBW.out.trans (hb2.mono HBW.out.size)); clear hb2)
              go_roundw
              case rel => exact ⟨rfl, j + 1, by omega, by go_num, HB3.out, HGO.out⟩
              case measure => simp [intOf]; omega
            · rw [if_pos hM0] at hgo
              have HGO := Lib.hid hgo
              have em : (M == 0) = false := by rw [beq_eq_false_iff_ne]; exact hM0
              have em' : (M != 0) = true := by simp [hM0]
              clear hgo hM0
              go_wp2_with (go_at_call 35; (with_reducible refine HC.out.mono ?_); rintro e w2 ⟨rfl, hb2⟩; have HB3 := Lib.hid (HB0.out.trans (hb2.mono HB0.out.size)); clear hb2)
              go_ret
              exact ⟨ret_int HGO.out, HB3.out⟩
          · have : j = ks.length := by omega
            subst this
            rw [List.drop_length, mayL] at hgo
            subst hgo
            go_wp2
            go_ret
            exact ⟨rfl, HB0.out⟩
      · rw [if_pos hE0] at hR
        subst hR
        have em : (R == 0) = false := by rw [beq_eq_false_iff_ne]; exact hE0
        have em' : (R != 0) = true := by simp [hE0]
        clear hE0
        go_enter Tryz.func35, Tryz.ntmps35
        go_wp2_with fail
        rw [show w.alloc _ = w1 from HW1.out.symm]
        go_wp2_with (go_at_call 75; (with_reducible refine HO.out.mono ?_); rintro e w2 ⟨rfl, hb2⟩; have HB3 := Lib.hid (HB00.out.trans (hb2.mono HB00.out.size)); clear hb2)
        go_ret
        exact ⟨rfl, HB3.out⟩
set_option maxRecDepth 100000 in
theorem ref12_May (q : Qy) (v : Value) (w : World) (hd : deepQ q ≤ 1000) (hq : QIn w q v) (hf : FineQ q) :
    Calls Tryz.prog 15 #[v] w fun e w' => e = .returned (.int .i64 (mayQ 1 q)) ∧ Below w.heap.size w w' := by
  have HC : Hid (∀ w1, Below w.heap.size w w1 → Calls Tryz.prog 35 #[v, .int .i64 1] w1 fun e w' => e = .returned (.int .i64 (mayQ 1 q)) ∧ Below w1.heap.size w1 w') := Lib.hid fun w1 h => ref12_may 1000 q 1 v w1 hd (by omega) hf (hq.later h)
  obtain ⟨k, t, ws, ks, f, x, A, c, K, d, ds, e1, rfl, _⟩ := hq.open_
  have HE := Lib.hid e1
  clear hq e1
  go_enter Tryz.func15, Tryz.ntmps15
  go_wp2_with (go_at_call 35; (with_reducible refine (HC.out _ ((Below.refl _ _).alloc (Nat.le_refl _) _)).mono ?_); rintro e w2 ⟨rfl, hb2⟩)
  go_ret
  exact ⟨rfl, ((Below.refl _ _).alloc (Nat.le_refl _) _).trans (hb2.mono (by simp))⟩
end Go.Proofs.YtolfkhflbjnakaaGreatDoor

/- What package query's own May answers: which queries may be. -/
namespace Go.Proofs.YtolfkhflbjnakaaGreatDoor
open Go Go.RowKit
set_option linter.unusedVariables false

/-- A kind as a value. -/
abbrev kindV (nb nm n2 n3 n4 : Nat) (cm c4 : Array Value) : Value := .agg #[.func (.func nb) #[] #[], .func (.func nm) #[] cm, .func (.func n2) #[] #[], .func (.func n3) #[] #[], .func (.func n4) #[] c4]
def Goes (n : Nat) : Prop := ∀ args w, (callFunc n args).run Tryz.prog w = .ok (.enter n args) w
/-- What is found in the map of kinds, in every world behind this one. -/
def FindsAt (w : World) (B : Nat) (k : Int) (v : Value) : Prop := ∀ wr, Below w.heap.size w wr → (Instr.lookup 55 (.map (some B)) (.int .i64 k) true).run Tryz.prog wr = .ok v wr
/-- Kids that may be gone through. -/
def KidsMay (w : World) (B D : Nat) (ks : List Qy) : Prop := ∀ (i : Nat) (hi : i < ks.length) (v : Value) (wr : World), Below w.heap.size w wr → QIn wr ks[i] v →
  Calls Tryz.prog 33 #[.map (some B), v, .int .i64 ((D : Int) + 1)] wr fun e w' => e = .returned (.int .i64 (mayQ (D + 1) ks[i])) ∧ Below wr.heap.size wr w'

/-- A query in a block of its own, a kind in the next one. -/
theorem two_blocks {w wr : World} {k : Int} {f x : ByteArray} {A K : Option Addr} {n c m d : Nat} {nb nm n2 n3 n4 : Nat} {cm c4 : Array Value} (h : Below (w.heap.size + 2) ((boxQ w k f x A n c K m d).alloc (.cells #[.func (.func nb) #[] #[], .func (.func nm) #[] cm, .func (.func n2) #[] #[], .func (.func n3) #[] #[], .func (.func n4) #[] c4] 65)) wr) :
    Below w.heap.size w wr ∧ (wr.cell? ⟨w.heap.size, 0, none⟩ = some (.int .i64 k) ∧ wr.cell? ⟨w.heap.size, 1, none⟩ = some (.string f) ∧ wr.cell? ⟨w.heap.size, 2, none⟩ = some (.string x) ∧ wr.cell? ⟨w.heap.size, 3, none⟩ = some (.slice A n c) ∧ wr.cell? ⟨w.heap.size, 4, none⟩ = some (.slice K m d)) ∧
    wr.cell? ⟨w.heap.size + 1, 0, none⟩ = some (.func (.func nb) #[] #[]) ∧ wr.cell? ⟨w.heap.size + 1, 1, none⟩ = some (.func (.func nm) #[] cm) := by
  have hs : (boxQ w k f x A n c K m d).heap.size = w.heap.size + 1 := boxQ_size
  have h1 : Below (boxQ w k f x A n c K m d).heap.size (boxQ w k f x A n c K m d) wr := ((Below.refl _ _).alloc (Nat.le_refl _) _).trans (h.mono (by rw [hs]; omega))
  have hb : wr.heap[w.heap.size + 1]? = some (.cells #[.func (.func nb) #[] #[], .func (.func nm) #[] cm, .func (.func n2) #[] #[], .func (.func n3) #[] #[], .func (.func n4) #[] c4] 65 (0, 0)) :=
    (h.block (w.heap.size + 1) (by omega)).trans (by have := heap_alloc_new (boxQ w k f x A n c K m d) (.cells #[.func (.func nb) #[] #[], .func (.func nm) #[] cm, .func (.func n2) #[] #[], .func (.func n3) #[] #[], .func (.func n4) #[] c4] 65); rwa [hs] at this)
  have h0 := boxQ_of h1
  exact ⟨h0.1, h0.2, by simp [World.cell?, hb], by simp [World.cell?, hb]⟩

set_option maxHeartbeats 4000000 in
set_option maxRecDepth 100000 in
theorem mayAt_kind (B D : Nat) (k : Int) (f x : ByteArray) (A : Option Addr) (n c : Nat) (K : Option Addr) (ks : List Qy) (d : Nat) (ds : List Value) (w : World) (nb nm n2 n3 n4 : Nat) (cm c4 : Array Value) (bv : Bool) (E : Int) (hD : D ≤ 6) (h9 : ks.length ≤ 9)
    (hl : FindsAt w B k (.tuple #[kindV nb nm n2 n3 n4 cm c4, .bool true])) (eb : Goes nb) (em : Goes nm)
    (hb : ∀ wr, Below w.heap.size w wr → Calls Tryz.prog nb #[qV k f x A n c K ks.length d] wr fun e w' => e = .returned (.bool bv) ∧ Below wr.heap.size wr w')
    (hm : bv = true → ∀ wr, Below w.heap.size w wr → Calls Tryz.prog nm (#[qV k f x A n c K ks.length d] ++ cm) wr fun e w' => e = .returned (.int .i64 E) ∧ Below wr.heap.size wr w')
    (hK : RowP (fun b => b < w.heap.size) w K ds) (hks : QsAt (fun b => b < w.heap.size) w ks ds) (hkids : KidsMay w B D ks) :
    Calls Tryz.prog 33 #[.map (some B), qV k f x A n c K ks.length d, .int .i64 (D : Int)] w fun e w' => e = .returned (.int .i64 (if bv = false then 9 else if E ≠ 0 then E else mayL (D + 1) ks)) ∧ Below w.heap.size w w' := by
  have e6 : decide ((6 : Int) < (D : Int)) = false := by simp; omega
  unfold Goes at eb em
  obtain ⟨R, hR⟩ : ∃ R, R = if bv = false then 9 else if E ≠ 0 then E else mayL (D + 1) ks := ⟨_, rfl⟩
  rw [← hR]
  have hl1 := hl _ (boxQ_below (w := w) (k := k) (f := f) (x := x) (A := A) (n := n) (c := c) (K := K) (m := ks.length) (d := d))
  unfold boxQ at hl1
  obtain ⟨w1, hw1⟩ : ∃ w1, w1 = (boxQ w k f x A n c K ks.length d).alloc (.cells #[.func (.func nb) #[] #[], .func (.func nm) #[] cm, .func (.func n2) #[] #[], .func (.func n3) #[] #[], .func (.func n4) #[] c4] 65) := ⟨_, rfl⟩
  have hs1 : w1.heap.size = w.heap.size + 2 := by rw [hw1]; simp [boxQ]
  have HB : Hid (∀ wr, Below w1.heap.size w1 wr → Below w.heap.size w wr ∧ (wr.cell? ⟨w.heap.size, 0, none⟩ = some (.int .i64 k) ∧ wr.cell? ⟨w.heap.size, 1, none⟩ = some (.string f) ∧ wr.cell? ⟨w.heap.size, 2, none⟩ = some (.string x) ∧ wr.cell? ⟨w.heap.size, 3, none⟩ = some (.slice A n c) ∧ wr.cell? ⟨w.heap.size, 4, none⟩ = some (.slice K ks.length d)) ∧
    wr.cell? ⟨w.heap.size + 1, 0, none⟩ = some (.func (.func nb) #[] #[]) ∧ wr.cell? ⟨w.heap.size + 1, 1, none⟩ = some (.func (.func nm) #[] cm)) := Lib.hid fun wr h => by
    rw [hs1, hw1] at h
    exact two_blocks h
  have HBL := Lib.hid hb
  have HM := Lib.hid hm
  have HK := Lib.hid (kids_at hK hks (HB.out _ (Below.refl _ _)).1)
  have HKM : Hid (∀ (i : Nat) (hi : i < ks.length) (v : Value) (wr : World), Below w.heap.size w wr → QIn wr ks[i] v → Calls Tryz.prog 33 #[.map (some B), v, .int .i64 ((D : Int) + 1)] wr fun e w' => e = .returned (.int .i64 (mayQ (D + 1) ks[i])) ∧ Below wr.heap.size wr w') := Lib.hid hkids
  have HW1 := Lib.hid hw1
  have HR := Lib.hid hR
  have HS1 := Lib.hid hs1
  obtain ⟨hb0, ⟨a0, a1, a2, a3, a4⟩, b0, b1⟩ := HB.out _ (Below.refl _ _)
  have HB0 := Lib.hid hb0
  clear hw1 hR hs1 hb hm hl hK hks hkids hb0
  cases bv with
  | false =>
    have H : Hid (9 = R) := Lib.hid (by rw [HR.out, if_pos rfl])
    clear HM
    go_enter Tryz.func33, Tryz.ntmps33
    go_wp2_with (go_at_fn nb; rw [show (w.alloc _).alloc _ = w1 from HW1.out.symm]; (with_reducible refine (HBL.out _ HB0.out).mono ?_); rintro e w2 ⟨rfl, hb2⟩; have HB2 := Lib.hid (HB0.out.trans (hb2.mono HB0.out.size)); clear hb2)
    go_ret
    exact ⟨ret_int H.out, HB2.out⟩
  | true =>
    have HR2 : Hid (R = if E ≠ 0 then E else mayL (D + 1) ks) := Lib.hid (by rw [HR.out, if_neg (by decide)])
    have HM2 := Lib.hid (HM.out rfl)
    clear HR HM
    by_cases hE : E = 0
    · subst hE
      have HG : Hid (mayL (D + 1) (ks.drop 0) = R) := Lib.hid (by rw [List.drop_zero, HR2.out, if_neg (fun h => h rfl)])
      go_enter Tryz.func33, Tryz.ntmps33
      go_wp2_with (first
        | (go_at_fn nb; rw [show (w.alloc _).alloc _ = w1 from HW1.out.symm]; (with_reducible refine (HBL.out _ HB0.out).mono ?_); rintro e w2 ⟨rfl, hb2⟩; have HB2 := Lib.hid hb2; clear hb2 a0 a1 a2 a3 a4 b0 b1; obtain ⟨hb0, ⟨a0, a1, a2, a3, a4⟩, b0, b1⟩ := HB.out _ HB2.out; have HB3 := Lib.hid hb0; clear hb0)
        | (go_at_fn nm; (with_reducible refine (HM2.out _ HB3.out).mono ?_); rintro e w3 ⟨rfl, hb3⟩; have HB4 := Lib.hid (HB2.out.trans (hb3.mono HB2.out.size)); clear hb3 a0 a1 a2 a3 a4 b0 b1; obtain ⟨hb0, ⟨a0, a1, a2, a3, a4⟩, b0, b1⟩ := HB.out _ HB4.out; clear hb0))
      clear a0 a1 a2 a3 a4 b0 b1
      go_loopw [6, 41] (fun r i wr => MayQRel ks (D + 1) R w1 r i wr) (fun _ i _ => ks.length - (intOf i).toNat)
      case atStart => exact ⟨rfl, 0, by omega, rfl, HB4.out, HG.out⟩
      case round =>
        obtain ⟨rfl, j, hj, rfl, hbw, hgo⟩ := hrel
        obtain ⟨hb0, ⟨_, _, _, _, a4⟩, _, _⟩ := HB.out _ hbw
        have HBX := Lib.hid hb0
        clear hb0
        by_cases hlt : j < ks.length
        · obtain ⟨b, off, k', f', x', A', n', c', K', m', d', e', hbl, hv, c0, c1, c2, c3, c4⟩ := HK.out _ hbw j hlt
          subst e'
          rw [mayL_at hlt] at hgo
          obtain ⟨M, hM⟩ : ∃ M, M = mayQ (D + 1) ks[j] := ⟨_, rfl⟩
          have HC : Hid (∀ w2, Below wr.heap.size wr w2 → Calls Tryz.prog 33 #[.map (some B), qV k' f' x' A' n' c' K' m' d', .int .i64 ((D : Int) + 1)] w2 fun e w' => e = .returned (.int .i64 M) ∧ Below w2.heap.size w2 w') :=
            Lib.hid fun w2 h => by rw [hM]; exact HKM.out j hlt _ w2 (HBX.out.trans (h.mono HBX.out.size)) (hv.later h)
          rw [← hM] at hgo
          have HBW := Lib.hid hbw
          have i0 : (0 : Int) ≤ j := by omega
          have i3 : (j : Int) < ks.length := by omega
          clear hM hv hbw
          by_cases hM0 : M = 0
          · subst hM0
            rw [if_neg (fun h => h rfl)] at hgo
            have HGO := Lib.hid hgo
            clear hgo
            go_wp2_with (go_at_call 33; (with_reducible refine (HC.out _ ((Below.refl _ _).alloc (Nat.le_refl _) _)).mono ?_); rintro e w2 ⟨rfl, hb2⟩; have HB5 := Lib.hid (HBW.out.trans ((((Below.refl _ _).alloc (Nat.le_refl _) _).trans (hb2.mono (by simp))).mono HBW.out.size)); clear hb2)
            go_roundw
            case rel => exact ⟨rfl, j + 1, by omega, by go_num, HB5.out, HGO.out⟩
            case measure => simp [intOf]; omega
          · rw [if_pos hM0] at hgo
            have HGO := Lib.hid hgo
            have em1 : (M == 0) = false := by rw [beq_eq_false_iff_ne]; exact hM0
            have em2 : (M != 0) = true := by simp [hM0]
            clear hgo hM0
            go_wp2_with (go_at_call 33; (with_reducible refine (HC.out _ ((Below.refl _ _).alloc (Nat.le_refl _) _)).mono ?_); rintro e w2 ⟨rfl, hb2⟩; have HB5 := Lib.hid (HBX.out.trans ((((Below.refl _ _).alloc (Nat.le_refl _) _).trans (hb2.mono (by simp))).mono HBX.out.size)); clear hb2)
            go_ret
            exact ⟨ret_int HGO.out, HB5.out⟩
        · have : j = ks.length := by omega
          subst this
          rw [List.drop_length, mayL] at hgo
          subst hgo
          go_wp2
          go_ret
          exact ⟨rfl, HBX.out⟩
    · have H : Hid (E = R) := Lib.hid (by rw [HR2.out, if_pos hE])
      have em1 : (E == 0) = false := by rw [beq_eq_false_iff_ne]; exact hE
      have em2 : (E != 0) = true := by simp [hE]
      clear hE
      go_enter Tryz.func33, Tryz.ntmps33
      go_wp2_with (first
        | (go_at_fn nb; rw [show (w.alloc _).alloc _ = w1 from HW1.out.symm]; (with_reducible refine (HBL.out _ HB0.out).mono ?_); rintro e w2 ⟨rfl, hb2⟩; have HB2 := Lib.hid hb2; clear hb2 a0 a1 a2 a3 a4 b0 b1; obtain ⟨hb0, ⟨a0, a1, a2, a3, a4⟩, b0, b1⟩ := HB.out _ HB2.out; have HB3 := Lib.hid hb0; clear hb0)
        | (go_at_fn nm; (with_reducible refine (HM2.out _ HB3.out).mono ?_); rintro e w3 ⟨rfl, hb3⟩; have HB4 := Lib.hid (HB2.out.trans (hb3.mono HB2.out.size)); clear hb3 a0 a1 a2 a3 a4 b0 b1; obtain ⟨hb0, ⟨a0, a1, a2, a3, a4⟩, b0, b1⟩ := HB.out _ HB4.out; clear hb0))
      go_ret
      exact ⟨ret_int H.out, (HB.out _ HB4.out).1⟩
end Go.Proofs.YtolfkhflbjnakaaGreatDoor

/- How a document fits a query of kids, of how it fits them. -/
namespace Go.Proofs.YtolfkhflbjnakaaGreatDoor
open Go Go.RowKit
set_option linter.unusedVariables false

set_option maxRecDepth 100000 in
theorem kinds_enough (k : Int) (fit all : Nat) (w : World) : (k = 2 → Calls Tryz.prog 72 #[.int .i64 (fit : Int), .int .i64 (all : Int)] w fun e w' => e = .returned (.bool (enoughQ k fit all)) ∧ w' = w) ∧
    (k = 3 → Calls Tryz.prog 73 #[.int .i64 (fit : Int), .int .i64 (all : Int)] w fun e w' => e = .returned (.bool (enoughQ k fit all)) ∧ w' = w) ∧
    (k = 4 → Calls Tryz.prog 74 #[.int .i64 (fit : Int), .int .i64 (all : Int)] w fun e w' => e = .returned (.bool (enoughQ k fit all)) ∧ w' = w) := by
  refine ⟨?_, ?_, ?_⟩ <;> rintro rfl
  · have h : enoughQ 2 fit all = ((fit : Int) == (all : Int)) := by
      rw [enoughQ, if_pos rfl]
      by_cases e : fit = all
      · subst e; simp
      · have : ((fit : Int) == (all : Int)) = false := by rw [beq_eq_false_iff_ne]; omega
        rw [this]; simp [e]
    rw [h]
    clear h
    go_enter Tryz.func72, Tryz.ntmps72
    go_wp2
    go_ret
    exact ⟨rfl, rfl⟩
  · have h : enoughQ 3 fit all = decide (0 < fit) := by rw [enoughQ, if_neg (by decide), if_pos rfl]
    rw [h]
    clear h
    go_enter Tryz.func73, Tryz.ntmps73
    go_wp2
    go_ret
    exact ⟨rfl, rfl⟩
  · have h : enoughQ 4 fit all = ((fit : Int) == 0) := by
      rw [enoughQ, if_neg (by decide), if_neg (by decide)]
      by_cases e : fit = 0
      · subst e; rfl
      · have : ((fit : Int) == 0) = false := by rw [beq_eq_false_iff_ne]; omega
        rw [this]; simp [e]
    rw [h]
    clear h
    go_enter Tryz.func74, Tryz.ntmps74
    go_wp2
    go_ret
    exact ⟨rfl, rfl⟩

/-- How many of them fit, what they are in all. -/
def fitS : List (Bool × Nat) → Nat
  | [] => 0
  | g :: l => (if g.1 = true then 1 else 0) + fitS l
def sumS : List (Bool × Nat) → Nat
  | [] => 0
  | g :: l => g.2 + sumS l
theorem fitS_at {l : List (Bool × Nat)} {j : Nat} (h : j < l.length) : fitS (l.take (j + 1)) = fitS (l.take j) + (if l[j].1 = true then 1 else 0) := by
  have e : ∀ a b : List (Bool × Nat), fitS (a ++ b) = fitS a + fitS b := fun a b => by
    induction a with
    | nil => simp [fitS]
    | cons x a ih => rw [List.cons_append, fitS, fitS, ih]; omega
  rw [List.take_succ_eq_append_getElem h, e, fitS, fitS]
  omega
theorem sumS_at {l : List (Bool × Nat)} {j : Nat} (h : j < l.length) : sumS (l.take (j + 1)) = sumS (l.take j) + l[j].2 := by
  have e : ∀ a b : List (Bool × Nat), sumS (a ++ b) = sumS a + sumS b := fun a b => by
    induction a with
    | nil => simp [sumS]
    | cons x a ih => rw [List.cons_append, sumS, sumS, ih]; omega
  rw [List.take_succ_eq_append_getElem h, e, sumS, sumS]
  omega
theorem sumS_le {l : List (Bool × Nat)} (j : Nat) : sumS (l.take j) ≤ sumS l := by
  have e : ∀ a b : List (Bool × Nat), sumS (a ++ b) = sumS a + sumS b := fun a b => by
    induction a with
    | nil => simp [sumS]
    | cons x a ih => rw [List.cons_append, sumS, sumS, ih]; omega
  have := e (l.take j) (l.drop j)
  rw [List.take_append_drop] at this
  omega
theorem fitS_le : ∀ l : List (Bool × Nat), fitS l ≤ l.length
  | [] => Nat.le_refl _
  | g :: l => by have := fitS_le l; rw [fitS, List.length_cons]; split <;> omega
theorem fitS_map (f : List Fd) : ∀ ks : List Qy, fitS (ks.map fun q => (fitsQ f q, scoreQ f q)) = fitL f ks
  | [] => rfl
  | q :: l => by rw [List.map_cons, fitS, fitL, fitS_map f l]
theorem sumS_map (f : List Fd) : ∀ ks : List Qy, sumS (ks.map fun q => (fitsQ f q, scoreQ f q)) = scoreL f ks
  | [] => rfl
  | q :: l => by rw [List.map_cons, sumS, scoreL, sumS_map f l]

def KidsGRel (gs : List (Bool × Nat)) (w1 : World) (a b i : Value) (wr : World) : Prop :=
  ∃ j : Nat, j ≤ gs.length ∧ i = .int .i64 (j : Int) ∧ a = .int .i64 (fitS (gs.take j) : Int) ∧ b = .int .i64 (sumS (gs.take j) : Int) ∧ Below w1.heap.size w1 wr

set_option maxHeartbeats 4000000 in
set_option maxRecDepth 100000 in
theorem query_kidsGrade1 (g : Nat) (eg : ∀ args w, (callFunc g args).run Tryz.prog w = .ok (.enter g args) w) (en : Bool) (gs : List (Bool × Nat)) (k : Int) (f x : ByteArray) (A : Option Addr) (n c : Nat) (K : Option Addr) (m d : Nat) (id : Int) (D : Option Addr) (dn dc : Nat) (G : Option Addr) (gn gc gb : Nat) (w : World)
    (hgb : w.heap[gb]? = some (.cells #[.func (.func g) #[] #[]] 80 (0, 0)))
    (hen : ∀ w, Calls Tryz.prog g #[.int .i64 (fitS gs : Int), .int .i64 (gs.length : Int)] w fun e w' => e = .returned (.bool en) ∧ w' = w)
    (hn : gs.length = gn) (h9 : gn ≤ 9) (hs : sumS gs ≤ 1000000000) (hr : GRow w G gs) :
    Calls Tryz.prog 107 #[qV k f x A n c K m d, docV id D dn dc, .slice G gn gc, .pointer (some ⟨gb, 0, none⟩)] w (GaveG (if en = true then (true, sumS gs) else (false, 0)) w) := by
  subst hn
  obtain ⟨g0, hg0⟩ : ∃ g0, g0 = if en = true then (true, sumS gs) else (false, 0) := ⟨_, rfl⟩
  rw [← hg0]
  obtain ⟨w1, hw1⟩ : ∃ w1, w1 = box3 w k f x A n c K m d id D dn dc := ⟨_, rfl⟩
  have hs1 : w1.heap.size = w.heap.size + 3 := by rw [hw1]; simp [box3, boxQ]
  have HB : Hid (∀ wr, Below w1.heap.size w1 wr → _) := Lib.hid fun wr h => box3_of g0 (wr := wr) (by rw [hs1, hw1] at h; exact h)
  have HR : Hid (∀ wr, Below w1.heap.size w1 wr → ∀ j, (hj : j < gs.length) → ∃ b off, G = some ⟨b, off, none⟩ ∧ b < wr.heap.size ∧ wr.cell? ⟨b, off + j * 2, none⟩ = some (.bool gs[j].1) ∧ wr.cell? ⟨b, off + j * 2 + 1, none⟩ = some (.int .i64 (gs[j].2 : Int))) := Lib.hid fun wr h j hj => (hr.later (HB.out wr h).1).at_ hj
  have HG : Hid (∀ wr, Below w1.heap.size w1 wr → wr.cell? ⟨gb, 0, none⟩ = some (.func (.func g) #[] #[])) := Lib.hid fun wr h => by
    have := ((HB.out wr h).1.block gb (Array.getElem?_eq_some_iff.1 hgb).1).trans hgb
    simp [World.cell?, this]
  have HEN := Lib.hid hen
  have HG0 := Lib.hid hg0
  have HW1 := Lib.hid hw1
  have HS1 := Lib.hid hs1
  have HSUM := Lib.hid hs
  obtain ⟨hb0, ⟨a0, a1, a2, a3, a4⟩, ⟨b0, b1⟩, -, -⟩ := HB.out _ (Below.refl _ _)
  clear hw1 hs1 hr hgb hen hb0 hs hg0
  go_enter Tryz.func107, Tryz.ntmps107
  go_wp2_with fail
  rw [show ((w.alloc _).alloc _).alloc _ = w1 from HW1.out.symm]
  go_wp2_with fail
  clear a0 a1 a2 a3 a4 b0 b1
  go_loopw [8, 9, 14] (fun a b i wr => KidsGRel gs w1 a b i wr) (fun _ _ i _ => gs.length - (intOf i).toNat)
  case atStart => exact ⟨0, by omega, rfl, rfl, rfl, Below.refl _ _⟩
  case round =>
    obtain ⟨j, hj, rfl, rfl, rfl, hbw⟩ := hrel
    have hfl := fitS_le (gs.take j)
    rw [List.length_take] at hfl
    have hsl := sumS_le (l := gs) j
    have hs9 := HSUM.out
    obtain ⟨F, hF⟩ : ∃ F, F = fitS (gs.take j) := ⟨_, rfl⟩
    obtain ⟨S, hS⟩ : ∃ S, S = sumS (gs.take j) := ⟨_, rfl⟩
    by_cases hlt : j < gs.length
    · obtain ⟨b, off, e', hbl, c0, c1⟩ := HR.out _ hbw j hlt
      subst e'
      have hf1 := fitS_at hlt
      have hs2 := sumS_at hlt
      have hsl2 := sumS_le (l := gs) (j + 1)
      obtain ⟨gb', gn', hgn⟩ : ∃ gb' gn', gs[j] = (gb', gn') := ⟨_, _, rfl⟩
      rw [hgn] at hf1 hs2 c0 c1
      simp only at hf1 hs2 c0 c1
      rw [← hF] at hf1 hfl ⊢
      rw [← hS] at hs2 hsl ⊢
      have HF1 := Lib.hid hf1
      have HS2 := Lib.hid hs2
      have HBW := Lib.hid hbw
      have i0 : (0 : Int) ≤ j := by omega
      have i3 : (j : Int) < gs.length := by omega
      have hS9 : S + gn' ≤ 1000000000 := by omega
      have hF9 : F ≤ 9 := by omega
      clear hf1 hs2 hbw hF hS hgn hsl hsl2 hs9 hfl
      cases gb' with
      | true =>
        go_wp2_with fail
        go_roundw
        case rel => exact ⟨j + 1, by omega, by go_num, by rw [HF1.out, if_pos rfl]; go_num, by rw [HS2.out]; go_num, HBW.out.trans ((Below.refl _ _).alloc HBW.out.size _)⟩
        case measure => simp [intOf]; omega
      | false =>
        go_wp2_with fail
        go_roundw
        case rel => exact ⟨j + 1, by omega, by go_num, by rw [HF1.out, if_neg (by decide)]; go_num, by rw [HS2.out]; go_num, HBW.out.trans ((Below.refl _ _).alloc HBW.out.size _)⟩
        case measure => simp [intOf]; omega
    · obtain rfl : j = gs.length := by omega
      rw [List.take_length] at hF hS hsl
      rw [List.take_length]
      have hfn : Calls Tryz.prog g #[.int .i64 (F : Int), .int .i64 (gs.length : Int)] wr fun e w' => e = .returned (.bool en) ∧ w' = wr := by rw [hF]; exact HEN.out wr
      rw [← hF, ← hS]
      have hg0 := HG0.out
      rw [← hS] at hg0
      have HFN := Lib.hid hfn
      have hgc := HG.out _ hbw
      obtain ⟨-, -, -, ⟨r0, r1, q0, q1⟩, hres, s0, s1⟩ := HB.out _ hbw
      have HRE := Lib.hid hres
      have S0 := Lib.hid s0
      have S1 := Lib.hid s1
      clear hfn hF hS hres s0 s1 hfl hsl hs9 hbw HG0
      cases en with
      | true =>
        rw [if_pos rfl] at hg0
        subst hg0
        go_wp2_with (go_at_fn g; (with_reducible refine HFN.out.mono ?_); rintro e w3 ⟨rfl, rfl⟩)
        unfold set2 at S0 S1 HRE
        exact bodyPost_ret (v := gV (true, S)) (by simp [results, Tryz.results107, go_sem, S0.out, S1.out]) rfl HRE.out
      | false =>
        rw [if_neg (by decide)] at hg0
        subst hg0
        go_wp2_with (go_at_fn g; (with_reducible refine HFN.out.mono ?_); rintro e w3 ⟨rfl, rfl⟩)
        unfold set2 at S0 S1 HRE
        obtain ⟨we, hwe⟩ : ∃ we, we = (w3.setCell ⟨w.heap.size + 2, 0, none⟩ (.bool false)).setCell ⟨w.heap.size + 2, 1, none⟩ (.int .i64 0) := ⟨_, rfl⟩
        have h3 : GaveG (false, 0) w (.returned (gV (false, 0))) we ∧ we.cell? ⟨w.heap.size + 2, 0, none⟩ = some (.bool false) ∧ we.cell? ⟨w.heap.size + 2, 1, none⟩ = some (.int .i64 0) := by rw [hwe]; exact ⟨HRE.out, S0.out, S1.out⟩
        rw [← hwe]
        exact bodyPost_ret (v := gV (false, 0)) (by simp [results, Tryz.results107, go_sem, h3.2.1, h3.2.2]) rfl h3.1
end Go.Proofs.YtolfkhflbjnakaaGreatDoor
