/- Put and Cut: what they answer, what the set is behind them, and what stays. -/
import Derived.Test.YtkflmhpmnceniaaDoorInsert03
import Derived.Test.YtkflmhpmnceniaaDoorRead03
import Derived.Deep.RegionWith
set_option linter.unusedVariables false
namespace Go.Proofs.YtkflmhpmnceniaaDoor
open Go Go.RowKit
open Plain (Wd WS Rep posW keptW getW hasB mayB turnB turnedB)

/-- The block of a set's words. -/
def setOwn (w : World) (B : Nat) : Option Nat := match w.heap[B]? with | some (.cells cs _ _) => (cs.getD 1 undef).ownBlock | _ => none
/-- Nothing that was there has turned but the set at B and its words. -/
structure Turned (B : Nat) (w w' : World) : Prop where
  os : w'.os = w.os
  tape : w'.tape = w.tape
  output : w'.output = w.output
  size : w.heap.size ≤ w'.heap.size
  keep : ∀ k, k < w.heap.size → k ≠ B → setOwn w B ≠ some k → w'.heap[k]? = w.heap[k]?
  own : ∀ g, setOwn w' B = some g → setOwn w B = some g ∨ w.heap.size ≤ g
theorem Turned.refl (B : Nat) (w : World) : Turned B w w := ⟨rfl, rfl, rfl, Nat.le_refl _, fun _ _ _ _ => rfl, fun g h => .inl h⟩
theorem Turned.trans {B : Nat} {a b c : World} (h : Turned B a b) (k : Turned B b c) : Turned B a c := by
  refine ⟨k.os.trans h.os, k.tape.trans h.tape, k.output.trans h.output, Nat.le_trans h.size k.size, fun i hi h1 h2 => ?_, fun g hg => ?_⟩
  · rw [k.keep i (Nat.lt_of_lt_of_le hi h.size) h1 (fun e => ?_), h.keep i hi h1 h2]
    rcases h.own i e with h3 | h3
    · exact h2 h3
    · omega
  · rcases k.own g hg with h1 | h1
    · exact h.own g h1
    · exact .inr (Nat.le_trans h.size h1)
theorem setOwn_at {w : World} {B : Nat} {x v : Value} {t : TypeId} {fr : Nat × Nat} (h : w.heap[B]? = some (.cells #[x, v] t fr)) : setOwn w B = v.ownBlock := by unfold setOwn; rw [h]; rfl
theorem setOwn_eq {w w' : World} {B : Nat} (h : w'.heap[B]? = w.heap[B]?) : setOwn w' B = setOwn w B := by unfold setOwn; rw [h]
theorem Turned.of_below {B : Nat} {w w' : World} (h : Below w.heap.size w w') (hB : B < w.heap.size) : Turned B w w' :=
  ⟨h.os, h.tape, h.output, h.size, fun k hk _ _ => h.block k hk, fun g hg => .inl (by rw [← setOwn_eq (h.block B hB)]; exact hg)⟩
theorem SetAt.own {w : World} {base B n : Nat} {ws : List Wd} (h : SetAt w base B n ws) : ∀ g, setOwn w B = some g → base ≤ g ∧ g < w.heap.size := by
  obtain ⟨_, v, hv, ho⟩ := h
  intro g hg
  rw [setOwn_at hv] at hg
  exact ho.lt g hg
theorem Turned.below {w w' : World} {base B n : Nat} {ws : List Wd} (h : SetAt w base B n ws) (ht : Turned B w w') : Below base w w' := by
  have hl := h.lt
  refine ⟨ht.os, ht.tape, ht.output, ht.size, fun k hk => ht.keep k (by have := h.1; omega) (by have := h.1; omega) fun e => ?_⟩
  have := (h.own k e).1
  omega
theorem SetIs.turned_below {w w' : World} {base B : Nat} {r : List Bool} (h : SetIs w base B r) (ht : Turned B w w') : Below base w w' := by
  obtain ⟨ws, h1, _⟩ := h
  exact ht.below h1
/-- A block of another kind is neither a set's struct nor its words. -/
theorem SetAt.other {w : World} {base B n : Nat} {ws : List Wd} (h : SetAt w base B n ws) {k : Nat} {cs : Array Value} {t : TypeId} {fr : Nat × Nat} (hk : w.heap[k]? = some (.cells cs t fr)) (h1 : t ≠ 56) (h2 : t ≠ 59) : k ≠ B ∧ setOwn w B ≠ some k := by
  obtain ⟨_, v, hv, ho⟩ := h
  refine ⟨?_, ?_⟩
  · rintro rfl
    rw [hv] at hk
    simp at hk
    exact h1 hk.2.1.symm
  · rw [setOwn_at hv]
    exact owned_apart ho hk h2
/-- A row of another kind stays while a set is written. -/
theorem SetIs.row {w w' : World} {base B : Nat} {r : List Bool} (h : SetIs w base B r) (ht : Turned B w w') {base' : Nat} {e : TypeId} {size n : Nat} {v : Value} {xs : List Value} (ho : w.ownsRow base' e size v n xs) (h1 : e ≠ 56) (h2 : e ≠ 59) :
    w'.ownsRow base' e size v n xs := by
  obtain ⟨ws, hs, _⟩ := h
  refine owned_keep ho fun g hg => ?_
  rcases ho.2 with ⟨rfl, _⟩ | ⟨g', cap, cur, rfl, _, hh, _⟩
  · cases hg
  · simp only [Value.ownBlock, Option.some.injEq] at hg
    subst hg
    obtain ⟨a, b⟩ := hs.other hh h1 h2
    exact ht.keep g' (Array.getElem?_eq_some_iff.1 hh).1 a b
/-- Two sets that share nothing. -/
def Apart (w : World) (B B' : Nat) : Prop := B ≠ B' ∧ ∀ g, setOwn w B = some g → setOwn w B' ≠ some g
theorem Apart.symm {w : World} {B B' : Nat} (h : Apart w B B') : Apart w B' B := ⟨fun e => h.1 e.symm, fun g hg e => h.2 g e hg⟩
theorem SetAt.apart {w : World} {base base' B B' n n' : Nat} {ws ws' : List Wd} (h : SetAt w base B n ws) (h' : SetAt w base' B' n' ws') : setOwn w B ≠ some B' := by
  obtain ⟨_, v, hv, ho⟩ := h
  obtain ⟨_, v', hv', ho'⟩ := h'
  rw [setOwn_at hv]
  exact owned_apart ho hv' (by decide)
theorem SetIs.stays {w w' : World} {base base' B B' : Nat} {r r' : List Bool} (h : SetIs w base B r) (h' : SetIs w base' B' r') (ha : Apart w B B') (ht : Turned B w w') : SetIs w' base' B' r' ∧ Apart w' B B' := by
  obtain ⟨ws, hs, _⟩ := h
  obtain ⟨ws', hs', hr'⟩ := h'
  have hB' : w'.heap[B']? = w.heap[B']? := ht.keep B' hs'.lt (fun e => ha.1 e.symm) (hs.apart hs')
  have hown' := hs'.own
  refine ⟨⟨ws', ?_, hr'⟩, ha.1, fun g hg => ?_⟩
  · have hs2 := hs'
    obtain ⟨hb, v', hv', ho'⟩ := hs'
    refine ⟨hb, v', hB'.trans hv', owned_keep ho' fun g hg => ?_⟩
    have hg2 : setOwn w B' = some g := by rw [setOwn_at hv']; exact hg
    refine ht.keep g (hown' g hg2).2 ?_ fun e => ha.2 g e hg2
    rintro rfl
    exact hs2.apart hs hg2
  · rw [setOwn_eq hB']
    rcases ht.own g hg with h1 | h1
    · exact ha.2 g h1
    · intro e
      have := (hown' g e).2
      omega

theorem SetAt.drew {w : World} {base B n : Nat} {ws : List Wd} (h : SetAt w base B n ws) : SetAt w.drew base B n ws := h
theorem Turned.drew {B : Nat} {a w : World} (h : Turned B a w) : Turned B a w.drew := ⟨h.os, h.tape, h.output, h.size, h.keep, h.own⟩

/-- What Put and Cut give. -/
def PutGot (base B : Nat) (r : List Bool) (b : Bool) (w : World) (e : Ending) (w' : World) : Prop := e = .returned (.bool b) ∧ SetIs w' base B r ∧ Turned B w w'

/-- A word of a set, turned in place. -/
theorem word_turned {w : World} {base B n g c k y a x : Nat} {ws : List Wd} (hv : w.heap[B]? = some (.cells #[.int .i64 n, .slice (some ⟨g, 0, none⟩) ws.length c] 56 (0, 0))) (hb : base ≤ B)
    (ho : w.ownsRow base 59 2 (.slice (some ⟨g, 0, none⟩) ws.length c) ws.length (wcells ws)) (hk : ws[k]? = some (a, x)) :
    SetAt (w.setCell ⟨g, k * 2 + 1, none⟩ (.int .u64 y)) base B n (ws.set k (a, y)) ∧ Turned B w (w.setCell ⟨g, k * 2 + 1, none⟩ (.int .u64 y)) := by
  have hne : some g ≠ some B := owned_apart ho hv (by decide)
  have hgB : g ≠ B := fun e => hne (by rw [e])
  have hst := ho.stored (k * 2 + 1) (.int .u64 y)
  have hB : (w.setCell ⟨g, k * 2 + 1, none⟩ (.int .u64 y)).heap[B]? = w.heap[B]? := Below.heap_setCell _ _ _ _ (fun e => hgB e.symm)
  refine ⟨⟨hb, _, hB.trans hv, ?_⟩, rfl, rfl, rfl, by simp [World.setCell], fun j hj h1 h2 => Below.heap_setCell _ _ _ _ ?_, fun g' hg' => .inl ?_⟩
  · rw [wcells_set ws k a x y hk, List.length_set]
    exact hst.1
  · rintro rfl
    rw [setOwn_at hv] at h2
    exact h2 rfl
  · rw [← setOwn_eq hB]
    exact hg'

set_option maxHeartbeats 4000000 in
set_option maxRecDepth 100000 in
theorem set_Cut (base B : Nat) (r : List Bool) (i : Int) (w : World) (h : SetIs w base B r) (hn : r.length ≤ big) (hi63 : i < 9223372036854775808) (hi0 : -9223372036854775808 ≤ i) :
    Calls Tryd.prog 27 #[.pointer (some ⟨B, 0, none⟩), .int .i64 i] w (PutGot base B (turnB r i false) (hasB r i) w) := by
  have HH := Lib.hid (set_Has base B r i w h hn hi63 hi0)
  cases hb : hasB r i
  · have ht : turnB r i false = r := by
      unfold turnB
      split
      · rename_i h0
        unfold hasB at hb
        simp only [h0, decide_true, Bool.true_and] at hb
        apply List.ext_getElem?
        intro j
        rw [List.getElem?_set]
        split
        · rename_i e
          subst e
          split
          · rename_i hl
            rw [List.getD_eq_getElem?_getD, List.getElem?_eq_getElem hl] at hb
            rw [List.getElem?_eq_getElem hl]
            simpa using hb.symm
          · rename_i hl
            rw [List.getElem?_eq_none (by omega)]
        · rfl
      · rfl
    rw [ht]
    rw [hb] at HH
    have H := Lib.hid h
    clear ht hb h
    go_enter Tryd.func27, Tryd.ntmps27
    go_wp2_with (go_at_call 31; (with_reducible refine HH.out.mono ?_); rintro e w' ⟨rfl, hbb⟩)
    go_ret
    exact ⟨rfl, H.out.below hbb, Turned.of_below hbb H.out.lt⟩
  · rw [hb] at HH
    have hh := hb
    unfold hasB at hh
    simp only [Bool.and_eq_true, decide_eq_true_eq] at hh
    obtain ⟨m, rfl⟩ : ∃ m : Nat, i = (m : Int) := ⟨i.toNat, by omega⟩
    rw [Int.toNat_natCast] at hh
    have hmn := Plain.getD_lt r m hh.2
    obtain ⟨ws, hs, hrep⟩ := h
    have hl := (len_big hrep.wds hn).1
    have hbit : (getW ws (m / 64)).testBit (m % 64) = true := by
      have := hrep.mem m
      unfold Plain.memW at this
      rw [← this]
      exact hh.2
    have hkept : keptW ws (m / 64) = true := by
      cases hk : keptW ws (m / 64)
      · rw [Plain.getW_not hrep.wds.asc hk] at hbit
        simp at hbit
      · rfl
    obtain ⟨x, hx, hlt⟩ := Plain.keptW_at hkept
    have hgx := Plain.getW_kept hrep.wds hx
    have hxf := hrep.wds.fits _ (List.mem_of_getElem? hx)
    have HF := Lib.hid (fun w h => set_find base B r.length ws (m / 64) w h hrep.wds hn (by omega))
    have HB := Lib.hid (fun w => bits_bit m w (by omega))
    have hpf := Plain.bit_fits (Nat.mod_lt m (show 0 < 64 by decide))
    have hand := bits_andNot_u64_nat x (2 ^ (m % 64)) hxf hpf
    have hzf : Plain.andn x (2 ^ (m % 64)) < 18446744073709551616 := Nat.lt_of_le_of_lt (Plain.andn_le _ _) hxf
    obtain ⟨hW, hG⟩ := hrep.wds.set (k := posW ws (m / 64)) (y := Plain.andn x (2 ^ (m % 64))) hx hzf (fun j hj => by
      rw [Plain.andn_bit] at hj
      simp only [Bool.and_eq_true] at hj
      exact hrep.wds.inn _ (List.mem_of_getElem? hx) j hj.1)
    have hR2 : Rep (r.set m false) (ws.set (posW ws (m / 64)) (m / 64, Plain.andn x (2 ^ (m % 64)))) :=
      hrep.turned hmn hW hG (fun j => by rw [Plain.andn_pow_bit, hgx])
    have htb : turnB r (m : Int) false = r.set m false := by unfold turnB; rw [if_pos (by omega), Int.toNat_natCast]
    rw [htb]
    have HX := Lib.hid hx
    have HS := Lib.hid hs
    have HFIN : Hid (∀ w', SetAt w' base B r.length (ws.set (posW ws (m / 64)) (m / 64, Plain.andn x (2 ^ (m % 64)))) → SetIs w' base B (r.set m false)) := fun w' h' => ⟨_, by rw [List.length_set]; exact h', hR2⟩
    clear htb hR2 hG hW hb hh hbit hgx hs hrep hx
    obtain ⟨q, hq⟩ : ∃ q, q = m / 64 := ⟨_, rfl⟩
    have hq2 : (m : Int) / 64 = (q : Int) := by omega
    have hqb : q ≤ 144115188075855872 := by omega
    rw [← hq] at HF HX HFIN hkept hlt
    clear hq
    obtain ⟨k, hk⟩ : ∃ k, k = posW ws q := ⟨_, rfl⟩
    rw [← hk] at HX HFIN hlt
    have HK := Lib.hid hk
    have HKE := Lib.hid hkept
    obtain ⟨y, hy⟩ : ∃ y, y = 2 ^ (m % 64) := ⟨_, rfl⟩
    rw [← hy] at HB hpf hand hzf HFIN
    obtain ⟨z, hz⟩ : ∃ z, z = Plain.andn x y := ⟨_, rfl⟩
    rw [← hz] at hand hzf HFIN
    clear hk hkept hy hz hn
    go_enter Tryd.func27, Tryd.ntmps27
    go_wp2_with (go_at_call 31; (with_reducible refine HH.out.mono ?_); rintro e w1 ⟨rfl, hb1⟩)
    have HS1 := Lib.hid (HS.out.below hb1)
    go_wp2_with (go_at_call 44; (with_reducible refine (HF.out _ HS1.out).mono ?_))
    rintro e w2 ⟨rfl, hb2⟩
    rw [← HK.out, HKE.out]
    have HS2 := Lib.hid (HS1.out.below hb2)
    have hT2 : Turned B w w2 := (Turned.of_below hb1 HS.out.lt).trans (Turned.of_below hb2 HS1.out.lt)
    have HT2 := Lib.hid hT2
    clear hT2 hb1 hb2
    obtain ⟨hbB, v, hv, ho⟩ := HS2.out
    obtain ⟨A, c, rfl, hc, hr⟩ := owned_row ho
    obtain ⟨b1, o1, e1, _, hc1, hc2⟩ := row_word hr hlt
    have hxe : ws[k]'hlt = (q, x) := (List.getElem?_eq_some_iff.1 HX.out).2
    rw [hxe] at hc1 hc2
    have hgA : o1 = 0 := by
      rcases ho.2 with ⟨hv', _⟩ | ⟨g', _, _, hv', _⟩
      · rw [e1] at hv'; injection hv' with h1; cases h1
      · rw [e1] at hv'; injection hv' with h1; injection h1 with h1; injection h1
    subst e1
    subst hgA
    have hfz := ho.frozenAt (k * 2 + 1)
    obtain ⟨c0, c1, _, _⟩ := cell_two hv
    have HW := Lib.hid (word_turned (y := z) hv hbB ho HX.out)
    rw [Nat.zero_add] at hc1 hc2
    clear hr ho hv hxe c0
    go_wp2
    go_region_with (go_at_call 46; (with_reducible refine (HB.out _).mono ?_); rintro e w' ⟨rfl, rfl⟩)
    all_goals
      go_wp2
      go_ret
      exact ⟨rfl, HFIN.out _ HW.out.1.drew, HT2.out.trans HW.out.2.drew⟩

theorem two_setCell {w : World} {B : Nat} {x y u : Value} {t : TypeId} (h : w.heap[B]? = some (.cells #[x, y] t (0, 0))) : (w.setCell ⟨B, 1, none⟩ u).heap[B]? = some (.cells #[x, u] t (0, 0)) :=
  heap_setCell_same w B 1 #[x, y] t u h

/-- The words, moved to another row, which the set's struct is told of. -/
theorem words_moved {w w3 : World} {base B n : Nat} {ws ws' : List Wd} {v v' : Value} {o : Obj} (hb : base ≤ B) (hv : w.heap[B]? = some (.cells #[.int .i64 n, v] 56 (0, 0))) (ho : w.ownsRow base 59 2 v ws.length (wcells ws))
    (hgot : RowGot (w.alloc o) base v ws' v' w3) :
    SetAt (w3.setCell ⟨B, 1, none⟩ v') base B n ws' ∧ Turned B w (w3.setCell ⟨B, 1, none⟩ v') ∧ w3.cell? ⟨B, 1, none⟩ = some v ∧ w3.frozen? ⟨B, 1, none⟩ = false := by
  obtain ⟨h1, h2, h3⟩ := hgot
  have hlt : B < w.heap.size := (Array.getElem?_eq_some_iff.1 hv).1
  have hne : v.ownBlock ≠ some B := owned_apart ho hv (by decide)
  have hB3 : w3.heap[B]? = some (.cells #[.int .i64 n, v] 56 (0, 0)) := by
    rw [h2.block B (by simp; omega) (fun e => hne e.symm), Below.heap_alloc _ _ _ hlt]
    exact hv
  obtain ⟨_, c2, _, f2⟩ := cell_two hB3
  have hne3 : v'.ownBlock ≠ some B := owned_apart h1 hB3 (by decide)
  have hB4 := two_setCell (u := v') hB3
  refine ⟨⟨hb, v', hB4, ownsRow_setCell_other h1 hne3 v'⟩, ⟨h2.os, h2.tape, h2.output, ?_, fun j hj e1 e2 => ?_, fun g hg => ?_⟩, c2, f2⟩
  · have := h2.size
    simp [World.setCell] at this ⊢
    omega
  · rw [Below.heap_setCell _ _ _ _ e1, h2.block j (by simp; omega) (fun e => e2 (by rw [setOwn_at hv]; exact e.symm)), Below.heap_alloc _ _ _ hj]
  · rw [setOwn_at hB4] at hg
    rcases h3 g hg with h4 | h4
    · exact .inl (by rw [setOwn_at hv]; exact h4)
    · exact .inr (by simp at h4; omega)

set_option maxHeartbeats 4000000 in
set_option maxRecDepth 100000 in
theorem set_Put (base B : Nat) (r : List Bool) (i : Int) (w : World) (h : SetIs w base B r) (hn : r.length ≤ big) (hi63 : i < 9223372036854775808) (hi0 : -9223372036854775808 ≤ i) (hbase : base ≤ w.heap.size) :
    Calls Tryd.prog 26 #[.pointer (some ⟨B, 0, none⟩), .int .i64 i] w (PutGot base B (turnB r i true) (mayB r.length i && !hasB r i) w) := by
  obtain ⟨ws, hs, hrep⟩ := h
  have HM := Lib.hid (set_may base B r.length ws i w hs hn)
  cases hm : mayB r.length i
  · have ht : turnB r i true = r := by
      unfold turnB
      unfold mayB at hm
      split
      · rename_i h0
        simp only [h0, decide_true, Bool.true_and, decide_eq_false_iff_not] at hm
        rw [List.set_eq_of_length_le (by omega)]
      · rfl
    rw [ht, Bool.false_and]
    rw [hm] at HM
    have H : Hid (SetIs w base B r) := Lib.hid ⟨ws, hs, hrep⟩
    clear ht hm hs hrep
    go_enter Tryd.func26, Tryd.ntmps26
    go_wp2_with (go_at_call 43; (with_reducible refine HM.out.mono ?_); rintro e w' ⟨rfl, rfl⟩)
    go_ret
    exact ⟨rfl, H.out, Turned.refl _ _⟩
  · rw [hm] at HM
    have hm' := hm
    unfold mayB at hm'
    simp only [Bool.and_eq_true, decide_eq_true_eq] at hm'
    obtain ⟨m, rfl⟩ : ∃ m : Nat, i = (m : Int) := ⟨i.toNat, by omega⟩
    have hmn : m < r.length := by omega
    have hl := (len_big hrep.wds hn).1
    have hhas : hasB r (m : Int) = (getW ws (m / 64)).testBit (m % 64) := by
      unfold hasB
      have := hrep.mem m
      unfold Plain.memW at this
      rw [← this]
      simp
    have htb : turnB r (m : Int) true = r.set m true := by unfold turnB; rw [if_pos (by omega), Int.toNat_natCast]
    rw [htb, Bool.true_and, hhas]
    have HF := Lib.hid (fun w h => set_find base B r.length ws (m / 64) w h hrep.wds hn (by omega))
    have HB := Lib.hid (fun w => bits_bit m w (by omega))
    have hpf := Plain.bit_fits (Nat.mod_lt m (show 0 < 64 by decide))
    cases hkept : keptW ws (m / 64)
    · have hgx := Plain.getW_not hrep.wds.asc hkept
      have hIns := hrep.wds.insert (a := m / 64) (y := 0) hkept (by omega) (by omega) (fun j hj => by simp at hj)
      obtain ⟨hWI, hGI⟩ := hIns
      have hple := Plain.posW_le ws (m / 64)
      have hx : (ws.take (posW ws (m / 64)) ++ (m / 64, 0) :: ws.drop (posW ws (m / 64)))[posW ws (m / 64)]? = some (m / 64, 0) := by
        rw [List.getElem?_append_right (by rw [List.length_take]; omega), List.length_take, Nat.min_eq_left hple, Nat.sub_self]
        rfl
      have hnb : ∀ j, (0 ||| 2 ^ (m % 64)).testBit j = true → m / 64 * 64 + j < r.length := by
        intro j hj
        rw [Plain.or_pow_bit] at hj
        split at hj
        · rename_i e; subst e; omega
        · simp at hj
      obtain ⟨hW, hG⟩ := hWI.set (y := 0 ||| 2 ^ (m % 64)) hx (Plain.or_fits (by omega) hpf) hnb
      have hR2 : Rep (r.set m true) ((ws.take (posW ws (m / 64)) ++ (m / 64, 0) :: ws.drop (posW ws (m / 64))).set (posW ws (m / 64)) (m / 64, 0 ||| 2 ^ (m % 64))) :=
        hrep.turned hmn hW (y := 0 ||| 2 ^ (m % 64)) (fun a => by
          rw [hG, hGI]
          by_cases e : a = m / 64
          · rw [if_pos e, if_pos e]
          · rw [if_neg e, if_neg e, if_neg e]) (fun j => by rw [Plain.or_pow_bit, hgx])
      have hne := Plain.or_pow_ne 0 (m % 64)
      rw [hgx, ← hne]
      have hlen : (ws.take (posW ws (m / 64)) ++ (m / 64, 0) :: ws.drop (posW ws (m / 64))).length = ws.length + 1 := by simp; omega
      have hor : bits .or .u64 (0 : Int) ((2 ^ (m % 64) : Nat) : Int) = ((0 ||| 2 ^ (m % 64) : Nat) : Int) := bits_or_u64_nat 0 (2 ^ (m % 64)) (by omega) hpf
      have hzf := Plain.or_fits (a := 0) (by omega) hpf
      have HX := Lib.hid hx
      have HS := Lib.hid hs
      have HFIN : Hid (∀ w', SetAt w' base B r.length ((ws.take (posW ws (m / 64)) ++ (m / 64, 0) :: ws.drop (posW ws (m / 64))).set (posW ws (m / 64)) (m / 64, 0 ||| 2 ^ (m % 64))) → SetIs w' base B (r.set m true)) := fun w' h' => ⟨_, by rw [List.length_set]; exact h', hR2⟩
      have HINS := Lib.hid (fun (w : World) (v : Value) (VB : Nat) (ho : w.ownsRow base 59 2 v ws.length (wcells ws)) hv hVg hbw => insert_any w base v ws.length (posW ws (m / 64)) ws (m / 64, 0) VB ho rfl (by omega) hple hv hVg hbw)
      clear htb hR2 hG hW hgx hs hrep hx hnb hne hhas hm hWI hGI
      obtain ⟨q, hq⟩ : ∃ q, q = m / 64 := ⟨_, rfl⟩
      have hq2 : (m : Int) / 64 = (q : Int) := by omega
      have hqb : q ≤ 144115188075855872 := by omega
      rw [← hq] at HF HX HFIN HINS hkept hlen hple
      clear hq
      obtain ⟨k, hk⟩ : ∃ k, k = posW ws q := ⟨_, rfl⟩
      rw [← hk] at HX HFIN HINS hlen hple
      have HK := Lib.hid hk
      have HKE := Lib.hid hkept
      obtain ⟨y, hy⟩ : ∃ y, y = 2 ^ (m % 64) := ⟨_, rfl⟩
      rw [← hy] at HB hpf hor hzf HFIN ⊢
      obtain ⟨z, hz⟩ : ∃ z, z = 0 ||| y := ⟨_, rfl⟩
      rw [← hz] at hor hzf HFIN ⊢
      obtain ⟨ws2, hws2⟩ : ∃ ws2, ws2 = ws.take k ++ (q, 0) :: ws.drop k := ⟨_, rfl⟩
      rw [← hws2] at HX HFIN HINS hlen
      clear hk hkept hy hz hn hm' hws2
      go_enter Tryd.func26, Tryd.ntmps26
      go_wp2_with (go_at_call 43; (with_reducible refine HM.out.mono ?_); rintro e w' ⟨rfl, rfl⟩)
      go_wp2_with (go_at_call 44; (with_reducible refine (HF.out _ HS.out).mono ?_))
      rintro e w2 ⟨rfl, hb2⟩
      rw [← HK.out, HKE.out]
      have HS2 := Lib.hid (HS.out.below hb2)
      have HT2 := Lib.hid (Turned.of_below hb2 HS.out.lt)
      have hbs := hb2.size
      clear hb2
      obtain ⟨hbB, v, hv, ho⟩ := HS2.out
      obtain ⟨c0, c1, _, _⟩ := cell_two hv
      have HV := Lib.hid hv
      have HO := Lib.hid ho
      have hown : v.ownBlock ≠ some w2.heap.size := fun e => by have := (ho.lt _ e).2; omega
      have HI := Lib.hid (HINS.out (w2.alloc (.cells #[.int .i64 q, .int .u64 (0 : Nat)] 59)) v w2.heap.size (ho.alloc _) (heap_alloc_new w2 _) hown (by simp; omega))
      clear hv ho c0 hown hbs
      go_wp2_with (go_at_call 45; refine HI.out.mono ?_)
      rintro e w3 ⟨v', rfl, hgot⟩
      obtain ⟨hs4, ht4, c3, f3⟩ := words_moved hbB HV.out HO.out hgot
      have hT4 := Lib.hid (HT2.out.trans ht4)
      have ho3 := hgot.1
      obtain ⟨_, u4, hv4, ho4⟩ := hs4
      have hu4 : u4 = v' := by
        have h1 : (w3.setCell ⟨B, 1, none⟩ v').cell? ⟨B, 1, none⟩ = some u4 := (cell_two hv4).2.1
        rw [World.cell?_setCell_same' _ _ _ (by rw [c3]; rfl)] at h1
        injection h1 with h1
        exact h1.symm
      subst hu4
      obtain ⟨A, c, rfl, hc, hr⟩ := owned_row ho3
      obtain ⟨b1, o1, e1, _, hc1, hc2⟩ := row_word hr (k := k) (by omega)
      have hxe : ws2[k]'(by omega) = (q, 0) := (List.getElem?_eq_some_iff.1 HX.out).2
      rw [hxe] at hc1 hc2
      have hgA : o1 = 0 := by
        rcases ho3.2 with ⟨hv', _⟩ | ⟨g', _, _, hv', _⟩
        · rw [e1] at hv'; injection hv' with h1; cases h1
        · rw [e1] at hv'; injection hv' with h1; injection h1 with h1; injection h1
      subst e1
      subst hgA
      have hfz := ho3.frozenAt (k * 2 + 1)
      have hBb : B ≠ b1 := fun e => owned_apart ho4 hv4 (by decide) (by rw [e]; rfl)
      have hbB2 : ¬ b1 = B := fun e => hBb e.symm
      have HW := Lib.hid (word_turned (y := z) hv4 hbB ho4 HX.out)
      rw [Nat.zero_add] at hc1 hc2
      have hc2' : w3.cell? ⟨b1, k * 2 + 1, none⟩ = some (.int .u64 0) := hc2
      have hkl : k < ws2.length := by omega
      have hkl2 : (k : Int) < ws2.length := by omega
      have hl2 : ws2.length ≤ 16777218 := by omega
      clear hr ho3 hv4 ho4 hxe hc hc2 c1 hgot ht4 hlen
      go_wp2
      go_region_with (go_at_call 46; (with_reducible refine (HB.out _).mono ?_); rintro e w' ⟨rfl, rfl⟩)
      all_goals
        go_wp2
        go_ret
        exact ⟨ret_bool (by rw [Bool.eq_iff_iff]; simp only [bne_iff_ne, ne_eq]; omega), HFIN.out _ HW.out.1.drew, hT4.out.trans HW.out.2.drew⟩
    · obtain ⟨x, hx, hlt⟩ := Plain.keptW_at hkept
      have hgx := Plain.getW_kept hrep.wds hx
      have hxf := hrep.wds.fits _ (List.mem_of_getElem? hx)
      have hnb : ∀ j, (x ||| 2 ^ (m % 64)).testBit j = true → m / 64 * 64 + j < r.length := by
        intro j hj
        rw [Plain.or_pow_bit] at hj
        split at hj
        · rename_i e; subst e; omega
        · exact hrep.wds.inn _ (List.mem_of_getElem? hx) j hj
      obtain ⟨hW, hG⟩ := hrep.wds.set (k := posW ws (m / 64)) (y := x ||| 2 ^ (m % 64)) hx (Plain.or_fits hxf hpf) hnb
      have hR2 : Rep (r.set m true) (ws.set (posW ws (m / 64)) (m / 64, x ||| 2 ^ (m % 64))) :=
        hrep.turned hmn hW hG (fun j => by rw [Plain.or_pow_bit, hgx])
      have hne := Plain.or_pow_ne x (m % 64)
      rw [hgx, ← hne]
      have hor := bits_or_u64_nat x (2 ^ (m % 64)) hxf hpf
      have hzf := Plain.or_fits hxf hpf
      have HX := Lib.hid hx
      have HS := Lib.hid hs
      have HFIN : Hid (∀ w', SetAt w' base B r.length (ws.set (posW ws (m / 64)) (m / 64, x ||| 2 ^ (m % 64))) → SetIs w' base B (r.set m true)) := fun w' h' => ⟨_, by rw [List.length_set]; exact h', hR2⟩
      clear htb hR2 hG hW hgx hs hrep hx hnb hne hhas hm
      obtain ⟨q, hq⟩ : ∃ q, q = m / 64 := ⟨_, rfl⟩
      have hq2 : (m : Int) / 64 = (q : Int) := by omega
      have hqb : q ≤ 144115188075855872 := by omega
      rw [← hq] at HF HX HFIN hkept hlt
      clear hq
      obtain ⟨k, hk⟩ : ∃ k, k = posW ws q := ⟨_, rfl⟩
      rw [← hk] at HX HFIN hlt
      have HK := Lib.hid hk
      have HKE := Lib.hid hkept
      obtain ⟨y, hy⟩ : ∃ y, y = 2 ^ (m % 64) := ⟨_, rfl⟩
      rw [← hy] at HB hpf hor hzf HFIN ⊢
      obtain ⟨z, hz⟩ : ∃ z, z = x ||| y := ⟨_, rfl⟩
      rw [← hz] at hor hzf HFIN ⊢
      clear hk hkept hy hz hn hm'
      go_enter Tryd.func26, Tryd.ntmps26
      go_wp2_with (go_at_call 43; (with_reducible refine HM.out.mono ?_); rintro e w' ⟨rfl, rfl⟩)
      go_wp2_with (go_at_call 44; (with_reducible refine (HF.out _ HS.out).mono ?_))
      rintro e w2 ⟨rfl, hb2⟩
      rw [← HK.out, HKE.out]
      have HS2 := Lib.hid (HS.out.below hb2)
      have HT2 := Lib.hid (Turned.of_below hb2 HS.out.lt)
      clear hb2
      obtain ⟨hbB, v, hv, ho⟩ := HS2.out
      obtain ⟨A, c, rfl, hc, hr⟩ := owned_row ho
      obtain ⟨b1, o1, e1, _, hc1, hc2⟩ := row_word hr hlt
      have hxe : ws[k]'hlt = (q, x) := (List.getElem?_eq_some_iff.1 HX.out).2
      rw [hxe] at hc1 hc2
      have hgA : o1 = 0 := by
        rcases ho.2 with ⟨hv', _⟩ | ⟨g', _, _, hv', _⟩
        · rw [e1] at hv'; injection hv' with h1; cases h1
        · rw [e1] at hv'; injection hv' with h1; injection h1 with h1; injection h1
      subst e1
      subst hgA
      have hfz := ho.frozenAt (k * 2 + 1)
      have hBb : B ≠ b1 := fun e => owned_apart ho hv (by decide) (by rw [e]; rfl)
      have hbB2 : ¬ b1 = B := fun e => hBb e.symm
      obtain ⟨c0, c1, _, _⟩ := cell_two hv
      have HW := Lib.hid (word_turned (y := z) hv hbB ho HX.out)
      rw [Nat.zero_add] at hc1 hc2
      clear hr ho hv hxe c0 hc
      go_wp2
      go_region_with (go_at_call 46; (with_reducible refine (HB.out _).mono ?_); rintro e w' ⟨rfl, rfl⟩)
      all_goals
        go_wp2
        go_ret
        exact ⟨ret_bool (by rw [Bool.eq_iff_iff]; simp only [bne_iff_ne, ne_eq]; omega), HFIN.out _ HW.out.1.drew, HT2.out.trans HW.out.2.drew⟩
end Go.Proofs.YtkflmhpmnceniaaDoor
