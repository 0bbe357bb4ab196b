/- And: what is in both. -/
import Derived.Test.YtkflmhpmnceniaaDoorNot03
set_option linter.unusedVariables false
namespace Go.Proofs.YtkflmhpmnceniaaDoor
open Go Go.RowKit
open Plain (Wd WS Rep getW joinB)

namespace Plain
theorem joinB_getD (a b : List Bool) (o : Bool) (i : Nat) : (joinB a b o).getD i false = joinF a b o i := by
  by_cases hi : i < max a.length b.length
  · rw [joinB_range, List.getD_eq_getElem?_getD, List.getElem?_map, List.getElem?_range hi]
    rfl
  · have h1 : a.getD i false = false := by rw [List.getD_eq_getElem?_getD, List.getElem?_eq_none (by omega)]; rfl
    have h2 : b.getD i false = false := by rw [List.getD_eq_getElem?_getD, List.getElem?_eq_none (by omega)]; rfl
    rw [List.getD_eq_getElem?_getD, List.getElem?_eq_none (by rw [joinB_length]; omega)]
    unfold joinF
    rw [h1, h2]
    cases o <;> rfl
def andOne (wo : List Wd) (p : Wd) : List Wd := if p.2 &&& getW wo p.1 = 0 then [] else [(p.1, p.2 &&& getW wo p.1)]
/-- The words that are in both. -/
def andW (wo ws : List Wd) : List Wd := ws.flatMap (andOne wo)
theorem andW_take (wo : List Wd) {ws : List Wd} {k : Nat} (hk : k < ws.length) : andW wo (ws.take (k + 1)) = andW wo (ws.take k) ++ andOne wo (ws[k]'hk) := by
  unfold andW
  rw [List.take_succ_eq_append_getElem hk, List.flatMap_append]
  simp
theorem andOne_mem {wo : List Wd} {p q : Wd} : p ∈ andOne wo q ↔ p.1 = q.1 ∧ p.2 = q.2 &&& getW wo q.1 ∧ p.2 ≠ 0 := by
  obtain ⟨a, x⟩ := p
  unfold andOne
  split
  · rename_i h
    simp only [List.not_mem_nil, false_iff]
    rintro ⟨_, h2, h3⟩
    exact h3 (h2.trans h)
  · rename_i h
    simp only [List.mem_singleton, Prod.mk.injEq]
    constructor
    · rintro ⟨rfl, rfl⟩; exact ⟨rfl, rfl, h⟩
    · rintro ⟨h1, h2, _⟩; exact ⟨h1, h2⟩
theorem andW_length (wo ws : List Wd) : (andW wo ws).length ≤ ws.length := by
  induction ws with
  | nil => simp [andW]
  | cons p ws ih =>
    unfold andW at ih ⊢
    rw [List.flatMap_cons, List.length_append, List.length_cons]
    have : (andOne wo p).length ≤ 1 := by unfold andOne; split <;> simp
    omega
theorem andW_mem {n : Nat} {wo ws : List Wd} (h : WS n ws) {p : Wd} : p ∈ andW wo ws ↔ (∃ q ∈ ws, q.1 = p.1) ∧ p.2 = getW ws p.1 &&& getW wo p.1 ∧ p.2 ≠ 0 := by
  unfold andW
  rw [List.mem_flatMap]
  constructor
  · rintro ⟨q, hq, hp⟩
    obtain ⟨h1, h2, h3⟩ := andOne_mem.1 hp
    refine ⟨⟨q, hq, h1.symm⟩, ?_, h3⟩
    rw [h1, getW_mem h hq]
    exact h2
  · rintro ⟨⟨q, hq, h1⟩, h2, h3⟩
    refine ⟨q, hq, andOne_mem.2 ⟨h1.symm, ?_, h3⟩⟩
    rw [← getW_mem h hq, h1]
    exact h2
theorem andW_wds {n m : Nat} {wo ws : List Wd} (h : WS n ws) (hn : n ≤ m) : WS m (andW wo ws) := by
  refine ⟨?_, fun p hp => ?_, fun p hp => ?_, fun p hp j hj => ?_⟩
  · unfold andW
    rw [List.pairwise_flatMap]
    refine ⟨fun p hp => ?_, h.asc.imp fun {p q} hpq x hx y hy => ?_⟩
    · unfold andOne
      split
      · exact List.Pairwise.nil
      · exact List.pairwise_singleton _ _
    · rw [(andOne_mem.1 hx).1, (andOne_mem.1 hy).1]
      exact hpq
  · rw [((andW_mem h).1 hp).2.1]
    exact Nat.lt_of_le_of_lt Nat.and_le_left (getW_fits h _)
  · obtain ⟨q, hq, e⟩ := ((andW_mem h).1 hp).1
    have := h.here q hq
    omega
  · obtain ⟨q, hq, e⟩ := ((andW_mem h).1 hp).1
    rw [((andW_mem h).1 hp).2.1, Nat.testBit_and, ← e, getW_mem h hq] at hj
    simp only [Bool.and_eq_true] at hj
    have := h.inn q hq j hj.1
    omega
theorem andW_get {n : Nat} {wo ws : List Wd} (h : WS n ws) (a : Nat) : getW (andW wo ws) a = getW ws a &&& getW wo a := by
  by_cases e : getW ws a &&& getW wo a = 0
  · rw [e]
    refine getW_none fun p hp e' => ?_
    obtain ⟨_, h2, h3⟩ := (andW_mem h).1 hp
    rw [e'] at h2
    omega
  · have h1 : getW ws a ≠ 0 := fun e' => e (by rw [e', Nat.zero_and])
    obtain ⟨q, hq, hqa, _⟩ := getW_some h1
    exact getW_mem (andW_wds h (Nat.le_refl n)) (p := (a, getW ws a &&& getW wo a)) ((andW_mem h).2 ⟨⟨q, hq, hqa⟩, rfl, e⟩)
theorem andW_rep {r r2 : List Bool} {ws wo : List Wd} (h : Rep r ws) (h2 : Rep r2 wo) : Rep (joinB r r2 false) (andW wo ws) := by
  refine ⟨andW_wds h.wds (by rw [joinB_length]; omega), fun i => ?_⟩
  rw [joinB_getD]
  unfold memW joinF
  rw [andW_get h.wds, Nat.testBit_and, h.mem, h2.mem]
  simp [memW]
end Plain

theorem bits_given (B : Nat) (w : World) : Calls Tryd.prog 36 #[.pointer (some ⟨B, 0, none⟩)] w fun e w' => e = .returned (.pointer (some ⟨B, 0, none⟩)) ∧ w = w' := by
  go_enter Tryd.func36, Tryd.ntmps36
  go_wp2
  go_ret
  exact ⟨rfl, rfl⟩

def NewAt (n : Nat) (w : World) (e : Ending) (w' : World) : Prop := e = .returned (.pointer (some ⟨w.heap.size, 0, none⟩)) ∧ SetAt w' w.heap.size w.heap.size n [] ∧ Below w.heap.size w w'
set_option maxHeartbeats 1000000 in
theorem bits_New_at (n : Nat) (w : World) (hn : n < 9223372036854775808) : Calls Tryd.prog 33 #[.int .i64 n] w (NewAt n w) := by
  have hmx : ∀ (w : World) (ts : Array TypeId) (t : TypeId), (Builtin.max_ ts t #[.int .i64 n, .int .i64 0]).run Tryd.prog w = .ok (.int .i64 (n : Int)) w := fun w ts t => by rw [run_max_int2]; (try congr 2); (try (split <;> omega))
  have HG : Hid (SetAt (w.alloc (.cells #[.int .i64 n, .slice none 0 0] 56)) w.heap.size w.heap.size n []) := Lib.hid ⟨Nat.le_refl _, .slice none 0 0, heap_alloc_new w _, World.ownsRow_nil _ _ _ _⟩
  clear hn
  go_enter Tryd.func33, Tryd.ntmps33
  go_wp2
  go_ret
  exact ⟨rfl, HG.out, (Below.refl _ _).alloc (Nat.le_refl _) _⟩

def AndRel (N R : Nat) (wo ws : List Wd) (w : World) (i : Value) (wr : World) : Prop := ∃ k : Nat, k ≤ ws.length ∧ i = .int .i64 k ∧ SetAt wr R R N (Plain.andW wo (ws.take k)) ∧ Below R w wr

set_option maxHeartbeats 16000000 in
set_option maxRecDepth 100000 in
theorem set_And (base B : Nat) (r : List Bool) (base2 B2 : Nat) (r2 : List Bool) (w : World) (h : SetIs w base B r) (h2 : SetIs w base2 B2 r2) (hn : r.length ≤ big) (hn2 : r2.length ≤ big) :
    Calls Tryd.prog 13 #[.pointer (some ⟨B, 0, none⟩), .pointer (some ⟨B2, 0, none⟩)] w (NewSet (joinB r r2 false) w) := by
  obtain ⟨ws, hs, hrep⟩ := h
  obtain ⟨wo, ho, hrepo⟩ := h2
  have HREP := Lib.hid (Plain.andW_rep hrep hrepo)
  have HWO := Lib.hid (fun w3 a h ha => set_word base2 B2 r2.length wo a w3 h hrepo.wds hn2 ha)
  have hw := hrep.wds
  have hwo := hrepo.wds
  have hl := (len_big hw hn).1
  have hbb := (len_big hw hn).2
  have HNL := Lib.hid (Plain.joinB_length r r2 false)
  unfold big at hn hn2
  obtain ⟨n, hne⟩ : ∃ n, n = r.length := ⟨_, rfl⟩
  obtain ⟨n2, hne2⟩ : ∃ n2, n2 = r2.length := ⟨_, rfl⟩
  rw [← hne] at hs hw hn HNL
  rw [← hne2] at ho hn2 HWO hwo HNL
  have hmx : ∀ (w : World) (ts : Array TypeId) (t : TypeId), (Builtin.max_ ts t #[.int .i64 n, .int .i64 n2]).run Tryd.prog w = .ok (.int .i64 ((max n n2 : Nat) : Int)) w := fun w ts t => by rw [run_max_int2]; congr 2; split <;> omega
  obtain ⟨N, hN⟩ : ∃ N, N = max n n2 := ⟨_, rfl⟩
  have hNl : N ≤ 1073741824 := by omega
  rw [← hN] at hmx HNL
  have HNEW := Lib.hid (fun w3 => bits_New_at N w3 (by omega))
  have HS := Lib.hid hs
  have HO := Lib.hid ho
  have HW := Lib.hid hw
  have HWF := Lib.hid hwo
  have HBB := Lib.hid hbb
  obtain ⟨A, c, c0, c1, hc, hr⟩ := hs.read
  obtain ⟨A2, c2, d0, d1, hc2, hr2⟩ := ho.read
  have HC1 := Lib.hid c1
  clear hrep hrepo hne hne2 hs ho hw hwo hr hr2 hbb hN hn hn2 d1 c1
  go_enter Tryd.func13, Tryd.ntmps13
  go_wp2_with (go_at_call 36; (with_reducible refine (bits_given B2 _).mono ?_); rintro e w' ⟨rfl, rfl⟩)
  go_region_with (go_at_call 33; (with_reducible refine (HNEW.out _).mono ?_); rintro e w' ⟨rfl, hs1, hb1⟩)
  all_goals
    have hb1 : Below w.heap.size w w' := below_undrew hb1
    have hs1 : SetAt w' w.heap.size w.heap.size N [] := hs1
    obtain ⟨R, hR⟩ : ∃ R, R = w.heap.size := ⟨_, rfl⟩
    rw [← hR] at hs1
    have hrel0 : AndRel N R wo ws w (.int .i64 ((0 : Nat) : Int)) w' := ⟨0, Nat.zero_le _, rfl, hs1, by rw [hR]; exact hb1⟩
    have HREL0 := Lib.hid hrel0
    have HRE := Lib.hid hR
    have c1 := (hb1.cell (p := ⟨B, 1, none⟩) HS.out.lt).trans HC1.out
    clear hrel0 hb1 hs1 d0 hmx
    go_wp2
    rw [← hR]
    clear hR c0 c1 hc
    go_loopw [25] (AndRel N R wo ws w) (fun i _ => ws.length - (intOf i).toNat)
    case atStart => exact HREL0.out
    case round =>
      obtain ⟨k, hk, rfl, hset, hbw⟩ := hrel
      by_cases hlt : k < ws.length
      · have hbw2 : Below w.heap.size w wr := by have h := hbw; rwa [HRE.out] at h
        obtain ⟨A', c', d0, d1, hc', hr'⟩ := (HS.out.below hbw2).read
        obtain ⟨b1, o1, e1, hb1, hc1, hc2⟩ := row_word hr' hlt
        have hpf := HW.out.fits _ (List.getElem_mem hlt)
        have hpb := HBB.out _ (List.getElem_mem hlt)
        have htk := Plain.andW_take wo hlt
        have hal := Plain.andW_length wo (ws.take k)
        rw [List.length_take] at hal
        obtain ⟨p, hp⟩ : ∃ p, p = ws[k]'hlt := ⟨_, rfl⟩
        rw [← hp] at hc1 hc2 hpf hpb htk
        obtain ⟨a, y⟩ := p
        simp only at hc1 hc2 hpf hpb
        have hgf := Plain.getW_fits HWF.out a
        have hand := bits_and_u64_nat y (getW wo a) hpf hgf
        have hone : Plain.andOne wo (a, y) = if y &&& getW wo a = 0 then [] else [(a, y &&& getW wo a)] := rfl
        rw [hone] at htk
        obtain ⟨us, hus⟩ : ∃ us, us = Plain.andW wo (ws.take k) := ⟨_, rfl⟩
        rw [← hus] at htk hal hset
        obtain ⟨gw, hgw⟩ : ∃ gw, gw = getW wo a := ⟨_, rfl⟩
        rw [← hgw] at htk hgf hand
        obtain ⟨z, hz⟩ : ∃ z, z = y &&& gw := ⟨_, rfl⟩
        rw [← hz] at htk hand
        have hkl : (k : Int) < ws.length := by omega
        have HWD := Lib.hid (HWO.out (wr.alloc (.cells #[.int .i64 a, .int .u64 y] 59)).drew a ((HO.out.below (hbw2.trans ((Below.refl _ _).alloc hbw2.size _))).drew) (by omega))
        rw [← hgw] at HWD
        have HSET := Lib.hid hset
        have HBW := Lib.hid hbw
        have HTK := Lib.hid htk
        subst e1
        clear hp hset hbw hr' hc' d0 hbw2 hus hz hgw htk hone
        go_wp2
        go_region_with (go_at_call 37; (with_reducible refine HWD.out.mono ?_); rintro e w3 ⟨rfl, hb3⟩; obtain ⟨q0, q1, f0, f1⟩ := cell_two ((hb3.block wr.heap.size (by simp [World.drew])).trans (heap_alloc_new wr (.cells #[.int .i64 a, .int .u64 y] 59))))
        all_goals
          have hbb3 : Below wr.heap.size wr w3 := ((Below.refl _ _).alloc (Nat.le_refl _) _).trans ((below_undrew hb3).mono (by simp [World.drew]))
          have hcell3 : w3.heap[wr.heap.size]? = some (.cells #[.int .i64 a, .int .u64 y] 59 (0, 0)) := (hb3.block wr.heap.size (by simp [World.drew])).trans (heap_alloc_new wr (.cells #[.int .i64 a, .int .u64 y] 59))
          obtain ⟨w4, hw4⟩ : ∃ w4, w4 = w3.setCell ⟨wr.heap.size, 1, none⟩ (.int .u64 z) := ⟨_, rfl⟩
          have hb4 : Below wr.heap.size wr w4 := by rw [hw4]; exact hbb3.setCell (Nat.le_refl _) _
          have hcell4 : w4.heap[wr.heap.size]? = some (.cells #[.int .i64 a, .int .u64 z] 59 (0, 0)) := by rw [hw4]; exact two_setCell hcell3
          obtain ⟨m0, m1, _, _⟩ := cell_two hcell4
          rw [← hw4]
          obtain ⟨nb, hnb⟩ : ∃ nb, nb = wr.heap.size := ⟨_, rfl⟩
          rw [← hnb] at m0 m1 ⊢
          have hS4 : SetAt w4 R R N us := HSET.out.below hb4
          have HS4 := Lib.hid hS4
          have HB4 : Hid (Below R w w4) := Lib.hid (HBW.out.trans (hb4.mono (by have := HBW.out.size; have := HRE.out; omega)))
          have hul : us.length ≤ 16777217 := by omega
          clear hw4 hnb hcell3 hcell4 hbb3 hb3 q0 q1 f0 f1 hc1 hc2 d1 hand hgf hpf HWD HSET hb4 hal
          by_cases hz0 : z = 0
          · subst hz0
            clear hS4
            go_wp2
            go_roundw
            case rel => exact ⟨k + 1, by omega, by go_num, by rw [HTK.out]; simpa using HS4.out, HB4.out⟩
            case measure => simp [intOf]; omega
          · obtain ⟨hRR, v, hv, ho⟩ := hS4
            obtain ⟨Av, cv, rfl, _, _⟩ := owned_row ho
            obtain ⟨_, e1, _, _⟩ := cell_two hv
            have hRlt := HS4.out.lt
            have e1a : ∀ o, (w4.alloc o).cell? ⟨R, 1, none⟩ = some (.slice Av us.length cv) := fun o => ((Below.refl w4.heap.size w4).alloc (Nat.le_refl _) o).cell (p := ⟨R, 1, none⟩) hRlt |>.trans e1
            obtain ⟨v', w', hr, hgot⟩ := run_append_words ((w4.alloc (.cells #[.int .i64 a, .int .u64 z] 59)).drew) R (.slice Av us.length cv) us.length us (a, z) w4.heap.size 1 ((show w4.drew.ownsRow R 59 2 _ _ _ from ho).alloc _) rfl (by omega) (cell_two (B := w4.heap.size) (heap_alloc_new w4.drew _)).1 (cell_two (B := w4.heap.size) (heap_alloc_new w4.drew _)).2.1 (by simp [World.drew]; omega)
            have hgot : RowGot (w4.drew.alloc (.cells #[.int .i64 a, .int .u64 z] 59)) R (.slice Av us.length cv) (us ++ [(a, z)]) v' w' := hgot
            obtain ⟨A', c', rfl, _, _⟩ := owned_row hgot.1
            obtain ⟨hs5, ht5, c3, f3⟩ := words_moved (w := w4.drew) hRR hv ho hgot
            have HR := Lib.hid hr
            have hF : AndRel N R wo ws w (.int .i64 ((k + 1 : Nat) : Int)) (w'.setCell ⟨R, 1, none⟩ (.slice A' _ c')) := ⟨k + 1, by omega, rfl, by rw [HTK.out, if_neg hz0]; exact hs5, HB4.out.trans (below_undrew (Turned.below (w := w4.drew) HS4.out ht5))⟩
            have HF := Lib.hid hF
            have hzi : ((z : Int) != 0) = true := by simp; omega
            clear hr hgot hs5 ht5 hF hv ho
            go_wp2
            go_region_law (refine step_append_run rfl _ _ _ rfl _ _ (by simp [Act.eval, Act.put]) (by simp [Act.eval, Act.put]) _ _ HR.out ?_)
            all_goals
              go_wp2
              go_roundw
              case rel => simpa using HF.out
              case measure => simp [intOf]; omega
      · obtain rfl : k = ws.length := by omega
        have HSET := Lib.hid hset
        have HBW := Lib.hid hbw
        clear hset hbw
        go_wp2
        go_ret
        have hfin := HSET.out
        rw [List.take_length] at hfin
        exact ⟨R, rfl, ⟨_, by rw [HNL.out, ← HRE.out]; exact hfin, HREP.out⟩, by rw [← HRE.out]; exact HBW.out⟩
end Go.Proofs.YtkflmhpmnceniaaDoor
