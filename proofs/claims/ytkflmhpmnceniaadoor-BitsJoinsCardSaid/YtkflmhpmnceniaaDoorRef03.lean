/- What the document's own functions on lists of truths answer: Has, Turn, Next, Rank, List, Not, Join. -/
import Derived.Test.YtkflmhpmnceniaaDoorRead03
set_option linter.unusedVariables false
namespace Go.Proofs.YtkflmhpmnceniaaDoor
open Go Go.RowKit
open Plain (hasB mayB turnB turnedB ones nextB rankB)

namespace Plain
/-- All below k that are in. -/
def onesTo (r : List Bool) (k : Nat) : List Nat := (List.range k).filter fun j => r.getD j false
theorem onesTo_succ (r : List Bool) (k : Nat) : onesTo r (k + 1) = onesTo r k ++ if r.getD k false then [k] else [] := by
  unfold onesTo
  rw [List.range_succ, List.filter_append]
  congr 1
  simp [List.filter_cons]
theorem onesTo_all (r : List Bool) : onesTo r r.length = ones r := rfl
theorem onesTo_length (r : List Bool) (k : Nat) : (onesTo r k).length ≤ k := by
  unfold onesTo
  exact Nat.le_trans (List.length_filter_le _ _) (by simp)
def rankTo (r : List Bool) (i : Int) (k : Nat) : Nat := (List.range k).countP fun j => r.getD j false && decide ((j : Int) < i)
theorem rankTo_succ (r : List Bool) (i : Int) (k : Nat) : rankTo r i (k + 1) = rankTo r i k + if r.getD k false && decide ((k : Int) < i) then 1 else 0 := by
  unfold rankTo
  rw [List.range_succ, List.countP_append, List.countP_singleton]
theorem rankTo_all (r : List Bool) (i : Int) : rankTo r i r.length = rankB r i := by
  unfold rankTo rankB ones
  rw [List.countP_filter]
  congr 1
  funext j
  rw [Bool.and_comm]
theorem rankTo_le (r : List Bool) (i : Int) (k : Nat) : rankTo r i k ≤ k := by
  unfold rankTo
  exact Nat.le_trans List.countP_le_length (by simp)
theorem nextB_range (r : List Bool) (i : Int) : nextB r i = match (List.range r.length).find? (fun j => r.getD j false && decide (i ≤ (j : Int))) with | some k => (k : Int) | none => -1 := by
  unfold nextB ones
  rw [List.find?_filter]
  have : (fun a : Nat => decide (r.getD a false = true ∧ decide (i ≤ (a : Int)) = true)) = fun j => r.getD j false && decide (i ≤ (j : Int)) := by
    funext a
    rw [Bool.eq_iff_iff]
    simp
  rw [this]
  rfl
theorem nextB_at {r : List Bool} {i : Int} {k : Nat} (hk : r.getD k false = true) (hi : i ≤ k) (h : ∀ j, j < k → ¬ (r.getD j false = true ∧ i ≤ (j : Int))) : nextB r i = k := by
  rw [nextB_range]
  have : (List.range r.length).find? (fun j => r.getD j false && decide (i ≤ (j : Int))) = some k := by
    rw [List.find?_range_eq_some]
    refine ⟨by rw [hk]; simpa using hi, List.mem_range.2 (getD_lt r k hk), fun j hj => ?_⟩
    have := h j hj
    cases hr : r.getD j false
    · rfl
    · simp only [Bool.true_and, Bool.not_eq_true', decide_eq_false_iff_not]
      intro hc
      exact this ⟨hr, hc⟩
  rw [this]
theorem nextB_none {r : List Bool} {i : Int} (h : ∀ j, j < r.length → ¬ (r.getD j false = true ∧ i ≤ (j : Int))) : nextB r i = -1 := by
  rw [nextB_range]
  have : (List.range r.length).find? (fun j => r.getD j false && decide (i ≤ (j : Int))) = none := by
    rw [List.find?_eq_none]
    intro j hj
    have := h j (List.mem_range.1 hj)
    simp only [Bool.and_eq_true, decide_eq_true_eq]
    exact this
  rw [this]
end Plain

/-- The cells of truths. -/
def bcells (r : List Bool) : List Value := r.map Value.bool
theorem bcells_length (r : List Bool) : (bcells r).length = r.length := by simp [bcells]
theorem row_bool {w : World} {B : Nat} {A : Option Addr} {r : List Bool} (h : Row w B A (bcells r)) {k : Nat} (hk : k < r.length) :
    ∃ b off, A = some ⟨b, off, none⟩ ∧ b < B ∧ w.cell? ⟨b, off + k, none⟩ = some (.bool (r.getD k false)) := by
  obtain ⟨b, off, rfl, hb, hc⟩ := h.at_ (by rw [bcells_length]; omega)
  refine ⟨b, off, rfl, hb, hc k _ ?_⟩
  simp [bcells, hk]

set_option maxHeartbeats 1000000 in
theorem ref03_Has (A : Option Addr) (n c : Nat) (r : List Bool) (i : Int) (w : World) (hn : r.length = n) (hr : Row w w.heap.size A (bcells r)) (hl : r.length ≤ big) (hi63 : i < 9223372036854775808) (hi0 : -9223372036854775808 ≤ i) :
    Calls Tryd.prog 32 #[.slice A n c, .int .i64 i] w fun e w' => e = .returned (.bool (hasB r i)) ∧ w = w' := by
  unfold big at hl
  subst hn
  by_cases h0 : 0 ≤ i
  · obtain ⟨m, rfl⟩ : ∃ m : Nat, i = (m : Int) := ⟨i.toNat, by omega⟩
    have hh : hasB r (m : Int) = r.getD m false := by unfold hasB; simp
    rw [hh]
    by_cases hlt : m < r.length
    · obtain ⟨b1, o1, e1, _, hc⟩ := row_bool hr hlt
      subst e1
      obtain ⟨q, hq⟩ : ∃ q, q = r.getD m false := ⟨_, rfl⟩
      rw [← hq] at hc ⊢
      clear hh hr hq
      have hlt2 : (m : Int) < r.length := by omega
      go_enter Tryd.func32, Tryd.ntmps32
      go_wp2
      go_ret
      exact ⟨rfl, rfl⟩
    · have hf : r.getD m false = false := by rw [List.getD_eq_getElem?_getD, List.getElem?_eq_none (by omega)]; rfl
      rw [hf]
      clear hf hh hr
      go_enter Tryd.func32, Tryd.ntmps32
      go_wp2
      go_ret
      exact ⟨rfl, rfl⟩
  · have hh : hasB r i = false := by unfold hasB; simp [h0]
    rw [hh]
    clear hh hr
    go_enter Tryd.func32, Tryd.ntmps32
    go_wp2
    go_ret
    exact ⟨rfl, rfl⟩

def RefNextRel (r : List Bool) (i : Int) (s k : Value) : Prop := ∃ m : Nat, m ≤ r.length ∧ s = .int .i64 0 ∧ k = .int .i64 m ∧ ∀ j, j < m → ¬ (r.getD j false = true ∧ i ≤ (j : Int))
set_option maxHeartbeats 1000000 in
set_option maxRecDepth 100000 in
theorem ref03_Next (A : Option Addr) (n c : Nat) (r : List Bool) (i : Int) (w : World) (hn : r.length = n) (hr : Row w w.heap.size A (bcells r)) (hl : r.length ≤ big) (hi63 : i < 9223372036854775808) (hi0 : -9223372036854775808 ≤ i) :
    Calls Tryd.prog 34 #[.slice A n c, .int .i64 i] w fun e w' => e = .returned (.int .i64 (nextB r i)) ∧ w = w' := by
  unfold big at hl
  subst hn
  have HR := Lib.hid hr
  clear hr
  go_enter Tryd.func34, Tryd.ntmps34
  go_wp2
  go_loop [4, 5] (RefNextRel r i) (fun _ k => r.length - (intOf k).toNat)
  case atStart => exact ⟨0, Nat.zero_le _, rfl, rfl, fun j hj => absurd hj (Nat.not_lt_zero _)⟩
  case round =>
    obtain ⟨m, hm, rfl, rfl, hinv⟩ := hrel
    have HI := Lib.hid hinv
    clear hinv
    by_cases hlt : m < r.length
    · obtain ⟨b1, o1, e1, _, hc⟩ := row_bool HR.out hlt
      subst e1
      cases hq : r.getD m false
      · rw [hq] at hc
        have HN : Hid (∀ j, j < m + 1 → ¬ (r.getD j false = true ∧ i ≤ (j : Int))) := Lib.hid fun j hj => by
          by_cases e : j = m
          · subst e; rw [hq]; simp
          · exact HI.out j (by omega)
        clear hq
        go_wp2
        go_round
        case rel => exact ⟨m + 1, by omega, rfl, by go_num, HN.out⟩
        case measure => simp [intOf]; omega
      · rw [hq] at hc
        by_cases hi : i ≤ (m : Int)
        · have hres := Plain.nextB_at hq hi HI.out
          have HRES := Lib.hid hres
          clear hres hq
          go_wp2
          go_ret
          exact ⟨by rw [HRES.out]; rfl, rfl⟩
        · have HN : Hid (∀ j, j < m + 1 → ¬ (r.getD j false = true ∧ i ≤ (j : Int))) := Lib.hid fun j hj => by
            by_cases e : j = m
            · subst e; exact fun h => hi h.2
            · exact HI.out j (by omega)
          clear hq
          go_wp2
          go_round
          case rel => exact ⟨m + 1, by omega, rfl, by go_num, HN.out⟩
          case measure => simp [intOf]; omega
    · have hres := Plain.nextB_none (r := r) (i := i) fun j hj => HI.out j (by omega)
      have HRES := Lib.hid hres
      clear hres
      go_wp2
      go_ret
      exact ⟨by rw [HRES.out]; rfl, rfl⟩

def RefRankRel (r : List Bool) (i : Int) (s k : Value) : Prop := ∃ m : Nat, m ≤ r.length ∧ s = .int .i64 (Plain.rankTo r i m : Nat) ∧ k = .int .i64 m
set_option maxHeartbeats 1000000 in
set_option maxRecDepth 100000 in
theorem ref03_Rank (A : Option Addr) (n c : Nat) (r : List Bool) (i : Int) (w : World) (hn : r.length = n) (hr : Row w w.heap.size A (bcells r)) (hl : r.length ≤ big) (hi63 : i < 9223372036854775808) (hi0 : -9223372036854775808 ≤ i) :
    Calls Tryd.prog 35 #[.slice A n c, .int .i64 i] w fun e w' => e = .returned (.int .i64 (rankB r i : Nat)) ∧ w = w' := by
  unfold big at hl
  subst hn
  have HR := Lib.hid hr
  clear hr
  go_enter Tryd.func35, Tryd.ntmps35
  go_wp2
  go_loop [5, 6] (RefRankRel r i) (fun _ k => r.length - (intOf k).toNat)
  case atStart => exact ⟨0, Nat.zero_le _, rfl, rfl⟩
  case round =>
    obtain ⟨m, hm, rfl, rfl⟩ := hrel
    by_cases hlt : m < r.length
    · obtain ⟨b1, o1, e1, _, hc⟩ := row_bool HR.out hlt
      subst e1
      have hs := Plain.rankTo_succ r i m
      have hle := Plain.rankTo_le r i m
      obtain ⟨s, hse⟩ : ∃ s, s = Plain.rankTo r i m := ⟨_, rfl⟩
      rw [← hse] at hs hle ⊢
      have HSE := Lib.hid hse
      clear hse
      cases hq : r.getD m false
      · rw [hq] at hc hs
        have HS := Lib.hid hs
        clear hq hs
        go_wp2
        go_round
        case rel => exact ⟨m + 1, by omega, by rw [HS.out]; rfl, by go_num⟩
        case measure => simp [intOf]; omega
      · rw [hq] at hc hs
        by_cases hi : (m : Int) < i
        · have HS := Lib.hid hs
          clear hq hs
          go_wp2
          go_round
          case rel => exact ⟨m + 1, by omega, by rw [HS.out, decide_eq_true hi]; go_num, by go_num⟩
          case measure => simp [intOf]; omega
        · have HS := Lib.hid hs
          clear hq hs
          go_wp2
          go_round
          case rel => exact ⟨m + 1, by omega, by rw [HS.out, decide_eq_false hi]; rfl, by go_num⟩
          case measure => simp [intOf]; omega
    · obtain rfl : m = r.length := by omega
      go_wp2
      go_ret
      exact ⟨by rw [Plain.rankTo_all]; rfl, rfl⟩

/-- What Turn gives. -/
def TurnGot (base : Nat) (r : List Bool) (b : Bool) (w : World) (e : Ending) (w' : World) : Prop :=
  ∃ v', e = .returned (.tuple #[v', .bool b]) ∧ w'.ownsRow base 4 1 v' r.length (bcells r) ∧ Below w.heap.size w w'
theorem info_bool : (Tryd.prog.info? 4).map (fun i => (i.zero, i.size, i.bytes)) = some (some (.bool false), 1, 1) := by kernel_rfl
theorem turnB_same {r : List Bool} {i : Int} {b : Bool} (h : turnedB r i b = false) : turnB r i b = r := by
  unfold turnedB mayB at h
  unfold turnB
  split
  · rename_i h0
    simp only [h0, decide_true, Bool.true_and] at h
    by_cases hlt : i < r.length
    · simp only [hlt, decide_true, Bool.true_and, bne_eq_false_iff_eq] at h
      apply List.ext_getElem?
      intro j
      rw [List.getElem?_set]
      split
      · rename_i e
        subst e
        rw [if_pos (by omega), List.getElem?_eq_getElem (by omega)]
        rw [List.getD_eq_getElem?_getD, List.getElem?_eq_getElem (by omega)] at h
        simpa using h.symm
      · rfl
    · rw [List.set_eq_of_length_le (by omega)]
  · rfl

theorem bcells_one (r : List Bool) : ∀ u ∈ bcells r, u.oneCell' = true := by
  intro u hu
  simp only [bcells, List.mem_map] at hu
  obtain ⟨b, _, rfl⟩ := hu
  rfl
theorem bcells_set (r : List Bool) (k : Nat) (b : Bool) : bcells (r.set k b) = (bcells r).set k (.bool b) := by simp [bcells, List.map_set]
theorem owns_slice {w : World} {base : Nat} {e : TypeId} {v : Value} {n : Nat} {xs : List Value} (h : w.ownsRow base e 1 v n xs) (h0 : 0 < n) : ∃ g c, v = .slice (some ⟨g, 0, none⟩) n c ∧ n ≤ c ∧ c ≤ maxLen := by
  rcases h.2 with ⟨_, h1⟩ | ⟨g, c, cur, hv, _, _, hnc, hcm, _⟩
  · omega
  · exact ⟨g, c, hv, hnc, hcm⟩

set_option maxHeartbeats 2000000 in
set_option maxRecDepth 100000 in
theorem ref03_Turn (base : Nat) (v : Value) (n : Nat) (r : List Bool) (i : Int) (b : Bool) (w : World) (hn : r.length = n) (ho : w.ownsRow base 4 1 v n (bcells r)) (hl : r.length ≤ big) (hi63 : i < 9223372036854775808) (hi0 : -9223372036854775808 ≤ i) (hbase : base ≤ w.heap.size) :
    Calls Tryd.prog 28 #[v, .int .i64 i, .bool b] w (TurnGot base (turnB r i b) (turnedB r i b) w) := by
  obtain ⟨i0, hi0', hz0, hz1, hz2⟩ := info_parts info_bool
  unfold big at hl
  subst hn
  obtain ⟨A, c, rfl, hc, hr⟩ := owned_row ho
  have HO := Lib.hid ho
  have HR := Lib.hid hr
  cases ht : turnedB r i b
  · have hsame := turnB_same ht
    rw [hsame]
    have HT := Lib.hid ht
    clear hsame ht ho hr
    have fin : ∀ (e : Ending) (w' : World), e = .returned (.tuple #[.slice A r.length c, .bool false]) → Below w.heap.size w w' → TurnGot base r false w e w' := fun e w' he hb => ⟨_, he, owned_below HO.out hb, hb⟩
    have FIN := Lib.hid fin
    clear fin
    by_cases h0 : i < 0
    · go_enter Tryd.func28, Tryd.ntmps28
      go_wp2
      go_ret2
      exact FIN.out _ _ rfl (Below.refl _ _)
    · obtain ⟨m, rfl⟩ : ∃ m : Nat, i = (m : Int) := ⟨i.toNat, by omega⟩
      by_cases hlt : m < r.length
      · obtain ⟨b1, o1, e1, _, hcell⟩ := row_bool HR.out hlt
        subst e1
        have hq : r.getD m false = b := by
          have := HT.out
          unfold turnedB mayB at this
          simpa [hlt] using this
        rw [hq] at hcell
        have hlt2 : (m : Int) < r.length := by omega
        clear hq
        go_enter Tryd.func28, Tryd.ntmps28
        go_wp2
        all_goals
          go_ret2
          exact FIN.out _ _ rfl (Below.refl _ _)
      · go_enter Tryd.func28, Tryd.ntmps28
        go_wp2
        go_ret2
        exact FIN.out _ _ rfl (Below.refl _ _)
  · have ht' := ht
    unfold turnedB mayB at ht'
    simp only [Bool.and_eq_true, decide_eq_true_eq, bne_iff_ne, ne_eq] at ht'
    obtain ⟨m, rfl⟩ : ∃ m : Nat, i = (m : Int) := ⟨i.toNat, by omega⟩
    have hlt : m < r.length := by omega
    have htb : turnB r (m : Int) b = r.set m b := by unfold turnB; rw [if_pos (by omega), Int.toNat_natCast]
    rw [htb]
    obtain ⟨b1, o1, e1, _, hcell⟩ := row_bool HR.out hlt
    subst e1
    have hq : r.getD m false = !b := by
      have := ht'.2
      rw [Int.toNat_natCast] at this
      cases h1 : r.getD m false <;> cases b <;> simp_all
    rw [hq] at hcell
    have hlt2 : (m : Int) < r.length := by omega
    have HB1 := Lib.hid (bcells_one r)
    have HSET := Lib.hid (bcells_set r m b)
    have hbl := bcells_length r
    have HBL := Lib.hid hbl
    clear hq ht ht' htb ho hr hbl
    obtain ⟨q, hq⟩ : ∃ q, q = !b := ⟨_, rfl⟩
    have hqb : (q == b) = false := by rw [hq]; cases b <;> rfl
    rw [← hq] at hcell
    clear hq
    have d1 : decide ((m : Int) < 0) = false := by simp
    have d2 : decide (r.length ≤ m) = false := by simp; omega
    go_enter Tryd.func28, Tryd.ntmps28
    go_wp2_with (at_builtin; (refine wpList_append_row _ rfl (.tmp 26) (.tmp 27) 24 rfl w.heap.size 4 i0 _ 1 1 Tryd.underlying24 hi0' hz0 hz1 hz2 rfl (by decide) (.slice none 0 0) 0 [] rfl (World.ownsRow_nil w w.heap.size _ 1) w.heap.size _ r.length c (bcells r) rfl (by rw [HBL.out, Nat.mul_one]) HR.out HB1.out (by unfold maxLen; omega) (by omega) (Nat.le_refl _) ?_))
    intro v' w' hown hgrow
    have hb : Below w.heap.size w w' := (Below.refl _ _).grown hgrow (Nat.le_refl _) (fun k hk => by cases hk)
    obtain ⟨g, c', rfl, hnc, hcm⟩ := owns_slice hown (by omega)
    have hcell2 := hown.cellAt m (by omega)
    have hfz := hown.frozenAt m
    have hgb := hown.lt g rfl
    obtain ⟨st1, st2⟩ := hown.stored m (.bool b)
    have hcs : w'.cell? ⟨g, m, none⟩ = some (.bool (r.getD m false)) := by
      rw [hcell2]
      simp [bcells, hlt]
    have hgot : TurnGot base (r.set m b) true w (.returned (.tuple #[.slice (some ⟨g, 0, none⟩) r.length c', .bool true])) (w'.setCell ⟨g, m, none⟩ (.bool b)) := by
      refine ⟨_, rfl, ?_, hb.grown st2 hb.size (fun k hk => by cases hk; exact hgb.1)⟩
      rw [List.length_set, bcells_set]
      exact owned_low st1 hbase
    have HG := Lib.hid hgot
    unfold maxLen at hcm
    clear hgot st1 st2 hcell2 hcell hown hgrow hb
    go_wp2
    go_ret2
    exact HG.out

/-- The cells of numbers. -/
def icells (l : List Nat) : List Value := l.map fun (k : Nat) => Value.int .i64 (k : Int)
theorem icells_append (a b : List Nat) : icells (a ++ b) = icells a ++ icells b := by simp [icells]
theorem icells_length (l : List Nat) : (icells l).length = l.length := by simp [icells]
theorem icells_one (l : List Nat) : ∀ u ∈ icells l, u.oneCell' = true := by
  intro u hu
  simp only [icells, List.mem_map] at hu
  obtain ⟨b, _, rfl⟩ := hu
  rfl
theorem row_nat {w : World} {B : Nat} {A : Option Addr} {l : List Nat} (h : Row w B A (icells l)) {k : Nat} (hk : k < l.length) :
    ∃ b off, A = some ⟨b, off, none⟩ ∧ b < B ∧ w.cell? ⟨b, off + k, none⟩ = some (.int .i64 ((l[k]'hk : Nat) : Int)) := by
  obtain ⟨b, off, rfl, hb, hc⟩ := h.at_ (by rw [icells_length]; omega)
  refine ⟨b, off, rfl, hb, hc k _ ?_⟩
  simp [icells, hk]
/-- What a call that tells numbers gives. -/
def GaveNats (l : List Nat) (w : World) (e : Ending) (w' : World) : Prop := ∃ v, e = .returned v ∧ w'.ownsRow w.heap.size 3 1 v l.length (icells l) ∧ Below w.heap.size w w'
theorem info_i64 : (Tryd.prog.info? 3).map (fun i => (i.zero, i.size, i.bytes)) = some (some (.int .i64 0), 1, 8) := by kernel_rfl

def RefListRel (r : List Bool) (w1 : World) (o i : Value) (wr : World) : Prop :=
  ∃ m : Nat, m ≤ r.length ∧ i = .int .i64 m ∧ wr.ownsRow w1.heap.size 3 1 o (Plain.onesTo r m).length (icells (Plain.onesTo r m)) ∧ Below w1.heap.size w1 wr
set_option maxHeartbeats 2000000 in
set_option maxRecDepth 100000 in
theorem ref03_List (A : Option Addr) (n c : Nat) (r : List Bool) (w : World) (hn : r.length = n) (hr : Row w w.heap.size A (bcells r)) (hl : r.length ≤ big) :
    Calls Tryd.prog 21 #[.slice A n c] w (GaveNats (ones r) w) := by
  obtain ⟨i0, hi0, hz0, hz1, hz2⟩ := info_parts info_i64
  unfold big at hl
  subst hn
  have HR := Lib.hid hr
  clear hr
  go_enter Tryd.func21, Tryd.ntmps21
  go_wp2
  go_loopw [3, 4] (RefListRel r w) (fun _ k _ => r.length - (intOf k).toNat)
  case atStart => exact ⟨0, Nat.zero_le _, rfl, (World.ownsRow_nil w w.heap.size 3 1 : w.ownsRow w.heap.size 3 1 (.slice none 0 0) (Plain.onesTo r 0).length (icells (Plain.onesTo r 0))), Below.refl _ _⟩
  case round =>
    obtain ⟨m, hm, rfl, hown, hb⟩ := hrel
    have hz := hb.size
    have HB := Lib.hid hb
    have HO := Lib.hid hown
    clear hb hown
    by_cases hlt : m < r.length
    · obtain ⟨b1, o1, e1, _, hc⟩ := row_bool (HR.out.below HB.out) hlt
      subst e1
      have hs := Plain.onesTo_succ r m
      have hle := Plain.onesTo_length r m
      cases hq : r.getD m false
      · rw [hq] at hc hs
        simp only [Bool.false_eq_true, if_false, List.append_nil] at hs
        have HS := Lib.hid hs
        clear hq hs
        go_wp2
        go_roundw
        case rel => exact ⟨m + 1, by omega, by go_num, by rw [HS.out]; exact HO.out, HB.out⟩
        case measure => simp [intOf]; omega
      · rw [hq] at hc hs
        simp only [if_true] at hs
        have HS := Lib.hid hs
        obtain ⟨t, ht⟩ : ∃ t, t = (Plain.onesTo r m).length := ⟨_, rfl⟩
        have HT := Lib.hid ht
        rw [← ht] at hle HO
        obtain ⟨xs, hxs⟩ : ∃ xs, xs = icells (Plain.onesTo r m) := ⟨_, rfl⟩
        rw [← hxs] at HO
        have HXS := Lib.hid hxs
        clear hq hs ht hxs
        go_wp2_with (at_builtin; refine wpList_append_own _ rfl (.tmp 15) (.tmp 17) 36 rfl w.heap.size 3 i0 _ 1 8 Tryd.underlying36 hi0 hz0 hz1 hz2 rfl (by decide) _ t xs rfl (HO.out.alloc _) ⟨wr.heap.size, 0, none⟩ 1 1 [.int .i64 (m : Int)] rfl rfl (news_at wr _ _) (by simp [Value.oneCell']) (by unfold maxLen; omega) (by omega) (by simp; omega) ?_)
        intro v' w' hown hgrow hnil
        go_wp2
        go_roundw
        case rel =>
          refine ⟨m + 1, by omega, by go_num, ?_, ((HB.out.alloc hz _).grown hgrow (by simp; omega) (fun k hk => (HO.out.lt k hk).1))⟩
          rw [HS.out, List.length_append, icells_append, ← HT.out, ← HXS.out]
          exact hown
        case measure => simp [intOf]; omega
    · obtain rfl : m = r.length := by omega
      go_wp2
      go_ret
      exact ⟨_, rfl, HO.out, HB.out⟩
end Go.Proofs.YtkflmhpmnceniaaDoor
