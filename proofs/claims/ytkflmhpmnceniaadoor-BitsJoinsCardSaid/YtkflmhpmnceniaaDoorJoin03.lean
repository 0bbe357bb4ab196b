/- The document's And, Or and Not of two lists of truths. -/
import Derived.Test.YtkflmhpmnceniaaDoorRef03
import Derived.Test.YtkflmhpmnceniaaDoorMade03
set_option linter.unusedVariables false
namespace Go.Proofs.YtkflmhpmnceniaaDoor
open Go Go.RowKit
open Plain (hasB mayB turnB turnedB ones joinB notB)

namespace Plain
/-- A list that is being filled from its head. -/
def fillB (f : Nat → Bool) (n m : Nat) : List Bool := (List.range n).map fun j => decide (j < m) && f j
theorem fillB_length (f : Nat → Bool) (n m : Nat) : (fillB f n m).length = n := by simp [fillB]
theorem fillB_zero (f : Nat → Bool) (n : Nat) : fillB f n 0 = List.replicate n false := by
  apply List.ext_getElem
  · simp [fillB]
  · intro i h1 h2
    simp [fillB]
theorem fillB_full (f : Nat → Bool) (n : Nat) : fillB f n n = (List.range n).map f := by
  unfold fillB
  apply List.map_congr_left
  intro j hj
  rw [List.mem_range] at hj
  simp [hj]
theorem fillB_set (f : Nat → Bool) (n m : Nat) : (fillB f n m).set m (f m) = fillB f n (m + 1) := by
  apply List.ext_getElem
  · simp [fillB]
  · intro i h1 h2
    rw [List.getElem_set]
    by_cases e : m = i
    · subst e
      simp [fillB]
    · rw [if_neg e]
      simp only [fillB, List.getElem_map, List.getElem_range]
      congr 1
      rw [Bool.eq_iff_iff]
      simp
      omega
theorem notB_range (r : List Bool) : notB r = (List.range r.length).map fun j => !r.getD j false := by
  apply List.ext_getElem
  · simp [notB]
  · intro i h1 h2
    simp [notB] at h1 ⊢
    rw [List.getElem?_eq_getElem h1]
    rfl
def joinF (a b : List Bool) (o : Bool) (i : Nat) : Bool := (a.getD i false && b.getD i false) || (o && (a.getD i false || b.getD i false))
theorem joinB_range (a b : List Bool) (o : Bool) : joinB a b o = (List.range (max a.length b.length)).map (joinF a b o) := rfl
end Plain

/-- What the document's Not and Join give: truths in new memory. -/
def GaveBools (l : List Bool) (w : World) (e : Ending) (w' : World) : Prop := ∃ v, e = .returned v ∧ w'.ownsRow w.heap.size 4 1 v l.length (bcells l) ∧ Below w.heap.size w w'
def FillRel (f : Nat → Bool) (n : Nat) (v : Value) (w : World) (i : Value) (wr : World) : Prop :=
  ∃ m : Nat, m ≤ n ∧ i = .int .i64 m ∧ wr.ownsRow w.heap.size 4 1 v n (bcells (Plain.fillB f n m)) ∧ Below w.heap.size w wr

/-- One element stored. -/
theorem fill_next {f : Nat → Bool} {n m g c : Nat} {b : Bool} {w wr : World} (hb : f m = b) (ho : wr.ownsRow w.heap.size 4 1 (.slice (some ⟨g, 0, none⟩) n c) n (bcells (Plain.fillB f n m))) (hm : m < n) (hbw : Below w.heap.size w wr) :
    FillRel f n (.slice (some ⟨g, 0, none⟩) n c) w (.int .i64 ((m + 1 : Nat) : Int)) (wr.setCell ⟨g, m, none⟩ (.bool b)) ∧ (∃ q, wr.cell? ⟨g, m, none⟩ = some (.bool q)) ∧ wr.frozen? ⟨g, m, none⟩ = false := by
  obtain ⟨st1, st2⟩ := ho.stored m (.bool b)
  have hgb := ho.lt g rfl
  refine ⟨⟨m + 1, hm, rfl, ?_, hbw.grown st2 hbw.size (fun k hk => by cases hk; exact hgb.1)⟩, ?_, ho.frozenAt m⟩
  · rw [← Plain.fillB_set, bcells_set, hb]
    exact st1
  · have h1 := ho.cellAt m (by simpa [bcells, Plain.fillB] using hm)
    rw [h1]
    have hl : m < (Plain.fillB f n m).length := by rw [Plain.fillB_length]; exact hm
    exact ⟨(Plain.fillB f n m)[m]'hl, by simp [bcells]⟩

set_option maxHeartbeats 2000000 in
set_option maxRecDepth 100000 in
theorem ref03_Not (A : Option Addr) (n c : Nat) (r : List Bool) (w : World) (hn : r.length = n) (hr : Row w w.heap.size A (bcells r)) (hl : r.length ≤ big) :
    Calls Tryd.prog 17 #[.slice A n c] w (GaveBools (notB r) w) := by
  obtain ⟨i0, hi0, hz0, hz1, hz2⟩ := info_parts info_bool
  unfold big at hl
  have HNB := Lib.hid (Plain.notB_range r)
  obtain ⟨f, hf⟩ : ∃ f : Nat → Bool, f = fun j => !r.getD j false := ⟨_, rfl⟩
  rw [← hf] at HNB
  have HF := Lib.hid hf
  have HR := Lib.hid hr
  rw [hn] at hl HNB
  have HRN := Lib.hid hn
  have HNL := Lib.hid (Plain.notB_length r)
  clear hr hf hn
  go_enter Tryd.func17, Tryd.ntmps17
  go_wp2_with (at_make; refine wpList_make_full _ rfl _ _ 24 rfl w.heap.size 4 i0 _ 1 Tryd.underlying24 hi0 hz0 hz1 _ _ _ _ n rfl rfl rfl rfl (by rw [hz2]; omega) (by unfold maxLen; omega) (Nat.le_refl _) ?_)
  intro w2 hown hgrow
  have hrep : (madeCells #[Value.bool false] n).toList = bcells (Plain.fillB f n 0) := by
    rw [toList_madeCells_one, bcells, Plain.fillB_zero, List.map_replicate]
  rw [hrep] at hown
  obtain ⟨g, hg⟩ : ∃ g, g = w.heap.size := ⟨_, rfl⟩
  have HREL0 : Hid (FillRel f n (.slice (some ⟨w.heap.size, 0, none⟩) n n) w (.int .i64 ((0 : Nat) : Int)) w2) := Lib.hid ⟨0, Nat.zero_le _, rfl, hown, (Below.refl _ _).grown hgrow (Nat.le_refl _) (fun k hk => by cases hk)⟩
  rw [← hg] at HREL0
  clear hown hgrow hrep
  go_wp2
  rw [← hg]
  clear hg
  go_loopw [4] (FillRel f n (.slice (some ⟨g, 0, none⟩) n n) w) (fun i _ => n - (intOf i).toNat)
  case atStart => exact HREL0.out
  case round =>
    obtain ⟨m, hm, rfl, ho, hbw⟩ := hrel
    by_cases hlt : m < n
    · obtain ⟨b1, o1, e1, _, hc⟩ := row_bool (HR.out.below hbw) (by rw [HRN.out]; exact hlt)
      subst e1
      have hfm : f m = !(r.getD m false) := by rw [HF.out]
      obtain ⟨q, hq⟩ : ∃ q, q = r.getD m false := ⟨_, rfl⟩
      rw [← hq] at hfm hc
      obtain ⟨hnext, ⟨p, hcg⟩, hfg⟩ := fill_next hfm ho hlt hbw
      have HNEXT := Lib.hid hnext
      have hmn : (m : Int) < n := by omega
      clear hnext ho hbw hq hfm
      go_wp2
      go_roundw
      case rel => exact HNEXT.out
      case measure => simp [intOf]; omega
    · obtain rfl : m = n := by omega
      have HO := Lib.hid ho
      have HB := Lib.hid hbw
      clear ho hbw
      go_wp2
      go_ret
      refine ⟨_, rfl, ?_, HB.out⟩
      rw [HNL.out, HRN.out, HNB.out, ← Plain.fillB_full]
      exact HO.out

set_option maxHeartbeats 4000000 in
set_option maxRecDepth 100000 in
theorem ref03_Join (A : Option Addr) (n c : Nat) (r : List Bool) (A2 : Option Addr) (n2 c2 : Nat) (r2 : List Bool) (o : Bool) (w : World) (hn : r.length = n) (hn2 : r2.length = n2) (hr : Row w w.heap.size A (bcells r)) (hr2 : Row w w.heap.size A2 (bcells r2)) (hl : r.length ≤ big) (hl2 : r2.length ≤ big) :
    Calls Tryd.prog 14 #[.slice A n c, .slice A2 n2 c2, .bool o] w (GaveBools (joinB r r2 o) w) := by
  obtain ⟨i0, hi0, hz0, hz1, hz2⟩ := info_parts info_bool
  have hmx : ∀ (w : World) (ts : Array TypeId) (t : TypeId), (Builtin.max_ ts t #[.int .i64 n, .int .i64 n2]).run Tryd.prog w = .ok (.int .i64 ((max n n2 : Nat) : Int)) w := fun w ts t => by rw [run_max_int2]; congr 2; split <;> omega
  have HA := Lib.hid (fun (w2 : World) (k : Nat) (h : Row w2 w2.heap.size A (bcells r)) hk hk0 => ref03_Has A n c r (k : Int) w2 hn h hl hk hk0)
  have HB := Lib.hid (fun (w2 : World) (k : Nat) (h : Row w2 w2.heap.size A2 (bcells r2)) hk hk0 => ref03_Has A2 n2 c2 r2 (k : Int) w2 hn2 h hl2 hk hk0)
  unfold big at hl hl2
  have HNB := Lib.hid (Plain.joinB_range r r2 o)
  obtain ⟨f, hf⟩ : ∃ f, f = Plain.joinF r r2 o := ⟨_, rfl⟩
  have hml : max r.length r2.length = max n n2 := by rw [hn, hn2]
  rw [← hf, hml] at HNB
  have HF := Lib.hid hf
  have HR := Lib.hid hr
  have HR2 := Lib.hid hr2
  have HNL : Hid ((joinB r r2 o).length = max n n2) := Lib.hid (by rw [Plain.joinB_length, hml])
  obtain ⟨N, hN⟩ : ∃ N, N = max n n2 := ⟨_, rfl⟩
  have hNl : N ≤ 1073741824 := by omega
  rw [← hN] at hmx HNB HNL
  clear hr hr2 hf hn hn2 hl hl2 hml hN
  go_enter Tryd.func14, Tryd.ntmps14
  go_wp2_with (at_make; refine wpList_make_full _ rfl _ _ 24 rfl w.heap.size 4 i0 _ 1 Tryd.underlying24 hi0 hz0 hz1 _ _ _ _ N rfl rfl rfl rfl (by rw [hz2]; omega) (by unfold maxLen; omega) (Nat.le_refl _) ?_)
  intro w2 hown hgrow
  have hrep : (madeCells #[Value.bool false] N).toList = bcells (Plain.fillB f N 0) := by
    rw [toList_madeCells_one, bcells, Plain.fillB_zero, List.map_replicate]
  rw [hrep] at hown
  obtain ⟨g, hg⟩ : ∃ g, g = w.heap.size := ⟨_, rfl⟩
  have HREL0 : Hid (FillRel f N (.slice (some ⟨w.heap.size, 0, none⟩) N N) w (.int .i64 ((0 : Nat) : Int)) w2) := Lib.hid ⟨0, Nat.zero_le _, rfl, hown, (Below.refl _ _).grown hgrow (Nat.le_refl _) (fun k hk => by cases hk)⟩
  rw [← hg] at HREL0
  clear hown hgrow hrep
  go_wp2
  rw [← hg]
  clear hg hmx
  go_loopw [8] (FillRel f N (.slice (some ⟨g, 0, none⟩) N N) w) (fun i _ => N - (intOf i).toNat)
  case atStart => exact HREL0.out
  case round =>
    obtain ⟨m, hm, rfl, ho, hbw⟩ := hrel
    by_cases hlt : m < N
    · have HA1 := Lib.hid (HA.out wr m ((HR.out.below hbw).more hbw.size) (by omega) (by omega))
      have HB1 := Lib.hid (HB.out wr m ((HR2.out.below hbw).more hbw.size) (by omega) (by omega))
      have hh1 : ∀ r : List Bool, hasB r (m : Int) = r.getD m false := fun r => by unfold hasB; simp
      rw [hh1] at HA1 HB1
      have hfm : f m = ((r.getD m false && r2.getD m false) || (o && (r.getD m false || r2.getD m false))) := by rw [HF.out]; rfl
      obtain ⟨x, hx⟩ : ∃ q, q = r.getD m false := ⟨_, rfl⟩
      obtain ⟨y, hy⟩ : ∃ q, q = r2.getD m false := ⟨_, rfl⟩
      rw [← hx] at hfm HA1
      rw [← hy] at hfm HB1
      obtain ⟨hnext, ⟨p, hcg⟩, hfg⟩ := fill_next hfm ho hlt hbw
      have HNEXT := Lib.hid hnext
      have hmn : (m : Int) < N := by omega
      clear hnext ho hbw hx hy hfm hh1
      cases x <;> cases y <;> cases o
      all_goals
        go_wp2_with (first
          | (go_at_call 32; (with_reducible refine HA1.out.mono ?_); rintro e w' ⟨rfl, rfl⟩)
          | (go_at_call 32; (with_reducible refine HB1.out.mono ?_); rintro e w' ⟨rfl, rfl⟩))
        go_roundw
        case rel => exact HNEXT.out
        case measure => simp [intOf]; omega
    · obtain rfl : m = N := by omega
      have HO := Lib.hid ho
      have HBW := Lib.hid hbw
      clear ho hbw
      go_wp2
      go_ret
      refine ⟨_, rfl, ?_, HBW.out⟩
      rw [HNL.out, HNB.out, ← Plain.fillB_full]
      exact HO.out
end Go.Proofs.YtkflmhpmnceniaaDoor
