/- Texts laid together: Map08, Gr08, Told08, LayF08g, Lay08g, Follow08, Each08, Stands08g, BoxT08. -/
import Derived.Test.YtolfkhflbjnakaaGreatDoorNAQ04
import Derived.Maps.RangeRun
import Derived.MapKept
import Derived.Test.YtolfkhflbjnakaaGreatDoorNAQ05
import Derived.Test.YtolfkhflbjnakaaGreatDoorNAQ01
import Derived.Test.YtolfkhflbjnakaaGreatDoorNAQ02
import Derived.Deep.AppendLies
import Derived.Maps.AppendAt
import Derived.Shelf.SlicesE.Clone
import Derived.Shelf.SlicesQ.IndexFunc
import Derived.Test.YtolfkhflbjnakaaGreatDoorProg
import Derived.Shelf.SlicesQ.Equal
import Derived.Shelf.Slices.SearchI
import Derived.Shelf.Slices.Empties
import Derived.Test.YtolfkhflbjnakaaGreatDoorNAQ03

/- A map whose keys are terms: what is found in it, what is put into it, how it is gone through. -/
set_option linter.unusedVariables false
namespace Go.Proofs.YtolfkhflbjnakaaGreatDoor
open Go Go.RowKit
open Go.ChangeMaps (setBlock)

/-- A term as a value. -/
def tV (t : Tm) : Value := .agg #[.string ⟨t.1.toArray⟩, .string ⟨t.2.toArray⟩]
theorem str_eq (a b : Nm) : ((⟨a.toArray⟩ : ByteArray) == ⟨b.toArray⟩) = decide (a = b) := by
  have h : ((⟨a.toArray⟩ : ByteArray) == ⟨b.toArray⟩) = (a.toArray == b.toArray) := rfl
  rw [h, Bool.eq_iff_iff]
  simp
theorem tV_inj {s t : Tm} (h : tV s = tV t) : s = t := by
  simp only [tV, Value.agg.injEq, Array.mk.injEq, List.cons.injEq, Value.string.injEq, ByteArray.mk.injEq, and_true] at h
  exact Prod.ext (by simpa using h.1) (by simpa using h.2)

theorem run_equal_tm (s t : Tm) (w : World) : (Op.equal 23 (tV s) (tV t)).run Tryz.prog w = .ok (decide (s = t)) w := by
  have h : ∀ d : Nat, (Op.equalIn (d + 2) 23 (tV s) (tV t)).run Tryz.prog w = .ok (decide (s = t)) w := fun d => by
    simp only [Op.equalIn, tV, part]
    simp [run_underlying Tryz.underlying23, run_underlying Tryz.underlying9, Tryz.sizeOf9, Tryz.isAgg9, str_eq]
    obtain ⟨s1, s2⟩ := s
    obtain ⟨t1, t2⟩ := t
    by_cases h1 : s1 = t1 <;> by_cases h2 : s2 = t2 <;> simp [h1, h2]
  exact h 9998
theorem run_check_tm (em : Bool) (t : Tm) (w : World) : (Instr.checkKey em 10000 23 (tV t)).run Tryz.prog w = .ok () w := by
  have h : ∀ d : Nat, (Instr.checkKey em (d + 2) 23 (tV t)).run Tryz.prog w = .ok () w := fun d => by
    simp [Instr.checkKey, run_underlying Tryz.underlying23, run_underlying Tryz.underlying9, tV, part, Tryz.sizeOf9, Tryz.isAgg9]
  exact h 9998
theorem run_stays_tm (t : Tm) (w : World) : (Instr.keyThatStays (tV t) (tV t)).run Tryz.prog w = .ok (tV t) w := by
  have h : ∀ d : Nat, Instr.sameBits (d + 2) (tV t) (tV t) = true := fun d => by simp [Instr.sameBits, tV, str_eq]
  simp [Instr.keyThatStays, h 9998]

abbrev Ent := Tm × Value
def entsM : Nat → List Ent → List MapEntry
  | _, [] => []
  | i, e :: m => { key := tV e.1, val := e.2, born := i } :: entsM (i + 1) m
theorem entsM_length : ∀ (m : List Ent) (i : Nat), (entsM i m).length = m.length
  | [], _ => rfl
  | e :: m, i => by simp [entsM, entsM_length m (i + 1)]
theorem entsM_at : ∀ {m : List Ent} {i k : Nat} (hk : k < m.length), (entsM i m)[k]? = some { key := tV m[k].1, val := m[k].2, born := i + k }
  | [], _, _, h => by simp at h
  | e :: m, i, 0, _ => rfl
  | e :: m, i, k + 1, h => by
    have := entsM_at (m := m) (i := i + 1) (k := k) (by simpa using h)
    simp only [entsM, List.getElem?_cons_succ, List.getElem_cons_succ]
    rw [this, Nat.add_assoc, Nat.add_comm 1 k]
theorem entsM_append : ∀ (m : List Ent) (e : Ent) (i : Nat), entsM i (m ++ [e]) = entsM i m ++ [{ key := tV e.1, val := e.2, born := i + m.length }]
  | [], e, i => rfl
  | x :: m, e, i => by
    simp only [List.cons_append, entsM, entsM_append m e (i + 1), List.length_cons]
    rw [Nat.add_assoc, Nat.add_comm 1 m.length]
theorem entsM_set : ∀ (m : List Ent) (e : Ent) (i k : Nat), entsM i (m.set k e) = (entsM i m).set k { key := tV e.1, val := e.2, born := i + k }
  | [], e, i, k => by simp [entsM]
  | x :: m, e, i, 0 => by simp [entsM]
  | x :: m, e, i, k + 1 => by
    simp only [List.set_cons_succ, entsM, entsM_set m e (i + 1) k]
    rw [Nat.add_assoc, Nat.add_comm 1 k]
/-- The map at block B has the entries m, in the order in which they came. -/
def MapAt (w : World) (B : Nat) (m : List Ent) : Prop := w.heap[B]? = some (.map (entsM 0 m).toArray m.length)
/-- Where a key stands first; behind all, if it doesn't. -/
def posM (m : List Ent) (t : Tm) : Nat := m.findIdx (fun e => decide (e.1 = t))
def valM (m : List Ent) (t : Tm) : Value := if h : posM m t < m.length then m[posM m t].2 else .slice none 0 0
def entM (m : List Ent) (t : Tm) : List Ent := if posM m t < m.length then m else m ++ [(t, .slice none 0 0)]
theorem posM_key {m : List Ent} {t : Tm} (h : posM m t < m.length) : m[posM m t].1 = t := by
  have := List.findIdx_getElem (p := fun e : Ent => decide (e.1 = t)) (xs := m) (w := h)
  exact of_decide_eq_true this
theorem posM_entM (m : List Ent) (t : Tm) : posM m t < (entM m t).length ∧ (entM m t)[posM m t]? = some (t, valM m t) := by
  unfold entM valM
  split
  · rename_i h
    have e := posM_key h
    refine ⟨h, ?_⟩
    rw [List.getElem?_eq_getElem h]
    exact congrArg some (Prod.ext e rfl)
  · rename_i h
    have hle : posM m t ≤ m.length := List.findIdx_le_length
    have : posM m t = m.length := by omega
    rw [this]
    simp

theorem run_asking : ∀ (m : List Ent) (t : Tm) (w : World) (k i : Nat), (Instr.findAsking 23 (tV t) (entsM k m) i).run Tryz.prog w = .ok (if h : posM m t < m.length then some (i + posM m t, m[posM m t].2) else none) w
  | [], t, w, k, i => by simp [entsM, Instr.findAsking, posM]
  | e :: m, t, w, k, i => by
    have ih := run_asking m t w (k + 1) (i + 1)
    rw [entsM, Instr.findAsking]
    simp only [Sem.run_bind, run_equal_tm, Result.andThen]
    by_cases he : t = e.1
    · have hp : posM (e :: m) t = 0 := by unfold posM; rw [List.findIdx_cons]; simp [he]
      simp only [hp]
      simp [he]
    · have he' : ¬ e.1 = t := fun h => he h.symm
      have hp : posM (e :: m) t = posM m t + 1 := by unfold posM; rw [List.findIdx_cons]; simp [he']
      simp only [he, decide_false, Bool.false_eq_true, if_false, ih]
      rw [Result.ok.injEq]
      refine ⟨?_, rfl⟩
      by_cases h : posM m t < m.length
      · have h' : posM (e :: m) t < (e :: m).length := by rw [hp]; simpa using h
        rw [dif_pos h, dif_pos h']
        simp only [hp, List.getElem_cons_succ]
        rw [Nat.add_assoc, Nat.add_comm 1]
      · have h' : ¬ posM (e :: m) t < (e :: m).length := by rw [hp]; simpa using h
        rw [dif_neg h, dif_neg h']
theorem run_find_tm (m : List Ent) (t : Tm) (w : World) (k : Nat) : (Instr.findKey 23 (tV t) (entsM k m)).run Tryz.prog w = .ok (if h : posM m t < m.length then some (posM m t, m[posM m t].2) else none) w := by
  have h1 := run_asking m t w k 0
  rw [Nat.zero_add] at h1
  cases m with
  | nil => simp [Instr.findKey, run_underlying Tryz.underlying23, entsM, Instr.findNow, posM]
  | cons e m =>
    rw [← h1]
    simp [Instr.findKey, run_underlying Tryz.underlying23, entsM, Instr.findNow, Instr.sameNow]

theorem run_lookup_tm {w : World} {B : Nat} {m : List Ent} (h : MapAt w B m) (t : Tm) : (Instr.lookup 156 (.map (some B)) (tV t) false).run Tryz.prog w = .ok (valM m t) w := by
  unfold MapAt at h
  have hf := run_find_tm m t w 0
  unfold valM
  by_cases hp : posM m t < m.length
  · rw [dif_pos hp] at hf ⊢
    simp [Instr.lookup, run_underlying Tryz.underlying156, MapKept.run_getObj_map h, run_check_tm, hf, Result.andThen]
  · rw [dif_neg hp] at hf ⊢
    simp [Instr.lookup, run_underlying Tryz.underlying156, MapKept.run_getObj_map h, run_check_tm, hf, Result.andThen, Tryz.zeroValue87]

/-- 'm[k] = f(m[k])' begins: the entry is there, or is laid; what it holds comes with its number. -/
theorem run_entry_tm {w : World} {B : Nat} {m : List Ent} (h : MapAt w B m) (t : Tm) : ∃ w', (Instr.mapEntry 156 (.map (some B)) (tV t)).run Tryz.prog w = .ok (.tuple #[valM m t, .int .i64 (posM m t : Int)]) w' ∧ MapAt w' B (entM m t) ∧ w.grownBy w' (some B) := by
  unfold MapAt at h
  have hf := run_find_tm m t w 0
  unfold valM entM
  by_cases hp : posM m t < m.length
  · rw [dif_pos hp] at hf ⊢
    rw [if_pos hp]
    have hk := posM_key hp
    have he := entsM_at (i := 0) hp
    rw [hk, Nat.zero_add] at he
    have hmod : (entsM 0 m).modify (posM m t) (fun e => { e with key := tV t }) = entsM 0 m := by
      apply List.ext_getElem?
      intro j
      rw [List.getElem?_modify]
      by_cases hj : posM m t = j
      · subst hj; simp [he]
      · simp [hj]
    refine ⟨setBlock w B (.map (entsM 0 m).toArray m.length), ?_, ChangeMaps.heap_setBlock_same h _, ?_⟩
    · simp [Instr.mapEntry, run_underlying Tryz.underlying156, MapKept.run_getObj_map h, run_check_tm, hf, Result.andThen, he, run_stays_tm, MapKept.run_setObj_map _ h, hmod, goInt, setBlock]
    · exact ⟨rfl, rfl, rfl, by simp [setBlock], fun k _ hk => ChangeMaps.heap_setBlock_other h _ (fun e => hk (by rw [e]))⟩
  · rw [dif_neg hp] at hf ⊢
    rw [if_neg hp]
    have hle : posM m t ≤ m.length := List.findIdx_le_length
    have hpe : posM m t = m.length := by omega
    have hpush : (entsM 0 m).toArray.push { key := tV t, val := .slice none 0 0, born := m.length } = (entsM 0 (m ++ [(t, .slice none 0 0)])).toArray := by
      rw [entsM_append, Nat.zero_add, List.push_toArray]
    refine ⟨setBlock w B (.map (entsM 0 (m ++ [(t, Value.slice none 0 0)])).toArray (m ++ [(t, Value.slice none 0 0)]).length), ?_, ChangeMaps.heap_setBlock_same h _, ?_⟩
    · rw [hpe, ← hpush]
      simp [Instr.mapEntry, run_underlying Tryz.underlying156, MapKept.run_getObj_map h, run_check_tm, hf, Result.andThen, MapKept.run_setObj_map _ h, goInt, setBlock, Tryz.zeroValue87]
    · exact ⟨rfl, rfl, rfl, by simp [setBlock], fun k _ hk => ChangeMaps.heap_setBlock_other h _ (fun e => hk (by rw [e]))⟩
theorem find_born : ∀ (m : List Ent) (i k : Nat), k < m.length → (entsM i m).findIdx? (fun e => ((e.born : Nat) : Int) == ((i + k : Nat) : Int)) = some k
  | [], i, k, h => by simp at h
  | e :: m, i, 0, _ => by rw [entsM, List.findIdx?_cons]; simp
  | e :: m, i, k + 1, h => by
    have ih := find_born m (i + 1) k (by simpa using h)
    rw [entsM, List.findIdx?_cons, if_neg (by simp; omega)]
    rw [show i + (k + 1) = i + 1 + k by omega, ih]
    rfl
theorem run_stored_tm {w : World} {B : Nat} {m : List Ent} (h : MapAt w B m) {k : Nat} (hk : k < m.length) (v : Value) : ∃ w', (Instr.entryStore 156 (.map (some B)) (.int .i64 (k : Int)) v).run Tryz.prog w = .ok () w' ∧ MapAt w' B (m.set k (m[k].1, v)) ∧ w.grownBy w' (some B) := by
  unfold MapAt at h
  have hb := find_born m 0 k hk
  rw [Nat.zero_add] at hb
  have he := entsM_at (i := 0) hk
  rw [Nat.zero_add] at he
  have hmod : (entsM 0 m).modify k (fun e => { e with val := v }) = entsM 0 (m.set k (m[k].1, v)) := by
    rw [entsM_set, Nat.zero_add]
    apply List.ext_getElem?
    intro j
    rw [List.getElem?_modify, List.getElem?_set]
    by_cases hj : k = j
    · subst hj
      have hkl : k < (entsM 0 m).length := by rw [entsM_length]; exact hk
      rw [he, if_pos rfl, if_pos hkl]
      simp
    · simp [hj]
  refine ⟨setBlock w B (.map (entsM 0 (m.set k (m[k].1, v))).toArray (m.set k (m[k].1, v)).length), ?_, ChangeMaps.heap_setBlock_same h _, ?_⟩
  · rw [← hmod]
    simp [Instr.entryStore, MapKept.run_getObj_map h, asInt, asIntOf, hb, MapKept.run_setObj_map _ h, Result.andThen, setBlock]
  · exact ⟨rfl, rfl, rfl, by simp [setBlock], fun k _ hk => ChangeMaps.heap_setBlock_other h _ (fun e => hk (by rw [e]))⟩

section
variable {ops : Array Oper} {rest : List Oper} {o : Oper} {a : Act} {Q : Exit → Act → World → Prop}
theorem wpList_lookup_tm (w : World) (hg : o.guard = none) (x y : Operand) (hop : o.op = Op.lookup 156 x y false) (B : Nat) (m : List Ent) (t : Tm) (hx : a.eval x = .map (some B)) (hat : MapAt w B m) (hy : a.eval y = tV t)
    (hK : wpList Tryz.prog ops Q rest (a.put o.dst (valM m t)) w) : wpList Tryz.prog ops Q (o :: rest) a w := by
  refine wpList_plain hg fun K' hK' => ?_
  unfold Oper.wp
  simp [execOp, hop, hx, hy, run_lookup_tm hat, Result.andThen]
  exact hK' _ _ hK
theorem wpList_entry_tm (w : World) (hg : o.guard = none) (x y : Operand) (hop : o.op = Op.mapEntry 156 x y) (B : Nat) (m : List Ent) (t : Tm) (hx : a.eval x = .map (some B)) (hat : MapAt w B m) (hy : a.eval y = tV t)
    (hK : ∀ w', MapAt w' B (entM m t) → w.grownBy w' (some B) → wpList Tryz.prog ops Q rest (a.put o.dst (.tuple #[valM m t, .int .i64 (posM m t : Int)])) w') : wpList Tryz.prog ops Q (o :: rest) a w := by
  refine wpList_plain hg fun K' hK' => ?_
  obtain ⟨w', hrun, r1, r2⟩ := run_entry_tm hat t
  unfold Oper.wp
  simp [execOp, hop, hx, hy, hrun, Result.andThen]
  exact hK' _ _ (hK w' r1 r2)
theorem wpList_stored_tm (w : World) (hg : o.guard = none) (x y z : Operand) (hop : o.op = Op.entryStore 156 x y z) (B : Nat) (m : List Ent) (k : Nat) (hk : k < m.length) (v : Value) (hx : a.eval x = .map (some B)) (hat : MapAt w B m) (hy : a.eval y = .int .i64 (k : Int)) (hz : a.eval z = v)
    (hK : ∀ w', MapAt w' B (m.set k (m[k].1, v)) → w.grownBy w' (some B) → wpList Tryz.prog ops Q rest (a.put o.dst undef) w') : wpList Tryz.prog ops Q (o :: rest) a w := by
  refine wpList_plain hg fun K' hK' => ?_
  obtain ⟨w', hrun, r1, r2⟩ := run_stored_tm hat hk v
  unfold Oper.wp
  simp [execOp, hop, hx, hy, hz, hrun, Result.andThen]
  exact hK' _ _ (hK w' r1 r2)
end
end Go.Proofs.YtolfkhflbjnakaaGreatDoor

/- Groups in memory: a map whose keys are terms, each thing in it a row of numbers of the call's own. What the closure of stands does with one term and its place. -/
set_option linter.unusedVariables false
namespace Go.Proofs.YtolfkhflbjnakaaGreatDoor
open Go Go.RowKit

/-- A row of numbers of the call's own. -/
def OwnI (base : Nat) (w : World) (v : Value) (l : List Int) : Prop := w.ownsRow base 3 1 v l.length (ints l)
theorem OwnI.nil {base : Nat} {w : World} : OwnI base w (.slice none 0 0) [] := World.ownsRow_nil _ _ _ _
/-- The map at block B has the groups g. -/
def GrAt (base : Nat) (w : World) (B : Nat) (g : List Gr) : Prop := ∃ m : List Ent, MapAt w B m ∧ base ≤ B ∧ m.length = g.length ∧
  (∀ (i : Nat) (e : Ent) (p : Gr), m[i]? = some e → g[i]? = some p → e.1 = p.1 ∧ OwnI base w e.2 p.2) ∧
  ∀ (i j : Nat) (e f : Ent) (k : Nat), i ≠ j → m[i]? = some e → m[j]? = some f → e.2.ownBlock = some k → f.2.ownBlock ≠ some k
theorem owned_not_map {base : Nat} {w : World} {v : Value} {l : List Int} (h : OwnI base w v l) {B : Nat} {es : Array MapEntry} {c : Nat} (hB : w.heap[B]? = some (.map es c)) : v.ownBlock ≠ some B := by
  intro he
  rcases h.2 with ⟨rfl, _⟩ | ⟨g, cap, cur, rfl, _, hh, _⟩
  · cases he
  · simp only [Value.ownBlock, Option.some.injEq] at he
    subst he
    rw [hh] at hB
    cases hB
theorem GrAt.map {base : Nat} {w : World} {B : Nat} {g : List Gr} (h : GrAt base w B g) : ∃ es c, w.heap[B]? = some (.map es c) := by obtain ⟨m, h1, _⟩ := h; exact ⟨_, _, h1⟩
theorem GrAt.lt {base : Nat} {w : World} {B : Nat} {g : List Gr} (h : GrAt base w B g) : B < w.heap.size := by obtain ⟨m, h1, _⟩ := h; exact (Array.getElem?_eq_some_iff.1 h1).1
theorem GrAt.made (w : World) : GrAt w.heap.size (w.alloc (.map #[] 0)) w.heap.size [] := ⟨[], heap_alloc_new w _, Nat.le_refl _, rfl, by simp, by simp⟩
theorem GrAt.below {base : Nat} {w w' : World} {B : Nat} {g : List Gr} (h : GrAt base w B g) (hb : Below w.heap.size w w') : GrAt base w' B g := by
  have hlt := h.lt
  obtain ⟨m, h1, h2, h3, h4, h5⟩ := h
  exact ⟨m, (hb.block B hlt).trans h1, h2, h3, fun i e p he hp => ⟨(h4 i e p he hp).1, owned_below (h4 i e p he hp).2 hb⟩, h5⟩
theorem posM_getG {base : Nat} {w : World} : ∀ {m : List Ent} {g : List Gr} (t : Tm), m.length = g.length → (∀ (i : Nat) (e : Ent) (p : Gr), m[i]? = some e → g[i]? = some p → e.1 = p.1 ∧ OwnI base w e.2 p.2) → OwnI base w (valM m t) (getG g t)
  | [], g, t, hl, h => by
    cases g with
    | nil => exact OwnI.nil
    | cons p g => cases hl
  | e :: m, g, t, hl, h => by
    cases g with
    | nil => cases hl
    | cons p g =>
      obtain ⟨h1, h2⟩ := h 0 e p rfl rfl
      have ih := posM_getG (m := m) (g := g) t (by simpa using hl) fun i e' p' he hp => h (i + 1) e' p' (by simpa using he) (by simpa using hp)
      rw [getG]
      by_cases ht : e.1 = t
      · have hp : posM (e :: m) t = 0 := by unfold posM; rw [List.findIdx_cons]; simp [ht]
        have hv : valM (e :: m) t = e.2 := by unfold valM; simp [hp]
        rw [if_pos (by rw [← h1]; exact ht), hv]
        exact h2
      · have hp : posM (e :: m) t = posM m t + 1 := by unfold posM; rw [List.findIdx_cons]; simp [ht]
        have hv : valM (e :: m) t = valM m t := by unfold valM; simp [hp]
        rw [if_neg (by rw [← h1]; exact ht), hv]
        exact ih
/-- What is looked up is the group's row. -/
theorem GrAt.look {base : Nat} {w : World} {B : Nat} {g : List Gr} (h : GrAt base w B g) (t : Tm) : ∃ v, (∃ m, MapAt w B m ∧ valM m t = v) ∧ OwnI base w v (getG g t) := by
  obtain ⟨m, h1, h2, h3, h4, h5⟩ := h
  exact ⟨_, ⟨m, h1, rfl⟩, posM_getG t h3 h4⟩
theorem addG_at : ∀ {m : List Ent} {g : List Gr} {t : Tm} {a : Int}, m.length = g.length → (∀ (i : Nat) (e : Ent) (p : Gr), m[i]? = some e → g[i]? = some p → e.1 = p.1) →
    (addG g t a).length = (entM m t).length ∧ (addG g t a)[posM m t]? = some (t, getG g t ++ [a]) ∧ ∀ i p, i ≠ posM m t → (addG g t a)[i]? = some p → g[i]? = some p
  | [], g, t, a, hl, h => by
    cases g with
    | nil => refine ⟨by simp [addG, entM, posM], by simp [addG, posM, getG], fun i p hi hp => ?_⟩; cases i with | zero => simp [posM] at hi | succ i => simp [addG] at hp
    | cons p g => cases hl
  | e :: m, g, t, a, hl, h => by
    cases g with
    | nil => cases hl
    | cons p g =>
      have h1 := h 0 e p rfl rfl
      obtain ⟨i1, i2, i3⟩ := addG_at (m := m) (g := g) (t := t) (a := a) (by simpa using hl) fun i e' p' he hp => h (i + 1) e' p' (by simpa using he) (by simpa using hp)
      have hl' : m.length = g.length := by simpa using hl
      rw [addG]
      by_cases ht : e.1 = t
      · have hp : posM (e :: m) t = 0 := by unfold posM; rw [List.findIdx_cons]; simp [ht]
        have ht' : p.1 = t := by rw [← h1]; exact ht
        rw [if_pos ht', hp]
        refine ⟨by simp [entM, hp, hl'], by simp [getG, ht'], fun i q hi hq => ?_⟩
        cases i with
        | zero => exact absurd rfl hi
        | succ i => simpa using hq
      · have hp : posM (e :: m) t = posM m t + 1 := by unfold posM; rw [List.findIdx_cons]; simp [ht]
        have ht' : ¬ p.1 = t := by rw [← h1]; exact ht
        have he : (entM (e :: m) t).length = (entM m t).length + 1 := by
          unfold entM
          rw [hp]
          by_cases hq : posM m t < m.length
          · rw [if_pos hq, if_pos (by simpa using hq)]; rfl
          · rw [if_neg hq, if_neg (by simpa using hq)]; simp
        rw [if_neg ht', hp]
        refine ⟨by rw [he, List.length_cons, i1], by rw [List.getElem?_cons_succ, i2, getG, if_neg ht'], fun i q hi hq => ?_⟩
        cases i with
        | zero => simpa using hq
        | succ i => simpa using i3 i q (by omega) (by simpa using hq)
/-- The groups behind the entry, the append and the store. -/
theorem GrAt.added {base : Nat} {w w3 : World} {B : Nat} {g : List Gr} {m : List Ent} {t : Tm} {a : Int} {v' : Value}
    (h1 : MapAt w B m) (h2 : base ≤ B) (h3 : m.length = g.length) (h4 : ∀ (i : Nat) (e : Ent) (p : Gr), m[i]? = some e → g[i]? = some p → e.1 = p.1 ∧ OwnI base w e.2 p.2)
    (h5 : ∀ (i j : Nat) (e f : Ent) (k : Nat), i ≠ j → m[i]? = some e → m[j]? = some f → e.2.ownBlock = some k → f.2.ownBlock ≠ some k)
    (hk : ∀ (k : Nat), k < w.heap.size → k ≠ B → (valM m t).ownBlock ≠ some k → w3.heap[k]? = w.heap[k]?)
    (hm : ∀ hp : posM m t < (entM m t).length, MapAt w3 B ((entM m t).set (posM m t) ((entM m t)[posM m t].1, v'))) (ho : OwnI base w3 v' (getG g t ++ [a])) (hn : v'.ownBlock = (valM m t).ownBlock ∨ ∀ k, v'.ownBlock = some k → w.heap.size ≤ k) : GrAt base w3 B (addG g t a) := by
  obtain ⟨p1, p2⟩ := posM_entM m t
  obtain ⟨q1, q2, q3⟩ := addG_at (a := a) (t := t) h3 fun i e p he hp => (h4 i e p he hp).1
  have hB : B < w.heap.size := (Array.getElem?_eq_some_iff.1 h1).1
  have hp2 : (entM m t)[posM m t] = (t, valM m t) := by rw [List.getElem?_eq_getElem p1] at p2; exact Option.some.inj p2
  have hm' := hm p1
  rw [hp2] at hm'
  have hm2 : MapAt w3 B ((entM m t).set (posM m t) (t, v')) := hm'
  have hent : ∀ (i : Nat) (e : Ent), i ≠ posM m t → (entM m t)[i]? = some e → m[i]? = some e := fun i e hi he => by
    unfold entM at he
    split at he
    · exact he
    · rename_i hlt
      have hle : posM m t ≤ m.length := List.findIdx_le_length
      rw [List.getElem?_append] at he
      split at he
      · exact he
      · rename_i h6
        have : i ≠ m.length := by omega
        rw [List.getElem?_eq_none (by simp; omega)] at he
        cases he
  have hval : ∀ (i : Nat) (e : Ent) (k : Nat), i ≠ posM m t → m[i]? = some e → e.2.ownBlock = some k → (valM m t).ownBlock ≠ some k := fun i e k hi he hk' => by
    unfold valM
    split
    · rename_i hlt
      exact h5 i (posM m t) e _ k hi he (List.getElem?_eq_getElem hlt) hk'
    · intro hh; cases hh
  refine ⟨_, hm2, h2, by rw [List.length_set, q1], fun i e p he hp => ?_, fun i j e f k hij he hf hk' => ?_⟩
  · rw [List.getElem?_set] at he
    by_cases hi : posM m t = i
    · subst hi
      rw [if_pos rfl, if_pos p1] at he
      rw [q2] at hp
      cases he
      cases hp
      exact ⟨rfl, ho⟩
    · rw [if_neg hi] at he
      have he' := hent i e (fun h => hi h.symm) he
      have hp' := q3 i p (fun h => hi h.symm) hp
      obtain ⟨r1, r2⟩ := h4 i e p he' hp'
      refine ⟨r1, owned_keep r2 fun k hk' => ?_⟩
      exact hk k (r2.lt k hk').2 (fun e => owned_not_map r2 h1 (by rw [hk', e])) (hval i e k (fun h => hi h.symm) he' hk')
  · rw [List.getElem?_set] at he hf
    have hother : ∀ (x : Nat) (u : Ent), posM m t ≠ x → (entM m t)[x]? = some u → ∀ k, u.2.ownBlock = some k → v'.ownBlock ≠ some k := fun x u hx hu k hk2 hv => by
      have hu' := hent x u (fun h => hx h.symm) hu
      rcases hn with hn | hn
      · rw [hn] at hv
        exact hval x u k (fun h => hx h.symm) hu' hk2 hv
      · have hlx : x < g.length := by rw [← h3]; exact (List.getElem?_eq_some_iff.1 hu').1
        have := ((h4 x u _ hu' (List.getElem?_eq_getElem hlx)).2.lt k hk2).2
        have := hn k hv
        omega
    by_cases hi : posM m t = i
    · subst hi
      rw [if_pos rfl, if_pos p1] at he
      cases he
      rw [if_neg hij] at hf
      intro hf2
      exact hother j f hij hf k hf2 hk'
    · rw [if_neg hi] at he
      by_cases hj : posM m t = j
      · subst hj
        rw [if_pos rfl, if_pos p1] at hf
        cases hf
        exact hother i e hi he k hk'
      · rw [if_neg hj] at hf
        exact h5 i j e f k hij (hent i e (fun h => hi h.symm) he) (hent j f (fun h => hj h.symm) hf) hk'
end Go.Proofs.YtolfkhflbjnakaaGreatDoor

/- What the closure of stands does with one term and its place. -/
namespace Go.Proofs.YtolfkhflbjnakaaGreatDoor
open Go Go.RowKit
set_option linter.unusedVariables false

/-- Nothing below base has turned; beyond it, rows of numbers and maps alone. -/
structure Softly (base : Nat) (w w' : World) : Prop where
  below : Below base w w'
  keep : ∀ (k : Nat) (cs : Array Value) (t : TypeId) (fr : Nat × Nat), w.heap[k]? = some (.cells cs t fr) → t ≠ 3 → w'.heap[k]? = some (.cells cs t fr)
theorem Softly.refl (base : Nat) (w : World) : Softly base w w := ⟨Below.refl _ _, fun _ _ _ _ h _ => h⟩
theorem Softly.trans {base : Nat} {w w1 w2 : World} (h : Softly base w w1) (k : Softly base w1 w2) : Softly base w w2 := ⟨h.below.trans k.below, fun i cs t fr hi ht => k.keep i cs t fr (h.keep i cs t fr hi ht) ht⟩
theorem Softly.of {base : Nat} {w w1 : World} (h : Below w.heap.size w w1) (hb : base ≤ w.heap.size) : Softly base w w1 := ⟨h.mono hb, fun k cs t fr hk _ => (h.block k (Array.getElem?_eq_some_iff.1 hk).1).trans hk⟩
theorem Softly.owned {base base' : Nat} {w w1 : World} {e : TypeId} {size : Nat} {v : Value} {n : Nat} {xs : List Value} (h : Softly base w w1) (ho : w.ownsRow base' e size v n xs) (he : e ≠ 3) : w1.ownsRow base' e size v n xs := by
  refine ⟨ho.1, ?_⟩
  rcases ho.2 with h1 | ⟨g, cap, cur, h1, h2, h3, h4⟩
  · exact .inl h1
  · exact .inr ⟨g, cap, cur, h1, h2, h.keep g _ _ _ h3 he, h4⟩

theorem grown_cell {w w' : World} {row : Option Nat} (hg : w.grownBy w' row) {p : Addr} {v : Value} (h : w.cell? p = some v) (hne : row ≠ some p.block) : w'.cell? p = some v := by
  have hb := hg.block p.block (World.block_lt_of_cell? w _ h) (fun e => hne e.symm)
  rw [← h]
  simp [World.cell?, hb]
/-- What is told. -/
def ToldS (base B : Nat) (g : List Gr) (w : World) (e : Ending) (w' : World) : Prop := e = .returned (.tuple #[]) ∧ GrAt base w' B g ∧ Softly base w w'

set_option maxHeartbeats 2000000 in
set_option maxRecDepth 100000 in
theorem stands_tell (base B Bm : Nat) (g : List Gr) (x y : ByteArray) (a : Int) (w : World) (h : GrAt base w B g) (hc : w.cell? ⟨Bm, 0, none⟩ = some (.map (some B))) (hbase : base ≤ w.heap.size) (hlen : (getG g (x.data.toList, y.data.toList)).length ≤ 1073741824) :
    Calls Tryz.prog 159 #[.agg #[.string x, .string y], .int .i64 a, .pointer (some ⟨Bm, 0, none⟩)] w (ToldS base B (addG g (x.data.toList, y.data.toList) a) w) := by
  obtain ⟨i0, hi0, hz0, hz1, hz2⟩ := info_parts info_int
  have hB := h.lt
  obtain ⟨m, h1, h2, h3, h4, h5⟩ := h
  obtain ⟨t, ht⟩ : ∃ t : Tm, t = (x.data.toList, y.data.toList) := ⟨_, rfl⟩
  rw [← ht] at hlen ⊢
  have hown : OwnI base w (valM m t) (getG g t) := posM_getG t h3 h4
  obtain ⟨p1, p2⟩ := posM_entM m t
  have hadd := fun (w3 : World) (v' : Value) => GrAt.added (w3 := w3) (a := a) (v' := v') (t := t) h1 h2 h3 h4 h5
  obtain ⟨p, hp⟩ : ∃ p, p = posM m t := ⟨_, rfl⟩
  obtain ⟨l, hl⟩ : ∃ l, l = getG g t := ⟨_, rfl⟩
  obtain ⟨v, hv⟩ : ∃ v, v = valM m t := ⟨_, rfl⟩
  have HADD := Lib.hid hadd
  have HT := Lib.hid ht
  have HM := Lib.hid h1
  have HP := Lib.hid hp
  have HL := Lib.hid hl
  have HV := Lib.hid hv
  have hapart := owned_not_map hown h1
  rw [← hv, ← hl] at hown
  rw [← hv] at hapart
  rw [← hl] at hlen
  rw [← hp] at p1
  clear hadd ht h1 h3 h4 h5 hp hl hv p2
  have hcm := Lib.hid (fun w' (hb : Below w.heap.size w w') => (hb.cell (p := ⟨Bm, 0, none⟩) (World.block_lt_of_cell? w _ hc)).trans hc)
  go_enter Tryz.func159, Tryz.ntmps159
  have b0 : Below w.heap.size w ((w.alloc (.cells #[.string x, .string y] 23)).alloc (.cells #[.int .i64 a] 3)) := ((Below.refl _ w).alloc (Nat.le_refl _) _).alloc (by simp) _
  obtain ⟨W1, hW1⟩ : ∃ W1, W1 = (w.alloc (.cells #[.string x, .string y] 23)).alloc (.cells #[.int .i64 a] 3) := ⟨_, rfl⟩
  rw [← hW1] at b0
  have hM1 : MapAt W1 B m := (b0.block B hB).trans HM.out
  have hs1 : W1.heap.size = w.heap.size + 2 := by rw [hW1]; simp
  have hn1 : W1.cell? ⟨w.heap.size + 1, 0, none⟩ = some (.int .i64 a) := by
    rw [hW1]
    simp
  have hown1 : OwnI base W1 v l := owned_below hown b0
  have hk1 : ∀ k, k < w.heap.size → W1.heap[k]? = w.heap[k]? := fun k hk => b0.block k hk
  have HCB := hcm.out _ ((Below.refl _ w).alloc (Nat.le_refl _) (.cells #[.string x, .string y] 23))
  have hy : Value.agg #[.string x, .string y] = tV t := by rw [HT.out]; rfl
  have HW1 := Lib.hid hW1
  have HY := Lib.hid hy
  clear hW1 hy
  go_wp2_with (first
    | (refine wpList_entry_tm _ (by rfl) _ _ (by rfl) B m t (by rfl) (by rw [← HW1.out]; exact hM1) (by rw [← HY.out]; rfl) ?_
       rw [← HW1.out, ← HV.out, ← HP.out]
       intro w2 hM2 hg2
       have hown2 : OwnI base w2 v l := hown1.kept hg2 (.inr hapart)
       have hs2 : W1.heap.size ≤ w2.heap.size := hg2.size
       have hn2 : w2.cell? ⟨w.heap.size + 1, 0, none⟩ = some (.int .i64 a) := grown_cell hg2 hn1 (by simp; omega))
    | (at_builtin; refine wpList_append_own_at _ rfl _ _ 87 rfl base 3 i0 _ 1 8 Tryz.underlying87 hi0 hz0 hz1 hz2 rfl (by omega) v l.length (ints l) (by rfl) hown2 ⟨w.heap.size + 1, 0, none⟩ 1 1 [.int .i64 a] (by rfl) rfl (by intro j u hj; match j, hj with | 0, hj => (simp at hj; subst hj; simpa [Addr.add] using hn2)) (by intro u hu; simp at hu; subst hu; rfl) (by unfold maxLen; omega) (by omega) (by omega) ?_
       intro v' w3 hown3 hg3 _ hat3
       have hM3 : MapAt w3 B (entM m t) := (hg3.block B (by omega) (fun e => hapart e.symm)).trans hM2)
    | (refine wpList_stored_tm _ (by rfl) _ _ _ (by rfl) B (entM m t) p p1 v' (by rfl) hM3 (by rfl) (by rfl) ?_
       intro w4 hM4 hg4))
  have hsz3 : w2.heap.size ≤ w3.heap.size := hg3.size
  have hB1 : B < W1.heap.size := by omega
  have hk4 : ∀ (k : Nat), k < W1.heap.size → k ≠ B → v.ownBlock ≠ some k → w4.heap[k]? = W1.heap[k]? := fun k h6 h7 h8 => by
    rw [hg4.block k (by omega) (fun e => h7 (by cases e; rfl)), hg3.block k (by omega) (fun e => h8 e.symm), hg2.block k h6 (fun e => h7 (by cases e; rfl))]
  have hbl : Below base w w4 := ⟨hg4.os.trans (hg3.os.trans (hg2.os.trans b0.os)), hg4.tape.trans (hg3.tape.trans (hg2.tape.trans b0.tape)), hg4.output.trans (hg3.output.trans (hg2.output.trans b0.output)), by have := hg4.size; omega, fun k hk => by
    rw [hk4 k (by omega) (by omega) (fun e => by have := (hown.lt k e).1; omega), hk1 k (by omega)]⟩
  have hnb : v'.ownBlock ≠ some B := fun e => by
    rcases hat3 with h6 | h6
    · exact hapart (h6.symm.trans e)
    · rw [h6] at e; cases e; omega
  have hown4 : OwnI base w4 v' (l ++ [a]) := by
    have h6 := hown3.kept hg4 (.inr hnb)
    unfold OwnI
    rw [List.length_append]
    simpa [ints] using h6
  go_end0
  refine ⟨rfl, HADD.out w4 v' (fun k h6 h7 h8 => by rw [← HV.out] at h8; rw [hk4 k (by omega) h7 h8, hk1 k h6]) (fun hp => ?_) (by rw [← HL.out]; exact hown4) ?_, hbl, fun k cs ty fr hk hty => ?_⟩
  · simp only [← HP.out]
    exact hM4
  · rw [← HV.out]
    rcases hat3 with h6 | h6
    · exact .inl h6
    · refine .inr fun k h7 => ?_
      rw [h6] at h7
      cases h7
      omega
  · have hlt := (Array.getElem?_eq_some_iff.1 hk).1
    rw [hk4 k (by omega) (fun e => ?_) (fun e => ?_), hk1 k hlt, hk]
    · subst e
      have := HM.out
      unfold MapAt at this
      rw [hk] at this
      cases this
    · exact owned_apart hown hk hty e
end Go.Proofs.YtolfkhflbjnakaaGreatDoor

/- The library's own contracts (slices.Clone, ContainsFunc of fields) at this translation's numbers. -/
set_option linter.unusedVariables false
namespace Go.Proofs.YtolfkhflbjnakaaGreatDoor
open Go.Shelf Go.RowKit

end Go.Proofs.YtolfkhflbjnakaaGreatDoor

/- (Parted off.) The library's own contracts (slices.Equal of fields; BinarySearch of numbers) at this translation's numbers. -/
set_option linter.unusedVariables false
namespace Go.Proofs.YtolfkhflbjnakaaGreatDoor
open Go.Shelf Go.RowKit

def layBinInt_ren : Go.Shelf.Ren := ⟨fun | 25 => 162 | 31 => 176 | 32 => 177 | 37 => 184 | n => n, fun | 0 => 0 | 3 => 3 | 4 => 4 | 22 => 87 | 40 => 111 | n => n, fun | n => n⟩
theorem layBinInt : Lays2.n25 Tryz.prog layBinInt_ren := {
  mixed := by kernel_rfl
  f25 := Tryz.func162.trans (congrArg some (by kernel_rfl))
  f31 := Tryz.func176.trans (congrArg some (by kernel_rfl))
  f32 := Tryz.func177.trans (congrArg some (by kernel_rfl))
  f37 := Tryz.func184.trans (congrArg some (by kernel_rfl))
  t0 := Tryz.underlying0
  a0 := Tryz.isAgg0
  z0 := Tryz.sizeOf0
  v0 := Tryz.zeroValue0
  t3 := Tryz.underlying3
  a3 := Tryz.isAgg3
  z3 := Tryz.sizeOf3
  v3 := Tryz.zeroValue3
  t4 := Tryz.underlying4
  a4 := Tryz.isAgg4
  z4 := Tryz.sizeOf4
  v4 := Tryz.zeroValue4
  t22 := Tryz.underlying87
  a22 := Tryz.isAgg87
  z22 := Tryz.sizeOf87
  v22 := Tryz.zeroValue87
  t40 := Tryz.underlying111
  a40 := Tryz.isAgg111
  z40 := Tryz.sizeOf111
  v40 := Tryz.zeroValue111 }
end Go.Proofs.YtolfkhflbjnakaaGreatDoor

/- What follow answers: do words stand in a field from a place on? -/
namespace Go.Proofs.YtolfkhflbjnakaaGreatDoor
open Go Go.RowKit Go.Shelf
set_option linter.unusedVariables false


theorem bin_I (base : Nat) (v : Value) (l : List Int) (x : Int) (w : World) (ho : OwnI base w v l) (hs : l.Pairwise (· < ·)) (hl : l.length ≤ 1073741824) :
    Calls Tryz.prog 162 #[v, .int .i64 x] w fun e w' => (∃ i : Int, e = .returned (.tuple #[.int .i64 i, .bool (decide (x ∈ l))])) ∧ Below w.heap.size w w' := by
  have hsle : (l.take l.length).Pairwise (· ≤ ·) := by rw [List.take_length]; exact hs.imp fun h => Int.le_of_lt h
  obtain ⟨A, c, rfl, _, hrow⟩ := owned_row ho
  rcases hrow with h0 | ⟨b, off, rfl, hb, hc⟩
  · have : l = [] := by simpa [ints] using h0
    subst this
    refine (Any.slices_BinarySearch_int_empty (ρ := layBinInt_ren) layBinInt A c x w).mono ?_
    rintro e w' ⟨rfl, rfl⟩
    exact ⟨⟨0, by simp⟩, Below.refl _ _⟩
  · refine (Any.slices_BinarySearch_int (ρ := layBinInt_ren) layBinInt b off l.length c l x w (Nat.le_refl _) (by omega) (fun j hj => ?_) hsle).mono ?_
    · have := hc j (.int .i64 l[j]) (by simp [ints, hj])
      rw [this, List.getD_eq_getElem?_getD, List.getElem?_eq_getElem hj]
      rfl
    · rintro e w' ⟨rfl, q, rfl⟩
      refine ⟨⟨((l.take l.length).countP (· < x) : Nat), ?_⟩, drewN_below _ _⟩
      simp

/-- Do the words stand there, by the groups? -/
def followG (g : List Gr) (f : Nm) : List Nm → Int → Bool
  | [], _ => true
  | x :: ws, a => decide (a ∈ getG g (f, x)) && followG g f ws (a + 1)
theorem followG_at {g : List Gr} {f : Nm} {ws : List Nm} {k : Nat} (hk : k < ws.length) (a : Int) : followG g f (ws.drop k) a = (decide (a ∈ getG g (f, ws[k])) && followG g f (ws.drop (k + 1)) (a + 1)) := by
  rw [List.drop_eq_getElem_cons hk, followG]
def FollowRel (g : List Gr) (f : Nm) (ws : List Nm) (a : Int) (r : Bool) (w : World) (o i : Value) (wr : World) : Prop :=
  o = .bool false ∧ ∃ k : Nat, k ≤ ws.length ∧ i = .int .i64 (k : Int) ∧ followG g f (ws.drop k) (a + k) = r ∧ Below w.heap.size w wr

set_option maxHeartbeats 2000000 in
set_option maxRecDepth 100000 in
theorem doc_follow (base B : Nat) (g : List Gr) (f : ByteArray) (A : Option Addr) (n c : Nat) (ws : List Nm) (a : Int) (w : World) (hg : GrAt base w B g) (hl : ws.length = n) (hr : Row w w.heap.size A (strs ws)) (hn : n ≤ 1048576) (ha : 0 ≤ a) (ha2 : a ≤ 1073741824)
    (hs : ∀ t, (getG g t).Pairwise (· < ·)) (hgl : ∀ t, (getG g t).length ≤ 1073741824) :
    Calls Tryz.prog 142 #[.map (some B), .string f, .slice A n c, .int .i64 a] w fun e w' => e = .returned (.bool (followG g f.data.toList ws a)) ∧ Below w.heap.size w w' := by
  subst hl
  have HG := Lib.hid hg
  have HR := Lib.hid hr
  have HS := Lib.hid hs
  have HGL := Lib.hid hgl
  obtain ⟨r, hres⟩ : ∃ r, r = followG g f.data.toList ws a := ⟨_, rfl⟩
  rw [← hres]
  have HRES := Lib.hid hres
  clear hg hr hs hgl hres
  go_enter Tryz.func142, Tryz.ntmps142
  go_wp2
  go_loopw [8, 15] (fun o i wr => FollowRel g f.data.toList ws a r w o i wr) (fun _ i _ => ws.length - (intOf i).toNat)
  case atStart => exact ⟨rfl, 0, by omega, rfl, by rw [HRES.out]; simp, Below.refl _ _⟩
  case round =>
    obtain ⟨rfl, k, hk, rfl, hgo, hbw⟩ := hrel
    by_cases hlt : k < ws.length
    · obtain ⟨b2, o2, e2, hb2, hg1⟩ := row_nm (HR.out.below hbw) hlt
      subst e2
      obtain ⟨x, hx, hx2⟩ := as_text ws[k]
      rw [← hx] at hg1
      rw [followG_at hlt, ← hx2] at hgo
      have hgr := HG.out.below hbw
      obtain ⟨v, ⟨m, hm, hv⟩, hown⟩ := hgr.look (f.data.toList, x.data.toList)
      have j0 : (0 : Int) ≤ k := by omega
      have j1 : (k : Int) < ws.length := by omega
      have ho2 := bin_I base v (getG g (f.data.toList, x.data.toList)) (a + k) wr hown (HS.out _) (HGL.out _)
      have e1 : wrap64 (a + k) = a + k := by unfold wrap64; omega
      have hk1 : a + ((k + 1 : Nat) : Int) = a + k + 1 := by push_cast; omega
      rw [← hk1] at hgo
      cases hd : decide (a + k ∈ getG g (f.data.toList, x.data.toList)) <;> rw [hd] at ho2 hgo
      all_goals
        have HGO := Lib.hid hgo
        have HO2 := Lib.hid ho2
        have HBW := Lib.hid hbw
        clear hx hx2 hgo ho2 hd hbw hgr hown hk1
        go_wp2_with (first
          | (refine wpList_lookup_tm _ (by rfl) _ _ (by rfl) B m (f.data.toList, x.data.toList) (by rfl) hm (by rfl) ?_
             rw [hv])
          | (go_at_call 162; (with_reducible refine HO2.out.mono ?_); rintro e w5 ⟨⟨i5, rfl⟩, hb5⟩))
      · go_ret
        refine ⟨ret_bool ?_, HBW.out.trans (hb5.mono HBW.out.size)⟩
        rw [← HGO.out]
        rfl
      · exact ⟨⟨rfl, k + 1, by omega, by go_num, by rw [← HGO.out]; rfl, HBW.out.trans (hb5.mono HBW.out.size)⟩, by simp [intOf]; omega⟩
    · have hkl : k = ws.length := by omega
      subst hkl
      rw [List.drop_length] at hgo
      have HGO := Lib.hid hgo
      have HBW := Lib.hid hbw
      clear hgo hbw
      go_wp2
      go_ret
      exact ⟨ret_bool (by rw [← HGO.out]; rfl), HBW.out⟩
end Go.Proofs.YtolfkhflbjnakaaGreatDoor

/- What each does: it hands on all words of a document, as terms, each with its place. -/
namespace Go.Proofs.YtolfkhflbjnakaaGreatDoor
open Go Go.RowKit
set_option linter.unusedVariables false

theorem tellD_len {M : Nat} : ∀ l : List Fd, (∀ f ∈ l, (words f.2).length ≤ M) → (tellD l).length ≤ l.length * M
  | [], _ => by simp [tellD]
  | f :: l, h => by
    have h1 := h f (List.mem_cons_self ..)
    have h2 := tellD_len l fun g hg => h g (List.mem_cons_of_mem _ hg)
    rw [tellD, List.length_append, tellF_length, List.length_cons, Nat.succ_mul]
    omega
/-- A block of two texts. -/
theorem pair_cells {w : World} {B : Nat} {u v : Value} {t : TypeId} (h : w.heap[B]? = some (.cells #[u, v] t (0, 0))) : w.cell? ⟨B, 0, none⟩ = some u ∧ w.cell? ⟨B, 1, none⟩ = some v := ⟨by simp [World.cell?, h], by simp [World.cell?, h]⟩

/-- A function that is handed words: J holds of what it has been told. -/
def TellsOf (base : Nat) (g : Nat) (Bm : Nat) (J : List (Tm × Int) → World → Prop) : Prop :=
  (∀ args w, (callFunc g args).run Tryz.prog w = .ok (.enter g args) w) ∧ (∀ s W W', J s W → Below W.heap.size W W' → J s W') ∧
  ∀ (s : List (Tm × Int)) (x y : ByteArray) (a : Int) (W : World), J s W → base ≤ W.heap.size → s.length ≤ 104857600 →
    Calls Tryz.prog g #[.agg #[.string x, .string y], .int .i64 a, .pointer (some ⟨Bm, 0, none⟩)] W fun e W' => e = .returned (.tuple #[]) ∧ J (s ++ [((x.data.toList, y.data.toList), a)]) W' ∧ Softly base W W'

def EachRel (l : List Fd) (base : Nat) (J : List (Tm × Int) → World → Prop) (w1 : World) (i : Value) (wr : World) : Prop := ∃ k : Nat, k ≤ l.length ∧ i = .int .i64 (k : Int) ∧ J (tellD (l.take k)) wr ∧ Softly base w1 wr
def EachIn (s : List (Tm × Int)) (f : Nm) (ws : List Nm) (base : Nat) (J : List (Tm × Int) → World → Prop) (w4 : World) (i : Value) (wr : World) : Prop := ∃ m : Nat, m ≤ ws.length ∧ i = .int .i64 (m : Int) ∧ J (s ++ tellF f 0 (ws.take m)) wr ∧ Softly base w4 wr

set_option maxHeartbeats 4000000 in
set_option maxRecDepth 100000 in
theorem doc_each (base g Bm : Nat) (J : List (Tm × Int) → World → Prop) (id : Int) (A : Option Addr) (n c : Nat) (l : List Fd) (w : World) (hl : l.length = n) (hr : FRow w base A l) (hbase : base ≤ w.heap.size) (hn : n ≤ 100)
    (ht : ∀ f ∈ l, f.2.length ≤ 268435456) (hw : ∀ f ∈ l, (words f.2).length ≤ 1048576) (hT : TellsOf base g Bm J) (h0 : J [] w) :
    Calls Tryz.prog 158 #[docV id A n c, .func (.func g) #[] #[.pointer (some ⟨Bm, 0, none⟩)]] w fun e w' => e = .returned (.tuple #[]) ∧ J (tellD l) w' ∧ Softly base w w' := by
  subst hl
  obtain ⟨eg, hJ, hT⟩ := hT
  have HR := Lib.hid hr
  have HT := Lib.hid ht
  have HW := Lib.hid hw
  have HJ := Lib.hid hJ
  have HTT := Lib.hid hT
  have HLEN := Lib.hid (tellD_len (M := 1048576))
  obtain ⟨all, hall⟩ : ∃ all, all = tellD l := ⟨_, rfl⟩
  rw [← hall]
  have HALL := Lib.hid hall
  obtain ⟨w1, hw1⟩ : ∃ w1, w1 = boxD w id A l.length c := ⟨_, rfl⟩
  have hb1 : Below w.heap.size w w1 := by rw [hw1]; exact boxD_below _ _ _ _ _
  have hj1 : J [] w1 := hJ _ _ _ h0 hb1
  have hc1 : w1.cell? ⟨w.heap.size, 1, none⟩ = some (.slice A l.length c) := by rw [hw1]; exact (boxD_cells (Below.refl _ _)).2
  have hs1 := hb1.size
  have HB1 := Lib.hid hb1
  have HJ1 := Lib.hid hj1
  have HW1 := Lib.hid hw1
  clear hr ht hw hJ hT hall hb1 hj1 hw1 h0
  have hsoft0 : Softly base w w1 := Softly.of HB1.out hbase
  have HS0 := Lib.hid hsoft0
  clear hsoft0
  have hc1' : (boxD w id A l.length c).cell? ⟨w.heap.size, 1, none⟩ = some (.slice A l.length c) := by rw [← HW1.out]; exact hc1
  go_enter Tryz.func158, Tryz.ntmps158
  go_wp2
  rw [show w.alloc _ = w1 from HW1.out.symm]
  clear hc1'
  go_loopw [11] (fun i wr => EachRel l base J w1 i wr) (fun i _ => l.length - (intOf i).toNat)
  case atStart => exact ⟨0, by omega, rfl, by rw [List.take_zero]; exact HJ1.out, Softly.refl _ _⟩
  case round =>
    obtain ⟨k, hk, rfl, hj, hso⟩ := hrel
    by_cases hlt : k < l.length
    · have hbw : Below base w wr := HS0.out.below.trans hso.below
      have hszr := hso.below.size
      obtain ⟨b1, o1, e1, hb1, hf1, hf2⟩ := (HR.out.below hbw).at_ hlt
      subst e1
      obtain ⟨x, hx, hx2⟩ := as_text l[k].1
      obtain ⟨y, hy, hy2⟩ := as_text l[k].2
      rw [← hx] at hf1
      rw [← hy] at hf2
      have i0 : (0 : Int) ≤ k := by omega
      have i1 : (k : Int) < l.length := by omega
      have hsy : y.size ≤ 268435456 := by rw [hy, size_nm]; exact HT.out _ (List.getElem_mem hlt)
      have hwl := HW.out _ (List.getElem_mem hlt)
      have hsu := tellD_succ hlt
      have hlen := HLEN.out (l.take k) fun f hf => HW.out f (List.mem_of_mem_take hf)
      rw [List.length_take, Nat.min_eq_left (by omega)] at hlen
      have hlen2 : (tellD (l.take k)).length ≤ 99 * 1048576 := Nat.le_trans hlen (Nat.mul_le_mul_right _ (by omega))
      obtain ⟨s, hs⟩ : ∃ s, s = tellD (l.take k) := ⟨_, rfl⟩
      obtain ⟨ws, hws⟩ : ∃ ws, ws = words l[k].2 := ⟨_, rfl⟩
      rw [← hs] at hj hsu hlen2
      rw [← hws] at hsu hwl
      have C1 : Hid (∀ w', Calls Tryz.prog 173 #[.string y] w' (GaveStrs ws w')) := Lib.hid fun w' => by have := word_Words y w' (by omega); rwa [hy2, ← hws] at this
      obtain ⟨fn, hfn⟩ : ∃ fn, fn = l[k].1 := ⟨_, rfl⟩
      rw [← hfn] at hsu hx2
      have HX2 := Lib.hid hx2
      have HSU := Lib.hid hsu
      have HJK := Lib.hid hj
      have HSO := Lib.hid hso
      obtain ⟨w2, hw2⟩ : ∃ w2, w2 = wr.alloc (.cells #[.string x, .string y] 60) := ⟨_, rfl⟩
      have hf0 : w2.heap[wr.heap.size]? = some (.cells #[.string x, .string y] 60 (0, 0)) := by rw [hw2]; exact heap_alloc_new _ _
      have hb2 : Below wr.heap.size wr w2 := by rw [hw2]; exact (Below.refl _ _).alloc (Nat.le_refl _) _
      have hb3 := hb2.size
      have HF0 := Lib.hid hf0
      have HB2 := Lib.hid hb2
      have HW2 := Lib.hid hw2
      clear hx hx2 hy hy2 hs hws hfn hsu hj hso hbw hlen hf0 hb2 hw2
      go_wp2_with (go_at_call 173; refine (C1.out _).mono ?_)
      rw [show wr.alloc _ = w2 from HW2.out.symm]
      rintro e w4 ⟨v4, rfl, hown4, hb4⟩
      obtain ⟨A4, c4, rfl, hlc4, _⟩ := owned_row hown4
      have hs4 := hb4.size
      have hj4 : J s w4 := HJ.out _ _ _ HJK.out (HB2.out.trans (hb4.mono (by omega)))
      have hf4 : w4.heap[wr.heap.size]? = some (.cells #[.string x, .string y] 60 (0, 0)) := (hb4.block _ (by have := (Array.getElem?_eq_some_iff.1 HF0.out).1; omega)).trans HF0.out
      have hso4 : Softly base wr w4 := Softly.of (HB2.out.trans (hb4.mono (by omega))) (by omega)
      have HJ4 := Lib.hid hj4
      have HF4 := Lib.hid hf4
      have HO4 := Lib.hid hown4
      have HSO4 := Lib.hid hso4
      clear hj4 hf4 hown4 hso4 hb4
      go_wp2
      go_loopw [19] (fun i wx => EachIn s fn ws base J w4 i wx) (fun i _ => ws.length - (intOf i).toNat)
      case atStart => exact ⟨0, by omega, rfl, by rw [List.take_zero]; simpa [tellF] using HJ4.out, Softly.refl _ _⟩
      case round =>
        obtain ⟨m, hm, rfl, hj5, hso5⟩ := hrel
        by_cases hmt : m < ws.length
        · obtain ⟨b2, o2, e2, hb2, hg1⟩ := row_nm (owned_row_of (hso5.owned HO4.out (by decide))) hmt
          subst e2
          obtain ⟨z, hz, hz2⟩ := as_text ws[m]
          rw [← hz] at hg1
          obtain ⟨hx5, _⟩ := pair_cells (hso5.keep _ _ _ _ HF4.out (by decide))
          have hsz5 := hso5.below.size
          have hsu2 := tellF_succ fn hmt
          rw [← hz2, ← HX2.out] at hsu2
          have hl5 : (s ++ tellF fn 0 (ws.take m)).length ≤ 104857600 := by rw [List.length_append, tellF_length, List.length_take]; omega
          have C2 : Hid (Calls Tryz.prog g #[.agg #[.string x, .string z], .int .i64 (m : Int), .pointer (some ⟨Bm, 0, none⟩)] wr fun e W' => e = .returned (.tuple #[]) ∧ J (s ++ tellF fn 0 (ws.take (m + 1))) W' ∧ Softly base wr W') := Lib.hid (by
            have := HTT.out _ x z (m : Int) wr hj5 (by omega) hl5
            rw [List.append_assoc, ← HX2.out, ← hsu2] at this
            rwa [← HX2.out] )
          have j0 : (0 : Int) ≤ m := by omega
          have j1 : (m : Int) < ws.length := by omega
          have HSO5 := Lib.hid hso5
          clear hz hz2 hsu2 hj5 hso5
          go_wp2_with (go_at_fn g; refine C2.out.mono ?_; rintro e w6 ⟨rfl, hj6, hso6⟩)
          exact ⟨⟨m + 1, by omega, by go_num, hj6, HSO5.out.trans hso6⟩, by simp [intOf]; omega⟩
        · have hml : m = ws.length := by omega
          subst hml
          rw [List.take_length, ← HSU.out] at hj5
          go_wp2
          exact ⟨⟨k + 1, by omega, by go_num, hj5, HSO.out.trans (HSO4.out.trans hso5)⟩, by simp [intOf]; omega⟩
    · have hkl : k = l.length := by omega
      subst hkl
      rw [List.take_length, ← HALL.out] at hj
      have HSO := Lib.hid hso
      clear hso
      go_wp2
      go_end0
      exact ⟨rfl, hj, HS0.out.trans HSO.out⟩
end Go.Proofs.YtolfkhflbjnakaaGreatDoor

/- (Parted off.) What stands and Weight answer. -/
namespace Go.Proofs.YtolfkhflbjnakaaGreatDoor
open Go Go.RowKit
set_option linter.unusedVariables false


theorem placesS_length (s : List (Tm × Int)) (t : Tm) : (placesS s t).length ≤ s.length := by
  unfold placesS
  rw [List.length_map]
  exact List.length_filter_le _ _
/-- A map with the groups of what was told, kept in a variable at block Bm. -/
def GrVar (base B Bm : Nat) (s : List (Tm × Int)) (w : World) : Prop := GrAt base w B (groupsT s) ∧ w.heap[Bm]? = some (.cells #[.map (some B)] 156 (0, 0))
theorem grVar_tells (base B Bm : Nat) : TellsOf base 159 Bm (GrVar base B Bm) := by
  refine ⟨enters_of Tryz.func159 (by kernel_rfl) rfl, fun s W W' h hb => ⟨h.1.below hb, (hb.block _ (Array.getElem?_eq_some_iff.1 h.2).1).trans h.2⟩, fun s x y a W h hbase hs => ?_⟩
  refine (stands_tell base B Bm (groupsT s) x y a W h.1 (by simp [World.cell?, h.2]) hbase (by rw [getG_groups]; have := placesS_length s (x.data.toList, y.data.toList); omega)).mono ?_
  rintro e w' ⟨rfl, h1, h2⟩
  exact ⟨rfl, ⟨by rw [groupsT_snoc]; exact h1, h2.keep _ _ _ _ h.2 (by decide)⟩, h2⟩

/-- What is got: a map with the groups of all that is told of a document. -/
def GotM (l : List Fd) (w : World) (e : Ending) (w' : World) : Prop := ∃ B, e = .returned (.map (some B)) ∧ GrAt w.heap.size w' B (groupsT (tellD l)) ∧ Below w.heap.size w w'

set_option maxHeartbeats 2000000 in
set_option maxRecDepth 100000 in
theorem doc_stands (id : Int) (A : Option Addr) (n c : Nat) (l : List Fd) (w : World) (hl : l.length = n) (hr : FRow w w.heap.size A l) (hn : n ≤ 100) (ht : ∀ f ∈ l, f.2.length ≤ 268435456) (hw : ∀ f ∈ l, (words f.2).length ≤ 1048576) :
    Calls Tryz.prog 137 #[docV id A n c] w (GotM l w) := by
  have hmm := @run_makeMap Tryz.prog
  obtain ⟨w3, hw3⟩ : ∃ w3, w3 = ((boxD w id A n c).alloc (.map #[] 0)).alloc (.cells #[.map (some (w.heap.size + 1))] 156) := ⟨_, rfl⟩
  have hb0 := boxD_below w id A n c
  have hsz := boxD_size w id A n c
  have hm0 : GrAt (boxD w id A n c).heap.size ((boxD w id A n c).alloc (.map #[] 0)) (boxD w id A n c).heap.size [] := GrAt.made _
  have hb3 : Below w.heap.size w w3 := by rw [hw3]; exact (hb0.alloc (by omega) _).alloc (by simp; omega) _
  have hj3 : GrVar w.heap.size (w.heap.size + 1) (w.heap.size + 2) [] w3 := by
    have h1 : GrAt (boxD w id A n c).heap.size w3 (boxD w id A n c).heap.size [] := hm0.below (by rw [hw3]; exact (Below.refl _ _).alloc (Nat.le_refl _) _)
    obtain ⟨m, g1, g2, g3, g4, g5⟩ := h1
    rw [hsz] at g1
    refine ⟨⟨m, g1, by omega, g3, ?_, g5⟩, ?_⟩
    · intro i e p he hp
      cases hp
    · rw [hw3]
      have := heap_alloc_new ((boxD w id A n c).alloc (.map #[] 0)) (.cells #[.map (some (w.heap.size + 1))] 156)
      rw [World.size_alloc, hsz] at this
      exact this
  have hc3 : w3.cell? ⟨w.heap.size, 0, none⟩ = some (.int .i64 id) ∧ w3.cell? ⟨w.heap.size, 1, none⟩ = some (.slice A n c) := boxD_cells (by rw [hw3]; exact ((Below.refl _ _).alloc (Nat.le_refl _) _).alloc (by simp) _)
  have hE := doc_each w.heap.size 159 (w.heap.size + 2) (GrVar w.heap.size (w.heap.size + 1) (w.heap.size + 2)) id A n c l w3 hl (hr.below hb3) hb3.size hn ht hw (grVar_tells _ _ _) hj3
  have HE := Lib.hid hE
  have HB3 := Lib.hid hb3
  have HW3 := Lib.hid hw3
  obtain ⟨hc30, hc31⟩ := hc3
  clear hE hb3 hw3 hj3 hr ht hw hm0 hb0
  go_enter Tryz.func137, Tryz.ntmps137
  go_wp2_with (go_at_call 158
               rw [show ((w.alloc _).alloc _).alloc _ = w3 from HW3.out.symm]
               refine HE.out.mono ?_
               rintro e w4 ⟨rfl, hj4, hso4⟩
               have hcv : w4.cell? ⟨w.heap.size + 1 + 1, 0, none⟩ = some (.map (some (w.heap.size + 1))) := by have := hj4.2; simp [World.cell?, this])
  go_ret
  exact ⟨_, rfl, hj4.1, HB3.out.trans hso4.below⟩

/-- A counter at block Bm: how much was told. -/
def NumVar (Bm : Nat) (s : List (Tm × Int)) (w : World) : Prop := w.heap[Bm]? = some (.cells #[.int .i64 (s.length : Int)] 3 (0, 0))
end Go.Proofs.YtolfkhflbjnakaaGreatDoor

/- A document and a term in blocks of their own. -/
namespace Go.Proofs.YtolfkhflbjnakaaGreatDoor
open Go Go.RowKit
set_option linter.unusedVariables false

/-- A document in a block of its own, a term in the next one. -/
def boxDT (w : World) (id : Int) (A : Option Addr) (n c : Nat) (f x : ByteArray) : World := (boxD w id A n c).alloc (.cells #[.string f, .string x] 23)
theorem boxDT_size (w : World) (id : Int) (A : Option Addr) (n c : Nat) (f x : ByteArray) : (boxDT w id A n c f x).heap.size = w.heap.size + 2 := by simp [boxDT, boxD]
theorem boxDT_of {w wr : World} {id : Int} {A : Option Addr} {n c : Nat} {f x : ByteArray} (h : Below (boxDT w id A n c f x).heap.size (boxDT w id A n c f x) wr) :
    Below w.heap.size w wr ∧ wr.cell? ⟨w.heap.size, 0, none⟩ = some (.int .i64 id) ∧ wr.cell? ⟨w.heap.size, 1, none⟩ = some (.slice A n c) ∧ wr.cell? ⟨w.heap.size + 1, 0, none⟩ = some (.string f) ∧ wr.cell? ⟨w.heap.size + 1, 1, none⟩ = some (.string x) := by
  have hs := boxDT_size w id A n c f x
  have h0 : Below (boxD w id A n c).heap.size (boxD w id A n c) (boxDT w id A n c f x) := (Below.refl _ _).alloc (Nat.le_refl _) _
  have h1 : Below (boxD w id A n c).heap.size (boxD w id A n c) wr := h0.trans (h.mono (by rw [hs, boxD_size]; omega))
  have hb : wr.heap[w.heap.size + 1]? = some (.cells #[.string f, .string x] 23 (0, 0)) := (h.block (w.heap.size + 1) (by omega)).trans (by have := heap_alloc_new (boxD w id A n c) (.cells #[.string f, .string x] 23); rwa [boxD_size] at this)
  obtain ⟨c0, c1⟩ := boxD_cells h1
  exact ⟨boxD_out h1, c0, c1, by simp [World.cell?, hb], by simp [World.cell?, hb]⟩

theorem boxDT_below (w : World) (id : Int) (A : Option Addr) (n c : Nat) (f x : ByteArray) : Below w.heap.size w (boxDT w id A n c f x) := (boxD_below w id A n c).alloc (by simp [boxD]) _
end Go.Proofs.YtolfkhflbjnakaaGreatDoor
