/- A map whose keys are terms: what is found in it, what is put into it, how it is gone through. -/
import Derived.Test.YthpecegifilgoaaQ07
import Derived.Maps.RangeRun
import Derived.MapKept
set_option linter.unusedVariables false
namespace Go.Proofs.Ythpecegifilgoaa
open Go Go.RowKit
open Go.ChangeMaps (setBlock)

/-- A term as a value. -/
def tV (t : Tm) : Value := .agg #[.string ⟨t.1.toArray⟩, .string ⟨t.2.toArray⟩]
theorem str_eq (a b : Nm) : ((⟨a.toArray⟩ : ByteArray) == ⟨b.toArray⟩) = decide (a = b) := by
  have h : ((⟨a.toArray⟩ : ByteArray) == ⟨b.toArray⟩) = (a.toArray == b.toArray) := rfl
  rw [h, Bool.eq_iff_iff]
  simp
theorem tV_inj {s t : Tm} (h : tV s = tV t) : s = t := by
  simp only [tV, Value.agg.injEq, Array.mk.injEq, List.cons.injEq, Value.string.injEq, ByteArray.mk.injEq, and_true] at h
  exact Prod.ext (by simpa using h.1) (by simpa using h.2)

theorem run_equal_tm (s t : Tm) (w : World) : (Op.equal 43 (tV s) (tV t)).run Try.prog w = .ok (decide (s = t)) w := by
  have h : ∀ d : Nat, (Op.equalIn (d + 2) 43 (tV s) (tV t)).run Try.prog w = .ok (decide (s = t)) w := fun d => by
    simp only [Op.equalIn, tV, part]
    simp [run_underlying Try.underlying43, run_underlying Try.underlying9, Try.sizeOf9, Try.isAgg9, str_eq]
    obtain ⟨s1, s2⟩ := s
    obtain ⟨t1, t2⟩ := t
    by_cases h1 : s1 = t1 <;> by_cases h2 : s2 = t2 <;> simp [h1, h2]
  exact h 9998
theorem run_check_tm (em : Bool) (t : Tm) (w : World) : (Instr.checkKey em 10000 43 (tV t)).run Try.prog w = .ok () w := by
  have h : ∀ d : Nat, (Instr.checkKey em (d + 2) 43 (tV t)).run Try.prog w = .ok () w := fun d => by
    simp [Instr.checkKey, run_underlying Try.underlying43, run_underlying Try.underlying9, tV, part, Try.sizeOf9, Try.isAgg9]
  exact h 9998
theorem run_stays_tm (t : Tm) (w : World) : (Instr.keyThatStays (tV t) (tV t)).run Try.prog w = .ok (tV t) w := by
  have h : ∀ d : Nat, Instr.sameBits (d + 2) (tV t) (tV t) = true := fun d => by simp [Instr.sameBits, tV, str_eq]
  simp [Instr.keyThatStays, h 9998]

abbrev Ent := Tm × Value
def entsM : Nat → List Ent → List MapEntry
  | _, [] => []
  | i, e :: m => { key := tV e.1, val := e.2, born := i } :: entsM (i + 1) m
theorem entsM_length : ∀ (m : List Ent) (i : Nat), (entsM i m).length = m.length
  | [], _ => rfl
  | e :: m, i => by simp [entsM, entsM_length m (i + 1)]
theorem entsM_at : ∀ {m : List Ent} {i k : Nat} (hk : k < m.length), (entsM i m)[k]? = some { key := tV m[k].1, val := m[k].2, born := i + k }
  | [], _, _, h => by simp at h
  | e :: m, i, 0, _ => rfl
  | e :: m, i, k + 1, h => by
    have := entsM_at (m := m) (i := i + 1) (k := k) (by simpa using h)
    simp only [entsM, List.getElem?_cons_succ, List.getElem_cons_succ]
    rw [this, Nat.add_assoc, Nat.add_comm 1 k]
theorem entsM_append : ∀ (m : List Ent) (e : Ent) (i : Nat), entsM i (m ++ [e]) = entsM i m ++ [{ key := tV e.1, val := e.2, born := i + m.length }]
  | [], e, i => rfl
  | x :: m, e, i => by
    simp only [List.cons_append, entsM, entsM_append m e (i + 1), List.length_cons]
    rw [Nat.add_assoc, Nat.add_comm 1 m.length]
theorem entsM_set : ∀ (m : List Ent) (e : Ent) (i k : Nat), entsM i (m.set k e) = (entsM i m).set k { key := tV e.1, val := e.2, born := i + k }
  | [], e, i, k => by simp [entsM]
  | x :: m, e, i, 0 => by simp [entsM]
  | x :: m, e, i, k + 1 => by
    simp only [List.set_cons_succ, entsM, entsM_set m e (i + 1) k]
    rw [Nat.add_assoc, Nat.add_comm 1 k]
/-- The map at block B has the entries m, in the order in which they came. -/
def MapAt (w : World) (B : Nat) (m : List Ent) : Prop := w.heap[B]? = some (.map (entsM 0 m).toArray m.length)
/-- Where a key stands first; behind all, if it doesn't. -/
def posM (m : List Ent) (t : Tm) : Nat := m.findIdx (fun e => decide (e.1 = t))
def valM (m : List Ent) (t : Tm) : Value := if h : posM m t < m.length then m[posM m t].2 else .slice none 0 0
def entM (m : List Ent) (t : Tm) : List Ent := if posM m t < m.length then m else m ++ [(t, .slice none 0 0)]
theorem posM_key {m : List Ent} {t : Tm} (h : posM m t < m.length) : m[posM m t].1 = t := by
  have := List.findIdx_getElem (p := fun e : Ent => decide (e.1 = t)) (xs := m) (w := h)
  exact of_decide_eq_true this
theorem posM_entM (m : List Ent) (t : Tm) : posM m t < (entM m t).length ∧ (entM m t)[posM m t]? = some (t, valM m t) := by
  unfold entM valM
  split
  · rename_i h
    have e := posM_key h
    refine ⟨h, ?_⟩
    rw [List.getElem?_eq_getElem h]
    exact congrArg some (Prod.ext e rfl)
  · rename_i h
    have hle : posM m t ≤ m.length := List.findIdx_le_length
    have : posM m t = m.length := by omega
    rw [this]
    simp

theorem run_asking : ∀ (m : List Ent) (t : Tm) (w : World) (k i : Nat), (Instr.findAsking 43 (tV t) (entsM k m) i).run Try.prog w = .ok (if h : posM m t < m.length then some (i + posM m t, m[posM m t].2) else none) w
  | [], t, w, k, i => by simp [entsM, Instr.findAsking, posM]
  | e :: m, t, w, k, i => by
    have ih := run_asking m t w (k + 1) (i + 1)
    rw [entsM, Instr.findAsking]
    simp only [Sem.run_bind, run_equal_tm, Result.andThen]
    by_cases he : t = e.1
    · have hp : posM (e :: m) t = 0 := by unfold posM; rw [List.findIdx_cons]; simp [he]
      simp only [hp]
      simp [he]
    · have he' : ¬ e.1 = t := fun h => he h.symm
      have hp : posM (e :: m) t = posM m t + 1 := by unfold posM; rw [List.findIdx_cons]; simp [he']
      simp only [he, decide_false, Bool.false_eq_true, if_false, ih]
      rw [Result.ok.injEq]
      refine ⟨?_, rfl⟩
      by_cases h : posM m t < m.length
      · have h' : posM (e :: m) t < (e :: m).length := by rw [hp]; simpa using h
        rw [dif_pos h, dif_pos h']
        simp only [hp, List.getElem_cons_succ]
        rw [Nat.add_assoc, Nat.add_comm 1]
      · have h' : ¬ posM (e :: m) t < (e :: m).length := by rw [hp]; simpa using h
        rw [dif_neg h, dif_neg h']
theorem run_find_tm (m : List Ent) (t : Tm) (w : World) (k : Nat) : (Instr.findKey 43 (tV t) (entsM k m)).run Try.prog w = .ok (if h : posM m t < m.length then some (posM m t, m[posM m t].2) else none) w := by
  have h1 := run_asking m t w k 0
  rw [Nat.zero_add] at h1
  cases m with
  | nil => simp [Instr.findKey, run_underlying Try.underlying43, entsM, Instr.findNow, posM]
  | cons e m =>
    rw [← h1]
    simp [Instr.findKey, run_underlying Try.underlying43, entsM, Instr.findNow, Instr.sameNow]

theorem run_lookup_tm {w : World} {B : Nat} {m : List Ent} (h : MapAt w B m) (t : Tm) : (Instr.lookup 66 (.map (some B)) (tV t) false).run Try.prog w = .ok (valM m t) w := by
  unfold MapAt at h
  have hf := run_find_tm m t w 0
  unfold valM
  by_cases hp : posM m t < m.length
  · rw [dif_pos hp] at hf ⊢
    simp [Instr.lookup, run_underlying Try.underlying66, MapKept.run_getObj_map h, run_check_tm, hf, Result.andThen]
  · rw [dif_neg hp] at hf ⊢
    simp [Instr.lookup, run_underlying Try.underlying66, MapKept.run_getObj_map h, run_check_tm, hf, Result.andThen, Try.zeroValue45]

/-- 'm[k] = f(m[k])' begins: the entry is there, or is laid; what it holds comes with its number. -/
theorem run_entry_tm {w : World} {B : Nat} {m : List Ent} (h : MapAt w B m) (t : Tm) : ∃ w', (Instr.mapEntry 66 (.map (some B)) (tV t)).run Try.prog w = .ok (.tuple #[valM m t, .int .i64 (posM m t : Int)]) w' ∧ MapAt w' B (entM m t) ∧ w.grownBy w' (some B) := by
  unfold MapAt at h
  have hf := run_find_tm m t w 0
  unfold valM entM
  by_cases hp : posM m t < m.length
  · rw [dif_pos hp] at hf ⊢
    rw [if_pos hp]
    have hk := posM_key hp
    have he := entsM_at (i := 0) hp
    rw [hk, Nat.zero_add] at he
    have hmod : (entsM 0 m).modify (posM m t) (fun e => { e with key := tV t }) = entsM 0 m := by
      apply List.ext_getElem?
      intro j
      rw [List.getElem?_modify]
      by_cases hj : posM m t = j
      · subst hj; simp [he]
      · simp [hj]
    refine ⟨setBlock w B (.map (entsM 0 m).toArray m.length), ?_, ChangeMaps.heap_setBlock_same h _, ?_⟩
    · simp [Instr.mapEntry, run_underlying Try.underlying66, MapKept.run_getObj_map h, run_check_tm, hf, Result.andThen, he, run_stays_tm, MapKept.run_setObj_map _ h, hmod, goInt, setBlock]
    · exact ⟨rfl, rfl, rfl, by simp [setBlock], fun k _ hk => ChangeMaps.heap_setBlock_other h _ (fun e => hk (by rw [e]))⟩
  · rw [dif_neg hp] at hf ⊢
    rw [if_neg hp]
    have hle : posM m t ≤ m.length := List.findIdx_le_length
    have hpe : posM m t = m.length := by omega
    have hpush : (entsM 0 m).toArray.push { key := tV t, val := .slice none 0 0, born := m.length } = (entsM 0 (m ++ [(t, .slice none 0 0)])).toArray := by
      rw [entsM_append, Nat.zero_add, List.push_toArray]
    refine ⟨setBlock w B (.map (entsM 0 (m ++ [(t, Value.slice none 0 0)])).toArray (m ++ [(t, Value.slice none 0 0)]).length), ?_, ChangeMaps.heap_setBlock_same h _, ?_⟩
    · rw [hpe, ← hpush]
      simp [Instr.mapEntry, run_underlying Try.underlying66, MapKept.run_getObj_map h, run_check_tm, hf, Result.andThen, MapKept.run_setObj_map _ h, goInt, setBlock, Try.zeroValue45]
    · exact ⟨rfl, rfl, rfl, by simp [setBlock], fun k _ hk => ChangeMaps.heap_setBlock_other h _ (fun e => hk (by rw [e]))⟩
theorem find_born : ∀ (m : List Ent) (i k : Nat), k < m.length → (entsM i m).findIdx? (fun e => ((e.born : Nat) : Int) == ((i + k : Nat) : Int)) = some k
  | [], i, k, h => by simp at h
  | e :: m, i, 0, _ => by rw [entsM, List.findIdx?_cons]; simp
  | e :: m, i, k + 1, h => by
    have ih := find_born m (i + 1) k (by simpa using h)
    rw [entsM, List.findIdx?_cons, if_neg (by simp; omega)]
    rw [show i + (k + 1) = i + 1 + k by omega, ih]
    rfl
theorem run_stored_tm {w : World} {B : Nat} {m : List Ent} (h : MapAt w B m) {k : Nat} (hk : k < m.length) (v : Value) : ∃ w', (Instr.entryStore 66 (.map (some B)) (.int .i64 (k : Int)) v).run Try.prog w = .ok () w' ∧ MapAt w' B (m.set k (m[k].1, v)) ∧ w.grownBy w' (some B) := by
  unfold MapAt at h
  have hb := find_born m 0 k hk
  rw [Nat.zero_add] at hb
  have he := entsM_at (i := 0) hk
  rw [Nat.zero_add] at he
  have hmod : (entsM 0 m).modify k (fun e => { e with val := v }) = entsM 0 (m.set k (m[k].1, v)) := by
    rw [entsM_set, Nat.zero_add]
    apply List.ext_getElem?
    intro j
    rw [List.getElem?_modify, List.getElem?_set]
    by_cases hj : k = j
    · subst hj
      have hkl : k < (entsM 0 m).length := by rw [entsM_length]; exact hk
      rw [he, if_pos rfl, if_pos hkl]
      simp
    · simp [hj]
  refine ⟨setBlock w B (.map (entsM 0 (m.set k (m[k].1, v))).toArray (m.set k (m[k].1, v)).length), ?_, ChangeMaps.heap_setBlock_same h _, ?_⟩
  · rw [← hmod]
    simp [Instr.entryStore, MapKept.run_getObj_map h, asInt, asIntOf, hb, MapKept.run_setObj_map _ h, Result.andThen, setBlock]
  · exact ⟨rfl, rfl, rfl, by simp [setBlock], fun k _ hk => ChangeMaps.heap_setBlock_other h _ (fun e => hk (by rw [e]))⟩

section
variable {ops : Array Oper} {rest : List Oper} {o : Oper} {a : Act} {Q : Exit → Act → World → Prop}
theorem wpList_lookup_tm (w : World) (hg : o.guard = none) (x y : Operand) (hop : o.op = Op.lookup 66 x y false) (B : Nat) (m : List Ent) (t : Tm) (hx : a.eval x = .map (some B)) (hat : MapAt w B m) (hy : a.eval y = tV t)
    (hK : wpList Try.prog ops Q rest (a.put o.dst (valM m t)) w) : wpList Try.prog ops Q (o :: rest) a w := by
  refine wpList_plain hg fun K' hK' => ?_
  unfold Oper.wp
  simp [execOp, hop, hx, hy, run_lookup_tm hat, Result.andThen]
  exact hK' _ _ hK
theorem wpList_entry_tm (w : World) (hg : o.guard = none) (x y : Operand) (hop : o.op = Op.mapEntry 66 x y) (B : Nat) (m : List Ent) (t : Tm) (hx : a.eval x = .map (some B)) (hat : MapAt w B m) (hy : a.eval y = tV t)
    (hK : ∀ w', MapAt w' B (entM m t) → w.grownBy w' (some B) → wpList Try.prog ops Q rest (a.put o.dst (.tuple #[valM m t, .int .i64 (posM m t : Int)])) w') : wpList Try.prog ops Q (o :: rest) a w := by
  refine wpList_plain hg fun K' hK' => ?_
  obtain ⟨w', hrun, r1, r2⟩ := run_entry_tm hat t
  unfold Oper.wp
  simp [execOp, hop, hx, hy, hrun, Result.andThen]
  exact hK' _ _ (hK w' r1 r2)
theorem wpList_stored_tm (w : World) (hg : o.guard = none) (x y z : Operand) (hop : o.op = Op.entryStore 66 x y z) (B : Nat) (m : List Ent) (k : Nat) (hk : k < m.length) (v : Value) (hx : a.eval x = .map (some B)) (hat : MapAt w B m) (hy : a.eval y = .int .i64 (k : Int)) (hz : a.eval z = v)
    (hK : ∀ w', MapAt w' B (m.set k (m[k].1, v)) → w.grownBy w' (some B) → wpList Try.prog ops Q rest (a.put o.dst undef) w') : wpList Try.prog ops Q (o :: rest) a w := by
  refine wpList_plain hg fun K' hK' => ?_
  obtain ⟨w', hrun, r1, r2⟩ := run_stored_tm hat hk v
  unfold Oper.wp
  simp [execOp, hop, hx, hy, hz, hrun, Result.andThen]
  exact hK' _ _ (hK w' r1 r2)
end
end Go.Proofs.Ythpecegifilgoaa
