/- Texts laid together: Range08, Keys08, KeysW08. -/
import Derived.RangeFuncNested
import Derived.RangeFuncBound
import Derived.RangeFuncCalls
import Derived.RangeFuncLeaves
import Derived.RangeFuncBox
import Derived.OwnWalkIn
import Derived.TacticsInMore
import Derived.LoopNIn
import Derived.LoopIn
import Derived.Maps.AppendAt
import Derived.Shelf.Abstract
import Derived.Shelf.RegionOpen
import Derived.Test.YthpecegifilgoaaBase
import Derived.Test.YthpecegifilgoaaMap08
import Derived.Sort.MapsRangeIn

/- A range over a function whose body always goes on, where what tells may turn memory of its own between two rounds (a map that is gone through). -/
set_option linter.unusedVariables false
namespace Go.Proofs.Ythpecegifilgoaa
open Go Go.RowKit

/-- A thing that stays while a block that is no cells, from B on, is turned. -/
def FirmM (B : Nat) (p : World → Prop) : Prop := ∀ W l (o o' : Obj), B ≤ l → W.heap[l]? = some o → o.isCells = false → p W → p (W.putObj l o')
/-- What is called g hands things on, each with Ok, and in the end S holds of all; what it turns itself is Mv; rounds keep Kp. -/
def Moved {α : Type} (n : Nat) (P : Program) (g : Nat) (lb : Array Value) (encs : α → Array Value) (Mv Kp : World → World → Prop) (Ok : List α → α → World → Prop) (S : List α → Prop) (w : World) : Prop :=
  ∀ (l : Nat) (J : List α → World → Prop) (W : World), Below w.heap.size w W → (∀ s A B, J s A → Mv A B → J s B) →
    (∀ pre x W1, J pre W1 → Ok pre x W1 → YieldAt Fence.wide (n - 1) P l (encs x) W1 fun e W' => e = .returned (.bool true) ∧ J (pre ++ [x]) W' ∧ Kp W1 W') →
    J [] W → CallsIn Fence.wide n P g (#[.func (.yield l) #[] #[]] ++ lb) W fun e W' => (∃ v, e = .returned v) ∧ ∃ xs, S xs ∧ J xs W'

variable {n : Nat} {P : Program}
theorem wpIn_range_moved {α : Type} {g : Operand} {ps : Array Tmp} {assign body : Code} {Q : Exit → Act → World → Prop} {a : Act} {w : World} (h1 : 1 ≤ n) {gf : Nat} {lb : Array Value} (hg : a.eval g = .func (.func gf) #[] lb)
    (eg : ∀ args w, (callFunc gf args).run P w = .ok (.enter gf args) w) {encs : α → Array Value} {Mv Kp : World → World → Prop} {Ok : List α → α → World → Prop} {S : List α → Prop} (hseq : Moved (n - 1) P gf lb encs Mv Kp Ok S w)
    (hMb : ∀ {B : World}, Below w.heap.size w B → Mv w B) (hMk : ∀ {A B : World} {k : Nat} {o : Obj}, w.heap.size ≤ k → Mv A B → A.heap[k]? = some o → (∃ x, o = .loop x) ∨ (∃ x, o = .deferred x) → B.heap[k]? = some o)
    (hKt : ∀ {A B C : World}, Kp A B → Kp B C → Kp A C) (hKp : ∀ (W : World) (l : Nat) (x : Loop) (o' : Obj), w.heap.size ≤ l → W.heap[l]? = some (.loop x) → Kp W (W.putObj l o')) (hps : ∀ x, (encs x).size = ps.size)
    (I : List α → World → Prop) (hIb : ∀ s A B, I s A → Mv A B → I s B) (hIp : ∀ s, FirmM w.heap.size (I s)) (hOk : ∀ s x, FirmM w.heap.size (Ok s x)) (h0 : I [] w) (Ax : α → Act → World → Prop) (hAx : ∀ x a', FirmM w.heap.size (Ax x a'))
    (hassign : ∀ (l : Nat) (pre : List α) (x : α) (W : World) (K : Act → World → Prop), I pre W → Ok pre x W → (∀ a' W', Ax x a' W' → I pre W' → Ok pre x W' → Below W.heap.size W W' → Kp W W' → K a' W') → assign.wpIn (Fence.wide.inRound l) (n - 1 - 1) P (Exit.then K (fun _ _ _ => False)) { tmps := (ps.zip (encs x)).foldl (fun t (p, v) => t.setIfInBounds p v) a.tmps, defers := [] } W)
    (hbody : ∀ (l : Nat) (pre : List α) (x : α) (a' : Act) (W : World), Ax x a' W → I pre W → Ok pre x W → body.wpIn (Fence.wide.inRound l) (n - 1 - 1) P (ownPostK Kp I (fun _ _ _ => False) (pre ++ [x]) W) a' W)
    (hdone : ∀ (D : Nat) (xs : List α) (W : World), w.heap.size ≤ D → S xs → I xs W → W.heap[D]? = some (.deferred (some [])) → Q .normal { a with defers := { target := .collected D, args := #[] } :: a.defers } W) :
    (Code.rangeFunc g ps assign body).wpIn Fence.wide n P Q a w := by
  refine wpIn_rangeFunc fun fn hfn => ?_
  have enter := run_enterLoop_outer (P := P) (w := w) fn a.tmps ps assign body
  obtain ⟨D, hD⟩ : ∃ D, D = w.heap.size := ⟨_, rfl⟩
  obtain ⟨st, hst⟩ : ∃ st : LoopState → Loop, st = fun s => { state := s, pending := none, fn := fn, tmps := a.tmps, params := ps, assign := assign, body := body, defers := w.heap.size } := ⟨_, rfl⟩
  obtain ⟨V, hV⟩ : ∃ V, V = (w.alloc (.deferred (some []))).alloc (.loop (st .ready)) := ⟨_, rfl⟩
  have enter' : (Instr.enterLoop fn a.tmps ps assign body Fence.wide.round).run P w = .ok (D + 1, [{ target := .collected D, args := #[] }]) V := by rw [hV, hst, hD]; exact enter
  have bel : Below w.heap.size w V := by rw [hV]; exact ((Below.refl _ w).alloc (Nat.le_refl _) _).alloc (by simp) _
  have hdV : V.heap[D]? = some (.deferred (some [])) := by rw [hV, hD]; exact (Below.heap_alloc _ _ _ (by simp)).trans (World.alloc_heap_new w _)
  have hlV : V.heap[D + 1]? = some (.loop (st .ready)) := by
    have := World.alloc_heap_new (w.alloc (.deferred (some []))) (.loop (st .ready))
    rwa [World.size_alloc, ← hV, ← hD] at this
  -- what a round meets: the caller's own invariant, the record ready, the block of deferred calls
  have stay : ∀ (s : List α) (A B : World), (I s A ∧ A.heap[D + 1]? = some (.loop (st .ready)) ∧ A.heap[D]? = some (.deferred (some []))) → Mv A B → (I s B ∧ B.heap[D + 1]? = some (.loop (st .ready)) ∧ B.heap[D]? = some (.deferred (some []))) := by
    rintro s A B ⟨i1, i2, i3⟩ hb
    exact ⟨hIb s A B i1 hb, hMk (by omega) hb i2 (.inl ⟨_, rfl⟩), hMk (by omega) hb i3 (.inr ⟨_, rfl⟩)⟩
  have round : ∀ (pre : List α) (x : α) (A : World), (I pre A ∧ A.heap[D + 1]? = some (.loop (st .ready)) ∧ A.heap[D]? = some (.deferred (some []))) → Ok pre x A →
      YieldAt Fence.wide (n - 1 - 1) P (D + 1) (encs x) A fun e B => e = .returned (.bool true) ∧ (I (pre ++ [x]) B ∧ B.heap[D + 1]? = some (.loop (st .ready)) ∧ B.heap[D]? = some (.deferred (some []))) ∧ Kp A B := by
    rintro pre x A ⟨i1, i2, i3⟩ hx
    have hl : D + 1 < A.heap.size := (Array.getElem?_eq_some_iff.1 i2).1
    have y := run_yield (P := P) (args := encs x) i2 (by rw [hst]; exact hps x)
    rw [hst] at y
    refine ⟨fn, _, assign, body, y, roundIn_of_wpIn hfn (hassign _ pre x A _ i1 hx fun a' A0 hax j1 jx hbl hk0 => ?_)⟩
    have hl0 : D + 1 < A0.heap.size := Nat.lt_of_lt_of_le hl hbl.size
    have i2' : A0.heap[D + 1]? = some (.loop (st .ready)) := (hbl.block _ hl).trans i2
    have i3' : A0.heap[D]? = some (.deferred (some [])) := (hbl.block _ (by omega)).trans i3
    have beg := run_beginRound (P := P) i2' (by rw [hst])
    refine ⟨_, beg, ?_⟩
    obtain ⟨A1, hA1⟩ : ∃ A1, A1 = A0.putObj (D + 1) (.loop { st .ready with state := .busy }) := ⟨_, rfl⟩
    rw [← hA1]
    have l1 : A1.heap[D + 1]? = some (.loop { st .ready with state := .busy }) := by rw [hA1]; exact World.putObj_heap_same hl0
    have d1 : A1.heap[D]? = some (.deferred (some [])) := by rw [hA1]; exact (World.putObj_heap_other (by omega)).trans i3'
    have k1 : Kp A A1 := hKt hk0 (by rw [hA1]; exact hKp A0 _ _ _ (by omega) i2')
    have b1 := hbody (D + 1) pre x a' A1 (by rw [hA1]; exact hAx x a' A0 _ _ _ (by omega) i2' rfl hax) (by rw [hA1]; exact hIp pre A0 _ _ _ (by omega) i2' rfl j1) (by rw [hA1]; exact hOk pre x A0 _ _ _ (by omega) i2' rfl jx)
    refine wpIn_mono b1 ?_
    rintro ex a2 A2 hp
    cases ex with
    | normal =>
      obtain ⟨ko, k2, i4⟩ := hp
      have l2 := ko.same _ _ l1 rfl
      have d2 := ko.same _ _ d1 rfl
      have fin := run_endRound (P := P) none l2
      have hl2 : D + 1 < A2.heap.size := (Array.getElem?_eq_some_iff.1 l2).1
      refine ⟨_, _, fin, rfl, ⟨hIp _ A2 _ _ _ (by omega) l2 rfl i4, ?_, (World.putObj_heap_other (by omega)).trans d2⟩, hKt (hKt k1 k2) (hKp A2 _ _ _ (by omega) l2)⟩
      rw [World.putObj_heap_same hl2, hst]
      rfl
    | ret => exact hp.2.elim
    | exit id => exact hp.2.elim
    | goto t => exact hp.2.elim
    | panic c => exact hp.elim
    | outgrown => exact hp.elim
  refine ⟨D + 1, _, V, { target := .fn (.func gf) lb, args := #[.func (.yield (D + 1)) #[] #[]] }, V, gf, #[.func (.yield (D + 1)) #[] #[]] ++ lb, V, enter', ?_, ?_, ?_, fun _ => h1, ?_⟩
  · simp only [resolve, hg]
    simp [go_sem]
  · intro f' _
    trivial
  · simp [invoke, go_sem, eg]
  · refine (hseq (D + 1) _ V bel stay round ⟨hIb [] w V h0 (hMb bel), hlV, hdV⟩).mono ?_
    rintro e A ⟨⟨v, rfl⟩, xs, hS, i1, i2, i3⟩
    have fin := run_endLoop (P := P) i2 (by rw [hst]; simp)
    rw [hst] at fin
    refine ⟨none, _, fin, hdone D xs _ (by omega) hS (hIp xs A _ _ _ (by omega) i2 rfl i1) ((World.putObj_heap_other (by omega)).trans i3)⟩
end Go.Proofs.Ythpecegifilgoaa

/- What maps.Keys hands on of a map whose keys are terms: each key once, in some order. -/
set_option linter.unusedVariables false
namespace Go.Proofs.Ythpecegifilgoaa
open Go Go.RowKit
open Go.ChangeMaps (setBlock)
attribute [local go_sem] Oper.semAt_some

def encT (x : Tm) : Array Value := #[tV x]
/-- The walk through the map at block B stands in block r; pre has come. -/
def ItAt (W : World) (r B : Nat) (m : List Ent) (pre : List Tm) : Prop := ∃ seen : List Nat, W.heap[r]? = some (.mapIter (some B) m.length seen.toArray m.length) ∧ seen.Nodup ∧ (∀ b ∈ seen, b < m.length) ∧ pre = seen.map fun b => (m.map (·.1)).getD b ([], [])
theorem entsM_mem {m : List Ent} {i : Nat} {e : MapEntry} (h : e ∈ entsM i m) : ∃ (k : Nat) (hk : k < m.length), e = { key := tV m[k].1, val := m[k].2, born := i + k } := by
  obtain ⟨k, hk, rfl⟩ := List.getElem_of_mem h
  rw [entsM_length] at hk
  refine ⟨k, hk, ?_⟩
  have := entsM_at (i := i) hk
  rw [List.getElem?_eq_getElem (by rw [entsM_length]; exact hk)] at this
  exact Option.some.inj this
theorem entsM_borns : ∀ (m : List Ent) (i : Nat), (entsM i m).map (·.born) = List.range' i m.length
  | [], i => rfl
  | e :: m, i => by rw [entsM, List.map_cons, entsM_borns m (i + 1), List.length_cons, List.range'_succ]
theorem nodup_lt : ∀ (n : Nat) (l : List Nat), l.Nodup → (∀ b ∈ l, b < n) → l.length ≤ n
  | 0, l, _, h => by
    cases l with
    | nil => exact Nat.le_refl _
    | cons x l => exact absurd (h x (List.mem_cons_self ..)) (by omega)
  | n + 1, l, hn, h => by
    have h1 := nodup_lt n (l.erase n) (hn.erase n) fun b hb => by
      obtain ⟨h2, h3⟩ := (hn.mem_erase_iff).1 hb
      have := h b h3
      omega
    by_cases hm : n ∈ l
    · rw [List.length_erase_of_mem hm] at h1
      omega
    · rw [List.erase_of_not_mem hm] at h1
      omega
theorem ItAt.done {W : World} {r B : Nat} {m : List Ent} {seen : List Nat} (hn : seen.Nodup) (hs : ∀ b ∈ seen, b < m.length) (h0 : (leftOf (entsM 0 m).toArray seen.toArray).size = 0) : (seen.map fun b => (m.map (·.1)).getD b ([], [])).Perm (m.map (·.1)) := by
  have hall := all_seen _ _ h0
  have hp : seen.Perm (List.range m.length) := by
    refine (List.perm_ext_iff_of_nodup hn List.nodup_range).2 fun b => ⟨fun hb => List.mem_range.2 (hs b hb), fun hb => ?_⟩
    have hb := List.mem_range.1 hb
    have he := entsM_at (i := 0) hb
    have := hall _ (List.mem_of_getElem? (by simpa using he))
    simpa using this
  have h1 := hp.map fun b => (m.map (·.1)).getD b (([], []) : Tm)
  refine h1.trans (List.Perm.of_eq ?_)
  apply List.ext_getElem
  · simp
  · intro i h2 h3
    have hi : i < m.length := by simpa using h3
    simp [List.getD_eq_getElem?_getD, hi]

/-- Nothing below base has turned; beyond it, walks through maps alone. -/
structure MvIt (base : Nat) (w w' : World) : Prop where
  below : Below base w w'
  keep : ∀ (k : Nat) (o : Obj), w.heap[k]? = some o → (∀ m s e c, o ≠ .mapIter m s e c) → w'.heap[k]? = some o
theorem MvIt.of {base : Nat} {w w' : World} (h : Below w.heap.size w w') (hb : base ≤ w.heap.size) : MvIt base w w' := ⟨h.mono hb, fun k o hk _ => (h.block k (Array.getElem?_eq_some_iff.1 hk).1).trans hk⟩
/-- What a round keeps: what lay below base, maps and walks through them. -/
structure KpIt (base : Nat) (w w' : World) : Prop where
  below : Below base w w'
  keep : ∀ (k : Nat) (o : Obj), w.heap[k]? = some o → ((∃ m s e c, o = .mapIter m s e c) ∨ ∃ es c, o = .map es c) → w'.heap[k]? = some o
theorem setBlock_moved {base : Nat} {w w1 : World} {r : Nat} {m : Option Nat} {s : Nat} {e : Array Nat} {c : Nat} (h1 : w1 = w ∨ w1 = w.drew) (hr : w.heap[r]? = some (.mapIter m s e c)) (hb : base ≤ r) (o : Obj) : MvIt base w (setBlock w1 r o) ∧ (setBlock w1 r o).heap[r]? = some o := by
  have hlt := (Array.getElem?_eq_some_iff.1 hr).1
  have hh : w1.heap = w.heap := by rcases h1 with rfl | rfl <;> rfl
  refine ⟨⟨⟨by rcases h1 with rfl | rfl <;> rfl, by rcases h1 with rfl | rfl <;> rfl, by rcases h1 with rfl | rfl <;> rfl, by simp [setBlock, hh], fun k hk => ?_⟩, fun k o' hk hno => ?_⟩, ?_⟩
  · show (w1.heap.setIfInBounds r o)[k]? = _
    rw [Array.getElem?_setIfInBounds_ne (by omega), hh]
  · show (w1.heap.setIfInBounds r o)[k]? = _
    have hne : r ≠ k := by rintro rfl; rw [hr] at hk; cases hk; exact hno _ _ _ _ rfl
    rw [Array.getElem?_setIfInBounds_ne hne, hh, hk]
  · show (w1.heap.setIfInBounds r o)[r]? = _
    rw [Array.getElem?_setIfInBounds_self_of_lt (by rw [hh]; exact hlt)]

section
variable {F : Fence} {n : Nat} (w : World) {ops : Array Oper} {rest : List Oper} {o : Oper} {a : Act} {Q : Exit → Act → World → Prop}
theorem wpListIn_range_tm (hg : o.guard = none) (x : Operand) (hop : o.op = Op.range 66 x) (B : Nat) (m : List Ent) (hx : a.eval x = .map (some B)) (hm : MapAt w B m)
    (hK : wpListIn F n Try.prog ops Q rest (a.put o.dst (.pointer (some ⟨w.heap.size, 0, none⟩))) (w.alloc (.mapIter (some B) m.length #[] m.length))) :
    wpListIn F n Try.prog ops Q (o :: rest) a w := by
  refine wpListIn_plain hg fun K' hK' => ?_
  have hrun := run_range_map (P := Try.prog) w 66 _ _ B _ _ Try.underlying66 hm
  unfold Oper.wpIn
  refine ⟨by simp [Oper.about, hop], ?_⟩
  rw [Oper.semAt_plain F _ _ (by rw [hop]; intro c hc'; cases hc')]
  simp [execOp, hop, hx, hrun, Result.andThen]
  exact hK' _ _ hK
theorem wpListIn_next_tm (hg : o.guard = none) (it : Operand) (hop : o.op = Op.next it false) (base r B : Nat) (m : List Ent) (pre : List Tm) (hit : a.eval it = .pointer (some ⟨r, 0, none⟩)) (hm : MapAt w B m) (hi : ItAt w r B m pre) (hb : base ≤ r)
    (hDone : pre.Perm (m.map (·.1)) → wpListIn F n Try.prog ops Q rest (a.put o.dst (.tuple #[.bool false])) w)
    (hMore : ∀ (t : Tm) (v : Value) (w' : World), pre.length < m.length → MvIt base w w' → ItAt w' r B m (pre ++ [t]) → (Instr.entry (.pointer (some ⟨r, 0, none⟩))).run Try.prog w' = .ok (.tuple #[tV t, v]) w' → wpListIn F n Try.prog ops Q rest (a.put o.dst (.tuple #[.bool true, tV t, v])) w') :
    wpListIn F n Try.prog ops Q (o :: rest) a w := by
  refine wpListIn_plain hg fun K' hK' => ?_
  unfold Oper.wpIn
  refine ⟨by simp [Oper.about, hop], ?_⟩
  rw [Oper.semAt_plain F _ _ (by rw [hop]; intro c hc'; cases hc')]
  obtain ⟨seen, hr, hn, hs, rfl⟩ := hi
  have hold : ∀ x ∈ (entsM 0 m).toArray.toList, x.born < m.length := fun x hx => by
    obtain ⟨k, hk, rfl⟩ := entsM_mem (by simpa using hx)
    simpa using hk
  rcases run_next_at (P := Try.prog) w o.type r B m.length m.length seen.toArray (entsM 0 m).toArray m.length hr hm hold (Nat.le_refl _) with ⟨h0, hrun⟩ | ⟨e, he, w1, hw1, hrun⟩
  · simp [execOp, hop, hit, hrun, Result.andThen]
    exact hK' _ _ (hDone (ItAt.done (W := w) (r := r) (B := B) hn hs h0))
  · obtain ⟨he1, he2⟩ := mem_left he
    obtain ⟨k, hk, hek⟩ := entsM_mem (m := m) (i := 0) (e := e) (by simpa using he1)
    have hbk : e.born = k := by rw [hek]; simp
    have hkk : e.key = tV m[k].1 := by rw [hek]
    rw [hbk] at he2 hrun
    have hks : k ∉ seen := by simpa using he2
    have hpush : seen.toArray.push k = (seen ++ [k]).toArray := by simp
    rw [hpush] at hrun
    obtain ⟨hmv, hr2⟩ := setBlock_moved (base := base) hw1 hr hb (.mapIter (some B) m.length (seen ++ [k]).toArray m.length)
    have hm2 : MapAt (setBlock w1 r (.mapIter (some B) m.length (seen ++ [k]).toArray m.length)) B m := hmv.keep _ _ hm (by simp)
    have hen := run_entry_at (P := Try.prog) _ r B m.length seen.toArray (entsM 0 m).toArray m.length e (by rw [hbk, hpush]; exact hr2) hm2 he1 (by simp [entsM_borns, List.nodup_range'])
    rw [hkk] at hen hrun
    simp [execOp, hop, hit, hrun, Result.andThen]
    have hlen : seen.length < m.length := by
      have h1 : (seen ++ [k]).Nodup := by rw [List.nodup_append]; exact ⟨hn, by simp, fun x hx y hy e => by rw [List.mem_singleton] at hy; subst hy; subst e; exact hks hx⟩
      have h2 : (seen ++ [k]).length ≤ m.length := by
        refine nodup_lt _ _ h1 fun b hb => ?_
        rcases List.mem_append.1 hb with hb | hb
        · exact hs b hb
        · rw [List.mem_singleton.1 hb]; exact hk
      rw [List.length_append, List.length_singleton] at h2
      omega
    refine hK' _ _ (hMore m[k].1 e.val _ (by simpa using hlen) hmv ⟨seen ++ [k], hr2, ?_, ?_, ?_⟩ hen)
    · rw [List.nodup_append]
      exact ⟨hn, by simp, fun x hx y hy e => by rw [List.mem_singleton] at hy; subst hy; subst e; exact hks hx⟩
    · intro b hb
      rcases List.mem_append.1 hb with hb | hb
      · exact hs b hb
      · rw [List.mem_singleton.1 hb]; exact hk
    · rw [List.map_append]
      congr 1
      simp [List.getD_eq_getElem?_getD, hk]
end
end Go.Proofs.Ythpecegifilgoaa

/- What maps.Keys answers, and its function: each key once, in some order. -/
set_option linter.unusedVariables false
namespace Go.Proofs.Ythpecegifilgoaa
open Go Go.RowKit
attribute [local go_sem] Oper.semAt_some

set_option maxHeartbeats 1000000 in
theorem maps_Keys (B : Nat) (w : World) :
    Calls Try.prog 39 #[.map (some B)] w fun e w' => e = .returned (.func (.func 54) #[] #[.pointer (some ⟨w.heap.size, 0, none⟩)]) ∧ w' = w.alloc (.cells #[.map (some B)] 66) := by
  go_enter Try.func39, Try.ntmps39
  go_wp2
  go_ret
  exact ⟨rfl, rfl⟩

def KeysRel (base r B : Nat) (m : List Ent) (w0 : World) (J : List Tm → World → Prop) (wr : World) : Prop := ∃ pre : List Tm, ItAt wr r B m pre ∧ MapAt wr B m ∧ J pre wr ∧ w0.heap.size ≤ wr.heap.size
/-- How many keys are still to come. -/
def leftIt (r n : Nat) (W : World) : Nat := match W.heap[r]? with | some (.mapIter _ _ seen _) => n - seen.size | _ => 0
theorem leftIt_of {W : World} {r B : Nat} {m : List Ent} {pre : List Tm} (h : ItAt W r B m pre) : leftIt r m.length W = m.length - pre.length := by
  obtain ⟨seen, h1, _, _, rfl⟩ := h
  simp [leftIt, h1]

set_option maxHeartbeats 4000000 in
set_option maxRecDepth 100000 in
theorem keys_moved (q b Bx B : Nat) (m : List Ent) (w : World) (hq : 1 ≤ q) (hb : b ≤ w.heap.size) (hm : MapAt w B m) (hc : w.cell? ⟨Bx, 0, none⟩ = some (.map (some B))) :
    Moved q Try.prog 54 #[.pointer (some ⟨Bx, 0, none⟩)] encT (MvIt w.heap.size) (KpIt b) (fun pre _ _ => pre.length < m.length) (fun xs => xs.Perm (m.map (·.1))) w := by
  intro lp J W hW hJ hY h0
  have hmW : MapAt W B m := (hW.block B (Array.getElem?_eq_some_iff.1 hm).1).trans hm
  have hcW := (hW.cell (p := ⟨Bx, 0, none⟩) (World.block_lt_of_cell? w _ hc)).trans hc
  have HJ := Lib.hid hJ
  have HY := Lib.hid hY
  have hszW := hW.size
  obtain ⟨r, hr⟩ : ∃ r, r = W.heap.size := ⟨_, rfl⟩
  obtain ⟨w2, hw2⟩ : ∃ w2, w2 = W.alloc (.mapIter (some B) m.length #[] m.length) := ⟨_, rfl⟩
  have hb2 : Below W.heap.size W w2 := by rw [hw2]; exact (Below.refl _ _).alloc (Nat.le_refl _) _
  have hrel0 : KeysRel b r B m W J w2 := by
    refine ⟨[], ⟨[], by rw [hw2, hr]; exact heap_alloc_new _ _, by simp, by simp, rfl⟩, (hb2.block B (Array.getElem?_eq_some_iff.1 hmW).1).trans hmW, hJ _ _ _ h0 (MvIt.of hb2 hszW), hb2.size⟩
  have HREL := Lib.hid hrel0
  have HW2 := Lib.hid hw2
  have hrb : w.heap.size ≤ r := by omega
  have HR := Lib.hid hr
  clear hJ hY h0 hm hc hW hrel0 hw2 hb2 hr
  refine callsIn_of_wp Try.func54 rfl trivial ?_ rfl
  simp only [Try.ntmps54, List.size_toArray, List.length_cons, List.length_nil, Nat.reduceAdd, Nat.reduceSub, Array.replicate_succ, Array.replicate_zero, List.push_toArray, List.append_toArray, List.nil_append, List.cons_append]
  gi_wp2_with (first
    | (gi_at_range; refine wpListIn_range_tm _ rfl _ rfl B m rfl hmW ?_; rw [← HW2.out, ← HR.out])
    | gi_in)
  gi_loopw [3] (fun _ wr => KeysRel b r B m W J wr) (fun _ wr => leftIt r m.length wr)
  case atStart => exact HREL.out
  case round =>
    obtain ⟨pre, hit, hmr, hj, hsz⟩ := hrel
    gi_wp2_with (first
      | (gi_at_next; refine wpListIn_next_tm _ rfl _ rfl w.heap.size r B m pre rfl hmr hit hrb ?_ ?_)
      | gi_in)
    · intro hp
      gi_wp2
      go_end0
      exact ⟨⟨_, rfl⟩, pre, hp, hj⟩
    · intro t1 t2 v w3 hlen hmv hit3 hen
      obtain ⟨t, ht⟩ : ∃ t : Tm, t = (t1, t2) := ⟨_, rfl⟩
      rw [← ht] at hit3 hen ⊢
      have hj3 := HJ.out _ _ _ hj hmv
      have hm3 : MapAt w3 B m := hmv.keep _ _ hmr (by simp)
      have hl := leftIt_of hit
      have hsz3 := hmv.below.size
      obtain ⟨X, hX⟩ : ∃ X : ByteArray, X = ⟨t.1.toArray⟩ := ⟨_, rfl⟩
      obtain ⟨Y, hY⟩ : ∃ Y : ByteArray, Y = ⟨t.2.toArray⟩ := ⟨_, rfl⟩
      have htV : tV t = .agg #[.string X, .string Y] := by rw [hX, hY]; rfl
      rw [htV] at hen ⊢
      obtain ⟨w4, hw4⟩ : ∃ w4, w4 = w3.alloc (.cells #[.string X, .string Y] 43) := ⟨_, rfl⟩
      have hb4 : Below w3.heap.size w3 w4 := by rw [hw4]; exact (Below.refl _ _).alloc (Nat.le_refl _) _
      have hyy := HY.out pre t w4 (HJ.out _ _ _ hj3 (MvIt.of hb4 (by omega))) hlen
      rw [show encT t = #[.agg #[.string X, .string Y]] by unfold encT; rw [htV]] at hyy
      obtain ⟨fn, tmps, assign, body, hy, hRR⟩ := hyy
      have hm4 : MapAt w4 B m := (hb4.block B (Array.getElem?_eq_some_iff.1 hm3).1).trans hm3
      have hit4 : ItAt w4 r B m (pre ++ [t]) := by
        obtain ⟨seen, g1, g2, g3, g4⟩ := hit3
        exact ⟨seen, (hb4.block r (Array.getElem?_eq_some_iff.1 g1).1).trans g1, g2, g3, g4⟩
      have hs4 := hb4.size
      rw [hw4] at hy
      have HW4 := Lib.hid hw4
      have HIT4 := Lib.hid hit4
      have HM4 := Lib.hid hm4
      have HL := Lib.hid hl
      clear hX hY htV hw4 hb4 hit4 hm4 hit hit3 hmr hm3 hmv hj hj3 hl
      gi_wp2
      rw [HW4.out] at hRR
      refine hRR.mono ?_
      rintro e W4 ⟨rfl, hJ4, hk4⟩
      have hrel : KeysRel b r B m W J W4 := by
        have hk5 : KpIt b w4 W4 := by rw [HW4.out]; exact hk4
        obtain ⟨seen, g1, g2, g3, g4⟩ := HIT4.out
        exact ⟨pre ++ [t], ⟨seen, hk5.keep _ _ g1 (.inl ⟨_, _, _, _, rfl⟩), g2, g3, g4⟩, hk5.keep _ _ HM4.out (.inr ⟨_, _, rfl⟩), hJ4, by have := hk5.below.size; omega⟩
      have hlt : leftIt r m.length W4 < leftIt r m.length wr := by
        have hk5 : KpIt b w4 W4 := by rw [HW4.out]; exact hk4
        obtain ⟨seen, g1, g2, g3, g4⟩ := HIT4.out
        have : ItAt W4 r B m (pre ++ [t]) := ⟨seen, hk5.keep _ _ g1 (.inl ⟨_, _, _, _, rfl⟩), g2, g3, g4⟩
        rw [HL.out, leftIt_of this, List.length_append, List.length_singleton]
        omega
      have HRL := Lib.hid hrel
      have HLT := Lib.hid hlt
      clear hrel hlt hJ4 hk4 hy hRR
      gi_wp2
      go_roundw
      case rel => exact HRL.out
      case measure => exact HLT.out
end Go.Proofs.Ythpecegifilgoaa
