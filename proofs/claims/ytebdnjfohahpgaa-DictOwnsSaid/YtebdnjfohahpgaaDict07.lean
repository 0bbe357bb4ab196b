/- A dictionary in memory: its names and things in a row of its own; what Len and At answer. -/
import Derived.Test.YtebdnjfohahpgaaRise07
import Derived.Test.YtebdnjfohahpgaaVars
set_option linter.unusedVariables false
namespace Go.Proofs.Ytebdnjfohahpgaa
open Go Go.RowKit

/-- The cells of names and things. -/
def entC : List Nm → List Int → List Value
  | x :: l, v :: vs => .string ⟨x.toArray⟩ :: .int .i64 v :: entC l vs
  | _, _ => []
theorem entC_nil (vs : List Int) : entC [] vs = [] := by cases vs <;> rfl
theorem entC_length : ∀ {l : List Nm} {vs : List Int}, vs.length = l.length → (entC l vs).length = l.length * 2
  | [], vs, _ => by rw [entC_nil]; rfl
  | x :: l, [], h => by simp at h
  | x :: l, v :: vs, h => by
    have := entC_length (l := l) (vs := vs) (by simpa using h)
    simp only [entC, List.length_cons, this]
    omega
theorem entC_at : ∀ {l : List Nm} {vs : List Int} {k : Nat} (hv : vs.length = l.length) (hk : k < l.length), (entC l vs)[k * 2]? = some (.string ⟨l[k].toArray⟩) ∧ (entC l vs)[k * 2 + 1]? = some (.int .i64 (vs.getD k 0))
  | [], _, _, _, h => by simp at h
  | x :: l, [], _, h, _ => by simp at h
  | x :: l, v :: vs, 0, _, _ => ⟨rfl, rfl⟩
  | x :: l, v :: vs, k + 1, h, hk => by
    have := entC_at (l := l) (vs := vs) (k := k) (by simpa using h) (by simpa using hk)
    rw [show (k + 1) * 2 = k * 2 + 1 + 1 by omega]
    simpa [entC] using this
theorem entC_snoc : ∀ {l : List Nm} {vs : List Int} {x : Nm} {v : Int}, vs.length = l.length → entC (l ++ [x]) (vs ++ [v]) = entC l vs ++ [.string ⟨x.toArray⟩, .int .i64 v]
  | [], [], x, v, _ => rfl
  | [], _ :: _, _, _, h => by simp at h
  | _ :: _, [], _, _, h => by simp at h
  | y :: l, u :: vs, x, v, h => by
    have := entC_snoc (l := l) (vs := vs) (x := x) (v := v) (by simpa using h)
    simp only [List.cons_append, entC, this]
theorem entC_drop : ∀ {l : List Nm} {vs : List Int} (k : Nat), vs.length = l.length → (entC l vs).drop (k * 2) = entC (l.drop k) (vs.drop k)
  | l, vs, 0, _ => by simp
  | [], vs, k + 1, _ => by simp [entC_nil]
  | x :: l, [], k + 1, h => by simp at h
  | x :: l, v :: vs, k + 1, h => by
    rw [show (k + 1) * 2 = k * 2 + 1 + 1 by omega, List.drop_succ_cons, List.drop_succ_cons, entC, List.drop_succ_cons, List.drop_succ_cons]
    exact entC_drop k (by simpa using h)
theorem info_entry : (Try.prog.info? 59).map (fun i => (i.zero, i.size, i.bytes)) = some (some (.agg #[.string ByteArray.empty, .int .i64 0]), 2, 24) := by kernel_rfl

/-- The dictionary at block B has the names l, and at them the things vs; what it is lies from block base on. -/
def DictAt (w : World) (base B : Nat) (l : List Nm) (vs : List Int) : Prop :=
  base ≤ B ∧ vs.length = l.length ∧ ∃ v, w.heap[B]? = some (.cells #[v] 57 (0, 0)) ∧ w.ownsRow base 59 2 v l.length (entC l vs)
theorem DictAt.lt {w : World} {base B : Nat} {l : List Nm} {vs : List Int} (h : DictAt w base B l vs) : B < w.heap.size := by obtain ⟨_, _, v, h, _⟩ := h; exact lt_of_block h
theorem DictAt.below {w w' : World} {base B : Nat} {l : List Nm} {vs : List Int} (h : DictAt w base B l vs) (hb : Below w.heap.size w w') : DictAt w' base B l vs := by
  have hl := h.lt
  obtain ⟨h1, h2, v, h3, h4⟩ := h
  exact ⟨h1, h2, v, (hb.block B hl).trans h3, owned_below h4 hb⟩
theorem DictAt.low {w : World} {base b B : Nat} {l : List Nm} {vs : List Int} (h : DictAt w base B l vs) (hb : b ≤ base) : DictAt w b B l vs := by
  obtain ⟨h1, h2, v, h3, h4⟩ := h
  exact ⟨by omega, h2, v, h3, owned_low h4 hb⟩
/-- It stays where nothing of its two kinds turns. -/
theorem DictAt.kinds {w w' : World} {base B : Nat} {l : List Nm} {vs : List Int} (h : DictAt w base B l vs) (hk : ∀ (k : Nat) (cs : Array Value) (t : TypeId) (fr : Nat × Nat), w.heap[k]? = some (.cells cs t fr) → t = 57 ∨ t = 59 → w'.heap[k]? = some (.cells cs t fr)) : DictAt w' base B l vs := by
  obtain ⟨h1, h2, v, h3, h4⟩ := h
  refine ⟨h1, h2, v, hk _ _ _ _ h3 (.inl rfl), owned_keep h4 fun g hg => ?_⟩
  rcases h4.2 with ⟨rfl, _⟩ | ⟨g', cap, cur, rfl, _, hh, _⟩
  · cases hg
  · simp only [Value.ownBlock, Option.some.injEq] at hg
    subst hg
    rw [hk _ _ _ _ hh (.inr rfl), hh]
/-- What is read of it. -/
theorem DictAt.read {w : World} {base B : Nat} {l : List Nm} {vs : List Int} (h : DictAt w base B l vs) :
    ∃ A c, w.cell? ⟨B, 0, none⟩ = some (.slice A l.length c) ∧ l.length ≤ c ∧ c ≤ maxLen ∧ Row w w.heap.size A (entC l vs) ∧ (A = none ∧ l = [] ∧ c = 0 ∨ ∃ g, A = some ⟨g, 0, none⟩) := by
  obtain ⟨h1, h2, v, h3, h4⟩ := h
  have hc := cell_of_one h3
  obtain ⟨A, c, rfl, hn, hr⟩ := owned_row h4
  refine ⟨A, c, hc, hn, ?_, hr, ?_⟩
  · rcases h4.2 with ⟨h0, _⟩ | ⟨g, cap, cur, hv, _, _, _, h5, _⟩
    · injection h0 with _ _ h0; omega
    · injection hv with _ _ hv; omega
  · rcases h4.2 with ⟨h0, h5⟩ | ⟨g, cap, cur, hv, _⟩
    · injection h0 with a1 _ a3
      exact .inl ⟨a1, List.eq_nil_of_length_eq_zero h5, a3⟩
    · injection hv with a1
      exact .inr ⟨g, a1⟩
/-- The name and the thing at a place. -/
theorem DictAt.ent {w : World} {base B : Nat} {l : List Nm} {vs : List Int} (h : DictAt w base B l vs) {k : Nat} (hk : k < l.length) :
    ∃ b off c, w.cell? ⟨B, 0, none⟩ = some (.slice (some ⟨b, off, none⟩) l.length c) ∧ l.length ≤ c ∧ c ≤ maxLen ∧ b < w.heap.size ∧ w.cell? ⟨b, off + k * 2, none⟩ = some (.string ⟨l[k].toArray⟩) ∧ w.cell? ⟨b, off + k * 2 + 1, none⟩ = some (.int .i64 (vs.getD k 0)) := by
  have hv := h.2.1
  obtain ⟨A, c, h1, h2, h3, h4, _⟩ := h.read
  obtain ⟨b, off, rfl, hb, hc⟩ := h4.at_ (by rw [entC_length hv]; omega)
  obtain ⟨g1, g2⟩ := entC_at hv hk
  exact ⟨b, off, c, h1, h2, h3, hb, hc _ _ g1, by have := hc _ _ g2; rwa [← Nat.add_assoc] at this⟩

set_option maxHeartbeats 1000000 in
theorem dict_Len (base B : Nat) (l : List Nm) (vs : List Int) (w : World) (h : DictAt w base B l vs) :
    Calls Try.prog 15 #[.pointer (some ⟨B, 0, none⟩)] w fun e w' => e = .returned (.int .i64 (l.length : Int)) ∧ w = w' := by
  obtain ⟨A, c, hc, _, _, _, _⟩ := h.read
  go_enter Try.func15, Try.ntmps15
  go_wp2
  go_ret
  exact ⟨rfl, rfl⟩

set_option maxHeartbeats 2000000 in
set_option maxRecDepth 100000 in
theorem dict_At_in (base B k : Nat) (l : List Nm) (vs : List Int) (w : World) (h : DictAt w base B l vs) (hk : k < l.length) (hl : l.length ≤ 1073741824) :
    Calls Try.prog 14 #[.pointer (some ⟨B, 0, none⟩), .int .i64 (k : Int)] w fun e w' => e = .returned (.tuple #[.string ⟨l[k].toArray⟩, .int .i64 (vs.getD k 0)]) ∧ Below w.heap.size w w' := by
  have C1 := Lib.hid (dict_Len base B l vs w h)
  obtain ⟨b, off, c, h1, h2, h3, h4, h5, h6⟩ := h.ent hk
  obtain ⟨x, hx⟩ : ∃ x : ByteArray, x = ⟨l[k].toArray⟩ := ⟨_, rfl⟩
  obtain ⟨y, hy⟩ : ∃ y, y = vs.getD k 0 := ⟨_, rfl⟩
  rw [← hx] at h5 ⊢
  rw [← hy] at h6 ⊢
  obtain ⟨n, hn⟩ : ∃ n, n = l.length := ⟨_, rfl⟩
  rw [← hn] at C1 h1 h2 hl hk
  have k0 : decide ((k : Int) < 0) = false := decide_eq_false (by omega)
  have k1 : decide ((n : Int) ≤ (k : Int)) = false := decide_eq_false (by omega)
  have k1' : decide (n ≤ k) = false := decide_eq_false (by omega)
  have k2 : (0 : Int) ≤ (k : Int) := by omega
  have k3 : (k : Int) < (n : Int) := by omega
  clear hx hy hn h
  go_enter Try.func14, Try.ntmps14
  go_wp2_with (go_at_call 15; refine (C1.out).mono ?_; rintro e w' ⟨rfl, rfl⟩)
  go_quiet (fail)
  go_wp2
  go_ret2
  exact ⟨rfl, ⟨rfl, rfl, rfl, Nat.le_refl _, fun _ _ => rfl⟩⟩

set_option maxHeartbeats 2000000 in
set_option maxRecDepth 100000 in
theorem dict_At_out (base B : Nat) (i : Int) (l : List Nm) (vs : List Int) (w : World) (h : DictAt w base B l vs) (hi : i < 0 ∨ (l.length : Int) ≤ i) :
    Calls Try.prog 14 #[.pointer (some ⟨B, 0, none⟩), .int .i64 i] w fun e w' => e = .returned (.tuple #[.string ByteArray.empty, .int .i64 0]) ∧ w = w' := by
  have C1 := Lib.hid (dict_Len base B l vs w h)
  obtain ⟨n, hn⟩ : ∃ n, n = l.length := ⟨_, rfl⟩
  rw [← hn] at C1 hi
  clear hn h
  by_cases h0 : i < 0
  · have k0 : decide (i < 0) = true := decide_eq_true h0
    clear h0 hi
    go_enter Try.func14, Try.ntmps14
    go_wp2
    go_ret2
    exact ⟨rfl, rfl⟩
  · have k0 : decide (i < 0) = false := decide_eq_false h0
    have k1 : decide ((n : Int) ≤ i) = true := decide_eq_true (by omega)
    clear h0 hi
    go_enter Try.func14, Try.ntmps14
    go_wp2_with (go_at_call 15; refine (C1.out).mono ?_; rintro e w' ⟨rfl, rfl⟩)
    go_ret2
    exact ⟨rfl, rfl⟩
end Go.Proofs.Ytebdnjfohahpgaa
