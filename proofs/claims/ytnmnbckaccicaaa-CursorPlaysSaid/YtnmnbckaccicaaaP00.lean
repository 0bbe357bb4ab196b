/- Texts laid together: Base, Vars. -/
import Derived.WalkKit
import Derived.Below
import Derived.OwnWalk
import Derived.Lib.OthersKept
import Derived.Deep.AppendLies
import Derived.OneCell

/- Small facts on rows of cells that a slice leads to, and on what stays while other memory is made. No program. -/
set_option linter.unusedVariables false
namespace Go.Proofs.Ytnmnbckaccicaaa
open Go Go.RowKit

theorem ret_bool {a b : Bool} (h : a = b) : Ending.returned (.bool a) = .returned (.bool b) := by rw [h]
theorem ret_int {k : IntKind} {a b : Int} (h : a = b) : Ending.returned (.int k a) = .returned (.int k b) := by rw [h]
theorem ret_string {a b : List UInt8} (h : a = b) : Ending.returned (.string ⟨a.toArray⟩) = .returned (.string ⟨b.toArray⟩) := by rw [h]

/-- The cells xs lie one behind the other from address A on, below block B. -/
def Row (w : World) (B : Nat) (A : Option Addr) (xs : List Value) : Prop :=
  xs = [] ∨ ∃ b off, A = some ⟨b, off, none⟩ ∧ b < B ∧ ∀ j u, xs[j]? = some u → w.cell? ⟨b, off + j, none⟩ = some u

theorem Row.nil {w : World} {B : Nat} {A : Option Addr} : Row w B A [] := .inl rfl
theorem Row.at_ {w : World} {B : Nat} {A : Option Addr} {xs : List Value} (h : Row w B A xs) (hn : 0 < xs.length) :
    ∃ b off, A = some ⟨b, off, none⟩ ∧ b < B ∧ ∀ j u, xs[j]? = some u → w.cell? ⟨b, off + j, none⟩ = some u := by
  rcases h with rfl | h
  · simp at hn
  · exact h
theorem Row.keep {w w' : World} {B : Nat} {A : Option Addr} {xs : List Value} (h : Row w B A xs) (hk : ∀ p : Addr, p.block < B → w'.cell? p = w.cell? p) : Row w' B A xs := by
  rcases h with rfl | ⟨b, off, rfl, hb, hc⟩
  · exact .inl rfl
  · exact .inr ⟨b, off, rfl, hb, fun j u hu => (hk _ hb).trans (hc j u hu)⟩
theorem Row.below {w w' : World} {B : Nat} {A : Option Addr} {xs : List Value} (h : Row w B A xs) (hb : Below B w w') : Row w' B A xs := h.keep fun _ hp => hb.cell hp
theorem Row.more {w : World} {B B' : Nat} {A : Option Addr} {xs : List Value} (h : Row w B A xs) (hB : B ≤ B') : Row w B' A xs := by
  rcases h with rfl | ⟨b, off, rfl, hb, hc⟩
  · exact .inl rfl
  · exact .inr ⟨b, off, rfl, by omega, hc⟩
theorem Row.cut {w : World} {B : Nat} {A : Option Addr} {xs : List Value} (h : Row w B A xs) (k : Nat) : Row w B A (xs.take k) := by
  rcases h with rfl | ⟨b, off, rfl, hb, hc⟩
  · exact .inl (by simp)
  · refine .inr ⟨b, off, rfl, hb, fun j u hu => hc j u ?_⟩
    rw [List.getElem?_take] at hu
    split at hu
    · exact hu
    · cases hu

section
variable {w w' : World} {base : Nat} {e : TypeId} {size : Nat} {v : Value} {n : Nat} {xs : List Value}

theorem owned_row (h : w.ownsRow base e size v n xs) : ∃ A c, v = .slice A n c ∧ n ≤ c ∧ Row w w.heap.size A xs := by
  rcases h.2 with ⟨rfl, rfl⟩ | ⟨g, cap, cur, rfl, _, hg, hnc, _, _, _⟩
  · exact ⟨none, 0, rfl, Nat.le_refl _, .inl (List.eq_nil_of_length_eq_zero (by simpa using h.1))⟩
  · refine ⟨_, cap, rfl, hnc, .inr ⟨g, 0, rfl, (Array.getElem?_eq_some_iff.1 hg).1, fun j u hu => ?_⟩⟩
    have := h.cells (g := g) rfl j u hu
    simpa [Addr.add_lit] using this
theorem owned_below (h : w.ownsRow base e size v n xs) (hb : Below w.heap.size w w') : w'.ownsRow base e size v n xs := by
  refine ⟨h.1, ?_⟩
  rcases h.2 with hn | ⟨g, cap, cur, hv, hg, hh, r⟩
  · exact .inl hn
  · exact .inr ⟨g, cap, cur, hv, hg, by rw [hb.block g (Array.getElem?_eq_some_iff.1 hh).1]; exact hh, r⟩
theorem owned_low (h : w.ownsRow base e size v n xs) {b : Nat} (hb : b ≤ base) : w.ownsRow b e size v n xs := by
  refine ⟨h.1, ?_⟩
  rcases h.2 with hn | ⟨g, cap, cur, hv, hg, r⟩
  · exact .inl hn
  · exact .inr ⟨g, cap, cur, hv, by omega, r⟩
/-- What is owned stays while a block that holds no cells is set. -/
theorem owned_iter (h : w.ownsRow base e size v n xs) {k : Nat} {s : ByteArray} {p q : Nat} (hk : w.heap[k]? = some (.stringIter s p)) : (w.iterAt k s q).ownsRow base e size v n xs := by
  refine ⟨h.1, ?_⟩
  rcases h.2 with hn | ⟨g, cap, cur, hv, hg, hh, r⟩
  · exact .inl hn
  · refine .inr ⟨g, cap, cur, hv, hg, ?_, r⟩
    rw [Lib.iterAt_other _ _ _ _ _ (fun e => by rw [e, hk] at hh; cases hh)]
    exact hh
/-- A row that grows is no iterator. -/
theorem iter_grown (h : w.ownsRow base e size v n xs) {k : Nat} {s : ByteArray} {p : Nat} (hk : w.heap[k]? = some (.stringIter s p)) (hg : w.grownBy w' v.ownBlock) : w'.heap[k]? = some (.stringIter s p) := by
  rw [hg.block k (Array.getElem?_eq_some_iff.1 hk).1 ?_]
  · exact hk
  · intro he
    rcases h.2 with ⟨rfl, _⟩ | ⟨g, cap, cur, rfl, _, hh, _⟩
    · cases he
    · simp only [Value.ownBlock, Option.some.injEq] at he
      rw [he, hh] at hk
      cases hk
end
/-- What a walk is told of a slice of integers that came in: its elements zs lie in a row of their own kind. -/
def InRow (k : IntKind) (w : World) (a : Option Addr) (len cap : Nat) (zs : List Int) : Prop :=
  len ≤ cap ∧ cap ≤ maxLen ∧ zs.length = len ∧ Row w w.heap.size a (zs.map (Value.int k)) ∧ ∀ n ∈ zs, (Lit.int k n).wf = true
theorem inRow_nil {k : IntKind} {w : World} : InRow k w none 0 0 [] := ⟨Nat.le_refl _, Nat.zero_le _, rfl, .inl rfl, fun n hn => by cases hn⟩
theorem inRow_of {k : IntKind} {w : World} {x : Addr} {len cap : Nat} {zs : List Int} (hl : len ≤ cap) (hm : cap ≤ maxLen) (hz : zs.length = cap)
    (hcell : ∀ i, i < zs.length → w.cell? (x.add i) = some (.int k (zs.getD i 0))) (hwz : ∀ n ∈ zs, (Lit.int k n).wf = true) : InRow k w (some x) len cap (zs.take len) := by
  refine ⟨hl, hm, by rw [List.length_take]; omega, ?_, fun n hn => hwz n (List.mem_of_mem_take hn)⟩
  by_cases h0 : zs.length = 0
  · have : zs = [] := List.eq_nil_of_length_eq_zero h0
    subst this
    exact .inl (by simp)
  · have hc0 := hcell 0 (by omega)
    obtain ⟨b, off, spot⟩ := x
    have hs : spot = none := by simpa [Addr.add] using World.cell?_spot hc0
    subst hs
    refine .inr ⟨b, off, rfl, by simpa [Addr.add_lit] using World.block_lt_of_cell? w _ hc0, fun j u hu => ?_⟩
    rw [List.getElem?_map, List.getElem?_take] at hu
    split at hu
    · obtain ⟨y, hy, rfl⟩ := Option.map_eq_some_iff.1 hu
      have hj : j < zs.length := (List.getElem?_eq_some_iff.1 hy).1
      have := hcell j hj
      rw [Addr.add_lit] at this
      rw [this, List.getD_eq_getElem?_getD, hy]
      rfl
    · cases hu

section
variable {P : Program} (w : World)

theorem append_no_cells (base : Nat) (t ty e : TypeId) (i : TypeInfo) (size : Nat) (ht : P.underlying t = some (.slice e)) (hi : P.info? e = some i)
    (v : Value) (n : Nat) (xs : List Value) (hown : w.ownsRow base e size v n xs) (c : Nat) : (Builtin.append_ #[t, t] ty #[v, .slice none 0 c]).run P w = .ok v w := by
  rcases hown.2 with ⟨rfl, rfl⟩ | ⟨g, cap, cur, rfl, _, _, hnc, _⟩
  · simp [Builtin.append_, run_underlying ht, sizeOf, typeInfo, hi, Builtin.lenOf, Builtin.firstCells]
  · simp [Builtin.append_, run_underlying ht, sizeOf, typeInfo, hi, Builtin.lenOf, Builtin.firstCells, hnc, storeCells]

/-- append of a slice that lies in some row (nil or not) onto a row of the call's own. -/
theorem wpList_append_row {ops : Array Oper} {rest : List Oper} {o : Oper} {a : Act} {Q : Exit → Act → World → Prop} (hgd : o.guard = none) (s x : Operand) (t : TypeId)
    (ho : o.op = .call { callee := .builtin .append, args := #[s, x], argTypes := #[t, t] })
    (base : Nat) (e : TypeId) (i : TypeInfo) (z : Value) (size bytes : Nat) (ht : P.underlying t = some (.slice e)) (hi : P.info? e = some i) (hz : i.zero = some z)
    (hsize : i.size = size) (hby : i.bytes = bytes) (hzs : z.cells.size = size) (hsz : 0 < size)
    (v : Value) (n : Nat) (xs : List Value) (hs : a.eval s = v) (hown : w.ownsRow base e size v n xs)
    (B : Nat) (A : Option Addr) (m c : Nat) (news : List Value) (hx : a.eval x = .slice A m c) (hl : news.length = m * size) (hr : Row w B A news) (h1 : ∀ u ∈ news, u.oneCell' = true)
    (h63 : n + m ≤ maxLen) (hbytes : (n + m) * bytes ≤ 140737488355328) (hbase : base ≤ w.heap.size)
    (h : ∀ v' w', w'.ownsRow base e size v' (n + m) (xs ++ news) → w.grownBy w' v.ownBlock → wpList P ops Q rest (a.put o.dst v') w') : wpList P ops Q (o :: rest) a w := by
  by_cases hm : m = 0
  · subst hm
    have hn : news = [] := List.eq_nil_of_length_eq_zero (by simpa using hl)
    subst hn
    rcases A with _ | ad
    · refine wpList_plain hgd fun K hK => ?_
      have hrun := append_no_cells (P := P) w base t o.type e i size ht hi v n xs hown c
      unfold Oper.wp execOp
      simp only [ho, resolve, invoke, builtin, Sem.run_bind, Sem.run_pure, Result.andThen_ok, List.map_toArray, List.map_cons, List.map_nil, hs, hx, hrun]
      exact hK _ _ (h v w (by simpa using hown) (World.grownBy.refl _ _))
    · exact wpList_append_own w hgd s x t ho base e i z size bytes ht hi hz hsize hby hzs hsz v n xs hs hown ad 0 c [] hx hl (fun j u hu => by simp at hu) h1 h63 hbytes hbase fun v' w' h2 h3 _ => h v' w' h2 h3
  · have hp : 0 < news.length := by rw [hl]; exact Nat.mul_pos (by omega) hsz
    obtain ⟨b, off, rfl, _, hc⟩ := hr.at_ hp
    exact wpList_append_own w hgd s x t ho base e i z size bytes ht hi hz hsize hby hzs hsz v n xs hs hown _ m c news hx hl (fun j u hu => by rw [Addr.add_lit]; exact hc j u hu) h1 h63 hbytes hbase fun v' w' h2 h3 _ => h v' w' h2 h3
end

/-- The cells of a new block, one by one. -/
theorem news_at (w : World) (l : List Value) (t : TypeId) : ∀ j u, l[j]? = some u → (w.alloc (.cells l.toArray t)).cell? ((⟨w.heap.size, 0, none⟩ : Addr).add j) = some u := by
  intro j u hu
  rw [Addr.add_lit, Nat.zero_add, cell_of_row _ _ _ _ _ _ (heap_alloc_new w _)]
  simpa using hu

theorem below_cells {B : Nat} {w w1 : World} (hb : Below B w w1) : (∀ b o, b < B → w1.cell? ⟨b, o, none⟩ = w.cell? ⟨b, o, none⟩) ∧ (∀ b o, b < B → w1.frozen? ⟨b, o, none⟩ = w.frozen? ⟨b, o, none⟩) :=
  ⟨fun b o h => hb.cell (p := ⟨b, o, none⟩) h, fun b o h => hb.frozen (p := ⟨b, o, none⟩) h⟩
end Go.Proofs.Ytnmnbckaccicaaa

/- Variables that a closure keeps, each a block of one cell that leads to a row of the call's own: what stays while another one is written. No program. -/
set_option linter.unusedVariables false
namespace Go.Proofs.Ytnmnbckaccicaaa
open Go Go.RowKit

section
variable {w w' w1 : World} {base : Nat} {e : TypeId} {size : Nat} {v : Value} {n : Nat} {xs : List Value}

/-- What is owned stays where its own block stays. -/
theorem owned_keep (h : w.ownsRow base e size v n xs) (hk : ∀ g, v.ownBlock = some g → w'.heap[g]? = w.heap[g]?) : w'.ownsRow base e size v n xs := by
  refine ⟨h.1, ?_⟩
  rcases h.2 with hn | ⟨g, cap, cur, rfl, hg, hh, r⟩
  · exact .inl hn
  · exact .inr ⟨g, cap, cur, rfl, hg, (hk g rfl).trans hh, r⟩
/-- A block of another kind is not the owned one. -/
theorem owned_apart (h : w.ownsRow base e size v n xs) {B : Nat} {cs : Array Value} {t : TypeId} {fr : Nat × Nat} (hB : w.heap[B]? = some (.cells cs t fr)) (ht : t ≠ e) : v.ownBlock ≠ some B := by
  intro he
  rcases h.2 with ⟨rfl, _⟩ | ⟨g, cap, cur, rfl, hg, hh, r⟩
  · cases he
  · simp only [Value.ownBlock, Option.some.injEq] at he
    subst he
    rw [hh] at hB
    simp at hB
    exact ht hB.2.1.symm
/-- Two owned rows of other kinds are two blocks. -/
theorem owned_apart2 {base' : Nat} {e' : TypeId} {size' : Nat} {v' : Value} {n' : Nat} {xs' : List Value} (h : w.ownsRow base e size v n xs) (h' : w.ownsRow base' e' size' v' n' xs') (ht : e ≠ e') {g : Nat} (hg : v'.ownBlock = some g) : v.ownBlock ≠ some g := by
  rcases h'.2 with ⟨rfl, _⟩ | ⟨g', cap, cur, rfl, _, hh, r⟩
  · cases hg
  · simp only [Value.ownBlock, Option.some.injEq] at hg
    subst hg
    exact owned_apart h hh ht.symm
theorem owned_other {base' : Nat} {e' : TypeId} {size' : Nat} {v' : Value} {n' : Nat} {xs' : List Value} (h : w.ownsRow base e size v n xs) (h' : w.ownsRow base' e' size' v' n' xs') (ht : e ≠ e') : v.ownBlock = none ∨ v.ownBlock ≠ v'.ownBlock := by
  rcases hv : v'.ownBlock with _ | g
  · by_cases h0 : v.ownBlock = none
    · exact .inl h0
    · exact .inr h0
  · exact .inr (owned_apart2 h h' ht hv)
/-- Cut to nothing, a row is owned still. -/
theorem owned_cut {g cap : Nat} (h : w.ownsRow base e size (.slice (some ⟨g, 0, none⟩) n cap) n xs) : w.ownsRow base e size (.slice (some ⟨g, 0, none⟩) 0 cap) 0 [] := by
  refine ⟨by simp, ?_⟩
  rcases h.2 with ⟨hv, _⟩ | ⟨g', cap', cur, hv, hg, hh, hnc, hcp, hcs, htake⟩
  · cases hv
  · injection hv with h1 h2 h3
    injection h1 with h1
    injection h1 with h1
    subst h1 h3
    exact .inr ⟨g, cap, cur, rfl, hg, hh, Nat.zero_le _, hcp, hcs, by simp⟩
end

/-- The variable at block B leads to a row of the call's own with the cells xs, of one cell each. -/
def RowVar (T E : TypeId) (base B : Nat) (xs : List Value) (w : World) : Prop := ∃ v, w.heap[B]? = some (.cells #[v] T (0, 0)) ∧ w.ownsRow base E 1 v xs.length xs
/-- Nothing that was there has turned but the variable at block B and the row that it leads to. -/
def Touched (B : Nat) (w w' : World) : Prop :=
  w'.os = w.os ∧ w'.tape = w.tape ∧ w'.output = w.output ∧ w.heap.size ≤ w'.heap.size ∧ ∀ k, k < w.heap.size → k ≠ B → (∀ v t, w.heap[B]? = some (.cells #[v] t (0, 0)) → v.ownBlock ≠ some k) → w'.heap[k]? = w.heap[k]?

section
variable {T E T' E' : TypeId} {base base' B B' : Nat} {xs xs' : List Value} {w w' : World}
theorem RowVar.lt (h : RowVar T E base B xs w) : B < w.heap.size := by obtain ⟨v, hv, _⟩ := h; exact lt_of_block hv
theorem RowVar.ne (h : RowVar T E base B xs w) (h' : RowVar T' E' base' B' xs' w) (ht : T ≠ T') : B ≠ B' := by
  rintro rfl
  obtain ⟨v, hv, _⟩ := h
  obtain ⟨v', hv', _⟩ := h'
  rw [hv] at hv'
  simp at hv'
  exact ht hv'.2
/-- A block of another kind stays while a variable is written. -/
theorem Touched.block (h : RowVar T E base B xs w) (ht : Touched B w w') {k : Nat} {cs : Array Value} {t : TypeId} {fr : Nat × Nat} (hk : w.heap[k]? = some (.cells cs t fr)) (h1 : t ≠ T) (h2 : t ≠ E) : w'.heap[k]? = some (.cells cs t fr) := by
  obtain ⟨v, hv, hown⟩ := h
  rw [ht.2.2.2.2 k (lt_of_block hk) ?_ ?_, hk]
  · rintro rfl; rw [hk] at hv; simp at hv; exact h1 hv.2.1
  · intro u t' hu
    rw [hv] at hu
    simp at hu
    rw [← hu.1]
    exact owned_apart hown hk h2
theorem RowVar.other (h' : RowVar T' E' base' B' xs' w) (h : RowVar T E base B xs w) (ht : Touched B w w') (h1 : T' ≠ T) (h2 : T' ≠ E) (h3 : E' ≠ T) (h4 : E' ≠ E) : RowVar T' E' base' B' xs' w' := by
  obtain ⟨v', hv', hown'⟩ := h'
  refine ⟨v', Touched.block h ht hv' h1 h2, owned_keep hown' fun g hg => ?_⟩
  rcases hown'.2 with ⟨rfl, _⟩ | ⟨g', cap, cur, rfl, _, hh, r⟩
  · cases hg
  · simp only [Value.ownBlock, Option.some.injEq] at hg
    subst hg
    rw [Touched.block h ht hh h3 h4, hh]
theorem Touched.below (h : RowVar T E base B xs w) (hB : base ≤ B) (hs : base ≤ w.heap.size) (ht : Touched B w w') : Below base w w' := by
  obtain ⟨v, hv, hown⟩ := h
  refine ⟨ht.1, ht.2.1, ht.2.2.1, ht.2.2.2.1, fun k hk => ht.2.2.2.2 k (by omega) (by omega) fun u t hu he => ?_⟩
  rw [hv] at hu
  simp at hu
  rw [← hu.1] at he
  have := (hown.lt k he).1
  omega
/-- Nothing below base has turned, but what lies at B and C. -/
def Aside (base B C : Nat) (w w' : World) : Prop :=
  w'.os = w.os ∧ w'.tape = w.tape ∧ w'.output = w.output ∧ w.heap.size ≤ w'.heap.size ∧ ∀ k, k < base → k ≠ B → k ≠ C → w'.heap[k]? = w.heap[k]?
theorem Aside.refl (base B C : Nat) (w : World) : Aside base B C w w := ⟨rfl, rfl, rfl, Nat.le_refl _, fun _ _ _ _ => rfl⟩
theorem Aside.trans {B C : Nat} {w w1 w2 : World} (h : Aside base B C w w1) (k : Aside base B C w1 w2) : Aside base B C w w2 :=
  ⟨k.1.trans h.1, k.2.1.trans h.2.1, k.2.2.1.trans h.2.2.1, Nat.le_trans h.2.2.2.1 k.2.2.2.1, fun i hi h1 h2 => (k.2.2.2.2 i hi h1 h2).trans (h.2.2.2.2 i hi h1 h2)⟩
theorem Aside.of {B C : Nat} {w w1 : World} (h : Below base w w1) : Aside base B C w w1 := ⟨h.os, h.tape, h.output, h.size, fun k hk _ _ => h.block k hk⟩
theorem Aside.swap {B C : Nat} {w w1 : World} (h : Aside base B C w w1) : Aside base C B w w1 := ⟨h.1, h.2.1, h.2.2.1, h.2.2.2.1, fun k hk h1 h2 => h.2.2.2.2 k hk h2 h1⟩
theorem Aside.below {B C : Nat} {w w1 : World} (h : Aside base B C w w1) {b : Nat} (hb : b ≤ base) (hB : b ≤ B) (hC : b ≤ C) : Below b w w1 := ⟨h.1, h.2.1, h.2.2.1, h.2.2.2.1, fun k hk => h.2.2.2.2 k (by omega) (by omega) (by omega)⟩
theorem Touched.aside {C : Nat} (h : RowVar T E base B xs w) (hs : base ≤ w.heap.size) (ht : Touched B w w') : Aside base B C w w' := by
  obtain ⟨v, hv, hown⟩ := h
  refine ⟨ht.1, ht.2.1, ht.2.2.1, ht.2.2.2.1, fun k hk hkB _ => ht.2.2.2.2 k (by omega) hkB fun u t hu he => ?_⟩
  rw [hv] at hu
  simp at hu
  rw [← hu.1] at he
  have := (hown.lt k he).1
  omega
theorem RowVar.below (h : RowVar T E base B xs w) (hb : Below w.heap.size w w') : RowVar T E base B xs w' := by
  obtain ⟨v, hv, hown⟩ := h
  exact ⟨v, (hb.block B (lt_of_block hv)).trans hv, owned_below hown hb⟩
theorem RowVar.alloc (h : RowVar T E base B xs w) (o : Obj) : RowVar T E base B xs (w.alloc o) := h.below ((Below.refl _ _).alloc (Nat.le_refl _) o)
theorem RowVar.drew (h : RowVar T E base B xs w) : RowVar T E base B xs w.drew := h
/-- Behind an append onto the variable's row, and the store of what came of it. -/
theorem pushed {v v' : Value} {w0 w1 : World} {n m : Nat} {u : List Value} (hTE : T ≠ E) (hv : w.heap[B]? = some (.cells #[v] T (0, 0))) (hn : xs.length = n) (hown : w.ownsRow base E 1 v n xs)
    (hb : Below w.heap.size w w0) (hg : w0.grownBy w1 v.ownBlock) (hown1 : w1.ownsRow base E 1 v' m (xs ++ u)) (hm : m = n + u.length) :
    w1.cell? ⟨B, 0, none⟩ = some v ∧ w1.frozen? ⟨B, 0, none⟩ = false ∧ RowVar T E base B (xs ++ u) (w1.setCell ⟨B, 0, none⟩ v') ∧ Touched B w (w1.setCell ⟨B, 0, none⟩ v') := by
  have hBlt := lt_of_block hv
  have hne : v.ownBlock ≠ some B := owned_apart hown hv hTE
  have hv1 : w1.heap[B]? = some (.cells #[v] T (0, 0)) := (hg.block B (by have := hb.size; omega) (fun e => hne e.symm)).trans ((hb.block B hBlt).trans hv)
  have hne' : v'.ownBlock ≠ some B := owned_apart hown1 hv1 hTE
  have hl : m = (xs ++ u).length := by simp [hm, hn]
  rw [hl] at hown1
  refine ⟨cell_of_one hv1, free_of_one hv1, ⟨v', one_setCell hv1, ownsRow_setCell_other hown1 hne' v'⟩, hg.os.trans hb.os, hg.tape.trans hb.tape, hg.output.trans hb.output, ?_, fun k hk hkB hkv => ?_⟩
  · have h1 := hb.size
    have h2 := hg.size
    simp
    omega
  · rw [Below.heap_setCell _ _ _ _ hkB, hg.block k (by have := hb.size; omega) (fun e => hkv v T hv e.symm), hb.block k hk]
/-- Behind the store of the same row, cut to nothing. -/
theorem emptied {g n cap : Nat} (hTE : T ≠ E) (hv : w.heap[B]? = some (.cells #[.slice (some ⟨g, 0, none⟩) n cap] T (0, 0))) (hown : w.ownsRow base E 1 (.slice (some ⟨g, 0, none⟩) n cap) n xs) :
    RowVar T E base B [] (w.setCell ⟨B, 0, none⟩ (.slice (some ⟨g, 0, none⟩) 0 cap)) ∧ Touched B w (w.setCell ⟨B, 0, none⟩ (.slice (some ⟨g, 0, none⟩) 0 cap)) := by
  have hne := owned_apart hown hv hTE
  refine ⟨⟨_, one_setCell hv, ownsRow_setCell_other (owned_cut hown) (by simpa [Value.ownBlock] using hne) _⟩, rfl, rfl, rfl, by simp, fun k hk hkB _ => ?_⟩
  rw [Below.heap_setCell _ _ _ _ hkB]
theorem owned_row_of {e : TypeId} {size : Nat} {A : Option Addr} {n m c : Nat} (h : w.ownsRow base e size (.slice A m c) n xs) : Row w w.heap.size A xs := by
  obtain ⟨A', c', he, _, hr⟩ := owned_row h
  injection he with h1 h2 h3
  rw [h1]
  exact hr
theorem owned_aside {e : TypeId} {size : Nat} {v : Value} {n : Nat} (h : w.ownsRow base' e size v n xs) {C : Nat} (hB : B < base') (hC : C < base') (hs : w.heap.size ≤ base) (hk : Aside base B C w w') : w'.ownsRow base' e size v n xs :=
  owned_keep h fun g hg => by
    have := h.lt g hg
    exact hk.2.2.2.2 g (by omega) (by omega) (by omega)
end
end Go.Proofs.Ytnmnbckaccicaaa
