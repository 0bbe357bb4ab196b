/- Texts laid together: ArgQ12, ArgV12, GradeP12, NotsP12, NotsM12, DeepP12, Bare12, Kinds12, GradeM12. -/
import Derived.Test.YtolfkhflbjnakaaGreatDoorNAQ07
import Derived.Test.YtolfkhflbjnakaaGreatDoorNAQ06
import Derived.Test.YtolfkhflbjnakaaGreatDoorRows
import Derived.Lib.SmallJoins
import Derived.Deep.Slices
import Derived.OpenShut
import Derived.ProofKit
import Derived.Test.YtolfkhflbjnakaaGreatDoorNAQ04
import Derived.BigCall
import Derived.Carry
import Derived.MapKept
import Derived.ChangeMaps
import Derived.Deep.AppendLies
import Derived.Laws.OwnMore

/- A query that came in, read as data: what a walk is told of it; how long its texts can be. -/
namespace Go.Proofs.YtolfkhflbjnakaaGreatDoor
open Go Go.RowKit Go.ChangeShapes Go.WideShapes Go.ChangeAt Go.Joins
set_option linter.unusedVariables false

theorem bulk_one {H : Type} (d : DataW H) : 1 ≤ Rows.uptoBulk d := by
  cases d with
  | lit l => cases l <;> simp [Rows.uptoBulk]
  | _ => simp [Rows.uptoBulk]
theorem bulk_mem {H : Type} {d : DataW H} : ∀ {l : List (DataW H)}, d ∈ l → Rows.uptoBulk d ≤ Rows.uptoBulkAll l
  | x :: l, h => by
    simp only [Rows.uptoBulkAll]
    rcases List.mem_cons.1 h with rfl | h
    · omega
    · have := bulk_mem h; omega
theorem bulk_str {H : Type} (s : List UInt8) : Rows.uptoBulk (DataW.lit (H := H) (.string s)) = s.length + 1 := by simp [Rows.uptoBulk]
theorem bulk_elem {H : Type} {d : DataW H} {es sp : List (DataW H)} (h : d ∈ es) : Rows.uptoBulk d < Rows.uptoBulk (.slice es sp) := by
  have := bulk_mem h
  simp only [Rows.uptoBulk]
  omega
theorem bulk_len {H : Type} : ∀ l : List (DataW H), l.length ≤ Rows.uptoBulkAll l
  | [] => by simp [Rows.uptoBulkAll]
  | x :: l => by have := bulk_one x; have := bulk_len l; simp only [Rows.uptoBulkAll, List.length_cons]; omega
theorem bulk_part {H : Type} {d : DataW H} {ps : List (DataW H)} (h : d ∈ ps) : Rows.uptoBulk d < Rows.uptoBulk (.agg ps) := by
  have := bulk_mem h
  simp only [Rows.uptoBulk]
  omega

/-- Things, and their cells, one's behind the other's. -/
def AllR {α : Type} (R : α → List Value → Prop) : List α → List Value → Prop
  | [], vs => vs = []
  | q :: l, vs => ∃ a b, vs = a ++ b ∧ R q a ∧ AllR R l b
theorem AllR.snoc {α : Type} {R : α → List Value → Prop} : ∀ {l : List α} {vs : List Value} {q : α} {a : List Value}, AllR R l vs → R q a → AllR R (l ++ [q]) (vs ++ a)
  | [], vs, q, a, h, ha => by cases h; exact ⟨a, [], by simp, ha, rfl⟩
  | x :: l, vs, q, a, h, ha => by
    obtain ⟨u, v, rfl, h1, h2⟩ := h
    exact ⟨u, v ++ a, by simp, h1, AllR.snoc h2 ha⟩
theorem AllR.imp {α : Type} {R S : α → List Value → Prop} : ∀ {l : List α} {vs : List Value}, AllR R l vs → (∀ q a, q ∈ l → R q a → S q a) → AllR S l vs
  | [], vs, h, _ => h
  | x :: l, vs, h, hi => by
    obtain ⟨u, v, rfl, h1, h2⟩ := h
    exact ⟨u, v, rfl, hi _ _ (List.mem_cons_self ..) h1, AllR.imp h2 fun q a hq => hi q a (List.mem_cons_of_mem _ hq)⟩
theorem AllR.each {α : Type} {R : α → List Value → Prop} : ∀ {l : List α} {vs : List Value}, AllR R l vs → ∀ q ∈ l, ∃ a, R q a
  | x :: l, vs, h, q, hq => by
    obtain ⟨u, v, rfl, h1, h2⟩ := h
    rcases List.mem_cons.1 hq with rfl | hq
    · exact ⟨u, h1⟩
    · exact AllR.each h2 q hq
theorem AllR.cat {α : Type} {R : α → List Value → Prop} {f : Nat → α × List Value} {n : Nat} (h : ∀ i, i < n → R (f i).1 (f i).2) : ∀ k, k ≤ n → AllR R ((List.range k).map fun i => (f i).1) (catTo (fun i => (f i).2) k)
  | 0, _ => rfl
  | k + 1, hk => by
    rw [List.range_succ, List.map_append, catTo]
    exact (AllR.cat h k (by omega)).snoc (h k (by omega))
/-- A slice of things that came in. -/
theorem in_row {α : Type} [Inhabited α] {H : Type} {enc : TypeId × Value → H} {W : World} {R : α → List Value → Prop} {t e : TypeId} {z N : Nat} (ht : Tryz.prog.underlying t = some (.slice e)) (ce : Tryz.prog.cellsOf e = z) (hz : 0 < z)
    (open1 : ∀ {fuel : Nat} {cs : List Value} {y : DataW H × List MemPlace}, Rows.uptoBulk y.1 < N → DataW.trod enc Tryz.prog W 0 (fun _ => true) true fuel e cs = some y → ∃ q, R q cs)
    {fuel : Nat} {cs : List Value} {x : DataW H × List MemPlace} (h : DataW.trod enc Tryz.prog W 0 (fun _ => true) true fuel t cs = some x) (hN : Rows.uptoBulk x.1 ≤ N) :
    ∃ A len cap l vs, cs = [.slice A len cap] ∧ len ≤ cap ∧ cap ≤ maxLen ∧ l.length = len ∧ RowP (fun b => b < W.heap.size) W A vs ∧ AllR R l vs := by
  rcases Deep.open_slice ht h with ⟨hcs, _⟩ | ⟨ad, len, cap, m, n, D, Pl, rfl, _, hl, hm, hmm, hx1, hx⟩
  · exact ⟨none, 0, 0, [], [], hcs, Nat.le_refl _, Nat.zero_le _, rfl, .inl rfl, rfl⟩
  · simp only [if_true] at hmm
    have each : ∀ i, i < len → ∃ q : α × List Value, R q.1 q.2 ∧ q.2.length = z ∧ ∀ j u, q.2[j]? = some u → W.cell? (ad.add (i * z + j)) = some u := fun i hi => by
      obtain ⟨cs', h1, h2⟩ := hx i (by omega)
      obtain ⟨_, hlen, hcell⟩ := World.cells?_some h1
      have hb : Rows.uptoBulk (D i) < N := by
        refine Nat.lt_of_lt_of_le ?_ hN
        rw [hx1]
        exact bulk_elem (List.mem_map.2 ⟨i, List.mem_range.2 hi, rfl⟩)
      obtain ⟨q, hq⟩ := open1 (y := (D i, Pl i)) hb h2
      rw [ce] at hlen
      refine ⟨(q, cs'), hq, hlen, fun j u hu => ?_⟩
      have hj : j < z := by
        rcases Nat.lt_or_ge j z with h | h
        · exact h
        · rw [List.getElem?_eq_none (by rw [hlen]; exact h)] at hu; cases hu
      have := hcell j (by rw [ce]; exact hj)
      rw [Deep.add_add, ce] at this
      rw [this]
      exact hu
    obtain ⟨f, hf⟩ := Deep.choose_lt each
    by_cases h0 : len = 0
    · subst h0
      exact ⟨some ad, 0, cap, [], [], rfl, hl, hm, rfl, .inl rfl, rfl⟩
    · obtain ⟨_, hl0, hc0⟩ := hf 0 (by omega)
      obtain ⟨u0, hu0⟩ : ∃ u, (f 0).2[0]? = some u := ⟨_, List.getElem?_eq_getElem (by rw [hl0]; exact hz)⟩
      have c00 := hc0 0 u0 hu0
      obtain ⟨b, off, spot⟩ := ad
      have hs : spot = none := by simpa [Addr.add] using World.cell?_spot c00
      subst hs
      have hblt : b < W.heap.size := by simpa [Addr.add_lit] using World.block_lt_of_cell? W _ c00
      refine ⟨some ⟨b, off, none⟩, len, cap, (List.range len).map fun i => (f i).1, catTo (fun i => (f i).2) len, rfl, hl, hm, by simp, .inr ⟨b, off, rfl, hblt, catTo_row (n := len) (z := z) (fun i hi => (hf i hi).2.1) (fun i hi j u hu => ?_) len (Nat.le_refl _)⟩, AllR.cat (n := len) (fun i hi => (hf i hi).1) len (Nat.le_refl _)⟩
      have := (hf i hi).2.2 j u hu
      rwa [Addr.add_lit] at this
theorem allR_strs {P : Nm → Prop} : ∀ {l : List Nm} {vs : List Value}, AllR (fun q cs => cs = [.string ⟨q.toArray⟩] ∧ P q) l vs → vs = strs l ∧ ∀ q ∈ l, P q
  | [], vs, h => ⟨h, fun q hq => by cases hq⟩
  | x :: l, vs, h => by
    obtain ⟨a, b, rfl, ⟨rfl, hp⟩, h2⟩ := h
    obtain ⟨rfl, h3⟩ := allR_strs h2
    refine ⟨rfl, fun q hq => ?_⟩
    rcases List.mem_cons.1 hq with rfl | hq
    · exact hp
    · exact h3 q hq
theorem allR_qs {p : Nat → Prop} {w : World} {P : Qy → Prop} : ∀ {l : List Qy} {vs : List Value}, AllR (fun q cs => QAt p w q cs ∧ P q) l vs → QsAt p w l vs ∧ ∀ q ∈ l, P q
  | [], vs, h => ⟨by rw [QsAt]; exact h, fun q hq => by cases hq⟩
  | x :: l, vs, h => by
    obtain ⟨a, b, rfl, ⟨h1, hp⟩, h2⟩ := h
    obtain ⟨h3, h4⟩ := allR_qs h2
    refine ⟨by rw [QsAt]; exact ⟨a, b, rfl, h1, h3⟩, fun q hq => ?_⟩
    rcases List.mem_cons.1 hq with rfl | hq
    · exact hp
    · exact h4 q hq
theorem query_cells : Tryz.prog.cellsOf 27 = 5 := by kernel_rfl
theorem term_cells : Tryz.prog.cellsOf 23 = 2 := by kernel_rfl

set_option maxRecDepth 100000 in
theorem in_query {H : Type} {enc : TypeId × Value → H} {W : World} (b : Nat) (M : Nat) : ∀ {fuel : Nat} {cs : List Value} {x : DataW H × List MemPlace}, Rows.uptoBulk x.1 ≤ M → Rows.uptoBulk x.1 ≤ b →
    DataW.trod enc Tryz.prog W 0 (fun _ => true) true fuel 27 cs = some x → ∃ q, QAt (fun b => b < W.heap.size) W q cs ∧ (RawQ b q ∧ RawQ maxLen q) := by
  induction M with
  | zero => intro fuel cs x h; have := bulk_one x.1; omega
  | succ M ih =>
    intro fuel cs x hM hb h
    obtain ⟨y0, y1, y2, y3, n, rfl, hl, g0, g1, g2, g3⟩ := trod_struct4 Tryz.underlying27 h
    have b1 := bulk_part (d := y1.1) (ps := [y0.1, y1.1, y2.1, y3.1]) (by simp)
    have b2 := bulk_part (d := y2.1) (ps := [y0.1, y1.1, y2.1, y3.1]) (by simp)
    have b3 := bulk_part (d := y3.1) (ps := [y0.1, y1.1, y2.1, y3.1]) (by simp)
    rw [query_cells] at hl
    obtain ⟨v0, v1, v2, v3, v4, rfl⟩ : ∃ v0 v1 v2 v3 v4, cs = [v0, v1, v2, v3, v4] := by
      match cs, hl with
      | [v0, v1, v2, v3, v4], _ => exact ⟨v0, v1, v2, v3, v4, rfl⟩
    have c0 : Tryz.prog.cellsOf 3 = 1 := by kernel_rfl
    have c2 : Tryz.prog.cellsOf 24 = 1 := by kernel_rfl
    have c3 : Tryz.prog.cellsOf 25 = 1 := by kernel_rfl
    have cs1 : Tryz.prog.cellsOf 9 = 1 := by kernel_rfl
    simp [c0] at g0
    simp [term_cells] at g1
    simp [c2] at g2
    simp [c3] at g3
    obtain ⟨k, e0, _, hk⟩ := DataW.trod_int Tryz.underlying3 g0
    obtain ⟨z0, z1, n2, hz, _, s0, s1⟩ := trod_struct2 Tryz.underlying23 g1
    simp [cs1] at s0 s1
    obtain ⟨f, e1, hf1, hf2⟩ := DataW.trod_string Tryz.underlying9 s0
    obtain ⟨s, e2, hs1, hs2⟩ := DataW.trod_string Tryz.underlying9 s1
    simp only [List.cons.injEq, and_true] at e0 e1 e2
    subst e0 e1 e2
    have hM' : Rows.uptoBulk (DataW.agg [y0.1, y1.1, y2.1, y3.1]) ≤ M + 1 := hM
    have hb' : Rows.uptoBulk (DataW.agg [y0.1, y1.1, y2.1, y3.1]) ≤ b := hb
    have hy1 : y1.1 = .agg [z0.1, z1.1] := by rw [hz]
    have bf : f.data.toList.length < Rows.uptoBulk y1.1 := by
      have h1 : Rows.uptoBulk z0.1 = f.data.toList.length + 1 := by rw [hf1]; exact bulk_str _
      have := bulk_part (d := z0.1) (ps := [z0.1, z1.1]) (by simp)
      rw [hy1]
      omega
    have bs : s.data.toList.length < Rows.uptoBulk y1.1 := by
      have h1 : Rows.uptoBulk z1.1 = s.data.toList.length + 1 := by rw [hs1]; exact bulk_str _
      have := bulk_part (d := z1.1) (ps := [z0.1, z1.1]) (by simp)
      rw [hy1]
      omega
    have hfm : f.data.toList.length ≤ maxLen := by rw [show f.data.toList.length = f.size from Array.length_toList]; exact hf2
    have hsm : s.data.toList.length ≤ maxLen := by rw [show s.data.toList.length = s.size from Array.length_toList]; exact hs2
    obtain ⟨A, an, ac, ws, vs, ea, ha1, ha2, ha3, ha4, ha5⟩ := in_row (α := Nm) (R := fun q cs => cs = [.string ⟨q.toArray⟩] ∧ (q.length ≤ b ∧ q.length ≤ maxLen)) (N := Rows.uptoBulk y2.1) Tryz.underlying24 cs1 (by decide) (fun {fuel cs y} hN h => by
      obtain ⟨s, e, hd, hm⟩ := DataW.trod_string Tryz.underlying9 h
      refine ⟨s.data.toList, e, ?_, by rw [show s.data.toList.length = s.size from Array.length_toList]; exact hm⟩
      have h1 : Rows.uptoBulk y.1 = s.data.toList.length + 1 := by rw [hd]; exact bulk_str _
      omega) g2 (Nat.le_refl _)
    obtain ⟨K, kn, kc, ks, us, ek, hk1, hk2, hk3, hk4, hk5⟩ := in_row (α := Qy) (R := fun q cs => QAt (fun b => b < W.heap.size) W q cs ∧ (RawQ b q ∧ RawQ maxLen q)) (N := Rows.uptoBulk y3.1) Tryz.underlying25 query_cells (by decide) (fun {fuel cs y} hN h =>
      ih (by omega) (by omega) h) g3 (Nat.le_refl _)
    simp only [List.cons.injEq, and_true] at ea ek
    subst ea ek
    obtain ⟨rfl, hws⟩ := allR_strs ha5
    obtain ⟨hqs, hrk⟩ := allR_qs hk5
    have hkb := wf_bd hk
    refine ⟨.mk k (f.data.toList, s.data.toList) ws ks, ?_, ?_, ?_⟩
    · rw [QAt]
      exact ⟨f, s, A, ac, K, kc, us, by rw [ha3, hk3], rfl, rfl, by omega, by omega, ha4, hk4, hqs⟩
    · rw [RawQ]
      exact ⟨hkb, ⟨by simp only; omega, by simp only; omega⟩, fun w hw => (hws w hw).1, rawL_of fun q hq => (hrk q hq).1⟩
    · rw [RawQ]
      exact ⟨hkb, ⟨hfm, hsm⟩, fun w hw => (hws w hw).2, rawL_of fun q hq => (hrk q hq).2⟩
end Go.Proofs.YtolfkhflbjnakaaGreatDoor

/- Queries that came in as arguments: one, a list of them. -/
namespace Go.Proofs.YtolfkhflbjnakaaGreatDoor
open Go Go.RowKit Go.ChangeShapes Go.WideShapes Go.ChangeAt Go.Joins
set_option linter.unusedVariables false

theorem bulk_all1 {H : Type} (a : DataW H) : Rows.uptoBulkAll [a] = Rows.uptoBulk a := by simp [Rows.uptoBulkAll]
theorem bulk_all2 {H : Type} (a b : DataW H) : Rows.uptoBulkAll [a, b] = Rows.uptoBulk a + Rows.uptoBulk b := by simp [Rows.uptoBulkAll]
theorem bulk_all3 {H : Type} (a b c : DataW H) : Rows.uptoBulkAll [a, b, c] = Rows.uptoBulk a + (Rows.uptoBulk b + Rows.uptoBulk c) := by simp [Rows.uptoBulkAll]
theorem bulk_all4 {H : Type} (a b c d : DataW H) : Rows.uptoBulkAll [a, b, c, d] = Rows.uptoBulk a + (Rows.uptoBulk b + (Rows.uptoBulk c + Rows.uptoBulk d)) := by simp [Rows.uptoBulkAll]
set_option maxRecDepth 100000 in
theorem open_query {H : Type} {enc : TypeId × Value → H} {W : World} {r : Reach} {b0 b : Nat} {v : Value} {d : DataW H} {p : List MemPlace} (hv : Value.okWide Tryz.prog W r b0 27 v) (h : DataW.Trod enc Tryz.prog W 0 (fun _ => true) true 27 v d p) (hb : Rows.uptoBulk d ≤ b) :
    ∃ q, QIn W q v ∧ RawQ b q ∧ RawQ maxLen q := by
  obtain ⟨cs, rfl, hsz⟩ := okWide_struct Tryz.underlying27 hv
  obtain ⟨fuel, hf⟩ := h
  obtain ⟨q, h1, h2, h3⟩ := in_query b (Rows.uptoBulk d) (x := (d, p)) (Nat.le_refl _) hb hf
  obtain ⟨k, f, x, A, n, c, K, m, d', e, hq⟩ := h1.val
  have e' : cs.toList = qC k f x A n c K m d' := e
  have e2 : cs = #[.int .i64 k, .string f, .string x, .slice A n c, .slice K m d'] := by
    apply Array.toList_inj.1
    exact e'
  subst e2
  exact ⟨q, hq, h2, h3⟩
set_option maxRecDepth 100000 in
theorem open_queries {H : Type} {enc : TypeId × Value → H} {W : World} {b : Nat} {a : Option Addr} {len cap : Nat} {d : DataW H} {p : List MemPlace} (h : DataW.Trod enc Tryz.prog W 0 (fun _ => true) true 25 (.slice a len cap) d p) (hb : Rows.uptoBulk d ≤ b) :
    ∃ ks ds, ks.length = len ∧ RowP (fun b => b < W.heap.size) W a ds ∧ QsAt (fun b => b < W.heap.size) W ks ds ∧ (∀ q ∈ ks, RawQ b q) ∧ len ≤ cap := by
  obtain ⟨fuel, hf⟩ := h
  obtain ⟨K, kn, kc, ks, us, ek, hk1, hk2, hk3, hk4, hk5⟩ := in_row (α := Qy) (R := fun q cs => QAt (fun b => b < W.heap.size) W q cs ∧ (RawQ b q ∧ RawQ maxLen q)) (N := Rows.uptoBulk d) (x := (d, p)) Tryz.underlying25 query_cells (by decide) (fun {fuel cs y} hN h =>
    in_query b (Rows.uptoBulk y.1) (Nat.le_refl _) (by omega) h) hf (Nat.le_refl _)
  have ek' : [Value.slice a len cap] = [.slice K kn kc] := ek
  simp only [List.cons.injEq, and_true, Value.slice.injEq] at ek'
  obtain ⟨rfl, rfl, rfl⟩ := ek'
  obtain ⟨hqs, hrk⟩ := allR_qs hk5
  exact ⟨ks, us, hk3, hk4, hqs, fun q hq => (hrk q hq).1, hk1⟩
end Go.Proofs.YtolfkhflbjnakaaGreatDoor

/- How a document fits a query, and how well, of how it fits the kids. Plain; no program. -/
set_option linter.unusedVariables false
namespace Go.Proofs.YtolfkhflbjnakaaGreatDoor
open Go

theorem score_unfit {f : List Fd} {q : Qy} (h : fitsQ f q = false) : scoreQ f q = 0 := by
  obtain ⟨k, t, ws, ks⟩ := q
  rw [scoreQ, if_pos (.inl h)]
theorem scoreL_unfit {f : List Fd} : ∀ {l : List Qy}, fitL f l = 0 → scoreL f l = 0
  | [], _ => by rw [scoreL]
  | q :: l, h => by
    rw [fitL] at h
    rw [scoreL, scoreL_unfit (by omega)]
    cases hq : fitsQ f q with
    | false => rw [score_unfit hq]
    | true => rw [if_pos hq] at h; omega
/-- How a document fits, of a count. -/
theorem grade_term (f : List Fd) (t : Tm) (ws : List Nm) (ks : List Qy) : fitsQ f (.mk 1 t ws ks) = decide (0 < (placesD f t).length) ∧ scoreQ f (.mk 1 t ws ks) = (placesD f t).length := by
  have h : fitsQ f (.mk 1 t ws ks) = decide (0 < (placesD f t).length) := by rw [fitsQ, if_pos rfl]
  refine ⟨h, ?_⟩
  rw [scoreQ, h]
  by_cases h0 : 0 < (placesD f t).length
  · rw [if_neg (by simp [h0]), if_pos rfl]
  · rw [if_pos (.inl (by simp [h0]))]; omega
theorem grade_phrase (f : List Fd) (t : Tm) (ws : List Nm) (ks : List Qy) : fitsQ f (.mk 5 t ws ks) = decide (0 < phraseD f t.1 ws) ∧ scoreQ f (.mk 5 t ws ks) = phraseD f t.1 ws := by
  have h : fitsQ f (.mk 5 t ws ks) = decide (0 < phraseD f t.1 ws) := by rw [fitsQ, if_neg (by decide), if_pos rfl]
  refine ⟨h, ?_⟩
  rw [scoreQ, h]
  by_cases h0 : 0 < phraseD f t.1 ws
  · rw [if_neg (by simp [h0]), if_neg (by decide), if_pos rfl]
  · rw [if_pos (.inl (by simp [h0]))]; omega
/-- .. of its kids: are there enough that fit? -/
def enoughQ (k : Int) (fit all : Nat) : Bool := if k = 2 then decide (fit = all) else if k = 3 then decide (0 < fit) else decide (fit = 0)
theorem grade_kids {f : List Fd} {k : Int} (t : Tm) (ws : List Nm) {ks : List Qy} (h2 : 2 ≤ k) (h4 : k ≤ 4) :
    fitsQ f (.mk k t ws ks) = enoughQ k (fitL f ks) ks.length ∧ scoreQ f (.mk k t ws ks) = if enoughQ k (fitL f ks) ks.length = true then scoreL f ks else 0 := by
  have h : fitsQ f (.mk k t ws ks) = enoughQ k (fitL f ks) ks.length := by
    rw [fitsQ, if_neg (by omega), if_neg (by omega), enoughQ]
    by_cases e2 : k = 2
    · rw [if_pos e2, if_pos e2]
    · rw [if_neg e2, if_neg e2]
      by_cases e3 : k = 3
      · rw [if_pos e3, e3]; simp
      · rw [if_neg e3]
        have : decide (k = 3) = false := by simp [e3]
        rw [this]
        by_cases e : 0 < fitL f ks
        · have h0 : fitL f ks ≠ 0 := by omega
          simp [e, h0]
        · have h0 : fitL f ks = 0 := by omega
          simp [h0]
  refine ⟨h, ?_⟩
  rw [scoreQ, h]
  cases he : enoughQ k (fitL f ks) ks.length with
  | false => rw [if_pos (.inl rfl), if_neg (by decide)]
  | true =>
    rw [if_pos rfl]
    by_cases e4 : k = 4
    · rw [if_pos (.inr e4)]
      rw [enoughQ, if_neg (by omega), if_neg (by omega)] at he
      exact (scoreL_unfit (by simpa using he)).symm
    · rw [if_neg (by simp [e4]), if_neg (by omega), if_neg (by omega)]
/-- How much it can be. -/
def Most (f : List Fd) (M : Nat) : Prop := ∀ s, (wordsD f s).length ≤ M
theorem phraseW_length (ws : List Nm) : ∀ l : List Nm, phraseW ws l ≤ l.length
  | [] => by rw [phraseW]; exact Nat.zero_le _
  | y :: l => by
    have := phraseW_length ws l
    rw [phraseW, List.length_cons]
    split <;> omega
mutual
theorem score_most {f : List Fd} {M : Nat} (h : Most f M) : ∀ q : Qy, scoreQ f q ≤ M * sizeQ q
  | .mk k t ws ks => by
    have h1 := score_mostL h ks
    have h2 : (placesD f t).length ≤ M := Nat.le_trans (placesW_length _ _ _) (h _)
    have h3 : phraseD f t.1 ws ≤ M := Nat.le_trans (phraseW_length _ _) (h _)
    rw [scoreQ, sizeQ, Nat.mul_add, Nat.mul_one]
    split
    · omega
    · split
      · omega
      · split <;> omega
theorem score_mostL {f : List Fd} {M : Nat} (h : Most f M) : ∀ l : List Qy, scoreL f l ≤ M * sizeL l
  | [] => by rw [scoreL]; omega
  | q :: l => by
    have h1 := score_most h q
    have h2 := score_mostL h l
    rw [scoreL, sizeL, Nat.mul_add]
    omega
end
theorem sizeL_le {n : Nat} : ∀ {l : List Qy}, (∀ q ∈ l, sizeQ q ≤ n) → sizeL l ≤ l.length * n
  | [], _ => by rw [sizeL]; omega
  | q :: l, h => by
    have h1 := h q (List.mem_cons_self ..)
    have h2 := sizeL_le fun x hx => h x (List.mem_cons_of_mem _ hx)
    rw [sizeL, List.length_cons, Nat.add_mul, Nat.one_mul]
    omega
theorem size_may : ∀ (n : Nat) {d : Nat} {q : Qy}, deepQ q ≤ n → mayQ d q = 0 → sizeQ q ≤ 9 ^ n
  | 0, _, q, h, _ => by have := deepQ_pos q; omega
  | n + 1, d, .mk k t ws ks, h, hm => by
    obtain ⟨hd, ho, hl⟩ := mayQ_zero hm
    have hk : sizeL ks ≤ ks.length * 9 ^ n := sizeL_le fun q hq => by
      have := deepL_mem hq
      rw [deepQ] at h
      exact size_may n (by omega) (mayL_zero hl q hq)
    have h8 : ks.length ≤ 8 := by
      rcases own_zero ho with ⟨_, h1, _⟩ | ⟨_, h1, _⟩ | ⟨_, _, _, _, _, h5, _⟩ <;> omega
    have h9 : ks.length * 9 ^ n ≤ 8 * 9 ^ n := Nat.mul_le_mul_right _ h8
    have hp : 1 ≤ 9 ^ n := Nat.one_le_pow _ _ (by decide)
    rw [sizeQ, Nat.pow_succ]
    omega
theorem sizeL_mem : ∀ {l : List Qy} {q : Qy}, q ∈ l → sizeQ q ≤ sizeL l
  | a :: l, q, h => by
    rw [sizeL]
    rcases List.mem_cons.1 h with rfl | h
    · omega
    · have := sizeL_mem h; omega
theorem may_size {q : Qy} {d : Nat} (hd : 1 ≤ d) (h : mayQ d q = 0) : sizeQ q ≤ 600000 := by
  have h1 := mayQ_deep h
  exact Nat.le_trans (size_may 6 (by omega) h) (by decide)
end Go.Proofs.YtolfkhflbjnakaaGreatDoor

/- Not, And, Or of what fits; queries that may be, one level further in. Plain; no program. -/
set_option linter.unusedVariables false
namespace Go.Proofs.YtolfkhflbjnakaaGreatDoor
open Go

mutual
theorem may_shift {d e : Nat} : ∀ {q : Qy}, mayQ d q = 0 → e + deepQ q ≤ 7 → mayQ e q = 0
  | .mk k t ws ks, h, he => by
    obtain ⟨h1, h2, h3⟩ := mayQ_zero h
    rw [deepQ] at he
    exact mayQ_of (by omega) h2 (may_shiftL h3 (by omega))
theorem may_shiftL {d e : Nat} : ∀ {l : List Qy}, mayL d l = 0 → e + deepL l ≤ 7 → mayL e l = 0
  | [], _, _ => by rw [mayL]
  | q :: l, h, he => by
    rw [deepL] at he
    have h1 := mayL_zero h q (List.mem_cons_self ..)
    have h2 : mayL d l = 0 := mayL_of fun x hx => mayL_zero h x (List.mem_cons_of_mem _ hx)
    rw [mayL, may_shift h1 (by omega), if_neg (fun h => h rfl)]
    exact may_shiftL h2 (by omega)
end
/-- Not, And, Or of queries. -/
def notQ (a : Qy) : Qy := .mk 4 ([], []) [] [a]
def andQ (l : List Qy) : Qy := .mk 2 ([], []) [] l
def orQ (l : List Qy) : Qy := .mk 3 ([], []) [] l
theorem not_own (n : Nat) : ownQ 4 ([], []) [] 1 = 0 := by decide
theorem kids_own {k : Int} {n : Nat} (hk : k = 2 ∨ k = 3) (h0 : 0 < n) (h8 : n ≤ 8) : ownQ k ([], []) [] n = 0 := by
  rw [ownQ, if_neg (by omega), if_pos (by omega), if_neg (by simp; omega), if_neg (by omega)]
theorem not_may {d : Nat} {a : Qy} (hd : d ≤ 6) (h : mayQ (d + 1) a = 0) : mayQ d (notQ a) = 0 :=
  mayQ_of hd (not_own 0) (by rw [mayL, h, if_neg (fun h => h rfl), mayL])
theorem and_may {d : Nat} {l : List Qy} (hd : d ≤ 6) (h0 : 0 < l.length) (h8 : l.length ≤ 8) (h : ∀ a ∈ l, mayQ (d + 1) a = 0) : mayQ d (andQ l) = 0 := mayQ_of hd (kids_own (.inl rfl) h0 h8) (mayL_of h)
theorem or_may {d : Nat} {l : List Qy} (hd : d ≤ 6) (h0 : 0 < l.length) (h8 : l.length ≤ 8) (h : ∀ a ∈ l, mayQ (d + 1) a = 0) : mayQ d (orQ l) = 0 := mayQ_of hd (kids_own (.inr rfl) h0 h8) (mayL_of h)
theorem not_deep (a : Qy) : deepQ (notQ a) = 1 + deepQ a := by rw [notQ, deepQ, deepL, deepL, Nat.max_zero]
theorem not_fits (f : List Fd) (a : Qy) : fitsQ f (notQ a) = !fitsQ f a := by
  rw [notQ, (grade_kids _ _ (by decide) (by decide)).1, enoughQ, if_neg (by decide), if_neg (by decide), fitL, fitL]
  cases fitsQ f a <;> rfl
theorem not_score (f : List Fd) (a : Qy) : scoreQ f (notQ a) = 0 := by rw [notQ, scoreQ, if_pos (.inr rfl)]
theorem and_fits (f : List Fd) (l : List Qy) : fitsQ f (andQ l) = decide (fitL f l = l.length) := by rw [andQ, (grade_kids _ _ (by decide) (by decide)).1, enoughQ, if_pos rfl]
theorem or_fits (f : List Fd) (l : List Qy) : fitsQ f (orQ l) = decide (0 < fitL f l) := by rw [orQ, (grade_kids _ _ (by decide) (by decide)).1, enoughQ, if_neg (by decide), if_pos rfl]
theorem and_score (f : List Fd) (l : List Qy) : scoreQ f (andQ l) = if fitL f l = l.length then scoreL f l else 0 := by
  rw [andQ, (grade_kids _ _ (by decide) (by decide)).2, enoughQ, if_pos rfl]
  by_cases h : fitL f l = l.length
  · rw [if_pos (by simp [h]), if_pos h]
  · rw [if_neg (by simp [h]), if_neg h]
theorem or_score (f : List Fd) (l : List Qy) : scoreQ f (orQ l) = scoreL f l := by
  have e : enoughQ 3 (fitL f l) l.length = decide (0 < fitL f l) := by rw [enoughQ, if_neg (by decide), if_pos rfl]
  rw [orQ, (grade_kids _ _ (by decide) (by decide)).2, e]
  by_cases h : 0 < fitL f l
  · rw [if_pos (by simp [h])]
  · rw [if_neg (by simp [h]), scoreL_unfit (by omega)]
/-- As in logic. -/
theorem morgan (f : List Fd) (a b : Qy) : fitsQ f (andQ [a, b]) = !fitsQ f (orQ [notQ a, notQ b]) := by
  rw [and_fits, or_fits, fitL, fitL, fitL, fitL, fitL, fitL, not_fits, not_fits]
  cases fitsQ f a <;> cases fitsQ f b <;> rfl
end Go.Proofs.YtolfkhflbjnakaaGreatDoor

/- Nots, one in the other: which may be, how deep they are; in memory. -/
set_option linter.unusedVariables false
namespace Go.Proofs.YtolfkhflbjnakaaGreatDoor
open Go Go.RowKit

def nots : Nat → Qy → Qy
  | 0, a => a
  | n + 1, a => notQ (nots n a)
theorem nots_deep (a : Qy) : ∀ n, deepQ (nots n a) = n + deepQ a
  | 0 => by rw [nots]; omega
  | n + 1 => by rw [nots, not_deep, nots_deep a n]; omega
theorem mayL_one (d : Nat) (a : Qy) : mayL d [a] = mayQ d a := by
  rw [mayL]
  by_cases h : mayQ d a = 0
  · rw [if_neg (fun h' => h' h), mayL, h]
  · rw [if_pos h]
theorem nots_may {a : Qy} (ha : ∀ d, mayQ d a = if 6 < d then 8 else 0) : ∀ n d, mayQ d (nots n a) = if 6 < d + n then 8 else 0
  | 0, d => by rw [nots, ha]; rfl
  | n + 1, d => by
    rw [nots, notQ, mayQ, mayL_one, nots_may ha n (d + 1)]
    by_cases h : 6 < d
    · rw [if_pos h, if_pos (by omega)]
    · rw [if_neg h, List.length_singleton, not_own 0, if_neg (fun h => h rfl)]
      by_cases h2 : 6 < d + (n + 1)
      · rw [if_pos h2, if_pos (by omega)]
      · rw [if_neg h2, if_neg (by omega)]
theorem nots_fine {a : Qy} (h : FineQ a) : ∀ n, FineQ (nots n a)
  | 0 => h
  | n + 1 => by
    rw [nots, notQ, FineQ]
    exact ⟨⟨by simp, by simp⟩, ⟨by simp, by simp⟩, by simp, fineL_of fun q hq => by rw [List.mem_singleton.1 hq]; exact nots_fine h n⟩
/-- A term made of any: it may be, wherever it stands. -/
theorem good_leaf (t : Tm) : goodQ 1 (.mk 0 t [] []) = .mk 1 (goodFn t.1, goodWd t.2) [] [] := by
  rw [goodQ, if_neg (fun h => absurd h.2.2 (by simp)), if_neg (fun h => absurd h.1 (by decide))]
theorem leaf_may {f x : Nm} (hf : nameB f = true) (hx : mayWord x = true) (d : Nat) : mayQ d (.mk 1 (f, x) [] []) = if 6 < d then 8 else 0 := by
  have h : ownQ 1 (f, x) [] 0 = 0 := by
    rw [ownQ, if_neg (by decide), if_neg (by decide), if_neg (by simp)]
    simp only
    rw [if_neg (by rw [hf]; decide), if_pos trivial, if_pos hx]
  rw [mayQ, List.length_nil, h, mayL]
  split <;> rfl
/-- A query behind one kid. -/
theorem not_val {p p' : Nat → Prop} {w w' : World} {q : Qy} {k : Int} {f x : ByteArray} {A K : Option Addr} {n c m d g : Nat} (h : QV p w q (qV k f x A n c K m d)) (hk : ∀ b, p b → w'.heap[b]? = w.heap[b]?) (hp : ∀ b, p b → p' b) (hg : p' g)
    (hc : w'.heap[g]? = some (.cells #[.int .i64 k, .string f, .string x, .slice A n c, .slice K m d] 27 (0, 0))) : QV p' w' (notQ q) (qV 4 ⟨#[]⟩ ⟨#[]⟩ none 0 0 (some ⟨g, 0, none⟩) 1 1) := by
  obtain ⟨k1, f1, x1, A1, n1, c1, K1, m1, d1, e, h⟩ := h
  injection e with e
  simp only [Array.mk.injEq, List.cons.injEq, Value.int.injEq, true_and, Value.string.injEq, Value.slice.injEq, and_true] at e
  obtain ⟨rfl, rfl, rfl, ⟨rfl, rfl, rfl⟩, rfl, rfl, rfl⟩ := e
  refine QV.mk (ds := qC k f x A n c K m d) rfl rfl rfl rfl (Nat.le_refl _) (Nat.le_refl _) (.inl rfl) (.inr ⟨g, 0, rfl, hg, fun j u hu => ?_⟩) ?_
  · have hj : j < 5 := by have := (List.getElem?_eq_some_iff.1 hu).1; simpa using this
    obtain ⟨⟨h0, h1, h2, h3, h4⟩, -⟩ := five_cells hc
    match j, hj with
    | 0, _ => simpa using h0.trans hu
    | 1, _ => simpa using h1.trans hu
    | 2, _ => simpa using h2.trans hu
    | 3, _ => simpa using h3.trans hu
    | 4, _ => simpa using h4.trans hu
  · rw [QsAt]
    exact ⟨_, [], by simp, (QAt.keep h hk).imp hp, QsAt.nil⟩
/-- A query in a variable, that a query of itself is written over. -/
def VarQ (w0 : World) (B : Nat) (q : Qy) (wr : World) : Prop := Below w0.heap.size w0 wr ∧ w0.heap.size ≤ B ∧ ∃ k f x A n c K m d, wr.heap[B]? = some (.cells #[.int .i64 k, .string f, .string x, .slice A n c, .slice K m d] 27 (0, 0)) ∧ QV (fun b => b ≠ B ∧ b < wr.heap.size) wr q (qV k f x A n c K m d)
theorem VarQ.made {w0 w : World} {q : Qy} {k : Int} {f x : ByteArray} {A K : Option Addr} {n c m d : Nat} (hb : Below w0.heap.size w0 w) (h : QIn w q (qV k f x A n c K m d)) : VarQ w0 w.heap.size q (boxQ w k f x A n c K m d) :=
  ⟨hb.trans (boxQ_below.mono hb.size), hb.size, k, f, x, A, n, c, K, m, d, heap_alloc_new _ _, (h.keep fun b hb => boxQ_below.block b hb).imp fun b hb => ⟨by omega, by rw [boxQ_size]; omega⟩⟩
theorem VarQ.cells {w0 wr : World} {B : Nat} {q : Qy} (h : VarQ w0 B q wr) : ∃ k f x A n c K m d, (wr.cell? ⟨B, 0, none⟩ = some (.int .i64 k) ∧ wr.cell? ⟨B, 1, none⟩ = some (.string f) ∧ wr.cell? ⟨B, 2, none⟩ = some (.string x) ∧ wr.cell? ⟨B, 3, none⟩ = some (.slice A n c) ∧ wr.cell? ⟨B, 4, none⟩ = some (.slice K m d)) ∧
    (wr.frozen? ⟨B, 0, none⟩ = false ∧ wr.frozen? ⟨B, 1, none⟩ = false ∧ wr.frozen? ⟨B, 2, none⟩ = false ∧ wr.frozen? ⟨B, 3, none⟩ = false ∧ wr.frozen? ⟨B, 4, none⟩ = false) ∧ B < wr.heap.size ∧
    QIn wr q (qV k f x A n c K m d) ∧ Below w0.heap.size w0 wr ∧ w0.heap.size ≤ B ∧
    VarQ w0 B (notQ q) (boxQ (set5 wr B (.int .i64 4) (.string ⟨#[]⟩) (.string ⟨#[]⟩) (.slice none 0 0) (.slice (some ⟨wr.heap.size, 0, none⟩) 1 1)) k f x A n c K m d) := by
  obtain ⟨h1, h2, k, f, x, A, n, c, K, m, d, h3, h4⟩ := h
  have hlt : B < wr.heap.size := (Array.getElem?_eq_some_iff.1 h3).1
  obtain ⟨c5, f5⟩ := five_cells h3
  obtain ⟨w5, hw5⟩ : ∃ w5, w5 = set5 wr B (.int .i64 4) (.string ⟨#[]⟩) (.string ⟨#[]⟩) (.slice none 0 0) (.slice (some ⟨wr.heap.size, 0, none⟩) 1 1) := ⟨_, rfl⟩
  have hs5 : w5.heap.size = wr.heap.size := by rw [hw5, set5_size]
  have hs : (boxQ w5 k f x A n c K m d).heap.size = wr.heap.size + 1 := by rw [boxQ_size, hs5]
  have hb5 : Below w0.heap.size w0 w5 := by rw [hw5]; exact set5_below h1 h2
  have hB : w5.heap[B]? = some (.cells #[.int .i64 4, .string ⟨#[]⟩, .string ⟨#[]⟩, .slice none 0 0, .slice (some ⟨wr.heap.size, 0, none⟩) 1 1] 27 (0, 0)) := by rw [hw5]; exact set5_at h3
  rw [← hw5]
  refine ⟨k, f, x, A, n, c, K, m, d, c5, f5, hlt, h4.imp fun b hb => hb.2, h1, h2, hb5.trans (boxQ_below.mono hb5.size), h2, 4, ⟨#[]⟩, ⟨#[]⟩, none, 0, 0, _, 1, 1, (boxQ_below.block B (by omega)).trans hB, ?_⟩
  refine not_val h4 (fun b hb => ?_) (fun b hb => ⟨hb.1, by rw [hs]; omega⟩) ⟨by omega, by rw [hs]; omega⟩ ?_
  · rw [boxQ_below.block b (by rw [hs5]; exact hb.2), hw5]
    exact set5_ne (fun e => hb.1 e.symm)
  · rw [← hs5]
    exact heap_alloc_new _ _
end Go.Proofs.YtolfkhflbjnakaaGreatDoor

/- How deep a query is, told by a list of what is left to do: kids that are left, one list behind the other, each one deeper. Plain; no program. -/
set_option linter.unusedVariables false
namespace Go.Proofs.YtolfkhflbjnakaaGreatDoor
open Go

def kidsOf : Qy → List Qy
  | .mk _ _ _ ks => ks
theorem deepQ_kids (q : Qy) : deepQ q = 1 + deepL (kidsOf q) := by cases q; rw [deepQ]; rfl
theorem sizeQ_kids (q : Qy) : sizeQ q = 1 + sizeL (kidsOf q) := by cases q; rw [sizeQ]; rfl
/-- How deep what is left reaches, where the first list stands so deep. -/
def wayM : List (List Qy) → Nat → Nat
  | [], _ => 0
  | l :: r, i => max (i + 1 + deepL l) (wayM r (i + 1))
theorem wayM_snoc : ∀ (a : List (List Qy)) (l : List Qy) (i : Nat), wayM (a ++ [l]) i = max (wayM a i) (i + a.length + 1 + deepL l)
  | [], l, i => by rw [List.nil_append, wayM, wayM, wayM]; simp
  | x :: a, l, i => by
    rw [List.cons_append, wayM, wayM, wayM_snoc a l (i + 1), List.length_cons]
    omega
/-- What is left to do, counted. -/
def wayS : List (List Qy) → Nat
  | [] => 0
  | l :: r => 2 * sizeL l + 1 + wayS r
theorem wayS_snoc : ∀ (a : List (List Qy)) (l : List Qy), wayS (a ++ [l]) = wayS a + (2 * sizeL l + 1)
  | [], l => by simp [wayS]
  | x :: a, l => by
    rw [List.cons_append, wayS, wayS, wayS_snoc a l]
    omega
/-- So deep it is: as deep as was seen, or as what is left reaches. -/
def WayOk (D : Nat) (way : List (List Qy)) (N : Nat) : Prop := way.length ≤ D ∧ max D (wayM way 0) = N
theorem WayOk.start (q : Qy) : WayOk 1 [kidsOf q] (deepQ q) := by
  refine ⟨Nat.le_refl _, ?_⟩
  rw [deepQ_kids, wayM, wayM]
  omega
theorem WayOk.pop {D N : Nat} {a : List (List Qy)} (h : WayOk D (a ++ [[]]) N) : WayOk D a N ∧ wayS a < wayS (a ++ [[]]) := by
  obtain ⟨h1, h2⟩ := h
  rw [List.length_append, List.length_singleton] at h1
  rw [wayM_snoc, deepL] at h2
  refine ⟨⟨by omega, by omega⟩, ?_⟩
  rw [wayS_snoc]
  omega
theorem WayOk.push {D N : Nat} {a : List (List Qy)} {q : Qy} {r : List Qy} (h : WayOk D (a ++ [q :: r]) N) : WayOk (max D (a.length + 2)) (a ++ [r] ++ [kidsOf q]) N ∧ wayS (a ++ [r] ++ [kidsOf q]) < wayS (a ++ [q :: r]) := by
  obtain ⟨h1, h2⟩ := h
  rw [List.length_append, List.length_singleton] at h1
  rw [wayM_snoc, deepL, deepQ_kids] at h2
  refine ⟨⟨by simp only [List.length_append, List.length_singleton]; omega, ?_⟩, ?_⟩
  · rw [wayM_snoc, wayM_snoc, List.length_append, List.length_singleton]
    omega
  · rw [wayS_snoc, wayS_snoc, wayS_snoc, sizeL, sizeQ_kids]
    omega
theorem WayOk.done {D N : Nat} (h : WayOk D [] N) : D = N := by
  have := h.2
  rw [wayM] at this
  omega
/-- The list is never longer than the query is deep. -/
theorem WayOk.le {D N : Nat} {way : List (List Qy)} (h : WayOk D way N) : way.length ≤ N ∧ D ≤ N := by
  have h1 := h.1
  have h2 := h.2
  omega
end Go.Proofs.YtolfkhflbjnakaaGreatDoor

/- What a kind of queries must be like: the fields that it does not have are zero. -/
namespace Go.Proofs.YtolfkhflbjnakaaGreatDoor
open Go Go.RowKit
set_option linter.unusedVariables false

def bareT (n m : Nat) : Bool := decide (n = 0) && decide (m = 0)
def bareP (x : ByteArray) (m : Nat) : Bool := decide (x.data.toList = []) && decide (m = 0)
def bareK (f x : ByteArray) (n : Nat) : Bool := decide (f.data.toList = [] ∧ x.data.toList = []) && decide (n = 0)
theorem empty_of {x : ByteArray} (h : x.data.toList = []) : x = ⟨#[]⟩ := by
  obtain ⟨⟨l⟩⟩ := x
  simp only at h
  subst h
  rfl
theorem toList_nil {x : ByteArray} (h : x.data.toList = []) : x.toList = [] := by rw [ByteArray.toList_eq]; exact h
theorem toList_some {x : ByteArray} (h : ¬ x.data.toList = []) : ¬ x.toList = [] := by rw [ByteArray.toList_eq]; exact h
section
variable (k : Int) (f x : ByteArray) (A : Option Addr) (n c : Nat) (K : Option Addr) (m d : Nat) (w : World)
set_option maxHeartbeats 1000000 in
set_option maxRecDepth 100000 in
theorem query_bareTerm : Calls Tryz.prog 57 #[qV k f x A n c K m d] w fun e w' => e = .returned (.bool (bareT n m)) ∧ Below w.heap.size w w' := by
  obtain ⟨z, hz⟩ : ∃ z, z = bareT n m := ⟨_, rfl⟩
  rw [← hz]
  by_cases hn : n = 0
  · subst hn
    have HZ : Hid (((m : Int) == 0) = z) := Lib.hid (by rw [hz, Bool.eq_iff_iff]; simp [bareT])
    clear hz
    go_enter Tryz.func57, Tryz.ntmps57
    go_wp2
    go_ret
    exact ⟨ret_bool HZ.out, (Below.refl _ _).alloc (Nat.le_refl _) _⟩
  · have HZ : Hid (false = z) := Lib.hid (by rw [hz]; simp [bareT, hn])
    have hn' : ((n : Int) == 0) = false := by rw [beq_eq_false_iff_ne]; omega
    clear hz
    go_enter Tryz.func57, Tryz.ntmps57
    go_wp2
    go_ret
    exact ⟨ret_bool HZ.out, (Below.refl _ _).alloc (Nat.le_refl _) _⟩
set_option maxHeartbeats 1000000 in
set_option maxRecDepth 100000 in
theorem query_barePhrase : Calls Tryz.prog 62 #[qV k f x A n c K m d] w fun e w' => e = .returned (.bool (bareP x m)) ∧ Below w.heap.size w w' := by
  obtain ⟨z, hz⟩ : ∃ z, z = bareP x m := ⟨_, rfl⟩
  rw [← hz]
  by_cases hx : x.data.toList = []
  · have hx' := toList_nil hx
    have HZ : Hid (((m : Int) == 0) = z) := Lib.hid (by rw [hz, Bool.eq_iff_iff]; simp [bareP, hx])
    clear hz hx
    go_enter Tryz.func62, Tryz.ntmps62
    go_wp2
    go_ret
    exact ⟨ret_bool HZ.out, (Below.refl _ _).alloc (Nat.le_refl _) _⟩
  · have hx' := toList_some hx
    have HZ : Hid (false = z) := Lib.hid (by rw [hz]; simp [bareP, hx])
    clear hz hx
    go_enter Tryz.func62, Tryz.ntmps62
    go_wp2
    go_ret
    exact ⟨ret_bool HZ.out, (Below.refl _ _).alloc (Nat.le_refl _) _⟩
set_option maxHeartbeats 1000000 in
set_option maxRecDepth 100000 in
theorem query_bareKids : Calls Tryz.prog 67 #[qV k f x A n c K m d] w fun e w' => e = .returned (.bool (bareK f x n)) ∧ Below w.heap.size w w' := by
  obtain ⟨z, hz⟩ : ∃ z, z = bareK f x n := ⟨_, rfl⟩
  rw [← hz]
  by_cases hf : f.data.toList = []
  · have hf' := toList_nil hf
    by_cases hx : x.data.toList = []
    · have hx' := toList_nil hx
      have HZ : Hid (((n : Int) == 0) = z) := Lib.hid (by rw [hz, Bool.eq_iff_iff]; simp [bareK, hx, hf])
      clear hz hx hf
      go_enter Tryz.func67, Tryz.ntmps67
      go_wp2
      go_ret
      exact ⟨ret_bool HZ.out, (Below.refl _ _).alloc (Nat.le_refl _) _⟩
    · have hx' := toList_some hx
      have HZ : Hid (false = z) := Lib.hid (by rw [hz]; simp [bareK, hx])
      clear hz hx hf
      go_enter Tryz.func67, Tryz.ntmps67
      go_wp2
      go_ret
      exact ⟨ret_bool HZ.out, (Below.refl _ _).alloc (Nat.le_refl _) _⟩
  · have hf' := toList_some hf
    have HZ : Hid (false = z) := Lib.hid (by rw [hz]; simp [bareK, hf])
    clear hz hf
    go_enter Tryz.func67, Tryz.ntmps67
    go_wp2
    go_ret
    exact ⟨ret_bool HZ.out, (Below.refl _ _).alloc (Nat.le_refl _) _⟩
end
end Go.Proofs.YtolfkhflbjnakaaGreatDoor

/- What kinds makes: the map of what queries of one kind must be, and do. -/
namespace Go.Proofs.YtolfkhflbjnakaaGreatDoor
open Go Go.RowKit
open Go.ChangeMaps (setBlock)
set_option linter.unusedVariables false

set_option maxRecDepth 100000 in
theorem query_mayKids (n : Int) (w : World) : Calls Tryz.prog 68 #[.int .i64 n] w fun e w' => e = .returned (.func (.func 106) #[] #[.pointer (some ⟨w.heap.size, 0, none⟩)]) ∧ w.alloc (.cells #[.int .i64 n] 3) = w' := by
  go_enter Tryz.func68, Tryz.ntmps68
  go_wp2
  go_ret
  exact ⟨rfl, rfl⟩
set_option maxRecDepth 100000 in
theorem query_kidsGrade (g : Nat) (w : World) : Calls Tryz.prog 71 #[.func (.func g) #[] #[]] w fun e w' => e = .returned (.func (.func 107) #[] #[.pointer (some ⟨w.heap.size, 0, none⟩)]) ∧ w.alloc (.cells #[.func (.func g) #[] #[]] 80) = w' := by
  go_enter Tryz.func71, Tryz.ntmps71
  go_wp2
  go_ret
  exact ⟨rfl, rfl⟩

/-- What a term, a phrase, a query of kids must be, and does. -/
def kT : Value := .agg #[.func (.func 57) #[] #[], .func (.func 58) #[] #[], .func (.func 59) #[] #[], .func (.func 60) #[] #[], .func (.func 61) #[] #[]]
def kP : Value := .agg #[.func (.func 62) #[] #[], .func (.func 63) #[] #[], .func (.func 64) #[] #[], .func (.func 65) #[] #[], .func (.func 66) #[] #[]]
def kK (b g : Nat) : Value := .agg #[.func (.func 67) #[] #[], .func (.func 106) #[] #[.pointer (some ⟨b, 0, none⟩)], .func (.func 69) #[] #[], .func (.func 70) #[] #[], .func (.func 107) #[] #[.pointer (some ⟨g, 0, none⟩)]]
def entI (k : Int) (v : Value) (i : Nat) : MapEntry := { key := .int .i64 k, val := v, born := i }
def kEnts (b2 g2 b3 g3 b4 g4 : Nat) : List MapEntry := [entI 1 kT 0, entI 5 kP 1, entI 2 (kK b2 g2) 2, entI 3 (kK b3 g3) 3, entI 4 (kK b4 g4) 4]
/-- The map of kinds lies at block B. -/
structure KindsAt (w : World) (B b2 g2 b3 g3 b4 g4 : Nat) : Prop where
  map : w.heap[B]? = some (.map (kEnts b2 g2 b3 g3 b4 g4).toArray 5)
  m2 : w.heap[b2]? = some (.cells #[.int .i64 8] 3 (0, 0))
  m3 : w.heap[b3]? = some (.cells #[.int .i64 8] 3 (0, 0))
  m4 : w.heap[b4]? = some (.cells #[.int .i64 1] 3 (0, 0))
  f2 : w.heap[g2]? = some (.cells #[.func (.func 72) #[] #[]] 80 (0, 0))
  f3 : w.heap[g3]? = some (.cells #[.func (.func 73) #[] #[]] 80 (0, 0))
  f4 : w.heap[g4]? = some (.cells #[.func (.func 74) #[] #[]] 80 (0, 0))
theorem KindsAt.below {w w' : World} {B b2 g2 b3 g3 b4 g4 : Nat} (h : KindsAt w B b2 g2 b3 g3 b4 g4) (hb : Below w.heap.size w w') : KindsAt w' B b2 g2 b3 g3 b4 g4 :=
  have k : ∀ {b : Nat} {o : Obj}, w.heap[b]? = some o → w'.heap[b]? = some o := fun e => (hb.block _ (Array.getElem?_eq_some_iff.1 e).1).trans e
  ⟨k h.map, k h.m2, k h.m3, k h.m4, k h.f2, k h.f3, k h.f4⟩

theorem run_check_ki (em : Bool) (k : Int) (w : World) : (Instr.checkKey em 10000 3 (.int .i64 k)).run Tryz.prog w = .ok () w := by
  have h : ∀ d : Nat, (Instr.checkKey em (d + 1) 3 (.int .i64 k)).run Tryz.prog w = .ok () w := fun d => by
    simp [Instr.checkKey, run_underlying Tryz.underlying3]
  exact h 9999
theorem run_find_ki {es : List MapEntry} {k : Int} {r : Option (Nat × Value)} (h : Instr.findNow (.int .i64) (.int .i64 k) es 0 = some r) (w : World) : (Instr.findKey 3 (.int .i64 k) es).run Tryz.prog w = .ok r w := by
  simp only [Instr.findKey, Sem.run_bind, run_underlying Tryz.underlying3, Result.andThen, h]
  simp [Sem.run_pure]
section
variable {ops : Array Oper} {rest : List Oper} {o : Oper} {a : Act} {Q : Exit → Act → World → Prop}
theorem wpList_insert_ki (w : World) (hg : o.guard = none) (x y z : Operand) (hop : o.op = Op.insert 55 x y z) (B c : Nat) (es : List MapEntry) (k : Int) (v : Value) (hx : a.eval x = .map (some B)) (hat : w.heap[B]? = some (.map es.toArray c)) (hy : a.eval y = .int .i64 k) (hz : a.eval z = v)
    (hf : Instr.findNow (.int .i64) (.int .i64 k) es 0 = some none)
    (hK : ∀ w', w'.heap[B]? = some (.map (es ++ [entI k v c]).toArray (c + 1)) → w.grownBy w' (some B) → wpList Tryz.prog ops Q rest (a.put o.dst undef) w') : wpList Tryz.prog ops Q (o :: rest) a w := by
  refine wpList_plain hg fun K' hK' => ?_
  have hrun : (Instr.mapUpdate 55 (.map (some B)) (.int .i64 k) v).run Tryz.prog w = .ok () (setBlock w B (.map (es ++ [entI k v c]).toArray (c + 1))) := by
    have hp : es.toArray.push { key := .int .i64 k, val := v, born := c } = (es ++ [entI k v c]).toArray := by rw [List.push_toArray]; rfl
    rw [← hp]
    simp [Instr.mapUpdate, run_underlying Tryz.underlying55, MapKept.run_getObj_map hat, run_check_ki, run_find_ki hf, Result.andThen, MapKept.run_setObj_map _ hat, setBlock]
  unfold Oper.wp
  simp [execOp, hop, hx, hy, hz, hrun, Result.andThen]
  exact hK' _ _ (hK _ (ChangeMaps.heap_setBlock_same hat _) ⟨rfl, rfl, rfl, by simp [setBlock], fun k _ hk => ChangeMaps.heap_setBlock_other hat _ (fun e => hk (by rw [e]))⟩)
end
/-- What is found in the map of kinds. -/
theorem run_lookup_ki {w : World} {B b2 g2 b3 g3 b4 g4 : Nat} (h : KindsAt w B b2 g2 b3 g3 b4 g4) {k : Int} {r : Option (Nat × Value)} (hf : Instr.findNow (.int .i64) (.int .i64 k) (kEnts b2 g2 b3 g3 b4 g4) 0 = some r) (ok : Bool) :
    (Instr.lookup 55 (.map (some B)) (.int .i64 k) ok).run Tryz.prog w = .ok (match r with | some (_, v) => if ok = true then .tuple #[v, .bool true] else v | none => if ok = true then .tuple #[.agg #[.nilFunc, .nilFunc, .nilFunc, .nilFunc, .nilFunc], .bool false] else .agg #[.nilFunc, .nilFunc, .nilFunc, .nilFunc, .nilFunc]) w := by
  have hf' := run_find_ki hf w
  cases r with
  | none => simp [Instr.lookup, run_underlying Tryz.underlying55, MapKept.run_getObj_map h.map, run_check_ki, hf', Result.andThen, Tryz.zeroValue65]
  | some y => simp [Instr.lookup, run_underlying Tryz.underlying55, MapKept.run_getObj_map h.map, run_check_ki, hf', Result.andThen]
theorem find_kind {b2 g2 b3 g3 b4 g4 : Nat} : Instr.findNow (.int .i64) (.int .i64 1) (kEnts b2 g2 b3 g3 b4 g4) 0 = some (some (0, kT)) ∧ Instr.findNow (.int .i64) (.int .i64 5) (kEnts b2 g2 b3 g3 b4 g4) 0 = some (some (1, kP)) ∧
    Instr.findNow (.int .i64) (.int .i64 2) (kEnts b2 g2 b3 g3 b4 g4) 0 = some (some (2, kK b2 g2)) ∧ Instr.findNow (.int .i64) (.int .i64 3) (kEnts b2 g2 b3 g3 b4 g4) 0 = some (some (3, kK b3 g3)) ∧ Instr.findNow (.int .i64) (.int .i64 4) (kEnts b2 g2 b3 g3 b4 g4) 0 = some (some (4, kK b4 g4)) :=
  ⟨rfl, rfl, rfl, rfl, rfl⟩
theorem find_kind_no {b2 g2 b3 g3 b4 g4 : Nat} {k : Int} (h : k < 1 ∨ 5 < k) : Instr.findNow (.int .i64) (.int .i64 k) (kEnts b2 g2 b3 g3 b4 g4) 0 = some none := by
  have e1 : (k == 1) = false := by rw [beq_eq_false_iff_ne]; omega
  have e2 : (k == 5) = false := by rw [beq_eq_false_iff_ne]; omega
  have e3 : (k == 2) = false := by rw [beq_eq_false_iff_ne]; omega
  have e4 : (k == 3) = false := by rw [beq_eq_false_iff_ne]; omega
  have e5 : (k == 4) = false := by rw [beq_eq_false_iff_ne]; omega
  simp [kEnts, entI, Instr.findNow, Instr.sameNow, e1, e2, e3, e4, e5]
def GaveKinds (w : World) (e : Ending) (w' : World) : Prop := ∃ B b2 g2 b3 g3 b4 g4, e = .returned (.map (some B)) ∧ KindsAt w' B b2 g2 b3 g3 b4 g4 ∧ Below w.heap.size w w'
/-- The map that is being made; what else was made meanwhile. -/
def MkAt (w w' : World) (es : List MapEntry) (c : Nat) : Prop := w'.heap[w.heap.size]? = some (.map es.toArray c) ∧ Below w.heap.size w w'
def Made1 (w w' : World) (b : Nat) (o : Obj) : Prop := w'.heap[b]? = some o ∧ w.heap.size < b
section
variable {w w' w'' : World} {es : List MapEntry} {c b : Nat} {o o' : Obj}
theorem MkAt.alloc (h : MkAt w w' es c) : MkAt w (w'.alloc o) es c := ⟨by rw [← h.1]; exact heap_alloc_old _ _ (Array.getElem?_eq_some_iff.1 h.1).1, h.2.trans ((Below.refl _ _).alloc h.2.size _)⟩
theorem MkAt.grown {es' : List MapEntry} {c' : Nat} (h : MkAt w w' es c) (h1 : w''.heap[w.heap.size]? = some (.map es'.toArray c')) (hg : w'.grownBy w'' (some w.heap.size)) : MkAt w w'' es' c' :=
  ⟨h1, h.2.trans ((Below.refl _ _).grown hg h.2.size (fun k hk => by injection hk with hk; omega))⟩
theorem Made1.alloc (h : Made1 w w' b o) : Made1 w (w'.alloc o') b o := ⟨by rw [← h.1]; exact heap_alloc_old _ _ (Array.getElem?_eq_some_iff.1 h.1).1, h.2⟩
theorem Made1.grown (h : Made1 w w' b o) (hg : w'.grownBy w'' (some w.heap.size)) : Made1 w w'' b o :=
  ⟨(hg.block b (Array.getElem?_eq_some_iff.1 h.1).1 (fun e => by injection e with e; have := h.2; omega)).trans h.1, h.2⟩
theorem MkAt.new (h : MkAt w w' es c) : Made1 w (w'.alloc o) w'.heap.size o := ⟨heap_alloc_new _ _, (Array.getElem?_eq_some_iff.1 h.1).1⟩
end
set_option maxHeartbeats 4000000 in
set_option maxRecDepth 100000 in
theorem query_kinds (w : World) : Calls Tryz.prog 34 #[] w (GaveKinds w) := by
  have hmm := @run_makeMap Tryz.prog
  have H0 : Hid (MkAt w (w.alloc (.map #[] 0)) [] 0) := Lib.hid ⟨heap_alloc_new w _, (Below.refl _ _).alloc (Nat.le_refl _) _⟩
  go_enter Tryz.func34, Tryz.ntmps34
  go_wp2_with (first
    | (refine wpList_insert_ki _ (by rfl) _ _ _ (by rfl) w.heap.size 0 [] 1 _ (by rfl) H0.out.1 (by rfl) (by rfl) (by rfl) ?_; intro w1 hm hg; have H1 := Lib.hid (H0.out.grown hm hg); clear hm hg)
    | (refine wpList_insert_ki _ (by rfl) _ _ _ (by rfl) w.heap.size 1 [entI 1 kT 0] 5 _ (by rfl) H1.out.1 (by rfl) (by rfl) (by rfl) ?_; intro w2 hm hg; have H2 := Lib.hid (H1.out.grown hm hg); clear hm hg)
    | (go_at_call 68; (with_reducible refine (query_mayKids 8 _).mono ?_); rintro e w3 ⟨rfl, hw⟩; have H3 : Hid (MkAt w w3 _ _) := Lib.hid (by rw [← hw]; exact H2.out.alloc); have Gm2_3 : Hid (Made1 w w3 _ (.cells #[.int .i64 8] 3)) := Lib.hid (by rw [← hw]; exact H2.out.new); clear hw)
    | (go_at_call 71; (with_reducible refine (query_kidsGrade _ _).mono ?_); rintro e w4 ⟨rfl, hw⟩; have H4 : Hid (MkAt w w4 _ _) := Lib.hid (by rw [← hw]; exact H3.out.alloc); have Gg2_4 : Hid (Made1 w w4 _ (.cells #[.func (.func 72) #[] #[]] 80)) := Lib.hid (by rw [← hw]; exact H3.out.new); have Gm2_4 : Hid (Made1 w w4 _ _) := Lib.hid (by rw [← hw]; exact Gm2_3.out.alloc); clear hw)
    | (refine wpList_insert_ki _ (by rfl) _ _ _ (by rfl) w.heap.size 2 [entI 1 kT 0, entI 5 kP 1] 2 _ (by rfl) H4.out.1 (by rfl) (by rfl) (by rfl) ?_; intro w5 hm hg; have H5 := Lib.hid (H4.out.grown hm hg); have Gm2_5 := Lib.hid (Gm2_4.out.grown hg); have Gg2_5 := Lib.hid (Gg2_4.out.grown hg); clear hm hg)
    | (go_at_call 68; (with_reducible refine (query_mayKids 8 _).mono ?_); rintro e w6 ⟨rfl, hw⟩; have H6 : Hid (MkAt w w6 _ _) := Lib.hid (by rw [← hw]; exact H5.out.alloc); have Gm3_6 : Hid (Made1 w w6 _ (.cells #[.int .i64 8] 3)) := Lib.hid (by rw [← hw]; exact H5.out.new); have Gm2_6 : Hid (Made1 w w6 _ _) := Lib.hid (by rw [← hw]; exact Gm2_5.out.alloc); have Gg2_6 : Hid (Made1 w w6 _ _) := Lib.hid (by rw [← hw]; exact Gg2_5.out.alloc); clear hw)
    | (go_at_call 71; (with_reducible refine (query_kidsGrade _ _).mono ?_); rintro e w7 ⟨rfl, hw⟩; have H7 : Hid (MkAt w w7 _ _) := Lib.hid (by rw [← hw]; exact H6.out.alloc); have Gg3_7 : Hid (Made1 w w7 _ (.cells #[.func (.func 73) #[] #[]] 80)) := Lib.hid (by rw [← hw]; exact H6.out.new); have Gm2_7 : Hid (Made1 w w7 _ _) := Lib.hid (by rw [← hw]; exact Gm2_6.out.alloc); have Gg2_7 : Hid (Made1 w w7 _ _) := Lib.hid (by rw [← hw]; exact Gg2_6.out.alloc); have Gm3_7 : Hid (Made1 w w7 _ _) := Lib.hid (by rw [← hw]; exact Gm3_6.out.alloc); clear hw)
    | (refine wpList_insert_ki _ (by rfl) _ _ _ (by rfl) w.heap.size 3 [entI 1 kT 0, entI 5 kP 1, entI 2 (kK w2.heap.size w3.heap.size) 2] 3 _ (by rfl) H7.out.1 (by rfl) (by rfl) (by rfl) ?_; intro w8 hm hg; have H8 := Lib.hid (H7.out.grown hm hg); have Gm2_8 := Lib.hid (Gm2_7.out.grown hg); have Gg2_8 := Lib.hid (Gg2_7.out.grown hg); have Gm3_8 := Lib.hid (Gm3_7.out.grown hg); have Gg3_8 := Lib.hid (Gg3_7.out.grown hg); clear hm hg)
    | (go_at_call 68; (with_reducible refine (query_mayKids 1 _).mono ?_); rintro e w9 ⟨rfl, hw⟩; have H9 : Hid (MkAt w w9 _ _) := Lib.hid (by rw [← hw]; exact H8.out.alloc); have Gm4_9 : Hid (Made1 w w9 _ (.cells #[.int .i64 1] 3)) := Lib.hid (by rw [← hw]; exact H8.out.new); have Gm2_9 : Hid (Made1 w w9 _ _) := Lib.hid (by rw [← hw]; exact Gm2_8.out.alloc); have Gg2_9 : Hid (Made1 w w9 _ _) := Lib.hid (by rw [← hw]; exact Gg2_8.out.alloc); have Gm3_9 : Hid (Made1 w w9 _ _) := Lib.hid (by rw [← hw]; exact Gm3_8.out.alloc); have Gg3_9 : Hid (Made1 w w9 _ _) := Lib.hid (by rw [← hw]; exact Gg3_8.out.alloc); clear hw)
    | (go_at_call 71; (with_reducible refine (query_kidsGrade _ _).mono ?_); rintro e w10 ⟨rfl, hw⟩; have H10 : Hid (MkAt w w10 _ _) := Lib.hid (by rw [← hw]; exact H9.out.alloc); have Gg4_10 : Hid (Made1 w w10 _ (.cells #[.func (.func 74) #[] #[]] 80)) := Lib.hid (by rw [← hw]; exact H9.out.new); have Gm2_10 : Hid (Made1 w w10 _ _) := Lib.hid (by rw [← hw]; exact Gm2_9.out.alloc); have Gg2_10 : Hid (Made1 w w10 _ _) := Lib.hid (by rw [← hw]; exact Gg2_9.out.alloc); have Gm3_10 : Hid (Made1 w w10 _ _) := Lib.hid (by rw [← hw]; exact Gm3_9.out.alloc); have Gg3_10 : Hid (Made1 w w10 _ _) := Lib.hid (by rw [← hw]; exact Gg3_9.out.alloc); have Gm4_10 : Hid (Made1 w w10 _ _) := Lib.hid (by rw [← hw]; exact Gm4_9.out.alloc); clear hw)
    | (refine wpList_insert_ki _ (by rfl) _ _ _ (by rfl) w.heap.size 4 [entI 1 kT 0, entI 5 kP 1, entI 2 (kK w2.heap.size w3.heap.size) 2, entI 3 (kK w5.heap.size w6.heap.size) 3] 4 _ (by rfl) H10.out.1 (by rfl) (by rfl) (by rfl) ?_; intro w11 hm hg; have H11 := Lib.hid (H10.out.grown hm hg); have Gm2_11 := Lib.hid (Gm2_10.out.grown hg); have Gg2_11 := Lib.hid (Gg2_10.out.grown hg); have Gm3_11 := Lib.hid (Gm3_10.out.grown hg); have Gg3_11 := Lib.hid (Gg3_10.out.grown hg); have Gm4_11 := Lib.hid (Gm4_10.out.grown hg); have Gg4_11 := Lib.hid (Gg4_10.out.grown hg); clear hm hg))
  go_ret
  exact ⟨w.heap.size, _, _, _, _, _, _, rfl, ⟨H11.out.1, Gm2_11.out.1, Gm3_11.out.1, Gm4_11.out.1, Gg2_11.out.1, Gg3_11.out.1, Gg4_11.out.1⟩, H11.out.2⟩
end Go.Proofs.YtolfkhflbjnakaaGreatDoor

/- Grades in memory: two cells each; lists of grades of the call's own. -/
set_option linter.unusedVariables false
namespace Go.Proofs.YtolfkhflbjnakaaGreatDoor
open Go Go.RowKit

/-- A grade as a value; grades' cells, one behind the other. -/
abbrev gV (g : Bool × Nat) : Value := .agg #[.bool g.1, .int .i64 (g.2 : Int)]
def grC : List (Bool × Nat) → List Value
  | [] => []
  | g :: l => .bool g.1 :: .int .i64 (g.2 : Int) :: grC l
theorem grC_length : ∀ l : List (Bool × Nat), (grC l).length = l.length * 2
  | [] => rfl
  | g :: l => by simp only [grC, List.length_cons, grC_length l]; omega
theorem grC_append : ∀ a b : List (Bool × Nat), grC (a ++ b) = grC a ++ grC b
  | [], _ => rfl
  | g :: a, b => by simp [grC, grC_append a b]
theorem grC_at : ∀ {l : List (Bool × Nat)} {k : Nat} (hk : k < l.length), (grC l)[k * 2]? = some (.bool l[k].1) ∧ (grC l)[k * 2 + 1]? = some (.int .i64 (l[k].2 : Int))
  | [], _, h => by simp at h
  | f :: l, 0, _ => ⟨rfl, rfl⟩
  | f :: l, k + 1, h => by
    have := grC_at (l := l) (k := k) (by simpa using h)
    rw [show (k + 1) * 2 = k * 2 + 1 + 1 by omega]
    simpa [grC] using this
theorem info_grade : (Tryz.prog.info? 85).map (fun i => (i.zero, i.size, i.bytes)) = some (some (.agg #[.bool false, .int .i64 0]), 2, 16) := by kernel_rfl
/-- Grades behind an address. -/
def GRow (w : World) (A : Option Addr) (l : List (Bool × Nat)) : Prop := Row w w.heap.size A (grC l)
theorem GRow.later {w w' : World} {A : Option Addr} {l : List (Bool × Nat)} (h : GRow w A l) (hb : Below w.heap.size w w') : GRow w' A l := Row.more (Row.below h hb) hb.size
theorem GRow.at_ {w : World} {A : Option Addr} {l : List (Bool × Nat)} (h : GRow w A l) {k : Nat} (hk : k < l.length) :
    ∃ b off, A = some ⟨b, off, none⟩ ∧ b < w.heap.size ∧ w.cell? ⟨b, off + k * 2, none⟩ = some (.bool l[k].1) ∧ w.cell? ⟨b, off + k * 2 + 1, none⟩ = some (.int .i64 (l[k].2 : Int)) := by
  obtain ⟨b, off, rfl, hb, hc⟩ := Row.at_ h (by rw [grC_length]; omega)
  obtain ⟨g1, g2⟩ := grC_at hk
  exact ⟨b, off, rfl, hb, hc _ _ g1, by have := hc _ _ g2; rwa [← Nat.add_assoc] at this⟩
/-- A list of grades of the call's own. -/
def OwnGr (base : Nat) (w : World) (v : Value) (l : List (Bool × Nat)) : Prop := w.ownsRow base 85 2 v l.length (grC l)
theorem OwnGr.nil {base : Nat} {w : World} : OwnGr base w (.slice none 0 0) [] := World.ownsRow_nil _ _ _ _
theorem OwnGr.below {base : Nat} {w w' : World} {v : Value} {l : List (Bool × Nat)} (h : OwnGr base w v l) (hb : Below w.heap.size w w') : OwnGr base w' v l := owned_below h hb
theorem OwnGr.row {base : Nat} {w : World} {v : Value} {l : List (Bool × Nat)} (h : OwnGr base w v l) : ∃ A c, v = .slice A l.length c ∧ l.length ≤ c ∧ GRow w A l := owned_row h
theorem two_cells12 {w : World} {b : Nat} {x0 x1 : Value} {t : TypeId} (h : w.heap[b]? = some (.cells #[x0, x1] t (0, 0))) :
    (w.cell? ⟨b, 0, none⟩ = some x0 ∧ w.cell? ⟨b, 1, none⟩ = some x1) ∧ (w.frozen? ⟨b, 0, none⟩ = false ∧ w.frozen? ⟨b, 1, none⟩ = false) := by
  simp [World.cell?, World.frozen?, h]
/-- Both cells are written. -/
def set2 (w : World) (b : Nat) (y0 y1 : Value) : World := (w.setCell ⟨b, 0, none⟩ y0).setCell ⟨b, 1, none⟩ y1
theorem set2_at {w : World} {b : Nat} {x0 x1 y0 y1 : Value} {t : TypeId} (h : w.heap[b]? = some (.cells #[x0, x1] t (0, 0))) : (set2 w b y0 y1).heap[b]? = some (.cells #[y0, y1] t (0, 0)) := by
  unfold set2
  rw [set_at (set_at h)]
  rfl
theorem set2_below {w wr : World} {b B : Nat} {y0 y1 : Value} (h : Below B w wr) (hb : B ≤ b) : Below B w (set2 wr b y0 y1) := by
  unfold set2
  exact (h.setCell hb _).setCell hb _
/-- What a call answers that gives a grade. -/
def GaveG (g : Bool × Nat) (w : World) (e : Ending) (w' : World) : Prop := e = .returned (gV g) ∧ Below w.heap.size w w'
/-- The block of an answer that is a grade. -/
def ResG (w : World) (R : Nat) : Prop := w.heap[R]? = some (.cells #[.bool false, .int .i64 0] 85 (0, 0))
/-- The answer is written into its block. -/
theorem resG {w w1 wr : World} {R : Nat} (g : Bool × Nat) (h1 : Below w.heap.size w w1) (hR : ResG w1 R) (hge : w.heap.size ≤ R) (hb : Below w1.heap.size w1 wr) :
    (wr.cell? ⟨R, 0, none⟩ = some (.bool false) ∧ wr.cell? ⟨R, 1, none⟩ = some (.int .i64 0) ∧ wr.frozen? ⟨R, 0, none⟩ = false ∧ wr.frozen? ⟨R, 1, none⟩ = false) ∧
    GaveG g w (.returned (gV g)) (set2 wr R (.bool g.1) (.int .i64 (g.2 : Int))) ∧ (set2 wr R (.bool g.1) (.int .i64 (g.2 : Int))).cell? ⟨R, 0, none⟩ = some (.bool g.1) ∧ (set2 wr R (.bool g.1) (.int .i64 (g.2 : Int))).cell? ⟨R, 1, none⟩ = some (.int .i64 (g.2 : Int)) := by
  have hlt : R < w1.heap.size := (Array.getElem?_eq_some_iff.1 hR).1
  have hr : wr.heap[R]? = some (.cells #[.bool false, .int .i64 0] 85 (0, 0)) := (hb.block R hlt).trans hR
  obtain ⟨⟨c0, c1⟩, f0, f1⟩ := two_cells12 hr
  obtain ⟨⟨d0, d1⟩, -⟩ := two_cells12 (set2_at (y0 := .bool g.1) (y1 := .int .i64 (g.2 : Int)) hr)
  exact ⟨⟨c0, c1, f0, f1⟩, ⟨rfl, set2_below (h1.trans (hb.mono h1.size)) hge⟩, d0, d1⟩
end Go.Proofs.YtolfkhflbjnakaaGreatDoor
