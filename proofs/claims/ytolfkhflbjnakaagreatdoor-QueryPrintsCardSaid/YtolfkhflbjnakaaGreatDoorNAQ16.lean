/- Texts laid together: Lives12, DeepM12, DeepW12. -/
import Derived.Test.YtolfkhflbjnakaaGreatDoorNAQ13
import Derived.Test.YtolfkhflbjnakaaGreatDoorNAQ15
import Derived.Test.YtolfkhflbjnakaaGreatDoorNAQ06
import Derived.Test.YtolfkhflbjnakaaGreatDoorNAQ05
import Derived.Deep.RegionWith
import Derived.Test.YtolfkhflbjnakaaGreatDoorNAQ08
import Derived.Test.YtolfkhflbjnakaaGreatDoorNAQ07
import Derived.Laws.OwnMore
import Derived.BigCall
import Derived.BigQuiet
import Derived.Laws.Small
import Derived.Deep.AppendLies
import Derived.Deep.LoopGhost
import Derived.IntWalk

/- The statements' lives: the document's example. -/
set_option linter.unusedVariables false
namespace Go.Proofs.YtolfkhflbjnakaaGreatDoor
open Go Go.RowKit

def liveQ : Qy := .mk 2 ([], []) [] [.mk 1 ([116], [97]) [] [], .mk 4 ([], []) [] [.mk 5 ([116], []) [[98], [99]] []]]
def aba : List Fd := [([116], [97, 32, 98, 32, 97])]
def liveS : Nm := [40, 97, 110, 100, 32, 116, 58, 97, 32, 40, 110, 111, 116, 32, 116, 58, 34, 98, 32, 99, 34, 41, 41]
theorem live_may : mayQ 1 liveQ = 0 := by decide +kernel
theorem live_text : textQ liveQ = liveS := by decide +kernel
theorem live_parse : parseQ liveS = some liveQ := by rw [← live_text]; exact parse_of live_may
theorem live_fits : fitsQ aba liveQ = true := by decide +kernel
theorem live_score : scoreQ aba liveQ = 2 := by decide +kernel
theorem live_good : GoodF aba := goodF_of (by decide +kernel) (by decide)
theorem live_open {p : Nat → Prop} {w : World} {v : Value} (h : QV p w liveQ v) : ∃ f x A c b off d, v = qV 2 f x A 0 c (some ⟨b, off, none⟩) 2 d ∧ p b ∧ 2 ≤ d ∧ w.cell? ⟨b, off + 5, none⟩ = some (.int .i64 4) := by
  obtain ⟨k, t, ws, ks, f, x, A, c, K, d, ds, he, rfl, hf, hx, hc, hd, hA, hK, hks⟩ := h.open_
  injection he with h1 h2 h3 h4
  subst h1 h2 h3 h4
  obtain ⟨b, off, k', f', x', A', n', c', K', m', d', rfl, hb, hv, c0, -⟩ := kid_at hK hks (i := 1) (by simp)
  obtain ⟨k1, t1, ws1, ks1, f1, x1, A1, c1, K1, d1, ds1, he1, hv1, -⟩ := hv.open_
  injection he1 with g1 g2 g3 g4
  injection hv1 with hv1
  simp only [Array.mk.injEq, List.cons.injEq, Value.int.injEq, true_and] at hv1
  obtain ⟨rfl, -⟩ := hv1
  subst g1
  exact ⟨f, x, A, c, b, off, d, rfl, hb, hd, by simpa using c0⟩

set_option maxHeartbeats 4000000 in
set_option maxRecDepth 100000 in
theorem law12_lives (w : World) (hg : Glob w) : Calls Tryz.prog 18 #[] w fun e w' => e = .returned (.bool true) ∧ Below w.heap.size w w' := by
  have hP := query_Parse liveS w hg (by decide)
  rw [live_parse] at hP
  have HP : Hid (Calls Tryz.prog 21 #[.string ⟨liveS.toArray⟩] w fun e w1 => ∃ f x A c b off d, e = .returned (.tuple #[qV 2 f x A 0 c (some ⟨b, off, none⟩) 2 d, .int .i64 0]) ∧ Below w.heap.size w w1 ∧ QIn w1 liveQ (qV 2 f x A 0 c (some ⟨b, off, none⟩) 2 d) ∧ b < w1.heap.size ∧ w1.cell? ⟨b, off + 5, none⟩ = some (.int .i64 4) ∧ 2 ≤ d) := Lib.hid (hP.mono fun e w1 h => by
    obtain ⟨hb, v, rfl, hv⟩ := h
    obtain ⟨f, x, A, c, b, off, d, rfl, hb', hd, hc⟩ := live_open hv
    exact ⟨f, x, A, c, b, off, d, rfl, hb, hv.imp fun b h => h.2, hb'.2, hc, hd⟩)
  unfold liveS at HP
  clear hP
  have HF : Hid (∀ (v : Value) (D : Option Addr) (w2 : World), QIn w2 liveQ v → FRow w2 w2.heap.size D aba → Calls Tryz.prog 27 #[v, docV 0 D 1 1] w2 fun e w' => e = .returned (.bool true) ∧ Below w2.heap.size w2 w') := Lib.hid fun v D w2 hq hr => by
    have := query_Fits live_good liveQ v 0 D 1 1 w2 live_may hq rfl hr
    rwa [live_fits] at this
  have HS : Hid (∀ (v : Value) (D : Option Addr) (w2 : World), QIn w2 liveQ v → FRow w2 w2.heap.size D aba → Calls Tryz.prog 29 #[v, docV 0 D 1 1] w2 fun e w' => e = .returned (.int .i64 2) ∧ Below w2.heap.size w2 w') := Lib.hid fun v D w2 hq hr => by
    have := query_Score live_good liveQ v 0 D 1 1 w2 live_may hq rfl hr
    rwa [live_score] at this
  clear hg
  go_enter Tryz.func18, Tryz.ntmps18
  go_upto_region 5 with (go_at_call 21; (with_reducible refine HP.out.mono ?_); rintro e w1 ⟨f, x, A, c, b, off, d, rfl, hb1, hq1, hbl, hc1, hd1⟩; have HB1 := Lib.hid hb1; have HQ1 := Lib.hid hq1; clear hb1 hq1)
  obtain ⟨w2, hw2⟩ : ∃ w2, w2 = boxQ w1 2 f x A 0 c (some ⟨b, off, none⟩) 2 d := ⟨_, rfl⟩
  obtain ⟨w3, hw3⟩ : ∃ w3, w3 = w2.alloc (.cells #[.string ⟨#[116]⟩, .string ⟨#[97, 32, 98, 32, 97]⟩] 60) := ⟨_, rfl⟩
  obtain ⟨w4, hw4⟩ : ∃ w4, w4 = w3.alloc (.cells #[.int .i64 0, .slice (some ⟨w1.heap.size + 1, 0, none⟩) 1 1] 46) := ⟨_, rfl⟩
  have hs2 : w2.heap.size = w1.heap.size + 1 := by rw [hw2]; exact boxQ_size
  have hs3 : w3.heap.size = w1.heap.size + 2 := by rw [hw3]; simp [hs2]
  have hb3 : Below w2.heap.size w2 w3 := by rw [hw3]; exact (Below.refl _ _).alloc (Nat.le_refl _) _
  have hb4 : Below w3.heap.size w3 w4 := by rw [hw4]; exact (Below.refl _ _).alloc (Nat.le_refl _) _
  have hr3 : FRow w3 w3.heap.size (some ⟨w1.heap.size + 1, 0, none⟩) aba := by
    rw [hw3, ← hs2]
    exact frow_new w2 ([116], [97, 32, 98, 32, 97]) 60
  have hd4 : w4.heap[w1.heap.size + 2]? = some (.cells #[.int .i64 0, .slice (some ⟨w1.heap.size + 1, 0, none⟩) 1 1] 46 (0, 0)) := by
    rw [hw4, ← hs3]
    exact heap_alloc_new _ _
  have HH : Hid (∀ wr, Below w4.heap.size w4 wr → Below w1.heap.size w1 wr ∧ (wr.cell? ⟨w1.heap.size, 0, none⟩ = some (.int .i64 2) ∧ wr.cell? ⟨w1.heap.size, 1, none⟩ = some (.string f) ∧ wr.cell? ⟨w1.heap.size, 2, none⟩ = some (.string x) ∧ wr.cell? ⟨w1.heap.size, 3, none⟩ = some (.slice A 0 c) ∧ wr.cell? ⟨w1.heap.size, 4, none⟩ = some (.slice (some ⟨b, off, none⟩) 2 d)) ∧
      (wr.cell? ⟨w1.heap.size + 2, 0, none⟩ = some (.int .i64 0) ∧ wr.cell? ⟨w1.heap.size + 2, 1, none⟩ = some (.slice (some ⟨w1.heap.size + 1, 0, none⟩) 1 1)) ∧ wr.cell? ⟨b, off + 5, none⟩ = some (.int .i64 4) ∧ QIn wr liveQ (qV 2 f x A 0 c (some ⟨b, off, none⟩) 2 d) ∧ FRow wr wr.heap.size (some ⟨w1.heap.size + 1, 0, none⟩) aba) := Lib.hid fun wr h => by
    have h3 : Below w3.heap.size w3 wr := hb4.trans (h.mono hb4.size)
    have h2 : Below w2.heap.size w2 wr := hb3.trans (h3.mono hb3.size)
    rw [hw2] at h2
    have hq := boxQ_of h2
    have hd : wr.heap[w1.heap.size + 2]? = some (.cells #[.int .i64 0, .slice (some ⟨w1.heap.size + 1, 0, none⟩) 1 1] 46 (0, 0)) := (h.block _ (Array.getElem?_eq_some_iff.1 hd4).1).trans hd4
    refine ⟨hq.1, hq.2, (two_cells12 hd).1, ?_, HQ1.out.later hq.1, hr3.later h3⟩
    rw [World.cell?, hq.1.block b hbl]
    exact hc1
  have HW4 : Hid (w4 = ((w1.alloc (.cells #[.int .i64 2, .string f, .string x, .slice A 0 c, .slice (some ⟨b, off, none⟩) 2 d] 27)).alloc (.cells #[.string ⟨#[116]⟩, .string ⟨#[97, 32, 98, 32, 97]⟩] 60)).alloc (.cells #[.int .i64 0, .slice (some ⟨w1.heap.size + 1, 0, none⟩) 1 1] 46)) := Lib.hid (by rw [hw4, hw3, hw2]; rfl)
  obtain ⟨hb9, ⟨a0, a1, a2, a3, a4⟩, ⟨d0, d1⟩, c4, hq9, hr9⟩ := HH.out w4 (Below.refl _ _)
  have HQ9 := Lib.hid hq9
  have HR9 := Lib.hid hr9
  clear hw2 hw3 hw4 hs2 hs3 hb3 hb4 hr3 hd4 hc1 hb9 hq9 hr9
  rw [show ((w1.alloc _).alloc _).alloc _ = w4 from HW4.out.symm]
  go_wp2_with (first
    | (go_at_call 27; (with_reducible refine (HF.out _ _ _ HQ9.out HR9.out).mono ?_); rintro e w5 ⟨rfl, hb5⟩; have HB5 := Lib.hid hb5; clear hb5 a0 a1 a2 a3 a4 d0 d1 c4; obtain ⟨hb9, ⟨a0, a1, a2, a3, a4⟩, ⟨d0, d1⟩, c4, hq9, hr9⟩ := HH.out w5 HB5.out; have HQA := Lib.hid hq9; have HRA := Lib.hid hr9; clear hb9 hq9 hr9)
    | (go_at_call 29; (with_reducible refine (HS.out _ _ _ HQA.out HRA.out).mono ?_); rintro e w6 ⟨rfl, hb6⟩; obtain ⟨hb9, -⟩ := HH.out w6 (HB5.out.trans (hb6.mono HB5.out.size)); have HE := Lib.hid (HB1.out.trans (hb9.mono HB1.out.size)); clear hb9 hb6))
  go_ret
  exact ⟨rfl, HE.out⟩
end Go.Proofs.YtolfkhflbjnakaaGreatDoor

/- A list of lists of queries that is worked off from its end, in memory. -/
set_option linter.unusedVariables false
namespace Go.Proofs.YtolfkhflbjnakaaGreatDoor
open Go Go.RowKit

theorem info_querys : (Tryz.prog.info? 25).map (fun i => (i.zero, i.size, i.bytes)) = some (some (.slice none 0 0), 1, 24) := by kernel_rfl
/-- A value is such kids. -/
def KsV (p : Nat → Prop) (w : World) (l : List Qy) (v : Value) : Prop := ∃ K d ds, v = .slice K l.length d ∧ l.length ≤ d ∧ RowP p w K ds ∧ QsAt p w l ds
/-- Values are such lists. -/
def Ways (p : Nat → Prop) (w : World) : List (List Qy) → List Value → Prop
  | [], vs => vs = []
  | l :: r, vs => ∃ v vs', vs = v :: vs' ∧ KsV p w l v ∧ Ways p w r vs'
section
variable {p : Nat → Prop} {w w' : World}
theorem KsV.keep {l : List Qy} {v : Value} (h : KsV p w l v) (hb : ∀ b, p b → w'.heap[b]? = w.heap[b]?) : KsV p w' l v := by
  obtain ⟨K, d, ds, h1, h2, h3, h4⟩ := h
  exact ⟨K, d, ds, h1, h2, h3.keep hb, h4.keep hb⟩
theorem Ways.keep : ∀ {way : List (List Qy)} {vs : List Value}, Ways p w way vs → (∀ b, p b → w'.heap[b]? = w.heap[b]?) → Ways p w' way vs
  | [], vs, h, _ => h
  | l :: r, vs, h, hb => by
    obtain ⟨v, vs', h1, h2, h3⟩ := h
    exact ⟨v, vs', h1, h2.keep hb, Ways.keep h3 hb⟩
theorem Ways.len : ∀ {way : List (List Qy)} {vs : List Value}, Ways p w way vs → vs.length = way.length
  | [], vs, h => by cases h; rfl
  | l :: r, vs, h => by
    obtain ⟨v, vs', rfl, _, h3⟩ := h
    simp [Ways.len h3]
theorem Ways.snoc : ∀ {way : List (List Qy)} {vs : List Value} {l : List Qy} {v : Value}, Ways p w way vs → KsV p w l v → Ways p w (way ++ [l]) (vs ++ [v])
  | [], vs, l, v, h, hv => by cases h; exact ⟨v, [], rfl, hv, rfl⟩
  | x :: r, vs, l, v, h, hv => by
    obtain ⟨u, vs', rfl, h2, h3⟩ := h
    exact ⟨u, vs' ++ [v], rfl, h2, Ways.snoc h3 hv⟩
theorem Ways.last : ∀ {way : List (List Qy)} {vs : List Value} {l : List Qy}, Ways p w (way ++ [l]) vs → ∃ va v, vs = va ++ [v] ∧ Ways p w way va ∧ KsV p w l v
  | [], vs, l, h => by
    obtain ⟨v, vs', rfl, h2, h3⟩ := h
    cases h3
    exact ⟨[], v, rfl, rfl, h2⟩
  | x :: r, vs, l, h => by
    obtain ⟨u, vs', rfl, h2, h3⟩ := h
    obtain ⟨va, v, rfl, h4, h5⟩ := Ways.last h3
    exact ⟨u :: va, v, rfl, ⟨u, va, rfl, h2, h4⟩, h5⟩
/-- The first kid, and what is behind it. -/
theorem KsV.first {q : Qy} {r : List Qy} {v : Value} (h : KsV p w (q :: r) v) : ∃ b off d k f x A n c K' m' d', v = .slice (some ⟨b, off, none⟩) (r.length + 1) d ∧ r.length + 1 ≤ d ∧ p b ∧
    w.cell? ⟨b, off, none⟩ = some (.int .i64 k) ∧ w.cell? ⟨b, off + 1, none⟩ = some (.string f) ∧ w.cell? ⟨b, off + 2, none⟩ = some (.string x) ∧ w.cell? ⟨b, off + 3, none⟩ = some (.slice A n c) ∧ w.cell? ⟨b, off + 4, none⟩ = some (.slice K' m' d') ∧
    KsV p w (kidsOf q) (.slice K' m' d') ∧ KsV p w r (.slice (if d = 1 then some ⟨b, off, none⟩ else some ⟨b, off + 5, none⟩) r.length (d - 1)) := by
  obtain ⟨K, d, ds, rfl, h2, h3, h4⟩ := h
  obtain ⟨b, off, k, f, x, A, n, c, K', m', d', e, hp, hv, c0, c1, c2, c3, c4⟩ := kid_at h3 h4 (i := 0) (by simp)
  simp only [Nat.zero_mul, Nat.add_zero] at c0 c1 c2 c3 c4
  subst e
  obtain ⟨k1, t1, ws1, ks1, f1, x1, A1, c1', K1, d1, ds1, e1, e2, -, -, -, hd1, -, hr1, hq1⟩ := hv.open_
  injection e2 with e2
  simp only [Array.mk.injEq, List.cons.injEq, Value.int.injEq, true_and, Value.string.injEq, Value.slice.injEq, and_true] at e2
  obtain ⟨-, -, -, -, rfl, rfl, rfl⟩ := e2
  have hko : kidsOf q = ks1 := by
    have : q = .mk k1 t1 ws1 ks1 := e1
    rw [this]; rfl
  simp only [List.length_cons] at h2
  refine ⟨b, off, d, k, f, x, A, n, c, _, _, _, rfl, h2, hp, c0, c1, c2, c3, c4, ⟨_, _, ds1, by rw [hko], by rw [hko]; exact hd1, hr1, by rw [hko]; exact hq1⟩, ?_⟩
  have hdr := QsAt.drop 1 h4
  refine ⟨_, _, ds.drop 5, rfl, by omega, ?_, hdr⟩
  rcases h3 with rfl | ⟨b', o', e, hb, hc⟩
  · exact .inl (by simp)
  · injection e with e
    injection e with e1 e2
    subst e1 e2
    by_cases hd : d = 1
    · have : r = [] := List.length_eq_zero_iff.1 (by omega)
      subst this
      have hl := QsAt.len h4
      exact .inl (List.drop_eq_nil_of_le (by simp at hl; omega))
    · rw [if_neg hd]
      refine .inr ⟨b, off + 5, rfl, hb, fun j u hu => ?_⟩
      rw [List.getElem?_drop] at hu
      have := hc _ _ hu
      rwa [← Nat.add_assoc] at this
end
theorem owned_new12 {w : World} {base : Nat} {e : TypeId} {x : Value} (hb : base ≤ w.heap.size) : (w.alloc (.cells #[x] e)).ownsRow base e 1 (.slice (some ⟨w.heap.size, 0, none⟩) 1 1) 1 [x] :=
  ⟨rfl, .inr ⟨w.heap.size, 1, #[x], rfl, hb, heap_alloc_new w _, by omega, by first | rfl | omega | decide | simp, by first | rfl | omega | decide | simp, rfl⟩⟩
theorem owned_set12 {w : World} {base : Nat} {e : TypeId} {size g n cap k : Nat} {xs : List Value} {u : Value} (h : w.ownsRow base e size (.slice (some ⟨g, 0, none⟩) n cap) n xs) : (w.setCell ⟨g, k, none⟩ u).ownsRow base e size (.slice (some ⟨g, 0, none⟩) n cap) n (xs.set k u) := by
  refine ⟨by rw [List.length_set]; exact h.1, ?_⟩
  rcases h.2 with ⟨hv, _⟩ | ⟨g', cap', cur, hv, hg, hh, h1, h2, h3, h4⟩
  · cases hv
  · cases hv
    refine .inr ⟨g, cap, cur.setIfInBounds k u, rfl, hg, set_at hh, h1, h2, by simpa using h3, ?_⟩
    rw [← h4, Array.toList_setIfInBounds, List.take_set]
theorem owned_cut12 {w : World} {b : Nat} {e : TypeId} {g n m cap : Nat} {xs : List Value} (h : w.ownsRow b e 1 (.slice (some ⟨g, 0, none⟩) n cap) n xs) (hm : m ≤ n) : w.ownsRow b e 1 (.slice (some ⟨g, 0, none⟩) m cap) m (xs.take m) := by
  refine ⟨by rw [List.length_take, h.1]; omega, ?_⟩
  rcases h.2 with ⟨hv, _⟩ | ⟨g', cap', cur, hv, hg, hh, h1, h2, h3, h4⟩
  · cases hv
  · cases hv
    refine .inr ⟨g, cap, cur, rfl, hg, hh, by omega, h2, h3, ?_⟩
    rw [← h4, List.take_take]
    congr 1
    omega
theorem owned_cap12 {w : World} {b : Nat} {e : TypeId} {g n cap : Nat} {xs : List Value} (h : w.ownsRow b e 1 (.slice (some ⟨g, 0, none⟩) n cap) n xs) : n ≤ cap ∧ (∀ k, k < n → w.frozen? ⟨g, k, none⟩ = false) := by
  rcases h.2 with ⟨hv, _⟩ | ⟨g', cap', cur, hv, hg, hh, h1, h2, h3, h4⟩
  · cases hv
  · cases hv
    exact ⟨h1, fun k hk => by simp [World.frozen?, hh]⟩
end Go.Proofs.YtolfkhflbjnakaaGreatDoor

/- Package query's Deep: how deep a query is. -/
namespace Go.Proofs.YtolfkhflbjnakaaGreatDoor
open Go Go.RowKit
set_option linter.unusedVariables false

/-- What is worked off so far. -/
def DeepWRel (w : World) (N g : Nat) (u3 u4 : Value) (wr : World) : Prop := ∃ (D : Nat) (way : List (List Qy)) (vs : List Value), u3 = .int .i64 (D : Int) ∧ WayOk D way N ∧ wayS way ≤ g ∧ Ways (fun b => b < w.heap.size) wr way vs ∧ wr.ownsRow w.heap.size 25 1 u4 way.length vs ∧ Below w.heap.size w wr
theorem set_last12 {va : List Value} {x y : Value} {n : Nat} (h : va.length = n) : (va ++ [x]).set n y = va ++ [y] := by
  subst h
  simp
theorem new2_at (W : World) (o : Obj) (x : Value) (t : TypeId) (S : Nat) (hS : W.heap.size = S) : ((W.alloc o).alloc (.cells #[x] t)).heap[S + 1]? = some (.cells #[x] t (0, 0)) := by
  have := heap_alloc_new (W.alloc o) (.cells #[x] t)
  have h2 : (W.alloc o).heap.size = S + 1 := by simp [hS]
  rw [h2] at this
  exact this
set_option maxHeartbeats 4000000 in
set_option maxRecDepth 100000 in
theorem query_Deep (q : Qy) (v : Value) (w : World) (hq : QIn w q v) (hd : deepQ q ≤ 1000000) : Calls Tryz.prog 16 #[v] w fun e w' => e = .returned (.int .i64 (deepQ q : Int)) ∧ Below w.heap.size w w' := by
  obtain ⟨k, t, ws, ks, f, x, A, c, K, d, ds, rfl, rfl, -, -, -, hkd, -, hr, hks⟩ := hq.open_
  obtain ⟨w2, hw2⟩ : ∃ w2, w2 = (boxQ w k f x A ws.length c K ks.length d).alloc (.cells #[.slice K ks.length d] 25) := ⟨_, rfl⟩
  obtain ⟨N, hN⟩ : ∃ N, N = deepQ (.mk k t ws ks) := ⟨_, rfl⟩
  have hb1 : Below w.heap.size w (boxQ w k f x A ws.length c K ks.length d) := boxQ_below
  have hs1 : (boxQ w k f x A ws.length c K ks.length d).heap.size = w.heap.size + 1 := boxQ_size
  have hb2 : Below w.heap.size w w2 := by rw [hw2]; exact hb1.alloc (by omega) _
  have ho2 : w2.ownsRow w.heap.size 25 1 (.slice (some ⟨w.heap.size + 1, 0, none⟩) 1 1) 1 [.slice K ks.length d] := by
    have := owned_new12 (w := boxQ w k f x A ws.length c K ks.length d) (base := w.heap.size) (e := 25) (x := .slice K ks.length d) (by omega)
    rw [hs1] at this
    rw [hw2]
    exact this
  have hrel0 : DeepWRel w N (wayS [ks]) (.int .i64 1) (.slice (some ⟨w.heap.size + 1, 0, none⟩) 1 1) w2 := by
    refine ⟨1, [ks], _, rfl, by rw [hN]; exact WayOk.start (.mk k t ws ks), Nat.le_refl _, ?_, ho2, hb2⟩
    exact ⟨_, [], rfl, KsV.keep ⟨K, d, ds, rfl, hkd, hr, hks⟩ fun b hb => hb2.block b hb, rfl⟩
  have HREL := Lib.hid hrel0
  have HW2 := Lib.hid hw2
  obtain ⟨j0, hj0, hj1, hj2, hj3⟩ := info_parts info_querys
  have hN9 : N ≤ 1000000 := by omega
  rw [← hN]
  obtain ⟨b0, b1, b2, b3, b4⟩ : True ∧ True ∧ True ∧ True ∧ True := ⟨trivial, trivial, trivial, trivial, trivial⟩
  clear hq hkd hr hks hw2 hN hd hb1 hs1 hb2 ho2 hrel0 b0 b1 b2 b3 b4
  go_enter Tryz.func16, Tryz.ntmps16
  go_wp2
  rw [show (w.alloc _).alloc _ = w2 from HW2.out.symm]
  go_loopg [3, 4] (wayS [ks]) (fun g u3 u4 wr => DeepWRel w N g u3 u4 wr)
  case atStart => exact HREL.out
  case round =>
    obtain ⟨D, way, vs, rfl, hok, hsz, hway, hown, hbw⟩ := hrel
    rcases List.eq_nil_or_concat way with rfl | ⟨a, l, rfl⟩
    · rw [List.length_nil] at hown
      obtain ⟨A4, c4, rfl, -⟩ := owned_row hown
      have HD := Lib.hid hok.done
      have HB := Lib.hid hbw
      clear hok hsz hway hown hbw
      have d0 : decide ((0 : Int) < ((0 : Nat) : Int)) = false := rfl
      have d1 : ¬ (0 : Int) < ((0 : Nat) : Int) := by decide
      go_wp2
      go_ret
      exact ⟨by rw [HD.out]; rfl, HB.out⟩
    · rw [List.concat_eq_append] at hok hsz hway hown
      obtain ⟨va, vl, rfl, hva, hvl⟩ := hway.last
      have hla : va.length = a.length := hva.len
      obtain ⟨n, hn⟩ : ∃ n, n = a.length := ⟨_, rfl⟩
      have hl1 : (a ++ [l]).length = n + 1 := by rw [List.length_append, ← hn]; rfl
      rw [hl1] at hown
      obtain ⟨g, cap, rfl, hg1, hg2⟩ := hown.form (by omega)
      obtain ⟨hcap, hfr⟩ := owned_cap12 hown
      have hcl : wr.cell? ⟨g, n, none⟩ = some vl := by
        rw [hown.cellAt n (by omega), List.getElem?_append_right (by omega), hla, hn, Nat.sub_self]
        rfl
      have hn9 : n < 1000000 := by have := hok.le.1; rw [hl1] at this; omega
      have hwr : IntKind.i64.wrap ((n : Int) + 1 - 1) = n := by rw [IntWalk.i64_in _ (by omega)]; omega
      have hwr2 : IntKind.i64.wrap (n : Int) = n := IntWalk.i64_in _ (by omega)
      have hf := hfr n (by omega)
      have HLA := Lib.hid hla
      have HN := Lib.hid hn
      have HL1 := Lib.hid hl1
      have HOWN := Lib.hid hown
      have HVA := Lib.hid hva
      have HOK := Lib.hid hok
      have HSZ := Lib.hid hsz
      have HBW := Lib.hid hbw
      clear hla hn hl1 hown hva hok hsz hbw hway hfr
      cases l with
      | nil =>
        obtain ⟨K1, d1, ds1, rfl, -⟩ := hvl
        go_wp2
        obtain ⟨hp1, hp2⟩ := HOK.out.pop
        have hsz := HSZ.out
        go_roundg (wayS a)
        case measure => omega
        case rel =>
          have hc := owned_cut12 HOWN.out (m := n) (by omega)
          rw [List.take_left' (HLA.out.trans HN.out.symm), HN.out] at hc
          exact ⟨D, a, va, rfl, hp1, Nat.le_refl _, HVA.out, by rw [HN.out]; exact hc, HBW.out⟩
      | cons q1 r =>
        obtain ⟨b, off, d5, k6, f6, x6, A6, n6, c6, K6, m6, d6, rfl, hd5, hpb, c0, c1, c2, c3, c4, hkv, hrv⟩ := hvl.first
        by_cases hd1 : d5 = 1
        · subst hd1
          obtain rfl : r = [] := List.length_eq_zero_iff.1 (by omega)
          rw [if_pos rfl] at hrv
          have HKV := Lib.hid hkv
          have HRV := Lib.hid hrv
          clear hvl hkv hrv
          go_wp2_with (first
            | (at_builtin; refine wpList_append_lies _ rfl (.tmp 39) (.tmp 42) 58 rfl w.heap.size 25 j0 _ 1 24 Tryz.underlying58 hj0 hj1 hj2 hj3 rfl (by omega) (.slice (some ⟨g, 0, none⟩) (n + 1) cap) (n + 1) _ rfl (((owned_set12 HOWN.out).alloc _).alloc _)
                ⟨wr.heap.size + 1, 0, none⟩ 1 1 [.slice K6 m6 d6] rfl rfl (World.news_of_block (cs := #[.slice K6 m6 d6]) (t := 25) (fr := (0, 0)) (new2_at _ _ _ _ _ (by simp [World.setCell]))) (by intro u hu; simp at hu; subst hu; rfl)
                (by omega) (by unfold maxLen; omega) (by omega) (by have := HBW.out.size; simp [World.setCell]; omega) (wr.heap.size + 2) (by simp [World.setCell]) ?_
               intro gg cap2 w8 hown8 hgrow hat8 hlt8
               have hb8 : Below w.heap.size wr w8 := ((((Below.refl w.heap.size wr).setCell (p := ⟨g, n, none⟩) hg1 (.slice (some ⟨b, off, none⟩) 0 0)).alloc (by have := HBW.out.size; simp [World.setCell]; omega) _).alloc (by have := HBW.out.size; simp [World.setCell]; omega) _).grown hgrow (by have := HBW.out.size; simp [World.setCell]; omega) (fun k hk => (HOWN.out.lt k hk).1)
               have HB8 := Lib.hid hb8
               have HOWN8 := Lib.hid hown8
               clear hb8 hown8 hgrow hat8 hlt8))
          obtain ⟨hp1, hp2⟩ := HOK.out.push
          have hsz := HSZ.out
          go_roundg (wayS (a ++ [[]] ++ [kidsOf q1]))
          case measure => omega
          case rel =>
            refine ⟨max D (a.length + 2), a ++ [[]] ++ [kidsOf q1], _, ?_, hp1, Nat.le_refl _, (((HVA.out.snoc HRV.out).snoc HKV.out).keep fun b hb => HB8.out.block b hb), ?_, HBW.out.trans HB8.out⟩
            · have e := HN.out
              rw [← e]
              exact congrArg (Value.int .i64) (by omega)
            · have h8 := HOWN8.out
              rw [set_last12 (HLA.out.trans HN.out.symm)] at h8
              rw [show (a ++ [([] : List Qy)] ++ [kidsOf q1]).length = n + 1 + 1 from by simp [HN.out]]
              exact h8
        · rw [if_neg hd1] at hrv
          have HKV := Lib.hid hkv
          have HRV := Lib.hid hrv
          have hr0 : (0 : Int) < (r.length : Int) + 1 := by omega
          clear hvl hkv hrv
          go_wp2_with (first
            | (at_builtin; refine wpList_append_lies _ rfl (.tmp 39) (.tmp 42) 58 rfl w.heap.size 25 j0 _ 1 24 Tryz.underlying58 hj0 hj1 hj2 hj3 rfl (by omega) (.slice (some ⟨g, 0, none⟩) (n + 1) cap) (n + 1) _ rfl (((owned_set12 HOWN.out).alloc _).alloc _)
                ⟨wr.heap.size + 1, 0, none⟩ 1 1 [.slice K6 m6 d6] rfl rfl (World.news_of_block (cs := #[.slice K6 m6 d6]) (t := 25) (fr := (0, 0)) (new2_at _ _ _ _ _ (by simp [World.setCell]))) (by intro u hu; simp at hu; subst hu; rfl)
                (by omega) (by unfold maxLen; omega) (by omega) (by have := HBW.out.size; simp [World.setCell]; omega) (wr.heap.size + 2) (by simp [World.setCell]) ?_
               intro gg cap2 w8 hown8 hgrow hat8 hlt8
               have hb8 : Below w.heap.size wr w8 := ((((Below.refl w.heap.size wr).setCell (p := ⟨g, n, none⟩) hg1 (.slice (some ⟨b, off + 5, none⟩) r.length (d5 - 1))).alloc (by have := HBW.out.size; simp [World.setCell]; omega) _).alloc (by have := HBW.out.size; simp [World.setCell]; omega) _).grown hgrow (by have := HBW.out.size; simp [World.setCell]; omega) (fun k hk => (HOWN.out.lt k hk).1)
               have HB8 := Lib.hid hb8
               have HOWN8 := Lib.hid hown8
               clear hb8 hown8 hgrow hat8 hlt8))
          obtain ⟨hp1, hp2⟩ := HOK.out.push
          have hsz := HSZ.out
          go_roundg (wayS (a ++ [r] ++ [kidsOf q1]))
          case measure => omega
          case rel =>
            refine ⟨max D (a.length + 2), a ++ [r] ++ [kidsOf q1], _, ?_, hp1, Nat.le_refl _, (((HVA.out.snoc HRV.out).snoc HKV.out).keep fun b hb => HB8.out.block b hb), ?_, HBW.out.trans HB8.out⟩
            · have e := HN.out
              rw [← e]
              exact congrArg (Value.int .i64) (by omega)
            · have h8 := HOWN8.out
              rw [set_last12 (HLA.out.trans HN.out.symm)] at h8
              rw [show (a ++ [r] ++ [kidsOf q1]).length = n + 1 + 1 from by simp [HN.out]]
              exact h8
end Go.Proofs.YtolfkhflbjnakaaGreatDoor
