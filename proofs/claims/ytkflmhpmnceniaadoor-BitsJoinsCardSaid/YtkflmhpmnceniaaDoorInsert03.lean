/- slices.Insert of one word into a set's words: in place, or in a new row. -/
import Derived.Test.YtkflmhpmnceniaaDoorSet03
import Derived.Shelf.Spec.SlicesInsertGrow
import Derived.Deep.RegionLaw
import Derived.Laws.CopyOwn
set_option linter.unusedVariables false
namespace Go.Proofs.YtkflmhpmnceniaaDoor
open Go Go.RowKit Go.Lib
open Plain (Wd WS Rep posW keptW getW)

theorem info_word1 : (Tryd.prog.info? 59).map (fun i => (i.zero, i.size, i.bytes)) = some (some (.agg #[.int .i64 0, .int .u64 0]), 2, 16) := by kernel_rfl

/-- What an Insert, or an append, of words gives: the words in a row of its own: the old row, or a new one. -/
def RowGot (w : World) (base : Nat) (v : Value) (ws : List Wd) (v' : Value) (w' : World) : Prop :=
  w'.ownsRow base 59 2 v' ws.length (wcells ws) ∧ w.grownBy w' v.ownBlock ∧ ∀ g, v'.ownBlock = some g → v.ownBlock = some g ∨ w.heap.size ≤ g

/-- The cells of a block, seen. -/
theorem row_cur {w : World} {base g n c : Nat} {ws : List Wd} (h : w.ownsRow base 59 2 (.slice (some ⟨g, 0, none⟩) n c) n (wcells ws)) :
    ∃ cur : Array Value, base ≤ g ∧ w.heap[g]? = some (.cells cur 59 (0, 0)) ∧ n ≤ c ∧ c ≤ maxLen ∧ cur.size = c * 2 ∧ cur.toList.take (n * 2) = wcells ws := by
  rcases h.2 with ⟨h', _⟩ | ⟨g', cap', cur, h', hb, hg, hnc, hcm, hcs, htake⟩
  · simp at h'
  · simp only [Value.slice.injEq, Option.some.injEq, Addr.mk.injEq, and_true, true_and] at h'
    obtain ⟨rfl, rfl⟩ := h'
    exact ⟨cur, hb, hg, hnc, hcm, hcs, htake⟩

theorem owns_of {w : World} {base g n c : Nat} {cur : Array Value} {xs : List Value} {e : TypeId} (hg : w.heap[g]? = some (.cells cur e (0, 0))) (hb : base ≤ g) (hn : n ≤ c) (hc : c ≤ maxLen) (hs : cur.size = c * 2) (hx : cur.toList.take (n * 2) = xs) :
    w.ownsRow base e 2 (.slice (some ⟨g, 0, none⟩) n c) n xs := by
  refine ⟨?_, .inr ⟨g, c, cur, rfl, hb, hg, hn, hc, hs, hx⟩⟩
  rw [← hx, List.length_take, Array.length_toList, hs]
  omega

set_option maxRecDepth 100000 in
theorem run_append_words (w : World) (base : Nat) (v : Value) (n : Nat) (ws : List Wd) (p : Wd) (VB vc : Nat) (hown : w.ownsRow base 59 2 v n (wcells ws)) (hn : ws.length = n) (hl : n ≤ 33554432)
    (hv1 : w.cell? ⟨VB, 0, none⟩ = some (.int .i64 p.1)) (hv2 : w.cell? ⟨VB, 1, none⟩ = some (.int .u64 p.2)) (hbase : base ≤ w.heap.size) :
    ∃ v' w', (Builtin.append_ #[54, 54] 54 #[v, .slice (some ⟨VB, 0, none⟩) 1 vc]).run Tryd.prog w = .ok v' w' ∧ RowGot w base v (ws ++ [p]) v' w' := by
  obtain ⟨i0, hi0, hz0, hz1, hz2⟩ := info_parts info_word1
  have hnew : ∀ j u, (wcells [p])[j]? = some u → w.cell? ((⟨VB, 0, none⟩ : Addr).add j) = some u := by
    intro j u hu
    rw [Addr.add_lit, Nat.zero_add]
    match j, hu with
    | 0, hu => simp [wcells] at hu; subst hu; exact hv1
    | 1, hu => simp [wcells] at hu; subst hu; exact hv2
    | j + 2, hu => simp [wcells] at hu
  have hone := wcells_one [p]
  have hlen : (ws ++ [p]).length = n + 1 := by simp [hn]
  have e1 : wcells (ws ++ [p]) = wcells ws ++ wcells [p] := wcells_append _ _
  have hwl := wcells_length ws
  rw [hn] at hwl
  unfold RowGot
  rw [hlen, e1]
  have hown' := hown
  rcases hown'.2 with ⟨rfl, rfl⟩ | ⟨g, cap, cur, rfl, hbg, hg, hnc, hcm, hcs, htake⟩
  · have h0 : w.ownsRow w.heap.size 59 2 (.slice none 0 0) 0 (wcells ws) := ⟨hown.1, .inl ⟨rfl, rfl⟩⟩
    obtain ⟨v', w', hr, h2, h3, _⟩ := run_append_own (P := Tryd.prog) w w.heap.size 54 54 59 i0 _ 2 16 Tryd.underlying54 hi0 hz0 hz1 hz2 rfl (by decide) _ 0 _ h0 ⟨VB, 0, none⟩ 1 vc (wcells [p]) rfl hnew hone (by unfold maxLen; omega) (by omega) (Nat.le_refl _)
    exact ⟨v', w', hr, owned_low h2 hbase, h3, fun g hg => .inr (h2.lt g hg).1⟩
  · by_cases hroom : n + 1 ≤ cap
    · obtain ⟨w', hr, h2, h3⟩ := run_append_fits (P := Tryd.prog) w base 54 54 59 i0 2 Tryd.underlying54 hi0 hz1 g n cap _ hown ⟨VB, 0, none⟩ 1 vc (wcells [p]) rfl hnew hone hroom
      exact ⟨_, w', hr, h2, h3, fun g' hg' => .inl hg'⟩
    · have holds : ∀ j u, (wcells ws)[j]? = some u → w.cell? ((⟨g, 0, none⟩ : Addr).add j) = some u := hown.cells (g := g) rfl
      have hr := run_append_grow (P := Tryd.prog) w 54 54 59 i0 _ Tryd.underlying54 hi0 hz0 ⟨g, 0, none⟩ n cap (wcells ws) (by rw [hz1]; exact hwl) holds ⟨VB, 0, none⟩ 1 vc (wcells [p]) (by rw [hz1]; rfl) hnew (by omega) (by omega) (by rw [hz2]; exact growslice_fits (by omega) (by omega))
      have hge := grownCap_ge w (n + 1) cap 59
      have hcm2 := grownCap_le_maxLen w (n + 1) cap 59 (by unfold maxLen; omega)
      refine ⟨_, _, hr, owns_of (heap_alloc_new w.drew _) hbase hge hcm2 ?_ ?_, ⟨rfl, rfl, rfl, by simp, fun k hk _ => heap_alloc_old w.drew _ hk⟩, fun g' hg' => .inr ?_⟩
      · simp only [Array.size_append, List.size_toArray, size_zeroCells, hwl]
        simp [wcells, Value.cells]
        omega
      · simp only [Array.toList_append, List.append_assoc]
        rw [← List.append_assoc, List.take_append_of_le_length (by simp [hwl, wcells]; omega)]
        exact List.take_of_length_le (by simp [hwl, wcells]; omega)
      · simp [Value.ownBlock] at hg'
        subst hg'
        exact Nat.le_refl _

theorem run_copy_words (w : World) (g o dLen dCap : Nat) (a : Addr) (sLen sCap : Nat) (cur : Array Value) (cs : List Value) (n : Nat)
    (hg : w.heap[g]? = some (.cells cur 59 (0, 0))) (hn : n = Nat.min sLen dLen) (hl : cs.length = n * 2)
    (hsrc : ∀ j v, cs[j]? = some v → w.cell? (a.add j) = some v) (hfit : o + cs.length ≤ cur.size) (h1 : ∀ v ∈ cs, v.oneCell' = true) :
    (Builtin.copy_ #[54, 54] 3 #[.slice (some ⟨g, o, none⟩) dLen dCap, .slice (some a) sLen sCap]).run Tryd.prog w =
      .ok (goInt n) (w.setRow g (splice cur.toList o cs).toArray) := by
  obtain ⟨i0, hi0, hz0, hz1, hz2⟩ := info_parts info_word1
  have hld := run_loadCells_list (P := Tryd.prog) w a cs hsrc
  have hst := run_storeCells_at Tryd.prog g o 59 cs 0 cur w hg (by simpa using hfit) h1
  have e : splice cur.toList o cs = cur.toList.take o ++ cs ++ cur.toList.drop (o + cs.length) := by simp [splice]
  rw [e]
  rw [hl] at hld
  simp only [Nat.add_zero] at hst
  simp [Builtin.copy_, run_underlying Tryd.underlying54, Builtin.lenOf, Builtin.firstCells, sizeOf, typeInfo, hi0, hz1, ← hn, hld, hst]

/-- What Insert gives. -/
def Inserted (w : World) (base : Nat) (v : Value) (ws : List Wd) (e : Ending) (w' : World) : Prop := ∃ v', e = .returned v' ∧ RowGot w base v ws v' w'

set_option maxHeartbeats 4000000 in
set_option maxRecDepth 100000 in
/-- At the end. -/
theorem insert_end (w : World) (base : Nat) (A : Option Addr) (n c : Nat) (ws : List Wd) (p : Wd) (VB vc : Nat) (hown : w.ownsRow base 59 2 (.slice A n c) n (wcells ws)) (hn : ws.length = n) (hl : n ≤ 33554432)
    (hv1 : w.cell? ⟨VB, 0, none⟩ = some (.int .i64 p.1)) (hv2 : w.cell? ⟨VB, 1, none⟩ = some (.int .u64 p.2)) (hbase : base ≤ w.heap.size) :
    Calls Tryd.prog 45 #[.slice A n c, .int .i64 n, .slice (some ⟨VB, 0, none⟩) 1 vc] w (Inserted w base (.slice A n c) (ws ++ [p])) := by
  obtain ⟨v', w', hr, hgot⟩ := run_append_words w base _ n ws p VB vc hown hn hl hv1 hv2 hbase
  have HR := Lib.hid hr
  have HG := Lib.hid hgot
  have parts : (A = none ∧ n = 0 ∧ c = 0) ∨ ∃ g, A = some ⟨g, 0, none⟩ ∧ n ≤ c ∧ c ≤ maxLen := by
    rcases hown.2 with ⟨hv, h0⟩ | ⟨g, cap, cur, hv, _, _, hnc, hcm, _⟩
    · injection hv with h1 h2 h3
      exact .inl ⟨h1, h0, h3⟩
    · injection hv with h1 h2 h3
      subst h3
      exact .inr ⟨g, h1, hnc, hcm⟩
  clear hr hgot hown
  rcases parts with ⟨rfl, rfl, rfl⟩ | ⟨g, rfl, hnc, hcm⟩
  · go_enter Tryd.func45, Tryd.ntmps45
    go_wp2_with (at_builtin; refine Lib.wpList_append_run _ rfl _ _ _ _ rfl _ _ rfl rfl _ _ HR.out ?_)
    go_ret
    exact ⟨_, rfl, HG.out⟩
  · unfold maxLen at hcm
    by_cases hcn : c = n
    · subst hcn
      go_enter Tryd.func45, Tryd.ntmps45
      go_wp2_with (at_builtin; refine Lib.wpList_append_run _ rfl _ _ _ _ rfl _ _ rfl rfl _ _ HR.out ?_)
      go_ret
      exact ⟨_, rfl, HG.out⟩
    · go_enter Tryd.func45, Tryd.ntmps45
      go_wp2_with (at_builtin; refine Lib.wpList_append_run _ rfl _ _ _ _ rfl _ _ rfl rfl _ _ HR.out ?_)
      go_ret
      exact ⟨_, rfl, HG.out⟩

theorem splice_at {α : Type} (A X Z : List α) (k : Nat) (hk : A.length = k) : splice (A ++ Z) k X = A ++ (X ++ Z.drop X.length) := by
  subst hk
  unfold splice
  rw [List.take_left, ← List.drop_drop, List.drop_left]

set_option maxHeartbeats 4000000 in
set_option maxRecDepth 100000 in
/-- In the middle, no room: a new row. -/
theorem insert_grow (w : World) (base g n k : Nat) (ws : List Wd) (p : Wd) (VB vc : Nat) (hown : w.ownsRow base 59 2 (.slice (some ⟨g, 0, none⟩) n n) n (wcells ws)) (hn : ws.length = n) (hl : n ≤ 33554432) (hk : k < n)
    (hv1 : w.cell? ⟨VB, 0, none⟩ = some (.int .i64 p.1)) (hv2 : w.cell? ⟨VB, 1, none⟩ = some (.int .u64 p.2)) (hbase : base ≤ w.heap.size) :
    Calls Tryd.prog 45 #[.slice (some ⟨g, 0, none⟩) n n, .int .i64 k, .slice (some ⟨VB, 0, none⟩) 1 vc] w (Inserted w base (.slice (some ⟨g, 0, none⟩) n n) (ws.take k ++ p :: ws.drop k)) := by
  obtain ⟨i0, hi0, hz0, hz1, hz2⟩ := info_parts info_word1
  have hwl := wcells_length ws
  rw [hn] at hwl
  have holds : ∀ j u, (wcells ws)[j]? = some u → w.cell? ⟨g, j, none⟩ = some u := fun j u hu => by have := hown.cells (g := g) rfl j u hu; rwa [Addr.add_lit, Nat.zero_add] at this
  have hgw := (hown.lt g rfl).2
  have htk : (wcells (ws.take k)).length = k * 2 := by rw [wcells_length, List.length_take]; omega
  have hold : (Builtin.firstCells i0.size k (.slice (some ⟨g, 0, none⟩) k n)).run Tryd.prog w.drew = .ok (wcells (ws.take k)).toArray w.drew := by
    rw [hz1]
    exact run_firstCells_some w.drew 2 k ⟨g, 0, none⟩ k n _ htk (fun j v hj => by
      rw [Addr.add_lit, Nat.zero_add]
      rw [wcells_take, List.getElem?_take] at hj
      split at hj
      · exact holds j v hj
      · cases hj)
  have hr := Lib.run_append_grow_zeros (P := Tryd.prog) w 54 3 54 59 i0 _ .i64 .i64 Tryd.underlying54 Tryd.underlying3 hi0 hz0 (some ⟨g, 0, none⟩) k n (wcells (ws.take k)) hold (n + 1 - k) (by omega) (by omega) (by omega) (by omega) (by rw [hz2]; omega) (by rw [hz2]; exact growslice_fits (by omega) (by omega))
  rw [show k + (n + 1 - k) = n + 1 by omega] at hr
  rw [show ((n + 1 - k : Nat) : Int) = (n : Int) + 1 - (k : Int) by omega] at hr
  have hge := grownCap_ge w (n + 1) n 59
  have hcm2 := grownCap_le_maxLen w (n + 1) n 59 (by unfold maxLen; omega)
  obtain ⟨G, hG⟩ : ∃ G, G = grownCap w (n + 1) n 59 := ⟨_, rfl⟩
  rw [← hG] at hr hge hcm2
  obtain ⟨Z, hZ⟩ : ∃ Z : List Value, Z = (Builtin.zeroCells (Value.agg #[.int .i64 0, .int .u64 0]).cells (n + 1 - k) ++ Builtin.zeroCells (Value.agg #[.int .i64 0, .int .u64 0]).cells (G - (n + 1))).toList := ⟨_, rfl⟩
  have hZl : Z.length = (G - k) * 2 := by
    rw [hZ, Array.length_toList, Array.size_append, size_zeroCells, size_zeroCells]
    simp [Value.cells]
    omega
  have hrow : (wcells (ws.take k)).toArray ++ Builtin.zeroCells (Value.agg #[.int .i64 0, .int .u64 0]).cells (n + 1 - k) ++ Builtin.zeroCells (Value.agg #[.int .i64 0, .int .u64 0]).cells (G - (n + 1)) = (wcells (ws.take k) ++ Z).toArray := by
    rw [hZ]
    apply Array.toList_inj.1
    simp
  rw [hrow] at hr
  clear hrow hZ hold hG hgw
  obtain ⟨W1, hW1⟩ : ∃ W1, W1 = w.drew.alloc (.cells (wcells (ws.take k) ++ Z).toArray 59) := ⟨_, rfl⟩
  rw [← hW1] at hr
  have HR := Lib.hid hr
  clear hr
  have hcm3 := hcm2
  unfold maxLen at hcm3
  have hN1 : W1.heap[w.heap.size]? = some (.cells (wcells (ws.take k) ++ Z).toArray 59 (0, 0)) := by rw [hW1]; exact heap_alloc_new w.drew _
  have hO1 : ∀ j, j < w.heap.size → W1.heap[j]? = w.heap[j]? := fun j hj => by rw [hW1]; exact heap_alloc_old w.drew _ hj
  have hS1 : W1.heap.size = w.heap.size + 1 ∧ W1.os = w.os ∧ W1.tape = w.tape ∧ W1.output = w.output := by rw [hW1]; exact ⟨by simp, rfl, rfl, rfl⟩
  clear hW1
  have hVlt : VB < w.heap.size := World.block_lt_of_cell? w _ hv1
  have hpc : ∀ j u, (wcells [p])[j]? = some u → W1.cell? ((⟨VB, 0, none⟩ : Addr).add j) = some u := by
    intro j u hu
    rw [Addr.add_lit, Nat.zero_add, World.cell?_of_block (w := w) (hO1 VB hVlt)]
    match j, hu with
    | 0, hu => simp [wcells] at hu; subst hu; exact hv1
    | 1, hu => simp [wcells] at hu; subst hu; exact hv2
    | j + 2, hu => simp [wcells] at hu
  have hcA := run_copy_words W1 w.heap.size (k * 2) (n + 1 - k) (G - k) ⟨VB, 0, none⟩ 1 vc _ (wcells [p]) 1 hN1 (by show 1 = min 1 (n + 1 - k); omega) rfl hpc (by simp [htk, hZl, wcells]; omega) (wcells_one [p])
  rw [show (wcells (ws.take k) ++ Z).toArray.toList = wcells (ws.take k) ++ Z from rfl, splice_at _ _ _ _ htk] at hcA
  have hN2 := setRow_heap W1 w.heap.size _ (wcells (ws.take k) ++ (wcells [p] ++ Z.drop (wcells [p]).length)).toArray _ _ hN1
  have hO2 : ∀ j, j < w.heap.size → (W1.setRow w.heap.size (wcells (ws.take k) ++ (wcells [p] ++ Z.drop (wcells [p]).length)).toArray).heap[j]? = w.heap[j]? := fun j hj => by rw [setRow_other _ _ _ _ (by omega)]; exact hO1 j hj
  obtain ⟨W2, hW2⟩ : ∃ W2, W2 = W1.setRow w.heap.size (wcells (ws.take k) ++ (wcells [p] ++ Z.drop (wcells [p]).length)).toArray := ⟨_, rfl⟩
  have hS2 : W2.heap.size = w.heap.size + 1 ∧ W2.os = w.os ∧ W2.tape = w.tape ∧ W2.output = w.output := by rw [hW2]; exact ⟨by simp [World.setRow, hS1.1], hS1.2.1, hS1.2.2.1, hS1.2.2.2⟩
  rw [← hW2] at hcA hN2 hO2
  clear hW2 hN1 hO1 hS1 hpc
  have hgw := (hown.lt g rfl).2
  have hdk : (wcells (ws.drop k)).length = (n - k) * 2 := by rw [wcells_length, List.length_drop, hn]
  have hsrc : ∀ j u, (wcells (ws.drop k))[j]? = some u → W2.drew.cell? ((⟨g, k * 2, none⟩ : Addr).add j) = some u := by
    intro j u hu
    rw [Addr.add_lit, World.cell?_of_block (w := w) (w' := W2.drew) (hO2 g hgw)]
    rw [wcells_drop, List.getElem?_drop] at hu
    exact holds _ u hu
  have hA2 : (wcells (ws.take k) ++ wcells [p]).length = (k + 1) * 2 := by rw [List.length_append, htk]; simp [wcells]; omega
  have hcB := run_copy_words W2.drew w.heap.size ((k + 1) * 2) (n + 1 - (k + 1)) (G - (k + 1)) ⟨g, k * 2, none⟩ (n - k) (n - k) _ (wcells (ws.drop k)) (n - k) hN2 (by show n - k = min (n - k) (n + 1 - (k + 1)); omega) hdk hsrc (by simp [htk, hZl, hdk, wcells]; omega) (wcells_one _)
  rw [show (wcells (ws.take k) ++ (wcells [p] ++ Z.drop (wcells [p]).length)).toArray.toList = (wcells (ws.take k) ++ wcells [p]) ++ Z.drop (wcells [p]).length by simp, splice_at _ _ _ _ hA2] at hcB
  have hN3 := setRow_heap W2.drew w.heap.size _ ((wcells (ws.take k) ++ wcells [p]) ++ (wcells (ws.drop k) ++ (Z.drop (wcells [p]).length).drop (wcells (ws.drop k)).length)).toArray _ _ hN2
  have hO3 : ∀ j, j < w.heap.size → (W2.drew.setRow w.heap.size ((wcells (ws.take k) ++ wcells [p]) ++ (wcells (ws.drop k) ++ (Z.drop (wcells [p]).length).drop (wcells (ws.drop k)).length)).toArray).heap[j]? = w.heap[j]? := fun j hj => by rw [setRow_other _ _ _ _ (by omega)]; exact hO2 j hj
  obtain ⟨W3, hW3⟩ : ∃ W3, W3 = W2.drew.setRow w.heap.size ((wcells (ws.take k) ++ wcells [p]) ++ (wcells (ws.drop k) ++ (Z.drop (wcells [p]).length).drop (wcells (ws.drop k)).length)).toArray := ⟨_, rfl⟩
  have hS3 : W3.heap.size = w.heap.size + 1 ∧ W3.os = w.os ∧ W3.tape = w.tape ∧ W3.output = w.output := by rw [hW3]; exact ⟨by simp [World.setRow, hS2.1], hS2.2.1, hS2.2.2.1, hS2.2.2.2⟩
  rw [← hW3] at hcB hN3 hO3
  clear hW3 hN2 hO2 hS2 hsrc
  have hws : (ws.take k ++ p :: ws.drop k).length = n + 1 := by simp; omega
  have hfin : RowGot w base (.slice (some ⟨g, 0, none⟩) n n) (ws.take k ++ p :: ws.drop k) (.slice (some ⟨w.heap.size, 0, none⟩) (n + 1) G) W3 := by
    unfold RowGot
    rw [hws]
    refine ⟨owns_of hN3 hbase hge hcm2 ?_ ?_, ⟨hS3.2.1, hS3.2.2.1, hS3.2.2.2, by omega, fun j hj _ => hO3 j hj⟩, fun g' hg' => .inr ?_⟩
    · simp [htk, hZl, hdk, wcells]
      omega
    · rw [wcells_append, show wcells (p :: ws.drop k) = wcells [p] ++ wcells (ws.drop k) from rfl]
      show List.take ((n + 1) * 2) ((wcells (ws.take k) ++ wcells [p]) ++ (wcells (ws.drop k) ++ (Z.drop (wcells [p]).length).drop (wcells (ws.drop k)).length)) = _
      rw [← List.append_assoc, List.take_append_of_le_length (by simp [htk, hdk, wcells]; omega), List.take_of_length_le (by simp [htk, hdk, wcells]; omega), List.append_assoc]
    · simp [Value.ownBlock] at hg'
      subst hg'
      exact Nat.le_refl _
  have HF := Lib.hid hfin
  have HA := Lib.hid hcA
  have HB := Lib.hid hcB
  have hGk : k + 1 < G := by omega
  clear hfin hcA hcB hN3 hO3 hS3 holds hown hv1 hv2
  go_enter Tryd.func45, Tryd.ntmps45
  have hcA := HA.out
  go_wp2_with (at_builtin; refine Lib.wpList_append_run _ rfl _ _ _ _ rfl _ _ rfl rfl _ _ HR.out ?_)
  clear hcA
  have hw1 : IntKind.i64.wrap ((k : Int) + 1) = (k : Int) + 1 := by rw [IntKind.wrap_i64]; omega
  have hb1 : (0 : Int) ≤ (k : Int) + 1 := by omega
  have htn : ((k : Int) + 1).toNat = k + 1 := by omega
  have hGi : ¬ (G = k) := by omega
  have hGim : ¬ (G = k + 1) := by omega
  have hci : ¬ (n = k) := by omega
  have hb3 : (k : Int) ≤ (n : Int) := by omega
  have hb4 : (k : Int) + 1 ≤ (n : Int) + 1 := by omega
  go_region_law (refine step_copy_runI rfl _ _ 54 54 rfl (.slice (some ⟨w.heap.size, (k + 1) * 2, none⟩) (n + 1 - (k + 1)) (G - (k + 1))) (.slice (some ⟨g, k * 2, none⟩) (n - k) (n - k)) (by simp [Act.eval, Act.put]) (by simp [Act.eval, Act.put]) HB.out ?_)
  all_goals
    go_wp2
    go_ret
    exact ⟨_, rfl, HF.out⟩

set_option maxHeartbeats 4000000 in
set_option maxRecDepth 100000 in
/-- In the middle, with room: in place. -/
theorem insert_shift (w : World) (base g n c k : Nat) (ws : List Wd) (p : Wd) (VB vc : Nat) (hown : w.ownsRow base 59 2 (.slice (some ⟨g, 0, none⟩) n c) n (wcells ws)) (hn : ws.length = n) (hl : n ≤ 33554432) (hk : k < n) (hroom : n + 1 ≤ c)
    (hv : w.heap[VB]? = some (.cells #[.int .i64 p.1, .int .u64 p.2] 59 (0, 0))) (hVg : VB ≠ g) :
    Calls Tryd.prog 45 #[.slice (some ⟨g, 0, none⟩) n c, .int .i64 k, .slice (some ⟨VB, 0, none⟩) 1 vc] w (Inserted w base (.slice (some ⟨g, 0, none⟩) n c) (ws.take k ++ p :: ws.drop k)) := by
  have hwl := wcells_length ws
  rw [hn] at hwl
  obtain ⟨cur, hbg, hg, hnc, hcm, hcs, htake⟩ := row_cur hown
  have htk : (wcells (ws.take k)).length = k * 2 := by rw [wcells_length, List.length_take]; omega
  have hdk : (wcells (ws.drop k)).length = (n - k) * 2 := by rw [wcells_length, List.length_drop, hn]
  have hcl : cur.toList.length = c * 2 := by rw [Array.length_toList, hcs]
  have hcur : cur.toList = wcells (ws.take k) ++ (wcells (ws.drop k) ++ cur.toList.drop (n * 2)) := by
    rw [← List.append_assoc, ← wcells_append, List.take_append_drop, ← htake, List.take_append_drop]
  obtain ⟨R, hR⟩ : ∃ R, R = cur.toList.drop (n * 2) := ⟨_, rfl⟩
  have hRl : R.length = (c - n) * 2 := by rw [hR, List.length_drop, hcl]; omega
  rw [← hR] at hcur
  clear hR htake
  obtain ⟨X, hX⟩ : ∃ X, X = (wcells (ws.drop k) ++ R).take 2 := ⟨_, rfl⟩
  obtain ⟨Y, hY⟩ : ∃ Y, Y = (wcells (ws.drop k) ++ R).drop 2 := ⟨_, rfl⟩
  have hXl : X.length = 2 := by rw [hX, List.length_take, List.length_append, hdk, hRl]; omega
  have hYl : Y.length = (c - k - 1) * 2 := by rw [hY, List.length_drop, List.length_append, hdk, hRl]; omega
  have hcur2 : cur.toList = (wcells (ws.take k) ++ X) ++ Y := by rw [hcur, hX, hY, List.append_assoc, List.take_append_drop]
  have hTX : (wcells (ws.take k) ++ X).length = (k + 1) * 2 := by rw [List.length_append, htk, hXl]; omega
  have holds : ∀ j u, (wcells ws)[j]? = some u → w.cell? ⟨g, j, none⟩ = some u := fun j u hu => by have := hown.cells (g := g) rfl j u hu; rwa [Addr.add_lit, Nat.zero_add] at this
  have hsrc : ∀ j u, (wcells (ws.drop k))[j]? = some u → w.drew.cell? ((⟨g, k * 2, none⟩ : Addr).add j) = some u := by
    intro j u hu
    rw [Addr.add_lit]
    rw [wcells_drop, List.getElem?_drop] at hu
    exact holds _ u hu
  have hcA := run_copy_words w.drew g ((k + 1) * 2) (n + 1 - (k + 1)) (c - (k + 1)) ⟨g, k * 2, none⟩ (n + 1 - k) (c - k) cur (wcells (ws.drop k)) (n - k) hg (by show n - k = min (n + 1 - k) (n + 1 - (k + 1)); omega) hdk hsrc (by rw [hcs, hdk]; omega) (wcells_one _)
  rw [hcur2, splice_at _ _ _ _ hTX] at hcA
  have hg1 := setRow_heap w.drew g cur ((wcells (ws.take k) ++ X) ++ (wcells (ws.drop k) ++ Y.drop (wcells (ws.drop k)).length)).toArray _ _ hg
  have ho1 : ∀ j, j ≠ g → (w.drew.setRow g ((wcells (ws.take k) ++ X) ++ (wcells (ws.drop k) ++ Y.drop (wcells (ws.drop k)).length)).toArray).heap[j]? = w.heap[j]? := fun j hj => setRow_other w.drew g j _ hj
  obtain ⟨W1, hW1⟩ : ∃ W1, W1 = w.drew.setRow g ((wcells (ws.take k) ++ X) ++ (wcells (ws.drop k) ++ Y.drop (wcells (ws.drop k)).length)).toArray := ⟨_, rfl⟩
  have hS1 : W1.heap.size = w.heap.size ∧ W1.os = w.os ∧ W1.tape = w.tape ∧ W1.output = w.output := by rw [hW1]; exact ⟨by simp [World.setRow], rfl, rfl, rfl⟩
  rw [← hW1] at hcA hg1 ho1
  clear hW1
  have hpc : ∀ j u, (wcells [p])[j]? = some u → W1.cell? ((⟨VB, 0, none⟩ : Addr).add j) = some u := by
    intro j u hu
    obtain ⟨v1, v2, _, _⟩ := cell_two hv
    rw [Addr.add_lit, Nat.zero_add, World.cell?_of_block (w := w) (ho1 VB hVg)]
    match j, hu with
    | 0, hu => simp [wcells] at hu; subst hu; exact v1
    | 1, hu => simp [wcells] at hu; subst hu; exact v2
    | j + 2, hu => simp [wcells] at hu
  have hcB := run_copy_words W1 g (k * 2) (n + 1 - k) (c - k) ⟨VB, 0, none⟩ 1 vc _ (wcells [p]) 1 hg1 (by show 1 = min 1 (n + 1 - k); omega) rfl hpc (by simp [htk, hXl, hdk, wcells]; try omega) (wcells_one [p])
  have e1 : ((wcells (ws.take k) ++ X) ++ (wcells (ws.drop k) ++ Y.drop (wcells (ws.drop k)).length)).toArray.toList = wcells (ws.take k) ++ (X ++ (wcells (ws.drop k) ++ Y.drop (wcells (ws.drop k)).length)) := by simp
  have e2 : (X ++ (wcells (ws.drop k) ++ Y.drop (wcells (ws.drop k)).length)).drop (wcells [p]).length = wcells (ws.drop k) ++ Y.drop (wcells (ws.drop k)).length := by
    rw [show (wcells [p]).length = X.length by rw [hXl]; rfl, List.drop_left]
  rw [e1, splice_at _ _ _ _ htk, e2] at hcB
  have hg2 := setRow_heap W1 g _ (wcells (ws.take k) ++ (wcells [p] ++ (wcells (ws.drop k) ++ Y.drop (wcells (ws.drop k)).length))).toArray _ _ hg1
  have ho2 : ∀ j, j ≠ g → (W1.setRow g (wcells (ws.take k) ++ (wcells [p] ++ (wcells (ws.drop k) ++ Y.drop (wcells (ws.drop k)).length))).toArray).heap[j]? = w.heap[j]? := fun j hj => by rw [setRow_other _ _ _ _ hj]; exact ho1 j hj
  obtain ⟨W2, hW2⟩ : ∃ W2, W2 = W1.setRow g (wcells (ws.take k) ++ (wcells [p] ++ (wcells (ws.drop k) ++ Y.drop (wcells (ws.drop k)).length))).toArray := ⟨_, rfl⟩
  have hS2 : W2.heap.size = w.heap.size ∧ W2.os = w.os ∧ W2.tape = w.tape ∧ W2.output = w.output := by rw [hW2]; exact ⟨by simp [World.setRow, hS1.1], hS1.2.1, hS1.2.2.1, hS1.2.2.2⟩
  rw [← hW2] at hcB hg2 ho2
  clear hW2
  have hws : (ws.take k ++ p :: ws.drop k).length = n + 1 := by simp; omega
  have hfin : RowGot w base (.slice (some ⟨g, 0, none⟩) n c) (ws.take k ++ p :: ws.drop k) (.slice (some ⟨g, 0, none⟩) (n + 1) c) W2 := by
    unfold RowGot
    rw [hws]
    refine ⟨owns_of hg2 hbg hroom hcm ?_ ?_, ⟨hS2.2.1, hS2.2.2.1, hS2.2.2.2, by omega, fun j hj hne => ho2 j (by rintro rfl; exact hne rfl)⟩, fun g' hg' => .inl hg'⟩
    · simp [htk, hYl, hdk, wcells]
      try omega
    · rw [wcells_append, show wcells (p :: ws.drop k) = wcells [p] ++ wcells (ws.drop k) from rfl]
      show List.take ((n + 1) * 2) (wcells (ws.take k) ++ (wcells [p] ++ (wcells (ws.drop k) ++ Y.drop (wcells (ws.drop k)).length))) = _
      rw [← List.append_assoc, ← List.append_assoc, List.take_append_of_le_length (by simp [htk, hdk, wcells]; try omega), List.take_of_length_le (by simp [htk, hdk, wcells]; try omega), List.append_assoc]
  have hsz : ∀ w, (Go.sizeOf 59).run Tryd.prog w = .ok 2 w := Tryd.sizeOf59
  have hov : ∀ lb cb, (callFunc 52 #[.slice (some ⟨VB, 0, none⟩) 1 vc, .slice (some ⟨g, (k + 1) * 2, none⟩) lb cb]).run Tryd.prog w = .ok (.value (.bool false)) w := fun lb cb => by
    rw [run_callFunc_extern Tryd.func52 (by kernel_rfl) (by kernel_rfl) (by kernel_rfl) (e := Extern.SlicesOverlaps.overlaps #[54, 54] #[4]) (by kernel_rfl),
      Lib.run_overlaps_apart w 54 4 59 Tryd.underlying54 2 hsz ⟨VB, 0, none⟩ ⟨g, (k + 1) * 2, none⟩ 1 vc lb cb hVg 59 59 2 (c * 2)
        (by simp [World.shape?, hv]) (by simp [World.shape?, hg, hcs]) (by omega) (by simp [World.frozen?, hv]) (by simp [World.frozen?, hv])]
    rfl
  have HF := Lib.hid hfin
  have HA := Lib.hid hcA
  clear hfin hcA hg1 hg2 ho1 ho2 hS1 hS2 holds hsrc hpc hown e1 e2 hcur hcur2 hX hY
  unfold maxLen at hcm
  have hw1 : IntKind.i64.wrap ((k : Int) + 1) = (k : Int) + 1 := by rw [IntKind.wrap_i64]; omega
  have hb1 : (0 : Int) ≤ (k : Int) + 1 := by omega
  have htn : ((k : Int) + 1).toNat = k + 1 := by omega
  have hci : ¬ (c = k) := by omega
  have hcim : ¬ (c = k + 1) := by omega
  have hb3 : (k : Int) ≤ (n : Int) + 1 := by omega
  have hb4 : (k : Int) + 1 ≤ (n : Int) + 1 := by omega
  go_enter Tryd.func45, Tryd.ntmps45
  go_wp2_with (simp only [hov])
  go_region_law (refine step_copy_runI rfl _ _ 54 54 rfl (.slice (some ⟨g, (k + 1) * 2, none⟩) (n + 1 - (k + 1)) (c - (k + 1))) (.slice (some ⟨g, k * 2, none⟩) (n + 1 - k) (c - k)) (by simp [Act.eval, Act.put]) (by simp [Act.eval, Act.put]) HA.out ?_)
  all_goals
    go_wp2
    go_ret
    exact ⟨_, rfl, HF.out⟩

/-- Insert of one word at any place. -/
theorem insert_any (w : World) (base : Nat) (v : Value) (n k : Nat) (ws : List Wd) (p : Wd) (VB : Nat) (hown : w.ownsRow base 59 2 v n (wcells ws)) (hn : ws.length = n) (hl : n ≤ 33554432) (hk : k ≤ n)
    (hv : w.heap[VB]? = some (.cells #[.int .i64 p.1, .int .u64 p.2] 59 (0, 0))) (hVg : v.ownBlock ≠ some VB) (hbase : base ≤ w.heap.size) :
    Calls Tryd.prog 45 #[v, .int .i64 k, .slice (some ⟨VB, 0, none⟩) 1 1] w (Inserted w base v (ws.take k ++ p :: ws.drop k)) := by
  obtain ⟨v1, v2, _, _⟩ := cell_two hv
  by_cases hkn : k = n
  · subst hkn
    have e : ws.take k ++ p :: ws.drop k = ws ++ [p] := by rw [← hn, List.take_length, List.drop_length]
    rw [e]
    obtain ⟨A, c, rfl, _, _⟩ := owned_row hown
    exact insert_end w base A k c ws p VB 1 hown hn hl v1 v2 hbase
  · have hown' := hown
    rcases hown'.2 with ⟨rfl, h0⟩ | ⟨g, c, cur, rfl, _, _, hnc, _⟩
    · omega
    · by_cases hroom : n + 1 ≤ c
      · exact insert_shift w base g n c k ws p VB 1 hown hn hl (by omega) hroom hv (by rintro rfl; exact hVg rfl)
      · obtain rfl : c = n := by omega
        exact insert_grow w base g c k ws p VB 1 hown hn hl (by omega) v1 v2 hbase
end Go.Proofs.YtkflmhpmnceniaaDoor
