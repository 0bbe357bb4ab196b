/- What slices.Collect answers of the keys of a map: each key once, in some order, in new memory. -/
import Derived.Test.YthpecegifilgoaaQ12
import Derived.Test.YthpecegifilgoaaQ07
import Derived.Test.YthpecegifilgoaaVars
set_option linter.unusedVariables false
namespace Go.Proofs.Ythpecegifilgoaa
open Go Go.RowKit
attribute [local go_sem] Oper.semAt_some

theorem KpIt.trans {b : Nat} {w w1 w2 : World} (h : KpIt b w w1) (k : KpIt b w1 w2) : KpIt b w w2 := ⟨h.below.trans k.below, fun i o hi ho => k.keep i o (h.keep i o hi ho) ho⟩
theorem KpIt.of {b : Nat} {w w1 : World} (h : Below w.heap.size w w1) (hb : b ≤ w.heap.size) : KpIt b w w1 := ⟨h.mono hb, fun k o hk _ => (h.block k (Array.getElem?_eq_some_iff.1 hk).1).trans hk⟩
theorem KpIt.loop {b : Nat} (W : World) (l : Nat) (x : Loop) (o' : Obj) (hl : b ≤ l) (h : W.heap[l]? = some (.loop x)) : KpIt b W (W.putObj l o') := by
  refine ⟨⟨rfl, rfl, rfl, by simp, fun k hk => World.putObj_heap_other (by omega)⟩, fun k o hk ho => ?_⟩
  rw [World.putObj_heap_other, hk]
  rintro rfl
  rw [h] at hk
  cases hk
  rcases ho with ⟨_, _, _, _, ho⟩ | ⟨_, _, ho⟩ <;> cases ho
/-- The variable at block B leads to terms of the call's own. -/
def TmVar (base B : Nat) (l : List Tm) (W : World) : Prop := ∃ v, W.heap[B]? = some (.cells #[v] 37 (0, 0)) ∧ OwnTm base W v l
theorem own_cells {base : Nat} {w : World} {v : Value} {l : List Tm} (h : OwnTm base w v l) {k : Nat} {o : Obj} (hk : w.heap[k]? = some o) (ho : o.isCells = false) : v.ownBlock ≠ some k := by
  intro he
  rcases h.2 with ⟨rfl, _⟩ | ⟨g, cap, cur, rfl, _, hh, _⟩
  · cases he
  · simp only [Value.ownBlock, Option.some.injEq] at he
    subst he
    rw [hh] at hk
    cases hk
    cases ho
theorem TmVar.firm (N base B : Nat) (l : List Tm) : FirmM N (TmVar base B l) := fun W k o o' _ ho hc ⟨v, h1, h2⟩ => by
  have hB : B ≠ k := fun e => by subst e; rw [h1] at ho; injection ho with ho; rw [← ho] at hc; cases hc
  exact ⟨v, (World.putObj_heap_other hB).trans h1, owned_keep h2 fun g hg => World.putObj_heap_other fun e => by subst e; exact own_cells h2 ho hc hg⟩
theorem TmVar.moved {base base' B : Nat} {l : List Tm} {w w' : World} (h : TmVar base B l w) (hm : MvIt base' w w') : TmVar base B l w' := by
  obtain ⟨v, h1, h2⟩ := h
  refine ⟨v, hm.keep _ _ h1 (by simp), owned_keep h2 fun g hg => ?_⟩
  rcases h2.2 with ⟨rfl, _⟩ | ⟨g', cap, cur, rfl, _, hh, _⟩
  · cases hg
  · simp only [Value.ownBlock, Option.some.injEq] at hg
    subst hg
    rw [hm.keep _ _ hh (by simp), hh]
theorem Below.firm {b N : Nat} {w : World} (hb : b ≤ N) : FirmM N (fun W => Below b w W) := fun W l o o' hl _ _ h => h.trans ⟨rfl, rfl, rfl, by simp, fun k hk => World.putObj_heap_other (by omega)⟩

def CollIn (w : World) (pre : List Tm) (W : World) : Prop := TmVar w.heap.size w.heap.size pre W ∧ Below w.heap.size w W ∧ pre.length ≤ 134217728
/-- The term at hand lies in a block of its own. -/
def CollAx (f : Value) (w : World) (x : Tm) (a : Act) (W : World) : Prop := ∃ Bx, W.heap[Bx]? = some (.cells #[.string ⟨x.1.toArray⟩, .string ⟨x.2.toArray⟩] 43 (0, 0)) ∧ a = { tmps := #[.slice none 0 0, f, .pointer (some ⟨w.heap.size, 0, none⟩), undef, .slice none 0 0, .pointer (some ⟨Bx, 0, none⟩), f, .agg #[.string ⟨x.1.toArray⟩, .string ⟨x.2.toArray⟩], undef, undef, undef, undef, undef], defers := [] }

/-- What is collected. -/
def GotKeys (ks : List Tm) (w : World) (e : Ending) (w' : World) : Prop := ∃ v ts, e = .returned v ∧ ts.Perm ks ∧ OwnTm w.heap.size w' v ts ∧ Below w.heap.size w w'

set_option maxHeartbeats 8000000 in
set_option maxRecDepth 100000 in
theorem keys_append (Bx B : Nat) (m : List Ent) (w : World) (hm : MapAt w B m) (hc : w.cell? ⟨Bx, 0, none⟩ = some (.map (some B))) (hl : m.length ≤ 134217727) :
    Calls Try.prog 66 #[.slice none 0 0, .func (.func 54) #[] #[.pointer (some ⟨Bx, 0, none⟩)]] w (GotKeys (m.map (·.1)) w) := by
  obtain ⟨i0, hi0, hz0, hz1, hz2⟩ := info_parts info_term
  refine (callsIn_wide (n := 6)).1 ?_
  obtain ⟨w2, hw2⟩ : ∃ w2, w2 = w.alloc (.cells #[.slice none 0 0] 37) := ⟨_, rfl⟩
  have hb2 : Below w.heap.size w w2 := by rw [hw2]; exact (Below.refl _ _).alloc (Nat.le_refl _) _
  have hm2 : MapAt w2 B m := (hb2.block B (Array.getElem?_eq_some_iff.1 hm).1).trans hm
  have hc2 := (hb2.cell (p := ⟨Bx, 0, none⟩) (World.block_lt_of_cell? w _ hc)).trans hc
  have hv2 : TmVar w.heap.size w.heap.size [] w2 := ⟨_, by rw [hw2]; exact heap_alloc_new w _, OwnTm.nil⟩
  have hs2 : w2.heap.size = w.heap.size + 1 := by rw [hw2]; simp
  have HT := Lib.hid (keys_moved 5 w.heap.size Bx B m w2 (by omega) hb2.size hm2 hc2)
  have HW2 := Lib.hid hw2
  have HB2 := Lib.hid hb2
  have HV2 := Lib.hid hv2
  clear hw2 hb2 hm2 hc2 hv2 hm hc
  refine callsIn_of_wp_marks Try.func66 rfl trivial ?_ rfl
  simp only [Try.ntmps66, List.size_toArray, List.length_cons, List.length_nil, Nat.reduceAdd, Nat.reduceSub, Array.replicate_succ, Array.replicate_zero, List.push_toArray, List.append_toArray, List.nil_append, List.cons_append]
  gi_wp2
  rw [← HW2.out]
  refine wpIn_range_moved (by omega) (gf := 54) (lb := #[.pointer (some ⟨Bx, 0, none⟩)]) rfl (enters_of Try.func54 (by kernel_rfl) rfl)
    HT.out (fun hb => MvIt.of hb (Nat.le_refl _)) (fun {A B k o} hk hmv ho hnc => hmv.keep _ _ ho (by rcases hnc with ⟨x, rfl⟩ | ⟨x, rfl⟩ <;> simp))
    (fun h k => h.trans k) (fun W lp x o' hlp ho => KpIt.loop W lp x o' (by omega) ho) (fun _ => rfl)
    (CollIn w) (fun s A' B' h hmv => ⟨h.1.moved hmv, h.2.1.trans (hmv.below.mono (by omega)), h.2.2⟩)
    (fun s => fun W l o o' h1 h2 h3 h => ⟨TmVar.firm _ _ _ _ W l o o' h1 h2 h3 h.1, Below.firm (by omega) W l o o' h1 h2 h3 h.2.1, h.2.2⟩)
    (fun s x W l o o' _ _ _ h => h) ⟨HV2.out, HB2.out, by simp⟩
    (CollAx (.func (.func 54) #[] #[.pointer (some ⟨Bx, 0, none⟩)]) w) (fun x a' W l o o' _ ho hc h => ?hAx) ?assign ?body ?done
  case hAx =>
    obtain ⟨Bx', h1, h2⟩ := h
    exact ⟨Bx', (World.putObj_heap_other fun e => by subst e; rw [h1] at ho; injection ho with ho; rw [← ho] at hc; cases hc).trans h1, h2⟩
  case assign =>
    intro lp pre x W K' hi hx hK'
    unfold encT tV
    have hb : Below W.heap.size W (W.alloc (.cells #[.string ⟨x.1.toArray⟩, .string ⟨x.2.toArray⟩] 43)) := (Below.refl _ _).alloc (Nat.le_refl _) _
    have hsz := hi.2.1.size
    have hi2 : CollIn w pre (W.alloc (.cells #[.string ⟨x.1.toArray⟩, .string ⟨x.2.toArray⟩] 43)) := ⟨hi.1.moved (MvIt.of hb (Nat.le_refl _)), hi.2.1.trans (hb.mono hsz), hi.2.2⟩
    have HI := Lib.hid hi2
    have HB := Lib.hid hb
    clear hi hi2 hb
    gi_wp2
    exact hK' _ _ ⟨W.heap.size, heap_alloc_new _ _, rfl⟩ HI.out hx HB.out (KpIt.of HB.out hsz)
  case body =>
    rintro lp pre x a' W ⟨Bt, hx, rfl⟩ ⟨⟨v, hv, hown⟩, hbw, hpl⟩ hlt
    obtain ⟨X, hX⟩ : ∃ X : ByteArray, X = ⟨x.1.toArray⟩ := ⟨_, rfl⟩
    obtain ⟨Y, hY⟩ : ∃ Y : ByteArray, Y = ⟨x.2.toArray⟩ := ⟨_, rfl⟩
    rw [← hX, ← hY] at hx ⊢
    have hfl : flds [x] = [.string X, .string Y] := by rw [hX, hY]; rfl
    obtain ⟨cx0, cx1⟩ : W.cell? ⟨Bt, 0, none⟩ = some (.string X) ∧ W.cell? ⟨Bt, 1, none⟩ = some (.string Y) := ⟨by simp [World.cell?, hx], by simp [World.cell?, hx]⟩
    have cB := cell_of_one hv
    have fB := free_of_one hv
    have hsz := hbw.size
    have hlB := lt_of_block hv
    obtain ⟨k, hk⟩ : ∃ k, k = pre.length := ⟨_, rfl⟩
    have ho1 : W.ownsRow w.heap.size 43 2 v k (flds pre) := by rw [hk]; exact hown
    have hkl : k ≤ 134217727 := by omega
    have HO := Lib.hid ho1
    have HOW := Lib.hid hown
    have HV := Lib.hid hv
    have HBW := Lib.hid hbw
    have HK := Lib.hid hk
    have HFL := Lib.hid hfl
    have HLT := Lib.hid hlt
    clear hv hown hbw ho1 hk hfl hX hY hlt hpl hx
    gi_wp2_with (gi_at_builtin; refine wpListIn_append_own _ rfl (.tmp 8) (.tmp 10) 37 rfl w.heap.size 43 i0 _ 2 32 Try.underlying37 hi0 hz0 hz1 hz2 rfl (by omega) _ k (flds pre) rfl (HO.out.alloc _) ⟨W.heap.size, 0, none⟩ 1 1 [.string X, .string Y] rfl rfl (news_at W [.string X, .string Y] 43) (by intro u hu; simp at hu; rcases hu with rfl | rfl <;> rfl) (by unfold maxLen; omega) (by omega) (by simp; omega) ?_)
    intro v' w4 hown4 hgrow4 hz4
    clear hz4
    obtain ⟨g', cap', hv', _, _⟩ := hown4.form (by omega)
    have hne := owned_apart HOW.out HV.out (by decide)
    have hal : Below W.heap.size W (W.alloc (.cells #[.string X, .string Y] 43)) := (Below.refl _ _).alloc (Nat.le_refl _) _
    have hv4 : w4.heap[w.heap.size]? = some (.cells #[v] 37 (0, 0)) := (hgrow4.block _ (by simp; omega) (fun e => hne e.symm)).trans ((hal.block _ hlB).trans HV.out)
    have cB4 := cell_of_one hv4
    have fB4 := free_of_one hv4
    have hne' := owned_apart hown4 hv4 (by decide)
    have hs4 : W.heap.size ≤ w4.heap.size := Nat.le_trans hal.size hgrow4.size
    have hkeep : ∀ (j : Nat), j < W.heap.size → j ≠ w.heap.size → v.ownBlock ≠ some j → (w4.setCell ⟨w.heap.size, 0, none⟩ v').heap[j]? = W.heap[j]? := fun j h1 h2 h3 => by
      rw [Below.heap_setCell _ _ _ _ h2, hgrow4.block j (Nat.lt_of_lt_of_le h1 hal.size) (fun e => h3 e.symm), hal.block j h1]
    have hnc : ∀ (j : Nat) (o : Obj), W.heap[j]? = some o → o.isCells = false → (w4.setCell ⟨w.heap.size, 0, none⟩ v').heap[j]? = some o := fun j o h1 h2 => by
      rw [hkeep j (Array.getElem?_eq_some_iff.1 h1).1 (fun e => ?_) (own_cells HOW.out h1 h2), h1]
      subst e
      have := HV.out
      rw [this] at h1
      injection h1 with h1
      rw [← h1] at h2
      cases h2
    have hbl : Below w.heap.size W (w4.setCell ⟨w.heap.size, 0, none⟩ v') := ⟨hgrow4.os, hgrow4.tape, hgrow4.output, by simpa using hs4, fun j hj => hkeep j (by omega) (by omega) (fun e => by have := (HO.out.lt j e).1; omega)⟩
    have hin : CollIn w (pre ++ [x]) (w4.setCell ⟨w.heap.size, 0, none⟩ v') := by
      refine ⟨⟨v', one_setCell hv4, ?_⟩, HBW.out.trans hbl, by rw [List.length_append, List.length_singleton, ← HK.out]; omega⟩
      have := ownsRow_setCell_other hown4 (show v'.ownBlock ≠ some (⟨w.heap.size, 0, none⟩ : Addr).block from hne') v'
      unfold OwnTm
      rw [List.length_append, List.length_singleton, ← HK.out, flds_append, HFL.out]
      exact this
    have HKO : Hid (KeepsOthers W (w4.setCell ⟨w.heap.size, 0, none⟩ v')) := Lib.hid ⟨by simpa using hs4, hnc⟩
    have HKP : Hid (KpIt w.heap.size W (w4.setCell ⟨w.heap.size, 0, none⟩ v')) := Lib.hid ⟨hbl, fun j o h1 h2 => hnc j o h1 (by rcases h2 with ⟨_, _, _, _, rfl⟩ | ⟨_, _, rfl⟩ <;> rfl)⟩
    have HIN := Lib.hid hin
    subst hv'
    clear hkeep hnc hbl hin hne hne' hal hv4 hgrow4 hown4
    gi_wp2
    exact ⟨HKO.out, HKP.out, HIN.out⟩
  case done =>
    rintro D' ys W hD2 hys ⟨⟨v, hv, hown⟩, hbw, _⟩ hK'
    have cB := cell_of_one hv
    have HO := Lib.hid hown
    have HBW := Lib.hid hbw
    have HV := Lib.hid hv
    have HYS := Lib.hid hys
    clear hys hown hbw hv
    gi_wp2
    refine ⟨by simp, .inl ⟨_, _, rfl, run_takeDeferred hK', ?_⟩⟩
    refine ⟨_, results_tmp rfl _ _ _, ?_⟩
    refine ⟨v, ys, rfl, HYS.out, owned_keep HO.out fun g hg => World.putObj_heap_other fun e => ?_, Below.firm (by omega) W D' _ (.deferred none) hD2 hK' rfl HBW.out⟩
    subst e
    exact own_cells HO.out hK' rfl hg
end Go.Proofs.Ythpecegifilgoaa
