/- Texts laid together: SealB09, Rig09, RigS09, NewB09, KeysM09, KeysWM09, ShelfS09, CollS09, KeysB09, PRow09, LayC09, PostB09. -/
import Derived.Test.YtgcdekaceimdnaaGreatQ07
import Derived.Test.YtgcdekaceimdnaaGreatGood08
import Derived.Test.YtgcdekaceimdnaaGreatAddB09
import Derived.Test.YtgcdekaceimdnaaGreatGoodE09
import Derived.Carry
import Derived.Test.YtgcdekaceimdnaaGreatQ05
import Derived.Test.YtgcdekaceimdnaaGreatQ08
import Derived.Test.YtgcdekaceimdnaaGreatQ02
import Derived.Shelf.Sort.Plain
import Derived.Shelf.Slices.In.SortNone
import Derived.Sort.OwnSorted
import Derived.Sort.Grow
import Derived.Lib.OwnBridge
import Derived.Test.YtgcdekaceimdnaaGreatQ03
import Derived.Test.YtgcdekaceimdnaaGreatQ06
import Derived.Test.YtgcdekaceimdnaaGreatQ13
import Derived.Shelf.SlicesE.Clone
import Derived.Test.YtgcdekaceimdnaaGreatProg
import Derived.Test.YtgcdekaceimdnaaGreatQ09
import Derived.Test.YtgcdekaceimdnaaGreatAddE09

/- What a buffer's Seal answers: all entries, and then there are none. -/
set_option linter.unusedVariables false
namespace Go.Proofs.YtgcdekaceimdnaaGreat
open Go Go.RowKit

/-- What is sealed: the entries, in blocks that are the buffer's no more. -/
def GotSeal (S : Nat → Prop) (B : Nat) (l : List En) (up : Int) (w : World) (e : Ending) (w' : World) : Prop :=
  ∃ S' A c, e = .returned (.slice A l.length c) ∧ (l.length ≤ c ∧ c ≤ maxLen) ∧ BufAt S' w' B [] up ∧ (∀ k, S' k → S k) ∧ NestP enS (fun k => k < w'.heap.size ∧ ¬ S' k) w' A l ∧ OnlyIn S w w'
set_option maxHeartbeats 1000000 in
theorem buf_Seal {S : Nat → Prop} {w : World} {B : Nat} {l : List En} {up : Int} (h : BufAt S w B l up) :
    Calls Tryz.prog 9 #[.pointer (some ⟨B, 0, none⟩)] w (GotSeal S B l up w) := by
  obtain ⟨v, M, c, g, h⟩ := h
  obtain ⟨es, ec, hes⟩ := h.map.map
  have hMB : B ≠ M := fun e => by subst e; rw [h.cells] at hes; cases hes
  have hbl := h.cells
  obtain ⟨A, cp, rfl, hcp, hn⟩ := h.own.nestP (p := fun k => k < w.heap.size ∧ k ≠ B ∧ k ≠ M) fun k _ hk ⟨cs, t, fr, hh, ht⟩ => ⟨hk, fun e => by
    subst e
    rw [hbl] at hh
    injection hh with hh
    injection hh with _ h2 _
    rcases ht with h3 | h3 <;> exact absurd (h2.trans h3) (by decide), fun e => by subst e; rw [hes] at hh; cases hh⟩
  obtain ⟨m, hm, hSM, _⟩ := h.map
  obtain ⟨w1, hw1⟩ : ∃ w1, w1 = (w.setCell ⟨B, 0, none⟩ (.slice none 0 0)).setCell ⟨B, 2, none⟩ (.int .i64 0) := ⟨_, rfl⟩
  have hB1 : w1.heap[B]? = some (.cells #[.slice none 0 0, .map (some M), .int .i64 0, .int .i64 up] 63 (0, 0)) := by rw [hw1, set_at (set_at hbl)]; rfl
  have ho1 : ∀ k, k ≠ B → w1.heap[k]? = w.heap[k]? := fun k hk => by rw [hw1, set_ne (Ne.symm hk), set_ne (Ne.symm hk)]
  have hm1 : MapK w1 M c m := (ho1 M (Ne.symm hMB)).trans hm
  have hsz : w1.heap.size = w.heap.size := by rw [hw1]; simp
  have hos : w1.os = w.os ∧ w1.tape = w.tape ∧ w1.output = w.output := by rw [hw1]; exact ⟨rfl, rfl, rfl⟩
  have HFIN : Hid (∀ w2, MapK w2 M (c + m.length) [] → w1.grownBy w2 (some M) → BufAt (fun k => k = B ∨ k = M) w2 B [] up ∧ NestP enS (fun k => k < w2.heap.size ∧ ¬ (k = B ∨ k = M)) w2 A l ∧ OnlyIn S w w2 ∧ ∀ k, (k = B ∨ k = M) → S k) := Lib.hid fun w2 hm2 hg2 => by
    have hk2 : ∀ k, k < w.heap.size → k ≠ B → k ≠ M → w2.heap[k]? = w.heap[k]? := fun k h1 h2 h3 => (hg2.block k (by omega) (fun e => h3 (by cases e; rfl))).trans (ho1 k h2)
    have hB2 : w2.heap[B]? = some (.cells #[.slice none 0 0, .map (some M), .int .i64 0, .int .i64 up] 63 (0, 0)) := (hg2.block B (lt_of_block hB1) (fun e => hMB (by cases e; rfl))).trans hB1
    have hlB := lt_of_block hB2
    have hlM : M < w2.heap.size := (Array.getElem?_eq_some_iff.1 hm2).1
    have hs2 := hg2.size
    refine ⟨⟨.slice none 0 0, M, c + m.length, [], hB2, .inl rfl, OwnES.nil, ⟨[], hm2, .inr rfl, rfl, fun i e p h => (by simp at h), fun i j e f k _ h => (by simp at h)⟩, Stand.nil, fun q h => (by cases h), h.up1, fun h => absurd rfl h, fun k h => by rcases h with rfl | rfl <;> omega⟩, ?_, ⟨?_, ?_, ?_, by omega, fun k h1 h2 => hk2 k h1 (fun e => h2 (e ▸ h.mine)) (fun e => h2 (e ▸ hSM))⟩, fun k h4 => h4.elim (fun e => e ▸ h.mine) fun e => e ▸ hSM⟩
    · exact (hn.keep fun k hk => hk2 k hk.1 hk.2.1 hk.2.2).imp fun k hk => ⟨by omega, fun h => h.elim hk.2.1 hk.2.2⟩
    · exact hg2.os.trans hos.1
    · exact hg2.tape.trans hos.2.1
    · exact hg2.output.trans hos.2.2
  obtain ⟨c0, c1, c2, c3, f0, f1, f2, f3⟩ := four_cells hbl
  have d1 := (four_cells hB1).2.1
  rw [hw1] at d1
  have HM1 : Hid (MapK ((w.setCell ⟨B, 0, none⟩ (.slice none 0 0)).setCell ⟨B, 2, none⟩ (.int .i64 0)) M c m) := Lib.hid (by rw [← hw1]; exact hm1)
  have HW1 := Lib.hid hw1
  clear h hes hm hbl hw1 hB1 ho1 hm1 hsz hos hn hMB
  go_enter Tryz.func9, Tryz.ntmps9
  go_wp2_with (first
    | (refine wpList_clear_ks _ (by rfl) _ (by rfl) M c m (by rfl) HM1.out ?_
       intro w2 hm2 hg2
       rw [← HW1.out] at hg2
       have HGOT := Lib.hid (HFIN.out w2 hm2 hg2)
       clear hm2 hg2))
  go_ret
  exact ⟨_, _, _, rfl, hcp, HGOT.out.1, HGOT.out.2.2.2, HGOT.out.2.1, HGOT.out.2.2.1⟩
end Go.Proofs.YtgcdekaceimdnaaGreat

/- A buffer, and lists of entries beside it that it does not turn: what stands while entries are added and sealed. -/
set_option linter.unusedVariables false
namespace Go.Proofs.YtgcdekaceimdnaaGreat
open Go Go.RowKit

theorem goodsE_at {l : List Dc} {most : Nat} {start step : Int} {i : Nat} (hi : i < (goodsE l most start step).length) : ((goodsE l most start step)[i]).2.2 = start + step * (i : Int) := by
  simp [goodsE]
theorem mayE_good {q : En} {d : List Fd} {up : Int} (h : q.2.1 = goodD d) : mayE up q = if q.2.2 < 0 ∨ q.2.2 ≤ up then 12 else 0 := by
  unfold mayE
  rw [if_neg (by rw [h, goodD_may]; decide)]
theorem goodsE_goodE (l : List Dc) (most : Nat) (start step : Int) : GoodE (goodsE l most start step) := fun q hq => by
  obtain ⟨d, h⟩ := goodsE_good l most start step q hq
  rw [h]
  exact goodD_good d
/-- The blocks that there are beside S. -/
def Out (S : Nat → Prop) (w : World) (b : Nat) : Prop := b < w.heap.size ∧ ¬ S b
theorem Out.later {S : Nat → Prop} {w w' : World} {b : Nat} (h : Out S w b) (hs : w.heap.size ≤ w'.heap.size) : Out S w' b := ⟨Nat.lt_of_lt_of_le h.1 hs, h.2⟩
theorem Out.grown {S S' : Nat → Prop} {w w' : World} {b : Nat} (h : Out S w b) (hs : w.heap.size ≤ w'.heap.size) (hS : ∀ k, S' k → S k ∨ w.heap.size ≤ k) : Out S' w' b := ⟨Nat.lt_of_lt_of_le h.1 hs, fun h' => (hS b h').elim h.2 fun h' => by have := h.1; omega⟩
/-- What stands: the buffer at B has L; the entries G lie behind V, other ones (one) behind A1, all of them beside it. -/
structure Rig (S : Nat → Prop) (B : Nat) (L : List En) (up : Int) (V : Value) (G : List En) (A1 : Option Addr) (one : List En) (w wr : World) : Prop where
  buf : BufAt S wr B L up
  ge : ∀ k, S k → w.heap.size ≤ k
  own : OwnES (Out S wr) wr V G
  nest : NestP enS (Out S wr) wr A1 one
  bel : Below w.heap.size w wr
section
variable {S : Nat → Prop} {B : Nat} {L : List En} {up : Int} {V : Value} {G : List En} {A1 : Option Addr} {one : List En} {w wr w' : World}
theorem Rig.below (h : Rig S B L up V G A1 one w wr) (hb : Below wr.heap.size wr w') : Rig S B L up V G A1 one w w' :=
  ⟨h.buf.below hb, h.ge, (h.own.keeps fun k _ hk => hb.block k hk).imp fun k hk => hk.later hb.size, (h.nest.keep fun k hk => hb.block k hk.1).imp fun k hk => hk.later hb.size, h.bel.trans (hb.mono h.bel.size)⟩
theorem Rig.added (h : Rig S B L up V G A1 one w wr) {S' : Nat → Prop} {L' : List En} {up' : Int} (hb : BufAt S' w' B L' up') (hS : ∀ k, S' k → S k ∨ wr.heap.size ≤ k) (ho : OnlyIn S wr w') : Rig S' B L' up' V G A1 one w w' :=
  ⟨hb, fun k hk => (hS k hk).elim (h.ge k) fun hk => Nat.le_trans h.bel.size hk, (h.own.keeps fun k hk hk' => ho.block k hk' hk.2).imp fun k hk => hk.grown ho.size hS, (h.nest.keep fun k hk => ho.block k hk.1 hk.2).imp fun k hk => hk.grown ho.size hS, h.bel.trans (ho.below h.ge h.bel.size)⟩
theorem Rig.sealed (h : Rig S B L up V G A1 one w wr) {e : Ending} (hs : GotSeal S B L up wr e w') : ∃ S' A c, e = .returned (.slice A L.length c) ∧ (L.length ≤ c ∧ c ≤ maxLen) ∧ Rig S' B [] up V G A L w w' ∧ NestP enS (Out S' w') w' A1 one := by
  obtain ⟨S', A, c, he, hc, hb, hS, hn, ho⟩ := hs
  have hr := h.added hb (fun k hk => .inl (hS k hk)) ho
  exact ⟨S', A, c, he, hc, ⟨hb, hr.ge, hr.own, hn, hr.bel⟩, hr.nest⟩
/-- Add of an entry that lies beside the buffer. -/
theorem Rig.adds (h : Rig S B L up V G A1 one w wr) (hG : ∀ q ∈ G, ∃ d, q.2.1 = goodD d) (hlen : L.length ≤ 1000) {i : Nat} (hi : i < G.length) :
    ∃ b c0 A c, V = .slice (some ⟨b, 0, none⟩) G.length c0 ∧ wr.cell? ⟨b, i * 3, none⟩ = some (.int .i64 G[i].1) ∧ wr.cell? ⟨b, i * 3 + 1, none⟩ = some (.slice A G[i].2.1.length c) ∧ wr.cell? ⟨b, i * 3 + 2, none⟩ = some (.int .i64 G[i].2.2) ∧
      Calls Tryz.prog 13 #[.pointer (some ⟨B, 0, none⟩), .agg #[.int .i64 G[i].1, .slice A G[i].2.1.length c, .int .i64 G[i].2.2]] wr fun e w' => (G[i].2.2 < 0 ∨ G[i].2.2 ≤ up → e = .returned (.int .i64 12) ∧ Below wr.heap.size wr w') ∧
        (0 ≤ G[i].2.2 → up < G[i].2.2 → e = .returned (.int .i64 0) ∧ ∃ S', Rig S' B (L ++ [G[i]]) G[i].2.2 V G A1 one w w') := by
  obtain ⟨b, c0, A, c, hv, _, _, e0, e1, e2, hc, hcx, hr⟩ := h.own.at_ hi
  obtain ⟨d, hd⟩ := hG _ (List.getElem_mem hi)
  have hgf : GoodF G[i].2.1 := by rw [hd]; exact goodD_good d
  have hrow : RowP (fun k => k < wr.heap.size ∧ ¬ S k) wr A (flds G[i].2.1) := hr.1.imp fun k hk => hk.1
  refine ⟨b, c0, A, c, hv, e0, e1, e2, (buf_Add h.buf G[i] A _ c rfl hc hrow hr.2 (by have := hgf.len; omega) (fun f hf => ?_) hlen).mono ?_⟩
  · have h1 := hgf.names f hf
    have h2 : f.2.length ≤ 1024 := by
      rw [hd] at hf
      have := goodUp_text d _ f hf
      omega
    omega
  · rintro e w' ⟨rfl, h1, h2⟩
    rw [mayE_good hd] at h1 h2 ⊢
    refine ⟨fun hn => ?_, fun hp hq => ?_⟩
    · rw [if_pos hn] at h1 ⊢
      exact ⟨rfl, h1 (by decide)⟩
    · rw [if_neg (by omega)] at h2 ⊢
      obtain ⟨S', hb, hS, ho⟩ := h2 rfl
      exact ⟨rfl, S', h.added hb hS ho⟩
end
end Go.Proofs.YtgcdekaceimdnaaGreat

/- Where the walks of BufferSeals, BufferTells begin: a buffer without entries, entries beside it. -/
set_option linter.unusedVariables false
namespace Go.Proofs.YtgcdekaceimdnaaGreat
open Go Go.RowKit

theorem rig_start {S : Nat → Prop} {B : Nat} {V : Value} {G : List En} {w w1 w2 : World} (hb : BufAt S w1 B [] (-1)) (hS : ∀ k, S k → w.heap.size ≤ k) (h01 : Below w.heap.size w w1) (hG : OwnES (fun k => w1.heap.size ≤ k) w2 V G) (h12 : Below w1.heap.size w1 w2) : Rig S B [] (-1) V G none [] w w2 := by
  refine ⟨hb.below h12, hS, ?_, NestP.nil, h01.trans (h12.mono h01.size)⟩
  obtain ⟨cs, h1, h2, h3⟩ := hG
  refine ⟨cs, h1, fun k hk => ⟨(h1.lt k hk).2, fun hs => by have := hb.lt k hs; have := h2 k hk; omega⟩, h3.imp fun A xs h => ⟨RowP.imp h.1 fun k hk => ⟨⟨hk.lt, fun hs => by have := hb.lt k hs; have := hk.1; omega⟩, hk.2⟩, h.2⟩⟩
def SealRel (B : Nat) (G : List En) (V : Value) (A1 : Option Addr) (one : List En) (f : Nat → List En) (u : Nat → Int) (lo hi : Nat) (w : World) (x : Value) (wr : World) : Prop := ∃ (k : Nat) (S : Nat → Prop), lo ≤ k ∧ k ≤ hi ∧ x = .int .i64 (k : Int) ∧ Rig S B (f k) (u k) V G A1 one w wr
theorem take_drop_succ {α : Type} {l : List α} {k a : Nat} (hk : k < l.length) (ha : a ≤ k) : (l.take (k + 1)).drop a = (l.take k).drop a ++ [l[k]] := by
  rw [List.take_succ_eq_append_getElem hk, List.drop_append_of_le_length (by rw [List.length_take]; omega)]
end Go.Proofs.YtgcdekaceimdnaaGreat

/- What a buffer's New, Len, Words, Last answer. -/
set_option linter.unusedVariables false
namespace Go.Proofs.YtgcdekaceimdnaaGreat
open Go Go.RowKit

/-- A buffer in new memory is got. -/
def GotBuf (w : World) (e : Ending) (w' : World) : Prop := ∃ S B, e = .returned (.pointer (some ⟨B, 0, none⟩)) ∧ BufAt S w' B [] (-1) ∧ (∀ k, S k → w.heap.size ≤ k) ∧ Below w.heap.size w w'
theorem newB (w : World) : BufAt (fun k => k = w.heap.size ∨ k = w.heap.size + 1) ((w.alloc (.map #[] 0)).alloc (.cells #[.slice none 0 0, .map (some w.heap.size), .int .i64 0, .int .i64 (-1)] 63)) (w.heap.size + 1) [] (-1) := by
  refine ⟨.slice none 0 0, w.heap.size, 0, [], ?_, .inr rfl, OwnES.nil, ⟨[], ?_, .inl rfl, rfl, fun i e p h => (by simp at h), fun i j e f k _ h => (by simp at h)⟩, Stand.nil, fun q h => (by cases h), by decide, fun h => absurd rfl h, fun k h => by simp; omega⟩
  · simpa [weightE] using heap_alloc_new (w.alloc (.map #[] 0)) (.cells #[.slice none 0 0, .map (some w.heap.size), .int .i64 0, .int .i64 (-1)] 63)
  · unfold MapK
    rw [Below.heap_alloc _ _ _ (by simp)]
    exact heap_alloc_new w _
theorem buf_New (w : World) : Calls Tryz.prog 7 #[] w (GotBuf w) := by
  have HF := Lib.hid (newB w)
  have HB : Hid (Below w.heap.size w ((w.alloc (.map #[] 0)).alloc (.cells #[.slice none 0 0, .map (some w.heap.size), .int .i64 0, .int .i64 (-1)] 63))) := Lib.hid (((Below.refl _ _).alloc (Nat.le_refl _) _).alloc (by simp) _)
  have hmm := @run_makeMap Tryz.prog
  go_enter Tryz.func7, Tryz.ntmps7
  go_wp2
  go_ret
  exact ⟨_, _, rfl, HF.out, fun k h => by omega, HB.out⟩

section
variable {S : Nat → Prop} {w : World} {B : Nat} {l : List En} {up : Int}
theorem buf_Len (h : BufAt S w B l up) : Calls Tryz.prog 23 #[.pointer (some ⟨B, 0, none⟩)] w fun e w' => e = .returned (.int .i64 (l.length : Int)) ∧ Below w.heap.size w w' := by
  obtain ⟨v, M, c, g, h⟩ := h
  have hc := h.cells
  obtain ⟨A, cp, rfl, _, _⟩ := h.own.nest
  obtain ⟨c0, c1, c2, c3, _⟩ := four_cells hc
  clear h hc
  go_enter Tryz.func23, Tryz.ntmps23
  go_wp2
  go_ret
  exact ⟨rfl, Below.refl _ _⟩
theorem buf_Words (h : BufAt S w B l up) : Calls Tryz.prog 20 #[.pointer (some ⟨B, 0, none⟩)] w fun e w' => e = .returned (.int .i64 (weightE l : Int)) ∧ Below w.heap.size w w' := by
  obtain ⟨v, M, c, g, h⟩ := h
  obtain ⟨c0, c1, c2, c3, _⟩ := four_cells h.cells
  clear h
  go_enter Tryz.func20, Tryz.ntmps20
  go_wp2
  go_ret
  exact ⟨rfl, Below.refl _ _⟩
theorem buf_Last (h : BufAt S w B l up) : Calls Tryz.prog 24 #[.pointer (some ⟨B, 0, none⟩)] w fun e w' => e = .returned (.int .i64 (lastE l)) ∧ Below w.heap.size w w' := by
  have hlast := lastB_lastE h.last
  obtain ⟨v, M, c, g, h⟩ := h
  have hc := h.cells
  obtain ⟨A, cp, rfl, _, _⟩ := h.own.nest
  obtain ⟨c0, c1, c2, c3, _⟩ := four_cells hc
  clear h hc
  obtain ⟨n, hn⟩ : ∃ n, n = l.length := ⟨_, rfl⟩
  unfold lastB at hlast
  rw [← hn] at hlast c0
  have HL := Lib.hid hlast
  clear hlast hn
  go_enter Tryz.func24, Tryz.ntmps24
  by_cases h0 : n = 0
  · have h1 := HL.out
    rw [if_pos h0] at h1
    subst h0
    rw [← h1]
    clear h1 HL
    go_wp2
    go_ret
    exact ⟨rfl, Below.refl _ _⟩
  · have h1 := HL.out
    rw [if_neg h0] at h1
    rw [← h1]
    have h2 : ((n : Int) == 0) = false := by simpa using h0
    clear h1 HL
    go_wp2
    go_ret
    exact ⟨rfl, Below.refl _ _⟩
end
end Go.Proofs.YtgcdekaceimdnaaGreat

/- What maps.Keys hands on of a map whose keys are texts: each key once, in some order. -/
set_option linter.unusedVariables false
namespace Go.Proofs.YtgcdekaceimdnaaGreat
open Go Go.RowKit
open Go.ChangeMaps (setBlock)
attribute [local go_sem] Oper.semAt_some

def encK (x : Nm) : Array Value := #[kV x]
/-- The walk through the map at block B stands in block r; pre has come. -/
def ItK (W : World) (r B c : Nat) (m : List EntK) (pre : List Nm) : Prop := ∃ seen : List Nat, W.heap[r]? = some (.mapIter (some B) (c + m.length) (seen.map (c + ·)).toArray (c + m.length)) ∧ seen.Nodup ∧ (∀ b ∈ seen, b < m.length) ∧ pre = seen.map fun b => (m.map (·.1)).getD b []
theorem entsK_mem {m : List EntK} {i : Nat} {e : MapEntry} (h : e ∈ entsK i m) : ∃ (k : Nat) (hk : k < m.length), e = { key := kV m[k].1, val := m[k].2, born := i + k } := by
  obtain ⟨k, hk, rfl⟩ := List.getElem_of_mem h
  rw [entsK_length] at hk
  refine ⟨k, hk, ?_⟩
  have := entsK_at (i := i) hk
  rw [List.getElem?_eq_getElem (by rw [entsK_length]; exact hk)] at this
  exact Option.some.inj this
theorem entsK_borns : ∀ (m : List EntK) (i : Nat), (entsK i m).map (·.born) = List.range' i m.length
  | [], i => rfl
  | e :: m, i => by rw [entsK, List.map_cons, entsK_borns m (i + 1), List.length_cons, List.range'_succ]
theorem ItK.done {c : Nat} {m : List EntK} {seen : List Nat} (hn : seen.Nodup) (hs : ∀ b ∈ seen, b < m.length) (h0 : (leftOf (entsK c m).toArray (seen.map (c + ·)).toArray).size = 0) : (seen.map fun b => (m.map (·.1)).getD b []).Perm (m.map (·.1)) := by
  have hall := all_seen _ _ h0
  have hp : seen.Perm (List.range m.length) := by
    refine (List.perm_ext_iff_of_nodup hn List.nodup_range).2 fun b => ⟨fun hb => List.mem_range.2 (hs b hb), fun hb => ?_⟩
    have hb := List.mem_range.1 hb
    have he := entsK_at (i := c) hb
    have := hall _ (List.mem_of_getElem? (by simpa using he))
    simpa using this
  have h1 := hp.map fun b => (m.map (·.1)).getD b ([] : Nm)
  refine h1.trans (List.Perm.of_eq ?_)
  apply List.ext_getElem
  · simp
  · intro i h2 h3
    have hi : i < m.length := by simpa using h3
    simp [List.getD_eq_getElem?_getD, hi]

section
variable {F : Fence} {n : Nat} (w : World) {ops : Array Oper} {rest : List Oper} {o : Oper} {a : Act} {Q : Exit → Act → World → Prop}
theorem wpListIn_range_ks (hg : o.guard = none) (x : Operand) (hop : o.op = Op.range 61 x) (B c : Nat) (m : List EntK) (hx : a.eval x = .map (some B)) (hm : MapK w B c m)
    (hK : wpListIn F n Tryz.prog ops Q rest (a.put o.dst (.pointer (some ⟨w.heap.size, 0, none⟩))) (w.alloc (.mapIter (some B) (c + m.length) #[] (c + m.length)))) :
    wpListIn F n Tryz.prog ops Q (o :: rest) a w := by
  refine wpListIn_plain hg fun K' hK' => ?_
  have hrun := run_range_map (P := Tryz.prog) w 61 _ _ B _ _ Tryz.underlying61 hm
  unfold Oper.wpIn
  refine ⟨by simp [Oper.about, hop], ?_⟩
  rw [Oper.semAt_plain F _ _ (by rw [hop]; intro c hc'; cases hc')]
  simp [execOp, hop, hx, hrun, Result.andThen]
  exact hK' _ _ hK
theorem wpListIn_next_ks (hg : o.guard = none) (it : Operand) (hop : o.op = Op.next it false) (base r B c : Nat) (m : List EntK) (pre : List Nm) (hit : a.eval it = .pointer (some ⟨r, 0, none⟩)) (hm : MapK w B c m) (hi : ItK w r B c m pre) (hb : base ≤ r)
    (hDone : pre.Perm (m.map (·.1)) → wpListIn F n Tryz.prog ops Q rest (a.put o.dst (.tuple #[.bool false])) w)
    (hMore : ∀ (t : Nm) (v : Value) (w' : World), pre.length < m.length → MvIt base w w' → ItK w' r B c m (pre ++ [t]) → (Instr.entry (.pointer (some ⟨r, 0, none⟩))).run Tryz.prog w' = .ok (.tuple #[kV t, v]) w' → wpListIn F n Tryz.prog ops Q rest (a.put o.dst (.tuple #[.bool true, kV t, v])) w') :
    wpListIn F n Tryz.prog ops Q (o :: rest) a w := by
  refine wpListIn_plain hg fun K' hK' => ?_
  unfold Oper.wpIn
  refine ⟨by simp [Oper.about, hop], ?_⟩
  rw [Oper.semAt_plain F _ _ (by rw [hop]; intro c hc'; cases hc')]
  obtain ⟨seen, hr, hn, hs, rfl⟩ := hi
  have hold : ∀ x ∈ (entsK c m).toArray.toList, x.born < c + m.length := fun x hx => by
    obtain ⟨k, hk, rfl⟩ := entsK_mem (by simpa using hx)
    simpa using hk
  rcases run_next_at (P := Tryz.prog) w o.type r B (c + m.length) (c + m.length) (seen.map (c + ·)).toArray (entsK c m).toArray (c + m.length) hr hm hold (Nat.le_refl _) with ⟨h0, hrun⟩ | ⟨e, he, w1, hw1, hrun⟩
  · simp [execOp, hop, hit, hrun, Result.andThen]
    exact hK' _ _ (hDone (ItK.done hn hs h0))
  · obtain ⟨he1, he2⟩ := mem_left he
    obtain ⟨k, hk, hek⟩ := entsK_mem (m := m) (i := c) (e := e) (by simpa using he1)
    have hbk : e.born = c + k := by rw [hek]
    have hkk : e.key = kV m[k].1 := by rw [hek]
    rw [hbk] at he2 hrun
    have hks : k ∉ seen := by simpa using he2
    have hpush : (seen.map (c + ·)).toArray.push (c + k) = ((seen ++ [k]).map (c + ·)).toArray := by simp
    rw [hpush] at hrun
    obtain ⟨hmv, hr2⟩ := setBlock_moved (base := base) hw1 hr hb (.mapIter (some B) (c + m.length) ((seen ++ [k]).map (c + ·)).toArray (c + m.length))
    have hm2 : MapK (setBlock w1 r (.mapIter (some B) (c + m.length) ((seen ++ [k]).map (c + ·)).toArray (c + m.length))) B c m := hmv.keep _ _ hm (by simp)
    have hen := run_entry_at (P := Tryz.prog) _ r B (c + m.length) (seen.map (c + ·)).toArray (entsK c m).toArray (c + m.length) e (by rw [hbk, hpush]; exact hr2) hm2 he1 (by simp [entsK_borns, List.nodup_range'])
    rw [hkk] at hen hrun
    simp only [execOp, hop, hit, hrun, Sem.run_bind, Sem.run_pure, Result.andThen]
    have hlen : seen.length < m.length := by
      have h1 : (seen ++ [k]).Nodup := by rw [List.nodup_append]; exact ⟨hn, by simp, fun x hx y hy e => by rw [List.mem_singleton] at hy; subst hy; subst e; exact hks hx⟩
      have h2 : (seen ++ [k]).length ≤ m.length := by
        refine nodup_lt _ _ h1 fun b hb => ?_
        rcases List.mem_append.1 hb with hb | hb
        · exact hs b hb
        · rw [List.mem_singleton.1 hb]; exact hk
      rw [List.length_append, List.length_singleton] at h2
      omega
    refine hK' _ _ (hMore m[k].1 e.val _ (by simpa using hlen) hmv ⟨seen ++ [k], hr2, ?_, ?_, ?_⟩ hen)
    · rw [List.nodup_append]
      exact ⟨hn, by simp, fun x hx y hy e => by rw [List.mem_singleton] at hy; subst hy; subst e; exact hks hx⟩
    · intro b hb
      rcases List.mem_append.1 hb with hb | hb
      · exact hs b hb
      · rw [List.mem_singleton.1 hb]; exact hk
    · rw [List.map_append]
      congr 1
      simp [List.getD_eq_getElem?_getD, hk]
end
end Go.Proofs.YtgcdekaceimdnaaGreat

/- What maps.Keys answers of a map whose keys are texts, and its function: each key once, in some order. -/
set_option linter.unusedVariables false
namespace Go.Proofs.YtgcdekaceimdnaaGreat
open Go Go.RowKit
attribute [local go_sem] Oper.semAt_some

set_option maxHeartbeats 1000000 in
theorem maps_KeysP (B : Nat) (w : World) :
    Calls Tryz.prog 37 #[.map (some B)] w fun e w' => e = .returned (.func (.func 57) #[] #[.pointer (some ⟨w.heap.size, 0, none⟩)]) ∧ w' = w.alloc (.cells #[.map (some B)] 61) := by
  go_enter Tryz.func37, Tryz.ntmps37
  go_wp2
  go_ret
  exact ⟨rfl, rfl⟩

def KeysRelP (base r B c : Nat) (m : List EntK) (w0 : World) (J : List Nm → World → Prop) (wr : World) : Prop := ∃ pre : List Nm, ItK wr r B c m pre ∧ MapK wr B c m ∧ J pre wr ∧ w0.heap.size ≤ wr.heap.size
theorem leftIt_ofK {W : World} {r B c : Nat} {m : List EntK} {pre : List Nm} (h : ItK W r B c m pre) : leftIt r m.length W = m.length - pre.length := by
  obtain ⟨seen, h1, _, _, rfl⟩ := h
  simp [leftIt, h1]

set_option maxHeartbeats 4000000 in
set_option maxRecDepth 100000 in
theorem keys_movedP (q b Bx B c : Nat) (m : List EntK) (w : World) (hq : 1 ≤ q) (hb : b ≤ w.heap.size) (hm : MapK w B c m) (hc : w.cell? ⟨Bx, 0, none⟩ = some (.map (some B))) :
    Moved q Tryz.prog 57 #[.pointer (some ⟨Bx, 0, none⟩)] encK (MvIt w.heap.size) (KpIt b) (fun pre _ _ => pre.length < m.length) (fun xs => xs.Perm (m.map (·.1))) w := by
  intro lp J W hW hJ hY h0
  have hmW : MapK W B c m := (hW.block B (Array.getElem?_eq_some_iff.1 hm).1).trans hm
  have hcW := (hW.cell (p := ⟨Bx, 0, none⟩) (World.block_lt_of_cell? w _ hc)).trans hc
  have HJ := Lib.hid hJ
  have HY := Lib.hid hY
  have hszW := hW.size
  obtain ⟨r, hr⟩ : ∃ r, r = W.heap.size := ⟨_, rfl⟩
  obtain ⟨w2, hw2⟩ : ∃ w2, w2 = W.alloc (.mapIter (some B) (c + m.length) #[] (c + m.length)) := ⟨_, rfl⟩
  have hb2 : Below W.heap.size W w2 := by rw [hw2]; exact (Below.refl _ _).alloc (Nat.le_refl _) _
  have hrel0 : KeysRelP b r B c m W J w2 := by
    refine ⟨[], ⟨[], by rw [hw2, hr]; exact heap_alloc_new _ _, by simp, by simp, rfl⟩, (hb2.block B (Array.getElem?_eq_some_iff.1 hmW).1).trans hmW, hJ _ _ _ h0 (MvIt.of hb2 hszW), hb2.size⟩
  have HREL := Lib.hid hrel0
  have HW2 := Lib.hid hw2
  have hrb : w.heap.size ≤ r := by omega
  have HR := Lib.hid hr
  clear hJ hY h0 hm hc hW hrel0 hw2 hb2 hr
  refine callsIn_of_wp Tryz.func57 rfl trivial ?_ rfl
  simp only [Tryz.ntmps57, List.size_toArray, List.length_cons, List.length_nil, Nat.reduceAdd, Nat.reduceSub, Array.replicate_succ, Array.replicate_zero, List.push_toArray, List.append_toArray, List.nil_append, List.cons_append]
  gi_wp2_with (first
    | (gi_at_range; refine wpListIn_range_ks _ rfl _ rfl B c m rfl hmW ?_; rw [← HW2.out, ← HR.out])
    | gi_in)
  gi_loopw [] (fun wr => KeysRelP b r B c m W J wr) (fun wr => leftIt r m.length wr)
  case atStart => exact HREL.out
  case round =>
    obtain ⟨pre, hit, hmr, hj, hsz⟩ := hrel
    gi_wp2_with (first
      | (gi_at_next; refine wpListIn_next_ks _ rfl _ rfl w.heap.size r B c m pre rfl hmr hit hrb ?_ ?_)
      | gi_in)
    · intro hp
      gi_wp2
      go_end0
      exact ⟨⟨_, rfl⟩, pre, hp, hj⟩
    · intro t v w3 hlen hmv hit3 hen
      have hj3 := HJ.out _ _ _ hj hmv
      have hm3 : MapK w3 B c m := hmv.keep _ _ hmr (by simp)
      have hl := leftIt_ofK hit
      have hsz3 := hmv.below.size
      obtain ⟨X, hX⟩ : ∃ X : ByteArray, X = ⟨t.toArray⟩ := ⟨_, rfl⟩
      have htV : kV t = .string X := by rw [hX]; rfl
      rw [htV] at hen ⊢
      have hyy := HY.out pre t w3 hj3 hlen
      rw [show encK t = #[.string X] by unfold encK; rw [htV]] at hyy
      obtain ⟨fn, tmps, assign, body, hy, hRR⟩ := hyy
      have HIT3 := Lib.hid hit3
      have HM3 := Lib.hid hm3
      have HL := Lib.hid hl
      clear hX htV hit hit3 hmr hm3 hmv hj hj3 hl
      gi_wp2
      refine hRR.mono ?_
      rintro e W4 ⟨rfl, hJ4, hk4⟩
      obtain ⟨seen, g1, g2, g3, g4⟩ := HIT3.out
      have hit4 : ItK W4 r B c m (pre ++ [t]) := ⟨seen, hk4.keep _ _ g1 (.inl ⟨_, _, _, _, rfl⟩), g2, g3, g4⟩
      have hrel : KeysRelP b r B c m W J W4 := ⟨pre ++ [t], hit4, hk4.keep _ _ HM3.out (.inr ⟨_, _, rfl⟩), hJ4, by have := hk4.below.size; omega⟩
      have hlt : leftIt r m.length W4 < leftIt r m.length wr := by
        rw [HL.out, leftIt_ofK hit4, List.length_append, List.length_singleton]
        omega
      have HRL := Lib.hid hrel
      have HLT := Lib.hid hlt
      clear hrel hlt hit4 hJ4 hk4 hy hRR g1 g2 g3 g4
      gi_wp2
      go_roundw
      case rel => exact HRL.out
      case measure => exact HLT.out
end Go.Proofs.YtgcdekaceimdnaaGreat

/- slices.Sort of texts at this translation's numbers, in the words of owned rows. -/
set_option linter.unusedVariables false
namespace Go.Proofs.YtgcdekaceimdnaaGreat
open Go.Shelf Go.RowKit Go.Sort
def laySortS_ren : Go.Shelf.Ren := ⟨fun | 125 => 75 | 128 => 98 | 129 => 99 | 190 => 56 | 258 => 74 | 302 => 89 | 303 => 90 | 304 => 91 | 305 => 92 | 306 => 93 | 307 => 94 | 308 => 95 | 309 => 96 | 310 => 97 | 329 => 110 | 330 => 111 | 333 => 109 | 334 => 112 | 335 => 113 | 336 => 85 | 344 => 127 | n => n, fun | 0 => 0 | 3 => 3 | 4 => 4 | 5 => 5 | 9 => 9 | 31 => 47 | 46 => 122 | 51 => 143 | 53 => 145 | 131 => 117 | 182 => 135 | 183 => 136 | 218 => 152 | 222 => 156 | 228 => 172 | 229 => 146 | n => n, fun | n => n⟩
theorem laySortS : Lays.n190 Tryz.prog laySortS_ren := {
  mixed := by kernel_rfl
  f125 := Tryz.func75.trans (congrArg some (by kernel_rfl))
  f128 := Tryz.func98.trans (congrArg some (by kernel_rfl))
  f129 := Tryz.func99.trans (congrArg some (by kernel_rfl))
  f190 := Tryz.func56.trans (congrArg some (by kernel_rfl))
  f258 := Tryz.func74.trans (congrArg some (by kernel_rfl))
  f302 := Tryz.func89.trans (congrArg some (by kernel_rfl))
  f303 := Tryz.func90.trans (congrArg some (by kernel_rfl))
  f304 := Tryz.func91.trans (congrArg some (by kernel_rfl))
  f305 := Tryz.func92.trans (congrArg some (by kernel_rfl))
  f306 := Tryz.func93.trans (congrArg some (by kernel_rfl))
  f307 := Tryz.func94.trans (congrArg some (by kernel_rfl))
  f308 := Tryz.func95.trans (congrArg some (by kernel_rfl))
  f309 := Tryz.func96.trans (congrArg some (by kernel_rfl))
  f310 := Tryz.func97.trans (congrArg some (by kernel_rfl))
  f329 := Tryz.func110.trans (congrArg some (by kernel_rfl))
  f330 := Tryz.func111.trans (congrArg some (by kernel_rfl))
  f333 := Tryz.func109.trans (congrArg some (by kernel_rfl))
  f334 := Tryz.func112.trans (congrArg some (by kernel_rfl))
  f335 := Tryz.func113.trans (congrArg some (by kernel_rfl))
  f336 := Tryz.func85.trans (congrArg some (by kernel_rfl))
  f344 := Tryz.func127.trans (congrArg some (by kernel_rfl))
  t0 := Tryz.underlying0
  a0 := Tryz.isAgg0
  z0 := Tryz.sizeOf0
  v0 := Tryz.zeroValue0
  t3 := Tryz.underlying3
  a3 := Tryz.isAgg3
  z3 := Tryz.sizeOf3
  v3 := Tryz.zeroValue3
  t4 := Tryz.underlying4
  a4 := Tryz.isAgg4
  z4 := Tryz.sizeOf4
  v4 := Tryz.zeroValue4
  t5 := Tryz.underlying5
  a5 := Tryz.isAgg5
  z5 := Tryz.sizeOf5
  v5 := Tryz.zeroValue5
  t9 := Tryz.underlying9
  a9 := Tryz.isAgg9
  z9 := Tryz.sizeOf9
  v9 := Tryz.zeroValue9
  t31 := Tryz.underlying47
  a31 := Tryz.isAgg47
  z31 := Tryz.sizeOf47
  v31 := Tryz.zeroValue47
  t46 := Tryz.underlying122
  a46 := Tryz.isAgg122
  z46 := Tryz.sizeOf122
  v46 := Tryz.zeroValue122
  t51 := Tryz.underlying143
  a51 := Tryz.isAgg143
  z51 := Tryz.sizeOf143
  v51 := Tryz.zeroValue143
  t53 := Tryz.underlying145
  a53 := Tryz.isAgg145
  z53 := Tryz.sizeOf145
  v53 := Tryz.zeroValue145
  t131 := Tryz.underlying117
  a131 := Tryz.isAgg117
  z131 := Tryz.sizeOf117
  v131 := Tryz.zeroValue117
  t182 := Tryz.underlying135
  a182 := Tryz.isAgg135
  z182 := Tryz.sizeOf135
  v182 := Tryz.zeroValue135
  t183 := Tryz.underlying136
  a183 := Tryz.isAgg136
  z183 := Tryz.sizeOf136
  v183 := Tryz.zeroValue136
  t218 := Tryz.underlying152
  a218 := Tryz.isAgg152
  z218 := Tryz.sizeOf152
  v218 := Tryz.zeroValue152
  t222 := Tryz.underlying156
  a222 := Tryz.isAgg156
  z222 := Tryz.sizeOf156
  v222 := Tryz.zeroValue156
  t228 := Tryz.underlying172
  a228 := Tryz.isAgg172
  z228 := Tryz.sizeOf172
  v228 := Tryz.zeroValue172
  t229 := Tryz.underlying146
  a229 := Tryz.isAgg146
  z229 := Tryz.sizeOf146
  v229 := Tryz.zeroValue146 }
theorem strs_encS (l : List Nm) : l.map encStr = strs l := rfl
theorem sort_texts (base : Nat) (v : Value) (xs : List Nm) (w : World) (ho : OwnNm base w v xs) (hb : base ≤ w.heap.size) (hbig : xs.length ≤ 1073741824) :
    Calls Tryz.prog 56 #[v] w fun e w' => e = .returned (.tuple #[]) ∧ OwnNm base w' v (xs.mergeSort fun x y => decide (x ≤ y)) ∧ Below base w w' := by
  have hl2 : (xs.mergeSort fun x y => decide (x ≤ y)).length = xs.length := List.length_mergeSort xs
  rcases ho.2 with ⟨rfl, h0⟩ | ⟨g, cap, cur, rfl, hbase, hh, h1, h2, h3, h4⟩
  · obtain rfl : xs = [] := List.eq_nil_of_length_eq_zero h0
    exact (Any.slices_Sort_string_none laySortS none 0 w).mono fun e w' ⟨he, hw⟩ => ⟨he, by rw [hw]; simpa using OwnNm.nil, by rw [hw]; exact Below.refl _ _⟩
  · have hH : Holds encStr w g 0 xs.toArray := holds_of_block hh (by simpa [strs] using h4)
    refine (Any.slices_Sort_string laySortS g 0 cap xs w hH (lt_of_block hh) (by omega)).mono fun e w' ⟨he, n, os, hw⟩ => ⟨he, ?_, ?_⟩
    · rw [hw]
      unfold OwnNm
      rw [hl2]
      exact ownsRow_sorted hl2 hbase hh h1 h2 h3
    · rw [hw]
      exact (Below.refl base w).grown (grownBy_sorted _) hb (fun j hj => by cases hj; exact hbase)
end Go.Proofs.YtgcdekaceimdnaaGreat

/- What slices.Collect and slices.Sorted answer of the keys of a map whose keys are texts: each key once, rising, in new memory. -/
set_option linter.unusedVariables false
namespace Go.Proofs.YtgcdekaceimdnaaGreat
open Go Go.RowKit
attribute [local go_sem] Oper.semAt_some

/-- The variable at block B leads to texts of the call's own. -/
def NmVar (base B : Nat) (l : List Nm) (W : World) : Prop := ∃ v, W.heap[B]? = some (.cells #[v] 47 (0, 0)) ∧ OwnNm base W v l
theorem ownN_cells {base : Nat} {w : World} {v : Value} {l : List Nm} (h : OwnNm base w v l) {k : Nat} {o : Obj} (hk : w.heap[k]? = some o) (ho : o.isCells = false) : v.ownBlock ≠ some k := by
  intro he
  rcases h.2 with ⟨rfl, _⟩ | ⟨g, cap, cur, rfl, _, hh, _⟩
  · cases he
  · simp only [Value.ownBlock, Option.some.injEq] at he
    subst he
    rw [hh] at hk
    cases hk
    cases ho
theorem NmVar.firm (N base B : Nat) (l : List Nm) : FirmM N (NmVar base B l) := fun W k o o' _ ho hc ⟨v, h1, h2⟩ => by
  have hB : B ≠ k := fun e => by subst e; rw [h1] at ho; injection ho with ho; rw [← ho] at hc; cases hc
  exact ⟨v, (World.putObj_heap_other hB).trans h1, owned_keep h2 fun g hg => World.putObj_heap_other fun e => by subst e; exact ownN_cells h2 ho hc hg⟩
theorem NmVar.moved {base base' B : Nat} {l : List Nm} {w w' : World} (h : NmVar base B l w) (hm : MvIt base' w w') : NmVar base B l w' := by
  obtain ⟨v, h1, h2⟩ := h
  refine ⟨v, hm.keep _ _ h1 (by simp), owned_keep h2 fun g hg => ?_⟩
  rcases h2.2 with ⟨rfl, _⟩ | ⟨g', cap, cur, rfl, _, hh, _⟩
  · cases hg
  · simp only [Value.ownBlock, Option.some.injEq] at hg
    subst hg
    rw [hm.keep _ _ hh (by simp), hh]

def CollInS (w : World) (pre : List Nm) (W : World) : Prop := NmVar w.heap.size w.heap.size pre W ∧ Below w.heap.size w W ∧ pre.length ≤ 134217728
/-- The text at hand. -/
def CollAxS (f : Value) (w : World) (x : Nm) (a : Act) (W : World) : Prop := a = { tmps := #[.slice none 0 0, f, .pointer (some ⟨w.heap.size, 0, none⟩), undef, .slice none 0 0, kV x, f, kV x, undef, undef, undef, undef, undef], defers := [] }

/-- What is collected. -/
def GotKeysS (ks : List Nm) (w : World) (e : Ending) (w' : World) : Prop := ∃ v ts, e = .returned v ∧ ts.Perm ks ∧ OwnNm w.heap.size w' v ts ∧ Below w.heap.size w w'

set_option maxHeartbeats 8000000 in
set_option maxRecDepth 100000 in
theorem keys_appendS (Bx B c : Nat) (m : List EntK) (w : World) (hm : MapK w B c m) (hc : w.cell? ⟨Bx, 0, none⟩ = some (.map (some B))) (hl : m.length ≤ 134217727) :
    Calls Tryz.prog 73 #[.slice none 0 0, .func (.func 57) #[] #[.pointer (some ⟨Bx, 0, none⟩)]] w (GotKeysS (m.map (·.1)) w) := by
  obtain ⟨i0, hi0, hz0, hz1, hz2⟩ := info_parts info_string
  refine (callsIn_wide (n := 6)).1 ?_
  obtain ⟨w2, hw2⟩ : ∃ w2, w2 = w.alloc (.cells #[.slice none 0 0] 47) := ⟨_, rfl⟩
  have hb2 : Below w.heap.size w w2 := by rw [hw2]; exact (Below.refl _ _).alloc (Nat.le_refl _) _
  have hm2 : MapK w2 B c m := (hb2.block B (Array.getElem?_eq_some_iff.1 hm).1).trans hm
  have hc2 := (hb2.cell (p := ⟨Bx, 0, none⟩) (World.block_lt_of_cell? w _ hc)).trans hc
  have hv2 : NmVar w.heap.size w.heap.size [] w2 := ⟨_, by rw [hw2]; exact heap_alloc_new w _, OwnNm.nil⟩
  have hs2 : w2.heap.size = w.heap.size + 1 := by rw [hw2]; simp
  have HT := Lib.hid (keys_movedP 5 w.heap.size Bx B c m w2 (by omega) hb2.size hm2 hc2)
  have HW2 := Lib.hid hw2
  have HB2 := Lib.hid hb2
  have HV2 := Lib.hid hv2
  clear hw2 hb2 hm2 hc2 hv2 hm hc
  refine callsIn_of_wp_marks Tryz.func73 rfl trivial ?_ rfl
  simp only [Tryz.ntmps73, List.size_toArray, List.length_cons, List.length_nil, Nat.reduceAdd, Nat.reduceSub, Array.replicate_succ, Array.replicate_zero, List.push_toArray, List.append_toArray, List.nil_append, List.cons_append]
  gi_wp2
  rw [← HW2.out]
  refine wpIn_range_moved (by omega) (gf := 57) (lb := #[.pointer (some ⟨Bx, 0, none⟩)]) rfl (enters_of Tryz.func57 (by kernel_rfl) rfl)
    HT.out (fun hb => MvIt.of hb (Nat.le_refl _)) (fun {A B k o} hk hmv ho hnc => hmv.keep _ _ ho (by rcases hnc with ⟨x, rfl⟩ | ⟨x, rfl⟩ <;> simp))
    (fun h k => h.trans k) (fun W lp x o' hlp ho => KpIt.loop W lp x o' (by omega) ho) (fun _ => rfl)
    (CollInS w) (fun s A' B' h hmv => ⟨h.1.moved hmv, h.2.1.trans (hmv.below.mono (by omega)), h.2.2⟩)
    (fun s => fun W l o o' h1 h2 h3 h => ⟨NmVar.firm _ _ _ _ W l o o' h1 h2 h3 h.1, Below.firm (by omega) W l o o' h1 h2 h3 h.2.1, h.2.2⟩)
    (fun s x W l o o' _ _ _ h => h) ⟨HV2.out, HB2.out, by simp⟩
    (CollAxS (.func (.func 57) #[] #[.pointer (some ⟨Bx, 0, none⟩)]) w) (fun x a' W l o o' _ ho hc h => h) ?assign ?body ?done
  case assign =>
    intro lp pre x W K' hi hx hK'
    unfold encK kV
    gi_wp2
    exact hK' _ _ rfl hi hx (Below.refl _ _) (KpIt.of (Below.refl _ _) hi.2.1.size)
  case body =>
    rintro lp pre x a' W rfl ⟨⟨v, hv, hown⟩, hbw, hpl⟩ hlt
    unfold kV
    obtain ⟨X, hX⟩ : ∃ X : ByteArray, X = ⟨x.toArray⟩ := ⟨_, rfl⟩
    rw [← hX]
    have hfl : strs [x] = [.string X] := by rw [hX]; rfl
    have cB := cell_of_one hv
    have fB := free_of_one hv
    have hsz := hbw.size
    have hlB := lt_of_block hv
    obtain ⟨k, hk⟩ : ∃ k, k = pre.length := ⟨_, rfl⟩
    have ho1 : W.ownsRow w.heap.size 9 1 v k (strs pre) := by rw [hk]; exact hown
    have hkl : k ≤ 134217727 := by omega
    have HO := Lib.hid ho1
    have HOW := Lib.hid hown
    have HV := Lib.hid hv
    have HBW := Lib.hid hbw
    have HK := Lib.hid hk
    have HFL := Lib.hid hfl
    have HLT := Lib.hid hlt
    clear hv hown hbw ho1 hk hfl hX hlt hpl
    gi_wp2_with (gi_at_builtin; refine wpListIn_append_own _ rfl (.tmp 8) (.tmp 10) 47 rfl w.heap.size 9 i0 _ 1 16 Tryz.underlying47 hi0 hz0 hz1 hz2 rfl (by omega) _ k (strs pre) rfl (HO.out.alloc _) ⟨W.heap.size, 0, none⟩ 1 1 [.string X] rfl rfl (news_at W [.string X] 9) (by intro u hu; simp at hu; subst hu; rfl) (by unfold maxLen; omega) (by omega) (by simp; omega) ?_)
    intro v' w4 hown4 hgrow4 hz4
    clear hz4
    obtain ⟨g', cap', hv', _, _⟩ := hown4.form (by omega)
    have hne := owned_apart HOW.out HV.out (by decide)
    have hal : Below W.heap.size W (W.alloc (.cells #[.string X] 9)) := (Below.refl _ _).alloc (Nat.le_refl _) _
    have hv4 : w4.heap[w.heap.size]? = some (.cells #[v] 47 (0, 0)) := (hgrow4.block _ (by simp; omega) (fun e => hne e.symm)).trans ((hal.block _ hlB).trans HV.out)
    have cB4 := cell_of_one hv4
    have fB4 := free_of_one hv4
    have hne' := owned_apart hown4 hv4 (by decide)
    have hs4 : W.heap.size ≤ w4.heap.size := Nat.le_trans hal.size hgrow4.size
    have hkeep : ∀ (j : Nat), j < W.heap.size → j ≠ w.heap.size → v.ownBlock ≠ some j → (w4.setCell ⟨w.heap.size, 0, none⟩ v').heap[j]? = W.heap[j]? := fun j h1 h2 h3 => by
      rw [Below.heap_setCell _ _ _ _ h2, hgrow4.block j (Nat.lt_of_lt_of_le h1 hal.size) (fun e => h3 e.symm), hal.block j h1]
    have hnc : ∀ (j : Nat) (o : Obj), W.heap[j]? = some o → o.isCells = false → (w4.setCell ⟨w.heap.size, 0, none⟩ v').heap[j]? = some o := fun j o h1 h2 => by
      rw [hkeep j (Array.getElem?_eq_some_iff.1 h1).1 (fun e => ?_) (ownN_cells HOW.out h1 h2), h1]
      subst e
      have := HV.out
      rw [this] at h1
      injection h1 with h1
      rw [← h1] at h2
      cases h2
    have hbl : Below w.heap.size W (w4.setCell ⟨w.heap.size, 0, none⟩ v') := ⟨hgrow4.os, hgrow4.tape, hgrow4.output, by simpa using hs4, fun j hj => hkeep j (by omega) (by omega) (fun e => by have := (HO.out.lt j e).1; omega)⟩
    have hin : CollInS w (pre ++ [x]) (w4.setCell ⟨w.heap.size, 0, none⟩ v') := by
      refine ⟨⟨v', one_setCell hv4, ?_⟩, HBW.out.trans hbl, by rw [List.length_append, List.length_singleton, ← HK.out]; omega⟩
      have := ownsRow_setCell_other hown4 (show v'.ownBlock ≠ some (⟨w.heap.size, 0, none⟩ : Addr).block from hne') v'
      unfold OwnNm
      rw [List.length_append, List.length_singleton, ← HK.out, strs_append, HFL.out]
      exact this
    have HKO : Hid (KeepsOthers W (w4.setCell ⟨w.heap.size, 0, none⟩ v')) := Lib.hid ⟨by simpa using hs4, hnc⟩
    have HKP : Hid (KpIt w.heap.size W (w4.setCell ⟨w.heap.size, 0, none⟩ v')) := Lib.hid ⟨hbl, fun j o h1 h2 => hnc j o h1 (by rcases h2 with ⟨_, _, _, _, rfl⟩ | ⟨_, _, rfl⟩ <;> rfl)⟩
    have HIN := Lib.hid hin
    subst hv'
    clear hkeep hnc hbl hin hne hne' hal hv4 hgrow4 hown4
    gi_wp2
    exact ⟨HKO.out, HKP.out, HIN.out⟩
  case done =>
    rintro D' ys W hD2 hys ⟨⟨v, hv, hown⟩, hbw, _⟩ hK'
    have cB := cell_of_one hv
    have HO := Lib.hid hown
    have HBW := Lib.hid hbw
    have HV := Lib.hid hv
    have HYS := Lib.hid hys
    clear hys hown hbw hv
    gi_wp2
    refine ⟨by simp, .inl ⟨_, _, rfl, run_takeDeferred hK', ?_⟩⟩
    refine ⟨_, results_tmp rfl _ _ _, ?_⟩
    refine ⟨v, ys, rfl, HYS.out, owned_keep HO.out fun g hg => World.putObj_heap_other fun e => ?_, Below.firm (by omega) W D' _ (.deferred none) hD2 hK' rfl HBW.out⟩
    subst e
    exact ownN_cells HO.out hK' rfl hg

set_option maxHeartbeats 1000000 in
theorem keys_collectS (Bx B c : Nat) (m : List EntK) (w : World) (hm : MapK w B c m) (hc : w.cell? ⟨Bx, 0, none⟩ = some (.map (some B))) (hl : m.length ≤ 134217727) :
    Calls Tryz.prog 55 #[.func (.func 57) #[] #[.pointer (some ⟨Bx, 0, none⟩)]] w (GotKeysS (m.map (·.1)) w) := by
  have HA := Lib.hid (keys_appendS Bx B c m w hm hc hl)
  clear hm hc
  go_enter Tryz.func55, Tryz.ntmps55
  go_wp2_with (go_at_call 73; (with_reducible refine HA.out.mono ?_); rintro e w' ⟨v, ts, rfl, hp, ho, hb⟩)
  go_ret
  exact ⟨v, ts, rfl, hp, ho, hb⟩

set_option maxHeartbeats 2000000 in
/-- The keys of a map, sorted. -/
theorem keys_sortedS (Bx B c : Nat) (m : List EntK) (l : List En) (w : World) (hm : MapK w B c m) (hc : w.cell? ⟨Bx, 0, none⟩ = some (.map (some B))) (hl : m.length ≤ 134217727) (hk : (m.map (·.1)).Perm (keysE l)) :
    Calls Tryz.prog 36 #[.func (.func 57) #[] #[.pointer (some ⟨Bx, 0, none⟩)]] w (GaveNm (keysE l) w) := by
  have HA := Lib.hid (keys_collectS Bx B c m w hm hc hl)
  have hks : (m.map (·.1)).length ≤ 134217727 := by simpa using hl
  have HK := Lib.hid hk
  obtain ⟨ks, hk2⟩ : ∃ ks, ks = m.map (·.1) := ⟨_, rfl⟩
  rw [← hk2] at hks HA HK
  clear hm hc hk hk2
  go_enter Tryz.func36, Tryz.ntmps36
  go_wp2_with (first
    | (go_at_call 55; (with_reducible refine HA.out.mono ?_); rintro e w1 ⟨v, ts, rfl, hp, ho, hb⟩
       have hlt : ts.length ≤ 134217727 := by rw [hp.length_eq]; exact hks
       have HS := Lib.hid (sort_texts w.heap.size v ts w1 ho hb.size (by omega))
       have HP := Lib.hid hp
       have HB := Lib.hid hb
       clear hp ho hb)
    | (go_at_call 56; (with_reducible refine HS.out.mono ?_); rintro e w2 ⟨rfl, ho2, hb2⟩))
  go_ret
  rw [sorted_keys (HP.out.trans HK.out)] at ho2
  exact ⟨v, rfl, ho2, HB.out.trans hb2⟩
end Go.Proofs.YtgcdekaceimdnaaGreat

/- What a buffer's Keys answers: the keys of all terms, rising, each once. -/
set_option linter.unusedVariables false
namespace Go.Proofs.YtgcdekaceimdnaaGreat
open Go Go.RowKit

section
variable {S : Nat → Prop} {w : World} {B : Nat} {l : List En} {up : Int}
theorem keysE_bound {l : List En} (hg : GoodE l) (hn : l.length ≤ 1000) : (keysE l).length ≤ 4000000 := by
  have h1 := keysE_length (l := l) (a := []) (M := 4000) fun q hq => by
    have h := hg q hq
    have h1 := termsUp_length (l := q.2.1) (M := 500) h.wordsS q.2.1.length (Nat.le_refl _)
    rw [termsUp_all] at h1
    exact Nat.le_trans h1 (Nat.le_trans (Nat.mul_le_mul_right _ h.len) (by omega))
  have h2 : l.length * 4000 ≤ 1000 * 4000 := Nat.mul_le_mul_right _ hn
  have h3 : (keysE l).length ≤ l.length * 4000 + ([] : List Nm).length := h1
  simp only [List.length_nil] at h3
  omega
theorem buf_Keys (h : BufAt S w B l up) (hn : l.length ≤ 1000) : Calls Tryz.prog 17 #[.pointer (some ⟨B, 0, none⟩)] w (GaveNm (keysE l) w) := by
  obtain ⟨v, M, c, g, h⟩ := h
  obtain ⟨c0, c1, c2, c3, _⟩ := four_cells h.cells
  obtain ⟨m, hm, hk, hl⟩ := h.map.keys
  have hp : (m.map (·.1)).Perm (keysE l) := by rw [hk]; exact h.stand.perm
  have hlen : m.length ≤ 134217727 := by rw [hl, h.stand.length]; have := keysE_bound h.good hn; omega
  have HM := Lib.hid hm
  have HP := Lib.hid hp
  clear h hm hk hl hp
  go_enter Tryz.func17, Tryz.ntmps17
  go_wp2_with (first
    | (go_at_call 37; (with_reducible refine (maps_KeysP M w).mono ?_); rintro e w1 ⟨rfl, hw1⟩
       have hb1 : Below w.heap.size w w1 := by rw [hw1]; exact (Below.refl _ _).alloc (Nat.le_refl _) _
       have hc1 : w1.cell? ⟨w.heap.size, 0, none⟩ = some (.map (some M)) := by rw [hw1]; simp
       have hm1 : MapK w1 M c m := (hb1.block M (Array.getElem?_eq_some_iff.1 HM.out).1).trans HM.out
       have HS := Lib.hid (keys_sortedS w.heap.size M c m l w1 hm1 hc1 hlen HP.out)
       have HB1 := Lib.hid hb1
       clear hw1 hb1 hc1 hm1)
    | (go_at_call 36; (with_reducible refine HS.out.mono ?_); rintro e w2 ⟨v2, rfl, ho2, hb2⟩))
  go_ret
  exact ⟨_, rfl, ho2.low HB1.out.size, HB1.out.trans (hb2.mono HB1.out.size)⟩
end
end Go.Proofs.YtgcdekaceimdnaaGreat

/- A row of postings, of entries, whose lists are put one by one by others of the same content; a store into an owned row. No walk. -/
set_option linter.unusedVariables false
namespace Go.Proofs.YtgcdekaceimdnaaGreat
open Go Go.RowKit

theorem owned_set {w : World} {base : Nat} {e : TypeId} {size g n cap k : Nat} {xs : List Value} {u : Value} (h : w.ownsRow base e size (.slice (some ⟨g, 0, none⟩) n cap) n xs) : (w.setCell ⟨g, k, none⟩ u).ownsRow base e size (.slice (some ⟨g, 0, none⟩) n cap) n (xs.set k u) := by
  refine ⟨by rw [List.length_set]; exact h.1, ?_⟩
  rcases h.2 with ⟨hv, _⟩ | ⟨g', cap', cur, hv, hg, hh, h1, h2, h3, h4⟩
  · cases hv
  · cases hv
    refine .inr ⟨g, cap, cur.setIfInBounds k u, rfl, hg, set_at hh, h1, h2, by simpa using h3, ?_⟩
    rw [← h4, Array.toList_setIfInBounds, List.take_set]
theorem owned_free {w : World} {base : Nat} {e : TypeId} {size g n cap k : Nat} {xs : List Value} (h : w.ownsRow base e size (.slice (some ⟨g, 0, none⟩) n cap) n xs) (hk : k < n * size) : (∃ u, w.cell? ⟨g, k, none⟩ = some u) ∧ w.frozen? ⟨g, k, none⟩ = false := by
  rcases h.2 with ⟨hv, _⟩ | ⟨g', cap', cur, hv, hg, hh, h1, h2, h3, h4⟩
  · cases hv
  · cases hv
    have hkc : k < cur.size := by
      rw [h3]
      exact Nat.lt_of_lt_of_le hk (Nat.mul_le_mul_right _ h1)
    exact ⟨⟨cur[k], by simp [World.cell?, hh, hkc]⟩, by simp [World.frozen?, hh]⟩

/-- Of the postings of a row the first j have new lists of places. -/
structure PRow (old new : Option Addr → List Value → Prop) (l : List Pn) (j : Nat) (cs : List Value) : Prop where
  len : cs.length = l.length * 2
  each : ∀ i (h : i < l.length), cs[i * 2]? = some (.int .i64 l[i].1) ∧ ∃ A c, cs[i * 2 + 1]? = some (.slice A l[i].2.length c) ∧ l[i].2.length ≤ c ∧ c ≤ maxLen ∧ (i < j → new A (ints l[i].2)) ∧ (j ≤ i → old A (ints l[i].2))
section
variable {old new old' new' : Option Addr → List Value → Prop} {l : List Pn} {j : Nat} {cs : List Value}
theorem PRow.of (h : PoCells old l cs) : PRow old new l 0 cs := ⟨h.len, fun i hi => by
  obtain ⟨h1, A, c, h2, h3, h4, h5⟩ := h.at_ hi
  have e : l.getD i (0, []) = l[i] := by simp [hi]
  rw [e] at h1 h2 h3 h5
  exact ⟨h1, A, c, h2, h3, h4, fun h => by omega, fun _ => h5⟩⟩
theorem PRow.imp (h : PRow old new l j cs) (ho : ∀ A xs, old A xs → old' A xs) (hn : ∀ A xs, new A xs → new' A xs) : PRow old' new' l j cs := ⟨h.len, fun i hi => by
  obtain ⟨h1, A, c, h2, h3, h4, h5, h6⟩ := h.each i hi
  exact ⟨h1, A, c, h2, h3, h4, fun h => hn _ _ (h5 h), fun h => ho _ _ (h6 h)⟩⟩
theorem PRow.put (h : PRow old new l j cs) (hj : j < l.length) {A : Option Addr} {c : Nat} (hc : l[j].2.length ≤ c ∧ c ≤ maxLen) (hn : new A (ints l[j].2)) : PRow old new l (j + 1) (cs.set (j * 2 + 1) (.slice A l[j].2.length c)) := ⟨by rw [List.length_set]; exact h.len, fun i hi => by
  have hl := h.len
  obtain ⟨h1, A', c', h2, h3, h4, h5, h6⟩ := h.each i hi
  rw [List.getElem?_set_ne (by omega)]
  by_cases hij : i = j
  · subst hij
    exact ⟨h1, A, c, List.getElem?_set_self (by omega), hc.1, hc.2, fun _ => hn, fun h => by omega⟩
  · rw [List.getElem?_set_ne (by omega)]
    exact ⟨h1, A', c', h2, h3, h4, fun h => h5 (by omega), fun h => h6 (by omega)⟩⟩
theorem poCells_of : ∀ {l : List Pn} {cs : List Value}, cs.length = l.length * 2 → (∀ i (h : i < l.length), cs[i * 2]? = some (.int .i64 l[i].1) ∧ ∃ A c, cs[i * 2 + 1]? = some (.slice A l[i].2.length c) ∧ l[i].2.length ≤ c ∧ c ≤ maxLen ∧ new A (ints l[i].2)) → PoCells new l cs
  | [], cs, hl, h => List.eq_nil_of_length_eq_zero (by simpa using hl)
  | q :: l, cs, hl, h => by
    rcases cs with _ | ⟨a, _ | ⟨b, cs⟩⟩
    · simp at hl
    · simp at hl; omega
    · obtain ⟨h1, A, c, h2, h3, h4, h5⟩ := h 0 (by simp)
      simp at h1 h2
      subst h1 h2
      refine ⟨A, c, cs, rfl, h3, h4, h5, poCells_of (by simp at hl; omega) fun i hi => ?_⟩
      have := h (i + 1) (by simpa using hi)
      rw [show (i + 1) * 2 = i * 2 + 1 + 1 by omega] at this
      simpa using this
theorem PRow.all (h : PRow old new l l.length cs) : PoCells new l cs := poCells_of h.len fun i hi => by
  obtain ⟨h1, A, c, h2, h3, h4, h5, h6⟩ := h.each i hi
  exact ⟨h1, A, c, h2, h3, h4, h5 hi⟩
end

/-- Of the entries of a row the first j have new lists of fields. -/
structure ERow (old new : Option Addr → List Value → Prop) (l : List En) (j : Nat) (cs : List Value) : Prop where
  len : cs.length = l.length * 3
  each : ∀ i (h : i < l.length), cs[i * 3]? = some (.int .i64 l[i].1) ∧ cs[i * 3 + 2]? = some (.int .i64 l[i].2.2) ∧ ∃ A c, cs[i * 3 + 1]? = some (.slice A l[i].2.1.length c) ∧ l[i].2.1.length ≤ c ∧ c ≤ maxLen ∧ (i < j → new A (flds l[i].2.1)) ∧ (j ≤ i → old A (flds l[i].2.1))
section
variable {old new old' new' : Option Addr → List Value → Prop} {l : List En} {j : Nat} {cs : List Value}
theorem ERow.of (h : NestC enS old l cs) : ERow old new l 0 cs := ⟨h.len, fun i hi => by
  obtain ⟨A, c, g1, g2, g3, g4, g5, g6⟩ := h.at_ hi
  exact ⟨g5 0 _ rfl, g6 0 _ rfl, A, c, g1, g2, g3, fun h => by omega, fun _ => g4⟩⟩
theorem ERow.imp (h : ERow old new l j cs) (ho : ∀ A xs, old A xs → old' A xs) (hn : ∀ A xs, new A xs → new' A xs) : ERow old' new' l j cs := ⟨h.len, fun i hi => by
  obtain ⟨h0, h1, A, c, h2, h3, h4, h5, h6⟩ := h.each i hi
  exact ⟨h0, h1, A, c, h2, h3, h4, fun h => hn _ _ (h5 h), fun h => ho _ _ (h6 h)⟩⟩
theorem ERow.put (h : ERow old new l j cs) (hj : j < l.length) {A : Option Addr} {c : Nat} (hc : l[j].2.1.length ≤ c ∧ c ≤ maxLen) (hn : new A (flds l[j].2.1)) :
    ERow old new l (j + 1) (((cs.set (j * 3) (.int .i64 l[j].1)).set (j * 3 + 1) (.slice A l[j].2.1.length c)).set (j * 3 + 2) (.int .i64 l[j].2.2)) := ⟨by rw [List.length_set, List.length_set, List.length_set]; exact h.len, fun i hi => by
  have hl := h.len
  obtain ⟨h0, h1, A', c', h2, h3, h4, h5, h6⟩ := h.each i hi
  by_cases hij : i = j
  · subst hij
    refine ⟨?_, List.getElem?_set_self (by rw [List.length_set, List.length_set]; omega), A, c, ?_, hc.1, hc.2, fun _ => hn, fun h => by omega⟩
    · rw [List.getElem?_set_ne (by omega), List.getElem?_set_ne (by omega), List.getElem?_set_self (by omega)]
    · rw [List.getElem?_set_ne (by omega), List.getElem?_set_self (by rw [List.length_set]; omega)]
  · simp only [List.getElem?_set_ne (show j * 3 + 2 ≠ i * 3 by omega), List.getElem?_set_ne (show j * 3 + 2 ≠ i * 3 + 1 by omega), List.getElem?_set_ne (show j * 3 + 2 ≠ i * 3 + 2 by omega), List.getElem?_set_ne (show j * 3 + 1 ≠ i * 3 by omega), List.getElem?_set_ne (show j * 3 + 1 ≠ i * 3 + 1 by omega), List.getElem?_set_ne (show j * 3 + 1 ≠ i * 3 + 2 by omega), List.getElem?_set_ne (show j * 3 ≠ i * 3 by omega), List.getElem?_set_ne (show j * 3 ≠ i * 3 + 1 by omega), List.getElem?_set_ne (show j * 3 ≠ i * 3 + 2 by omega)]
    exact ⟨h0, h1, A', c', h2, h3, h4, fun h => h5 (by omega), fun h => h6 (by omega)⟩⟩
theorem nestC_of : ∀ {l : List En} {cs : List Value}, cs.length = l.length * 3 → (∀ i (h : i < l.length), cs[i * 3]? = some (.int .i64 l[i].1) ∧ cs[i * 3 + 2]? = some (.int .i64 l[i].2.2) ∧ ∃ A c, cs[i * 3 + 1]? = some (.slice A l[i].2.1.length c) ∧ l[i].2.1.length ≤ c ∧ c ≤ maxLen ∧ new A (flds l[i].2.1)) → NestC enS new l cs
  | [], cs, hl, h => List.eq_nil_of_length_eq_zero (by simpa using hl)
  | q :: l, cs, hl, h => by
    rcases cs with _ | ⟨a, _ | ⟨b, _ | ⟨d, cs⟩⟩⟩
    · simp at hl
    · simp at hl; omega
    · simp at hl; omega
    · obtain ⟨h0, h1, A, c, h2, h3, h4, h5⟩ := h 0 (by simp)
      simp at h0 h1 h2
      subst h0 h1 h2
      refine ⟨A, c, cs, rfl, h3, h4, h5, nestC_of (by simp at hl; omega) fun i hi => ?_⟩
      have := h (i + 1) (by simpa using hi)
      rw [show (i + 1) * 3 = i * 3 + 1 + 1 + 1 by omega] at this
      simpa using this
theorem ERow.all (h : ERow old new l l.length cs) : NestC enS new l cs := nestC_of h.len fun i hi => by
  obtain ⟨h0, h1, A, c, h2, h3, h4, h5, h6⟩ := h.each i hi
  exact ⟨h0, h1, A, c, h2, h3, h4, h5 hi⟩
end
end Go.Proofs.YtgcdekaceimdnaaGreat

/- The library's slices.Clone of entries, of postings, of numbers, at this translation's numbers. -/
set_option linter.unusedVariables false
namespace Go.Proofs.YtgcdekaceimdnaaGreat
open Go.Shelf Go.RowKit
def layCloneEn_ren : Go.Shelf.Ren := ⟨fun | 41 => 42 | n => n, fun | 4 => 4 | 22 => 25 | 23 => 37 | n => n, fun | n => n⟩
theorem layCloneEn : SlLaysE0.n41 Tryz.prog layCloneEn_ren := {
  mixed := by kernel_rfl
  f41 := ⟨Tryz.f42.name, by kernel_rfl, Tryz.func42.trans (congrArg some (by kernel_rfl))⟩
  t4 := Tryz.underlying4
  a4 := Tryz.isAgg4
  z4 := Tryz.sizeOf4
  v4 := Tryz.zeroValue4
  t22 := Tryz.underlying25
  a22 := Tryz.isAgg25
  z22 := Tryz.sizeOf25
  v22 := Tryz.zeroValue25 }
def layClonePo_ren : Go.Shelf.Ren := ⟨fun | 41 => 38 | n => n, fun | 4 => 4 | 22 => 49 | 23 => 54 | n => n, fun | n => n⟩
theorem layClonePo : SlLaysE0.n41 Tryz.prog layClonePo_ren := {
  mixed := by kernel_rfl
  f41 := ⟨Tryz.f38.name, by kernel_rfl, Tryz.func38.trans (congrArg some (by kernel_rfl))⟩
  t4 := Tryz.underlying4
  a4 := Tryz.isAgg4
  z4 := Tryz.sizeOf4
  v4 := Tryz.zeroValue4
  t22 := Tryz.underlying49
  a22 := Tryz.isAgg49
  z22 := Tryz.sizeOf49
  v22 := Tryz.zeroValue49 }
def layCloneI_ren : Go.Shelf.Ren := ⟨fun | 41 => 39 | n => n, fun | 4 => 4 | 22 => 52 | 23 => 3 | n => n, fun | n => n⟩
theorem layCloneI : SlLaysE0.n41 Tryz.prog layCloneI_ren := {
  mixed := by kernel_rfl
  f41 := ⟨Tryz.f39.name, by kernel_rfl, Tryz.func39.trans (congrArg some (by kernel_rfl))⟩
  t4 := Tryz.underlying4
  a4 := Tryz.isAgg4
  z4 := Tryz.sizeOf4
  v4 := Tryz.zeroValue4
  t22 := Tryz.underlying52
  a22 := Tryz.isAgg52
  z22 := Tryz.sizeOf52
  v22 := Tryz.zeroValue52 }
end Go.Proofs.YtgcdekaceimdnaaGreat

/- What a buffer's Postings answers: where a term stands, in memory of the call's own. -/
namespace Go.Proofs.YtgcdekaceimdnaaGreat
open Go Go.RowKit
set_option linter.unusedVariables false

theorem po_oneCell {R : Option Addr → List Value → Prop} : ∀ {l : List Pn} {cs : List Value}, PoCells R l cs → ∀ u ∈ cs, u.oneCell' = true
  | [], cs, h, u, hu => by simp only [PoCells] at h; subst h; cases hu
  | q :: l, cs, h, u, hu => by
    obtain ⟨A, c, cs', rfl, _, _, _, h'⟩ := h
    simp only [List.mem_cons] at hu
    rcases hu with rfl | rfl | hu
    · rfl
    · rfl
    · exact po_oneCell h' u hu
/-- The library's Clone of a row that the call owns. -/
theorem clone_row {ρ : Go.Shelf.Ren} (L : SlLaysE0.n41 Tryz.prog ρ) {i0 : TypeInfo} {z : Value} {size bytes : Nat} (hi : Tryz.prog.info? (ρ.t 23) = some i0) (hz0 : i0.zero = some z) (hz1 : i0.size = size) (hz2 : i0.bytes = bytes) (hzs : z.cells.size = size) (hsz : 0 < size)
    (z23 : ∀ w, (Go.sizeOf (ρ.t 23)).run Tryz.prog w = .ok size w) {base : Nat} {e : TypeId} {v : Value} {n : Nat} {cs : List Value} {w : World} (h : w.ownsRow base e size v n cs) (hn : n ≤ maxLen) (hbig : n * bytes ≤ 140737488355328) (h1 : ∀ u ∈ cs, u.oneCell' = true) :
    Calls Tryz.prog (ρ.f 41) #[v] w fun e w' => ∃ v', e = .returned v' ∧ w'.ownsRow w.heap.size (ρ.t 23) size v' n cs ∧ Below w.heap.size w w' := by
  rcases h.2 with ⟨rfl, h0⟩ | ⟨g, cap, cur, rfl, _⟩
  · have hc : cs = [] := List.eq_nil_of_length_eq_zero (by rw [h.1, h0]; simp)
    subst hc h0
    refine (AnyE.slices_Clone_nil L 0 0 w).mono ?_
    rintro e w' ⟨rfl, rfl⟩
    exact ⟨_, rfl, World.ownsRow_nil _ _ _ _, Below.refl _ _⟩
  · refine (AnyE.slices_Clone L i0 z size bytes hi hz0 hz1 hz2 hzs hsz z23 g 0 n cap cs w h.1 hn hbig (fun j u hu => ?_) h1).mono ?_
    · have := h.cells (g := g) rfl j u hu
      simpa [Addr.add_lit] using this
    · rintro e w' ⟨v', rfl, ho, _, hb⟩
      exact ⟨v', rfl, ho, hb⟩
set_option maxRecDepth 100000 in
theorem clone_po {base : Nat} {v : Value} {n : Nat} {cs : List Value} {w : World} (h : w.ownsRow base 54 2 v n cs) (hn : n ≤ 100000000) (h1 : ∀ u ∈ cs, u.oneCell' = true) :
    Calls Tryz.prog 38 #[v] w fun e w' => ∃ v', e = .returned v' ∧ w'.ownsRow w.heap.size 54 2 v' n cs ∧ Below w.heap.size w w' := by
  obtain ⟨i0, hi0, hz0, hz1, hz2⟩ := info_parts info_posting
  exact clone_row layClonePo hi0 hz0 hz1 hz2 rfl (by decide) Tryz.sizeOf54 h (by unfold maxLen; omega) (by omega) h1
/-- .. of numbers that lie anywhere. -/
theorem clone_is {A : Option Addr} {n c B : Nat} {l : List Int} {w : World} (hl : l.length = n) (h : Row w B A (ints l)) (hne : 0 < n) (hn : n ≤ 100000000) :
    Calls Tryz.prog 39 #[.slice A n c] w fun e w' => ∃ v', e = .returned v' ∧ w'.ownsRow w.heap.size 3 1 v' n (ints l) ∧ Below w.heap.size w w' := by
  obtain ⟨i0, hi0, hz0, hz1, hz2⟩ := info_parts info_int
  rcases h with h0 | ⟨b, off, rfl, _, hc⟩
  · have := congrArg List.length h0
    simp [ints] at this
    subst this
    simp at hl
    omega
  · refine (AnyE.slices_Clone layCloneI i0 _ 1 8 hi0 hz0 hz1 hz2 rfl (by decide) Tryz.sizeOf3 b off n c (ints l) w (by simp [ints, hl]) (by unfold maxLen; omega) (by omega) hc (ints_oneCell _ _)).mono ?_
    rintro e w' ⟨v', rfl, ho, _, hb⟩
    exact ⟨v', rfl, ho, hb⟩
/-- What is got: postings, all of them in new memory. -/
def GotPo (l : List Pn) (w : World) (e : Ending) (w' : World) : Prop := ∃ v, e = .returned v ∧ OwnPP (fun k => w.heap.size ≤ k) w' v l ∧ Below w.heap.size w w'
def PostRelB (l : List Pn) (N : Nat) (V : Value) (w : World) (x : Value) (wr : World) : Prop := ∃ (j : Nat) (cs : List Value), j ≤ l.length ∧ x = .int .i64 (j : Int) ∧ wr.ownsRow w.heap.size 54 2 V N cs ∧
  PRow (Row wr w.heap.size) (RowP (Of (fun k => w.heap.size ≤ k) 3 wr) wr) l j cs ∧ Below w.heap.size w wr

set_option maxHeartbeats 2000000 in
set_option maxRecDepth 100000 in
theorem buf_Postings {S : Nat → Prop} {w : World} {B : Nat} {l : List En} {up : Int} (h : BufAt S w B l up) (key : ByteArray) (L : List Pn) (hL : L = postsE 0 l key.data.toList) (hln : L.length ≤ 10000000) (hne : ∀ p ∈ L, 0 < p.2.length ∧ p.2.length ≤ 100000) :
    Calls Tryz.prog 18 #[.pointer (some ⟨B, 0, none⟩), .string key] w (GotPo L w) := by
  obtain ⟨v, M, c, g, h⟩ := h
  have c1 := (four_cells h.cells).2.1
  obtain ⟨v1, ⟨m, hm, hv1⟩, ho⟩ := h.map.look key.data.toList
  rw [h.stand.posts, ← hL] at ho
  have hkv : kV key.data.toList = .string key := by simp [kV]
  obtain ⟨cs, o1, o2, o3⟩ := ho
  have hcl := clone_po o1 (by omega) (po_oneCell o3)
  have HLK : Hid (MapK w M c m) := Lib.hid hm
  have HCL := Lib.hid hcl
  have HPO : Hid (PoCells (Row w w.heap.size) L cs) := Lib.hid (o3.imp fun _ _ h => RowP.row h fun b hb => hb.lt)
  have HNE := Lib.hid hne
  have HV1 := Lib.hid hv1
  have HKV := Lib.hid hkv
  obtain ⟨N, hN⟩ : ∃ N, N = L.length := ⟨_, rfl⟩
  rw [← hN] at HCL hln
  have HN := Lib.hid hN
  clear h hL hm hv1 o1 o2 o3 hcl hne hN hkv
  go_enter Tryz.func18, Tryz.ntmps18
  go_wp2_with (first
    | (refine wpList_lookup_ks _ (by rfl) _ _ (by rfl) M c m key.data.toList (by rfl) HLK.out (by rw [HKV.out]; rfl) ?_
       rw [HV1.out])
    | (go_at_call 38; (with_reducible refine HCL.out.mono ?_); rintro e w1 ⟨V1, rfl, ho1, hb1⟩
       obtain ⟨A1, k1, rfl, hk1, hu1⟩ := owned_roomed ho1
       clear hu1
       have HST : Hid (PostRelB L N (.slice A1 N k1) w (.int .i64 ((0 : Nat) : Int)) w1) := Lib.hid (by
         exact ⟨0, cs, Nat.zero_le _, rfl, ho1, (PRow.of HPO.out).imp (fun _ _ h => h.below hb1) fun _ _ h => h, hb1⟩)
       clear ho1 hb1))
  go_loopw [17] (fun x wr => PostRelB L N (.slice A1 N k1) w x wr) (fun x _ => N - (intOf x).toNat)
  case atStart => exact HST.out
  case round =>
    obtain ⟨j, cs2, hj, rfl, hown, hrow, hbw⟩ := hrel
    by_cases hlt : j < N
    · have hjl : j < L.length := by rw [← HN.out]; exact hlt
      obtain ⟨g1, rfl⟩ : ∃ g1, A1 = some ⟨g1, 0, none⟩ := by
        rcases hown.2 with ⟨hv, h5⟩ | ⟨g', cap, cur, hv, _⟩
        · have := HN.out; omega
        · injection hv with e
          exact ⟨g', e⟩
      obtain ⟨e0, A', c', e1, e2, e3, e4, e5⟩ := hrow.each j hjl
      have hne := HNE.out _ (List.getElem_mem hjl)
      have hc0 : wr.cell? ⟨g1, j * 2, none⟩ = some (.int .i64 L[j].1) := by have := hown.cells (g := g1) rfl _ _ e0; simpa [Addr.add_lit] using this
      have hc1 : wr.cell? ⟨g1, j * 2 + 1, none⟩ = some (.slice A' L[j].2.length c') := by have := hown.cells (g := g1) rfl _ _ e1; simpa [Addr.add_lit] using this
      have hlt1 := hown.lt g1 rfl
      have hold := e5 (Nat.le_refl _)
      obtain ⟨csg, frg, hhg⟩ := owned_type hown rfl
      obtain ⟨w2, hw2⟩ : ∃ w2, w2 = wr.alloc (.cells #[.int .i64 L[j].1, .slice A' L[j].2.length c'] 54) := ⟨_, rfl⟩
      have hb2 : Below wr.heap.size wr w2 := by rw [hw2]; exact (Below.refl _ _).alloc (Nat.le_refl _) _
      have hbs := hbw.size
      have hs2 : w2.heap.size = wr.heap.size + 1 := by rw [hw2]; simp
      have hCI := clone_is (n := L[j].2.length) (c := c') rfl (Row.below hold (hb2.mono hbs)) hne.1 (by omega)
      have HAFT : Hid (∀ (w5 : World) (A5 : Option Addr) (c5 : Nat), w5.ownsRow w2.heap.size 3 1 (.slice A5 L[j].2.length c5) L[j].2.length (ints L[j].2) → L[j].2.length ≤ c5 ∧ c5 ≤ maxLen → Below w2.heap.size w2 w5 →
          (∃ u, w5.cell? ⟨g1, j * 2 + 1, none⟩ = some u) ∧ w5.frozen? ⟨g1, j * 2 + 1, none⟩ = false ∧ PostRelB L N (.slice (some ⟨g1, 0, none⟩) N k1) w (.int .i64 ((j : Int) + 1)) (w5.setCell ⟨g1, j * 2 + 1, none⟩ (.slice A5 L[j].2.length c5))) := Lib.hid fun w5 A5 c5 ho5 hc5 hb5 => by
        have hb25 := hb2.trans (hb5.mono hb2.size)
        have hown5 := owned_below hown hb25
        obtain ⟨f1, f2⟩ := owned_free (k := j * 2 + 1) hown5 (by omega)
        have hs5 := hb5.size
        have hkeep : ∀ k, k < wr.heap.size → k ≠ g1 → (w5.setCell ⟨g1, j * 2 + 1, none⟩ (.slice A5 L[j].2.length c5)).heap[k]? = wr.heap[k]? := fun k h1 h2 => (set_ne (Ne.symm h2)).trans (hb25.block k h1)
        have hne1 : ∀ {k : Nat} {u : World}, u.heap[g1]? = some (.cells csg 54 frg) → Of (fun k => w.heap.size ≤ k) 3 u k → k ≠ g1 := fun {k u} h1 ⟨_, cs', fr', hh, _⟩ e => by
          subst e
          rw [h1] at hh
          injection hh with hh
          injection hh with _ h2 _
          exact absurd h2 (by decide)
        have hg5 : w5.heap[g1]? = some (.cells csg 54 frg) := (hb25.block _ hlt1.2).trans hhg
        have hn5 : RowP (Of (fun k => w.heap.size ≤ k) 3 w5) w5 A5 (ints L[j].2) := owned_toI ho5 fun k h1 _ => by omega
        have hn6 : RowP (Of (fun k => w.heap.size ≤ k) 3 (w5.setCell ⟨g1, j * 2 + 1, none⟩ (.slice A5 L[j].2.length c5))) (w5.setCell ⟨g1, j * 2 + 1, none⟩ (.slice A5 L[j].2.length c5)) A5 (ints L[j].2) := hn5.keepO fun k hk => set_ne (Ne.symm (hne1 hg5 hk))
        have hrow6 : PRow (Row (w5.setCell ⟨g1, j * 2 + 1, none⟩ (.slice A5 L[j].2.length c5)) w.heap.size) (RowP (Of (fun k => w.heap.size ≤ k) 3 (w5.setCell ⟨g1, j * 2 + 1, none⟩ (.slice A5 L[j].2.length c5))) (w5.setCell ⟨g1, j * 2 + 1, none⟩ (.slice A5 L[j].2.length c5))) L j cs2 := hrow.imp (fun A xs h => RowP.keep h fun b hb => hkeep b (by omega) (by omega)) fun A xs h => h.keepO fun k hk => hkeep k hk.lt (hne1 hhg hk)
        refine ⟨f1, f2, j + 1, cs2.set (j * 2 + 1) (.slice A5 L[j].2.length c5), hjl, by push_cast; rfl, owned_set hown5, hrow6.put hjl hc5 hn6, ⟨?_, ?_, ?_, ?_, fun k hk => ?_⟩⟩
        · exact hb25.os.trans hbw.os
        · exact hb25.tape.trans hbw.tape
        · exact hb25.output.trans hbw.output
        · simp; omega
        · rw [hkeep k (by omega) (by omega)]
          exact hbw.block k hk
      obtain ⟨dd, hdd⟩ : ∃ dd, dd = L[j].1 := ⟨_, rfl⟩
      obtain ⟨P, hP⟩ : ∃ P, P = L[j].2 := ⟨_, rfl⟩
      rw [← hdd] at hc0 hw2
      rw [← hP] at hc1 hw2 hCI HAFT hne e2
      have HCI := Lib.hid hCI
      have HW2 := Lib.hid hw2
      have j0 : (0 : Int) ≤ j := by omega
      have j1 : (j : Int) < N := by omega
      obtain ⟨hpl0, hpl⟩ := hne
      clear hown hrow hbw hhg hold e0 e1 e3 e4 e5 hCI hw2 hdd hP hb2
      go_wp2_with (first
        | (go_at_call 39; rw [show wr.alloc _ = w2 from HW2.out.symm]; (with_reducible refine HCI.out.mono ?_); rintro e w5 ⟨V5, rfl, ho5, hb5⟩
           obtain ⟨A5, c5, rfl, hc5, hu5⟩ := owned_roomed ho5
           obtain ⟨⟨u5, hu5'⟩, hf5, hrel5⟩ := HAFT.out w5 A5 c5 ho5 hc5 hb5
           have HREL := Lib.hid hrel5
           clear hu5 ho5 hb5 hrel5))
      exact ⟨HREL.out, by simp [intOf]; omega⟩
    · have hjn : j = L.length := by have := HN.out; omega
      subst hjn
      have hfin : OwnPP (fun k => w.heap.size ≤ k) wr (.slice A1 N k1) L := by
        rw [HN.out] at hown
        rw [HN.out]
        exact ⟨cs2, owned_low hown (Nat.zero_le _), fun k hk => (hown.lt k hk).1, hrow.all⟩
      have HFIN := Lib.hid hfin
      have HBW := Lib.hid hbw
      clear hfin hown hrow hbw
      go_wp2
      go_ret
      exact ⟨_, rfl, HFIN.out, HBW.out⟩
end Go.Proofs.YtgcdekaceimdnaaGreat
