/- What the document's Add of an entry answers. -/
import Derived.Test.YtgcdekaceimdnaaGreatGoodE09
import Derived.Test.YtgcdekaceimdnaaGreatMay08
import Derived.Deep.RegionHeld3
import Derived.Deep.DeepCutAuto
namespace Go.Proofs.YtgcdekaceimdnaaGreat
open Go Go.RowKit
set_option linter.unusedVariables false

theorem nest_oneCell {R : Option Addr → List Value → Prop} : ∀ {l : List En} {cs : List Value}, NestC enS R l cs → ∀ u ∈ cs, u.oneCell' = true
  | [], cs, h, u, hu => by simp only [NestC] at h; subst h; cases hu
  | q :: l, cs, h, u, hu => by
    obtain ⟨A, c, cs', rfl, _, _, _, h'⟩ := h
    simp only [enS, List.mem_append, List.mem_cons, List.not_mem_nil, or_false] at hu
    rcases hu with rfl | rfl | rfl | hu
    · rfl
    · rfl
    · rfl
    · exact nest_oneCell h' u hu
theorem three_cells {w : World} {b : Nat} {x y z : Value} {t : TypeId} (h : w.heap[b]? = some (.cells #[x, y, z] t (0, 0))) : w.cell? ⟨b, 0, none⟩ = some x ∧ w.cell? ⟨b, 1, none⟩ = some y ∧ w.cell? ⟨b, 2, none⟩ = some z := by
  simp [World.cell?, h]
/-- The blocks of a call of Add: the list, the entry, what is handed back. -/
def AddW (w : World) (A : Option Addr) (n c : Nat) (last id : Int) (B : Option Addr) (m d : Nat) (seq : Int) (wr : World) : Prop :=
  Below w.heap.size w wr ∧ w.heap.size + 3 ≤ wr.heap.size ∧ wr.heap[w.heap.size]? = some (.cells #[.slice A n c, .int .i64 last] 27 (0, 0)) ∧ wr.heap[w.heap.size + 1]? = some (.cells #[.int .i64 id, .slice B m d, .int .i64 seq] 37 (0, 0)) ∧
    wr.heap[w.heap.size + 1 + 1]? = some (.cells #[.slice none 0 0, .int .i64 0] 27 (0, 0))
section
variable {w wr w' : World} {A B : Option Addr} {n c m d : Nat} {last id seq : Int}
theorem AddW.low (h : AddW w A n c last id B m d seq wr) (hb : Below (w.heap.size + 3) wr w') : AddW w A n c last id B m d seq w' := by
  obtain ⟨h0, h1, h2, h3, h4⟩ := h
  exact ⟨h0.trans (hb.mono (by omega)), by have := hb.size; omega, (hb.block _ (by omega)).trans h2, (hb.block _ (by omega)).trans h3, (hb.block _ (by omega)).trans h4⟩
theorem AddW.below (h : AddW w A n c last id B m d seq wr) (hb : Below wr.heap.size wr w') : AddW w A n c last id B m d seq w' := h.low (hb.mono h.2.1)
theorem addW_start (w : World) (A B : Option Addr) (n c m d : Nat) (last id seq : Int) : AddW w A n c last id B m d seq (((w.alloc (.cells #[.slice A n c, .int .i64 last] 27)).alloc (.cells #[.int .i64 id, .slice B m d, .int .i64 seq] 37)).alloc (.cells #[.slice none 0 0, .int .i64 0] 27)) := by
  refine ⟨(((Below.refl _ w).alloc (Nat.le_refl _) _).alloc (by simp) _).alloc (by simp; try omega) _, by simp, ?_, ?_, ?_⟩
  · rw [Below.heap_alloc _ _ _ (by simp; try omega), Below.heap_alloc _ _ _ (by simp)]
    exact heap_alloc_new w _
  · rw [Below.heap_alloc _ _ _ (by simp)]
    simpa using heap_alloc_new (w.alloc (.cells #[.slice A n c, .int .i64 last] 27)) (.cells #[.int .i64 id, .slice B m d, .int .i64 seq] 37)
  · simpa using heap_alloc_new ((w.alloc (.cells #[.slice A n c, .int .i64 last] 27)).alloc (.cells #[.int .i64 id, .slice B m d, .int .i64 seq] 37)) (.cells #[.slice none 0 0, .int .i64 0] 27)
end

/-- What is got: the list, longer by the entry if it may be added, in blocks of P or new ones; the last number; the error. -/
def GotAdd (P : Nat → Prop) (A : Option Addr) (n c : Nat) (l : List En) (last : Int) (q : En) (w : World) (e : Ending) (w' : World) : Prop :=
  ∃ (v : Value) (last' : Int), e = .returned (.tuple #[.agg #[v, .int .i64 last'], .int .i64 (mayE last q)]) ∧ (mayE last q ≠ 0 → v = .slice A n c ∧ last' = last) ∧ (mayE last q = 0 → (∃ A' c', v = .slice A' (n + 1) c' ∧ NestP enS (fun k => P k ∨ w.heap.size ≤ k ∧ k < w'.heap.size) w' A' (l ++ [q])) ∧ last' = q.2.2) ∧ Below w.heap.size w w'

set_option maxHeartbeats 4000000 in
set_option maxRecDepth 100000 in
theorem ref09_Add (A : Option Addr) (n c : Nat) (l : List En) (last id : Int) (B : Option Addr) (m d : Nat) (fs : List Fd) (seq : Int) (w : World) (P : Nat → Prop) (hP : ∀ k, P k → k < w.heap.size) (hl : l.length = n) (hr : NestP enS P w A l) (hn : n ≤ 1000) (hm : fs.length = m) (hf : RowP P w B (flds fs)) (hmd : m ≤ d) (hd : d ≤ maxLen) (hm8 : m ≤ 1000)
    (ht : ∀ f ∈ fs, f.1.length ≤ 1073741824 ∧ f.2.length ≤ 268435456) :
    Calls Tryz.prog 12 #[.agg #[.slice A n c, .int .i64 last], .agg #[.int .i64 id, .slice B m d, .int .i64 seq]] w (GotAdd P A n c l last (id, fs, seq) w) := by
  obtain ⟨t0, hi0, hz0, hz1, hz2⟩ := info_parts info_entry
  obtain ⟨w1, hw1⟩ : ∃ w1, w1 = (((w.alloc (.cells #[.slice A n c, .int .i64 last] 27)).alloc (.cells #[.int .i64 id, .slice B m d, .int .i64 seq] 37)).alloc (.cells #[.slice none 0 0, .int .i64 0] 27)) := ⟨_, rfl⟩
  have hA1 : AddW w A n c last id B m d seq w1 := by rw [hw1]; exact addW_start w A B n c m d last id seq
  have hE : mayE last (id, fs, seq) = if mayD fs ≠ 0 then mayD fs else if seq < 0 ∨ seq ≤ last then 12 else 0 := rfl
  obtain ⟨E, hE1⟩ : ∃ E, E = mayE last (id, fs, seq) := ⟨_, rfl⟩
  rw [← hE1] at hE
  obtain ⟨M, hM⟩ : ∃ M, M = mayD fs := ⟨_, rfl⟩
  rw [← hM] at hE
  have HMAY : Hid (∀ w', Below w.heap.size w w' → Calls Tryz.prog 27 #[docV id B m d] w' fun e w'' => e = .returned (.int .i64 M) ∧ Below w'.heap.size w' w'') := Lib.hid fun w' h => by
    rw [hM]
    exact ref08_May id B m d fs w' hm (FRow.later (hf.imp hP : FRow w w.heap.size B fs) h) (by omega) ht
  have HFIN : Hid (∀ e w', GotAdd P A n c l last (id, fs, seq) w e w' ↔ ∃ (v : Value) (last' : Int), e = .returned (.tuple #[.agg #[v, .int .i64 last'], .int .i64 E]) ∧ (E ≠ 0 → v = .slice A n c ∧ last' = last) ∧ (E = 0 → (∃ A' c', v = .slice A' (n + 1) c' ∧ NestP enS (fun k => P k ∨ w.heap.size ≤ k ∧ k < w'.heap.size) w' A' (l ++ [(id, fs, seq)])) ∧ last' = seq) ∧ Below w.heap.size w w') := Lib.hid fun e w' => by rw [hE1]; rfl
  obtain ⟨cs, hcs, hrow⟩ := hr
  have HCS := Lib.hid hcs
  have HROW := Lib.hid hrow
  have HF := Lib.hid hf
  have HL := Lib.hid hl
  have HM := Lib.hid hm
  have HA1 := Lib.hid hA1
  have HW1 := Lib.hid hw1
  have HB01 : Hid (Below w.heap.size w w1) := Lib.hid hA1.1
  have q0 := (three_cells hA1.2.2.2.1).1
  have q1 := (three_cells hA1.2.2.2.1).2.1
  have q2 := (three_cells hA1.2.2.2.1).2.2
  clear hcs hrow hf hl hm hA1 hE1 hM hw1 ht
  go_enter Tryz.func12, Tryz.ntmps12
  go_upto_region 2 with (first
    | (go_at_call 27; rw [show ((w.alloc _).alloc _).alloc _ = w1 from HW1.out.symm]
       (with_reducible refine (HMAY.out _ HB01.out).mono ?_)
       rintro e w2 ⟨rfl, hb2⟩
       have hA2 := HA1.out.below hb2
       have r0 := (two_cells hA2.2.2.1).1
       have r1 := (two_cells hA2.2.2.1).2.1
       have s0 := (three_cells hA2.2.2.2.1).1
       have s1 := (three_cells hA2.2.2.2.1).2.1
       have s2 := (three_cells hA2.2.2.2.1).2.2
       have z0 := (two_cells hA2.2.2.2.2).1
       have z1 := (two_cells hA2.2.2.2.2).2.1
       have z2 := (two_cells hA2.2.2.2.2).2.2.1
       have z3 := (two_cells hA2.2.2.2.2).2.2.2
       have HA2 := Lib.hid hA2
       clear hb2 hA2))
  have HE := Lib.hid hE
  clear hE q0 q1 q2
  by_cases hM0 : M = 0
  · subst hM0
    have hE := HE.out
    rw [if_neg (by decide)] at hE
    by_cases hs1 : seq < 0 ∨ seq ≤ last
    · rw [if_pos hs1] at hE
      subst hE
      have h2 : seq < 0 ∨ 0 ≤ seq ∧ seq ≤ last := by omega
      have HNE : Hid (¬ (seq < 0 ∨ seq ≤ last) → False) := Lib.hid fun h => h hs1
      clear hs1
      rcases h2 with h2 | ⟨h2, h3⟩
      all_goals
        go_wp2
        obtain ⟨we, hwe⟩ : ∃ we, we = (w2.setCell ⟨w.heap.size + 1 + 1, 0, none⟩ (.slice A n c)).setCell ⟨w.heap.size + 1 + 1, 1, none⟩ (.int .i64 last) := ⟨_, rfl⟩
        have h3' : we.heap[w.heap.size + 1 + 1]? = some (.cells #[.slice A n c, .int .i64 last] 27 (0, 0)) := by rw [hwe, set_at (set_at HA2.out.2.2.2.2)]; rfl
        have hbe : Below w.heap.size w we := by rw [hwe]; exact (HA2.out.1.setCell (by simp; omega) _).setCell (by simp; omega) _
        rw [← hwe]
        obtain ⟨d0, d1, _, _⟩ := two_cells h3'
        exact bodyPost_ret (v := .tuple #[.agg #[.slice A n c, .int .i64 last], .int .i64 12]) (by simp [results, Tryz.results12, go_sem, d0, d1]) rfl ((HFIN.out _ _).2 ⟨_, _, rfl, fun _ => ⟨rfl, rfl⟩, fun h => absurd h (by decide), hbe⟩)
    · rw [if_neg hs1] at hE
      subst hE
      have h2 : 0 ≤ seq := Int.not_lt.1 fun h => hs1 (.inl h)
      have h3 : last < seq := Int.not_le.1 fun h => hs1 (.inr h)
      clear hs1
      have hcl : cs.length = n * 3 := by have := HCS.out.len; rw [this, HL.out]; rfl
      have HONE := Lib.hid (nest_oneCell HCS.out)
      have HRO : Hid (Row w2 w.heap.size A cs) := Lib.hid (RowP.imp (HROW.out.keep fun b hb => HA2.out.1.block b (hP b hb)) hP)
      have hge : w.heap.size + 3 ≤ w2.heap.size := HA2.out.2.1
      go_upto_region 8 with (first
        | (at_builtin; refine wpList_append_row _ rfl (.tmp 26) (.tmp 28) 25 rfl (w.heap.size + 3) 37 t0 _ 3 40 Tryz.underlying25 hi0 hz0 hz1 hz2 rfl (by omega) (.slice none 0 0) 0 [] rfl (World.ownsRow_nil _ _ _ _) w.heap.size A n c cs rfl hcl HRO.out HONE.out (by unfold maxLen; omega) (by omega) hge ?_
           intro v3 w3 hown3 hg3
           rw [Nat.zero_add, List.nil_append] at hown3
           obtain ⟨A3, c3, rfl, _, _⟩ := owned_row hown3
           have hb3 : Below w2.heap.size w2 w3 := (Below.refl _ _).grown hg3 (Nat.le_refl _) fun j hj => by cases hj
           have HA3 := Lib.hid (HA2.out.below hb3)
           have HO3 := Lib.hid hown3
           clear hown3 hg3 hb3))
      have hge3 : w.heap.size + 3 ≤ w3.heap.size := HA3.out.2.1
      clear s0 s1 s2 r0 r1 z0 z1 z2 z3
      have s0 := (three_cells HA3.out.2.2.2.1).1
      have HS : Hid (∀ w', Below (w.heap.size + 3) w3 w' → w'.cell? ⟨w.heap.size + 1, 0, none⟩ = some (.int .i64 id) ∧ w'.cell? ⟨w.heap.size + 1, 1, none⟩ = some (.slice B m d) ∧ w'.cell? ⟨w.heap.size + 1, 2, none⟩ = some (.int .i64 seq)) := Lib.hid fun w' h => three_cells (HA3.out.low h).2.2.2.1
      have HAPP : Hid (∀ (gg cap : Nat) (w5 : World), w5.ownsRow (w.heap.size + 3) 37 3 (.slice (some ⟨gg, 0, none⟩) (n + 1) cap) (n + 1) (cs ++ [.int .i64 id, .slice B m d, .int .i64 seq]) → (w3.drew.alloc (.cells #[.int .i64 id, .slice B m d, .int .i64 seq] 37)).grownBy w5 (Value.slice A3 n c3).ownBlock →
          (w5.cell? ⟨w.heap.size + 1, 0, none⟩ = some (.int .i64 id) ∧ w5.cell? ⟨w.heap.size + 1, 1, none⟩ = some (.slice B m d) ∧ w5.cell? ⟨w.heap.size + 1, 2, none⟩ = some (.int .i64 seq)) ∧
          (w5.cell? ⟨w.heap.size + 1 + 1, 0, none⟩ = some (.slice none 0 0) ∧ w5.cell? ⟨w.heap.size + 1 + 1, 1, none⟩ = some (.int .i64 0) ∧ w5.frozen? ⟨w.heap.size + 1 + 1, 0, none⟩ = false ∧ w5.frozen? ⟨w.heap.size + 1 + 1, 1, none⟩ = false) ∧
          (∀ we, we = (w5.setCell ⟨w.heap.size + 1 + 1, 0, none⟩ (.slice (some ⟨gg, 0, none⟩) (n + 1) cap)).setCell ⟨w.heap.size + 1 + 1, 1, none⟩ (.int .i64 seq) →
            (we.cell? ⟨w.heap.size + 1, 0, none⟩ = some (.int .i64 id) ∧ we.cell? ⟨w.heap.size + 1, 1, none⟩ = some (.slice B m d) ∧ we.cell? ⟨w.heap.size + 1, 2, none⟩ = some (.int .i64 seq)) ∧
            we.heap[w.heap.size + 1 + 1]? = some (.cells #[.slice (some ⟨gg, 0, none⟩) (n + 1) cap, .int .i64 seq] 27 (0, 0)) ∧ Below w.heap.size w we ∧ NestP enS (fun k => P k ∨ w.heap.size ≤ k ∧ k < we.heap.size) we (some ⟨gg, 0, none⟩) (l ++ [(id, fs, seq)]))) := Lib.hid fun gg cap w5 hown5 hg5 => by
        have hb5 : Below (w.heap.size + 3) w3 w5 := (((Below.refl _ w3).drew.alloc (by simp; omega) _)).grown hg5 (by simp; omega) fun j hj => (HO3.out.lt j hj).1
        have hA5 := HA3.out.low hb5
        refine ⟨HS.out _ hb5, two_cells hA5.2.2.2.2, fun we hwe => ?_⟩
        have he3 : we.heap[w.heap.size + 1]? = some (.cells #[.int .i64 id, .slice B m d, .int .i64 seq] 37 (0, 0)) := by rw [hwe, set_ne (by omega), set_ne (by omega)]; exact hA5.2.2.2.1
        have hbe : Below w.heap.size w we := by rw [hwe]; exact (hA5.1.setCell (by simp; omega) _).setCell (by simp; omega) _
        refine ⟨three_cells he3, by rw [hwe, set_at (set_at hA5.2.2.2.2)]; rfl, hbe, ?_⟩
        refine ⟨cs ++ [.int .i64 id, .slice B m d, .int .i64 seq], ?_, ?_⟩
        · have hk : ∀ {A : Option Addr} {xs : List Value}, RowP P w A xs → RowP (fun k => P k ∨ w.heap.size ≤ k ∧ k < we.heap.size) we A xs := fun h => (h.keep fun b hb => hbe.block b (hP b hb)).imp fun b hb => .inl hb
          have := (HCS.out.imp fun _ _ h => hk h).snoc (q := ((id, fs, seq) : En)) (c := d) (by show fs.length ≤ d; rw [HM.out]; exact hmd) hd (hk HF.out)
          rw [show enS.mid ((id, fs, seq) : En) = fs from rfl, HM.out] at this
          exact this
        · have ho : we.ownsRow (w.heap.size + 3) 37 3 (.slice (some ⟨gg, 0, none⟩) (n + 1) cap) (n + 1) (cs ++ [.int .i64 id, .slice B m d, .int .i64 seq]) := by
            rw [hwe]
            exact ownsRow_setCell_below (ownsRow_setCell_below hown5 (a := ⟨w.heap.size + 1 + 1, 0, none⟩) (by simp) _) (a := ⟨w.heap.size + 1 + 1, 1, none⟩) (by simp) _
          have hlt := ho.lt gg rfl
          rcases owned_row_of ho with h0 | ⟨b, off, e, hb, hc⟩
          · exact .inl h0
          · cases e
            exact .inr ⟨gg, 0, rfl, .inr ⟨by omega, hlt.2⟩, hc⟩
      go_region_held3 (fun w' => w'.cell? ⟨w.heap.size + 1, 0, none⟩ = some (.int .i64 id) ∧ w'.cell? ⟨w.heap.size + 1, 1, none⟩ = some (.slice B m d) ∧ w'.cell? ⟨w.heap.size + 1, 2, none⟩ = some (.int .i64 seq))
        (first | exact HS.out _ (Below.refl _ _).drew | exact HS.out _ ((Below.refl _ _).drew.alloc hge3 _) | exact HS5.out | exact HS6.out)
        (first
          | (refine step_append_lies _ (by rfl) _ _ _ (by rfl) (w.heap.size + 3) 37 t0 _ 3 40 Tryz.underlying25 hi0 hz0 hz1 hz2 rfl (by omega) (.slice A3 n c3) n cs (by rfl) ((HO3.out.alloc _).drew)
              ⟨w3.heap.size, 0, none⟩ 1 1 [.int .i64 id, .slice B m d, .int .i64 seq] (by rfl) (by rfl) (World.news_of_block (cs := #[.int .i64 id, .slice B m d, .int .i64 seq]) (t := 37) (fr := (0, 0)) (heap_alloc_new w3.drew _)) (by intro u hu; simp at hu; rcases hu with hu | hu | hu <;> (subst hu; rfl))
              (by omega) (by unfold maxLen; omega) (by omega) (by simp; omega) (w3.heap.size + 1) (by simp) ?_
             intro gg cap w5 hown5 hg5 hat hlt5
             obtain ⟨hs5, ⟨z0, z1, z2, z3⟩, hend⟩ := HAPP.out gg cap w5 hown5 hg5
             have HS5 := Lib.hid hs5
             have HEND := Lib.hid hend
             have HS6 := Lib.hid (hend _ rfl).1
             clear hs5 hend hown5 hg5 hat))
      all_goals
        go_wp2
        obtain ⟨we, hwe⟩ : ∃ we, we = (w5.setCell ⟨w.heap.size + 1 + 1, 0, none⟩ (.slice (some ⟨gg, 0, none⟩) (n + 1) cap)).setCell ⟨w.heap.size + 1 + 1, 1, none⟩ (.int .i64 seq) := ⟨_, rfl⟩
        obtain ⟨_, h3', hbe, hoe⟩ := HEND.out we hwe
        rw [← hwe]
        obtain ⟨d0, d1, _, _⟩ := two_cells h3'
        exact bodyPost_ret (v := .tuple #[.agg #[.slice (some ⟨gg, 0, none⟩) (n + 1) cap, .int .i64 seq], .int .i64 0]) (by simp [results, Tryz.results12, go_sem, d0, d1]) rfl ((HFIN.out _ _).2 ⟨_, _, rfl, fun h => absurd rfl h, fun _ => ⟨⟨_, _, rfl, hoe⟩, rfl⟩, hbe⟩)
  · have hE := HE.out
    rw [if_pos hM0] at hE
    subst hE
    have hM1 : (E != 0) = true := by simpa using hM0
    go_wp2
    obtain ⟨we, hwe⟩ : ∃ we, we = (w2.setCell ⟨w.heap.size + 1 + 1, 0, none⟩ (.slice A n c)).setCell ⟨w.heap.size + 1 + 1, 1, none⟩ (.int .i64 last) := ⟨_, rfl⟩
    have h3' : we.heap[w.heap.size + 1 + 1]? = some (.cells #[.slice A n c, .int .i64 last] 27 (0, 0)) := by rw [hwe, set_at (set_at HA2.out.2.2.2.2)]; rfl
    have hbe : Below w.heap.size w we := by rw [hwe]; exact (HA2.out.1.setCell (by simp; omega) _).setCell (by simp; omega) _
    rw [← hwe]
    obtain ⟨d0, d1, _, _⟩ := two_cells h3'
    exact bodyPost_ret (v := .tuple #[.agg #[.slice A n c, .int .i64 last], .int .i64 E]) (by simp [results, Tryz.results12, go_sem, d0, d1]) rfl ((HFIN.out _ _).2 ⟨_, _, rfl, fun _ => ⟨rfl, rfl⟩, fun h => absurd h hM0, hbe⟩)
end Go.Proofs.YtgcdekaceimdnaaGreat
