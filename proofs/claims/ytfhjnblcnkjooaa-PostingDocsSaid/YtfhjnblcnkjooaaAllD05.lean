/- What the list's All answers: all postings, in new memory. -/
import Derived.Test.YtfhjnblcnkjooaaBlocksD05
import Derived.Test.YtfhjnblcnkjooaaMake05
set_option linter.unusedVariables false
namespace Go.Proofs.Ytfhjnblcnkjooaa
open Go Go.RowKit
attribute [local go_sem] Oper.semAt_some

theorem cellsKept_owned {w w' : World} {b : Nat} {e : TypeId} {size n : Nat} {v : Value} {xs : List Value} (h : w.ownsRow b e size v n xs) (hk : ∀ (k : Nat) (o : Obj), w.heap[k]? = some o → o.isCells = true → w'.heap[k]? = some o) : w'.ownsRow b e size v n xs :=
  owned_keep h fun g hg => by
    obtain ⟨cs, fr, hh⟩ := owned_type h hg
    rw [hk _ _ hh rfl, hh]
theorem RowS.moved {w w' : World} {A : Option Addr} {xs : List Value} (h : RowS 0 w A xs) (hk : ∀ (k : Nat) (cs : Array Value) (fr : Nat × Nat), w.heap[k]? = some (.cells cs 3 fr) → w'.heap[k]? = some (.cells cs 3 fr)) : RowS 0 w' A xs := by
  rcases h with h | ⟨b, off, e, ⟨h1, h2⟩, hc⟩
  · exact .inl h
  · obtain ⟨cs, fr, hh⟩ := h2.resolve_left (Nat.not_lt_zero _)
    have hh' := hk _ _ _ hh
    refine .inr ⟨b, off, e, ⟨(Array.getElem?_eq_some_iff.1 hh').1, .inr ⟨cs, fr, hh'⟩⟩, fun j u hu => ?_⟩
    rw [World.cell?_of_block (a := ⟨b, off + j, none⟩) (hh'.trans hh.symm)]
    exact hc j u hu
theorem kept_putObj {W : World} {l : Nat} {o o' : Obj} (ho : W.heap[l]? = some o) (hc : o.isCells = false) : ∀ (k : Nat) (u : Obj), W.heap[k]? = some u → u.isCells = true → (W.putObj l o').heap[k]? = some u := fun k u hk hu => by
  by_cases e : k = l
  · subst e
    rw [ho] at hk
    injection hk with hk
    subst hk
    rw [hc] at hu
    cases hu
  · exact (World.putObj_heap_other e).trans hk
theorem NewPo.kept {base : Nat} {w w' : World} {v : Value} {l : List Po} (h : NewPo base w v l) (hk : ∀ (k : Nat) (o : Obj), w.heap[k]? = some o → o.isCells = true → w'.heap[k]? = some o) : NewPo base w' v l := by
  obtain ⟨cs, h1, h2⟩ := h
  exact ⟨cs, cellsKept_owned h1 hk, h2.imp fun _ _ h => h.moved fun k cs fr hh => hk k _ hh rfl⟩
theorem Firm.newPo (N base : Nat) (v : Value) (l : List Po) : Firm N (fun W => NewPo base W v l) := fun W k o o' _ ho hc h => h.kept (kept_putObj ho hc)

theorem PoCells.one {R : Option Addr → List Value → Prop} : ∀ {l : List Po} {cs : List Value}, PoCells R l cs → ∀ u ∈ cs, u.oneCell' = true
  | [], cs, h, u, hu => by simp only [PoCells] at h; subst h; cases hu
  | q :: r, cs, h, u, hu => by
    obtain ⟨A, c, cs', rfl, _, _, _, h'⟩ := h
    simp only [List.mem_cons] at hu
    rcases hu with rfl | rfl | hu
    · rfl
    · rfl
    · exact PoCells.one h' u hu
theorem PoCells.join {R : Option Addr → List Value → Prop} : ∀ {a b : List Po} {cs cs' : List Value}, PoCells R a cs → PoCells R b cs' → PoCells R (a ++ b) (cs ++ cs')
  | [], b, cs, cs', h, k => by simp only [PoCells] at h; subst h; exact k
  | q :: r, b, cs, cs', h, k => by
    obtain ⟨A, c, cs'', rfl, h1, h2, h3, h'⟩ := h
    exact ⟨A, c, cs'' ++ cs', rfl, h1, h2, h3, PoCells.join h' k⟩

/-- What lies there between two rounds: all that came, in a row with room. -/
def AllI (w : World) (R C D B : Nat) (l : List Po) (pre : List Value) (W : World) : Prop :=
  W.heap[D]? = some (.cells #[.pointer (some ⟨B, 0, none⟩)] 25 (0, 0)) ∧ W.heap[C]? = some (.cells #[.slice (some ⟨R, 0, none⟩) (l.take (8 * pre.length)).length l.length] 22 (0, 0)) ∧
    NewPo w.heap.size W (.slice (some ⟨R, 0, none⟩) (l.take (8 * pre.length)).length l.length) (l.take (8 * pre.length)) ∧ Below w.heap.size w W

set_option maxHeartbeats 8000000 in
set_option maxRecDepth 100000 in
theorem list_All (base B : Nat) (l : List Po) (w : World) (h : LAt w base B (bytesP (-1) l) l) (hmay : mayB' (-1) l = true) (hbl : (bytesP (-1) l).length ≤ 1000000) (hl : l.length ≤ 1000000) :
    Calls Try.prog 35 #[.pointer (some ⟨B, 0, none⟩)] w (GaveNew l w) := by
  obtain ⟨i0, hi0, hz0, hz1, hz2⟩ := info_parts info_posting
  refine (callsIn_wide (n := 6)).1 ?_
  obtain ⟨_, _, _, _, ⟨_, _, c2, _⟩, _⟩ := h.read
  have hblt := h.lt
  obtain ⟨n, hn⟩ : ∃ n, n = l.length := ⟨_, rfl⟩
  rw [← hn] at c2 hl
  have HN := Lib.hid hn
  have HTOLD : Hid (∀ (D : Nat) (w' : World), Below w.heap.size w w' → w'.heap[D]? = some (.cells #[.pointer (some ⟨B, 0, none⟩)] 25 (0, 0)) → Told 5 Try.prog 52 #[.pointer (some ⟨D, 0, none⟩)] (fun v : Value => #[v]) (KpOne w.heap.size D) (OkBlock l) (fun ys => ys.length = blocksP l.length) w') := Lib.hid fun D w' hb hd =>
    blocks_told 5 D base B l w w' (by omega) h hmay hbl (by rw [← hn]; exact hl) hb hd
  clear h hmay hbl hn
  refine callsIn_of_wp_marks Try.func35 rfl trivial ?_ rfl
  simp only [Try.ntmps35, List.size_toArray, List.length_cons, List.length_nil, Nat.reduceAdd, Nat.reduceSub, Array.replicate_succ, Array.replicate_zero, List.push_toArray, List.append_toArray, List.nil_append, List.cons_append]
  gi_wp2_with (gi_at_make; refine wpListIn_make_own _ rfl _ _ 22 rfl w.heap.size 43 i0 _ 2 Try.underlying22 hi0 hz0 hz1 _ _ _ n rfl rfl rfl (by rw [hz2]; omega) (by unfold maxLen; omega) (Nat.le_refl _) ?_)
  intro w1 hown hgrow
  have hb1 : Below w.heap.size w w1 := (Below.refl _ _).grown hgrow (Nat.le_refl _) (fun k hk => by cases hk)
  have hs1 := hb1.size
  have hR1 := (hown.lt w.heap.size rfl).2
  obtain ⟨C, hC⟩ : ∃ C, C = w1.heap.size := ⟨_, rfl⟩
  gi_wp2_with (first
    | (refine ⟨trivial, ?_⟩; gi_at_call 47; refine (callsIn_wide.2 (list_blocks _ _)).mono ?_)
    | (gi_at_call 47; refine (callsIn_wide.2 (list_blocks _ _)).mono ?_))
  rintro e w3 ⟨rfl, e1, hb3, hz3⟩
  rw [World.size_alloc, ← hC] at e1 hz3
  have hal := (Below.refl w1.heap.size w1).alloc (Nat.le_refl _) (.cells #[.slice (some ⟨w.heap.size, 0, none⟩) 0 n] 22)
  have hb13 := hal.trans (hb3.mono (by simp))
  have hb03 := hb1.trans (hb13.mono hs1)
  have hc3 : w3.heap[C]? = some (.cells #[.slice (some ⟨w.heap.size, 0, none⟩) 0 n] 22 (0, 0)) := by rw [hC]; exact (hb3.block _ (by simp)).trans (heap_alloc_new w1 _)
  have hown3 := owned_below hown hb13
  have hi0' : AllI w w.heap.size C (C + 1) B l [] w3 := ⟨e1, by simpa [← HN.out] using hc3, ⟨[], by simpa [← HN.out] using hown3, by simp [PoCells]⟩, hb03⟩
  have HI0 := Lib.hid hi0'
  have HT := Lib.hid (HTOLD.out (C + 1) w3 hb03 e1)
  have HZ3 := Lib.hid hz3
  have HRC : Hid (w.heap.size < C) := Lib.hid (by omega)
  gi_wp2
  rw [← hC]
  clear hi0' hown3 hc3 hb03 hb13 hal e1 hz3 hb3 hown hgrow hb1 hs1 hR1 hC c2
  refine wpIn_range_told (by omega) (gf := 52) (lb := #[.pointer (some ⟨C + 1, 0, none⟩)]) rfl (enters_of Try.func52 (by kernel_rfl) rfl)
    HT.out KpOne.trans (fun W lp o o' hlp ho hc => ⟨Firm.belowW (N := w.heap.size) (Nat.le_refl _) W lp o o' (by have := HZ3.out; have := HRC.out; omega) ho hc (Below.refl _ _), fun _ => World.putObj_heap_other (by have := HZ3.out; omega)⟩) (fun _ => rfl)
    (AllI w w.heap.size C (C + 1) B l) (fun s A' B' h hb => ⟨(hb.block _ (lt_of_block h.1)).trans h.1, (hb.block _ (lt_of_block h.2.1)).trans h.2.1, h.2.2.1.below hb, h.2.2.2.trans (hb.mono h.2.2.2.size)⟩)
    (fun s => (Firm.block (by have := HZ3.out; omega) _).and ((Firm.block (by have := HZ3.out; omega) _).and ((Firm.newPo _ _ _ _).and (Firm.belowW (by have := HZ3.out; have := HRC.out; omega)))))
    (fun s x => Firm.pure.and (Firm.newPo _ _ _ _)) HI0.out
    (fun v => { tmps := #[.pointer (some ⟨B, 0, none⟩), undef, .slice none 0 0, .pointer (some ⟨C, 0, none⟩), v, .pointer (some ⟨B, 0, none⟩), .pointer (some ⟨B, 0, none⟩), .pointer (some ⟨B, 2, none⟩), .int .i64 (n : Int), .slice (some ⟨w.heap.size, 0, none⟩) 0 n, .pointer (some ⟨B, 0, none⟩),
      .func (.func 52) #[] #[.pointer (some ⟨C + 1, 0, none⟩)], v, undef, undef, undef, undef], defers := [] }) ?assign ?body ?done
  case assign =>
    intro lp x W K' hK'
    gi_wp2
    exact hK'
  case body =>
    rintro lp pre v W ⟨hD, hC, hnew, hbw⟩ ⟨hx, hok⟩
    obtain ⟨k, hk⟩ : ∃ k, k = pre.length := ⟨_, rfl⟩
    have hAI : ∀ W', W'.heap[C + 1]? = some (.cells #[.pointer (some ⟨B, 0, none⟩)] 25 (0, 0)) → W'.heap[C]? = some (.cells #[.slice (some ⟨w.heap.size, 0, none⟩) (l.take (8 * (k + 1))).length l.length] 22 (0, 0)) → NewPo w.heap.size W' (.slice (some ⟨w.heap.size, 0, none⟩) (l.take (8 * (k + 1))).length l.length) (l.take (8 * (k + 1))) → Below w.heap.size w W' → AllI w w.heap.size C (C + 1) B l (pre ++ [v]) W' := fun W' h1 h2 h3 h4 => by
      unfold AllI
      rw [List.length_append, List.length_singleton, ← hk]
      exact ⟨h1, h2, h3, h4⟩
    rw [← hk] at hC hnew hx hok
    have hcat := blocks_all l k
    have hblen := blockP_length (l := l) k
    have hlen : (l.take (8 * (k + 1))).length ≤ l.length := by rw [List.length_take]; omega
    obtain ⟨acc, hacc⟩ : ∃ acc, acc = l.take (8 * k) := ⟨_, rfl⟩
    obtain ⟨blk, hblk⟩ : ∃ blk, blk = blockP l (k : Int) := ⟨_, rfl⟩
    rw [← hacc, ← hblk] at hcat
    rw [hcat] at hAI hlen
    rw [← hacc] at hC hnew
    rw [← hblk] at hblen hok
    rw [← HN.out] at hC hnew hlen hAI hblen
    have hm0 : 0 < blk.length := by rw [hblen, HN.out]; unfold blocksP at hx; omega
    obtain ⟨cs2, ho2, hp2⟩ := hok
    obtain ⟨A2, c2, rfl, hc2, hr2⟩ := owned_row ho2
    obtain ⟨b2, o2, rfl, hb2, hcc⟩ := hr2.at_ (by rw [hp2.len]; omega)
    obtain ⟨cs1, ho1, hp1⟩ := hnew
    obtain ⟨L, hL⟩ : ∃ L, L = acc.length := ⟨_, rfl⟩
    obtain ⟨M, hM⟩ : ∃ M, M = blk.length := ⟨_, rfl⟩
    rw [List.length_append] at hlen hAI
    rw [← hL, ← hM] at hlen hAI
    rw [← hL] at hC ho1
    rw [← hM] at hm0
    rw [← hM]
    have hcc1 := cell_of_one hC
    have hcf1 := free_of_one hC
    have HAI := Lib.hid hAI
    have HD := Lib.hid hD
    have HC := Lib.hid hC
    have HO1 := Lib.hid ho1
    have HP1 := Lib.hid hp1
    have HP2 := Lib.hid hp2
    have HBW := Lib.hid hbw
    have HL := Lib.hid hL
    have HM := Lib.hid hM
    have HCC := Lib.hid hcc
    have hn2 : cs2.length = M * 2 := by rw [hp2.len, hM]
    have HN2 := Lib.hid hn2
    clear hAI hD hC ho1 hp1 hp2 hbw hL hM hk hx hcat hacc hblk hblen ho2 hr2 hcc hc2 hb2 hn2
    gi_wp2_with (gi_at_builtin; refine wpListIn_append_fits _ rfl (.tmp 13) (.tmp 14) 22 rfl w.heap.size 43 i0 2 Try.underlying22 hi0 hz1 w.heap.size L n cs1 rfl HO1.out ⟨b2, o2, none⟩ M c2 cs2 rfl HN2.out (fun j u hu => by rw [Addr.add_lit]; exact HCC.out j u hu) (PoCells.one HP2.out) hlen ?_)
    intro w4 hown4 hg4
    obtain ⟨csr, frr, hRr⟩ := owned_type HO1.out rfl
    have hCR : C ≠ w.heap.size := by have := HRC.out; omega
    have hC4 : w4.heap[C]? = some (.cells #[.slice (some ⟨w.heap.size, 0, none⟩) L n] 22 (0, 0)) := (hg4.block C (lt_of_block HC.out) (fun e => hCR (Option.some.inj e))).trans HC.out
    have hc4 := cell_of_one hC4
    have hf4 := free_of_one hC4
    have hints : ∀ (k : Nat) (cs : Array Value) (fr : Nat × Nat), W.heap[k]? = some (.cells cs 3 fr) → (w4.setCell ⟨C, 0, none⟩ (.slice (some ⟨w.heap.size, 0, none⟩) (L + M) n)).heap[k]? = some (.cells cs 3 fr) := fun k cs fr hk => by
      have h1 : k ≠ C := fun e => by rw [e, HC.out] at hk; simp at hk
      have h2 : k ≠ w.heap.size := fun e => by rw [e, hRr] at hk; simp at hk
      rw [Below.heap_setCell _ _ _ _ h1, hg4.block k (Array.getElem?_eq_some_iff.1 hk).1 (fun e => h2 (Option.some.inj e)), hk]
    have hnew5 : NewPo w.heap.size (w4.setCell ⟨C, 0, none⟩ (.slice (some ⟨w.heap.size, 0, none⟩) (L + M) n)) (.slice (some ⟨w.heap.size, 0, none⟩) (L + M) n) (acc ++ blk) := by
      refine ⟨cs1 ++ cs2, ?_, (HP1.out.imp fun _ _ h => h.moved hints).join (HP2.out.imp fun _ _ h => h.moved hints)⟩
      rw [List.length_append, ← HL.out, ← HM.out]
      exact owned_setCell hown4 (by simpa [Value.ownBlock] using hCR.symm) _
    have hb5 : Below w.heap.size W (w4.setCell ⟨C, 0, none⟩ (.slice (some ⟨w.heap.size, 0, none⟩) (L + M) n)) :=
      ((Below.refl _ W).grown hg4 HBW.out.size (fun k e => by injection e with e; omega)).setCell (p := ⟨C, 0, none⟩) (by show w.heap.size ≤ C; have := HRC.out; omega) _
    have hko : KeepsOthers W (w4.setCell ⟨C, 0, none⟩ (.slice (some ⟨w.heap.size, 0, none⟩) (L + M) n)) :=
      (KeepsOthers.of_grownBy hg4 fun j o ej hj => by injection ej with ej; subst ej; rw [hRr] at hj; injection hj with hj; subst hj; rfl).trans (KeepsOthers.setCell _ _ _)
    have hD5 : (w4.setCell ⟨C, 0, none⟩ (.slice (some ⟨w.heap.size, 0, none⟩) (L + M) n)).heap[C + 1]? = W.heap[C + 1]? := by
      rw [Below.heap_setCell _ _ _ _ (show C + 1 ≠ C by omega), hg4.block (C + 1) (lt_of_block HD.out) (fun e => by have := Option.some.inj e; have := HRC.out; omega)]
    have hfin := HAI.out _ (hD5.trans HD.out) (one_setCell hC4) hnew5 (HBW.out.trans hb5)
    have HF := Lib.hid hfin
    have HB5 := Lib.hid hb5
    have HKO := Lib.hid hko
    have HD5 := Lib.hid hD5
    clear hints hnew5 hb5 hko hD5 hfin hown4 hg4 hC4 hRr hcc1 hcf1
    gi_wp2
    exact ⟨HKO.out, ⟨HB5.out, fun _ => HD5.out⟩, HF.out⟩
  case done =>
    rintro D' ys W hD hys ⟨_, hC, hnew, hbw⟩ hK'
    rw [hys, take_blocks] at hC hnew
    have hcc1 := cell_of_one hC
    have HNW := Lib.hid hnew
    have HBW := Lib.hid hbw
    clear hC hnew hbw hys
    gi_wp2
    refine ⟨by simp, .inl ⟨_, _, rfl, run_takeDeferred hK', ?_⟩⟩
    refine ⟨_, results_tmp rfl _ _ _, ?_⟩
    have hD2 : w.heap.size ≤ D' := by have := HZ3.out; have := HRC.out; omega
    exact ⟨_, rfl, Firm.newPo 0 _ _ _ W D' _ _ (Nat.zero_le _) hK' rfl HNW.out, Firm.belowW (N := w.heap.size) (Nat.le_refl _) W D' _ _ hD2 hK' rfl HBW.out⟩
end Go.Proofs.Ytfhjnblcnkjooaa
