/- What package posting's Make answers of postings that may be: a list of these. -/
import Derived.Test.YtfhjnblcnkjooaaChunk05
import Derived.Test.YtfhjnblcnkjooaaReadD05
import Derived.Test.YtfhjnblcnkjooaaPut05
import Derived.Deep.AppendLies
import Derived.Test.YtfhjnblcnkjooaaHeldIn05
set_option linter.unusedVariables false
namespace Go.Proofs.Ytfhjnblcnkjooaa
open Go Go.RowKit
attribute [local go_sem] Oper.semAt_some

/-- What a call gives that makes a list of postings. -/
def MadeList (l : List Po) (w : World) (e : Ending) (w' : World) : Prop := ∃ B, e = .returned (.tuple #[.pointer (some ⟨B, 0, none⟩), .int .i64 0]) ∧ LAt w' w.heap.size B (bytesP (-1) l) l ∧ Below w.heap.size w w'

theorem Firm.lat (N base B : Nat) (bs : List UInt8) (l : List Po) : Firm N (fun W => LAt W base B bs l) := fun W k o o' hk ho hc h => h.cellsKept fun j u hj hu => by
  by_cases e : j = k
  · subst e
    rw [ho] at hj
    injection hj with hj
    subst hj
    rw [hc] at hu
    cases hu
  · exact (World.putObj_heap_other e).trans hj
theorem Firm.block {N k : Nat} (hk : k < N) (o : Obj) : Firm N (fun W => W.heap[k]? = some o) := fun W l u u' hl _ _ h => (World.putObj_heap_other (by omega)).trans h
theorem Firm.belowW {N n0 : Nat} {w0 : World} (hN : n0 ≤ N) : Firm N (fun W => Below n0 w0 W) := fun W l o o' hl ho _ h =>
  h.trans ((Below.refl n0 W).grown (grownBy_putObj' W l o') (by have := (Array.getElem?_eq_some_iff.1 ho).1; omega) (fun k e => by cases e; omega))
theorem Firm.and {N : Nat} {p q : World → Prop} (h : Firm N p) (k : Firm N q) : Firm N (fun W => p W ∧ q W) := fun W l o o' hl ho hc hp => ⟨h W l o o' hl ho hc hp.1, k W l o o' hl ho hc hp.2⟩
theorem Firm.pure {N : Nat} {p : Prop} : Firm N (fun _ => p) := fun _ _ _ _ _ _ _ h => h

theorem bytesP_pos {l : List Po} {x : Int} (h : l ≠ []) : 0 < (bytesP x l).length := by
  cases l with
  | nil => exact absurd rfl h
  | cons p r =>
    have := putB_pos (p.1 - (x + 1)).toNat
    rw [bytesP, List.length_append]
    omega
/-- What lies there between two rounds: the blocks that came are the list's. -/
def MakeI (w : World) (B : Nat) (A : Option Addr) (n c : Nat) (l : List Po) (pre : List Nat) (W : World) : Prop :=
  (W.heap[B + 1 + 1]? = some (.cells #[.slice A n c] 22 (0, 0)) ∧ W.heap[B + 1 + 1 + 1]? = some (.cells #[.int .i64 8] 3 (0, 0))) ∧ LAt W w.heap.size B (bytesP (-1) (l.take (8 * pre.length))) (l.take (8 * pre.length)) ∧ W.heap[B + 1]? = some (.cells #[.pointer (some ⟨B, 0, none⟩)] 25 (0, 0)) ∧ Below w.heap.size w W
/-- The struct's bytes have grown. -/
theorem LAt.moreBytes {w w0 w1 : World} {base B : Nat} {bs cs : List UInt8} {l : List Po} {vb ve v' : Value} {m : Nat} (hB : base ≤ B) (hv : w.heap[B]? = some (.cells #[vb, ve, .int .i64 (l.length : Int), .int .i64 (totalP l : Int)] 49 (0, 0)))
    (ho : w.ownsRow base 5 1 vb bs.length (Lib.byteCells bs)) (he : w.ownsRow base 55 2 ve (blocksP l.length) (endsV l)) (hb : Below w.heap.size w w0) (hg : w0.grownBy w1 vb.ownBlock) (hm : cs.length = m)
    (hown : w1.ownsRow base 5 1 v' (bs.length + m) (Lib.byteCells bs ++ Lib.byteCells cs)) :
    w1.heap[B]? = some (.cells #[vb, ve, .int .i64 (l.length : Int), .int .i64 (totalP l : Int)] 49 (0, 0)) ∧ LAt (w1.setCell ⟨B, 0, none⟩ v') base B (bs ++ cs) l ∧ Mild base w (w1.setCell ⟨B, 0, none⟩ v') := by
  have hlt : B < w.heap.size := (Array.getElem?_eq_some_iff.1 hv).1
  have hv0 := (hb.block B hlt).trans hv
  have he0 := owned_below he hb
  have ho0 := owned_below ho hb
  have hv1 : w1.heap[B]? = some (.cells #[vb, ve, .int .i64 (l.length : Int), .int .i64 (totalP l : Int)] 49 (0, 0)) := (hg.block B (by have := hb.size; omega) (fun e => owned_apart ho0 hv0 (by decide) e.symm)).trans hv0
  have he1 : w1.ownsRow base 55 2 ve (blocksP l.length) (endsV l) := owned_keep he0 fun g hg' => hg.block g (he0.lt g hg').2 fun e => owned_apart2 ho0 he0 (by decide) hg' e.symm
  have hbw : base ≤ w.heap.size := by omega
  refine ⟨hv1, ⟨hB, v', ve, heap_setCell_same w1 B 0 _ _ _ hv1, owned_setCell (own_more hm hown) (owned_apart hown hv1 (by decide)) _, owned_setCell he1 (owned_apart he1 hv1 (by decide)) _⟩, ?_⟩
  exact (Mild.of_below hb hbw).trans ((Mild.grownOwn ho0 (.inr (.inr rfl)) hg (by have := hb.size; omega)).trans (Mild.setCell hv1 (.inl rfl) hB _))

set_option maxHeartbeats 8000000 in
set_option maxRecDepth 100000 in
theorem posting_Make (A : Option Addr) (n c : Nat) (l : List Po) (w : World) (hn : l.length = n) (hc : n ≤ c) (hcx : c ≤ maxLen) (hn100 : n ≤ 100) (hpo : Posts w w.heap.size A l) (hpl : ∀ p ∈ l, p.2.length ≤ 20) (hm : mayB' (-1) l = true) :
    Calls Try.prog 10 #[.slice A n c] w (MadeList l w) := by
  obtain ⟨i0, hi0, hz0, hz1, hz2⟩ := info_parts info_byte
  refine (callsIn_wide (n := 6)).1 ?_
  have my := posting_May A n c l w hn (by omega) hpo (fun p hp => by have := hpl p hp; omega)
  rw [hm] at my
  have MY := Lib.hid my
  have HPO := Lib.hid hpo
  have HPL := Lib.hid hpl
  have HM := Lib.hid hm
  have HN := Lib.hid hn
  clear my hpo hpl hm hn
  refine callsIn_of_wp_marks Try.func10 rfl trivial ?_ rfl
  simp only [Try.ntmps10, List.size_toArray, List.length_cons, List.length_nil, Nat.reduceAdd, Nat.reduceSub, Array.replicate_succ, Array.replicate_zero, List.push_toArray, List.append_toArray, List.nil_append, List.cons_append]
  gi_wp2_with (first
    | (refine ⟨trivial, ?_⟩; gi_at_call 11; refine (callsIn_wide.2 MY.out).mono ?_; rintro e w1 ⟨rfl, hb1⟩)
    | (gi_at_call 11; refine (callsIn_wide.2 MY.out).mono ?_; rintro e w1 ⟨rfl, hb1⟩)
    | (refine ⟨trivial, ?_⟩; gi_at_call 24; refine (callsIn_wide.2 (posting_Chunk A n c _)).mono ?_)
    | (gi_at_call 24; refine (callsIn_wide.2 (posting_Chunk A n c _)).mono ?_))
  rintro e w3 ⟨rfl, e1, e2, hb3, hz3⟩
  obtain ⟨B, hB⟩ : ∃ B, B = w1.heap.size := ⟨_, rfl⟩
  have hsz1 := hb1.size
  have hal := ((Below.refl w1.heap.size w1).alloc (Nat.le_refl _) (.cells #[.slice none 0 0, .slice none 0 0, .int .i64 0, .int .i64 0] 49)).alloc (by simp) (.cells #[.pointer (some ⟨w1.heap.size, 0, none⟩)] 25)
  have hb13 : Below w1.heap.size w1 w3 := hal.trans (hb3.mono (by simp; omega))
  have hb03 : Below w.heap.size w w3 := hb1.trans (hb13.mono hsz1)
  have hlist : w3.heap[w1.heap.size]? = some (.cells #[.slice none 0 0, .slice none 0 0, .int .i64 0, .int .i64 0] 49 (0, 0)) :=
    (hb3.block _ (by simp; omega)).trans ((Below.heap_alloc _ _ _ (by simp)).trans (heap_alloc_new w1 _))
  have hbox : w3.heap[w1.heap.size + 1]? = some (.cells #[.pointer (some ⟨w1.heap.size, 0, none⟩)] 25 (0, 0)) := by
    refine (hb3.block _ (by simp)).trans ?_
    have h1 := heap_alloc_new (w1.alloc (.cells #[.slice none 0 0, .slice none 0 0, .int .i64 0, .int .i64 0] 49)) (.cells #[.pointer (some ⟨w1.heap.size, 0, none⟩)] 25)
    rwa [World.size_alloc] at h1
  simp only [World.size_alloc] at e1 e2 hz3
  rw [← hB] at e1 e2 hz3 hlist hbox
  rw [← hB] at hsz1
  have hlat : LAt w3 w.heap.size B [] [] := ⟨hsz1, _, _, hlist, World.ownsRow_nil _ _ _ _, World.ownsRow_nil _ _ _ _⟩
  have hi0' : MakeI w B A n c l [] w3 := ⟨⟨e1, e2⟩, by simpa [bytesP] using hlat, hbox, hb03⟩
  obtain ⟨b, off, hA⟩ : ∃ b off, 0 < n → A = some ⟨b, off, none⟩ := by
    by_cases h0 : 0 < n
    · obtain ⟨b, off, e, _⟩ := HPO.out.at_ (k := 0) (by rw [HN.out]; exact h0)
      exact ⟨b, off, fun _ => e⟩
    · exact ⟨0, 0, fun h => absurd h h0⟩
  have HI0 := Lib.hid hi0'
  have HA := Lib.hid hA
  have HZ3 := Lib.hid hz3
  have HE1 := Lib.hid e1
  have HE2 := Lib.hid e2
  have HBW : Hid (w.heap.size ≤ B) := Lib.hid hsz1
  clear hi0' hlat hA hz3 e1 e2 hlist hbox hb03 hb13 hal hb3
  gi_wp2
  rw [← hB]
  clear hB hb1 hsz1
  refine wpIn_range_told (by omega) (gf := 44) (lb := #[.pointer (some ⟨B + 1 + 1, 0, none⟩), .pointer (some ⟨B + 1 + 1 + 1, 0, none⟩)]) rfl (enters_of Try.func44 (by kernel_rfl) rfl)
    (chunk_told 5 (B + 1 + 1) (B + 1 + 1 + 1) n c A b off (by omega) HA.out hc hcx (by omega) w3 HE1.out HE2.out) KpTwo.trans (fun W l o o' hl ho hc => KpTwo.putObj W l o' (by have := HZ3.out; omega) (by have := HZ3.out; omega)) (fun _ => rfl)
    (MakeI w B A n c l) (fun s A' B' h hb => ⟨⟨(hb.block _ (lt_of_block h.1.1)).trans h.1.1, (hb.block _ (lt_of_block h.1.2)).trans h.1.2⟩, h.2.1.below hb, (hb.block _ (lt_of_block h.2.2.1)).trans h.2.2.1, h.2.2.2.trans (hb.mono h.2.2.2.size)⟩)
    (fun s => ((Firm.block (by have := HZ3.out; omega) _).and (Firm.block (by have := HZ3.out; omega) _)).and <| (Firm.lat _ _ _ _ _).and ((Firm.block (by have := HZ3.out; omega) _).and (Firm.belowW (by have := HZ3.out; have := HBW.out; omega)))) (fun s x => Firm.pure) HI0.out
    (fun k => { tmps := #[.slice A n c, undef, .pointer none, .int .i64 0, .pointer (some ⟨B + 1, 0, none⟩), chunkV b off n k, undef, .slice A n c, .bool true, .bool false, .agg #[.slice none 0 0, .slice none 0 0, .int .i64 0, .int .i64 0], .pointer (some ⟨B, 0, none⟩), .slice A n c,
      .func (.func 44) #[] #[.pointer (some ⟨B + 1 + 1, 0, none⟩), .pointer (some ⟨B + 1 + 1 + 1, 0, none⟩)], chunkV b off n k, undef, undef, undef, undef, undef, undef, undef, undef, undef, undef, undef, undef, undef, undef, undef, undef, undef, undef, undef, undef, undef, undef, undef], defers := [] }) ?assign ?body ?done
  case assign =>
    intro lp x W K' hK'
    gi_wp2
    exact hK'
  case body =>
    rintro lp pre x W ⟨⟨hd1, hd2⟩, hla, hbx, hbw⟩ ⟨rfl, hx⟩
    obtain ⟨k, hk⟩ : ∃ k, k = pre.length := ⟨_, rfl⟩
    rw [← hk] at hla hx
    rw [← hk]
    have hMI : ∀ W', LAt W' w.heap.size B (bytesP (-1) (l.take (8 * (k + 1)))) (l.take (8 * (k + 1))) → W'.heap[B + 1]? = some (.cells #[.pointer (some ⟨B, 0, none⟩)] 25 (0, 0)) → Below w.heap.size w W' → Mild w.heap.size W W' → MakeI w B A n c l (pre ++ [k]) W' ∧ KpTwo (B + 1 + 1) (B + 1 + 1 + 1) W W' := fun W' h1 h2 h3 h4 => by
      have k1 := h4.keep _ _ hd1 (fun cs t fr e => by cases e; unfold Turning; decide)
      have k2 := h4.keep _ _ hd2 (fun cs t fr e => by cases e; unfold Turning; decide)
      refine ⟨?_, h4.below.size, fun _ => k1.trans hd1.symm, fun _ => k2.trans hd2.symm⟩
      unfold MakeI
      rw [List.length_append, List.length_singleton, ← hk]
      exact ⟨⟨k1, k2⟩, h1, h2, h3⟩
    have hnk : 8 * k < n := by unfold blocksP at hx; omega
    have hxl : k < blocksP l.length := by rw [HN.out]; exact hx
    have hqlen := blockP_length (l := l) k
    rw [HN.out] at hqlen
    have hcat := blocks_all l k
    have hacl : (l.take (8 * k)).length = 8 * k := by rw [List.length_take, HN.out]; omega
    have hmt := HM.out
    rw [← List.take_append_drop (8 * (k + 1)) l, mayB'_append, Bool.and_eq_true, hcat, mayB'_append, Bool.and_eq_true] at hmt
    have hx0 := docOf_ge _ _ hmt.1.1
    have hmb := hmt.1.2
    have hbpl : ∀ p ∈ blockP l (k : Int), p.2.length ≤ 20 := fun p hp => HPL.out p (by rw [blockP_nat] at hp; exact List.mem_of_mem_drop (List.mem_of_mem_take hp))
    have hapl : ∀ p ∈ l.take (8 * (k + 1)), p.2.length ≤ 20 := fun p hp => HPL.out p (List.mem_of_mem_take hp)
    have hbys : (bytesP (-1) (l.take (8 * (k + 1)))).length ≤ 100000 := by
      have h1 := bytesP_length (l.take (8 * (k + 1))) (-1) (by omega) (by rw [hcat, mayB'_append, hmt.1.1, hmb]; rfl) (fun p hp => by have := hapl p hp; omega)
      have h2 := totalP_le hapl
      have h3 : (l.take (8 * (k + 1))).length ≤ 100 := by rw [List.length_take, HN.out]; omega
      omega
    have htot : totalP (l.take (8 * (k + 1))) ≤ 100000 := by
      have h2 := totalP_le hapl
      have h3 : (l.take (8 * (k + 1))).length ≤ 100 := by rw [List.length_take, HN.out]; omega
      omega
    have hbya : (bytesP (-1) (l.take (8 * (k + 1)))).length = (bytesP (-1) (l.take (8 * k))).length + (bytesP (docOf (-1) (l.take (8 * k))) (blockP l (k : Int))).length := by rw [hcat, bytesP_append, List.length_append]
    have hA' := HA.out (by omega)
    obtain ⟨q, hq⟩ : ∃ q, q = min 8 (n - 8 * k) := ⟨_, rfl⟩
    have hch : chunkV b off n k = .slice (some ⟨b, off + 8 * k * 2, none⟩) q q := by unfold chunkV; rw [← hq]
    rw [← hq] at hqlen
    have hq1 : 0 < q ∧ q ≤ 8 := by omega
    rw [hch]
    have hpos : Posts w w.heap.size (some ⟨b, off + 8 * k * 2, none⟩) (blockP l (k : Int)) := by
      have h1 := HPO.out
      rw [hA'] at h1
      rw [blockP_nat]
      exact (h1.drop (8 * k)).cut 8
    obtain ⟨acc, hacc⟩ : ∃ acc, acc = l.take (8 * k) := ⟨_, rfl⟩
    obtain ⟨blk, hblk⟩ : ∃ blk, blk = blockP l (k : Int) := ⟨_, rfl⟩
    rw [← hacc, ← hblk] at hcat
    rw [hcat] at hMI hbys htot hbya
    rw [← hacc] at hla hacl hx0 hmb hbya
    rw [← hblk] at hqlen hmb hbpl hbya hpos
    have hlast := list_last w.heap.size B (bytesP (-1) acc) acc W hla (by omega)
    obtain ⟨x0, hx0e⟩ : ∃ x0, x0 = docOf (-1) acc := ⟨_, rfl⟩
    rw [← hx0e] at hx0 hmb hbya hlast
    obtain ⟨a, hae⟩ : ∃ a, a = (bytesP (-1) acc).length := ⟨_, rfl⟩
    rw [← hae] at hbya hlast
    have hfld := fun w1 => fld_doc x0 (a : Int) w1
    have hput : ∀ W', Below W.heap.size W W' → Calls Try.prog 25 #[.slice (some ⟨b, off + 8 * k * 2, none⟩) q q, .int .i64 x0] W' (GaveOwn W'.heap.size (bytesP x0 blk) W') := fun W' hb =>
      posting_put _ q q blk x0 W' hqlen (by omega) ((hpos.below (hbw.trans (hb.mono hbw.size))).more (by have := hbw.size; have := hb.size; omega)) hx0 hmb hbpl (by omega)
    obtain ⟨bb, hbb⟩ : ∃ bb, bb = bytesP x0 blk := ⟨_, rfl⟩
    rw [← hbb] at hput hbya
    have hc1 := cell_of_one hbx
    have HLAST := Lib.hid hlast
    have HPUT := Lib.hid hput
    have HLA := Lib.hid hla
    have HBX := Lib.hid hbx
    have HW := Lib.hid hbw
    have HPOS := Lib.hid hpos
    have HMI := Lib.hid hMI
    have HACL := Lib.hid hacl
    have HQL := Lib.hid hqlen
    have HBB := Lib.hid hbb
    have HX0E := Lib.hid hx0e
    have HAE := Lib.hid hae
    have hBW0 : ∀ W', Below W.heap.size W W' → W'.cell? ⟨B + 1, 0, none⟩ = some (.pointer (some ⟨B, 0, none⟩)) := fun W' hb => (hb.cell (p := ⟨B + 1, 0, none⟩) (lt_of_block HBX.out)).trans (cell_of_one HBX.out)
    have HC1 := Lib.hid hBW0
    clear hlast hput hla hbx hbw hpos hMI hacl hqlen hbb hx0e hae hacc hblk hcat hk hq hch hbpl hapl hmt hA' hxl hmb hBW0
    gi_wp2_with (first
      | (refine ⟨trivial, ?_⟩; gi_at_call 26; refine (CallsIn.inRound lp (callsIn_wide.2 HLAST.out)).mono ?_; rintro e w5 ⟨rfl, hb5⟩; have HB5 := Lib.hid hb5; clear hb5)
      | (gi_at_call 26; refine (CallsIn.inRound lp (callsIn_wide.2 HLAST.out)).mono ?_; rintro e w5 ⟨rfl, hb5⟩; have HB5 := Lib.hid hb5; clear hb5)
      | (refine ⟨trivial, ?_⟩; gi_at_call 25; refine (CallsIn.inRound lp (callsIn_wide.2 (HPUT.out _ HB5.out))).mono ?_)
      | (gi_at_call 25; refine (CallsIn.inRound lp (callsIn_wide.2 (HPUT.out _ HB5.out))).mono ?_))
    rintro e w6 ⟨v6, rfl, hown6, hb6⟩
    obtain ⟨A6, c6, rfl, hc6, hr6⟩ := hown6.row
    have hbbp : 0 < bb.length := by rw [HBB.out]; exact bytesP_pos (fun e => by have := HQL.out; rw [e] at this; simp at this; omega)
    obtain ⟨ba, oa, rfl, _, hca⟩ := hr6.at_ (by rw [Lib.byteCells_length]; exact hbbp)
    have hb56 := HB5.out.trans (hb6.mono HB5.out.size)
    have hla6 := HLA.out.below hb56
    have hbase6 : w.heap.size ≤ w6.heap.size := by have := hb56.size; have := HW.out.size; omega
    have hpc6 := HC1.out w6 hb56
    have hbx6 := (hb56.block _ (lt_of_block HBX.out)).trans HBX.out
    obtain ⟨hB6, vb, ve, hv, ho, he⟩ := hla6
    rw [← HAE.out] at ho
    obtain ⟨M, hM⟩ : ∃ M, M = bb.length := ⟨_, rfl⟩
    rw [← hM] at hbya hbbp hc6
    rw [← hM]
    obtain ⟨g, cap, w7, hrun, hown7, hg7, _, _⟩ := run_append_lies (P := Try.prog) w6.drew 32 32 w.heap.size 5 i0 _ 1 1 Try.underlying32 hi0 hz0 hz1 hz2 rfl (by omega) vb a (Lib.byteCells (bytesP (-1) acc)) ho ⟨ba, oa, none⟩ M c6 (Lib.byteCells bb) (by rw [Lib.byteCells_length, hM]; omega) (fun j u hu => by rw [Addr.add_lit]; exact hca j u hu) (byteCells_oneCell _) hbbp (by unfold maxLen; omega) (by omega) hbase6 w6.heap.size rfl
    have ho' := ho
    rw [HAE.out] at ho' hown7
    obtain ⟨hv7, hla7, hmild7⟩ := LAt.moreBytes hB6 hv ho' he (Below.refl _ w6).drew hg7 hM.symm hown7
    obtain ⟨⟨cB0, cB1, cB2, cB3⟩, fB0, fB1, fB2, fB3⟩ := cell_four hv7
    have c6a := (cell_four hv).1.1
    rw [← HAE.out] at hla7 hmild7
    have HLA7 := Lib.hid hla7
    have HM7 := Lib.hid (((Mild.of_below hb56 HW.out.size)).trans hmild7)
    have HMM := Lib.hid hM
    have hbx8 := HM7.out.keep _ _ HBX.out (fun cs t fr e => by cases e; unfold Turning; decide)
    have hS6 : (w6.drew).cell? ⟨B + 1, 0, none⟩ = some (.pointer (some ⟨B, 0, none⟩)) := hpc6
    have hS7 : w7.cell? ⟨B + 1, 0, none⟩ = some (.pointer (some ⟨B, 0, none⟩)) := by
      have h1 : w7.heap[B + 1]? = w6.drew.heap[B + 1]? := hg7.block (B + 1) (lt_of_block (w := w6) hbx6) (fun e => owned_apart ho hbx6 (by decide) e.symm)
      exact cell_of_one (h1.trans hbx6)
    have hcl : Calls Try.prog 27 #[.pointer (some ⟨B, 0, none⟩), .slice (some ⟨b, off + 8 * k * 2, none⟩) q q, .int .i64 ((a + M : Nat) : Int)] ((w7.setCell ⟨B, 0, none⟩ (.slice (some ⟨g, 0, none⟩) (a + M) cap)).drew) fun e w' => (∃ v, e = .returned v) ∧ LAt w' w.heap.size B (bytesP (-1) acc ++ bb) (acc ++ blk) ∧ Mild w.heap.size ((w7.setCell ⟨B, 0, none⟩ (.slice (some ⟨g, 0, none⟩) (a + M) cap)).drew) w' := by
      obtain ⟨cs, h1, h2⟩ := HPOS.out
      have hbl8 := HW.out.trans HM7.out.below
      have hzz : a + M = (bytesP (-1) (acc ++ blk)).length := by rw [hbya, HMM.out]
      exact list_close w.heap.size B _ acc blk k _ q q cs (a + M) _ (HLA7.out.below (Below.refl _ _).drew) HACL.out HQL.out (Nat.le_refl _) (by unfold maxLen; omega) (h1.imp fun _ _ _ => trivial) (RowM.of_row (h2.below (hbl8.trans (Below.refl _ _).drew)) (by have := hbl8.size; simpa using this)) (by omega) (by omega) (by have := HACL.out; omega) (by omega) hzz (by omega)
    have c7b : (w7.setCell ⟨B, 0, none⟩ (.slice (some ⟨g, 0, none⟩) (a + M) cap)).cell? ⟨B, 0, none⟩ = some (.slice (some ⟨g, 0, none⟩) (a + M) cap) := (cell_four (heap_setCell_same w7 B 0 _ _ _ hv7)).1.1
    have HS6 := Lib.hid hS6
    have HS7 := Lib.hid hS7
    have HS8 : Hid ((w7.setCell ⟨B, 0, none⟩ (.slice (some ⟨g, 0, none⟩) (a + M) cap)).cell? ⟨B + 1, 0, none⟩ = some (.pointer (some ⟨B, 0, none⟩))) := Lib.hid (cell_of_one hbx8)
    have HS9 : Hid ((w7.setCell ⟨B, 0, none⟩ (.slice (some ⟨g, 0, none⟩) (a + M) cap)).drew.cell? ⟨B + 1, 0, none⟩ = some (.pointer (some ⟨B, 0, none⟩))) := Lib.hid (cell_of_one (w := (w7.setCell ⟨B, 0, none⟩ (.slice (some ⟨g, 0, none⟩) (a + M) cap)).drew) hbx8)
    have HBX8 : Hid ((w7.setCell ⟨B, 0, none⟩ (.slice (some ⟨g, 0, none⟩) (a + M) cap)).drew.heap[B + 1]? = some (.cells #[.pointer (some ⟨B, 0, none⟩)] 25 (0, 0))) := Lib.hid hbx8
    have HCL := Lib.hid hcl
    have HRUN := Lib.hid hrun
    have C7B := Lib.hid c7b
    clear hla7 hmild7 hown7 hg7 ho ho' he hv7 hca hr6 hown6 hb6 hM hB6 hrun hbx8 hS6 hS7 hcl c7b hbx6 hbya
    clear hc1 hpc6
    gi_wp2
    refine region_in_round (S := fun w' => w'.cell? ⟨B + 1, 0, none⟩ = some (.pointer (some ⟨B, 0, none⟩))) (by kernel_rfl) (by kernel_rfl) HS6.out (fun hHeld0 => ?_)
    refine wpAnyH_take (i := 0) (v := .pointer (some ⟨B, 0, none⟩)) rfl (by kernel_rfl) (by kernel_rfl) (by kernel_rfl) (fun _ _ _ h => h) (Or.inl ⟨by rfl, fun wx hSw => by go_simp⟩) (by assumption) ?_
    try simp only [Act.put, List.getElem_toArray, List.getElem_cons_zero, List.setIfInBounds_toArray, List.set_cons_zero, List.set_cons_succ]
    refine wpAnyH_take (i := 1) (v := .pointer (some ⟨B, 0, none⟩)) rfl (by kernel_rfl) (by kernel_rfl) (by kernel_rfl) (fun _ _ _ h => h) (Or.inl ⟨by rfl, fun wx hSw => by go_simp⟩) (by assumption) ?_
    try simp only [Act.put, List.getElem_toArray, List.getElem_cons_zero, List.getElem_cons_succ, List.setIfInBounds_toArray, List.set_cons_zero, List.set_cons_succ]
    refine wpAnyH_take (i := 2) (v := .pointer (some ⟨B, 0, none⟩)) rfl (by kernel_rfl) (by kernel_rfl) (by kernel_rfl) (fun _ _ _ h => h) (Or.inl ⟨by rfl, fun wx hSw => by go_simp⟩) (by assumption) ?_
    try simp only [Act.put, List.getElem_toArray, List.getElem_cons_zero, List.getElem_cons_succ, List.setIfInBounds_toArray, List.set_cons_zero, List.set_cons_succ]
    refine wpAnyH_take (i := 3) (v := .pointer (some ⟨B, 0, none⟩)) rfl (by kernel_rfl) (by kernel_rfl) (by kernel_rfl) (fun _ _ _ h => h) (Or.inl ⟨by rfl, fun wx hSw => by go_simp⟩) (by assumption) ?_
    try simp only [Act.put, List.getElem_toArray, List.getElem_cons_zero, List.getElem_cons_succ, List.setIfInBounds_toArray, List.set_cons_zero, List.set_cons_succ]
    refine wpAnyH_take (i := 5) (v := .slice (some ⟨ba, oa, none⟩) M c6) rfl (by kernel_rfl) (by kernel_rfl) (by kernel_rfl) (fun _ _ _ h => h) (Or.inl ⟨by rfl, fun wx hSw => by go_simp⟩) (by assumption) ?_
    try simp only [Act.put, List.getElem_toArray, List.getElem_cons_zero, List.getElem_cons_succ, List.setIfInBounds_toArray, List.set_cons_zero, List.set_cons_succ]
    refine wpAnyH_ready (rs := [4]) (by kernel_rfl) (by simp) ?_
    refine AllReadyH.cons rfl (fun K hK => ?_) AllReadyH.nil
    try simp only [List.getElem_toArray, List.getElem_cons_zero, List.getElem_cons_succ]
    go_simp
    refine hK.out _ _ ?_ (fun hHeld1 => ?_)
    · exact HS6.out
    clear hK K
    try simp only [Act.put, List.getElem_toArray, List.getElem_cons_zero, List.getElem_cons_succ, List.setIfInBounds_toArray, List.set_cons_zero, List.set_cons_succ]
    refine wpAnyH_ready (rs := [6]) (by kernel_rfl) (by simp) ?_
    refine AllReadyH.cons rfl (fun K hK => ?_) AllReadyH.nil
    try simp only [List.getElem_toArray, List.getElem_cons_zero, List.getElem_cons_succ]
    refine step_append_known (a := ⟨_, _⟩) ?_ (.tmp 24) (.tmp 25) 32 ?_ vb (.slice (some ⟨ba, oa, none⟩) M c6) ?_ ?_ (.slice (some ⟨g, 0, none⟩) (a + M) cap) w7 ?_ ?_
    · rfl
    · rfl
    · rfl
    · rfl
    · exact HRUN.out
    refine hK.out _ _ HS7.out (fun hHeld2 => ?_)
    clear hK K
    try simp only [Act.put, List.setIfInBounds_toArray, List.set_cons_zero, List.set_cons_succ]
    refine wpAnyH_take (i := 7) (v := .pointer (some ⟨B, 0, none⟩)) rfl (by kernel_rfl) (by kernel_rfl) (by kernel_rfl) (fun _ _ _ h => h) (Or.inl ⟨by rfl, fun wx hSw => by go_simp⟩) (by assumption) ?_
    try simp only [Act.put, List.getElem_toArray, List.getElem_cons_zero, List.getElem_cons_succ, List.setIfInBounds_toArray, List.set_cons_zero, List.set_cons_succ]
    refine wpAnyH_take (i := 8) (v := .pointer (some ⟨B, 0, none⟩)) rfl (by kernel_rfl) (by kernel_rfl) (by kernel_rfl) (fun _ _ _ h => h) (Or.inl ⟨by rfl, fun wx hSw => by go_simp⟩) (by assumption) ?_
    try simp only [Act.put, List.getElem_toArray, List.getElem_cons_zero, List.getElem_cons_succ, List.setIfInBounds_toArray, List.set_cons_zero, List.set_cons_succ]
    refine wpAnyH_ready (rs := [9]) (by kernel_rfl) (by simp) ?_
    refine AllReadyH.cons rfl (fun K hK => ?_) AllReadyH.nil
    try simp only [List.getElem_toArray, List.getElem_cons_zero, List.getElem_cons_succ]
    go_simp
    refine hK.out _ _ ?_ (fun hHeld3 => ?_)
    · exact HS8.out
    clear hK K
    try simp only [Act.put, List.getElem_toArray, List.getElem_cons_zero, List.getElem_cons_succ, List.setIfInBounds_toArray, List.set_cons_zero, List.set_cons_succ]
    refine wpAnyH_done (by kernel_rfl) ?_ _
    refine AtEnd.fin ?_
    gi_wp2
    have c7b := C7B.out
    clear cB0 cB1 cB2 cB3 fB0 fB1 fB2 fB3 c6a
    refine region_in_round (S := fun w' => w'.cell? ⟨B + 1, 0, none⟩ = some (.pointer (some ⟨B, 0, none⟩))) (by kernel_rfl) (by kernel_rfl) HS9.out (fun hHeld0 => ?_)
    refine wpAnyH_take (i := 0) (v := .pointer (some ⟨B, 0, none⟩)) rfl (by kernel_rfl) (by kernel_rfl) (by kernel_rfl) (fun _ _ _ h => h) (Or.inl ⟨by rfl, fun wx hSw => by go_simp⟩) (by assumption) ?_
    try simp only [Act.put, List.getElem_toArray, List.getElem_cons_zero, List.setIfInBounds_toArray, List.set_cons_zero, List.set_cons_succ]
    refine wpAnyH_take (i := 1) (v := .slice (some ⟨b, off + 8 * k * 2, none⟩) q q) rfl (by kernel_rfl) (by kernel_rfl) (by kernel_rfl) (fun _ _ _ h => h) (Or.inl ⟨by rfl, fun wx hSw => by go_simp⟩) (by assumption) ?_
    try simp only [Act.put, List.getElem_toArray, List.getElem_cons_zero, List.getElem_cons_succ, List.setIfInBounds_toArray, List.set_cons_zero, List.set_cons_succ]
    refine wpAnyH_take (i := 2) (v := .pointer (some ⟨B, 0, none⟩)) rfl (by kernel_rfl) (by kernel_rfl) (by kernel_rfl) (fun _ _ _ h => h) (Or.inl ⟨by rfl, fun wx hSw => by go_simp⟩) (by assumption) ?_
    try simp only [Act.put, List.getElem_toArray, List.getElem_cons_zero, List.getElem_cons_succ, List.setIfInBounds_toArray, List.set_cons_zero, List.set_cons_succ]
    refine wpAnyH_take (i := 3) (v := .pointer (some ⟨B, 0, none⟩)) rfl (by kernel_rfl) (by kernel_rfl) (by kernel_rfl) (fun _ _ _ h => h) (Or.inl ⟨by rfl, fun wx hSw => by go_simp⟩) (by assumption) ?_
    try simp only [Act.put, List.getElem_toArray, List.getElem_cons_zero, List.getElem_cons_succ, List.setIfInBounds_toArray, List.set_cons_zero, List.set_cons_succ]
    refine wpAnyH_take (i := 4) (v := .pointer (some ⟨B, 0, none⟩)) rfl (by kernel_rfl) (by kernel_rfl) (by kernel_rfl) (fun _ _ _ h => h) (Or.inl ⟨by rfl, fun wx hSw => by go_simp⟩) (by assumption) ?_
    try simp only [Act.put, List.getElem_toArray, List.getElem_cons_zero, List.getElem_cons_succ, List.setIfInBounds_toArray, List.set_cons_zero, List.set_cons_succ]
    refine wpAnyH_ready (rs := [5]) (by kernel_rfl) (by simp) ?_
    refine AllReadyH.cons rfl (fun K hK => ?_) AllReadyH.nil
    try simp only [List.getElem_toArray, List.getElem_cons_zero, List.getElem_cons_succ]
    go_simp
    refine hK.out _ _ ?_ (fun hHeld1 => ?_)
    · exact HS9.out
    clear hK K
    try simp only [Act.put, List.getElem_toArray, List.getElem_cons_zero, List.getElem_cons_succ, List.setIfInBounds_toArray, List.set_cons_zero, List.set_cons_succ]
    refine wpAnyH_take (i := 6) (v := .int .i64 ((a + M : Nat) : Int)) rfl (by kernel_rfl) (by kernel_rfl) (by kernel_rfl) (fun _ _ _ h => h) (Or.inl ⟨by rfl, fun wx hSw => by go_simp⟩) (by assumption) ?_
    try simp only [Act.put, List.getElem_toArray, List.getElem_cons_zero, List.getElem_cons_succ, List.setIfInBounds_toArray, List.set_cons_zero, List.set_cons_succ]
    refine wpAnyH_ready (rs := [7]) (by kernel_rfl) (by simp) ?_
    refine AllReadyH.cons rfl (fun K hK => ?_) AllReadyH.nil
    try simp only [List.getElem_toArray, List.getElem_cons_zero, List.getElem_cons_succ]
    go_simp
    go_at_call 27
    refine HCL.out.mono ?_
    rintro e w9 ⟨⟨v9, rfl⟩, hla9, hmild9⟩
    have HS10 : Hid (w9.cell? ⟨B + 1, 0, none⟩ = some (.pointer (some ⟨B, 0, none⟩))) := Lib.hid (cell_of_one (hmild9.keep _ _ HBX8.out (fun cs t fr e => by cases e; unfold Turning; decide)))
    have HLA9 := Lib.hid hla9
    have HM9 := Lib.hid hmild9
    clear hla9 hmild9
    go_wp2_with fail
    refine hK.out _ _ ?_ (fun hHeld2 => ?_)
    · exact HS10.out
    clear hK K
    try simp only [Act.put, List.getElem_toArray, List.getElem_cons_zero, List.getElem_cons_succ, List.setIfInBounds_toArray, List.set_cons_zero, List.set_cons_succ]
    refine wpAnyH_done (by kernel_rfl) ?_ _
    refine AtEnd.fin ?_
    gi_wp2
    have hm9 := HM7.out.trans ((Mild.of_below (Below.refl _ _).drew (by have := (HW.out.trans HM7.out.below).size; omega)).trans HM9.out)
    have hla9 := HLA9.out
    rw [HBB.out, HX0E.out, ← bytesP_append] at hla9
    obtain ⟨h1, h2⟩ := HMI.out _ hla9 (hm9.keep _ _ HBX.out (fun cs t fr e => by cases e; unfold Turning; decide)) (HW.out.trans hm9.below) hm9
    exact ⟨hm9.keepsOthers, h2, h1⟩
  case done =>
    rintro D' ys W hD rfl ⟨_, hla, hbx, hbw⟩ hK'
    rw [List.length_range, ← HN.out, take_blocks] at hla
    have hc1 := cell_of_one hbx
    have HLA := Lib.hid hla
    have HBW2 := Lib.hid hbw
    clear hla hbx hbw
    gi_wp2
    refine ⟨by simp, .inl ⟨_, _, rfl, run_takeDeferred hK', ?_⟩⟩
    refine ⟨_, results_tmp2 rfl _ _ _, ?_⟩
    have hD2 : w.heap.size ≤ D' := by have := HZ3.out; have := HBW.out; omega
    exact ⟨B, rfl, Firm.lat 0 _ _ _ _ W D' _ _ (Nat.zero_le _) hK' rfl HLA.out, Firm.belowW (N := w.heap.size) (Nat.le_refl _) W D' _ _ hD2 hK' rfl HBW2.out⟩
end Go.Proofs.Ytfhjnblcnkjooaa
