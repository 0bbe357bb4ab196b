/- Texts laid together: Phrase12, IdxRune12, StopP12, AnyStop12, Word12, Defer12, Step12. -/
import Derived.Test.YtolfkhflbjnakaaGreatDoorNAQ13
import Derived.BigCall
import Derived.Test.YtolfkhflbjnakaaGreatDoorNAQ01
import Derived.Test.YtolfkhflbjnakaaGreatDoorNAQ05
import Derived.Shelf.Small.Strs
import Derived.WalkMore
import Derived.Laws.Runes
import Derived.Lib.OthersKept
import Derived.Test.YtolfkhflbjnakaaGreatDoorNAQ06
import Derived.Lib.IndexAny
import Derived.Deep.LoopGhost
import Derived.Laws.Strings3
import Derived.Defers

/- strings.SplitN at a blank, in plain words; phrase of a text that is read. -/
namespace Go.Proofs.YtolfkhflbjnakaaGreatDoor
open Go Go.RowKit Go.Shelf
set_option linter.unusedVariables false

theorem splitK_is : ∀ (k : Nat) (s : Nm), Lib.splitK [32] 0 k s = splitW k s
  | 0, _ => rfl
  | k + 1, s => by
    have h := index_cut 32 s
    rw [Lib.splitK, splitW]
    cases hc : cutB 32 s with
    | none => rw [hc] at h; simp [h]
    | some y =>
      obtain ⟨a, b⟩ := y
      rw [hc] at h
      simp only at h ⊢
      have : ((a.length : Int) == -1) = false := by rw [beq_eq_false_iff_ne]; omega
      rw [h, this, if_neg (by decide), splitK_is k]
      have hs := (cutB_some hc).1
      rw [hs]
      simp
theorem splitW_enough : ∀ (n m : Nat) (s : Nm), s.length ≤ n → s.length ≤ m → splitW n s = splitW m s
  | 0, 0, s, _, _ => rfl
  | 0, m + 1, s, h, _ => by
    obtain rfl : s = [] := List.eq_nil_of_length_eq_zero (by omega)
    rfl
  | n + 1, 0, s, _, h => by
    obtain rfl : s = [] := List.eq_nil_of_length_eq_zero (by omega)
    rfl
  | n + 1, m + 1, s, h1, h2 => by
    rw [splitW, splitW]
    cases hc : cutB 32 s with
    | none => rfl
    | some y =>
      obtain ⟨a, b⟩ := y
      have := congrArg List.length (cutB_some hc).1
      simp only [List.length_append, List.length_cons] at this
      simp only
      rw [splitW_enough n m b (by omega) (by omega)]
theorem splitW_min (s : Nm) : splitW (min 7 (s.length + 1) - 1) s = splitW 6 s := by
  by_cases h : 6 ≤ s.length
  · rw [show min 7 (s.length + 1) - 1 = 6 by omega]
  · exact splitW_enough _ _ s (by omega) (by omega)
def GaveSplit (ws : List Nm) (w : World) (e : Ending) (w' : World) : Prop := ∃ c, e = .returned (.slice (some ⟨w.heap.size, 0, none⟩) ws.length c) ∧ ws.length ≤ c ∧ RowP (fun b => b = w.heap.size) w' (some ⟨w.heap.size, 0, none⟩) (strs ws) ∧ w.heap.size < w'.heap.size ∧ Below w.heap.size w w'
theorem str_split (s : ByteArray) (w : World) (hs : s.size < 4294967281) (hg : Glob w) :
    Calls Tryz.prog 112 #[.string s, .string ⟨#[32]⟩, .int .i64 7] w (GaveSplit (splitW 6 s.data.toList) w) := by
  obtain ⟨m, hm⟩ := hg.m
  refine (Any.strings_SplitN laySplitN (by kernel_rfl) s ⟨#[32]⟩ 7 m w hs hm (by decide) (by decide) (by decide)).mono fun e w' ⟨he, hw⟩ => ?_
  obtain ⟨L, hL⟩ : ∃ L, L = Lib.splitB ⟨#[32]⟩ 0 (min 7 (s.size + 1) - 1) s := ⟨_, rfl⟩
  have hsz : s.data.toList.length = s.size := Array.length_toList
  have h1 : L.map (·.data.toList) = splitW 6 s.data.toList := by
    rw [hL, Lib.splitB_data, show (⟨#[32]⟩ : ByteArray).data.toList = [32] from rfl, splitK_is, ← hsz, splitW_min]
  have h2 : L.length ≤ min 7 (s.size + 1) := by
    rw [hL]
    have := Lib.splitB_length_le ⟨#[32]⟩ 0 (min 7 (s.size + 1) - 1) s
    omega
  have h3 : (splitW 6 s.data.toList).length = L.length := by rw [← h1, List.length_map]
  rw [← hL] at he hw
  refine ⟨_, by rw [h3]; exact he, by rw [h3]; exact h2, .inr ⟨w.heap.size, 0, rfl, rfl, fun j u hu => ?_⟩, by rw [hw]; simp, by rw [hw]; exact (Below.refl _ _).alloc (Nat.le_refl _) _⟩
  obtain ⟨y, hy, rfl⟩ : ∃ y, L[j]? = some y ∧ u = .string y := by
    rw [← h1, strs, List.map_map, List.getElem?_map] at hu
    cases hy : L[j]? with
    | none => rw [hy] at hu; cases hu
    | some y =>
      rw [hy] at hu
      simp only [Option.map_some, Option.some.injEq, Function.comp] at hu
      subst hu
      exact ⟨y, rfl, rfl⟩
  have hlt : j < L.length := (List.getElem?_eq_some_iff.1 hy).1
  rw [hw, Nat.zero_add, cell_of_row _ _ _ _ _ _ (heap_alloc_new w _)]
  unfold Lib.cellsOf
  rw [List.getElem?_toArray, List.getElem?_append_left (by simpa using hlt), List.getElem?_map, hy]
  rfl
/-- What reading a query tells: it, and what is left; or that there is none. -/
def GaveRd (res : Option (Qy × Nm)) (R : Nat) (d : Int) (w : World) (e : Ending) (w' : World) : Prop := ∃ k f x A n c K m dd b s', e = .returned (.tuple #[qV k f x A n c K m dd, .bool b]) ∧ RdAt w' R s' d ∧ OnlyR R w w' ∧
  (match res with | none => b = false | some (q, r) => b = true ∧ s' = r ∧ QV (fun i => w.heap.size ≤ i ∧ i < w'.heap.size) w' q (qV k f x A n c K m dd))
abbrev zeroQ : Value := qV 0 ⟨#[]⟩ ⟨#[]⟩ none 0 0 none 0 0
theorem OnlyR.alloc {R : Nat} {w w' : World} (h : OnlyR R w w') (o : Obj) : OnlyR R w (w'.alloc o) := h.trans (.of_below ((Below.refl _ _).alloc (Nat.le_refl _) _))
theorem OnlyR.back {R : Nat} {w w' : World} {o : Obj} (h : OnlyR R (w.alloc o) w') (hR : R < w.heap.size) : OnlyR R w w' := OnlyIn.trans (.of_below ((Below.refl _ _).alloc (Nat.le_refl _) _)) h
set_option maxHeartbeats 2000000 in
set_option maxRecDepth 100000 in
theorem query_phrase (R : Nat) (s : Nm) (d : Int) (x : ByteArray) (w : World) (h : RdAt w R s d) (hg : Glob w) (hR : 2 ≤ R) (hs : s.length < 4294967281) :
    Calls Tryz.prog 80 #[.pointer (some ⟨R, 0, none⟩), .string x] w (GaveRd (phraseR x.data.toList s) R d w) := by
  have hRl := h.lt
  obtain ⟨w1, hw1⟩ : ∃ w1, w1 = w.alloc (.cells #[.int .i64 0, .string ⟨#[]⟩, .string ⟨#[]⟩, .slice none 0 0, .slice none 0 0] 27) := ⟨_, rfl⟩
  have hb1 : Below w.heap.size w w1 := by rw [hw1]; exact (Below.refl _ _).alloc (Nat.le_refl _) _
  have hs1 : w1.heap.size = w.heap.size + 1 := by rw [hw1]; simp
  have hres : w1.heap[w.heap.size]? = some (.cells #[.int .i64 0, .string ⟨#[]⟩, .string ⟨#[]⟩, .slice none 0 0, .slice none 0 0] 27 (0, 0)) := by rw [hw1]; exact heap_alloc_new w _
  have hU := query_upto 34 R s d w1 (h.below hb1) (hg.below hb1 hg.size) hs
  have hRES : ∀ wr, OnlyR R w1 wr → wr.heap[w.heap.size]? = some (.cells #[.int .i64 0, .string ⟨#[]⟩, .string ⟨#[]⟩, .slice none 0 0, .slice none 0 0] 27 (0, 0)) := fun wr hr => (hr.block w.heap.size (by omega) (by omega)).trans hres
  have hph : phraseR x.data.toList s = if (cutV 34 s).2.2 = true then some (.mk 5 (x.data.toList, []) (splitW 6 (cutV 34 s).1) [], uptoL 34 s) else none := by
    unfold phraseR uptoL cutV
    cases hc : cutB 34 s with
    | none => rfl
    | some y => rfl
  have hal := (cutV_length 34 s).1
  obtain ⟨a, ha⟩ : ∃ a : ByteArray, a = ⟨(cutV 34 s).1.toArray⟩ := ⟨_, rfl⟩
  have hat : a.data.toList = (cutV 34 s).1 := by rw [ha]
  have hasz : a.size < 4294967281 := by rw [ha, size_nm]; omega
  obtain ⟨b, hb⟩ : ∃ b, b = (cutV 34 s).2.2 := ⟨_, rfl⟩
  rw [← ha, ← hb] at hU
  rw [← hb, ← hat] at hph
  obtain ⟨res, hres0⟩ : ∃ res, res = phraseR x.data.toList s := ⟨_, rfl⟩
  rw [← hres0]
  rw [← hres0] at hph
  have HU := Lib.hid hU
  have HRES := Lib.hid hRES
  have HPH := Lib.hid hph
  have HW1 := Lib.hid hw1
  have HB1 := Lib.hid hb1
  have HS1 := Lib.hid hs1
  have HG1 := Lib.hid (hg.below hb1 hg.size)
  clear hU hRES hph hw1 hb1 hs1 hres ha hat hb hres0 h hg hal hs
  cases b with
  | false =>
    have hnone : res = none := by rw [HPH.out, if_neg (by decide)]
    subst hnone
    have HFIN : Hid (∀ w2, RdAt w2 R (uptoL 34 s) d → OnlyR R w1 w2 → (∀ y0 y1 y2 y3 y4, GaveRd none R d w (.returned (.tuple #[zeroQ, .bool false])) (set5 w2 w.heap.size y0 y1 y2 y3 y4)) ∧ w2.heap[w.heap.size]? = some (.cells #[.int .i64 0, .string ⟨#[]⟩, .string ⟨#[]⟩, .slice none 0 0, .slice none 0 0] 27 (0, 0))) := Lib.hid fun w2 h2 h3 => ⟨fun y0 y1 y2 y3 y4 => by
        refine ⟨_, _, _, _, _, _, _, _, _, _, uptoL 34 s, rfl, ?_, ?_, rfl⟩
        · unfold RdAt; rw [set5_ne (by omega)]; exact h2
        · have h4 := (OnlyIn.of_below (S := fun k => k = R) HB1.out).trans h3
          exact ⟨h4.os, h4.tape, h4.output, by rw [set5_size]; exact h4.size, fun k hk hkR => by rw [set5_ne (by omega)]; exact h4.block k hk hkR⟩, HRES.out _ h3⟩
    go_enter Tryz.func80, Tryz.ntmps80
    go_wp2_with (go_at_call 79; rw [show w.alloc _ = w1 from HW1.out.symm]; (with_reducible refine HU.out.mono ?_); rintro e w2 ⟨rfl, hr2, ho2⟩; obtain ⟨hf2, hc2⟩ := HFIN.out w2 hr2 ho2; obtain ⟨⟨s0, s1, s2, s3, s4⟩, g0, g1, g2, g3, g4⟩ := five_cells hc2; have HF2 := Lib.hid hf2; have HC2 := Lib.hid hc2; clear hr2 ho2 hf2 hc2)
    obtain ⟨⟨t0, t1, t2, t3, t4⟩, -⟩ := five_cells (set5_at (y0 := .int .i64 0) (y1 := .string ⟨#[]⟩) (y2 := .string ⟨#[]⟩) (y3 := .slice none 0 0) (y4 := .slice none 0 0) HC2.out)
    have hfin := HF2.out (.int .i64 0) (.string ⟨#[]⟩) (.string ⟨#[]⟩) (.slice none 0 0) (.slice none 0 0)
    unfold set5 at t0 t1 t2 t3 t4 hfin
    exact bodyPost_ret (v := .tuple #[zeroQ, .bool false]) (by simp [results, Tryz.results80, go_sem, t0, t1, t2, t3, t4]) rfl hfin
  | true =>
    have hsome : res = some (.mk 5 (x.data.toList, []) (splitW 6 a.data.toList) [], uptoL 34 s) := by rw [HPH.out, if_pos rfl]
    subst hsome
    obtain ⟨ws, hws⟩ : ∃ ws, ws = splitW 6 a.data.toList := ⟨_, rfl⟩
    rw [← hws]
    have HSP : Hid (∀ w2, OnlyR R w1 w2 → Calls Tryz.prog 112 #[.string a, .string ⟨#[32]⟩, .int .i64 7] w2 (GaveSplit ws w2)) := Lib.hid fun w2 h => by rw [hws]; exact str_split a w2 hasz (HG1.out.only h hR)
    have HFIN : Hid (∀ w2 w3 c, RdAt w2 R (uptoL 34 s) d → OnlyR R w1 w2 → ws.length ≤ c → RowP (fun b => b = w2.heap.size) w3 (some ⟨w2.heap.size, 0, none⟩) (strs ws) → w2.heap.size < w3.heap.size → Below w2.heap.size w2 w3 →
        GaveRd (some (.mk 5 (x.data.toList, []) ws [], uptoL 34 s)) R d w (.returned (.tuple #[qV 5 x ⟨#[]⟩ (some ⟨w2.heap.size, 0, none⟩) ws.length c none 0 0, .bool true])) (set5 w3 w.heap.size (.int .i64 5) (.string x) (.string ⟨#[]⟩) (.slice (some ⟨w2.heap.size, 0, none⟩) ws.length c) (.slice none 0 0)) ∧
        w3.heap[w.heap.size]? = some (.cells #[.int .i64 0, .string ⟨#[]⟩, .string ⟨#[]⟩, .slice none 0 0, .slice none 0 0] 27 (0, 0))) := Lib.hid fun w2 w3 c h2 h3 hc hrow hlt hb => by
      have hsz2 : w.heap.size < w2.heap.size := by have := h3.size; have := HS1.out; omega
      refine ⟨⟨_, _, _, _, _, _, _, _, _, _, uptoL 34 s, rfl, ?_, ?_, rfl, rfl, ?_⟩, (hb.block _ hsz2).trans (HRES.out _ h3)⟩
      · unfold RdAt
        rw [set5_ne (by omega)]
        exact h2.below hb
      · have h4 := ((OnlyIn.of_below (S := fun k => k = R) HB1.out).trans h3).trans (.of_below hb)
        exact ⟨h4.os, h4.tape, h4.output, by rw [set5_size]; exact h4.size, fun k hk hkR => by rw [set5_ne (by omega)]; exact h4.block k hk hkR⟩
      · exact QV.mk (ds := []) rfl rfl rfl rfl hc (Nat.le_refl _) ((hrow.keep fun b hb' => set5_ne (by omega)).imp fun b hb' => ⟨by omega, by rw [set5_size]; omega⟩) (.inl rfl) QsAt.nil
    clear hws
    go_enter Tryz.func80, Tryz.ntmps80
    go_wp2_with (go_at_call 79; rw [show w.alloc _ = w1 from HW1.out.symm]; (with_reducible refine HU.out.mono ?_); rintro e w2 ⟨rfl, hr2, ho2⟩; have HR2 := Lib.hid hr2; have HO2 := Lib.hid ho2; clear hr2 ho2)
    go_wp2_with (go_at_call 112; (with_reducible refine (HSP.out _ HO2.out).mono ?_); rintro e w3 ⟨c, rfl, hc, hrow, hlt, hb⟩; obtain ⟨hf3, hc3⟩ := HFIN.out w2 w3 c HR2.out HO2.out hc hrow hlt hb; obtain ⟨⟨s0, s1, s2, s3, s4⟩, g0, g1, g2, g3, g4⟩ := five_cells hc3; have HF3 := Lib.hid hf3; have HC3 := Lib.hid hc3; clear hf3 hc3 hc hrow hlt hb)
    obtain ⟨⟨t0, t1, t2, t3, t4⟩, -⟩ := five_cells (set5_at (y0 := .int .i64 5) (y1 := .string x) (y2 := .string ⟨#[]⟩) (y3 := .slice (some ⟨w2.heap.size, 0, none⟩) ws.length c) (y4 := .slice none 0 0) HC3.out)
    have hfin := HF3.out
    unfold set5 at t0 t1 t2 t3 t4 hfin
    exact bodyPost_ret (v := .tuple #[qV 5 x ⟨#[]⟩ (some ⟨w2.heap.size, 0, none⟩) ws.length c none 0 0, .bool true]) (by simp [results, Tryz.results80, go_sem, t0, t1, t2, t3, t4]) rfl hfin
end Go.Proofs.YtolfkhflbjnakaaGreatDoor

/- strings.IndexRune of a sign from 128 on, in a blank and a bracket: there is none. -/
namespace Go.Proofs.YtolfkhflbjnakaaGreatDoor
open Go Go.RowKit Go.Shelf
set_option linter.unusedVariables false

theorem valid_rune (r : Int) (w : World) : Calls Tryz.prog 169 #[.int .i32 r] w fun e w' => e = .returned (.bool (Lib.validRune r)) ∧ w' = w := Any.utf8_ValidRune layValidRune r w
theorem idx_byte (s : ByteArray) (c : Int) (w : World) : Calls Tryz.prog 168 #[.string s, .int .u8 c] w fun e w' => e = .returned (.int .i64 (Lib.indexByte s.data.toList c.toNat.toUInt8)) ∧ w' = w :=
  Any.strings_IndexByte (ρ := layIndexRune_ren) { layIndexRune with } s c w
set_option maxHeartbeats 2000000 in
set_option maxRecDepth 100000 in
theorem rune_high (r : Int) (w : World) (h0 : 128 ≤ r) (h1 : r ≤ 1114111) (hv : Lib.validRune r = true) :
    Calls Tryz.prog 146 #[.string ⟨#[32, 41]⟩, .int .i32 r] w fun e w' => e = .returned (.int .i64 (-1)) ∧ Below w.heap.size w w' := by
  have d0 : decide (r < 128) = false := decide_eq_false (by omega)
  have d1 : decide (0 ≤ r) = true := decide_eq_true (by omega)
  by_cases he : r = 65533
  · subst he
    go_enter Tryz.func146, Tryz.ntmps146
    go_wp2
    go_loopw [5] (fun _ wr => ∃ pos : Nat, pos ≤ 2 ∧ wr.heap[w.heap.size]? = some (.stringIter ⟨#[32, 41]⟩ pos) ∧ Below w.heap.size w wr) (fun _ wr => 2 - wr.iterPos w.heap.size)
    case atStart => exact ⟨0, Nat.zero_le _, heap_alloc_new w _, (Below.refl _ w).alloc (Nat.le_refl _) _⟩
    case round =>
      obtain ⟨pos, hpos, hit, hbw⟩ := hrel
      have hlt : w.heap.size < wr.heap.size := (Array.getElem?_eq_some_iff.1 hit).1
      by_cases hp : pos < 2
      · have hnx : ∀ ty, (Instr.next (.pointer (some ⟨w.heap.size, 0, none⟩)) true ty).run Tryz.prog wr = .ok (.tuple #[.bool true, .int .i64 pos, .int .i32 (if pos = 0 then 32 else 41)]) (wr.iterAt w.heap.size ⟨#[32, 41]⟩ (pos + 1)) := fun ty => by
          have : pos = 0 ∨ pos = 1 := by omega
          rcases this with rfl | rfl
          · exact Lib.run_next_ascii_at wr w.heap.size ⟨#[32, 41]⟩ 0 ty hit (by decide) (by decide)
          · exact Lib.run_next_ascii_at wr w.heap.size ⟨#[32, 41]⟩ 1 ty hit (by decide) (by decide)
        have hit2 := Lib.iterAt_heap wr w.heap.size ⟨#[32, 41]⟩ pos (pos + 1) hit
        have hbw2 := Lib.below_iterAt hbw (k := w.heap.size) (by omega) ⟨#[32, 41]⟩ (pos + 1)
        obtain ⟨c, hc⟩ : ∃ c : Int, (if pos = 0 then 32 else 41) = c := ⟨_, rfl⟩
        rw [hc] at hnx
        have hc2 : c = 32 ∨ c = 41 := by rw [← hc]; split <;> simp
        clear hc
        have HIT := Lib.hid hit
        clear hit
        go_wp2
        case roundEnd =>
          go_roundw
          case rel => exact ⟨pos + 1, by omega, hit2, hbw2⟩
          case measure =>
            simp only [World.iterPos, hit2, HIT.out]
            omega
      · have hnx : ∀ ty, (Instr.next (.pointer (some ⟨w.heap.size, 0, none⟩)) true ty).run Tryz.prog wr = .ok (.tuple #[.bool false]) wr := fun ty => Lib.run_next_end_at wr w.heap.size ⟨#[32, 41]⟩ pos ty hit (by intro h; exact hp h)
        go_wp2
        go_ret
        exact ⟨rfl, hbw⟩
  · have e1 : (r == 65533) = false := by rw [beq_eq_false_iff_ne]; exact he
    have HV : Hid (∀ w, Calls Tryz.prog 169 #[.int .i32 r] w fun e w' => e = .returned (.bool true) ∧ w' = w) := Lib.hid fun w => by rw [← hv]; exact valid_rune r w
    have HVR := Lib.hid hv
    clear he hv
    go_enter Tryz.func146, Tryz.ntmps146
    go_wp2_with (go_at_call 169; (with_reducible refine (HV.out _).mono ?_); rintro e w2 ⟨rfl, rfl⟩)
    obtain ⟨f1, f2, f3⟩ := encode_facts r (by rw [validRune_eq]; exact HVR.out) h0
    obtain ⟨t, ht⟩ : ∃ t, Utf8.encode r = t := ⟨_, rfl⟩
    rw [ht] at f1 f2 f3
    have hcv : ∀ w : World, (Go.convert 21 9 (.int .i32 r)).run Tryz.prog w = .ok (.string t) w := fun w => by
      rw [run_convert_int_string w _ _ _ _ (by rw [Tryz.underlying21]; rfl) Tryz.underlying9, ht]
    obtain ⟨m, hm⟩ : ∃ m : Int, (t.size : Int) - 1 = m := ⟨_, rfl⟩
    have e2 : IntKind.i64.wrap ((t.size : Int) - 1) = m := by rw [wrap_small _ (by omega) (by omega)]; exact hm
    go_wp2
    go_step3
    go_wp2
    try rw [e2]
    try rw [hm]
    go_loopw [9] (fun v wr => v = .int .i64 m ∧ wr = w2) (fun _ _ => 0)
    case atStart => exact ⟨rfl, rfl⟩
    case round =>
      obtain ⟨rfl, rfl⟩ := hrel
      by_cases h1m : m = 1
      · have hs2 : t.size = 2 := by omega
        obtain ⟨b, hb⟩ : ∃ b : Int, ((t[1]'(by omega)).toNat : Int) = b := ⟨_, rfl⟩
        have hb2 : 128 ≤ b := by
          rw [← hb]
          have := f3 (by omega)
          simp only [hs2] at this
          exact Int.ofNat_le.2 this
        subst h1m
        have hx1 : ∀ w : World, (Instr.index 9 (.string ⟨#[32, 41]⟩) (.int .i64 1)).run Tryz.prog w = .ok (.int .u8 41) w := fun w => by
          rw [run_index_string _ _ _ _ _ Tryz.underlying9, dif_pos (by decide)]
          rfl
        have hx2 : ∀ w : World, (Instr.index 9 (.string t) (.int .i64 1)).run Tryz.prog w = .ok (.int .u8 b) w := fun w => by
          rw [run_index_string _ _ _ _ _ Tryz.underlying9, dif_pos (by omega), ← hb]
          rfl
        have hne : ((41 : Int) == b) = false := by rw [beq_eq_false_iff_ne]; omega
        have hne2 : ((41 : Int) != b) = true := by rw [bne_iff_ne]; omega
        clear f3
        go_wp2
        go_step3
        go_wp2
        go_region
        go_wp2
        go_region_with (go_at_call 168; refine (idx_byte _ _ _).mono ?_; rintro e w' ⟨rfl, rfl⟩)
        all_goals
          go_wp2
          rw [Exit.noGoto_ret]
          simp +zetaDelta only [Exit.inBlock, Exit.noGoto_ret, Exit.then]
          go_ret
          exact ⟨rfl, ⟨rfl, rfl, rfl, Nat.le_refl _, fun _ _ => rfl⟩⟩
      · have hbig : decide (m < 2) = false := decide_eq_false (by omega)
        go_wp2
        rw [Exit.noGoto_ret]
        go_ret
        exact ⟨rfl, Below.refl _ _⟩
end Go.Proofs.YtolfkhflbjnakaaGreatDoor

/- Where a word ends: the first byte that is a blank or a bracket, found sign by sign. Plain; no program. -/
set_option linter.unusedVariables false
namespace Go.Proofs.YtolfkhflbjnakaaGreatDoor
open Go

theorem cont_high {l : List UInt8} {k : Nat} (h : (decide (k < l.length) && (l.getD k 0).toNat / 64 == 2) = true) : k < l.length ∧ 128 ≤ (l.getD k 0).toNat := by
  rw [Bool.and_eq_true, decide_eq_true_iff, beq_iff_eq] at h
  exact ⟨h.1, by omega⟩
/-- A sign that begins with a byte from 128 on is 128 or more, and so are all its bytes. -/
theorem dec_high {l : List UInt8} (hl : l ≠ []) (h : 128 ≤ (l.getD 0 0).toNat) : 128 ≤ (dec l).1 ∧ ∀ k, k < (dec l).2 → 128 ≤ (l.getD k 0).toNat := by
  have one : ∀ k, k < 1 → 128 ≤ (l.getD k 0).toNat := fun k hk => by
    obtain rfl : k = 0 := by omega
    exact h
  unfold dec
  simp only []
  split
  · omega
  · split
    · rename_i hc
      rw [Bool.and_eq_true] at hc
      have c1 := cont_high hc.2
      split
      · refine ⟨by omega, fun k hk => ?_⟩
        have : k = 0 ∨ k = 1 := by omega
        rcases this with rfl | rfl
        · exact h
        · exact c1.2
      · exact ⟨by omega, one⟩
    · split
      · rename_i hc
        rw [Bool.and_eq_true, Bool.and_eq_true] at hc
        have c1 := cont_high hc.1.2
        have c2 := cont_high hc.2
        split
        · rename_i hv
          rw [Bool.and_eq_true, decide_eq_true_iff] at hv
          refine ⟨by omega, fun k hk => ?_⟩
          have : k = 0 ∨ k = 1 ∨ k = 2 := by omega
          rcases this with rfl | rfl | rfl
          · exact h
          · exact c1.2
          · exact c2.2
        · exact ⟨by omega, one⟩
      · split
        · rename_i hc
          rw [Bool.and_eq_true, Bool.and_eq_true, Bool.and_eq_true] at hc
          have c1 := cont_high hc.1.1.2
          have c2 := cont_high hc.1.2
          have c3 := cont_high hc.2
          split
          · rename_i hv
            rw [Bool.and_eq_true, decide_eq_true_iff] at hv
            refine ⟨by omega, fun k hk => ?_⟩
            have : k = 0 ∨ k = 1 ∨ k = 2 ∨ k = 3 := by omega
            rcases this with rfl | rfl | rfl | rfl
            · exact h
            · exact c1.2
            · exact c2.2
            · exact c3.2
          · exact ⟨by omega, one⟩
        · exact ⟨by omega, one⟩
theorem stopC_lt {b : UInt8} (h : stopC b = true) : b.toNat = 32 ∨ b.toNat = 41 := by
  unfold stopC at h
  rw [Bool.or_eq_true, beq_iff_eq, beq_iff_eq] at h
  rcases h with rfl | rfl
  · exact .inl rfl
  · exact .inr rfl
theorem stopC_of {b : UInt8} (h : b.toNat = 32 ∨ b.toNat = 41) : stopC b = true := by
  unfold stopC
  rw [Bool.or_eq_true, beq_iff_eq, beq_iff_eq]
  rcases h with h | h
  · exact .inl (UInt8.toNat_inj.1 h)
  · exact .inr (UInt8.toNat_inj.1 h)
/-- Where the first byte is that ends a word; -1, if there is none. -/
def stopI (s : List UInt8) : Int := if (wordR s).2 = [] then -1 else (wordR s).1.length
theorem indexAny_stop : ∀ s : List UInt8, Lib.indexAny s [32, 41] = stopI s
  | [] => rfl
  | b :: l => by
    have ih := indexAny_stop l
    unfold Lib.indexAny
    unfold stopI at ih ⊢
    rw [wordR]
    by_cases h : stopC b = true
    · have hc : ([32, 41] : List UInt8).contains b = true := by
        rcases stopC_lt h with h | h
        · rw [UInt8.toNat_inj.1 (show b.toNat = (32 : UInt8).toNat from h)]; rfl
        · rw [UInt8.toNat_inj.1 (show b.toNat = (41 : UInt8).toNat from h)]; rfl
      rw [if_pos hc, if_pos h]
      simp
    · have hc : ([32, 41] : List UInt8).contains b = false := by
        rw [← Bool.not_eq_true]
        intro hh
        refine h (stopC_of ?_)
        simp at hh
        rcases hh with rfl | rfl
        · exact .inl rfl
        · exact .inr rfl
      rw [hc, if_neg (by decide), if_neg h, ih]
      by_cases h2 : (wordR l).2 = []
      · simp [h2]
      · simp only [if_neg h2]
        have : (((wordR l).1.length : Int) == -1) = false := by rw [beq_eq_false_iff_ne]; omega
        rw [this]
        simp
theorem wordR_skip : ∀ {a b : List UInt8}, (∀ c ∈ a, stopC c = false) → wordR (a ++ b) = (a ++ (wordR b).1, (wordR b).2)
  | [], b, _ => by simp
  | x :: a, b, h => by
    rw [List.cons_append, wordR, if_neg (by rw [h x (by simp)]; decide), wordR_skip fun c hc => h c (List.mem_cons_of_mem _ hc)]
    rfl
/-- Sign by sign: what stands at place p ends a word, or the next sign is looked at. -/
theorem stop_next {s : List UInt8} {p : Nat} (hp : p < s.length) : (((dec (s.drop p)).1 = 32 ∨ (dec (s.drop p)).1 = 41) → stopI (s.drop p) = 0) ∧
    (¬ ((dec (s.drop p)).1 = 32 ∨ (dec (s.drop p)).1 = 41) → stopI (s.drop p) = if stopI (s.drop (p + (dec (s.drop p)).2)) = -1 then -1 else (dec (s.drop p)).2 + stopI (s.drop (p + (dec (s.drop p)).2))) := by
  have hne : s.drop p ≠ [] := fun h => by have := congrArg List.length h; rw [List.length_drop] at this; simp at this; omega
  have hw := dec_width _ hne
  obtain ⟨b, t, hbt⟩ : ∃ b t, s.drop p = b :: t := by
    cases h : s.drop p with
    | nil => exact absurd h hne
    | cons b t => exact ⟨b, t, rfl⟩
  have hlow : b.toNat < 128 → dec (s.drop p) = (b.toNat, 1) := fun h => by rw [hbt]; exact dec_one b t h
  have hhigh : 128 ≤ b.toNat → 128 ≤ (dec (s.drop p)).1 ∧ ∀ k, k < (dec (s.drop p)).2 → 128 ≤ ((s.drop p).getD k 0).toNat := fun h => dec_high hne (by rw [hbt]; exact h)
  constructor
  · intro h
    by_cases hb : b.toNat < 128
    · rw [hlow hb] at h
      have := stopC_of h
      rw [hbt, stopI, wordR, if_pos this]
      simp
    · have := (hhigh (by omega)).1
      omega
  · intro h
    have hall : ∀ c ∈ (s.drop p).take (dec (s.drop p)).2, stopC c = false := fun c hc => by
      by_cases hb : b.toNat < 128
      · rw [hlow hb] at hc h
        rw [hbt] at hc
        simp at hc
        subst hc
        rw [← Bool.not_eq_true]
        exact fun e => h (stopC_lt e)
      · obtain ⟨k, hk, rfl⟩ := List.getElem_of_mem hc
        rw [List.length_take] at hk
        have := (hhigh (by omega)).2 k (by omega)
        rw [List.getElem_take]
        rw [List.getD_eq_getElem?_getD, List.getElem?_eq_getElem (by omega)] at this
        simp only [Option.getD_some] at this
        rw [← Bool.not_eq_true]
        intro e
        have := stopC_lt e
        omega
    have hsk := wordR_skip (b := s.drop (p + (dec (s.drop p)).2)) hall
    have hsp : (s.drop p).take (dec (s.drop p)).2 ++ s.drop (p + (dec (s.drop p)).2) = s.drop p := by
      rw [← List.drop_drop, List.take_append_drop]
    rw [hsp] at hsk
    unfold stopI
    rw [hsk]
    have hl : ((s.drop p).take (dec (s.drop p)).2).length = (dec (s.drop p)).2 := by rw [List.length_take]; omega
    by_cases h2 : (wordR (s.drop (p + (dec (s.drop p)).2))).2 = []
    · simp [h2]
    · simp only [if_neg h2, List.length_append, hl]
      rw [if_neg (by omega)]
      omega
end Go.Proofs.YtolfkhflbjnakaaGreatDoor

/- strings.IndexAny of any text, for a blank or a bracket: where the first byte is that ends a word. -/
namespace Go.Proofs.YtolfkhflbjnakaaGreatDoor
open Go Go.RowKit Go.Shelf
set_option linter.unusedVariables false

theorem stopI_ge (s : List UInt8) : -1 ≤ stopI s := by
  unfold stopI
  split <;> omega
theorem idx_two : ∀ n : Fin 128, Lib.indexByte [32, 41] n.val.toUInt8 = if n.val = 32 then 0 else if n.val = 41 then 1 else -1 := by decide
theorem rune_any (r : Int) (w : World) (hv : Utf8.valid r = true) :
    Calls Tryz.prog 146 #[.string ⟨#[32, 41]⟩, .int .i32 r] w fun e w' => e = .returned (.int .i64 (if r = 32 then 0 else if r = 41 then 1 else -1)) ∧ Below w.heap.size w w' := by
  have h := (valid_iff r).1 hv
  by_cases h1 : r < 128
  · refine (Any.strings_IndexRune_ascii (ρ := layIndexRune_ren) layIndexRune _ _ _ (by omega) h1).mono fun e w' ⟨he, hw⟩ => ⟨?_, by rw [hw]; exact Below.refl _ _⟩
    obtain ⟨n, rfl⟩ : ∃ n : Nat, r = n := ⟨r.toNat, by omega⟩
    rw [he]
    have := idx_two ⟨n, by omega⟩
    refine congrArg (fun x => Ending.returned (.int .i64 x)) ?_
    refine this.trans ?_
    simp only []
    by_cases h2 : n = 32
    · subst h2; rfl
    · by_cases h3 : n = 41
      · subst h3; rfl
      · rw [if_neg h2, if_neg h3, if_neg (by omega), if_neg (by omega)]
  · refine (rune_high r w (by omega) (by omega) ((validRune_eq r).symm.trans hv)).mono fun e w' ⟨he, hw⟩ => ⟨?_, hw⟩
    rw [he, if_neg (by omega), if_neg (by omega)]
set_option maxHeartbeats 2000000 in
set_option maxRecDepth 100000 in
theorem any_short (s : ByteArray) (w : World) (h8 : s.size ≤ 8) :
    Calls Tryz.prog 113 #[.string s, .string ⟨#[32, 41]⟩] w fun e w' => e = .returned (.int .i64 (stopI s.data.toList)) ∧ Below w.heap.size w w' := by
  have h8z : decide ((8 : Int) < (s.size : Int)) = false := decide_eq_false (by omega)
  go_enter Tryz.func113, Tryz.ntmps113
  go_wp2_with (go_at_call 147; refine (Any.strings_shouldUseASCIISet (ρ := layIndexAny_ren) { layIndexAny with } _ _).mono ?_; rintro e w5 ⟨rfl, hw5⟩; rw [h8z, hw5]; clear hw5)
  go_wp2
  go_loopw [9, 10] (fun _ _ wr => ∃ pos : Nat, pos ≤ s.size ∧ wr.heap[w.heap.size]? = some (.stringIter s pos) ∧ Below w.heap.size w wr ∧ stopI s.data.toList = if stopI (s.data.toList.drop pos) = -1 then -1 else pos + stopI (s.data.toList.drop pos)) (fun _ _ wr => s.size - wr.iterPos w.heap.size)
  case atStart =>
    refine ⟨0, Nat.zero_le _, heap_alloc_new w _, (Below.refl _ w).alloc (Nat.le_refl _) _, ?_⟩
    rw [List.drop_zero]
    split
    · assumption
    · simp
  case round =>
    obtain ⟨pos, hpos, hit, hbw, hlk⟩ := hrel
    have hlt : w.heap.size < wr.heap.size := (Array.getElem?_eq_some_iff.1 hit).1
    have hsl : s.data.toList.length = s.size := Array.length_toList
    by_cases hp : pos < s.size
    · have hnx : ∀ ty, (Instr.next (.pointer (some ⟨w.heap.size, 0, none⟩)) true ty).run Tryz.prog wr = _ := fun ty => Lib.run_next_any_at wr w.heap.size s pos ty hit hp
      have hst := stop_next (s := s.data.toList) (p := pos) (by omega)
      have hv := dec_valid (s.data.toList.drop pos)
      have hwd := dec_width (s.data.toList.drop pos) (fun h => by have := congrArg List.length h; rw [List.length_drop, List.length_nil] at this; omega)
      rw [← decode_dec] at hst hwd hv
      rw [List.length_drop, hsl] at hwd
      have hit2 := Lib.iterAt_heap wr w.heap.size s pos (pos + (Utf8.decode s pos).2) hit
      have hbw2 := Lib.below_iterAt hbw (k := w.heap.size) (by omega) s (pos + (Utf8.decode s pos).2)
      obtain ⟨c, d, hcd⟩ : ∃ c d, Utf8.decode s pos = (c, d) := ⟨_, _, rfl⟩
      rw [hcd] at hst hwd hv hit2 hbw2 hnx
      simp only [] at hst hwd hv hit2 hbw2 hnx
      have hr := fun w => rune_any (c : Int) w hv
      clear hcd hv
      have hsz2 : (wr.iterAt w.heap.size s (pos + d)).heap.size = wr.heap.size := Lib.iterAt_size _ _ _ _
      by_cases h32 : c = 32 ∨ c = 41
      · have hz := hst.1 h32
        rw [hz, if_neg (by decide)] at hlk
        have HLK := Lib.hid hlk
        obtain ⟨v, hv, hv0⟩ : ∃ v : Int, (if (c : Int) = 32 then 0 else if (c : Int) = 41 then 1 else -1 : Int) = v ∧ 0 ≤ v := by
          rcases h32 with rfl | rfl
          · exact ⟨0, rfl, by omega⟩
          · exact ⟨1, rfl, by omega⟩
        rw [hv] at hr
        have HR := Lib.hid hr
        have dv : decide (0 ≤ v) = true := decide_eq_true hv0
        clear hst hz hlk hv h32 hr hit hsl
        go_wp2_with (go_at_call 146; (with_reducible refine (HR.out _).mono ?_); rintro e w4 ⟨rfl, hb4⟩)
        go_ret
        exact ⟨by rw [HLK.out]; simp, hbw2.trans (hb4.mono (by omega))⟩
      · have hz := hst.2 h32
        have hlk2 : stopI s.data.toList = if stopI (s.data.toList.drop (pos + d)) = -1 then -1 else ((pos + d : Nat) : Int) + stopI (s.data.toList.drop (pos + d)) := by
          have hge := stopI_ge (s.data.toList.drop (pos + d))
          rw [hlk, hz]
          split <;> split <;> simp_all <;> omega
        have HLK := Lib.hid hlk2
        rw [if_neg (by omega), if_neg (by omega)] at hr
        have HR := Lib.hid hr
        have HIT := Lib.hid hit
        clear hst hz hlk hlk2 h32 hr hit hsl
        go_wp2_with (go_at_call 146; (with_reducible refine (HR.out _).mono ?_); rintro e w4 ⟨rfl, hb4⟩)
        go_roundw
        case rel => exact ⟨pos + d, by omega, (hb4.block w.heap.size (by omega)).trans hit2, hbw2.trans (hb4.mono (by omega)), HLK.out⟩
        case measure =>
          have hit4 := (hb4.block w.heap.size (by omega)).trans hit2
          simp only [World.iterPos, hit4, HIT.out]
          omega
    · have hnx : ∀ ty, (Instr.next (.pointer (some ⟨w.heap.size, 0, none⟩)) true ty).run Tryz.prog wr = _ := fun ty => Lib.run_next_end_at wr w.heap.size s pos ty hit hp
      rw [List.drop_eq_nil_of_le (by omega)] at hlk
      have HLK := Lib.hid (hlk.trans (show (if stopI [] = -1 then (-1 : Int) else (pos : Int) + stopI []) = -1 from rfl))
      clear hlk hit
      go_wp2
      go_ret
      exact ⟨by rw [HLK.out]; rfl, hbw⟩
theorem any_stop (s : ByteArray) (w : World) (hs : s.size < 4294967281) :
    Calls Tryz.prog 113 #[.string s, .string ⟨#[32, 41]⟩] w fun e w' => e = .returned (.int .i64 (stopI s.data.toList)) ∧ Below w.heap.size w w' := by
  by_cases h8 : s.size ≤ 8
  · exact any_short s w h8
  · have h116 : (Tryz.prog.info? (layIndexAny_ren.t 116)).map (fun i => (i.zero, i.size)) = some (some (.agg (Array.replicate 256 (.bool false))), 256) := by kernel_rfl
    refine (Any.strings_IndexAny_long (ρ := layIndexAny_ren) layIndexAny (zero_of_info h116).1 (zero_of_info h116).2 s ⟨#[32, 41]⟩ w (by decide) (by omega) hs (by decide) (fun j b hb => ?_)).mono fun e w' ⟨h1, h2⟩ => ⟨?_, ?_⟩
    · have : b ∈ ([32, 41] : List UInt8) := List.mem_of_getElem? hb
      simp at this
      rcases this with rfl | rfl <;> decide
    · rw [h1]
      exact congrArg (fun x => Ending.returned (.int .i64 x)) (indexAny_stop _)
    · rw [h2]
      exact ((Below.refl _ _).alloc (Nat.le_refl _) _).alloc (by simp) _
end Go.Proofs.YtolfkhflbjnakaaGreatDoor

/- A text that is read: a word, as far as it may go. -/
namespace Go.Proofs.YtolfkhflbjnakaaGreatDoor
open Go Go.RowKit Go.Shelf
set_option linter.unusedVariables false

theorem wordR_join : ∀ s : Nm, (wordR s).1 ++ (wordR s).2 = s
  | [] => rfl
  | b :: l => by
    rw [wordR]
    split
    · rfl
    · simp only [List.cons_append, wordR_join l]
theorem ext_nm (s : Nm) (a b : Nat) : (⟨s.toArray⟩ : ByteArray).extract a b = ⟨((s.drop a).take (b - a)).toArray⟩ := by
  have h : ((⟨s.toArray⟩ : ByteArray).extract a b).data = ((s.drop a).take (b - a)).toArray := by
    rw [ByteArray.data_extract]
    apply Array.toList_inj.1
    rw [Array.toList_extract]
  rw [← h]
set_option maxHeartbeats 1000000 in
set_option maxRecDepth 100000 in
theorem query_word (R : Nat) (s : Nm) (d : Int) (w : World) (h : RdAt w R s d) (hs : s.length < 4294967281) : Calls Tryz.prog 81 #[.pointer (some ⟨R, 0, none⟩)] w
    fun e w' => e = .returned (.string ⟨(wordR s).1.toArray⟩) ∧ RdAt w' R (wordR s).2 d ∧ OnlyR R w w' := by
  obtain ⟨c0, c1, f0, f1⟩ := two_cells h
  obtain ⟨x, hx⟩ : ∃ x : ByteArray, x = ⟨s.toArray⟩ := ⟨_, rfl⟩
  have hxs : x.data.toList = s := by rw [hx]
  have hxl : x.size = s.length := by rw [hx]; exact size_nm s
  have HP0 := any_stop x w (by omega)
  rw [hxs] at HP0
  rw [← hx] at c0
  have hj := wordR_join s
  obtain ⟨a, ha⟩ : ∃ a, a = (wordR s).1 := ⟨_, rfl⟩
  obtain ⟨r, hr⟩ : ∃ r, r = (wordR s).2 := ⟨_, rfl⟩
  obtain ⟨i, hi⟩ : ∃ i, i = stopI s := ⟨_, rfl⟩
  have hiv : i = if r = [] then -1 else (a.length : Int) := by rw [hi, hr, ha]; rfl
  rw [← ha, ← hr] at hj
  rw [← ha, ← hr]
  rw [← hi] at HP0
  have hlen : s.length = a.length + r.length := by rw [← hj, List.length_append]
  have hx1 : x.extract 0 a.length = ⟨a.toArray⟩ := by rw [hx, ext_nm, ← hj]; simp
  have hx2 : x.extract a.length x.size = ⟨r.toArray⟩ := by rw [hxl, hx, ext_nm, hlen, ← hj]; simp
  have hsl1 : ∀ w : World, (Instr.slice 9 (.string x) none (some (.int .i64 a.length)) none).run Tryz.prog w = .ok (.string ⟨a.toArray⟩) w := fun w => by
    rw [run_slice_string_to_if _ _ _ _ _ Tryz.underlying9, if_pos (by omega), Int.toNat_natCast, hx1]
  have hsl2 : ∀ w : World, (Instr.slice 9 (.string x) (some (.int .i64 a.length)) none none).run Tryz.prog w = .ok (.string ⟨r.toArray⟩) w := fun w => by
    rw [run_slice_string_from_if _ _ _ _ _ Tryz.underlying9, if_pos (by omega), Int.toNat_natCast, hx2]
  have H : Hid (∀ w2, Below w.heap.size w w2 → RdAt (w2.setCell ⟨R, 0, none⟩ (.string ⟨r.toArray⟩)) R r d ∧ w2.cell? ⟨R, 0, none⟩ = some (.string x) ∧ w2.frozen? ⟨R, 0, none⟩ = false) := Lib.hid fun w2 h2 => by
    have hw2 := h.below h2
    refine ⟨?_, ?_⟩
    · unfold RdAt; rw [set_at hw2]; rfl
    · obtain ⟨k0, _, k2, _⟩ := two_cells hw2
      obtain ⟨l0, _, _, _⟩ := two_cells h
      rw [k0, ← l0]
      exact ⟨c0, k2⟩
  have HP := Lib.hid HP0
  have HR := Lib.hid h
  by_cases hr0 : r = []
  · have hxa : x.size = a.length := by rw [hxl, hlen, hr0]; rfl
    rw [if_pos hr0] at hiv
    subst hiv
    clear hx hxs hxl hr ha hi HP0 h hs hx1 hx2 hlen hj hr0
    go_enter Tryz.func81, Tryz.ntmps81
    go_wp2_with (go_at_call 113; (with_reducible refine HP.out.mono ?_); rintro e w2 ⟨rfl, hb2⟩; have HB2 := Lib.hid hb2; clear hb2; obtain ⟨q0, q1, q2⟩ := H.out w2 HB2.out; have HQ := Lib.hid q0; clear q0)
    go_ret
    exact ⟨rfl, HQ.out, (OnlyIn.of_below HB2.out).trans (OnlyR.set _)⟩
  · rw [if_neg hr0] at hiv
    subst hiv
    clear hx hxs hxl hr ha hi HP0 h hs hx1 hx2 hlen hj hr0
    go_enter Tryz.func81, Tryz.ntmps81
    go_wp2_with (go_at_call 113; (with_reducible refine HP.out.mono ?_); rintro e w2 ⟨rfl, hb2⟩; have HB2 := Lib.hid hb2; clear hb2; obtain ⟨q0, q1, q2⟩ := H.out w2 HB2.out; have HQ := Lib.hid q0; clear q0)
    go_ret
    exact ⟨rfl, HQ.out, (OnlyIn.of_below HB2.out).trans (OnlyR.set _)⟩
end Go.Proofs.YtolfkhflbjnakaaGreatDoor

/- A text that is read: what is deferred; what stands too deep. -/
namespace Go.Proofs.YtolfkhflbjnakaaGreatDoor
open Go Go.RowKit Go.Shelf
set_option linter.unusedVariables false

set_option maxHeartbeats 1000000 in
set_option maxRecDepth 100000 in
theorem query_deferred (B R : Nat) (x : Int) (u : FrameMode) (w : World) (hb : w.cell? ⟨B, 0, none⟩ = some (.pointer (some ⟨R, 0, none⟩))) (hx : w.cell? ⟨R, 1, none⟩ = some (.int .i64 x)) (hf : w.frozen? ⟨R, 1, none⟩ = false) (h0 : 0 < x) (h1 : x < 100) :
    CallsD Tryz.prog 76 #[.pointer (some ⟨B, 0, none⟩)] u w fun e u' w' => u' = u ∧ (e = .returned (.tuple #[]) ∧ w' = w.setCell ⟨R, 1, none⟩ (.int .i64 (x - 1))) := by
  go_enter_d Tryz.func76, Tryz.ntmps76
  go_wp2
  go_end0
  exact ⟨rfl, rfl⟩
/-- Where a query's reading ends, ahead of what is deferred: what is answered lies in block w.heap.size + 1. -/
structure Door (R : Nat) (d : Int) (res : Option (Qy × Nm)) (w w3 : World) (b : Bool) : Prop where
  out : ∃ k f x A n c K m dd s', RdAt w3 R s' (d + 1) ∧ w3.heap[w.heap.size + 1]? = some (.cells #[.int .i64 k, .string f, .string x, .slice A n c, .slice K m dd] 27 (0, 0)) ∧
    (match res with | none => b = false | some (q, r) => b = true ∧ s' = r ∧ QV (fun i => w.heap.size ≤ i ∧ i < w3.heap.size) w3 q (qV k f x A n c K m dd))
  only : OnlyR R w w3
  box : w3.heap[w.heap.size]? = some (.cells #[.pointer (some ⟨R, 0, none⟩)] 96 (0, 0))
theorem set_R {w : World} {R : Nat} {s : Nm} {d e : Int} (h : RdAt w R s d) : RdAt (w.setCell ⟨R, 1, none⟩ (.int .i64 e)) R s e := by
  unfold RdAt; rw [set_at h]; rfl
set_option maxHeartbeats 2000000 in
set_option maxRecDepth 100000 in
theorem door_end {R : Nat} {d : Int} {res : Option (Qy × Nm)} {w w3 : World} {b : Bool} (h : Door R d res w w3 b) (hR : R < w.heap.size) (h0 : 0 ≤ d) (h1 : d < 10) (T : Array Value) (h2 : T[2]? = some (.pointer (some ⟨w.heap.size + 1, 0, none⟩))) (h3 : T[3]? = some (.bool b)) :
    bodyPostD Tryz.prog Tryz.f38 (GaveRd res R d w) Exit.ret { tmps := T, defers := [{ target := .fn (.func 76) #[.pointer (some ⟨w.heap.size, 0, none⟩)], args := #[] }] } w3 := by
  obtain ⟨k, f, x, A, n, c, K, m, dd, s', hr, hq, hm⟩ := h.out
  obtain ⟨-, c1, -, f1⟩ := two_cells hr
  have hbx : w3.cell? ⟨w.heap.size, 0, none⟩ = some (.pointer (some ⟨R, 0, none⟩)) := by simp [World.cell?, h.box]
  have hq2 : (w3.setCell ⟨R, 1, none⟩ (.int .i64 (d + 1 - 1))).heap[w.heap.size + 1]? = some (.cells #[.int .i64 k, .string f, .string x, .slice A n c, .slice K m dd] 27 (0, 0)) := by rw [set_ne (by omega)]; exact hq
  obtain ⟨⟨t0, t1, t2, t3, t4⟩, -⟩ := five_cells hq2
  have hg : GaveRd res R d w (.returned (.tuple #[qV k f x A n c K m dd, .bool b])) (w3.setCell ⟨R, 1, none⟩ (.int .i64 (d + 1 - 1))) := by
    refine ⟨k, f, x, A, n, c, K, m, dd, b, s', rfl, ?_, h.only.trans (OnlyR.set _), ?_⟩
    · rw [show d + 1 - 1 = d by omega]; exact set_R hr
    · cases res with
      | none => exact hm
      | some y =>
        obtain ⟨q, r⟩ := y
        obtain ⟨m1, m2, m3⟩ := hm
        exact ⟨m1, m2, (m3.keep fun b hb => set_ne (by omega)).imp fun b hb => ⟨hb.1, by simpa [World.setCell] using hb.2⟩⟩
  refine leaves_cons (f := 76) (args := #[.pointer (some ⟨w.heap.size, 0, none⟩)]) (by simp) (by simp [go_sem]) ?_
  refine (query_deferred w.heap.size R (d + 1) .returning _ hbx c1 f1 (by omega) (by omega)).mono ?_
  rintro e u' w'' ⟨rfl, rfl, hw⟩
  rw [← hw] at t0 t1 t2 t3 t4 hg
  clear hw
  simp [Leaves, settle, results, Tryz.results38, go_sem, h2, h3, t0, t1, t2, t3, t4]
  exact hg
/-- A query's reading begins: one more stands in it; two new blocks. -/
def startW (w : World) (R : Nat) (e : Int) : World := ((w.setCell ⟨R, 1, none⟩ (.int .i64 e)).alloc (.cells #[.pointer (some ⟨R, 0, none⟩)] 96)).alloc (.cells #[.int .i64 0, .string ⟨#[]⟩, .string ⟨#[]⟩, .slice none 0 0, .slice none 0 0] 27)
structure Start (w : World) (R : Nat) (s : Nm) (e : Int) (w1 : World) : Prop where
  rd : RdAt w1 R s e
  only : OnlyR R w w1
  box : w1.heap[w.heap.size]? = some (.cells #[.pointer (some ⟨R, 0, none⟩)] 96 (0, 0))
  res : w1.heap[w.heap.size + 1]? = some (.cells #[.int .i64 0, .string ⟨#[]⟩, .string ⟨#[]⟩, .slice none 0 0, .slice none 0 0] 27 (0, 0))
  size : w.heap.size + 2 ≤ w1.heap.size
theorem start_is {w : World} {R : Nat} {s : Nm} {d : Int} (h : RdAt w R s d) (e : Int) : Start w R s e (startW w R e) := by
  have hR := h.lt
  have hz : (w.setCell ⟨R, 1, none⟩ (.int .i64 e)).heap.size = w.heap.size := by simp [World.setCell]
  have ho : OnlyR R w (w.setCell ⟨R, 1, none⟩ (.int .i64 e)) := OnlyR.set _
  have h1 := heap_alloc_new (w.setCell ⟨R, 1, none⟩ (.int .i64 e)) (.cells #[.pointer (some ⟨R, 0, none⟩)] 96)
  have h2 := heap_alloc_new ((w.setCell ⟨R, 1, none⟩ (.int .i64 e)).alloc (.cells #[.pointer (some ⟨R, 0, none⟩)] 96)) (.cells #[.int .i64 0, .string ⟨#[]⟩, .string ⟨#[]⟩, .slice none 0 0, .slice none 0 0] 27)
  have hs2 : ((w.setCell ⟨R, 1, none⟩ (.int .i64 e)).alloc (.cells #[.pointer (some ⟨R, 0, none⟩)] 96)).heap.size = w.heap.size + 1 := by simp [World.setCell]
  rw [hz] at h1
  rw [hs2] at h2
  unfold startW
  refine ⟨?_, (ho.alloc _).alloc _, ?_, h2, by simp [World.setCell]⟩
  · unfold RdAt
    rw [Below.heap_alloc _ _ _ (by omega), Below.heap_alloc _ _ _ (by omega)]
    exact set_R h
  · rw [Below.heap_alloc _ _ _ (by omega)]
    exact h1
set_option maxHeartbeats 2000000 in
set_option maxRecDepth 100000 in
/-- What stands too deep is not read. -/
theorem query_over (R : Nat) (s : Nm) (w : World) (h : RdAt w R s 6) : Calls Tryz.prog 38 #[.pointer (some ⟨R, 0, none⟩)] w (GaveRd none R 6 w) := by
  obtain ⟨c0, c1, f0, f1⟩ := two_cells h
  have hmf : ∀ (fn : Fn) (first cap : Array Value) (w : World), (Instr.makeFunc fn first cap).run Tryz.prog w = .ok (.func fn first cap) w := fun _ _ _ _ => rfl
  have hRl := h.lt
  have HR := Lib.hid h
  clear h
  go_enter_defers Tryz.func38, Tryz.ntmps38
  go_wp2
  refine door_end (w := w) ?_ hRl (by decide) (by decide) _ rfl rfl
  have hst := start_is HR.out 7
  exact ⟨⟨_, _, _, _, _, _, _, _, _, s, hst.rd, hst.res, rfl⟩, hst.only, hst.box⟩
end Go.Proofs.YtolfkhflbjnakaaGreatDoor

/- A text that is read: a query, where what stands behind a bracket is read as it should be. -/
namespace Go.Proofs.YtolfkhflbjnakaaGreatDoor
open Go Go.RowKit Go.Shelf
set_option linter.unusedVariables false

def stepR (rd : Nm → Option (Qy × Nm)) (s : Nm) : Option (Qy × Nm) := match s with
  | [] => none
  | c :: s1 => if c = 40 then partsR rd s1 else leafR (c :: s1)
theorem readQ_step (n : Nat) (s : Nm) : readQ (n + 1) s = stepR (readQ n) s := by
  cases s <;> rfl
theorem stepR_yes {rd : Nm → Option (Qy × Nm)} {s : Nm} (h : (preV 40 s).2 = true) : stepR rd s = partsR rd (preV 40 s).1 := by
  cases s with
  | nil => cases h
  | cons c s1 =>
    by_cases hc : c = 40
    · simp [stepR, preV, hc]
    · simp [preV, hc] at h
theorem stepR_no {rd : Nm → Option (Qy × Nm)} {s : Nm} (h : (preV 40 s).2 = false) : stepR rd s = leafR s ∧ (preV 40 s).1 = s := by
  cases s with
  | nil => exact ⟨rfl, rfl⟩
  | cons c s1 =>
    by_cases hc : c = 40
    · simp [preV, hc] at h
    · simp [stepR, preV, hc]
theorem leafR_no {s : Nm} (h : (cutV 58 s).2.2 = false) : leafR s = none := by
  unfold leafR cutV at *
  cases hc : cutB 58 s with
  | none => rfl
  | some y => rw [hc] at h; cases h
theorem leafR_yes {s : Nm} (h : (cutV 58 s).2.2 = true) : leafR s = if (preV 34 (uptoL 58 s)).2 = true then phraseR (cutV 58 s).1 (preV 34 (uptoL 58 s)).1 else some (.mk 1 ((cutV 58 s).1, (wordR (preV 34 (uptoL 58 s)).1).1) [] [], (wordR (preV 34 (uptoL 58 s)).1).2) := by
  unfold uptoL
  unfold leafR cutV at *
  cases hc : cutB 58 s with
  | none => rw [hc] at h; cases h
  | some y =>
    obtain ⟨a, b⟩ := y
    cases b with
    | nil => rfl
    | cons c s2 =>
      by_cases h34 : c = 34
      · simp [preV, h34]
      · simp [preV, h34]
theorem uptoL_length (c : UInt8) (s : Nm) : (uptoL c s).length ≤ s.length := by
  unfold uptoL
  split
  · exact (cutV_length c s).2
  · exact Nat.le_refl _
section
variable {w w1 w2 w3 : World} {R : Nat} {s s' : Nm} {d e : Int}
theorem Start.step (h : Start w R s e w1) (hR : R < w.heap.size) (hr : RdAt w2 R s' e) (ho : OnlyR R w1 w2) : Start w R s' e w2 := by
  have := h.size
  exact ⟨hr, h.only.trans ho, (ho.block _ (by omega) (by omega)).trans h.box, (ho.block _ (by omega) (by omega)).trans h.res, Nat.le_trans this ho.size⟩
/-- What a call answers is laid where the answer lies. -/
theorem Start.door {res : Option (Qy × Nm)} {k : Int} {f x : ByteArray} {A K : Option Addr} {n c m dd : Nat} {b : Bool} (h : Start w R s (d + 1) w2) (hR : R < w.heap.size) (hr : RdAt w3 R s' (d + 1)) (ho : OnlyR R w2 w3)
    (hm : match (generalizing := false) res with | none => b = false | some (q, r) => b = true ∧ s' = r ∧ QV (fun i => w2.heap.size ≤ i ∧ i < w3.heap.size) w3 q (qV k f x A n c K m dd)) :
    Door R d res w (set5 w3 (w.heap.size + 1) (.int .i64 k) (.string f) (.string x) (.slice A n c) (.slice K m dd)) b ∧
    w3.heap[w.heap.size + 1]? = some (.cells #[.int .i64 0, .string ⟨#[]⟩, .string ⟨#[]⟩, .slice none 0 0, .slice none 0 0] 27 (0, 0)) := by
  have h3 := h.step hR hr ho
  have hz := h.size
  refine ⟨⟨⟨k, f, x, A, n, c, K, m, dd, s', ?_, ?_, ?_⟩, ?_, ?_⟩, h3.res⟩
  · unfold RdAt; rw [set5_ne (by omega)]; exact hr
  · exact set5_at h3.res
  · cases res with
    | none => exact hm
    | some y =>
      obtain ⟨q, r⟩ := y
      obtain ⟨m1, m2, m3⟩ := hm
      exact ⟨m1, m2, (m3.keep fun b hb => set5_ne (by omega)).imp fun b hb => ⟨by omega, by rw [set5_size]; exact hb.2⟩⟩
  · have hb : Below w.heap.size w3 (set5 w3 (w.heap.size + 1) (.int .i64 k) (.string f) (.string x) (.slice A n c) (.slice K m dd)) := set5_below (Below.refl _ _) (by omega)
    exact ⟨hb.os.trans h3.only.os, hb.tape.trans h3.only.tape, hb.output.trans h3.only.output, Nat.le_trans h3.only.size hb.size, fun k hk hkR => (hb.block k hk).trans (h3.only.block k hk hkR)⟩
  · rw [set5_ne (by omega)]; exact h3.box
theorem Start.glob (h : Start w R s e w1) (hg : Glob w) (hR : 2 ≤ R) : Glob w1 := hg.only h.only hR
theorem Start.boxc (h : Start w R s e w1) : w1.cell? ⟨w.heap.size, 0, none⟩ = some (.pointer (some ⟨R, 0, none⟩)) := by simp [World.cell?, h.box]
end
/-- What stands behind a bracket is read as it should be. -/
def PartsOK (rd : Nm → Option (Qy × Nm)) (d : Int) : Prop := ∀ (R : Nat) (s : Nm) (w : World), RdAt w R s d → Glob w → 2 ≤ R → s.length < 4294967281 → Calls Tryz.prog 78 #[.pointer (some ⟨R, 0, none⟩)] w (GaveRd (partsR rd s) R d w)

set_option maxHeartbeats 4000000 in
set_option maxRecDepth 100000 in
theorem query_step (rd : Nm → Option (Qy × Nm)) (d : Int) (h0 : 0 ≤ d) (h6 : d < 6) (HPT : Hid (PartsOK rd (d + 1))) (R : Nat) (s : Nm) (w : World) (h : RdAt w R s d) (hg : Glob w) (hR2 : 2 ≤ R) (hs : s.length < 4294967281) :
    Calls Tryz.prog 38 #[.pointer (some ⟨R, 0, none⟩)] w (GaveRd (stepR rd s) R d w) := by
  obtain ⟨c0, c1, f0, f1⟩ := two_cells h
  have hmf : ∀ (fn : Fn) (first cap : Array Value) (w : World), (Instr.makeFunc fn first cap).run Tryz.prog w = .ok (.func fn first cap) w := fun _ _ _ _ => rfl
  have hwr : IntKind.i64.wrap (d + 1) = d + 1 := wrap_small _ (by omega) (by omega)
  have hgt : decide (6 < d + 1) = false := decide_eq_false (by omega)
  have hRl := h.lt
  obtain ⟨w1, hw1⟩ : ∃ w1, w1 = startW w R (d + 1) := ⟨_, rfl⟩
  have hst : Start w R s (d + 1) w1 := by rw [hw1]; exact start_is h _
  have hTK := query_take 40 R s (d + 1) w1 hst.rd
  obtain ⟨res, hres⟩ : ∃ res, res = stepR rd s := ⟨_, rfl⟩
  rw [← hres]
  obtain ⟨b, hb⟩ : ∃ b, b = (preV 40 s).2 := ⟨_, rfl⟩
  rw [← hb] at hTK
  have HTK := Lib.hid hTK
  have HST := Lib.hid hst
  have HW1 := Lib.hid hw1
  have HG := Lib.hid hg
  cases b with
  | true =>
    have hres2 := hres.trans (stepR_yes hb.symm)
    have hl := preV_length 40 s
    have HP : Hid (∀ w2, RdAt w2 R (preV 40 s).1 (d + 1) → OnlyR R w1 w2 → Start w R (preV 40 s).1 (d + 1) w2 ∧ Calls Tryz.prog 78 #[.pointer (some ⟨R, 0, none⟩)] w2 (GaveRd res R (d + 1) w2)) := Lib.hid fun w2 hr ho => by
      have h2 := HST.out.step hRl hr ho
      refine ⟨h2, ?_⟩
      rw [hres2]
      exact HPT.out R _ w2 hr (h2.glob HG.out hR2) hR2 (by omega)
    clear hTK hst hw1 hres hres2 hb hl h hs hg
    go_enter_defers Tryz.func38, Tryz.ntmps38
    go_wp2_with (first
      | (go_at_call 77; rw [show ((w.setCell _ _).alloc _).alloc _ = w1 from HW1.out.symm]; (with_reducible refine HTK.out.mono ?_); rintro e w2 ⟨rfl, hr2, ho2⟩; obtain ⟨hs2, hp2⟩ := HP.out w2 hr2 ho2; have hbx := hs2.boxc; have HS2 := Lib.hid hs2; have HP2 := Lib.hid hp2; clear hr2 ho2 hs2 hp2)
      | (go_at_call 78; (with_reducible refine HP2.out.mono ?_); rintro e w3 ⟨k, f, x, A, n, c, K, m, dd, b, s', rfl, hr3, ho3, hm3⟩; obtain ⟨hd3, hc3⟩ := HS2.out.door hRl hr3 ho3 hm3; obtain ⟨⟨s0, s1, s2, s3, s4⟩, g0, g1, g2, g3, g4⟩ := five_cells hc3; have HD3 := Lib.hid hd3; clear hr3 ho3 hm3 hd3 hc3))
    have hfin := HD3.out
    unfold set5 at hfin
    exact door_end hfin hRl h0 (by omega) _ rfl rfl
  | false =>
    obtain ⟨hres1, hp1⟩ := stepR_no (rd := rd) hb.symm
    rw [hres1] at hres
    rw [hp1] at hTK
    have HTK := Lib.hid hTK
    obtain ⟨b2, hb2⟩ : ∃ b2, b2 = (cutV 58 s).2.2 := ⟨_, rfl⟩
    have HU : Hid (∀ w2, RdAt w2 R s (d + 1) → OnlyR R w1 w2 → Start w R s (d + 1) w2 ∧ Calls Tryz.prog 79 #[.pointer (some ⟨R, 0, none⟩), .string ⟨#[58]⟩] w2
        (fun e w' => e = .returned (.tuple #[.string ⟨(cutV 58 s).1.toArray⟩, .bool b2]) ∧ RdAt w' R (uptoL 58 s) (d + 1) ∧ OnlyR R w2 w')) := Lib.hid fun w2 hr ho => by
      have h2 := HST.out.step hRl hr ho
      refine ⟨h2, ?_⟩
      rw [hb2]
      exact query_upto 58 R s (d + 1) w2 hr (h2.glob HG.out hR2) hs
    cases b2 with
    | false =>
      have hnone := hres.trans (leafR_no hb2.symm)
      subst hnone
      clear hTK hst hw1 hres hres1 hp1 hb hb2 h hs hg
      go_enter_defers Tryz.func38, Tryz.ntmps38
      go_wp2_with (first
        | (go_at_call 77; rw [show ((w.setCell _ _).alloc _).alloc _ = w1 from HW1.out.symm]; (with_reducible refine HTK.out.mono ?_); rintro e w2 ⟨rfl, hr2, ho2⟩; obtain ⟨hs2, hp2⟩ := HU.out w2 hr2 ho2; have hbx := hs2.boxc; have HS2 := Lib.hid hs2; have HP2 := Lib.hid hp2; clear hr2 ho2 hs2 hp2)
        | (go_at_call 79; (with_reducible refine HP2.out.mono ?_); rintro e w3 ⟨rfl, hr3, ho3⟩; obtain ⟨hd3, hc3⟩ := HS2.out.door (res := none) (k := 0) (f := ⟨#[]⟩) (x := ⟨#[]⟩) (A := none) (K := none) (n := 0) (c := 0) (m := 0) (dd := 0) (b := false) hRl hr3 ho3 rfl; obtain ⟨⟨s0, s1, s2, s3, s4⟩, g0, g1, g2, g3, g4⟩ := five_cells hc3; have HD3 := Lib.hid hd3; clear hr3 ho3 hd3 hc3))
      have hfin := HD3.out
      unfold set5 at hfin
      exact door_end hfin hRl h0 (by omega) _ rfl rfl
    | true =>
      have hres2 := hres.trans (leafR_yes hb2.symm)
      have hul := uptoL_length 58 s
      have hpl := preV_length 34 (uptoL 58 s)
      obtain ⟨t, ht⟩ : ∃ t, t = (preV 34 (uptoL 58 s)).1 := ⟨_, rfl⟩
      obtain ⟨b3, hb3⟩ : ∃ b3, b3 = (preV 34 (uptoL 58 s)).2 := ⟨_, rfl⟩
      obtain ⟨fl, hfl⟩ : ∃ fl : ByteArray, fl = ⟨(cutV 58 s).1.toArray⟩ := ⟨_, rfl⟩
      have hfl2 : (cutV 58 s).1 = fl.data.toList := by rw [hfl]
      have HT : Hid (∀ w2 w3, Start w R s (d + 1) w2 → RdAt w3 R (uptoL 58 s) (d + 1) → OnlyR R w2 w3 → Start w R (uptoL 58 s) (d + 1) w3 ∧ Calls Tryz.prog 77 #[.pointer (some ⟨R, 0, none⟩), .string ⟨#[34]⟩] w3
        (fun e w' => e = .returned (.bool b3) ∧ RdAt w' R t (d + 1) ∧ OnlyR R w3 w')) := Lib.hid fun w2 w3 h2 hr ho => by
        have h3 := h2.step hRl hr ho
        refine ⟨h3, ?_⟩
        rw [hb3, ht]
        exact query_take 34 R _ (d + 1) w3 hr
      rw [← ht] at hpl hres2
      rw [← hb3, hfl2] at hres2
      rw [← hfl] at HU
      cases b3 with
      | true =>
        rw [if_pos rfl] at hres2
        have HPH : Hid (∀ w3 w4, Start w R (uptoL 58 s) (d + 1) w3 → RdAt w4 R t (d + 1) → OnlyR R w3 w4 → Start w R t (d + 1) w4 ∧ Calls Tryz.prog 80 #[.pointer (some ⟨R, 0, none⟩), .string fl] w4 (GaveRd res R (d + 1) w4)) := Lib.hid fun w3 w4 h3 hr ho => by
          have h4 := h3.step hRl hr ho
          refine ⟨h4, ?_⟩
          rw [hres2]
          exact query_phrase R t (d + 1) fl w4 hr (h4.glob HG.out hR2) hR2 (by omega)
        clear hTK hst hw1 hres hres1 hres2 hp1 hb hb2 hb3 ht hfl hfl2 hul hpl h hs hg
        go_enter_defers Tryz.func38, Tryz.ntmps38
        go_wp2_with (first
          | (go_at_call 77; rw [show ((w.setCell _ _).alloc _).alloc _ = w1 from HW1.out.symm]; (with_reducible refine HTK.out.mono ?_); rintro e w2 ⟨rfl, hr2, ho2⟩; obtain ⟨hs2, hp2⟩ := HU.out w2 hr2 ho2; have hbx := hs2.boxc; have HS2 := Lib.hid hs2; have HP2 := Lib.hid hp2; clear hr2 ho2 hs2 hp2)
          | (go_at_call 79; (with_reducible refine HP2.out.mono ?_); rintro e w3 ⟨rfl, hr3, ho3⟩; obtain ⟨hs3, hp3⟩ := HT.out w2 w3 HS2.out hr3 ho3; have hbx3 := hs3.boxc; have HS3 := Lib.hid hs3; have HP3 := Lib.hid hp3; clear hr3 ho3 hs3 hp3)
          | (go_at_call 77; (with_reducible refine HP3.out.mono ?_); rintro e w4 ⟨rfl, hr4, ho4⟩; obtain ⟨hs4, hp4⟩ := HPH.out w3 w4 HS3.out hr4 ho4; have hbx4 := hs4.boxc; have HS4 := Lib.hid hs4; have HP4 := Lib.hid hp4; clear hr4 ho4 hs4 hp4)
          | (go_at_call 80; (with_reducible refine HP4.out.mono ?_); rintro e w5 ⟨k, f, x, A, n, c, K, m, dd, b, s', rfl, hr5, ho5, hm5⟩; obtain ⟨hd5, hc5⟩ := HS4.out.door hRl hr5 ho5 hm5; obtain ⟨⟨s0, s1, s2, s3, s4⟩, g0, g1, g2, g3, g4⟩ := five_cells hc5; have HD5 := Lib.hid hd5; clear hr5 ho5 hm5 hd5 hc5))
        have hfin := HD5.out
        unfold set5 at hfin
        exact door_end hfin hRl h0 (by omega) _ rfl rfl
      | false =>
        rw [if_neg (by decide)] at hres2
        have HWD : Hid (∀ w3 w4, Start w R (uptoL 58 s) (d + 1) w3 → RdAt w4 R t (d + 1) → OnlyR R w3 w4 → Start w R t (d + 1) w4 ∧ Calls Tryz.prog 81 #[.pointer (some ⟨R, 0, none⟩)] w4
          (fun e w' => e = .returned (.string ⟨(wordR t).1.toArray⟩) ∧ RdAt w' R (wordR t).2 (d + 1) ∧ OnlyR R w4 w')) := Lib.hid fun w3 w4 h3 hr ho => by
          have h4 := h3.step hRl hr ho
          exact ⟨h4, query_word R t (d + 1) w4 hr (by omega)⟩
        have HDR : Hid (∀ w4 w5, Start w R t (d + 1) w4 → RdAt w5 R (wordR t).2 (d + 1) → OnlyR R w4 w5 → Door R d res w (set5 w5 (w.heap.size + 1) (.int .i64 1) (.string fl) (.string ⟨(wordR t).1.toArray⟩) (.slice none 0 0) (.slice none 0 0)) true ∧
          w5.heap[w.heap.size + 1]? = some (.cells #[.int .i64 0, .string ⟨#[]⟩, .string ⟨#[]⟩, .slice none 0 0, .slice none 0 0] 27 (0, 0))) := Lib.hid fun w4 w5 h4 hr ho =>
          h4.door hRl hr ho (by rw [hres2]; exact ⟨rfl, rfl, QV.mk (ds := []) rfl rfl rfl rfl (Nat.le_refl _) (Nat.le_refl _) (.inl rfl) (.inl rfl) QsAt.nil⟩)
        obtain ⟨wd, hwd⟩ : ∃ wd : ByteArray, wd = ⟨(wordR t).1.toArray⟩ := ⟨_, rfl⟩
        rw [← hwd] at HWD HDR
        clear hTK hst hw1 hres hres1 hres2 hp1 hb hb2 hb3 ht hfl hfl2 hul hpl h hs hg hwd
        go_enter_defers Tryz.func38, Tryz.ntmps38
        go_wp2_with (first
          | (go_at_call 77; rw [show ((w.setCell _ _).alloc _).alloc _ = w1 from HW1.out.symm]; (with_reducible refine HTK.out.mono ?_); rintro e w2 ⟨rfl, hr2, ho2⟩; obtain ⟨hs2, hp2⟩ := HU.out w2 hr2 ho2; have hbx := hs2.boxc; have HS2 := Lib.hid hs2; have HP2 := Lib.hid hp2; clear hr2 ho2 hs2 hp2)
          | (go_at_call 79; (with_reducible refine HP2.out.mono ?_); rintro e w3 ⟨rfl, hr3, ho3⟩; obtain ⟨hs3, hp3⟩ := HT.out w2 w3 HS2.out hr3 ho3; have hbx3 := hs3.boxc; have HS3 := Lib.hid hs3; have HP3 := Lib.hid hp3; clear hr3 ho3 hs3 hp3)
          | (go_at_call 77; (with_reducible refine HP3.out.mono ?_); rintro e w4 ⟨rfl, hr4, ho4⟩; obtain ⟨hs4, hp4⟩ := HWD.out w3 w4 HS3.out hr4 ho4; have hbx4 := hs4.boxc; have HS4 := Lib.hid hs4; have HP4 := Lib.hid hp4; clear hr4 ho4 hs4 hp4)
          | (go_at_call 81; (with_reducible refine HP4.out.mono ?_); rintro e w5 ⟨rfl, hr5, ho5⟩; obtain ⟨hd5, hc5⟩ := HDR.out w4 w5 HS4.out hr5 ho5; obtain ⟨⟨s0, s1, s2, s3, s4⟩, g0, g1, g2, g3, g4⟩ := five_cells hc5; have HD5 := Lib.hid hd5; clear hr5 ho5 hd5 hc5))
        have hfin := HD5.out
        unfold set5 at hfin
        exact door_end hfin hRl h0 (by omega) _ rfl rfl
end Go.Proofs.YtolfkhflbjnakaaGreatDoor
