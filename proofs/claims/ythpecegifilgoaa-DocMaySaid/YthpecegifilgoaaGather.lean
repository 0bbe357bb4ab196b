/- Package word's gatherer: what its closure does with one sign, and what Words answers. -/
import Derived.Test.YthpecegifilgoaaQ02
import Derived.Test.YthpecegifilgoaaVars
import Derived.Test.YthpecegifilgoaaStr02
import Derived.Test.YthpecegifilgoaaPlain02
import Derived.Deep.RegionHeld3
import Derived.Deep.RegionLaw
import Derived.Deep.AppendLies
namespace Go.Proofs.Ythpecegifilgoaa
open Go Go.RowKit
set_option linter.unusedVariables false

set_option maxHeartbeats 1000000 in
theorem word_within (c : Int) (w : World) :
    Calls Try.prog 74 #[.int .i64 c] w fun e w' => e = .returned (.bool (inWord c)) ∧ w = w' := by
  have l1 := fun w => sign_Letter c w
  have d1 := fun w => sign_Digit c w
  unfold inWord
  cases hL : isLetter c <;> cases hD : isDigit c <;> rw [hL] at l1 <;> rw [hD] at d1
  all_goals
    have L1 := Lib.hid l1
    have D1 := Lib.hid d1
    clear l1 d1 hL hD
    go_enter Try.func74, Try.ntmps74
    go_wp2_with (first
      | (go_at_call 89; refine (L1.out _).mono ?_; rintro e w' ⟨rfl, rfl⟩)
      | (go_at_call 90; refine (D1.out _).mono ?_; rintro e w' ⟨rfl, rfl⟩))
    go_ret
    exact ⟨rfl, rfl⟩

set_option maxHeartbeats 1000000 in
theorem ref_in (c : Int) (w : World) :
    Calls Try.prog 59 #[.int .i64 c] w fun e w' => e = .returned (.bool (inWord c)) ∧ w = w' := by
  have l1 := fun w => ref_Letter c w
  cases hL : isLetter c <;> rw [hL] at l1
  all_goals
    have L1 := Lib.hid l1
    have hin : inWord c = (isLetter c || isDigit c) := rfl
    rw [hL] at hin
    have HIN := Lib.hid hin
    clear l1 hL hin
    go_enter Try.func59, Try.ntmps59
    go_wp2_with (go_at_call 72; refine (L1.out _).mono ?_; rintro e w' ⟨rfl, rfl⟩)
    all_goals
      go_ret
      refine ⟨ret_bool ?_, rfl⟩
      rw [HIN.out, Bool.eq_iff_iff]
      simp [isDigit]
      try omega

/-- What a call of the closure that Words hands on does: one more text lies in the variable's row. -/
def Told02 (base B : Nat) (xs : List Value) (w : World) (e : Ending) (w' : World) : Prop :=
  e = .returned (.tuple #[]) ∧ RowVar 48 9 base B xs w' ∧ Touched B w w'

set_option maxHeartbeats 1000000 in
set_option maxRecDepth 100000 in
theorem words_tell (base B : Nat) (xs : List Value) (s : ByteArray) (w : World) (h : RowVar 48 9 base B xs w) (hl : xs.length ≤ 1073741824) (hbase : base ≤ w.heap.size) :
    Calls Try.prog 64 #[.string s, .pointer (some ⟨B, 0, none⟩)] w (Told02 base B (xs ++ [.string s]) w) := by
  obtain ⟨i0, hi0, hz0, hz1, hz2⟩ := info_parts info_string
  obtain ⟨v, hv, hown⟩ := h
  have cB := cell_of_one hv
  have fB := free_of_one hv
  go_enter Try.func64, Try.ntmps64
  go_wp2_with (at_builtin; refine wpList_append_own _ rfl (.tmp 3) (.tmp 5) 48 rfl base 9 i0 _ 1 16 Try.underlying48 hi0 hz0 hz1 hz2 rfl (by omega) _ xs.length xs rfl (hown.alloc _) ⟨w.heap.size, 0, none⟩ 1 1 [.string s] rfl rfl (news_at w [.string s] 9) (by intro u hu; simp at hu; subst hu; rfl) (by unfold maxLen; omega) (by omega) (by simp; omega) ?_)
  intro v' w1 hown1 hgrow1 _
  obtain ⟨g', cap', rfl, _, _⟩ := hown1.form (by omega)
  obtain ⟨cB1, fB1, hrv, htc⟩ := pushed (by decide) hv rfl hown ((Below.refl _ w).alloc (Nat.le_refl _) _) hgrow1 hown1 rfl
  go_wp2
  go_end0
  exact ⟨rfl, hrv, htc⟩

/-- What is gathered: the words that are whole lie in the variable at Bl, the signs of the one at hand in the variable at Bn; at Bt stands whom a whole one is told. -/
structure Gath (base Bl Bt Bn : Nat) (st : List (List Int) × List Int) (w : World) : Prop where
  base_le : base ≤ w.heap.size
  outs : RowVar 48 9 base Bl (strs (st.1.map text)) w
  tell : w.heap[Bt]? = some (.cells #[.func (.func 64) #[] #[.pointer (some ⟨Bl, 0, none⟩)]] 95 (0, 0))
  own : RowVar 45 3 base Bn (ints st.2) w
theorem Gath.keep {base Bl Bt Bn : Nat} {st : List (List Int) × List Int} {w w' : World} (h : Gath base Bl Bt Bn st w) (hb : Below w.heap.size w w') : Gath base Bl Bt Bn st w' :=
  ⟨Nat.le_trans h.base_le hb.size, h.outs.below hb, (hb.block Bt (lt_of_block h.tell)).trans h.tell, h.own.below hb⟩
theorem Gath.owned {base Bl Bt Bn : Nat} {st st' : List (List Int) × List Int} {w w' : World} (h : Gath base Bl Bt Bn st w) (ht : Touched Bn w w') (h1 : st'.1 = st.1) (ho : RowVar 45 3 base Bn (ints st'.2) w') : Gath base Bl Bt Bn st' w' :=
  ⟨Nat.le_trans h.base_le ht.2.2.2.1, by rw [h1]; exact h.outs.other h.own ht (by decide) (by decide) (by decide) (by decide), Touched.block h.own ht h.tell (by decide) (by decide), ho⟩
theorem Gath.told {base Bl Bt Bn : Nat} {st st' : List (List Int) × List Int} {w w' : World} (h : Gath base Bl Bt Bn st w) (ht : Touched Bl w w') (h1 : st'.2 = st.2) (ho : RowVar 48 9 base Bl (strs (st'.1.map text)) w') : Gath base Bl Bt Bn st' w' :=
  ⟨Nat.le_trans h.base_le ht.2.2.2.1, ho, Touched.block h.outs ht h.tell (by decide) (by decide), by rw [h1]; exact h.own.other h.outs ht (by decide) (by decide) (by decide) (by decide)⟩

/-- What a call of the gatherer does with a sign. -/
def Took (base Bl Bt Bn : Nat) (st : List (List Int) × List Int) (w : World) (e : Ending) (w' : World) : Prop :=
  e = .returned (.tuple #[]) ∧ Gath base Bl Bt Bn st w' ∧ Aside base Bl Bn w w'

theorem took_in {base Bl Bt Bn : Nat} {st : List (List Int) × List Int} {c : Int} {w w' : World} (h : Gath base Bl Bt Bn st w) (hc : inWord c = true) (ht : Touched Bn w w')
    (ho : RowVar 45 3 base Bn (ints st.2 ++ [.int .i64 (fold c)]) w') : Took base Bl Bt Bn (step st c) w (.returned (.tuple #[])) w' := by
  have e : step st c = (st.1, st.2 ++ [fold c]) := step_in hc
  rw [e]
  refine ⟨rfl, h.owned ht rfl ?_, (ht.aside h.own h.base_le).swap⟩
  simpa [ints] using ho

set_option maxHeartbeats 1000000 in
set_option maxRecDepth 100000 in
theorem take_in (base Bl Bt Bn : Nat) (st : List (List Int) × List Int) (c : Int) (w : World) (h : Gath base Bl Bt Bn st w) (hl : st.2.length ≤ 1073741824) (hc : inWord c = true) :
    Calls Try.prog 73 #[.int .i64 c, .pointer (some ⟨Bn, 0, none⟩), .pointer (some ⟨Bt, 0, none⟩)] w (Took base Bl Bt Bn (step st c) w) := by
  obtain ⟨i0, hi0, hz0, hz1, hz2⟩ := info_parts info_int
  have hbase := h.base_le
  obtain ⟨v, hv, hown⟩ := h.own
  have cB := cell_of_one hv
  have fB := free_of_one hv
  have f1 := fun w => sign_Fold c w
  have w1 := fun w => word_within c w
  have tk := fun (w' : World) => took_in (w' := w') h hc
  generalize fold c = y at f1 tk
  rw [hc] at w1
  rw [ints_length] at hown
  have hal : (w.alloc (.cells #[.int .i64 y] 3)).cell? ⟨Bn, 0, none⟩ = some v := (((Below.refl _ w).alloc (Nat.le_refl _) _).cell (p := ⟨Bn, 0, none⟩) (lt_of_block hv)).trans cB
  have F1 := Lib.hid f1
  have W1 := Lib.hid w1
  have TK := Lib.hid tk
  have HC := Lib.hid hc
  clear f1 w1 tk hc
  go_enter Try.func73, Try.ntmps73
  go_wp2_with (go_at_call 74; refine (W1.out _).mono ?_; rintro e w' ⟨rfl, rfl⟩)
  go_region_law (first
      | (refine step_append_lies _ (by rfl) _ _ _ (by rfl) base 3 i0 _ 1 8 Try.underlying45 hi0 hz0 hz1 hz2 rfl (by omega) v st.2.length (ints st.2) (by rfl) ((hown.alloc _).drew)
          ⟨w.heap.size, 0, none⟩ 1 1 [.int .i64 y] (by rfl) (by rfl) (World.news_of_block (cs := #[.int .i64 y]) (t := 3) (fr := (0, 0)) (heap_alloc_new w _)) (by simp [Value.oneCell'])
          (by omega) (by unfold maxLen; omega) (by omega) (by simp; omega) (w.heap.size + 1) (by simp) ?_
         intro gg cap w1 hown1 hgrow hat hlt
         obtain ⟨cB1, fB1, hrv, htc⟩ := pushed (by decide) hv (ints_length _) hown (((Below.refl _ w).alloc (Nat.le_refl _) _).drew) hgrow hown1 rfl)
      | (go_simp; go_at_call 75; refine (F1.out _).mono ?_; rintro e w' ⟨rfl, rfl⟩))
  all_goals
    go_wp2
    go_end0
    exact TK.out _ htc hrv

set_option maxHeartbeats 1000000 in
set_option maxRecDepth 100000 in
theorem take_skip (base Bl Bt Bn : Nat) (out : List (List Int)) (c : Int) (w : World) (h : Gath base Bl Bt Bn (out, []) w) (hc : inWord c = false) :
    Calls Try.prog 73 #[.int .i64 c, .pointer (some ⟨Bn, 0, none⟩), .pointer (some ⟨Bt, 0, none⟩)] w (Took base Bl Bt Bn (out, []) w) := by
  obtain ⟨v, hv, hown⟩ := h.own
  have cB := cell_of_one hv
  have w1 := fun w => word_within c w
  rw [hc] at w1
  have W1 := Lib.hid w1
  clear w1
  obtain ⟨A, k, rfl, _, _⟩ := owned_row hown
  go_enter Try.func73, Try.ntmps73
  go_wp2_with (go_at_call 74; refine (W1.out _).mono ?_; rintro e w' ⟨rfl, rfl⟩)
  go_end0
  exact ⟨rfl, h, Aside.refl _ _ _ _⟩

theorem took_end {base Bl Bt Bn : Nat} {out : List (List Int)} {own : List Int} {w w2 w3 : World} (h : Gath base Bl Bt Bn (out, own) w) (hb : Below w.heap.size w w2)
    (hr : RowVar 48 9 base Bl (strs (out.map text) ++ [.string ⟨(text own).toArray⟩]) w3) (ht : Touched Bl w2 w3) :
    Gath base Bl Bt Bn (out ++ [own], own) w3 ∧ Aside base Bl Bn w w3 := by
  have h2 := h.keep hb
  refine ⟨h2.told ht rfl (by simpa [strs] using hr), (Aside.of (hb.mono h.base_le)).trans (ht.aside h2.outs h2.base_le)⟩

set_option maxHeartbeats 1000000 in
set_option maxRecDepth 100000 in
theorem take_end (base Bl Bt Bn : Nat) (out : List (List Int)) (own : List Int) (c : Int) (w : World) (h : Gath base Bl Bt Bn (out, own) w) (hl : own.length ≤ 1073741824) (ho : out.length ≤ 1073741824) (hc : inWord c = false) (hn : own ≠ []) :
    Calls Try.prog 73 #[.int .i64 c, .pointer (some ⟨Bn, 0, none⟩), .pointer (some ⟨Bt, 0, none⟩)] w (Took base Bl Bt Bn (out ++ [own], []) w) := by
  have hpos : 0 < own.length := List.length_pos_iff.2 hn
  obtain ⟨v, hv, hown⟩ := h.own
  rw [ints_length] at hown
  obtain ⟨g, cap, rfl, _, _⟩ := hown.form hpos
  obtain ⟨A, k, he, _, hrow⟩ := owned_row hown
  have hA : A = some ⟨g, 0, none⟩ := by injection he with h1 h2 h3; exact h1.symm
  rw [hA] at hrow
  have cN := cell_of_one hv
  have cT := cell_of_one h.tell
  have hltN := lt_of_block hv
  have hltT := lt_of_block h.tell
  have w1 := fun w => word_within c w
  rw [hc] at w1
  have W1 := Lib.hid w1
  have HR := Lib.hid hrow
  have HG := Lib.hid h
  clear w1 he hA hrow h
  go_enter Try.func73, Try.ntmps73
  go_wp2_with (go_at_call 74; refine (W1.out _).mono ?_; rintro e w' ⟨rfl, rfl⟩)
  go_region_held3 (fun w' => w'.cell? ⟨Bt, 0, none⟩ = some (.func (.func 64) #[] #[.pointer (some ⟨Bl, 0, none⟩)]) ∧ w'.cell? ⟨Bn, 0, none⟩ = some (.slice (some ⟨g, 0, none⟩) own.length cap))
    (first | go_keep | exact ⟨cT2, cN2⟩ | exact ⟨cT3, cN3⟩)
    (first
      | (go_at_call 76; refine (sign_Text _ _ own w.drew (HR.out.below (Below.refl _ w).drew) hl).mono ?_; rintro e w2 ⟨rfl, hb0⟩
         have hb2 : Below w.heap.size w w2 := (Below.refl _ w).drew.trans hb0
         have HB2 := Lib.hid hb2
         have cT2 := (hb2.cell (p := ⟨Bt, 0, none⟩) hltT).trans cT
         have cN2 := (hb2.cell (p := ⟨Bn, 0, none⟩) hltN).trans cN
         have hrv2 := (HG.out.keep hb2).outs
         clear hb2 hb0)
      | (go_at_call 64; refine (words_tell base Bl (strs (out.map text)) _ _ hrv2 (by rw [strs_length, List.length_map]; exact ho) (HG.out.keep HB2.out).base_le).mono ?_; rintro e w3 ⟨rfl, hrv3, ht3⟩
         have cT3 := cell_of_one (Touched.block hrv2 ht3 ((HB2.out.block Bt hltT).trans HG.out.tell) (by decide) (by decide))
         have hv3 := Touched.block hrv2 ht3 ((HB2.out.block Bn hltN).trans hv) (by decide) (by decide)
         have cN3 := cell_of_one hv3
         have fN3 := free_of_one hv3))
  obtain ⟨hg3, hb3⟩ := took_end HG.out HB2.out hrv3 ht3
  have hown3 : w3.ownsRow base 3 1 (.slice (some ⟨g, 0, none⟩) own.length cap) own.length (ints own) := by
    obtain ⟨v3, hv3', hown3⟩ := hg3.own
    rw [hv3] at hv3'
    simp at hv3'
    rw [← hv3', ints_length] at hown3
    exact hown3
  obtain ⟨hrN, htN⟩ := emptied (T := 45) (E := 3) (by decide) hv3 hown3
  have hfin : Took base Bl Bt Bn (out ++ [own], []) w (.returned (.tuple #[])) (w3.setCell ⟨Bn, 0, none⟩ (.slice (some ⟨g, 0, none⟩) 0 cap)) :=
    ⟨rfl, hg3.owned htN rfl hrN, hb3.trans (htN.aside hg3.own hg3.base_le).swap⟩
  have HF := Lib.hid hfin
  clear hg3 hb3 hown3 hrN htN hfin
  go_wp2
  go_end0
  exact HF.out

/-- One sign more: whatever is gathered. -/
theorem take_any (base Bl Bt Bn : Nat) (st : List (List Int) × List Int) (c : Int) (w : World) (h : Gath base Bl Bt Bn st w) (hl : st.2.length ≤ 1073741824) (ho : st.1.length ≤ 1073741824) :
    Calls Try.prog 73 #[.int .i64 c, .pointer (some ⟨Bn, 0, none⟩), .pointer (some ⟨Bt, 0, none⟩)] w (Took base Bl Bt Bn (step st c) w) := by
  by_cases hc : inWord c = true
  · exact take_in base Bl Bt Bn st c w h hl hc
  · have hc' : inWord c = false := by simpa using hc
    obtain ⟨out, own⟩ := st
    by_cases hn : own = []
    · subst hn
      rw [step_skip hc']
      exact take_skip base Bl Bt Bn out c w h hc'
    · rw [step_end hc' hn]
      exact take_end base Bl Bt Bn out own c w h hl ho hc' hn
end Go.Proofs.Ythpecegifilgoaa
