/- What Names answers: all names, in order, in new memory. -/
import Derived.Test.YtebdnjfohahpgaaTold07
import Derived.Test.YtebdnjfohahpgaaFew07
import Derived.Test.YtebdnjfohahpgaaPut07
set_option linter.unusedVariables false
namespace Go.Proofs.Ytebdnjfohahpgaa
open Go Go.RowKit
attribute [local go_sem] Oper.semAt_some

theorem Firm.rowVar (N : Nat) (T E : TypeId) (base B : Nat) (xs : List Value) : Firm N (fun W => RowVar T E base B xs W) := fun W l o o' _ ho hc ⟨v, h1, h2⟩ => by
  have hB : B ≠ l := fun e => by subst e; rw [h1] at ho; injection ho with ho; rw [← ho] at hc; cases hc
  refine ⟨v, (World.putObj_heap_other hB).trans h1, owned_keep h2 fun g hg => World.putObj_heap_other fun e => ?_⟩
  subst e
  rcases h2.2 with ⟨rfl, _⟩ | ⟨g', cap, cur, rfl, _, hh, _⟩
  · cases hg
  · simp only [Value.ownBlock, Option.some.injEq] at hg
    subst hg
    rw [hh] at ho
    injection ho with ho
    rw [← ho] at hc
    cases hc
theorem Firm.okE (N : Nat) (l : List Nm) (vs : List Int) (s : List (Nm × Int)) (x : Nm × Int) : Firm N (OkE l vs s x) := fun _ _ _ _ _ _ _ h => h
/-- What a write onto a variable and its row keeps of what is no cells. -/
theorem Touched.others {T E : TypeId} {base B : Nat} {xs : List Value} {w w' : World} (h : RowVar T E base B xs w) (ht : Touched B w w') : KeepsOthers w w' := by
  refine ⟨ht.2.2.2.1, fun k o hk hc => ?_⟩
  have hlt := (Array.getElem?_eq_some_iff.1 hk).1
  obtain ⟨v, h1, h2⟩ := h
  rw [ht.2.2.2.2 k hlt ?_ ?_, hk]
  · rintro rfl
    rw [h1] at hk
    injection hk with hk
    rw [← hk] at hc
    cases hc
  · intro u t hu he
    rw [h1] at hu
    simp at hu
    rw [← hu.1] at he
    rcases h2.2 with ⟨rfl, _⟩ | ⟨g', cap, cur, rfl, _, hh, _⟩
    · cases he
    · simp only [Value.ownBlock, Option.some.injEq] at he
      subst he
      rw [hh] at hk
      injection hk with hk
      rw [← hk] at hc
      cases hc

def NamesIn (l : List Nm) (w : World) (Bl : Nat) (pre : List (Nm × Int)) (W : World) : Prop := RowVar 22 9 w.heap.size Bl (strs (l.take pre.length)) W ∧ Below w.heap.size w W

set_option maxHeartbeats 8000000 in
set_option maxRecDepth 100000 in
theorem dict_Names (base B : Nat) (l : List Nm) (vs : List Int) (w : World) (h : DictAt w base B l vs) (hl : l.length ≤ 1048576) :
    Calls Try.prog 17 #[.pointer (some ⟨B, 0, none⟩)] w (GaveNm l w) := by
  obtain ⟨i0, hi0, hz0, hz1, hz2⟩ := info_parts info_string
  refine (callsIn_wide (n := 6)).1 ?_
  have CL := Lib.hid (dict_Len base B l vs w h)
  obtain ⟨n, hn⟩ : ∃ n, n = l.length := ⟨_, rfl⟩
  have HN := Lib.hid hn
  obtain ⟨w1, hrun, hown1, hgrow1⟩ := run_make_own (P := Try.prog) w w.heap.size 22 9 i0 _ 1 Try.underlying22 hi0 hz0 hz1 .i64 .i64 n (by rw [hz2]; omega) (by unfold maxLen; omega) (Nat.le_refl _)
  have hb1 : Below w.heap.size w w1 := (Below.refl _ w).grown hgrow1 (Nat.le_refl _) (fun k hk => by cases hk)
  obtain ⟨w2, hw2⟩ : ∃ w2, w2 = w1.alloc (.cells #[.slice (some ⟨w.heap.size, 0, none⟩) 0 n] 22) := ⟨_, rfl⟩
  obtain ⟨Bl, hBl⟩ : ∃ Bl, Bl = w1.heap.size := ⟨_, rfl⟩
  have hb2 : Below w.heap.size w w2 := by rw [hw2]; exact hb1.alloc hb1.size _
  have hrv2 : RowVar 22 9 w.heap.size Bl (strs []) w2 := ⟨_, by rw [hw2, hBl]; exact heap_alloc_new w1 _, by rw [hw2]; exact hown1.alloc _⟩
  have HF := Lib.hid (dict_From base B 0 l vs w w2 h hb2 hl (by omega))
  have hBl2 : w.heap.size ≤ Bl := by rw [hBl]; exact hb1.size
  rw [← hn] at CL
  have HB2 := Lib.hid hb2
  have HRV2 := Lib.hid hrv2
  have HW2 := Lib.hid hw2
  have HBL := Lib.hid hBl
  clear h hn hown1 hgrow1 hb1 hw2 hBl hb2 hrv2
  refine callsIn_of_wp_marks Try.func17 rfl trivial ?_ rfl
  simp only [Try.ntmps17, List.size_toArray, List.length_cons, List.length_nil, Nat.reduceAdd, Nat.reduceSub, Array.replicate_succ, Array.replicate_zero, List.push_toArray, List.append_toArray, List.nil_append, List.cons_append]
  gi_wp2_with (first
    | (refine ⟨trivial, ?_⟩; gi_at_call 15; refine (callsIn_wide.2 CL.out).mono ?_; rintro e w' ⟨rfl, rfl⟩)
    | (gi_at_call 15; refine (callsIn_wide.2 CL.out).mono ?_; rintro e w' ⟨rfl, rfl⟩)
    | (refine ⟨trivial, ?_⟩; gi_at_call 24; rw [← HW2.out]; refine (callsIn_wide.2 HF.out).mono ?_)
    | (gi_at_call 24; rw [← HW2.out]; refine (callsIn_wide.2 HF.out).mono ?_))
  rintro e w3 ⟨D, rfl, hD, hrest, hb3, hz3⟩
  rw [Int.toNat_zero, List.drop_zero, List.drop_zero] at hrest
  have hB3 := HB2.out.trans (hb3.mono HB2.out.size)
  have hrv3 := HRV2.out.below hb3
  have hsz3 : w.heap.size ≤ w3.heap.size := hB3.size
  have HT := Lib.hid (from_told 5 w.heap.size D l vs w3 (by omega) hsz3 hrest hl)
  have HB3 := Lib.hid hB3
  have HRV3 := Lib.hid hrv3
  have HBL3 : Hid (Bl < w3.heap.size) := Lib.hid hrv3.lt
  clear hrest hb3 hB3 hrv3 hrun hz3
  gi_wp2
  rw [← HBL.out]
  refine wpIn_range_tells (by omega) (gf := 38) (lb := #[.pointer (some ⟨D, 0, none⟩)]) rfl (enters_of Try.func38 (by kernel_rfl) rfl)
    HT.out (fun hb => hb) (fun {A B k o} hk hmv ho hnc => (hmv.block k (Array.getElem?_eq_some_iff.1 ho).1).trans ho)
    (fun h k => h.trans k) (fun W lp o o' hlp ho hc => Firm.belowW (N := w3.heap.size) (w0 := W) (by omega) W lp o o' hlp ho hc (Below.refl _ _)) (fun _ => rfl)
    (NamesIn l w Bl) (fun _ _ _ => False)
    (fun s A' B' h hmv => ⟨h.1.below hmv, h.2.trans (hmv.mono (by have := h.2.size; omega))⟩)
    (fun s => (Firm.rowVar _ _ _ _ _ _).and (Firm.belowW hsz3))
    (fun c s W l o o' _ _ _ h => h)
    (fun s x => Firm.okE _ _ _ _ _) ⟨by simpa using HRV3.out, HB3.out⟩
    (fun x => { tmps := #[.pointer (some ⟨B, 0, none⟩), undef, .slice none 0 0, .pointer (some ⟨Bl, 0, none⟩), .string ⟨x.1.toArray⟩, .pointer (some ⟨B, 0, none⟩), .int .i64 n, .slice (some ⟨w.heap.size, 0, none⟩) 0 n, .pointer (some ⟨B, 0, none⟩), .func (.func 38) #[] #[.pointer (some ⟨D, 0, none⟩)], .string ⟨x.1.toArray⟩, .int .i64 x.2, undef, undef, undef, undef, undef], defers := [] }) ?assign ?body ?done ?stop
  case assign =>
    intro lp x W K' hK'
    unfold encE
    gi_wp2
    exact hK'
  case body =>
    rintro lp pre ⟨x, y⟩ W ⟨hrv, hbw⟩ ⟨hlt, hx, hy⟩
    simp only at hx hy ⊢
    have hst : strs (l.take (pre.length + 1)) = strs (l.take pre.length) ++ [.string ⟨x.toArray⟩] := by
      rw [List.take_succ_eq_append_getElem hlt, hx, strs_append]; rfl
    have hlen : (strs (l.take pre.length)).length = pre.length := by rw [strs_length, List.length_take]; omega
    have hRV := hrv
    obtain ⟨v, hv, hown⟩ := hrv
    rw [hlen] at hown
    have cB := cell_of_one hv
    have fB := free_of_one hv
    have hsz := hbw.size
    obtain ⟨X, hX⟩ : ∃ t : ByteArray, t = ⟨x.toArray⟩ := ⟨_, rfl⟩
    rw [← hX] at hst ⊢
    obtain ⟨k, hk⟩ : ∃ k, k = pre.length := ⟨_, rfl⟩
    rw [← hk] at hst hown hlt hlen hRV
    obtain ⟨xs, hxs⟩ : ∃ xs, xs = strs (l.take k) := ⟨_, rfl⟩
    rw [← hxs] at hst hown hlen hRV
    have HST := Lib.hid hst
    have HO := Lib.hid hown
    have HRV := Lib.hid hRV
    have HV := Lib.hid hv
    have HBW := Lib.hid hbw
    have HK := Lib.hid hk
    have HLEN := Lib.hid hlen
    have hkl : k ≤ 1048576 := by omega
    clear hst hown hRV hv hbw hk hlen hxs hx hy hX
    gi_wp2_with (gi_at_builtin; refine wpListIn_append_own _ rfl (.tmp 12) (.tmp 14) 22 rfl w.heap.size 9 i0 _ 1 16 Try.underlying22 hi0 hz0 hz1 hz2 rfl (by omega) _ k xs rfl (HO.out.alloc _) ⟨W.heap.size, 0, none⟩ 1 1 [.string X] rfl rfl (news_at W [.string X] 9) (strs_one 0 X) (by unfold maxLen; omega) (by omega) (by simp; omega) ?_)
    intro v' w4 hown4 hgrow4 hz4
    clear hz4
    obtain ⟨g', cap', hv', _, _⟩ := hown4.form (by omega)
    obtain ⟨cB1, fB1, hrv4, htc⟩ := pushed (by decide) HV.out HLEN.out HO.out ((Below.refl _ W).alloc (Nat.le_refl _) _) hgrow4 hown4 rfl
    subst hv'
    have hko := htc.others HRV.out
    have hbb := htc.below HRV.out hBl2 hsz
    have hrv5 : NamesIn l w Bl (pre ++ [(x, y)]) (w4.setCell ⟨Bl, 0, none⟩ (.slice (some ⟨g', 0, none⟩) (k + 1) cap')) := by
      refine ⟨?_, HBW.out.trans hbb⟩
      rw [List.length_append, List.length_singleton, ← HK.out, HST.out]
      exact hrv4
    have HKO := Lib.hid hko
    have HBB := Lib.hid hbb
    have HRV5 := Lib.hid hrv5
    clear hko hbb hrv5 hrv4 htc hown4 hgrow4
    gi_wp2
    exact ⟨HKO.out, HBB.out, HRV5.out⟩
  case done =>
    rintro D' ys W hD2 hys ⟨hrv, hbw⟩ hK'
    rw [hys, List.take_length] at hrv
    obtain ⟨v, hv, hown⟩ := hrv
    have cB := cell_of_one hv
    have HO := Lib.hid hown
    have HBW := Lib.hid hbw
    have HRV : Hid (RowVar 22 9 w.heap.size Bl (strs l) W) := Lib.hid ⟨v, hv, hown⟩
    clear hys hown hbw
    gi_wp2
    refine ⟨by simp, .inl ⟨_, _, rfl, run_takeDeferred hK', ?_⟩⟩
    refine ⟨_, results_tmp rfl _ _ _, ?_⟩
    have hfr := Firm.rowVar 0 _ _ _ _ _ W D' _ (.deferred none) (Nat.zero_le _) hK' rfl HRV.out
    obtain ⟨v2, hv2, ho2⟩ := hfr
    have hne : Bl ≠ D' := by have := HBL3.out; omega
    rw [World.putObj_heap_other hne, hv] at hv2
    simp at hv2
    subst hv2
    refine ⟨_, rfl, ?_, Firm.belowW (N := w3.heap.size) hsz3 W D' _ _ hD2 hK' rfl HBW.out⟩
    unfold OwnNm
    rw [strs_length] at ho2
    exact ho2
  case stop =>
    rintro D' c pre W _ _ hh _
    exact hh.elim
end Go.Proofs.Ytebdnjfohahpgaa
