/- Clone, All and List: a set's numbers, told in new memory. -/
import Derived.Test.YtkflmhpmnceniaaDoorAll03
import Derived.Test.YtkflmhpmnceniaaDoorRef03
set_option linter.unusedVariables false
namespace Go.Proofs.YtkflmhpmnceniaaDoor
open Go Go.RowKit Go.Shelf
open Plain (Wd WS Rep elems elemW ones)
attribute [local go_sem] Oper.semAt_some

/-- What slices.Clone gives of words. -/
def CloneGot (ws : List Wd) (w : World) (e : Ending) (w' : World) : Prop := ∃ v', e = .returned v' ∧ w'.ownsRow w.heap.size 59 2 v' ws.length (wcells ws) ∧ Below w.heap.size w w'
set_option maxHeartbeats 2000000 in
set_option maxRecDepth 100000 in
theorem clone_words (A : Option Addr) (n c : Nat) (ws : List Wd) (w : World) (hn : ws.length = n) (hr : Row w w.heap.size A (wcells ws)) (hA : A = none → n = 0 ∧ c = 0) (hl : n ≤ 33554432) :
    Calls Tryd.prog 42 #[.slice A n c] w (CloneGot ws w) := by
  obtain ⟨i0, hi0, hz0, hz1, hz2⟩ := info_parts info_word
  have qe : ∀ (w : World) (a : Option Addr) (n c n' c' : Nat), (binOp .eql 54 (.slice a n c) (.slice none n' c')).run Tryd.prog w = .ok (.bool a.isNone) w := fun w a n c n' c' => Lib.run_eql_slice_nil w _ _ a n c n' c' Tryd.underlying54
  subst hn
  cases A with
  | none =>
    obtain ⟨h0, rfl⟩ := hA rfl
    obtain rfl : ws = [] := List.eq_nil_of_length_eq_zero h0
    clear hA hr h0
    go_enter Tryd.func42, Tryd.ntmps42
    go_wp2
    go_ret
    exact ⟨_, rfl, World.ownsRow_nil w w.heap.size _ 2, Below.refl _ _⟩
  | some ad =>
    have HR := Lib.hid hr
    have hwl := wcells_length ws
    have HWL := Lib.hid hwl
    have H1 := Lib.hid (wcells_one ws)
    clear hA hr hwl
    have hlit : (w.alloc (.cells #[] 59)).ownsRow w.heap.size 59 2 (.slice (some ⟨w.heap.size, 0, none⟩) 0 0) 0 [] := World.ownsRow_made w #[] 0 (Nat.le_refl _) (Nat.zero_le _) rfl
    go_enter Tryd.func42, Tryd.ntmps42
    go_wp2_with (at_builtin; (refine wpList_append_row _ rfl (.tmp 5) (.tmp 6) 54 rfl w.heap.size 59 i0 _ 2 16 Tryd.underlying54 hi0 hz0 hz1 hz2 rfl (by decide) _ 0 [] rfl hlit _ _ ws.length c (wcells ws) rfl HWL.out ((HR.out.below ((Below.refl _ w).alloc (Nat.le_refl _) (.cells #[] 59))).more (B' := (w.alloc (.cells #[] 59)).heap.size) (by simp)) H1.out (by unfold maxLen; omega) (by omega) (by simp) ?_))
    intro v' w' hown hgrow
    go_wp2
    go_ret
    exact ⟨_, rfl, hown, ((Below.refl _ _).alloc (Nat.le_refl _) _).grown hgrow (by simp) (fun k hk => by cases hk; exact Nat.le_refl _)⟩

theorem row_drew {w : World} {B : Nat} {A : Option Addr} {xs : List Value} (h : Row w B A xs) : Row w.drew B A xs := h
theorem below_undrew {B : Nat} {w w1 : World} (h : Below B w.drew w1) : Below B w w1 := ⟨h.os, h.tape, h.output, h.size, h.block⟩

/-- What Clone gives: another set, in new memory. -/
def ClonedAt (r : List Bool) (w : World) (C : Nat) (w' : World) : Prop := SetIs w' w.heap.size C r ∧ Below w.heap.size w w'
def SetGot (r : List Bool) (w : World) (e : Ending) (w' : World) : Prop := ∃ C, e = .returned (.pointer (some ⟨C, 0, none⟩)) ∧ ClonedAt r w C w'
theorem boxed_set {w w1 : World} {n : Nat} {ws : List Wd} {r : List Bool} {v : Value} (hr : Rep r ws) (hn : r.length = n) (hb : Below w.heap.size w w1) (ho : w1.ownsRow w.heap.size 59 2 v ws.length (wcells ws)) :
    ClonedAt r w w1.heap.size (w1.alloc (.cells #[.int .i64 n, v] 56)) := by
  subst hn
  exact ⟨⟨ws, ⟨hb.size, v, heap_alloc_new w1 _, ho.alloc _⟩, hr⟩, hb.alloc hb.size _⟩
theorem ClonedAt.drew {r : List Bool} {w : World} {C : Nat} {w' : World} (h : ClonedAt r w C w') : ClonedAt r w C w'.drew := ⟨h.1, h.2.drew⟩

set_option maxHeartbeats 2000000 in
set_option maxRecDepth 100000 in
theorem set_Clone (base B : Nat) (r : List Bool) (w : World) (h : SetIs w base B r) (hn : r.length ≤ big) :
    Calls Tryd.prog 25 #[.pointer (some ⟨B, 0, none⟩)] w (SetGot r w) := by
  obtain ⟨ws, hs, hrep⟩ := h
  have hl := (len_big hrep.wds hn).1
  have HLT := Lib.hid hs.lt
  obtain ⟨_, v, hv, ho⟩ := hs
  obtain ⟨c0, c1, _, _⟩ := cell_two hv
  have hA : ∃ A c, v = .slice A ws.length c ∧ Row w w.heap.size A (wcells ws) ∧ (A = none → ws.length = 0 ∧ c = 0) := by
    rcases ho.2 with ⟨rfl, h0⟩ | ⟨g, c, cur, rfl, _⟩
    · exact ⟨none, 0, by rw [h0], by rw [List.eq_nil_of_length_eq_zero h0]; exact Row.nil, fun _ => ⟨h0, rfl⟩⟩
    · exact ⟨_, c, rfl, owned_row_of ho, fun e => by cases e⟩
  obtain ⟨A, c, rfl, hr, hA⟩ := hA
  have HC : Hid (∀ w2, Row w2 w2.heap.size A (wcells ws) → Calls Tryd.prog 42 #[.slice A ws.length c] w2 (CloneGot ws w2)) := Lib.hid fun w2 h => clone_words A ws.length c ws w2 rfl h hA (by omega)
  have HR := Lib.hid hr
  have HREP := Lib.hid hrep
  have HRN := Lib.hid (rfl : r.length = r.length)
  obtain ⟨n, hne⟩ : ∃ n, n = r.length := ⟨_, rfl⟩
  rw [← hne] at c0
  have HNE := Lib.hid hne.symm
  clear hne hv ho hr hA hrep hn
  go_enter Tryd.func25, Tryd.ntmps25
  go_wp2
  go_region_with (go_at_call 42; refine (HC.out _ (row_drew HR.out)).mono ?_; rintro e w1 ⟨v', rfl, hown, hb⟩; obtain ⟨A2, c2, rfl, hc2, hr2⟩ := owned_row hown; have c0' := (hb.cell (p := ⟨B, 0, none⟩) HLT.out).trans c0; have c1' := (hb.cell (p := ⟨B, 1, none⟩) HLT.out).trans c1)
  all_goals
    go_wp2
    go_ret
    exact ⟨_, rfl, (boxed_set HREP.out HNE.out (below_undrew hb) hown)⟩

/-- What All gives: a function that leads to a clone of the set. -/
def AllAt (r : List Bool) (w : World) (D C : Nat) (ws : List Wd) (w' : World) : Prop :=
  w.heap.size ≤ D ∧ w.heap.size ≤ C ∧ w'.cell? ⟨D, 0, none⟩ = some (.pointer (some ⟨C, 0, none⟩)) ∧ SetAt w' w.heap.size C r.length ws ∧ Rep r ws ∧ Below w.heap.size w w'
def AllGot (r : List Bool) (w : World) (e : Ending) (w' : World) : Prop := ∃ D C ws, e = .returned (.func (.func 39) #[] #[.pointer (some ⟨D, 0, none⟩)]) ∧ AllAt r w D C ws w'
set_option maxHeartbeats 1000000 in
theorem set_All (base B : Nat) (r : List Bool) (w : World) (h : SetIs w base B r) (hn : r.length ≤ big) :
    Calls Tryd.prog 22 #[.pointer (some ⟨B, 0, none⟩)] w (AllGot r w) := by
  have HC := Lib.hid (set_Clone base B r w h hn)
  clear h hn
  go_enter Tryd.func22, Tryd.ntmps22
  go_wp2_with (go_at_call 25; refine HC.out.mono ?_)
  rintro e w1 ⟨C, rfl, ⟨⟨ws, hs, hrep⟩, hb⟩⟩
  have hz := hb.size
  have HS := Lib.hid hs
  have HREP := Lib.hid hrep
  have HB := Lib.hid hb
  clear hs hrep hb
  go_wp2
  go_ret
  refine ⟨w1.heap.size, C, ws, rfl, hz, HS.out.1, by simp [World.cell?_alloc_at], HS.out.below ((Below.refl _ _).alloc (Nat.le_refl _) _), HREP.out, HB.out.alloc hz _⟩

theorem AllAt.reads {r : List Bool} {w w' : World} {D C : Nat} {ws : List Wd} (h : AllAt r w D C ws w') (hT : Tab w) {X : Nat → Prop} (hX : ∀ k, X k → k < w.heap.size) (hg : ¬ X 0) : Reads X D C r.length ws w' := by
  obtain ⟨h1, h2, h3, h4, h5, h6⟩ := h
  refine ⟨h3, h4.low (Nat.zero_le _), hT.below h6 hT.lt, fun e => ?_, fun e => ?_, fun g hgo e => ?_, hg⟩
  · have := hX D e; omega
  · have := hX C e; omega
  · have := hX g e
    have := (h4.own g hgo).1
    omega
/-- The function that All hands back, as a range over it wants it. -/
theorem all_stops (n D C : Nat) (hn : 1 ≤ n) (X : Nat → Prop) (r : List Bool) (ws : List Wd) (hrep : Rep r ws) (hN : r.length ≤ big) (w : World) (hX : ∀ k, X k → k < w.heap.size) (hR : Reads X D C r.length ws w) :
    SeqStopsK Fence.wide n Tryd.prog 39 #[.pointer (some ⟨D, 0, none⟩)] (fun x : Nat => #[Value.int .i64 ((x : Nat) : Int)]) (KpX X) (fun ys => ys = ones r) (fun pre => pre <+: ones r) (ones r).length w := by
  intro l J Jx W hW hJ _ hY h0
  rw [← Plain.elems_eq hrep] at *
  exact all_1_in n l D C r.length hn X ws hrep.wds hN J Jx W (fun k hk => Nat.lt_of_lt_of_le (hX k hk) hW.size) hJ hY (hR.keep (KpX.of_below hW)) h0

set_option maxHeartbeats 4000000 in
set_option maxRecDepth 100000 in
theorem set_List (base B : Nat) (r : List Bool) (w : World) (h : SetIs w base B r) (hn : r.length ≤ big) (hT : Tab w) :
    Calls Tryd.prog 19 #[.pointer (some ⟨B, 0, none⟩)] w (GaveNats (ones r) w) := by
  obtain ⟨i0, hi0, hz0, hz1, hz2⟩ := info_parts info_i64
  refine (callsIn_wide (n := 6)).1 ?_
  have HC := Lib.hid (set_Count_is base B r w h hn)
  have HA : Hid (∀ w2, SetIs w2 base B r → Calls Tryd.prog 22 #[.pointer (some ⟨B, 0, none⟩)] w2 (AllGot r w2)) := Lib.hid fun w2 h2 => set_All base B r w2 h2 hn
  have hk := Plain.ones_length r
  have H := Lib.hid h
  have HT := Lib.hid hT
  have HN := Lib.hid hn
  unfold big at hn
  obtain ⟨K, hK⟩ : ∃ K, K = (ones r).length := ⟨_, rfl⟩
  rw [← hK] at HC hk
  have HK := Lib.hid hK
  have hKb : K ≤ 1073741824 := by omega
  clear h hT hn hK hk
  refine callsIn_of_wp_marks Tryd.func19 rfl trivial ?_ rfl
  simp only [Tryd.ntmps19, List.size_toArray, List.length_cons, List.length_nil, Nat.reduceAdd, Nat.reduceSub, Array.replicate_succ, Array.replicate_zero, List.push_toArray, List.append_toArray, List.nil_append, List.cons_append]
  gi_wp2_with (first
    | (refine ⟨trivial, ?_⟩; gi_at_call 23; refine (callsIn_wide.2 HC.out).mono ?_; rintro e w' ⟨rfl, rfl⟩)
    | (gi_at_call 23; refine (callsIn_wide.2 HC.out).mono ?_; rintro e w' ⟨rfl, rfl⟩)
    | (gi_at_make; refine wpListIn_make_own _ rfl _ _ 36 rfl w.heap.size 3 i0 _ 1 Tryd.underlying36 hi0 hz0 hz1 _ _ _ K rfl rfl rfl (by rw [hz2]; omega) (by unfold maxLen; omega) (Nat.le_refl _) ?_))
  intro w1 hown hgrow
  have hb1 : Below w.heap.size w w1 := (Below.refl _ _).grown hgrow (Nat.le_refl _) (fun k hk => by cases hk)
  have hz1' := hb1.size
  have hrlt := (hown.lt w.heap.size rfl).2
  have HB1 := Lib.hid hb1
  have HO1 := Lib.hid hown
  clear hb1 hown hgrow
  have hb2 : Below w.heap.size w (w1.alloc (.cells #[.slice (some ⟨w.heap.size, 0, none⟩) 0 K] 36)) := HB1.out.alloc hz1' _
  have HA2 := Lib.hid (HA.out _ (H.out.below hb2))
  have HB2 := Lib.hid hb2
  clear hb2
  gi_wp2_with (first
    | (refine ⟨trivial, ?_⟩; gi_at_call 22; refine (callsIn_wide.2 HA2.out).mono ?_)
    | (gi_at_call 22; refine (callsIn_wide.2 HA2.out).mono ?_))
  rintro e w3 ⟨D, C, ws, rfl, hall⟩
  have hrep := hall.2.2.2.2.1
  have hb23 := hall.2.2.2.2.2
  have hz3 := hb23.size
  simp only [World.size_alloc] at hz3
  have hbox : Boxed w3 w1.heap.size 36 (.slice (some ⟨w.heap.size, 0, none⟩) 0 K) := (hb23.block w1.heap.size (by simp)).trans (World.alloc_heap_new w1 _)
  have hrow3 : w3.ownsRow w.heap.size 3 1 (.slice (some ⟨w.heap.size, 0, none⟩) 0 K) 0 [] := owned_below (HO1.out.alloc _) hb23
  have hB3 : Below w.heap.size w w3 := HB2.out.trans (hb23.mono HB2.out.size)
  have hT2 := HT.out.below HB2.out HT.out.lt
  have hTlt := HT.out.lt
  have hR3 := hall.reads hT2 (X := fun k => k = w1.heap.size ∨ k = w.heap.size) (fun k hk => by simp; omega) (by omega)
  have hst := all_stops 5 D C (by omega) (fun k => k = w1.heap.size ∨ k = w.heap.size) r ws hrep HN.out w3 (fun k hk => by omega) hR3
  rw [← HK.out] at hst
  obtain ⟨Bl, hBl⟩ : ∃ Bl, Bl = w1.heap.size := ⟨_, rfl⟩
  obtain ⟨Rl, hRl⟩ : ∃ Rl, Rl = w.heap.size := ⟨_, rfl⟩
  rw [← hBl, ← hRl] at hst hbox
  rw [← hRl] at hrow3 hB3
  have hBR : Rl ≤ Bl := by omega
  have hRw3 : Rl ≤ w3.heap.size := by omega
  have HBL := Lib.hid hBl
  have HRL := Lib.hid hRl
  have HST := Lib.hid hst
  gi_wp2
  rw [← hBl, ← hRl]
  have HFIN : Hid (∀ e w', GaveNats (ones r) w e w' ↔ ∃ v, e = .returned v ∧ w'.ownsRow Rl 3 1 v (ones r).length (icells (ones r)) ∧ Below Rl w w') := Lib.hid fun e w' => by rw [HRL.out]; exact Iff.rfl
  clear hall hb23 hz3 hR3 hst hT2 hBl hRl hrep
  refine wpIn_rangeFunc_ownF rfl (by omega) (gf := 39) (lb := #[.pointer (some ⟨D, 0, none⟩)]) rfl trivial (enters_of Tryd.func39 (by kernel_rfl) rfl)
    HST.out (fun h k => h.trans k) (fun W l o o' _ ho hc _ => KpX.putObj _ W l o o' ho hc) (Below.refl _ _) (fun _ => rfl)
    (fun pre W => (∃ v, Boxed W Bl 36 v ∧ W.ownsRow Rl 3 1 v pre.length (icells pre) ∧ v = .slice (some ⟨Rl, 0, none⟩) pre.length K) ∧ Below Rl w W)
    (fun _ _ _ => False)
    (OwnFrom.and (Own.from (holdsRow_own Rl Bl 36 3 1 (fun pre => pre.length) (fun pre => icells pre) (fun pre v => v = .slice (some ⟨Rl, 0, none⟩) pre.length K)) _) (ownFrom_below (by rw [HRL.out]; exact Nat.le_refl _) hRw3))
    (fun _ _ _ _ _ hs _ _ => hs)
    ⟨⟨_, hbox, hrow3, rfl⟩, hB3⟩
    (fun x => { tmps := #[.pointer (some ⟨B, 0, none⟩), undef, .slice none 0 0, .pointer (some ⟨Bl, 0, none⟩), .int .i64 ((x : Nat) : Int), .pointer (some ⟨B, 0, none⟩), .int .i64 K, .slice (some ⟨Rl, 0, none⟩) 0 K, .pointer (some ⟨B, 0, none⟩), .func (.func 39) #[] #[.pointer (some ⟨D, 0, none⟩)], .int .i64 ((x : Nat) : Int), undef, undef, undef, undef, undef], defers := [] }) ?assign ?body ?done ?stop
  case assign =>
    intro l x W K' hK'
    gi_wp2
    exact hK'
  case body =>
    rintro l pre x W ⟨⟨v, hbx, hown, rfl⟩, hB⟩ hlen
    have hcell := hbx.cell
    have hz := hB.size
    have HO := Lib.hid hown
    have HBX := Lib.hid hbx
    have HBW := Lib.hid hB
    clear hown hbx hB
    gi_wp2_with (gi_at_builtin; refine wpListIn_append_fits _ rfl (.tmp 11) (.tmp 13) 36 rfl Rl 3 i0 1 Tryd.underlying36 hi0 hz1 Rl pre.length K (icells pre) rfl (HO.out.alloc _) ⟨W.heap.size, 0, none⟩ 1 1 (icells [x]) rfl rfl (cell_one_new _ _ _) (icells_one _) hlen ?_)
    intro w4 hown4 hgrow4
    have hzW : Rl ≤ W.heap.size := by have := HRL.out; omega
    obtain ⟨a1, a2, a3, a4, a5⟩ := HBX.out.appended (by decide) HO.out hzW hBR hown4 hgrow4
    have hc4 := a1.cell
    have hf4 := a1.frozen
    have hKP : KpX (fun k => k = Bl ∨ k = Rl) W (w4.setCell ⟨Bl, 0, none⟩ (.slice (some ⟨Rl, 0, none⟩) (pre.length + 1) K)) := by
      refine ⟨a5.size, fun k hk hx o ho hc => ?_⟩
      rw [Below.heap_setCell _ _ _ _ (fun e => hx (.inl e)), hgrow4.block k (by simp; omega) (fun e => hx (.inr (by injection e))), Below.heap_alloc _ _ _ hk]
      exact ho
    have HKP := Lib.hid hKP
    have H2 := Lib.hid a2
    have H3 := Lib.hid a3
    have H4 := Lib.hid a4
    have H5 := Lib.hid a5
    clear hKP a1 a2 a3 a4 a5 hown4 hgrow4
    gi_wp2
    exact ⟨H4.out, HKP.out, ⟨_, H2.out, by rw [List.length_append, icells_append]; exact H3.out, by rw [List.length_append]; rfl⟩, HBW.out.trans H5.out⟩
  case done =>
    rintro D' ys W hD rfl ⟨⟨v, hbx, hown, rfl⟩, hB⟩ hK'
    have hcell := hbx.cell
    have HO := Lib.hid hown
    have HBW := Lib.hid hB
    clear hown hB hbx
    gi_wp2
    refine ⟨by simp, .inl ⟨_, _, rfl, run_takeDeferred hK', ?_⟩⟩
    refine ⟨_, results_tmp rfl _ _ _, ?_⟩
    rw [HFIN.out]
    exact ⟨_, rfl, ownsRow_putObj HO.out _ hK' rfl, HBW.out.trans (belowK_b (w := w) (by rw [HRL.out]; exact Nat.le_refl _) W D' _ _ (by have := HRL.out; omega) hK' rfl rfl)⟩
  case stop =>
    rintro D' c pre W _ _ h _
    exact h.elim
end Go.Proofs.YtkflmhpmnceniaaDoor
