/- BitsAll, walked: true for every input. -/
import Derived.Test.YtkflmhpmnceniaaDoorLike03
import Derived.Test.YtkflmhpmnceniaaDoorFull03
set_option linter.unusedVariables false
namespace Go.Proofs.YtkflmhpmnceniaaDoor
open Go Go.RowKit Go.Shelf
open Plain (Wd WS Rep hasB mayB turnB turnedB ones nextB rankB)
attribute [local go_sem] Oper.semAt_some

theorem AllAt.reads_new {r : List Bool} {w w' : World} {D C : Nat} {ws : List Wd} (h : AllAt r w D C ws w') (hT : Tab w) (o : Obj) : Reads (fun k => k = w'.heap.size) D C r.length ws (w'.alloc o) := by
  obtain ⟨h1, h2, h3, h4, h5, h6⟩ := h
  have hb : Below w'.heap.size w' (w'.alloc o) := (Below.refl _ _).alloc (Nat.le_refl _) o
  have hD := World.block_lt_of_cell? w' _ h3
  have hC := h4.lt
  refine ⟨(hb.cell (p := ⟨D, 0, none⟩) hD).trans h3, (h4.low (Nat.zero_le _)).below hb, (hT.below h6 hT.lt).alloc o, fun e => ?_, fun e => ?_, fun g hgo e => ?_, fun e => ?_⟩
  · have hD' : D < w'.heap.size := hD
    omega
  · omega
  · rw [setOwn_eq (hb.block C hC)] at hgo
    have := (h4.own g hgo).2
    omega
  · have h7 := hT.lt
    have := h6.size
    omega

theorem boxed_keepX {X : Nat → Prop} {W W' : World} {B : Nat} {t : TypeId} {v : Value} (h : Boxed W B t v) (hk : KpX X W W') (hx : ¬ X B) : Boxed W' B t v := hk.2 B h.lt hx _ h rfl
theorem boxed_below {n : Nat} {W W' : World} {B : Nat} {t : TypeId} {v : Value} (h : Boxed W B t v) (hb : Below n W W') (hB : B < n) : Boxed W' B t v := (hb.block B hB).trans h
theorem boxed_apart {W : World} {B B' : Nat} {t : TypeId} {v : Value} (h : Boxed W B t v) (hne : B ≠ B') (u : Value) : Boxed (W.setCell ⟨B', 0, none⟩ u) B t v := by
  unfold Boxed
  rw [Below.heap_setCell _ _ _ _ hne]
  exact h
theorem boxed_putObj {W : World} {B l : Nat} {t : TypeId} {v : Value} {o : Obj} (h : Boxed W B t v) (hne : B ≠ l) : Boxed (W.putObj l o) B t v := by
  unfold Boxed
  rw [World.putObj_heap_other hne]
  exact h
theorem KpX.setCell {X : Nat → Prop} (W : World) {B : Nat} (hx : X B) (u : Value) : KpX X W (W.setCell ⟨B, 0, none⟩ u) :=
  ⟨by simp [World.setCell], fun k hk hnx o ho _ => by rw [Below.heap_setCell _ _ _ _ (fun e => hnx (by rw [e]; exact hx))]; exact ho⟩
theorem kpX_own {β : Type} (X : Nat → Prop) (w0 : World) (B : Nat) : OwnFrom B (fun (_ : β) W => KpX X w0 W) := fun s W W' row hs hg hr => by
  refine ⟨Nat.le_trans hs.1 hg.size, fun k hk hx o ho hc => ?_⟩
  have h1 := hs.2 k hk hx o ho hc
  have hkW : k < W.heap.size := (Array.getElem?_eq_some_iff.1 h1).1
  rw [hg.block k hkW (fun e => ?_)]
  · exact h1
  · obtain ⟨_, o', ho', hc'⟩ := hr k e.symm
    rw [h1] at ho'
    injection ho' with ho'
    rw [← ho', hc] at hc'
    cases hc'
theorem results_bool {fn : Func} {p : Tmp} (h : fn.results = #[.cell p 4]) (tmps : Array Value) (w : World) (g : Nat) (b : Bool) (hp : tmps.getD p undef = .pointer (some ⟨g, 0, none⟩)) (hc : w.cell? ⟨g, 0, none⟩ = some (.bool b)) :
    (results fn tmps).run Tryd.prog w = .ok (.bool b) w := by
  have hp' : tmps[p]?.getD undef = .pointer (some ⟨g, 0, none⟩) := by simpa using hp
  simp [results, h, hp', asAddr, go_sem, Tryd.underlying4, hc]

def AllIn (X : Nat → Prop) (Bk : Nat) (w w5 : World) (pre : List Nat) (W : World) : Prop := Boxed W Bk 3 (.int .i64 ((pre.length : Nat) : Int)) ∧ KpX X w5 W ∧ Below w.heap.size w W
def AllOut (X : Nat → Prop) (Bk : Nat) (w w5 : World) (most : Int) (l : List Nat) (c : Code) (pre : List Nat) (W : World) : Prop := (c = .exit 0 ∧ ((pre.length : Nat) : Int) = most ∧ AllIn X Bk w w5 pre W) ∨ ¬ pre <+: l

set_option maxHeartbeats 8000000 in
set_option maxRecDepth 100000 in
theorem walk_BitsAll (n : Int) (a : Option Addr) (len cap : Nat) (ds : List (Int × Int)) (most : Int) (w : World) (hn : n < 9223372036854775808) (hn0 : -9223372036854775808 ≤ n) (hd : InDeeds w a len cap ds) (hm : most < 9223372036854775808) (hm0 : -9223372036854775808 ≤ most) (hT : Tab w) :
    Calls Tryd.prog 5 #[.int .i64 n, .slice a len cap, .int .i64 most] w (GaveTrue w) := by
  refine (callsIn_wide (n := 6)).1 ?_
  have qf : ∀ (w : World) (D : Nat), (binOp .eql 42 (.func (.func 39) #[] #[.pointer (some ⟨D, 0, none⟩)]) .nilFunc).run Tryd.prog w = .ok (.bool false) w := fun w D => by kernel_rfl
  have HZ := Lib.hid (fun w => law03_size n w hn hn0)
  have HM := Lib.hid (fun w hd hT => law03_made (sizeI n) a len cap ds w (sizeI_le n) (sizeI_ge n hn0) hd hT)
  have HF := Lib.hid (fun w => bits_Full (sizeI n) w (by have := sizeI_le n; omega))
  have hN : (sizeI n).toNat ≤ 200 := by have := sizeI_le n; omega
  have HT := Lib.hid hT
  have HD := Lib.hid hd
  have HN1 := Lib.hid hn
  have HN0 := Lib.hid hn0
  have HM1 := Lib.hid hm
  have HM0 := Lib.hid hm0
  obtain ⟨N, hNe⟩ : ∃ N, N = (sizeI n).toNat := ⟨_, rfl⟩
  rw [← hNe] at HM HF hN
  obtain ⟨Z, hZe⟩ : ∃ Z, Z = sizeI n := ⟨_, rfl⟩
  rw [← hZe] at HM HF HZ
  clear hNe hZe hd hT hn hn0 hm hm0
  have hb0 : Below w.heap.size w ((w.alloc (.cells #[.int .i64 most] 3)).alloc (.cells #[.bool false] 4)) := ((Below.refl _ _).alloc (Nat.le_refl _) _).alloc (by simp) _
  have HM2 := Lib.hid (HM.out _ (HD.out.below hb0) (HT.out.below hb0 HT.out.lt))
  have HB0 := Lib.hid hb0
  clear hb0
  refine callsIn_of_wp_marks Tryd.func5 rfl trivial ?_ rfl
  simp only [Tryd.ntmps5, List.size_toArray, List.length_cons, List.length_nil, Nat.reduceAdd, Nat.reduceSub, Array.replicate_succ, Array.replicate_zero, List.push_toArray, List.append_toArray, List.nil_append, List.cons_append]
  gi_wp2_with (first
    | (refine ⟨trivial, ?_⟩; gi_at_call 10; refine (callsIn_wide.2 (HZ.out _)).mono ?_; rintro e w' ⟨rfl, rfl⟩)
    | (gi_at_call 10; refine (callsIn_wide.2 (HZ.out _)).mono ?_; rintro e w' ⟨rfl, rfl⟩)
    | (refine ⟨trivial, ?_⟩; gi_at_call 9; refine (callsIn_wide.2 HM2.out).mono ?_)
    | (gi_at_call 9; refine (callsIn_wide.2 HM2.out).mono ?_))
  rintro e w1 ⟨B, v, r, rfl, hrl, hset, hown, hb1⟩
  have hrb : r.length ≤ big := by unfold big; omega
  obtain ⟨w0, hw0⟩ : ∃ w0, w0 = (w.alloc (.cells #[.int .i64 most] 3)).alloc (.cells #[.bool false] 4) := ⟨_, rfl⟩
  have hbx0 : Boxed w0 w.heap.size 3 (.int .i64 most) := by rw [hw0]; exact (Boxed.new w 3 _).alloc _
  have hbr0 : Boxed w0 (w.heap.size + 1) 4 (.bool false) := by rw [hw0]; have := Boxed.new (w.alloc (.cells #[.int .i64 most] 3)) 4 (.bool false); rwa [World.size_alloc] at this
  rw [← hw0] at hset hown hb1 HB0
  have hz0 : w0.heap.size = w.heap.size + 2 := by rw [hw0]; simp
  have HW0 := Lib.hid hw0
  have HBX := Lib.hid hbx0
  have HBR := Lib.hid hbr0
  have HRB := Lib.hid hrb
  have HRL := Lib.hid hrl
  have HSET := Lib.hid hset
  have HOWN := Lib.hid hown
  have HB1 := Lib.hid hb1
  clear hw0 hbx0 hbr0 hset hown hb1 hrl hrb HM2 HM
  gi_wp2_with (first
    | (refine ⟨trivial, ?_⟩; gi_at_call 10; refine (callsIn_wide.2 (HZ.out _)).mono ?_; rintro e w' ⟨rfl, rfl⟩)
    | (gi_at_call 10; refine (callsIn_wide.2 (HZ.out _)).mono ?_; rintro e w' ⟨rfl, rfl⟩)
    | (refine ⟨trivial, ?_⟩; gi_at_call 20; refine (callsIn_wide.2 (HF.out _)).mono ?_)
    | (gi_at_call 20; refine (callsIn_wide.2 (HF.out _)).mono ?_))
  rintro e w2 ⟨rfl, hf2, hb2⟩
  have hB2 := HB1.out.trans (hb2.mono HB1.out.size)
  have hown2 := owned_below HOWN.out hb2
  obtain ⟨A, c, rfl, hc, hr2⟩ := owned_row hown2
  have HL := Lib.hid (ref03_List A r.length c r w2 rfl hr2 HRB.out)
  have HF2 := Lib.hid hf2
  have HO2 := Lib.hid hown2
  have HS2 := Lib.hid (HSET.out.below hb2)
  have HBB2 := Lib.hid hB2
  clear hf2 hB2 hown2 hr2 hb2
  gi_wp2_with (first
    | (refine ⟨trivial, ?_⟩; gi_at_call 21; refine (callsIn_wide.2 HL.out).mono ?_)
    | (gi_at_call 21; refine (callsIn_wide.2 HL.out).mono ?_))
  rintro e w3 ⟨v3, rfl, hown3, hb3⟩
  obtain ⟨A3, c3, rfl, hc3, hr3⟩ := owned_row hown3
  have hb3' : Below w2.heap.size w2 (w3.alloc (.cells #[.slice A3 (ones r).length c3] 36)) := hb3.alloc hb3.size _
  have HA := Lib.hid (set_All w0.heap.size B r _ (HS2.out.below hb3') HRB.out)
  have HB3 := Lib.hid hb3'
  have HO3 := Lib.hid hown3
  clear hown3 hr3 hb3 hb3'
  gi_wp2_with (first
    | (refine ⟨trivial, ?_⟩; gi_at_call 22; refine (callsIn_wide.2 HA.out).mono ?_)
    | (gi_at_call 22; refine (callsIn_wide.2 HA.out).mono ?_))
  rintro e w4 ⟨D, C, ws, rfl, hall⟩
  have hrep := hall.2.2.2.2.1
  have hb34 := hall.2.2.2.2.2
  have hz34 := hb34.size
  simp only [World.size_alloc] at hz34
  have hz02 := HBB2.out.size
  have hz12 := HB1.out.size
  have hF2lt := HF2.out.lt
  have hz23 := HB3.out.size
  simp only [World.size_alloc] at hz23
  have hTlt := HT.out.lt
  obtain ⟨w5, hw5⟩ : ∃ w5, w5 = w4.alloc (.cells #[.int .i64 0] 3) := ⟨_, rfl⟩
  obtain ⟨Bk, hBk⟩ : ∃ Bk, Bk = w4.heap.size := ⟨_, rfl⟩
  obtain ⟨Bw, hBw⟩ : ∃ Bw, Bw = w3.heap.size := ⟨_, rfl⟩
  have hb45 : Below w4.heap.size w4 w5 := by rw [hw5]; exact (Below.refl _ _).alloc (Nat.le_refl _) _
  have hz5 : w5.heap.size = Bk + 1 := by rw [hw5, hBk]; simp
  have hb25 : Below w2.heap.size w2 w5 := HB3.out.trans ((hb34.mono (by simp; omega)).trans (hb45.mono (by omega)))
  have hb05 : Below w.heap.size w w5 := HB0.out.trans ((HBB2.out.mono (by omega)).trans (hb25.mono (by omega)))
  have hboxw : Boxed w5 Bw 36 (.slice A3 (ones r).length c3) := by
    have h1 : Boxed (w3.alloc (.cells #[.slice A3 (ones r).length c3] 36)) w3.heap.size 36 (.slice A3 (ones r).length c3) := Boxed.new _ _ _
    have h2 := boxed_below h1 hb34 (by simp)
    rw [hBw]
    exact boxed_below h2 hb45 (by omega)
  have hrow5 : ∀ (k : Nat) (hk : k < (ones r).length), ∃ b o, A3 = some ⟨b, o, none⟩ ∧ b < Bk ∧ w5.cell? ⟨b, o + k, none⟩ = some (.int .i64 (((ones r)[k]'hk : Nat) : Int)) := by
    intro k hk
    have h1 : Row w4 w4.heap.size A3 (icells (ones r)) := owned_row_of (owned_below (HO3.out.alloc _) hb34)
    obtain ⟨b1, o1, e1, h2, h3⟩ := row_nat h1 hk
    exact ⟨b1, o1, e1, by omega, (hb45.cell (p := ⟨b1, o1 + k, none⟩) h2).trans h3⟩
  have hboxm : Boxed w5 w.heap.size 3 (.int .i64 most) := boxed_below (boxed_below HBX.out HBB2.out (by omega)) hb25 (by omega)
  have hboxr : Boxed w5 (w.heap.size + 1) 4 (.bool false) := boxed_below (boxed_below HBR.out HBB2.out (by omega)) hb25 (by omega)
  have hboxk : Boxed w5 Bk 3 (.int .i64 (([] : List Nat).length : Nat)) := by rw [hw5, hBk]; exact Boxed.new _ _ _
  have hf5 : SetAt w5 w1.heap.size w1.heap.size N (Plain.fullW N) := HF2.out.below hb25
  have hfown : ∀ g, setOwn w5 w1.heap.size = some g → ¬ g = Bk := by
    intro g hg
    rw [setOwn_eq (hb25.block _ hF2lt)] at hg
    have := (HF2.out.own g hg).2
    omega
  have hT2 : Tab (w3.alloc (.cells #[.slice A3 (ones r).length c3] 36)) := ((HT.out.below HB0.out hTlt).below HBB2.out (by omega)).below HB3.out (by omega)
  have hT5 : Tab w5 := HT.out.below hb05 hTlt
  have hR5 := hall.reads_new hT2 (.cells #[.int .i64 0] 3)
  rw [← hw5, ← hBk] at hR5
  have hst := all_stops 5 D C (by omega) (fun k => k = Bk) r ws hrep HRB.out w5 (fun k hk => by omega) hR5
  obtain ⟨l, hl⟩ : ∃ l, l = ones r := ⟨_, rfl⟩
  rw [← hl] at hst hboxw hrow5
  obtain ⟨L, hL⟩ : ∃ L, L = l.length := ⟨_, rfl⟩
  rw [← hL] at hst hboxw
  have HST := Lib.hid hst
  have HL5 := Lib.hid hL
  have HLE := Lib.hid hl
  have HROW := Lib.hid hrow5
  have HBW := Lib.hid hboxw
  have HBM := Lib.hid hboxm
  have HBR5 := Lib.hid hboxr
  have HBK := Lib.hid hboxk
  have HF5 := Lib.hid hf5
  have HXG := Lib.hid hfown
  have HT5 := Lib.hid hT5
  have HB05 := Lib.hid hb05
  have HXW : Hid (¬ Bw = Bk) := Lib.hid (by omega)
  have HXM : Hid (¬ w.heap.size = Bk) := Lib.hid (by omega)
  have HXR : Hid (¬ w.heap.size + 1 = Bk) := Lib.hid (by omega)
  have HXF : Hid (¬ w1.heap.size = Bk) := Lib.hid (by omega)
  have HXT : Hid (¬ 0 = Bk) := Lib.hid (by omega)
  have HZ5 : Hid (w5.heap.size = Bk + 1 ∧ w.heap.size + 2 ≤ Bk) := Lib.hid ⟨hz5, by omega⟩
  have HLL : Hid (L ≤ 1073741824) := Lib.hid (by rw [hL, hl]; have := Plain.ones_length r; have := HRL.out; omega)
  clear hall hb34 hz34 hz02 hz12 hF2lt hz23 hTlt hb45 hz5 hb25 hb05 hboxw hrow5 hboxm hboxr hboxk hf5 hfown hT2 hT5 hR5 hst hrep hz0
  gi_wp2
  rw [← hw5, ← hl, ← hL, ← hBk, ← hBw]
  clear hw5 hBk hBw hL hl
  refine wpIn_rangeFunc_ownF rfl (by omega) (gf := 39) (lb := #[.pointer (some ⟨D, 0, none⟩)]) rfl trivial (enters_of Tryd.func39 (by kernel_rfl) rfl)
    HST.out (fun h k => h.trans k) (fun W l o o' _ ho hc _ => KpX.putObj _ W l o o' ho hc) (Below.refl _ _) (fun _ => rfl)
    (AllIn (fun k => k = Bk) Bk w w5)
    (AllOut (fun k => k = Bk) Bk w w5 most l)
    (OwnFrom.and (Own.from (boxed_own Bk 3 (fun pre : List Nat => .int .i64 ((pre.length : Nat) : Int))) _) (OwnFrom.and (kpX_own _ _ _) (ownFrom_below (Nat.le_refl _) (by have := HZ5.out; omega))))
    (fun code => ?own)
    ⟨HBK.out, KpX.refl _ _, HB05.out⟩
    (fun x => { tmps := #[.int .i64 n, .slice a len cap, .int .i64 most, undef, undef, .pointer (some ⟨w.heap.size, 0, none⟩), .pointer (some ⟨w.heap.size + 1, 0, none⟩), .pointer (some ⟨B, 0, none⟩), .slice A r.length c, .bool true, .pointer (some ⟨w1.heap.size, 0, none⟩), .pointer (some ⟨Bw, 0, none⟩), .func (.func 39) #[] #[.pointer (some ⟨D, 0, none⟩)], .pointer (some ⟨Bk, 0, none⟩), .int .i64 ((x : Nat) : Int), .tuple #[.pointer (some ⟨B, 0, none⟩), .slice A r.length c, .bool true], .int .i64 n, .int .i64 Z, .slice a len cap, .tuple #[.pointer (some ⟨B, 0, none⟩), .slice A r.length c, .bool true], .pointer (some ⟨B, 0, none⟩), .slice A r.length c, .bool true, .int .i64 n, .int .i64 Z, .pointer (some ⟨w1.heap.size, 0, none⟩), .bool true, .bool false, .bool false, .pointer (some ⟨w1.heap.size, 0, none⟩), .bool false, .bool false, .slice A r.length c, .slice A3 L c3, .pointer (some ⟨B, 0, none⟩), .func (.func 39) #[] #[.pointer (some ⟨D, 0, none⟩)], .func (.func 39) #[] #[.pointer (some ⟨D, 0, none⟩)], .bool false, .func (.func 39) #[] #[.pointer (some ⟨D, 0, none⟩)], .int .i64 ((x : Nat) : Int), undef, undef, undef, undef, undef, undef, undef, undef, undef, undef, undef, undef, undef, undef, undef, undef, undef, undef, undef, undef, undef, undef, undef, undef, undef, undef, undef, undef, undef, undef, undef, undef, undef, undef, undef, undef, undef, undef, undef, undef, undef, undef, undef], defers := [] }) ?assign ?body ?done ?stop
  case own =>
    intro s X Y row hs hg hr
    rcases hs with ⟨h1, h2, h3⟩ | h1
    · exact .inl ⟨h1, h2, (OwnFrom.and (Own.from (boxed_own Bk 3 (fun pre : List Nat => .int .i64 ((pre.length : Nat) : Int))) _) (OwnFrom.and (kpX_own _ _ _) (ownFrom_below (Nat.le_refl _) (by have := HZ5.out; omega)))) s X Y row h3 hg hr⟩
    · exact .inr h1
  case assign =>
    intro l x W K' hK'
    gi_wp2
    exact hK'
  case body =>
    rintro lp pre x W ⟨hbk, hkp, hB⟩ hlen
    have hck := hbk.cell
    have hfk := hbk.frozen
    have hcw := (boxed_keepX HBW.out hkp HXW.out).cell
    have hbm := boxed_keepX HBM.out hkp HXM.out
    have hcm := hbm.cell
    have hbr := boxed_keepX HBR5.out hkp HXR.out
    have hcr := hbr.cell
    have hfr := hbr.frozen
    have hlen2 : pre.length < l.length := by rw [← HL5.out]; exact hlen
    obtain ⟨b1, o1, e1, hb1, hc1⟩ := HROW.out pre.length hlen2
    have hc1' : W.cell? ⟨b1, o1 + pre.length, none⟩ = some (.int .i64 ((l[pre.length]'hlen2 : Nat) : Int)) := hkp.cell (a := ⟨b1, o1 + pre.length, none⟩) (fun e : b1 = Bk => by omega) hc1
    obtain ⟨z, hz⟩ : ∃ z, z = l[pre.length]'hlen2 := ⟨_, rfl⟩
    rw [← hz] at hc1'
    have hno : x ≠ z → ¬ (pre ++ [x] <+: l) := by
      intro hne hp
      have := hp.getElem (i := pre.length) (by simp)
      rw [← hz] at this
      simp at this
      exact hne this
    have hcm2 : ∀ u, (W.setCell ⟨Bk, 0, none⟩ u).cell? ⟨w.heap.size, 0, none⟩ = some (.int .i64 most) := fun u => (boxed_apart hbm HXM.out u).cell
    have hnext : AllIn (fun k => k = Bk) Bk w w5 (pre ++ [x]) (W.setCell ⟨Bk, 0, none⟩ (.int .i64 (((pre.length : Nat) : Int) + 1))) := by
      refine ⟨?_, hkp.trans (KpX.setCell (X := fun k => k = Bk) W (B := Bk) rfl _), hB.setCell (show w.heap.size ≤ Bk by have := HZ5.out; omega) _⟩
      have e : ((((pre ++ [x]).length : Nat)) : Int) = ((pre.length : Nat) : Int) + 1 := by simp
      rw [e]
      exact Boxed.set _ hbk
    have hpl : (pre ++ [x]).length = pre.length + 1 := by simp
    have HPL := Lib.hid hpl
    have HNEXT := Lib.hid hnext
    obtain ⟨k, hk⟩ : ∃ k, k = pre.length := ⟨_, rfl⟩
    rw [← hk] at hck hc1' HNEXT HPL
    have hkL : (k : Int) < L := by omega
    have hge : decide (L ≤ k) = false := by simp; omega
    have hLL := HLL.out
    have HNO := Lib.hid hno
    subst e1
    clear hz hno hc1 hbk hkp hB hbm hbr hpl hnext hk hlen hlen2
    by_cases hxz : x = z
    · subst hxz
      by_cases hkm : (k : Int) + 1 = most
      · gi_wp2
        exact ⟨KeepsOthers.setCell _ _ _, .inl ⟨rfl, by rw [HPL.out]; omega, by first | exact HNEXT.out | (rw [← hkm]; exact HNEXT.out)⟩⟩
      · gi_wp2
        exact ⟨KeepsOthers.setCell _ _ _, KpX.setCell (X := fun k => k = Bk) W (B := Bk) rfl _, HNEXT.out⟩
    · have hxz' : ¬ (x : Int) = (z : Int) := by omega
      gi_wp2
      exact ⟨KeepsOthers.setCell _ _ _, .inr (HNO.out hxz)⟩
  case done =>
    rintro D' ys W hD hys hI hK'
    obtain ⟨hbk, hkp, hB⟩ := hI
    have hck : W.cell? ⟨Bk, 0, none⟩ = some (.int .i64 ((L : Nat) : Int)) := by
      have h1 := hbk.cell
      have h2 : ys.length = L := by rw [HL5.out, hys]
      rw [h2] at h1
      exact h1
    clear hys
    have hcw := (boxed_keepX HBW.out hkp HXW.out).cell
    have hcm := (boxed_keepX HBM.out hkp HXM.out).cell
    have hbr := boxed_keepX HBR5.out hkp HXR.out
    have hTW := HT5.out.keepX hkp HXT.out
    have hFW := (HF5.out.keepX hkp HXF.out HXG.out).1
    have hFs : SetIs W w1.heap.size w1.heap.size (List.replicate N true) := ⟨_, by rw [List.length_replicate]; exact hFW, Plain.fullW_rep N⟩
    have HCO := Lib.hid (set_Count_is w1.heap.size w1.heap.size (List.replicate N true) W hFs (by rw [List.length_replicate]; unfold big; omega))
    have HSI := Lib.hid (set_Size_is w1.heap.size w1.heap.size (List.replicate N true) W hFs)
    rw [Plain.ones_full, ← HRL.out] at HCO
    rw [List.length_replicate, ← HRL.out] at HSI
    have HLI := Lib.hid (law03_lives W hTW)
    have HBRW := Lib.hid hbr
    have HBWD := Lib.hid hB
    have hDW := (Array.getElem?_eq_some_iff.1 hK').1
    have hrW := hbr.lt
    clear hbk hkp hB hbr hTW hFW hFs
    gi_wp2_with (first
      | (refine ⟨trivial, ?_⟩; gi_at_call 23; refine (callsIn_wide.2 HCO.out).mono ?_; rintro e w' ⟨rfl, rfl⟩)
      | (gi_at_call 23; refine (callsIn_wide.2 HCO.out).mono ?_; rintro e w' ⟨rfl, rfl⟩)
      | (refine ⟨trivial, ?_⟩; gi_at_call 24; refine (callsIn_wide.2 HSI.out).mono ?_; rintro e w' ⟨rfl, rfl⟩)
      | (gi_at_call 24; refine (callsIn_wide.2 HSI.out).mono ?_; rintro e w' ⟨rfl, rfl⟩)
      | (refine ⟨trivial, ?_⟩; gi_at_call 12; refine (callsIn_wide.2 HLI.out).mono ?_)
      | (gi_at_call 12; refine (callsIn_wide.2 HLI.out).mono ?_))
    rintro e w9 ⟨rfl, hb9⟩
    have hbr9 := boxed_below HBRW.out hb9 hrW
    have hK9 := (hb9.block D' hDW).trans hK'
    have hB9 := HBWD.out.trans (hb9.mono HBWD.out.size)
    have hcr := hbr9.cell
    have hfr := hbr9.frozen
    have HK9 := Lib.hid hK9
    have HR9 := Lib.hid hbr9
    have HB9 := Lib.hid hB9
    clear hK9 hbr9 hb9 hB9
    gi_wp2
    have hz5 := HZ5.out
    have hDB : D' ≠ w.heap.size + 1 := by omega
    have hK10 : (w9.setCell ⟨w.heap.size + 1, 0, none⟩ (.bool true)).heap[D']? = some (.deferred (some [])) := by rw [Below.heap_setCell _ _ _ _ hDB]; exact HK9.out
    refine ⟨by simp, .inl ⟨_, _, rfl, run_takeDeferred hK10, ?_⟩⟩
    refine ⟨_, results_bool rfl _ _ (w.heap.size + 1) true rfl (boxed_putObj (Boxed.set _ HR9.out) (by omega)).cell, ?_⟩
    exact ⟨rfl, (HB9.out.setCell (show w.heap.size ≤ w.heap.size + 1 by omega) _).trans (belowK_b (w := w) (Nat.le_refl _) _ D' _ _ (by omega) hK10 rfl rfl)⟩
  case stop =>
    rintro D' code pre W hD hpre (⟨rfl, hmost, hI⟩ | hno) hK'
    · obtain ⟨hbk, hkp, hB⟩ := hI
      have hck : W.cell? ⟨Bk, 0, none⟩ = some (.int .i64 most) := by rw [← hmost]; exact hbk.cell
      clear hmost hpre
      by_cases hmL : most = (L : Int)
      all_goals
        have hcw := (boxed_keepX HBW.out hkp HXW.out).cell
        have hcm := (boxed_keepX HBM.out hkp HXM.out).cell
        have hbr := boxed_keepX HBR5.out hkp HXR.out
        have hTW := HT5.out.keepX hkp HXT.out
        have hFW := (HF5.out.keepX hkp HXF.out HXG.out).1
        have hFs : SetIs W w1.heap.size w1.heap.size (List.replicate N true) := ⟨_, by rw [List.length_replicate]; exact hFW, Plain.fullW_rep N⟩
        have HCO := Lib.hid (set_Count_is w1.heap.size w1.heap.size (List.replicate N true) W hFs (by rw [List.length_replicate]; unfold big; omega))
        have HSI := Lib.hid (set_Size_is w1.heap.size w1.heap.size (List.replicate N true) W hFs)
        rw [Plain.ones_full, ← HRL.out] at HCO
        rw [List.length_replicate, ← HRL.out] at HSI
        have HLI := Lib.hid (law03_lives W hTW)
        have HBRW := Lib.hid hbr
        have HBWD := Lib.hid hB
        have hDW := (Array.getElem?_eq_some_iff.1 hK').1
        have hrW := hbr.lt
        clear hbk hkp hB hbr hTW hFW hFs
        gi_wp2_with (first
          | (refine ⟨trivial, ?_⟩; gi_at_call 23; refine (callsIn_wide.2 HCO.out).mono ?_; rintro e w' ⟨rfl, rfl⟩)
          | (gi_at_call 23; refine (callsIn_wide.2 HCO.out).mono ?_; rintro e w' ⟨rfl, rfl⟩)
          | (refine ⟨trivial, ?_⟩; gi_at_call 24; refine (callsIn_wide.2 HSI.out).mono ?_; rintro e w' ⟨rfl, rfl⟩)
          | (gi_at_call 24; refine (callsIn_wide.2 HSI.out).mono ?_; rintro e w' ⟨rfl, rfl⟩)
          | (refine ⟨trivial, ?_⟩; gi_at_call 12; refine (callsIn_wide.2 HLI.out).mono ?_)
          | (gi_at_call 12; refine (callsIn_wide.2 HLI.out).mono ?_))
        rintro e w9 ⟨rfl, hb9⟩
        have hbr9 := boxed_below HBRW.out hb9 hrW
        have hK9 := (hb9.block D' hDW).trans hK'
        have hB9 := HBWD.out.trans (hb9.mono HBWD.out.size)
        have hcr := hbr9.cell
        have hfr := hbr9.frozen
        have HK9 := Lib.hid hK9
        have HR9 := Lib.hid hbr9
        have HB9 := Lib.hid hB9
        clear hK9 hbr9 hb9 hB9
        gi_wp2
        have hz5 := HZ5.out
        have hDB : D' ≠ w.heap.size + 1 := by omega
        have hK10 : (w9.setCell ⟨w.heap.size + 1, 0, none⟩ (.bool true)).heap[D']? = some (.deferred (some [])) := by rw [Below.heap_setCell _ _ _ _ hDB]; exact HK9.out
        refine ⟨by simp, .inl ⟨_, _, rfl, run_takeDeferred hK10, ?_⟩⟩
        refine ⟨_, results_bool rfl _ _ (w.heap.size + 1) true rfl (boxed_putObj (Boxed.set _ HR9.out) (by omega)).cell, ?_⟩
        exact ⟨rfl, (HB9.out.setCell (show w.heap.size ≤ w.heap.size + 1 by omega) _).trans (belowK_b (w := w) (Nat.le_refl _) _ D' _ _ (by omega) hK10 rfl rfl)⟩
    · exact (hno hpre).elim
end Go.Proofs.YtkflmhpmnceniaaDoor
