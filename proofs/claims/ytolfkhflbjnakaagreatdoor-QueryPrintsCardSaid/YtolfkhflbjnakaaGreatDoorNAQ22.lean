/- Texts laid together: SameT10, EqualS12, Alike12, EqualFQ12, SameP12, SameW12. -/
import Derived.Test.YtolfkhflbjnakaaGreatDoorNAQ04
import Derived.Test.YtolfkhflbjnakaaGreatDoorNAQ21
import Derived.BigCall
import Derived.Test.YtolfkhflbjnakaaGreatDoorNAQ16
import Derived.BigQuiet
import Derived.Deep.LoopGhost
import Derived.Deep.AppendLies
import Derived.Deep.RegionWith
import Derived.IntWalk
import Derived.BigRegion
import Derived.Laws.OwnMore

/- What the document's Same answers of any two lists of texts. -/
namespace Go.Proofs.YtolfkhflbjnakaaGreatDoor
open Go Go.RowKit
set_option linter.unusedVariables false

theorem ne_atT {xs ys : List Nm} {k : Nat} (hx : k < xs.length) (hy : k < ys.length) (h : xs[k] ≠ ys[k]) : decide (xs = ys) = false := decide_eq_false fun e => h (by subst e; rfl)
theorem eq_allT {xs ys : List Nm} (hl : xs.length = ys.length) (h : ∀ j (hj : j < xs.length), xs[j] = ys[j]'(by omega)) : decide (xs = ys) = true := decide_eq_true (List.ext_getElem hl fun j h1 _ => h j h1)
def SameRelT (xs ys : List Nm) (w : World) (r i : Value) (wr : World) : Prop := r = .bool false ∧ ∃ k : Nat, k ≤ xs.length ∧ i = .int .i64 (k : Int) ∧ Below w.heap.size w wr ∧ ∀ j (hj : j < xs.length) (hj' : j < ys.length), j < k → xs[j] = ys[j]

set_option maxHeartbeats 1000000 in
set_option maxRecDepth 100000 in
theorem ref02_Same_all (A C : Option Addr) (n m c d : Nat) (xs ys : List Nm) (w : World) (hn : xs.length = n) (hm : ys.length = m) (hx : Row w w.heap.size A (strs xs)) (hy : Row w w.heap.size C (strs ys)) (hxl : n ≤ 9223372036854775807) (hyl : m ≤ 9223372036854775807) :
    Calls Tryz.prog 39 #[.slice A n c, .slice C m d] w fun e w' => e = .returned (.bool (decide (xs = ys))) ∧ Below w.heap.size w w' := by
  subst hn hm
  have HX := Lib.hid hx
  have HY := Lib.hid hy
  obtain ⟨z, hz⟩ : ∃ z, z = decide (xs = ys) := ⟨_, rfl⟩
  rw [← hz]
  have HZ := Lib.hid hz
  clear hx hy hz
  by_cases hlen : xs.length = ys.length
  · go_enter Tryz.func39, Tryz.ntmps39
    go_wp2
    go_loopw [4, 5] (fun r i wr => SameRelT xs ys w r i wr) (fun _ i _ => xs.length - (intOf i).toNat)
    case atStart => exact ⟨rfl, 0, Nat.zero_le _, rfl, Below.refl _ _, fun j _ _ hj => by omega⟩
    case round =>
      obtain ⟨rfl, k, hk, rfl, hbw, hall⟩ := hrel
      by_cases hlt : k < xs.length
      · have hlt2 : k < ys.length := by omega
        obtain ⟨b1, o1, e1, _, hc1⟩ := row_nm (HX.out.below hbw) hlt
        obtain ⟨b2, o2, e2, _, hc2⟩ := row_nm (HY.out.below hbw) hlt2
        subst e1 e2
        obtain ⟨x, hx, hx2⟩ := as_text xs[k]
        obtain ⟨y, hy, hy2⟩ := as_text ys[k]
        rw [← hx] at hc1
        rw [← hy] at hc2
        have hi0 : (0 : Int) ≤ k := by omega
        have hi1 : (k : Int) < xs.length := by omega
        have hi2 : (k : Int) < ys.length := by omega
        by_cases he : xs[k] = ys[k]
        · have t1 := same_true (s := x) (t := y) (by rw [hx2, hy2]; exact he)
          have HN : Hid (∀ j (hj : j < xs.length) (hj' : j < ys.length), j < k + 1 → xs[j] = ys[j]) := Lib.hid fun j hj hj' hjk => by
            by_cases e : j = k
            · subst e; exact he
            · exact hall j hj hj' (by omega)
          clear hall he hx hx2 hy hy2
          go_wp2
          go_quiet (fail)
          go_wp2
          go_roundw
          case rel => exact ⟨rfl, k + 1, by omega, by go_num, hbw.trans ⟨rfl, rfl, rfl, Nat.le_refl _, fun _ _ => rfl⟩, HN.out⟩
          case measure => simp [intOf]; omega
        · have t1 := same_false (s := x) (t := y) (by rw [hx2, hy2]; exact he)
          have hzf : z = false := by rw [HZ.out]; exact ne_atT hlt hlt2 he
          subst hzf
          clear hall he hx hx2 hy hy2
          go_wp2
          go_quiet (fail)
          go_wp2
          go_ret
          exact ⟨rfl, hbw.trans ⟨rfl, rfl, rfl, Nat.le_refl _, fun _ _ => rfl⟩⟩
      · have hzt : z = true := by rw [HZ.out]; exact eq_allT hlen fun j hj => hall j hj (by omega) (by omega)
        subst hzt
        clear hall
        go_wp2
        go_ret
        exact ⟨rfl, hbw⟩
  · have hzf : z = false := by rw [HZ.out]; exact decide_eq_false fun e => hlen (by rw [e])
    subst hzf
    go_enter Tryz.func39, Tryz.ntmps39
    go_wp2
    go_ret
    exact ⟨rfl, Below.refl _ _⟩
end Go.Proofs.YtolfkhflbjnakaaGreatDoor

/- What slices.Equal answers of any two lists of texts. -/
namespace Go.Proofs.YtolfkhflbjnakaaGreatDoor
open Go Go.RowKit
set_option linter.unusedVariables false

def EqRelT (xs ys : List Nm) (w : World) (i : Value) (wr : World) : Prop := ∃ k : Nat, k ≤ xs.length ∧ i = .int .i64 (k : Int) ∧ Below w.heap.size w wr ∧ ∀ j (hj : j < xs.length) (hj' : j < ys.length), j < k → xs[j] = ys[j]

set_option maxHeartbeats 1000000 in
set_option maxRecDepth 100000 in
theorem equal_texts (A C : Option Addr) (n m c d : Nat) (xs ys : List Nm) (w : World) (hn : xs.length = n) (hm : ys.length = m) (hx : Row w w.heap.size A (strs xs)) (hy : Row w w.heap.size C (strs ys)) (hxl : n ≤ 9223372036854775807) (hyl : m ≤ 9223372036854775807) :
    Calls Tryz.prog 82 #[.slice A n c, .slice C m d] w fun e w' => e = .returned (.bool (decide (xs = ys))) ∧ Below w.heap.size w w' := by
  subst hn hm
  have HX := Lib.hid hx
  have HY := Lib.hid hy
  obtain ⟨z, hz⟩ : ∃ z, z = decide (xs = ys) := ⟨_, rfl⟩
  rw [← hz]
  have HZ := Lib.hid hz
  clear hx hy hz
  by_cases hlen : xs.length = ys.length
  · go_enter Tryz.func82, Tryz.ntmps82
    go_wp2
    go_loopw [13] (fun i wr => EqRelT xs ys w i wr) (fun i _ => xs.length - (intOf i).toNat)
    case atStart => exact ⟨0, Nat.zero_le _, rfl, Below.refl _ _, fun j _ _ hj => by omega⟩
    case round =>
      obtain ⟨k, hk, rfl, hbw, hall⟩ := hrel
      by_cases hlt : k < xs.length
      · have hlt2 : k < ys.length := by omega
        obtain ⟨b1, o1, e1, _, hc1⟩ := row_nm (HX.out.below hbw) hlt
        obtain ⟨b2, o2, e2, _, hc2⟩ := row_nm (HY.out.below hbw) hlt2
        subst e1 e2
        obtain ⟨x, hx, hx2⟩ := as_text xs[k]
        obtain ⟨y, hy, hy2⟩ := as_text ys[k]
        rw [← hx] at hc1
        rw [← hy] at hc2
        have hi0 : (0 : Int) ≤ k := by omega
        have hi1 : (k : Int) < xs.length := by omega
        have hi2 : (k : Int) < ys.length := by omega
        by_cases he : xs[k] = ys[k]
        · have t1 := same_true (s := x) (t := y) (by rw [hx2, hy2]; exact he)
          have HN : Hid (∀ j (hj : j < xs.length) (hj' : j < ys.length), j < k + 1 → xs[j] = ys[j]) := Lib.hid fun j hj hj' hjk => by
            by_cases e : j = k
            · subst e; exact he
            · exact hall j hj hj' (by omega)
          clear hall he hx hx2 hy hy2
          go_wp2
          go_quiet (fail)
          go_wp2
          go_roundw
          case rel => exact ⟨k + 1, by omega, by go_num, hbw.trans ⟨rfl, rfl, rfl, Nat.le_refl _, fun _ _ => rfl⟩, HN.out⟩
          case measure => simp [intOf]; omega
        · have t1 := same_false (s := x) (t := y) (by rw [hx2, hy2]; exact he)
          have hzf : z = false := by rw [HZ.out]; exact ne_atT hlt hlt2 he
          subst hzf
          clear hall he hx hx2 hy hy2
          go_wp2
          go_quiet (fail)
          go_wp2
          go_ret
          exact ⟨rfl, hbw.trans ⟨rfl, rfl, rfl, Nat.le_refl _, fun _ _ => rfl⟩⟩
      · have hzt : z = true := by rw [HZ.out]; exact eq_allT hlen fun j hj => hall j hj (by omega) (by omega)
        subst hzt
        clear hall
        go_wp2
        go_ret
        exact ⟨rfl, hbw⟩
  · have hzf : z = false := by rw [HZ.out]; exact decide_eq_false fun e => hlen (by rw [e])
    subst hzf
    go_enter Tryz.func82, Tryz.ntmps82
    go_wp2
    go_ret
    exact ⟨rfl, Below.refl _ _⟩
end Go.Proofs.YtolfkhflbjnakaaGreatDoor

/- Package query: are two queries alike, but for what their kids are; are two lists of queries. -/
namespace Go.Proofs.YtolfkhflbjnakaaGreatDoor
open Go Go.RowKit
set_option linter.unusedVariables false

/-- Two queries are alike, but for what their kids are. -/
def alikeQ : Qy → Qy → Bool
  | .mk k t ws ks, .mk k2 t2 ws2 ks2 => decide (k = k2 ∧ t = t2 ∧ ws = ws2 ∧ ks.length = ks2.length)
def alikeL : List Qy → List Qy → Bool
  | [], _ => true
  | _ :: _, [] => true
  | a :: l, b :: r => alikeQ a b && alikeL l r
theorem alikeL_at {l r : List Qy} {i : Nat} (hi : i < l.length) (hi' : i < r.length) : alikeL (l.drop i) (r.drop i) = (alikeQ l[i] r[i] && alikeL (l.drop (i + 1)) (r.drop (i + 1))) := by
  rw [List.drop_eq_getElem_cons hi, List.drop_eq_getElem_cons hi', alikeL]

set_option maxHeartbeats 4000000 in
set_option maxRecDepth 100000 in
theorem query_alike (q q2 : Qy) (v v2 : Value) (w : World) (hfine : FineQ q) (hfine2 : FineQ q2) (hq : QIn w q v) (hq2 : QIn w q2 v2) :
    Calls Tryz.prog 41 #[v, v2] w fun e w' => e = .returned (.bool (alikeQ q q2)) ∧ Below w.heap.size w w' := by
  obtain ⟨k, t, ws, ks, f, x, A, c, K, d, ds, rfl, rfl, hf, hx, hcc, hdd, hA, hK, hks⟩ := hq.open_
  obtain ⟨k2, t2, ws2, ks2, f2, x2, A2, c2, K2, d2, ds2, rfl, rfl, hf2, hx2, hcc2, hdd2, hA2, hK2, hks2⟩ := hq2.open_
  rw [FineQ] at hfine hfine2
  obtain ⟨-, ⟨hw9, -⟩, h9, hfl⟩ := hfine
  obtain ⟨-, ⟨hw92, -⟩, h92, hfl2⟩ := hfine2
  obtain ⟨w1, hw1⟩ : ∃ w1, w1 = boxQ (boxQ w k f x A ws.length c K ks.length d) k2 f2 x2 A2 ws2.length c2 K2 ks2.length d2 := ⟨_, rfl⟩
  have hs1 : w1.heap.size = w.heap.size + 2 := by rw [hw1, boxQ_size, boxQ_size]
  have HB : Hid (∀ wr, Below w1.heap.size w1 wr → _) := Lib.hid fun wr h => two_boxes (wr := wr) (by rw [hs1, hw1] at h; exact h)
  obtain ⟨hb0, ⟨a0, a1, a2, a3, a4⟩, ⟨b0, b1, b2, b3, b4⟩⟩ := HB.out _ (Below.refl _ _)
  have HW : Hid (Calls Tryz.prog 82 #[.slice A ws.length c, .slice A2 ws2.length c2] w1 fun e w' => e = .returned (.bool (decide (ws = ws2))) ∧ Below w1.heap.size w1 w') :=
    Lib.hid (equal_texts A A2 _ _ c c2 ws ws2 w1 rfl rfl ((Row.below (RowP.row hA fun _ h => h) hb0).more hb0.size) ((Row.below (RowP.row hA2 fun _ h => h) hb0).more hb0.size) (by omega) (by omega))
  obtain ⟨R, hR⟩ : ∃ R, R = alikeQ (.mk k t ws ks) (.mk k2 t2 ws2 ks2) := ⟨_, rfl⟩
  have hR2 : R = decide (k = k2 ∧ t = t2 ∧ ws = ws2 ∧ ks.length = ks2.length) := by rw [hR, alikeQ]
  rw [← hR]
  have hft : f = f2 ↔ t.1 = t2.1 := by rw [← hf, ← hf2]; exact ⟨fun h => by rw [h], fun h => ByteArray.ext (Array.toList_inj.1 h)⟩
  have hxt : x = x2 ↔ t.2 = t2.2 := by rw [← hx, ← hx2]; exact ⟨fun h => by rw [h], fun h => ByteArray.ext (Array.toList_inj.1 h)⟩
  have htt : t = t2 ↔ t.1 = t2.1 ∧ t.2 = t2.2 := ⟨fun h => by rw [h]; exact ⟨rfl, rfl⟩, fun h => Prod.ext h.1 h.2⟩
  have HW1 := Lib.hid hw1
  have HB0 := Lib.hid hb0
  obtain ⟨W, hW⟩ : ∃ W, W = decide (ws = ws2) := ⟨_, rfl⟩
  rw [← hW] at HW
  have hways : (k ≠ k2 ∧ R = false) ∨ (k = k2 ∧ ¬ (f = f2 ∧ x = x2) ∧ R = false) ∨ (k = k2 ∧ f = f2 ∧ x = x2 ∧ W = false ∧ R = false) ∨ (k = k2 ∧ f = f2 ∧ x = x2 ∧ W = true ∧ R = decide (ks.length = ks2.length)) := by
    by_cases e1 : k = k2
    · by_cases e2 : f = f2 ∧ x = x2
      · have et : t = t2 := htt.2 ⟨hft.1 e2.1, hxt.1 e2.2⟩
        by_cases e3 : ws = ws2
        · refine .inr (.inr (.inr ⟨e1, e2.1, e2.2, by rw [hW]; exact decide_eq_true e3, ?_⟩))
          rw [hR2]
          by_cases e4 : ks.length = ks2.length
          · rw [decide_eq_true ⟨e1, et, e3, e4⟩, decide_eq_true e4]
          · rw [decide_eq_false (fun h => e4 h.2.2.2), decide_eq_false e4]
        · exact .inr (.inr (.inl ⟨e1, e2.1, e2.2, by rw [hW]; exact decide_eq_false e3, by rw [hR2]; exact decide_eq_false fun h => e3 h.2.2.1⟩))
      · exact .inr (.inl ⟨e1, e2, by rw [hR2]; exact decide_eq_false fun h => e2 ⟨hft.2 (htt.1 h.2.1).1, hxt.2 (htt.1 h.2.1).2⟩⟩)
    · exact .inl ⟨e1, by rw [hR2]; exact decide_eq_false fun h => e1 h.1⟩
  obtain ⟨m1, hm1⟩ : ∃ m1, m1 = ks.length := ⟨_, rfl⟩
  obtain ⟨m2, hm2⟩ : ∃ m2, m2 = ks2.length := ⟨_, rfl⟩
  rw [← hm1, ← hm2] at HB HW1 hways
  rw [← hm1] at a4 ⊢
  rw [← hm2] at b4 ⊢
  clear hR hR2 hft hxt htt hW hw1 hs1 hb0 hq hq2 hf hx hf2 hx2 hcc hdd hcc2 hdd2 hA hA2 hK hK2 hks hks2 hfl hfl2 hw9 hw92 hm1 hm2
  go_enter Tryz.func41, Tryz.ntmps41
  go_upto_region 1 with fail
  rw [show (w.alloc _).alloc _ = w1 from HW1.out.symm]
  rcases hways with ⟨e1, rfl⟩ | ⟨rfl, e2, rfl⟩ | ⟨rfl, rfl, rfl, rfl, rfl⟩ | ⟨rfl, rfl, rfl, rfl, hR⟩
  · have d1 : (k == k2) = false := by rw [beq_eq_false_iff_ne]; exact e1
    clear e1
    go_wp2_with fail
    all_goals
      go_ret
      exact ⟨rfl, HB0.out⟩
  · by_cases ef : f = f2
    · have ex : ¬ x = x2 := fun h => e2 ⟨ef, h⟩
      have exl := not_bytes ex
      subst ef
      clear e2
      go_wp2_with fail
      all_goals
        go_ret
        exact ⟨rfl, HB0.out⟩
    · have efl := not_bytes ef
      clear e2
      go_wp2_with fail
      all_goals
        go_ret
        exact ⟨rfl, HB0.out⟩
  · go_wp2_with (go_at_call 82; (with_reducible refine HW.out.mono ?_); rintro e w2 ⟨rfl, hb2⟩; have HB2 := Lib.hid hb2; clear hb2 a0 a1 a2 a3 a4 b0 b1 b2 b3 b4; obtain ⟨hb3, ⟨a0, a1, a2, a3, a4⟩, ⟨b0, b1, b2, b3, b4⟩⟩ := HB.out _ HB2.out; have HB3 := Lib.hid hb3; clear hb3)
    all_goals
      go_ret
      exact ⟨rfl, HB3.out⟩
  · have hR' : ((m1 : Int) == (m2 : Int)) = R := by
      rw [hR]
      by_cases e : m1 = m2
      · rw [e]; simp
      · rw [decide_eq_false e, beq_eq_false_iff_ne]; omega
    have HR := Lib.hid hR'
    clear hR hR'
    go_wp2_with (go_at_call 82; (with_reducible refine HW.out.mono ?_); rintro e w2 ⟨rfl, hb2⟩; have HB2 := Lib.hid hb2; clear hb2 a0 a1 a2 a3 a4 b0 b1 b2 b3 b4; obtain ⟨hb3, ⟨a0, a1, a2, a3, a4⟩, ⟨b0, b1, b2, b3, b4⟩⟩ := HB.out _ HB2.out; have HB3 := Lib.hid hb3; clear hb3)
    all_goals
      go_ret
      exact ⟨by rw [← HR.out]; rfl, HB3.out⟩
end Go.Proofs.YtolfkhflbjnakaaGreatDoor

/- What slices.EqualFunc answers of two lists of queries, by alike. -/
namespace Go.Proofs.YtolfkhflbjnakaaGreatDoor
open Go Go.RowKit
set_option linter.unusedVariables false

/-- Kids that are alike, one by one; as many. -/
def evenL (l r : List Qy) : Bool := decide (l.length = r.length) && alikeL l r
def EvenRel (l r : List Qy) (R : Bool) (w : World) (i u : Value) (wr : World) : Prop := ∃ j : Nat, j ≤ l.length ∧ i = .int .i64 (j : Int) ∧ alikeL (l.drop j) (r.drop j) = R ∧ Below w.heap.size w wr

set_option maxHeartbeats 4000000 in
set_option maxRecDepth 100000 in
theorem equal_func (l r : List Qy) (v v2 : Value) (w : World) (hl : FineL l) (hr : FineL r) (hv : KsV (fun b => b < w.heap.size) w l v) (hv2 : KsV (fun b => b < w.heap.size) w r v2) (hl9 : l.length ≤ 1000) (hr9 : r.length ≤ 1000) :
    Calls Tryz.prog 40 #[v, v2, .func (.func 41) #[] #[]] w fun e w' => e = .returned (.bool (evenL l r)) ∧ Below w.heap.size w w' := by
  obtain ⟨K, d, ds, rfl, hd, hK, hks⟩ := hv
  obtain ⟨K2, d2, ds2, rfl, hd2, hK2, hks2⟩ := hv2
  have HK := Lib.hid (kids_at hK hks (Below.refl _ w))
  have HK2 := Lib.hid (kids_at hK2 hks2 (Below.refl _ w))
  have HAL : Hid (∀ (i : Nat) (hi : i < l.length) (hi2 : i < r.length) (v v2 : Value) (wr : World), QIn wr l[i] v → QIn wr r[i] v2 → Calls Tryz.prog 41 #[v, v2] wr fun e w' => e = .returned (.bool (alikeQ l[i] r[i])) ∧ Below wr.heap.size wr w') :=
    Lib.hid fun i hi hi2 v v2 wr h1 h2 => query_alike l[i] r[i] v v2 wr (fineL_mem hl (List.getElem_mem hi)) (fineL_mem hr (List.getElem_mem hi2)) h1 h2
  obtain ⟨R, hR⟩ : ∃ R, R = evenL l r := ⟨_, rfl⟩
  rw [← hR]
  by_cases e : l.length = r.length
  · have HG : Hid (alikeL (l.drop 0) (r.drop 0) = R) := Lib.hid (by rw [hR, evenL, decide_eq_true e, List.drop_zero, List.drop_zero, Bool.true_and])
    obtain ⟨n2, hn2⟩ : ∃ n2, n2 = r.length := ⟨_, rfl⟩
    have HLN : Hid (l.length = r.length) := Lib.hid e
    rw [← hn2] at e ⊢
    clear hR hn2 hK hK2 hks hks2 hl hr hd hd2
    subst e
    go_enter Tryz.func40, Tryz.ntmps40
    go_wp2_with fail
    go_loopw [7, 17] (fun u i wr => EvenRel l r R w i u wr) (fun _ i _ => l.length - (intOf i).toNat)
    case atStart => exact ⟨0, by omega, rfl, HG.out, Below.refl _ _⟩
    case round =>
      obtain ⟨j, hj, rfl, hs, hbw⟩ := hrel
      by_cases hlt : j < l.length
      · have hlt2 : j < r.length := by have := HLN.out; omega
        obtain ⟨b, off, k', f', x', A', n', c', K', m', d', e', hbl, hv, c0, c1, c2, c3, c4⟩ := HK.out _ hbw j hlt
        obtain ⟨p, pff, k'', f'', x'', A'', n'', c'', K'', m'', d'', e'', hbl2, hv2, g0, g1, g2, g3, g4⟩ := HK2.out _ hbw j hlt2
        subst e' e''
        rw [alikeL_at hlt hlt2] at hs
        obtain ⟨S1, hS1⟩ : ∃ S1, S1 = alikeQ l[j] r[j] := ⟨_, rfl⟩
        have HC : Hid (∀ w2, Below wr.heap.size wr w2 → Calls Tryz.prog 41 #[qV k' f' x' A' n' c' K' m' d', qV k'' f'' x'' A'' n'' c'' K'' m'' d''] w2 fun e w' => e = .returned (.bool S1) ∧ Below w2.heap.size w2 w') := Lib.hid fun w2 h => by
          rw [hS1]
          exact HAL.out j hlt hlt2 _ _ w2 (hv.later h) (hv2.later h)
        rw [← hS1] at hs
        have HBW := Lib.hid hbw
        have i0 : (0 : Int) ≤ j := by omega
        have i3 : (j : Int) < l.length := by omega
        have q1 : ∀ o, (wr.alloc o).cell? ⟨p, pff + j * 5, none⟩ = some (.int .i64 k'') := fun o => ((Below.refl _ wr).alloc (Nat.le_refl _) o).cell (p := ⟨p, pff + j * 5, none⟩) (show p < wr.heap.size by have := hbw.size; omega) |>.trans g0
        have q2 : ∀ o, (wr.alloc o).cell? ⟨p, pff + j * 5 + 1, none⟩ = some (.string f'') := fun o => ((Below.refl _ wr).alloc (Nat.le_refl _) o).cell (p := ⟨p, pff + j * 5 + 1, none⟩) (show p < wr.heap.size by have := hbw.size; omega) |>.trans g1
        have q3 : ∀ o, (wr.alloc o).cell? ⟨p, pff + j * 5 + 2, none⟩ = some (.string x'') := fun o => ((Below.refl _ wr).alloc (Nat.le_refl _) o).cell (p := ⟨p, pff + j * 5 + 2, none⟩) (show p < wr.heap.size by have := hbw.size; omega) |>.trans g2
        have q4 : ∀ o, (wr.alloc o).cell? ⟨p, pff + j * 5 + 3, none⟩ = some (.slice A'' n'' c'') := fun o => ((Below.refl _ wr).alloc (Nat.le_refl _) o).cell (p := ⟨p, pff + j * 5 + 3, none⟩) (show p < wr.heap.size by have := hbw.size; omega) |>.trans g3
        have q5 : ∀ o, (wr.alloc o).cell? ⟨p, pff + j * 5 + 4, none⟩ = some (.slice K'' m'' d'') := fun o => ((Below.refl _ wr).alloc (Nat.le_refl _) o).cell (p := ⟨p, pff + j * 5 + 4, none⟩) (show p < wr.heap.size by have := hbw.size; omega) |>.trans g4
        have HAA : Hid (∀ o o', Below wr.heap.size wr ((wr.alloc o).alloc o')) := Lib.hid fun o o' => ((Below.refl _ wr).alloc (Nat.le_refl _) o).alloc (by simp) o'
        clear hS1 hv hv2 hbw hlt2
        cases S1 with
        | true =>
          rw [Bool.true_and] at hs
          have HS := Lib.hid hs
          clear hs
          go_wp2_with (go_at_call 41; (with_reducible refine (HC.out _ (HAA.out _ _)).mono ?_); rintro e w2 ⟨rfl, hb2⟩; have HB3 : Hid (Below w.heap.size w w2) := Lib.hid (HBW.out.trans (((HAA.out _ _).trans (hb2.mono (by simp; omega))).mono HBW.out.size)); clear hb2)
          go_roundw
          case rel => exact ⟨j + 1, by omega, by go_num, HS.out, HB3.out⟩
          case measure => simp [intOf]; omega
        | false =>
          rw [Bool.false_and] at hs
          have HS := Lib.hid hs
          clear hs
          go_wp2_with (go_at_call 41; (with_reducible refine (HC.out _ (HAA.out _ _)).mono ?_); rintro e w2 ⟨rfl, hb2⟩; have HB3 : Hid (Below w.heap.size w w2) := Lib.hid (HBW.out.trans (((HAA.out _ _).trans (hb2.mono (by simp; omega))).mono HBW.out.size)); clear hb2)
          go_ret
          exact ⟨by rw [← HS.out]; rfl, HB3.out⟩
      · obtain rfl : j = l.length := by omega
        rw [List.drop_length, alikeL] at hs
        have HS := Lib.hid hs
        have HBW := Lib.hid hbw
        clear hs hbw
        go_wp2_with fail
        go_ret
        exact ⟨by rw [← HS.out]; rfl, HBW.out⟩
  · have hRf : R = false := by rw [hR, evenL, decide_eq_false e, Bool.false_and]
    subst hRf
    have d1 : ((l.length : Int) == (r.length : Int)) = false := by rw [beq_eq_false_iff_ne]; omega
    have d2 : ((l.length : Int) != (r.length : Int)) = true := by simp [bne, d1]
    have d3 : ¬ (l.length : Int) = (r.length : Int) := by omega
    clear hR e hK hK2 hks hks2 hl hr hd hd2 HK HK2 HAL
    go_enter Tryz.func40, Tryz.ntmps40
    go_wp2_with fail
    go_ret
    exact ⟨rfl, Below.refl _ _⟩
end Go.Proofs.YtolfkhflbjnakaaGreatDoor

/- Are queries the same, told by a list of pairs of lists that are left to be looked at. -/
set_option linter.unusedVariables false
namespace Go.Proofs.YtolfkhflbjnakaaGreatDoor
open Go Go.RowKit

/-- A pair of lists of queries: the same. -/
def pairB (p : List Qy × List Qy) : Bool := decide (p.1.length = p.2.length) && sameL p.1 p.2
/-- The kids' pairs that are left. -/
def kp : List Qy → List Qy → List (List Qy × List Qy)
  | q :: l, q2 :: r => (if (kidsOf q).length = 0 then [] else [(kidsOf q, kidsOf q2)]) ++ kp l r
  | _, _ => []
theorem same_alike (q q2 : Qy) : sameQ q q2 = (alikeQ q q2 && pairB (kidsOf q, kidsOf q2)) := by
  obtain ⟨k, t, ws, ks⟩ := q
  obtain ⟨k2, t2, ws2, ks2⟩ := q2
  rw [sameQ, alikeQ, pairB, kidsOf, kidsOf]
  by_cases h : k = k2 ∧ t = t2 ∧ ws = ws2 ∧ ks.length = ks2.length
  · rw [decide_eq_true h, decide_eq_true h.2.2.2]; simp
  · rw [decide_eq_false h]; simp
theorem pair_empty {q q2 : Qy} (h : alikeQ q q2 = true) (h0 : (kidsOf q).length = 0) : pairB (kidsOf q, kidsOf q2) = true := by
  obtain ⟨k, t, ws, ks⟩ := q
  obtain ⟨k2, t2, ws2, ks2⟩ := q2
  rw [alikeQ] at h
  have h := of_decide_eq_true h
  have h0 : ks.length = 0 := h0
  have e : ks = [] := List.length_eq_zero_iff.1 h0
  rw [pairB, kidsOf, kidsOf, e]
  have e2 : ks2.length = 0 := by rw [← h.2.2.2]; exact h0
  simp [sameL, e2]
theorem sameL_kp : ∀ (l r : List Qy), sameL l r = (alikeL l r && (kp l r).all pairB)
  | [], r => by cases r <;> simp [sameL, alikeL, kp]
  | q :: l, [] => by simp [sameL, alikeL, kp]
  | q :: l, q2 :: r => by
    rw [sameL, alikeL, kp, List.all_append, same_alike, sameL_kp l r]
    cases ha : alikeQ q q2 with
    | false => simp
    | true =>
      by_cases h0 : (kidsOf q).length = 0
      · rw [if_pos h0, pair_empty ha h0]; simp
      · rw [if_neg h0]
        simp only [List.all_cons, List.all_nil, Bool.and_true, Bool.true_and]
        cases pairB (kidsOf q, kidsOf q2) <;> simp
theorem pairB_kp (l r : List Qy) : pairB (l, r) = (evenL l r && (kp l r).all pairB) := by
  rw [pairB, evenL, sameL_kp, Bool.and_assoc]
theorem kp_take {l r : List Qy} {i : Nat} (hi : i < l.length) (hi2 : i < r.length) : kp (l.take (i + 1)) (r.take (i + 1)) = kp (l.take i) (r.take i) ++ (if (kidsOf l[i]).length = 0 then [] else [(kidsOf l[i], kidsOf r[i])]) := by
  induction l generalizing r i with
  | nil => simp at hi
  | cons q l ih =>
    cases r with
    | nil => simp at hi2
    | cons q2 r =>
      cases i with
      | zero => simp [kp]
      | succ i =>
        have := ih (r := r) (i := i) (by simpa using hi) (by simpa using hi2)
        simp only [List.take_succ_cons, kp, List.getElem_cons_succ] at this ⊢
        rw [this, List.append_assoc]
/-- How much is left. -/
def leftS : List (List Qy × List Qy) → Nat
  | [] => 0
  | p :: l => sizeL p.1 + leftS l
theorem leftS_append : ∀ a b : List (List Qy × List Qy), leftS (a ++ b) = leftS a + leftS b
  | [], b => by simp [leftS]
  | p :: a, b => by rw [List.cons_append, leftS, leftS, leftS_append a b]; omega
theorem kp_size : ∀ l r : List Qy, leftS (kp l r) + l.length ≤ sizeL l
  | [], r => by cases r <;> simp [kp, leftS]
  | q :: l, [] => by
    have := sizeL_length (q :: l)
    simp only [kp, leftS]
    omega
  | q :: l, q2 :: r => by
    have h := kp_size l r
    have h2 := sizeQ_kids q
    rw [kp, leftS_append, sizeL, List.length_cons]
    split
    · simp only [leftS]; omega
    · simp only [leftS]; omega
/-- A pair that may be looked at. -/
def PrOk (p : List Qy × List Qy) : Prop := (FineL p.1 ∧ FineL p.2) ∧ (p.1.length ≤ 9 ∧ p.2.length ≤ 9) ∧ 0 < p.1.length
theorem kids_fine {q : Qy} (h : FineQ q) : FineL (kidsOf q) ∧ (kidsOf q).length ≤ 9 := by
  obtain ⟨k, t, ws, ks⟩ := q
  rw [FineQ] at h
  exact ⟨h.2.2.2, h.2.2.1⟩
theorem kp_ok : ∀ {l r : List Qy}, FineL l → FineL r → ∀ p ∈ kp l r, PrOk p
  | [], r, _, _, p, hp => by cases r <;> simp [kp] at hp
  | q :: l, [], _, _, p, hp => by simp [kp] at hp
  | q :: l, q2 :: r, h1, h2, p, hp => by
    rw [FineL] at h1 h2
    rw [kp] at hp
    rcases List.mem_append.1 hp with hp | hp
    · split at hp
      · cases hp
      · rename_i h0
        rw [List.mem_singleton.1 hp]
        have a := kids_fine h1.1
        have b := kids_fine h2.1
        exact ⟨⟨a.1, b.1⟩, ⟨a.2, b.2⟩, by simp only; omega⟩
    · exact kp_ok h1.2 h2.2 p hp
theorem left_len : ∀ {l : List (List Qy × List Qy)}, (∀ p ∈ l, PrOk p) → l.length ≤ leftS l
  | [], _ => Nat.le_refl _
  | p :: l, h => by
    have h1 := h p (List.mem_cons_self ..)
    have h2 := left_len fun x hx => h x (List.mem_cons_of_mem _ hx)
    have h3 := sizeL_length p.1
    have h4 := h1.2.2
    rw [leftS, List.length_cons]
    omega
theorem size_fine : ∀ (n : Nat) {q : Qy}, deepQ q ≤ n → FineQ q → sizeQ q ≤ 10 ^ n
  | 0, q, h, _ => by have := deepQ_pos q; omega
  | n + 1, .mk k t ws ks, h, hf => by
    rw [FineQ] at hf
    have hk : sizeL ks ≤ ks.length * 10 ^ n := sizeL_le fun q hq => by
      have := deepL_mem hq
      rw [deepQ] at h
      exact size_fine n (by omega) (fineL_mem hf.2.2.2 hq)
    have h9 : ks.length * 10 ^ n ≤ 9 * 10 ^ n := Nat.mul_le_mul_right _ hf.2.2.1
    have hp : 1 ≤ 10 ^ n := Nat.one_le_pow _ _ (by decide)
    rw [sizeQ, Nat.pow_succ]
    omega

theorem info_pair : (Tryz.prog.info? 71).map (fun i => (i.zero, i.size, i.bytes)) = some (some (.agg #[.slice none 0 0, .slice none 0 0]), 2, 48) := by kernel_rfl
theorem KsV.imp {p p' : Nat → Prop} {w : World} {l : List Qy} {v : Value} (h : KsV p w l v) (hp : ∀ b, p b → p' b) : KsV p' w l v := by
  obtain ⟨K, d, ds, h1, h2, h3, h4⟩ := h
  exact ⟨K, d, ds, h1, h2, h3.imp hp, h4.imp hp⟩
/-- Values are such pairs. -/
def Prs (p : Nat → Prop) (w : World) : List (List Qy × List Qy) → List Value → Prop
  | [], vs => vs = []
  | l :: r, vs => ∃ v v2 vs', vs = v :: v2 :: vs' ∧ KsV p w l.1 v ∧ KsV p w l.2 v2 ∧ Prs p w r vs'
section
variable {p : Nat → Prop} {w w' : World}
theorem Prs.keep : ∀ {ps : List (List Qy × List Qy)} {vs : List Value}, Prs p w ps vs → (∀ b, p b → w'.heap[b]? = w.heap[b]?) → Prs p w' ps vs
  | [], vs, h, _ => h
  | l :: r, vs, h, hb => by
    obtain ⟨v, v2, vs', h1, h2, h3, h4⟩ := h
    exact ⟨v, v2, vs', h1, h2.keep hb, h3.keep hb, Prs.keep h4 hb⟩
theorem Prs.len : ∀ {ps : List (List Qy × List Qy)} {vs : List Value}, Prs p w ps vs → vs.length = ps.length * 2
  | [], vs, h => by cases h; rfl
  | l :: r, vs, h => by
    obtain ⟨v, v2, vs', rfl, _, _, h4⟩ := h
    have := Prs.len h4
    simp only [List.length_cons]
    omega
theorem Prs.snoc : ∀ {ps : List (List Qy × List Qy)} {vs : List Value} {l : List Qy × List Qy} {v v2 : Value}, Prs p w ps vs → KsV p w l.1 v → KsV p w l.2 v2 → Prs p w (ps ++ [l]) (vs ++ [v, v2])
  | [], vs, l, v, v2, h, h1, h2 => by cases h; exact ⟨v, v2, [], rfl, h1, h2, rfl⟩
  | x :: r, vs, l, v, v2, h, h1, h2 => by
    obtain ⟨u, u2, vs', rfl, g2, g3, g4⟩ := h
    exact ⟨u, u2, vs' ++ [v, v2], rfl, g2, g3, Prs.snoc g4 h1 h2⟩
theorem Prs.last : ∀ {ps : List (List Qy × List Qy)} {vs : List Value} {l : List Qy × List Qy}, Prs p w (ps ++ [l]) vs → ∃ va v v2, vs = va ++ [v, v2] ∧ Prs p w ps va ∧ KsV p w l.1 v ∧ KsV p w l.2 v2
  | [], vs, l, h => by
    obtain ⟨v, v2, vs', rfl, h2, h3, h4⟩ := h
    cases h4
    exact ⟨[], v, v2, rfl, rfl, h2, h3⟩
  | x :: r, vs, l, h => by
    obtain ⟨u, u2, vs', rfl, h2, h3, h4⟩ := h
    obtain ⟨va, v, v2, rfl, h5, h6, h7⟩ := Prs.last h4
    exact ⟨u :: u2 :: va, v, v2, rfl, ⟨u, u2, va, rfl, h2, h3, h5⟩, h6, h7⟩
theorem Prs.one : ∀ {ps : List (List Qy × List Qy)} {vs : List Value}, Prs p w ps vs → ∀ u ∈ vs, u.oneCell' = true
  | [], vs, h, u, hu => by cases h; cases hu
  | l :: r, vs, h, u, hu => by
    obtain ⟨v, v2, vs', rfl, ⟨K, d, ds, rfl, _⟩, ⟨K2, d2, ds2, rfl, _⟩, h4⟩ := h
    simp only [List.mem_cons] at hu
    rcases hu with rfl | rfl | hu
    · rfl
    · rfl
    · exact Prs.one h4 u hu
end
end Go.Proofs.YtolfkhflbjnakaaGreatDoor

/- Package query's Same: are two queries the same. -/
namespace Go.Proofs.YtolfkhflbjnakaaGreatDoor
open Go Go.RowKit
set_option linter.unusedVariables false

theorem kp_nil (r : List Qy) : kp [] r = [] := by cases r <;> rfl
/-- What is left, in memory. -/
def LeftAt (B : Nat) (w4 : World) (ps : List (List Qy × List Qy)) (u : Value) (wr : World) : Prop := ∃ vs, wr.ownsRow B 71 2 u ps.length vs ∧ Prs (fun b => b < B) wr ps vs ∧ Below B w4 wr
def SameWRel (B : Nat) (w4 : World) (R : Bool) (N g : Nat) (u : Value) (wr : World) : Prop := ∃ ps : List (List Qy × List Qy), LeftAt B w4 ps u wr ∧ ps.all pairB = R ∧ leftS ps ≤ g ∧ g ≤ N ∧ ∀ p ∈ ps, PrOk p
def SameIRel (B : Nat) (w4 : World) (a : List (List Qy × List Qy)) (x y : List Qy) (u i : Value) (wr : World) : Prop := ∃ j : Nat, j ≤ x.length ∧ i = .int .i64 (j : Int) ∧ LeftAt B w4 (a ++ kp (x.take j) (y.take j)) u wr

theorem owned_cut2 {w : World} {b : Nat} {e : TypeId} {g n m cap : Nat} {xs : List Value} (h : w.ownsRow b e 2 (.slice (some ⟨g, 0, none⟩) n cap) n xs) (hm : m ≤ n) : w.ownsRow b e 2 (.slice (some ⟨g, 0, none⟩) m cap) m (xs.take (m * 2)) := by
  refine ⟨by rw [List.length_take, h.1]; omega, ?_⟩
  rcases h.2 with ⟨hv, _⟩ | ⟨g', cap', cur, hv, hg, hh, h1, h2, h3, h4⟩
  · cases hv
  · cases hv
    refine .inr ⟨g, cap, cur, rfl, hg, hh, by omega, h2, h3, ?_⟩
    rw [← h4, List.take_take]
    congr 1
    omega
theorem owned_cap2 {w : World} {b : Nat} {e : TypeId} {g n cap : Nat} {xs : List Value} (h : w.ownsRow b e 2 (.slice (some ⟨g, 0, none⟩) n cap) n xs) : n ≤ cap := by
  rcases h.2 with ⟨hv, _⟩ | ⟨g', cap', cur, hv, hg, hh, h1, h2, h3, h4⟩
  · cases hv
  · cases hv
    exact h1
/-- The first list: a pair of lists of one each. -/
theorem left_start {w : World} {k k2 : Int} {f x f2 x2 : ByteArray} {A K A2 K2 : Option Addr} {n c m d n2 c2 m2 d2 : Nat} {q q2 : Qy} (hq : QIn w q (qV k f x A n c K m d)) (hq2 : QIn w q2 (qV k2 f2 x2 A2 n2 c2 K2 m2 d2)) :
    LeftAt (w.heap.size + 2) (((boxQ (boxQ w k f x A n c K m d) k2 f2 x2 A2 n2 c2 K2 m2 d2).alloc (.cells #[.slice (some ⟨w.heap.size, 0, none⟩) 1 1, .slice (some ⟨w.heap.size + 1, 0, none⟩) 1 1] 71))) [([q], [q2])] (.slice (some ⟨w.heap.size + 2, 0, none⟩) 1 1)
      (((boxQ (boxQ w k f x A n c K m d) k2 f2 x2 A2 n2 c2 K2 m2 d2).alloc (.cells #[.slice (some ⟨w.heap.size, 0, none⟩) 1 1, .slice (some ⟨w.heap.size + 1, 0, none⟩) 1 1] 71))) := by
  have hs1 : (boxQ w k f x A n c K m d).heap.size = w.heap.size + 1 := boxQ_size
  obtain ⟨w2, hw2⟩ : ∃ w2, w2 = boxQ (boxQ w k f x A n c K m d) k2 f2 x2 A2 n2 c2 K2 m2 d2 := ⟨_, rfl⟩
  have hs2 : w2.heap.size = w.heap.size + 2 := by rw [hw2, boxQ_size, hs1]
  obtain ⟨w3, hw3⟩ : ∃ w3, w3 = w2.alloc (.cells #[.slice (some ⟨w.heap.size, 0, none⟩) 1 1, .slice (some ⟨w.heap.size + 1, 0, none⟩) 1 1] 71) := ⟨_, rfl⟩
  have hb12 : Below (boxQ w k f x A n c K m d).heap.size (boxQ w k f x A n c K m d) w2 := by rw [hw2]; exact boxQ_below
  have hb2 : Below w.heap.size w w2 := boxQ_below.trans (hb12.mono (by rw [hs1]; omega))
  have hb3 : Below w2.heap.size w2 w3 := by rw [hw3]; exact (Below.refl _ _).alloc (Nat.le_refl _) _
  have c1 : w3.heap[w.heap.size]? = some (.cells #[.int .i64 k, .string f, .string x, .slice A n c, .slice K m d] 27 (0, 0)) := (hb3.block _ (by omega)).trans ((hb12.block _ (by rw [hs1]; omega)).trans (heap_alloc_new _ _))
  have c2' : w3.heap[w.heap.size + 1]? = some (.cells #[.int .i64 k2, .string f2, .string x2, .slice A2 n2 c2, .slice K2 m2 d2] 27 (0, 0)) := by
    rw [hb3.block _ (by omega), hw2, ← hs1]
    exact heap_alloc_new _ _
  have one : ∀ {k : Int} {f x : ByteArray} {A K : Option Addr} {n c m d b : Nat} {q : Qy}, QIn w q (qV k f x A n c K m d) → b < w.heap.size + 2 → w3.heap[b]? = some (.cells #[.int .i64 k, .string f, .string x, .slice A n c, .slice K m d] 27 (0, 0)) → KsV (fun b => b < w.heap.size + 2) w3 [q] (.slice (some ⟨b, 0, none⟩) 1 1) := by
    intro k f x A K n c m d b q hq hb hc
    refine ⟨_, _, qC k f x A n c K m d, rfl, Nat.le_refl _, .inr ⟨b, 0, rfl, hb, fun j u hu => ?_⟩, ?_⟩
    · have hj : j < 5 := by have := (List.getElem?_eq_some_iff.1 hu).1; simpa using this
      obtain ⟨⟨h0, h1, h2, h3, h4⟩, -⟩ := five_cells hc
      match j, hj with
      | 0, _ => simpa using h0.trans hu
      | 1, _ => simpa using h1.trans hu
      | 2, _ => simpa using h2.trans hu
      | 3, _ => simpa using h3.trans hu
      | 4, _ => simpa using h4.trans hu
    · rw [QsAt]
      refine ⟨_, [], by simp, QV.at_ ((hq.keep fun b' hb' => ?_).imp fun b' hb' => ?_), QsAt.nil⟩
      · rw [hb3.block _ (by omega)]; exact hb2.block _ hb'
      · omega
  rw [← hw2, ← hw3]
  refine ⟨[.slice (some ⟨w.heap.size, 0, none⟩) 1 1, .slice (some ⟨w.heap.size + 1, 0, none⟩) 1 1], ?_, ⟨_, _, [], rfl, one hq (by omega) c1, one hq2 (by omega) c2', rfl⟩, Below.refl _ _⟩
  refine ⟨rfl, .inr ⟨w.heap.size + 2, 1, #[.slice (some ⟨w.heap.size, 0, none⟩) 1 1, .slice (some ⟨w.heap.size + 1, 0, none⟩) 1 1], rfl, Nat.le_refl _, ?_, by simp, by decide, rfl, rfl⟩⟩
  rw [hw3, ← hs2]
  exact heap_alloc_new _ _

theorem QV.kids {p : Nat → Prop} {w : World} {q : Qy} {k : Int} {f x : ByteArray} {A K : Option Addr} {n c m d : Nat} (h : QV p w q (qV k f x A n c K m d)) : KsV p w (kidsOf q) (.slice K m d) ∧ m = (kidsOf q).length := by
  obtain ⟨k1, t1, ws1, ks1, f1, x1, A1, c1, K1, d1, ds1, e1, e2, -, -, -, hd1, -, hr1, hq1⟩ := h.open_
  injection e2 with e2
  simp only [Array.mk.injEq, List.cons.injEq, Value.int.injEq, true_and, Value.string.injEq, Value.slice.injEq, and_true] at e2
  obtain ⟨-, -, -, -, rfl, rfl, rfl⟩ := e2
  have hko : kidsOf q = ks1 := by
    rw [e1]; rfl
  rw [hko]
  exact ⟨⟨_, _, ds1, rfl, hd1, hr1, hq1⟩, rfl⟩
set_option maxHeartbeats 8000000 in
set_option maxRecDepth 100000 in
theorem query_Same (q q2 : Qy) (v v2 : Value) (w : World) (hfine : FineQ q) (hfine2 : FineQ q2) (hd : deepQ q ≤ 8) (hq : QIn w q v) (hq2 : QIn w q2 v2) :
    Calls Tryz.prog 23 #[v, v2] w fun e w' => e = .returned (.bool (sameQ q q2)) ∧ Below w.heap.size w w' := by
  have hsz : sizeQ q ≤ 100000000 := size_fine 8 hd hfine
  have hq0 := hq
  have hq20 := hq2
  obtain ⟨k, t, ws, ks, f, x, A, c, K, d, ds, he, rfl, -⟩ := hq.open_
  obtain ⟨k2, t2, ws2, ks2, f2, x2, A2, c2, K2, d2, ds2, he2, rfl, -⟩ := hq2.open_
  obtain ⟨w1, hw1⟩ : ∃ w1, w1 = boxQ (boxQ w k f x A ws.length c K ks.length d) k2 f2 x2 A2 ws2.length c2 K2 ks2.length d2 := ⟨_, rfl⟩
  have hs1 : w1.heap.size = w.heap.size + 2 := by rw [hw1, boxQ_size, boxQ_size]
  obtain ⟨hb0, ⟨a0, a1, a2, a3, a4⟩, ⟨b0, b1, b2, b3, b4⟩⟩ := two_boxes (w := w) (wr := w1) (by rw [← hs1, ← hw1]; exact Below.refl _ _)
  have hbo : ∀ o : Obj, ((w1.alloc o).cell? ⟨w.heap.size + 1, 0, none⟩ = some (.int .i64 k2) ∧ (w1.alloc o).cell? ⟨w.heap.size + 1, 1, none⟩ = some (.string f2) ∧ (w1.alloc o).cell? ⟨w.heap.size + 1, 2, none⟩ = some (.string x2) ∧ (w1.alloc o).cell? ⟨w.heap.size + 1, 3, none⟩ = some (.slice A2 ws2.length c2) ∧ (w1.alloc o).cell? ⟨w.heap.size + 1, 4, none⟩ = some (.slice K2 ks2.length d2)) := fun o =>
    (two_boxes (w := w) (wr := w1.alloc o) (by rw [← hs1, ← hw1]; exact (Below.refl _ _).alloc (Nat.le_refl _) _)).2.2
  have o0 := fun o => (hbo o).1
  have o1 := fun o => (hbo o).2.1
  have o2 := fun o => (hbo o).2.2.1
  have o3 := fun o => (hbo o).2.2.2.1
  have o4 := fun o => (hbo o).2.2.2.2
  obtain ⟨w4, hw4⟩ : ∃ w4, w4 = ((boxQ (boxQ w1 k f x A ws.length c K ks.length d) k2 f2 x2 A2 ws2.length c2 K2 ks2.length d2).alloc (.cells #[.slice (some ⟨w1.heap.size, 0, none⟩) 1 1, .slice (some ⟨w1.heap.size + 1, 0, none⟩) 1 1] 71)) := ⟨_, rfl⟩
  have hst := left_start (hq0.later hb0) (hq20.later hb0)
  rw [← hw4] at hst
  obtain ⟨B, hB⟩ : ∃ B, B = w1.heap.size + 2 := ⟨_, rfl⟩
  have hs4 : w4.heap.size = B + 1 := by rw [hw4, hB]; simp [boxQ]
  have HBW : Hid (∀ wr, Below B w4 wr → Below w.heap.size w wr) := Lib.hid fun wr h => by
    have h1 : Below w1.heap.size w1 w4 := by
      rw [hw4]
      have e1 : Below w1.heap.size w1 (boxQ w1 k f x A ws.length c K ks.length d) := boxQ_below
      have e2 : Below w1.heap.size w1 (boxQ (boxQ w1 k f x A ws.length c K ks.length d) k2 f2 x2 A2 ws2.length c2 K2 ks2.length d2) := e1.trans (boxQ_below.mono e1.size)
      exact e2.alloc e2.size _
    exact hb0.trans ((h1.trans (h.mono (by omega))).mono hb0.size)
  have HST : Hid (LeftAt B w4 [([q], [q2])] (.slice (some ⟨w1.heap.size + 2, 0, none⟩) 1 1) w4) := Lib.hid (by rw [hB]; exact hst)
  obtain ⟨R, hR⟩ : ∃ R, R = sameQ q q2 := ⟨_, rfl⟩
  have hrel0 : SameWRel B w4 R 100000000 100000000 (.slice (some ⟨w1.heap.size + 2, 0, none⟩) 1 1) w4 := by
    refine ⟨[([q], [q2])], HST.out, ?_, ?_, Nat.le_refl _, fun p hp => ?_⟩
    · rw [hR]
      simp only [List.all_cons, List.all_nil, Bool.and_true, pairB, sameL]
      simp
    · simp only [leftS, sizeL]; omega
    · rw [List.mem_singleton.1 hp]
      exact ⟨⟨by rw [FineL, FineL]; exact ⟨hfine, trivial⟩, by rw [FineL, FineL]; exact ⟨hfine2, trivial⟩⟩, ⟨by simp, by simp⟩, by simp⟩
  have HREL := Lib.hid hrel0
  rw [← hR]
  have HW1 := Lib.hid hw1
  have HW4 := Lib.hid hw4
  obtain ⟨j0, hj0, hj1, hj2, hj3⟩ := info_parts info_pair
  clear hbo hw1 hs1 hb0 hw4 hst hrel0 hR hq hq2 hq0 hq20 he he2 hfine hfine2 hd hsz
  go_enter Tryz.func23, Tryz.ntmps23
  go_upto_region 1 with fail
  rw [show (w.alloc _).alloc _ = w1 from HW1.out.symm]
  go_wp2_with fail
  rw [show ((w1.alloc _).alloc _).alloc _ = w4 from HW4.out.symm]
  clear a0 a1 a2 a3 a4 b0 b1 b2 b3 b4 o0 o1 o2 o3 o4
  go_loopg [5, 6, 7, 8, 9] 100000000 (fun g u u6 u7 u8 u9 wr => SameWRel B w4 R 100000000 g u wr)
  case atStart => exact HREL.out
  case round =>
    obtain ⟨ps, ⟨vs, hown, hprs, hbw⟩, hall, hlen, hgN, hok⟩ := hrel
    rcases List.eq_nil_or_concat ps with rfl | ⟨a, xy, rfl⟩
    · rw [List.length_nil] at hown
      obtain ⟨A4, c4, rfl, -⟩ := owned_row hown
      have HR : Hid (true = R) := Lib.hid hall
      have HB := Lib.hid (HBW.out _ hbw)
      clear hall hlen hok hown hprs hbw hgN
      have d0 : decide ((0 : Int) < ((0 : Nat) : Int)) = false := rfl
      have d1 : ¬ (0 : Int) < ((0 : Nat) : Int) := by decide
      go_wp2_with fail
      go_ret
      exact ⟨by rw [← HR.out]; rfl, HB.out⟩
    · rw [List.concat_eq_append] at hall hlen hok hown hprs
      obtain ⟨x, y⟩ := xy
      obtain ⟨va, vx, vy, rfl, hva, hvx, hvy⟩ := hprs.last
      have hla : va.length = a.length * 2 := hva.len
      obtain ⟨n, hn⟩ : ∃ n, n = a.length := ⟨_, rfl⟩
      have hl1 : (a ++ [(x, y)]).length = n + 1 := by rw [List.length_append, ← hn]; rfl
      have hll := left_len hok
      rw [hl1] at hown hll
      obtain ⟨g0, cap, rfl, hg1, hg2⟩ := hown.form (by omega)
      have hcap := owned_cap2 hown
      have hc1 : wr.cell? ⟨g0, n * 2, none⟩ = some vx := by
        rw [hown.cellAt (n * 2) (by omega), List.getElem?_append_right (by omega), hla, hn, Nat.sub_self]
        rfl
      have hc2 : wr.cell? ⟨g0, n * 2 + 1, none⟩ = some vy := by
        rw [hown.cellAt (n * 2 + 1) (by omega), List.getElem?_append_right (by omega), hla, hn, show a.length * 2 + 1 - a.length * 2 = 1 by omega]
        rfl
      obtain ⟨⟨hfx, hfy⟩, ⟨hx9, hy9⟩, hx0⟩ := hok (x, y) (by simp)
      simp only at hfx hfy hx9 hy9 hx0 hvx hvy
      have hBle : B + 1 ≤ wr.heap.size := by have := hbw.size; omega
      obtain ⟨wd, hwd⟩ : ∃ wd, wd = wr.drew := ⟨_, rfl⟩
      have hbd : Below wr.heap.size wr wd := by rw [hwd]; exact (Below.refl _ _).drew
      have hbwd : Below B w4 wd := by rw [hwd]; exact hbw.drew
      have hkd : ∀ b, b < B → wd.heap[b]? = wr.heap[b]? := fun b hb => hbd.block b (by omega)
      have hk4 : ∀ b, b < B → w4.heap[b]? = wr.heap[b]? := fun b hb => (hbw.block b hb).symm
      have HX4 : Hid (KsV (fun b => b < B) w4 x vx) := Lib.hid (hvx.keep hk4)
      have HY4 : Hid (KsV (fun b => b < B) w4 y vy) := Lib.hid (hvy.keep hk4)
      have HEQ : Hid (Calls Tryz.prog 40 #[vx, vy, .func (.func 41) #[] #[]] wd fun e w' => e = .returned (.bool (evenL x y)) ∧ Below wd.heap.size wd w') :=
        Lib.hid (equal_func x y vx vy wd hfx hfy ((hvx.keep hkd).imp fun b hb => by have := hbd.size; omega) ((hvy.keep hkd).imp fun b hb => by have := hbd.size; omega) (by omega) (by omega))
      have HOWN : Hid (wd.ownsRow B 71 2 (.slice (some ⟨g0, 0, none⟩) n cap) n va) := Lib.hid (by
        have := owned_cut2 (m := n) hown (by omega)
        rw [hn, ← hla, List.take_left'  rfl, ← hn] at this
        rw [hwd]
        exact this.drew)
      have HVA : Hid (Prs (fun b => b < B) wd a va) := Lib.hid (hva.keep hkd)
      obtain ⟨E, hE⟩ : ∃ E, E = evenL x y := ⟨_, rfl⟩
      have hall2 : (a.all pairB && (E && (kp x y).all pairB)) = R := by
        rw [← hall, List.all_append, hE]
        simp only [List.all_cons, List.all_nil, Bool.and_true, pairB_kp]
      rw [← hE] at HEQ
      have HE := Lib.hid hE
      have HALL := Lib.hid hall2
      have HKPO : Hid (∀ p ∈ a ++ kp x y, PrOk p) := Lib.hid fun p hp => by
        rcases List.mem_append.1 hp with h | h
        · exact hok p (List.mem_append_left _ h)
        · exact kp_ok hfx hfy p h
      have HMS : Hid (leftS (a ++ kp x y) < leftS (a ++ [(x, y)])) := Lib.hid (by
        have h1 := kp_size x y
        rw [leftS_append, leftS_append]
        simp only [leftS]
        omega)
      have HLEN := Lib.hid hlen
      have HBD := Lib.hid hbwd
      have HWD := Lib.hid hwd
      have hn9 : n < 100000000 := by omega
      have hgB : B ≤ g0 := hg1
      obtain ⟨Kx, dx, dsx, rfl, hdx, hKx, hqx⟩ := hvx
      obtain ⟨Ky, dy, dsy, rfl, hdy, hKy, hqy⟩ := hvy
      have hwr : IntKind.i64.wrap ((n : Int) + 1 - 1) = n := by rw [IntWalk.i64_in _ (by omega)]; omega
      have hwr2 : IntKind.i64.wrap (n : Int) = n := IntWalk.i64_in _ (by omega)
      have HN := Lib.hid hn
      clear hall hall2 hok hown hprs hbw hva hla hn hl1 hll hfx hfy hbd hbwd hkd hk4 hE hlen hwd hdx hKx hqx hdy hKy hqy hg1
      go_upto_region 4 with fail
      go_cut [7, 8] from 23 to 32 (fun s7 s8 wx => s7 = .slice Kx x.length dx ∧ s8 = .slice Ky y.length dy ∧ wr.drew = wx)
      case first =>
        go_region
        all_goals
          go_wp2_with fail
          go_meet
          exact ⟨rfl, rfl, rfl⟩
      case rest =>
        obtain ⟨rfl, rfl, hwx⟩ := hcut
        rw [← HWD.out] at hwx
        subst hwx
        clear hc1 hc2
        cases E with
        | false =>
          have HRF : Hid (false = R) := Lib.hid (by rw [← HALL.out]; simp)
          go_wp2_with (go_at_call 40; (with_reducible refine HEQ.out.mono ?_); rintro e w5 ⟨rfl, hb5⟩; have HB5 := Lib.hid (HBW.out _ (HBD.out.trans (hb5.mono (by have := HBD.out.size; omega)))); clear hb5)
          go_ret
          exact ⟨by rw [← HRF.out]; rfl, HB5.out⟩
        | true =>
          have hxy : x.length = y.length := by
            have := HE.out
            unfold evenL at this
            by_cases e : x.length = y.length
            · exact e
            · rw [decide_eq_false e, Bool.false_and] at this; cases this
          have HALL2 : Hid ((a ++ kp x y).all pairB = R) := Lib.hid (by rw [List.all_append, ← HALL.out, Bool.true_and])
          have HXY := Lib.hid hxy
          obtain ⟨m, hm⟩ : ∃ m, m = x.length := ⟨_, rfl⟩
          rw [← hm] at hx0 hx9 HEQ ⊢
          have HMX := Lib.hid hm
          obtain ⟨my, hmy⟩ : ∃ my, my = y.length := ⟨_, rfl⟩
          rw [← hmy] at HEQ ⊢
          have hmm : my = m := by omega
          have HL0 : Hid (∀ w5, Below wd.heap.size wd w5 → LeftAt B w4 (a ++ kp (x.take 0) (y.take 0)) (.slice (some ⟨g0, 0, none⟩) n cap) w5) := Lib.hid fun w5 h5 => by
            have hsB : B ≤ wd.heap.size := by
              have := HBD.out.size
              have h4 : w4.heap.size = B + 1 := hs4
              omega
            refine ⟨va, ?_, ?_, HBD.out.trans (h5.mono hsB)⟩
            · rw [List.take_zero, kp_nil, List.append_nil, ← HN.out]
              exact owned_below HOWN.out h5
            · rw [List.take_zero, kp_nil, List.append_nil]
              exact HVA.out.keep fun b hb => h5.block b (by omega)
          subst hmm
          clear HALL HE hxy hm hmy
          go_wp2_with (go_at_call 40; (with_reducible refine HEQ.out.mono ?_); rintro e w5 ⟨rfl, hb5⟩; have HL5 := Lib.hid (HL0.out _ hb5); clear hb5)
          go_loopw [5, 9, 42] (fun u u9 i wr => SameIRel B w4 a x y u i wr) (fun _ _ i _ => my - (intOf i).toNat)
          case atStart => exact ⟨0, by omega, rfl, HL5.out⟩
          case round =>
            obtain ⟨j, hj, rfl, vs, hown, hprs, hbw⟩ := hrel
            rw [← HMX.out] at hj
            obtain ⟨lp, hlp⟩ : ∃ lp, lp = a ++ kp (x.take j) (y.take j) := ⟨_, rfl⟩
            rw [← hlp] at hown hprs
            obtain ⟨ln, hln⟩ : ∃ ln, ln = lp.length := ⟨_, rfl⟩
            rw [← hln] at hown
            obtain ⟨A5, c5, rfl, -⟩ := owned_row hown
            by_cases hlt : j < my
            · have hjx : j < x.length := by rw [← HMX.out]; exact hlt
              have hjy : j < y.length := by rw [← HXY.out]; exact hjx
              have hkb : ∀ b, b < B → wr.heap[b]? = w4.heap[b]? := fun b hb => hbw.block b hb
              obtain ⟨Kx', dx', dsx, ex, hdx, hKx, hqx⟩ := HX4.out.keep hkb
              obtain ⟨Ky', dy', dsy, ey, hdy, hKy, hqy⟩ := HY4.out.keep hkb
              have ex' : Kx' = Kx := by injection ex with e1 e2 e3; exact e1.symm
              have ey' : Ky' = Ky := by injection ey with e1 e2 e3; exact e1.symm
              subst ex' ey'
              obtain ⟨b, off, k', f', x', A', n', c', K', m', d', eA, hbB, hv, c0, c1, c2, c3, c4⟩ := kid_at hKx hqx hjx
              obtain ⟨p, pff, k'', f'', x'', A'', n'', c'', K'', m'', d'', eP, hpB, hv2, g0', g1', g2', g3', g4'⟩ := kid_at hKy hqy hjy
              subst eA eP
              obtain ⟨hk1, hkm⟩ := hv.kids
              obtain ⟨hk2, hkm2⟩ := hv2.kids
              have hkt := kp_take hjx hjy
              have hsB : B + 1 ≤ wr.heap.size := by have := hbw.size; omega
              have i0 : (0 : Int) ≤ j := by omega
              have i3 : (j : Int) < my := by omega
              by_cases h0 : m' = 0
              · have HRL : Hid (∀ o, LeftAt B w4 (a ++ kp (x.take (j + 1)) (y.take (j + 1))) (.slice A5 ln c5) (wr.alloc o)) := Lib.hid fun o => by
                  rw [hkt, if_pos (by omega), List.append_nil, ← hlp]
                  have hb : Below wr.heap.size wr (wr.alloc o) := (Below.refl _ _).alloc (Nat.le_refl _) _
                  exact ⟨vs, by rw [← hln]; exact owned_below hown hb, hprs.keep fun b hb' => hb.block b (by omega), hbw.alloc (by omega) o⟩
                subst h0
                clear hkt hk1 hk2 hkm hkm2 hv hv2 hown hprs hbw hkb ex ey hdx hdy hKx hqx hKy hqy hlp hln
                go_wp2_with fail
                go_roundw
                case rel => exact ⟨j + 1, by rw [← HMX.out]; omega, by go_num, HRL.out _⟩
                case measure => simp [intOf]; omega
              · have h1 : 0 < (kidsOf x[j]).length := by omega
                have HRL : Hid (∀ wx ux, wx.ownsRow B 71 2 ux (lp.length + 1) (vs ++ [.slice K' m' d', .slice K'' m'' d'']) → Below B wr wx → LeftAt B w4 (a ++ kp (x.take (j + 1)) (y.take (j + 1))) ux wx) := Lib.hid fun wx ux h hb => by
                  rw [hkt, if_neg (by omega), ← List.append_assoc, ← hlp]
                  refine ⟨vs ++ [.slice K' m' d', .slice K'' m'' d''], by rw [List.length_append, List.length_singleton]; exact h, ?_, hbw.trans hb⟩
                  exact (hprs.snoc hk1 hk2).keep fun b hb' => hb.block b hb'
                have hlle : lp.length ≤ 100000000 + 9 := by
                  have e1 : (kp (x.take j) (y.take j)).length ≤ j := by
                    have : ∀ (l r : List Qy), (kp l r).length ≤ l.length := fun l => by
                      induction l with
                      | nil => intro r; rw [kp_nil]; simp
                      | cons q l ih =>
                        intro r
                        cases r with
                        | nil => simp [kp]
                        | cons q2 r =>
                          have := ih r
                          rw [kp, List.length_append, List.length_cons]
                          split
                          · simp only [List.length_nil]; omega
                          · simp only [List.length_singleton]; omega
                    exact Nat.le_trans (this _ _) (by rw [List.length_take]; omega)
                  rw [hlp, List.length_append, ← HN.out]
                  omega
                rw [← hln] at HRL hlle
                have HO := Lib.hid hown
                have hm0 : (0 : Int) < (m' : Int) := by omega
                clear hkt hk1 hk2 hkm hkm2 hv hv2 hown hprs hkb ex ey hdx hdy hKx hqx hKy hqy hln hlp h1 h0
                have HBR := Lib.hid hbw
                clear hbw
                go_upto_region 12 with fail
                obtain ⟨wb, hwb⟩ : ∃ wb, wb = boxQ wr k' f' x' A' n' c' K' m' d' := ⟨_, rfl⟩
                rw [show wr.alloc _ = wb from hwb.symm]
                have hbb : Below wr.heap.size wr wb := by rw [hwb]; exact boxQ_below
                have hsB2 : B + 1 ≤ wb.heap.size := by have := hbb.size; omega
                have q4 : wb.cell? ⟨wr.heap.size, 4, none⟩ = some (.slice K' m' d') := by rw [hwb]; exact (five_cells (heap_alloc_new _ _)).1.2.2.2.2
                have p4 : wb.cell? ⟨p, pff + j * 5 + 4, none⟩ = some (.slice K'' m'' d'') := by
                  rw [World.cell?_of_block (a := ⟨p, pff + j * 5 + 4, none⟩) (hbb.block p (by omega))]
                  exact g4'
                have HOB : Hid (wb.ownsRow B 71 2 (.slice A5 ln c5) ln vs) := Lib.hid (owned_below HO.out hbb)
                have HBB := Lib.hid hbb
                clear hwb hbb c0 c1 c2 c3 c4 g0' g1' g2' g3' g4' HO
                go_region_law (first
                  | (refine step_append_lies _ (by rfl) _ _ _ (by rfl) B 71 j0 _ 2 48 Tryz.underlying72 hj0 hj1 hj2 hj3 rfl (by omega) (.slice A5 ln c5) ln vs (by rfl) (HOB.out.drew.alloc _)
                      ⟨wb.drew.heap.size, 0, none⟩ 1 1 [.slice K' m' d', .slice K'' m'' d''] (by rfl) (by rfl) (World.news_of_block (cs := #[.slice K' m' d', .slice K'' m'' d'']) (t := 71) (fr := (0, 0)) (heap_alloc_new wb.drew _)) (by intro y hy; simp only [List.mem_cons, List.mem_nil_iff, or_false] at hy; rcases hy with rfl | rfl <;> rfl)
                      (by omega) (by unfold maxLen; omega) (by omega) (by simp; omega) (wb.heap.size + 1) (by simp) ?_
                     intro gg cap2 w8 hown8 hgrow hat8 hlt8
                     have hb8 : Below B wr w8 := (((HBB.out.mono (by omega)).drew).alloc (by simp; omega) _).grown hgrow (by simp; omega) (fun k hk => (HOB.out.lt k hk).1)
                     have HL8 := Lib.hid (HRL.out _ _ hown8 hb8)
                     clear hb8 hown8 hgrow hat8 hlt8))
                all_goals
                  go_wp2_with fail
                  go_roundw
                  case rel => exact ⟨j + 1, by rw [← HMX.out]; omega, by go_num, HL8.out⟩
                  case measure => simp [intOf]; omega
            · obtain rfl : j = my := by omega
              have htx : x.take j = x := List.take_of_length_le (by rw [← HMX.out]; exact Nat.le_refl _)
              have hty : y.take j = y := List.take_of_length_le (by rw [← HXY.out, ← HMX.out]; exact Nat.le_refl _)
              rw [htx, hty] at hlp
              have HLX : Hid (LeftAt B w4 (a ++ kp x y) (.slice A5 ln c5) wr) := Lib.hid ⟨vs, by rw [← hlp, ← hln]; exact hown, by rw [← hlp]; exact hprs, hbw⟩
              clear hown hprs hbw htx hty hlp hln
              go_wp2_with fail
              have hms := HMS.out
              have hlen := HLEN.out
              go_roundg (leftS (a ++ kp x y))
              case measure => omega
              case rel => exact ⟨a ++ kp x y, HLX.out, HALL2.out, Nat.le_refl _, by omega, HKPO.out⟩
end Go.Proofs.YtolfkhflbjnakaaGreatDoor
