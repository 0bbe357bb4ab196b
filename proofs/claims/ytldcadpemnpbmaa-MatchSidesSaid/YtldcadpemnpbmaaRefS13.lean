/- The document's own Side. -/
import Derived.Test.YtldcadpemnpbmaaSideF13
import Derived.Deep.CutRange
import Derived.Deep.RegionHeld3
set_option linter.unusedVariables false
namespace Go.Proofs.Ytldcadpemnpbmaa
open Go Go.RowKit

def HasRel13 (l : List Int) (x : Int) (w : World) (vi : Value) (wr : World) : Prop := ∃ k : Nat, k ≤ l.length ∧ vi = .int .i64 (k : Int) ∧ decide (x ∈ l.drop k) = decide (x ∈ l) ∧ wr = w
theorem has_at {l : List Int} {k : Nat} (hk : k < l.length) (x : Int) : decide (x ∈ l.drop k) = (decide (l[k] = x) || decide (x ∈ l.drop (k + 1))) := by
  rw [List.drop_eq_getElem_cons hk, Bool.eq_iff_iff, Bool.or_eq_true, decide_eq_true_iff, decide_eq_true_iff, decide_eq_true_iff, List.mem_cons]
  constructor
  · rintro (h | h)
    · exact .inl h.symm
    · exact .inr h
  · rintro (h | h)
    · exact .inl h.symm
    · exact .inr h
set_option maxHeartbeats 1000000 in
set_option maxRecDepth 100000 in
theorem ref13_has (A : Option Addr) (n c : Nat) (l : List Int) (x : Int) (w : World) (hr : Row w w.heap.size A (ints l)) (hn : l.length = n) (hm : n ≤ 1099511627776) :
    Calls Try.prog 25 #[.slice A n c, .int .i64 x] w fun e w' => e = .returned (.bool (decide (x ∈ l))) ∧ w' = w := by
  obtain ⟨ans, hans⟩ : ∃ ans, ans = decide (x ∈ l) := ⟨_, rfl⟩
  rw [← hans]
  have HR := Lib.hid hr
  have HN := Lib.hid hn
  have HA := Lib.hid hans
  have HREL : Hid (HasRel13 l x w (.int .i64 ((0 : Nat) : Int)) w) := Lib.hid ⟨0, Nat.zero_le _, rfl, rfl, rfl⟩
  clear hr hn hans
  go_enter Try.func25, Try.ntmps25
  go_wp2
  go_loopw [5] (HasRel13 l x w) (fun i _ => n - (intOf i).toNat)
  case atStart => exact HREL.out
  case round =>
    obtain ⟨k, hk, rfl, hsc, rfl⟩ := hrel
    rw [HN.out] at hk
    by_cases hlt : k < n
    · have hkl : k < l.length := by rw [HN.out]; exact hlt
      obtain ⟨b1, o1, rfl, -, hc1⟩ := row_int HR.out hkl
      have hs := has_at hkl x
      rw [hsc, ← HA.out] at hs
      have hkn : (k : Int) < (n : Int) := by omega
      obtain ⟨y, hy⟩ : ∃ y, y = l[k] := ⟨_, rfl⟩
      rw [← hy] at hc1 hs
      have HK := Lib.hid hkl
      clear hy hkl
      by_cases he : y = x
      · have e1 : (y == x) = true := by rw [he]; exact beq_self_eq_true _
        have hv : ans = true := by rw [hs, decide_eq_true he]; rfl
        subst hv
        clear hs hsc he
        go_wp2
        go_ret
        exact ⟨rfl, rfl⟩
      · have e1 : (y == x) = false := beq_eq_false_iff_ne.2 he
        rw [decide_eq_false he, Bool.false_or] at hs
        have HS := Lib.hid hs
        clear hs hsc he
        go_wp2
        go_roundw
        case rel => exact ⟨k + 1, HK.out, by go_num, by rw [← HS.out, HA.out], rfl⟩
        case measure => simp [intOf]; omega
    · have hv : ans = false := by rw [HA.out, ← hsc, List.drop_of_length_le (by rw [HN.out]; omega)]; rfl
      subst hv
      clear hsc
      go_wp2
      go_ret
      exact ⟨rfl, rfl⟩
theorem follow_take {ls : List (List Int)} : ∀ {j : Nat} (hj : j < ls.length) (x : Int), followF (ls.take (j + 1)) x = (followF (ls.take j) x && decide (x + ((j : Int) + 1) ∈ ls[j])) := by
  induction ls with
  | nil => intro j hj; simp at hj
  | cons a ls ih =>
    intro j hj x
    cases j with
    | zero => simp [followF]
    | succ j =>
      rw [List.take_succ_cons, followF, ih (by simpa using hj), List.take_succ_cons, followF, Bool.and_assoc, List.getElem_cons_succ, show x + 1 + ((j : Int) + 1) = x + (((j + 1 : Nat) : Int) + 1) by omega]
def SideOut (s : List Int) (ls : List (List Int)) (w : World) (vn vi : Value) (wr : World) : Prop :=
  ∃ k : Nat, k ≤ s.length ∧ vi = .int .i64 (k : Int) ∧ vn = .int .i64 (((s.take k).countP (followF ls) : Nat) : Int) ∧ Below w.heap.size w wr
def SideIn (ls : List (List Int)) (x : Int) (w : World) (vb vk : Value) (wr : World) : Prop :=
  ∃ j : Nat, j ≤ ls.length ∧ vk = .int .i64 ((j : Int) + 1) ∧ vb = .bool (followF (ls.take j) x) ∧ Below w.heap.size w wr

set_option maxHeartbeats 4000000 in
set_option maxRecDepth 100000 in
theorem ref13_Side (A : Option Addr) (n c : Nat) (l : List (List Int)) (w : World) (h : Lis w w.heap.size A l) (hn : l.length = n) (hm : n ≤ 1048576) (hb : ∀ s ∈ l, s.length ≤ 1048576 ∧ ∀ x ∈ s, -1152921504606846976 ≤ x ∧ x ≤ 1152921504606846976) :
    Calls Try.prog 17 #[.slice A n c] w fun e w' => e = .returned (.int .i64 ((sideF l : Nat) : Int)) ∧ Below w.heap.size w w' := by
  rcases l with _ | ⟨s, ls⟩
  · subst hn
    rw [List.length_nil]
    have hv : ((sideF [] : Nat) : Int) = 0 := rfl
    rw [hv]
    clear h hv hm hb
    go_enter Try.func17, Try.ntmps17
    go_wp2
    go_ret
    exact ⟨rfl, Below.refl _ _⟩
  · obtain ⟨b0, o0, A0, c0, rfl, hb0, hc0, hr0⟩ := h.at_ (i := 0) (by simp)
    have hs := hb s (List.mem_cons_self ..)
    rw [List.getElem_cons_zero] at hc0 hr0
    rw [Nat.add_zero] at hc0
    have hnl : ls.length + 1 = n := by rw [← hn]; rfl
    obtain ⟨m, hms⟩ : ∃ m, m = s.length := ⟨_, rfl⟩
    have hm1 : m ≤ 1048576 := by rw [hms]; exact hs.1
    rw [← hms] at hc0
    have hv : sideF (s :: ls) = s.countP (followF ls) := rfl
    rw [hv]
    have HREL : Hid (SideOut s ls w (.int .i64 0) (.int .i64 ((0 : Nat) : Int)) w) := Lib.hid ⟨0, Nat.zero_le _, rfl, by simp, Below.refl _ _⟩
    have HL := Lib.hid h
    have HR := Lib.hid hr0
    have HM := Lib.hid hms
    have HNL := Lib.hid hnl
    have HBD := Lib.hid hb
    have HC : Hid (w.cell? ⟨b0, o0, none⟩ = some (.slice A0 m c0)) := Lib.hid hc0
    have h0n : ((n : Int) == 0) = false := beq_eq_false_iff_ne.2 (by omega)
    have h0n' : (0 : Int) < (n : Int) := by omega
    have h0n2 : 0 < n := by omega
    have HB0 := Lib.hid hb0
    clear h hb hs hr0 hms hv hn hnl hb0
    go_enter Try.func17, Try.ntmps17
    go_wp2
    clear hc0
    go_loopw [3, 4] (SideOut s ls w) (fun _ i _ => m - (intOf i).toNat)
    case atStart => exact HREL.out
    case round =>
      obtain ⟨k, hk, rfl, rfl, hbw⟩ := hrel
      rw [← HM.out] at hk
      have hc0 := (hbw.cell (p := ⟨b0, o0, none⟩) HB0.out).trans HC.out
      by_cases hlt : k < m
      · have hkl : k < s.length := by rw [← HM.out]; exact hlt
        have hct := count_take (followF ls) hkl
        have hxb := (HBD.out s (List.mem_cons_self ..)).2 s[k] (List.getElem_mem hkl)
        have HXC : Hid (∀ w2, Below w.heap.size w w2 → ∃ b1 o1, A0 = some ⟨b1, o1, none⟩ ∧ w2.cell? ⟨b1, o1 + k, none⟩ = some (.int .i64 s[k])) := Lib.hid fun w2 h2 => by
          obtain ⟨b1, o1, e, _, hc⟩ := row_int (HR.out.below h2) hkl
          exact ⟨b1, o1, e, hc⟩
        obtain ⟨x, hx⟩ : ∃ x, x = s[k] := ⟨_, rfl⟩
        rw [← hx] at hct hxb HXC
        obtain ⟨hx1, hx2⟩ := hxb
        have hle : (s.take k).countP (followF ls) ≤ k := Nat.le_trans List.countP_le_length (by simp; omega)
        obtain ⟨q, hq⟩ : ∃ q, q = (s.take k).countP (followF ls) := ⟨_, rfl⟩
        rw [← hq] at hct hle ⊢
        have hkm : (k : Int) < (m : Int) := by omega
        have HCT := Lib.hid hct
        have HKL := Lib.hid hkl
        have HBW := Lib.hid hbw
        have HIN : Hid (SideIn ls x w (.bool true) (.int .i64 (((0 : Nat) : Int) + 1)) wr) := Lib.hid ⟨0, Nat.zero_le _, rfl, rfl, hbw⟩
        clear hct hx hq hkl hbw
        go_wp2
        go_loopw [5, 6] (SideIn ls x w) (fun _ i _ => n - (intOf i).toNat)
        case atStart => exact HIN.out
        case round =>
          obtain ⟨j, hj, rfl, rfl, hbw⟩ := hrel
          by_cases hjl : j < ls.length
          · have hft := follow_take hjl x
            obtain ⟨b2, o2, A2, c2, e2, hb2, hc2, hr2⟩ := (HL.out.below hbw).at_ (i := j + 1) (by simp; omega)
            injection e2 with e2
            injection e2 with e2 e3
            subst e2 e3
            rw [List.getElem_cons_succ] at hc2 hr2
            have hsb := (HBD.out ls[j] (List.mem_cons_of_mem _ (List.getElem_mem hjl))).1
            have hc0' := (hbw.cell (p := ⟨b0, o0, none⟩) HB0.out).trans HC.out
            obtain ⟨b1, o1, rfl, hcx⟩ := HXC.out wr hbw
            obtain ⟨t, ht⟩ : ∃ t, t = ls[j] := ⟨_, rfl⟩
            rw [← ht] at hc2 hr2 hft hsb
            obtain ⟨tl, htl⟩ : ∃ tl, tl = t.length := ⟨_, rfl⟩
            rw [← htl] at hc2 hsb
            have hjn : (j : Int) + 1 < (n : Int) := by have := HNL.out; omega
            have hjn2 : (j + 1) < n := by have := HNL.out; omega
            have HH := Lib.hid (fun w2 (h2 : Below wr.heap.size wr w2) => ref13_has A2 tl c2 t (x + ((j : Int) + 1)) w2 ((hr2.more hbw.size).below h2 |>.more h2.size) htl.symm (by omega))
            obtain ⟨f, hf⟩ : ∃ f, f = followF (ls.take j) x := ⟨_, rfl⟩
            obtain ⟨d, hd⟩ : ∃ d, d = decide (x + ((j : Int) + 1) ∈ t) := ⟨_, rfl⟩
            rw [← hf, ← hd] at hft
            rw [← hd] at HH
            rw [← hf]
            have HFT := Lib.hid hft
            have HJL := Lib.hid hjl
            have HBW2 := Lib.hid hbw
            have hj20 : (j : Int) ≤ 1048576 := by have := HNL.out; omega
            clear hft ht htl hf hd hr2 hjl hbw hb2 hsb hc0
            go_wp2
            go_quiet (first | (go_at_call 25; exact Calls.quiet_of_same (HH.out _ ⟨rfl, rfl, rfl, Nat.le_refl _, fun _ _ => rfl⟩)))
            cases f with
            | true =>
              go_wp2
              go_roundw
              case rel => exact ⟨j + 1, HJL.out, by go_num, by rw [HFT.out]; rfl, HBW2.out.trans ⟨rfl, rfl, rfl, Nat.le_refl _, fun _ _ => rfl⟩⟩
              case measure => simp [intOf]; omega
            | false =>
              go_wp2
              go_roundw
              case rel => exact ⟨j + 1, HJL.out, by go_num, by rw [HFT.out]; rfl, HBW2.out.trans ⟨rfl, rfl, rfl, Nat.le_refl _, fun _ _ => rfl⟩⟩
              case measure => simp [intOf]; omega
          · have hjl2 : j = ls.length := by omega
            rw [hjl2, List.take_length]
            have hnn : ¬ ((ls.length : Nat) : Int) + 1 < (n : Int) := by have := HNL.out; omega
            obtain ⟨f, hf⟩ : ∃ f, f = followF ls x := ⟨_, rfl⟩
            have HCT2 := HCT
            rw [← hf] at HCT2 ⊢
            have HBW2 := Lib.hid hbw
            obtain ⟨lg, hlg⟩ : ∃ lg, lg = ls.length := ⟨_, rfl⟩
            rw [← hlg] at hnn ⊢
            have hdn : decide ((lg : Int) + 1 < (n : Int)) = false := decide_eq_false hnn
            clear hf hbw hjl hjl2 hnn hlg
            cases f with
            | true =>
              go_wp2
              go_roundw
              case rel => exact ⟨k + 1, HKL.out, by go_num, by rw [HCT2.out]; simp, HBW2.out⟩
              case measure => simp [intOf]; omega
            | false =>
              go_wp2
              go_roundw
              case rel => exact ⟨k + 1, HKL.out, by go_num, by rw [HCT2.out]; simp, HBW2.out⟩
              case measure => simp [intOf]; omega
      · have hkm : k = s.length := by rw [← HM.out]; omega
        rw [hkm, List.take_length]
        obtain ⟨q, hq⟩ : ∃ q, q = s.countP (followF ls) := ⟨_, rfl⟩
        rw [← hq]
        have hlt' : ¬ ((s.length : Nat) : Int) < (m : Int) := by rw [HM.out]; omega
        have HQ := Lib.hid hq
        clear hq
        go_wp2
        go_ret
        exact ⟨by rw [← HQ.out]; rfl, hbw⟩
end Go.Proofs.Ytldcadpemnpbmaa
