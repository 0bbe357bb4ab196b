/- The document's own answers for lists of documents: at, Same, Not. -/
import Derived.Test.YtldcadpemnpbmaaOps13
set_option linter.unusedVariables false
namespace Go.Proofs.Ytldcadpemnpbmaa
open Go Go.RowKit

theorem sc_at {l : List Fo} {k : Nat} (hk : k < l.length) (d : Nat) : scF (l.drop k) d = if l[k].1 = d then some l[k].2 else scF (l.drop (k + 1)) d := by rw [List.drop_eq_getElem_cons hk, scF]
/-- Where a document stands, as a number: -1, or a place at which it stands. -/
def AtF (l : List Fo) (d : Nat) (i : Int) : Prop := (scF l d = none ∧ i = -1) ∨ ∃ k : Nat, ∃ h : k < l.length, i = (k : Int) ∧ scF l d = some l[k].2
def AtRel (l : List Fo) (d : Nat) (w : World) (vi : Value) (wr : World) : Prop := ∃ k : Nat, k ≤ l.length ∧ vi = .int .i64 (k : Int) ∧ scF (l.drop k) d = scF l d ∧ Below w.heap.size w wr
set_option maxHeartbeats 1000000 in
set_option maxRecDepth 100000 in
theorem ref13_at (A : Option Addr) (n c : Nat) (l : List Fo) (d : Nat) (w : World) (hr : FoRow w A l) (hn : l.length = n) (hm : n ≤ 1099511627776) :
    Calls Try.prog 20 #[.slice A n c, .int .i64 (d : Int)] w fun e w' => (∃ i, e = .returned (.int .i64 i) ∧ AtF l d i) ∧ Below w.heap.size w w' := by
  have HR := Lib.hid hr
  have HN := Lib.hid hn
  have HREL : Hid (AtRel l d w (.int .i64 ((0 : Nat) : Int)) w) := Lib.hid ⟨0, Nat.zero_le _, rfl, rfl, Below.refl _ _⟩
  obtain ⟨dd, hdd⟩ : ∃ dd : Int, dd = (d : Int) := ⟨_, rfl⟩
  rw [← hdd]
  have HD := Lib.hid hdd
  clear hr hn hdd
  go_enter Try.func20, Try.ntmps20
  go_wp2
  go_loopw [5] (AtRel l d w) (fun i _ => n - (intOf i).toNat)
  case atStart => exact HREL.out
  case round =>
    obtain ⟨k, hk, rfl, hsc, hbw⟩ := hrel
    rw [HN.out] at hk
    by_cases hlt : k < n
    · have hkl : k < l.length := by rw [HN.out]; exact hlt
      obtain ⟨b1, o1, rfl, -, hc1, -⟩ := (HR.out.later hbw).at_ hkl
      have hs := sc_at hkl d
      rw [hsc] at hs
      have hkn : (k : Int) < (n : Int) := by omega
      obtain ⟨x, hx⟩ : ∃ x, x = l[k] := ⟨_, rfl⟩
      have HK : Hid (∃ h : k < l.length, x = l[k]'h) := Lib.hid ⟨hkl, hx⟩
      rw [← hx] at hc1 hs
      obtain ⟨y, hy⟩ : ∃ y : Int, y = (x.1 : Int) := ⟨_, rfl⟩
      rw [← hy] at hc1
      by_cases he : x.1 = d
      · have e1 : (y == dd) = true := by rw [hy, he, HD.out]; exact beq_self_eq_true _
        have HS : Hid (scF l d = some x.2) := Lib.hid (by rw [hs]; exact if_pos he)
        clear hs hsc hy he hkl hx
        go_wp2
        go_ret
        obtain ⟨hk2, hx2⟩ := HK.out
        exact ⟨⟨_, rfl, .inr ⟨k, hk2, rfl, by rw [HS.out, hx2]⟩⟩, hbw⟩
      · have e1 : (y == dd) = false := beq_eq_false_iff_ne.2 (by rw [HD.out]; omega)
        have HS : Hid (scF l d = scF (l.drop (k + 1)) d) := Lib.hid (by rw [hs]; exact if_neg he)
        clear hs hsc hy he hkl hx
        go_wp2
        go_roundw
        case rel => exact ⟨k + 1, HK.out.1, by go_num, HS.out.symm, hbw⟩
        case measure => simp [intOf]; omega
    · have hs : scF l d = none := by rw [← hsc, List.drop_of_length_le (by rw [HN.out]; omega)]; rfl
      have HS := Lib.hid hs
      clear hs hsc
      go_wp2
      go_ret
      exact ⟨⟨_, rfl, .inl ⟨HS.out, rfl⟩⟩, hbw⟩
def SameRel13 (a b : List Fo) (w : World) (r vi : Value) (wr : World) : Prop := r = .bool false ∧ ∃ k : Nat, k ≤ a.length ∧ vi = .int .i64 (k : Int) ∧ (decide (a.drop k = b.drop k) = decide (a = b)) ∧ Below w.heap.size w wr
theorem same_at {a b : List Fo} {k : Nat} (ha : k < a.length) (hb : k < b.length) : decide (a.drop k = b.drop k) = (decide (a[k] = b[k]) && decide (a.drop (k + 1) = b.drop (k + 1))) := by
  rw [List.drop_eq_getElem_cons ha, List.drop_eq_getElem_cons hb, Bool.eq_iff_iff, Bool.and_eq_true, decide_eq_true_iff, decide_eq_true_iff, decide_eq_true_iff]
  exact List.cons_eq_cons
set_option maxHeartbeats 4000000 in
set_option maxRecDepth 100000 in
theorem ref13_Same (A A2 : Option Addr) (n c n2 c2 : Nat) (a b : List Fo) (w : World) (ha : FoRow w A a) (hb : FoRow w A2 b) (hn : a.length = n) (hn2 : b.length = n2) (hm : n ≤ 1099511627776) (hm2 : n2 ≤ 1099511627776) :
    Calls Try.prog 7 #[.slice A n c, .slice A2 n2 c2] w fun e w' => e = .returned (.bool (decide (a = b))) ∧ Below w.heap.size w w' := by
  obtain ⟨ans, hans⟩ : ∃ ans, ans = decide (a = b) := ⟨_, rfl⟩
  rw [← hans]
  by_cases hne : n = n2
  · subst hne
    have e0 : ((n : Int) != (n : Int)) = false := by simp
    have HREL : Hid (SameRel13 a b w (.bool false) (.int .i64 ((0 : Nat) : Int)) w) := Lib.hid ⟨rfl, 0, Nat.zero_le _, rfl, rfl, Below.refl _ _⟩
    have HRA := Lib.hid ha
    have HRB := Lib.hid hb
    have HN := Lib.hid hn
    have HN2 := Lib.hid hn2
    have HA := Lib.hid hans
    clear ha hb hn hn2 hans hm2
    go_enter Try.func7, Try.ntmps7
    go_wp2
    go_loopw [4, 5] (SameRel13 a b w) (fun _ i _ => n - (intOf i).toNat)
    case atStart => exact HREL.out
    case round =>
      obtain ⟨rfl, k, hk, rfl, hsm, hbw⟩ := hrel
      rw [HN.out] at hk
      by_cases hlt : k < n
      · have hka : k < a.length := by rw [HN.out]; exact hlt
        have hkb : k < b.length := by rw [HN2.out]; exact hlt
        obtain ⟨b1, o1, rfl, -, p0, p1⟩ := (HRA.out.later hbw).at_ hka
        obtain ⟨b2, o2, rfl, -, q0, q1⟩ := (HRB.out.later hbw).at_ hkb
        have hs := same_at hka hkb
        rw [hsm, ← HA.out] at hs
        have hkn : (k : Int) < (n : Int) := by omega
        obtain ⟨x, hx⟩ : ∃ x, x = a[k] := ⟨_, rfl⟩
        obtain ⟨y, hy⟩ : ∃ y, y = b[k] := ⟨_, rfl⟩
        rw [← hx] at p0 p1 hs
        rw [← hy] at q0 q1 hs
        obtain ⟨xd, xs⟩ := x
        obtain ⟨yd, ys⟩ := y
        have HK := Lib.hid hka
        simp only at p0 p1 q0 q1
        clear hx hy hka hkb hsm
        by_cases h1 : xd = yd
        · subst h1
          by_cases h2 : xs = ys
          · subst h2
            have hs' : decide (a.drop (k + 1) = b.drop (k + 1)) = ans := by rw [hs]; simp
            have HS := Lib.hid hs'
            obtain ⟨z, hz⟩ : ∃ z : Int, z = (xd : Int) := ⟨_, rfl⟩
            rw [← hz] at p0 q0
            clear hs hs' hz
            go_wp2
            go_quiet (fail)
            go_wp2
            go_roundw
            case rel => exact ⟨rfl, k + 1, HK.out, by go_num, by rw [HS.out, HA.out], hbw.trans ⟨rfl, rfl, rfl, Nat.le_refl _, fun _ _ => rfl⟩⟩
            case measure => simp [intOf]; omega
          · have hv : ans = false := by rw [hs]; simp [h2]
            have e2 : (xs == ys) = false := beq_eq_false_iff_ne.2 h2
            obtain ⟨z, hz⟩ : ∃ z : Int, z = (xd : Int) := ⟨_, rfl⟩
            rw [← hz] at p0 q0
            subst hv
            clear hs h2 hz
            go_wp2
            go_quiet (fail)
            go_wp2
            go_ret
            exact ⟨rfl, hbw.trans ⟨rfl, rfl, rfl, Nat.le_refl _, fun _ _ => rfl⟩⟩
        · have hv : ans = false := by rw [hs]; simp [h1]
          obtain ⟨z, hz⟩ : ∃ z : Int, z = (xd : Int) := ⟨_, rfl⟩
          obtain ⟨u, hu⟩ : ∃ u : Int, u = (yd : Int) := ⟨_, rfl⟩
          have e1 : (z == u) = false := beq_eq_false_iff_ne.2 (by omega)
          rw [← hz] at p0
          rw [← hu] at q0
          subst hv
          clear hs h1 hz hu
          go_wp2
          go_quiet (fail)
          go_wp2
          go_ret
          exact ⟨rfl, hbw.trans ⟨rfl, rfl, rfl, Nat.le_refl _, fun _ _ => rfl⟩⟩
      · have hv : ans = true := by rw [HA.out, ← hsm, List.drop_of_length_le (by rw [HN.out]; omega), List.drop_of_length_le (by rw [HN2.out]; omega)]; rfl
        subst hv
        clear hsm
        go_wp2
        go_ret
        exact ⟨rfl, hbw⟩
  · have hv : ans = false := by rw [hans, decide_eq_false]; intro e; rw [e] at hn; omega
    have e0 : ((n : Int) != (n2 : Int)) = true := by simp; omega
    subst hv
    clear ha hb hn hn2 hans
    go_enter Try.func7, Try.ntmps7
    go_wp2
    go_ret
    exact ⟨rfl, Below.refl _ _⟩
end Go.Proofs.Ytldcadpemnpbmaa
