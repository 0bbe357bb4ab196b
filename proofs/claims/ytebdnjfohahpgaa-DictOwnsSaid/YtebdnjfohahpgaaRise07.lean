/- Whether names rise: what the document's Rises answers, and package dict's. -/
import Derived.Test.YtebdnjfohahpgaaShelf07
import Derived.BigCall
import Derived.BigQuiet
import Derived.Deep.QuietTactic
namespace Go.Proofs.Ytebdnjfohahpgaa
open Go Go.RowKit
set_option linter.unusedVariables false

theorem row_nm {w : World} {B : Nat} {A : Option Addr} {xs : List Nm} (h : Row w B A (strs xs)) {k : Nat} (hk : k < xs.length) :
    ∃ b off, A = some ⟨b, off, none⟩ ∧ b < B ∧ w.cell? ⟨b, off + k, none⟩ = some (.string ⟨xs[k].toArray⟩) := row_str h hk
/-- A name as a text, by a name of its own. -/
theorem as_text (x : Nm) : ∃ t : ByteArray, t = ⟨x.toArray⟩ ∧ t.data.toList = x := ⟨_, rfl, rfl⟩
theorem size_nm (x : Nm) : (⟨x.toArray⟩ : ByteArray).size = x.length := List.size_toArray
theorem less_true {s t : ByteArray} (h : s.data.toList < t.data.toList) : Op.bytesLess s.toList t.toList = true := by rw [Lib.toList_data, Lib.toList_data, less_of]; exact decide_eq_true h
theorem less_false {s t : ByteArray} (h : ¬ s.data.toList < t.data.toList) : Op.bytesLess s.toList t.toList = false := by rw [Lib.toList_data, Lib.toList_data, less_of]; exact decide_eq_false h
theorem same_true {s t : ByteArray} (h : s.data.toList = t.data.toList) : (s.toList == t.toList) = true := by rw [Lib.toList_data, Lib.toList_data, h]; exact beq_self_eq_true _
theorem same_false {s t : ByteArray} (h : s.data.toList ≠ t.data.toList) : (s.toList == t.toList) = false := by rw [Lib.toList_data, Lib.toList_data]; simpa using h

def RiseRel (l : List Nm) (w : World) (r i : Value) (wr : World) : Prop := r = .bool false ∧ ∃ k : Nat, 1 ≤ k ∧ i = .int .i64 (k : Int) ∧ Below w.heap.size w wr ∧ ∀ j (hj : j < l.length), 0 < j → j < k → l[j - 1] < l[j]

set_option maxHeartbeats 1000000 in
set_option maxRecDepth 100000 in
theorem ref_Rises07 (A : Option Addr) (m c : Nat) (l : List Nm) (w : World) (hr : Row w w.heap.size A (strs l)) (hm : l.length = m) (hl : m ≤ 1073741824) :
    Calls Try.prog 10 #[.slice A m c] w fun e w' => e = .returned (.bool (risesN l)) ∧ Below w.heap.size w w' := by
  have HR := Lib.hid hr
  clear hr
  subst hm
  obtain ⟨ans, hans⟩ : ∃ ans, ans = risesN l := ⟨_, rfl⟩
  rw [← hans]
  have HA := Lib.hid hans
  clear hans
  go_enter Try.func10, Try.ntmps10
  go_wp2
  go_loopw [2, 3] (fun r i wr => RiseRel l w r i wr) (fun _ i _ => l.length - (intOf i).toNat)
  case atStart => exact ⟨rfl, 1, by omega, rfl, Below.refl _ _, fun j _ _ _ => by omega⟩
  case round =>
    obtain ⟨rfl, k, hk, rfl, hbw, hall⟩ := hrel
    by_cases hlt : k < l.length
    · obtain ⟨b1, o1, e1, _, hc1⟩ := row_nm (HR.out.below hbw) hlt
      subst e1
      have hc0 : wr.cell? ⟨b1, o1 + (k - 1), none⟩ = some (.string ⟨l[k - 1].toArray⟩) := by
        obtain ⟨b2, o2, e2, _, hc2⟩ := row_nm (HR.out.below hbw) (k := k - 1) (by omega)
        injection e2 with e2
        injection e2 with e3 e4
        subst e3 e4
        exact hc2
      obtain ⟨x, hx, hx2⟩ := as_text l[k]
      obtain ⟨y, hy, hy2⟩ := as_text l[k - 1]
      rw [← hx] at hc1
      rw [← hy] at hc0
      obtain ⟨j, hj⟩ : ∃ j, j = k - 1 := ⟨_, rfl⟩
      have hw : IntKind.i64.wrap ((k : Int) - 1) = (j : Int) := by rw [IntWalk.i64_in _ (by omega)]; omega
      have hjl : j < l.length := by omega
      rw [← hj] at hc0
      by_cases hxy : l[k - 1] < l[k]
      · have t1 := less_false (s := x) (t := y) (by rw [hx2, hy2]; exact nm_asym hxy)
        have t2 := same_false (s := x) (t := y) (by rw [hx2, hy2]; exact (nm_ne hxy).symm)
        have HN : Hid (∀ j (hj : j < l.length), 0 < j → j < k + 1 → l[j - 1] < l[j]) := Lib.hid fun j hj h0 hjk => by
          by_cases e : j = k
          · subst e; exact hxy
          · exact hall j hj h0 (by omega)
        clear hx hx2 hy hy2 hj hall hxy
        go_wp2
        go_quiet (fail)
        go_wp2
        go_roundw
        case rel => exact ⟨rfl, k + 1, by omega, by go_num, hbw.trans ⟨rfl, rfl, rfl, Nat.le_refl _, fun _ _ => rfl⟩, HN.out⟩
        case measure => simp [intOf]; omega
      · have hbad : ans = false := by rw [HA.out]; exact rise_bad hlt (by omega) hxy
        subst hbad
        have hle : Op.bytesLess x.toList y.toList = true ∨ Op.bytesLess x.toList y.toList = false ∧ (x.toList == y.toList) = true := by
          rcases nm_tri l[k] l[k - 1] with h | h | h
          · exact .inl (less_true (by rw [hx2, hy2]; exact h))
          · exact .inr ⟨less_false (by rw [hx2, hy2, h]; exact nm_irrefl _), same_true (by rw [hx2, hy2]; exact h)⟩
          · exact absurd h hxy
        clear hx hx2 hy hy2 hj hall hxy
        rcases hle with t1 | ⟨t1, t2⟩
        all_goals
          go_wp2
          go_quiet (fail)
          go_wp2
          go_ret
          exact ⟨rfl, hbw.trans ⟨rfl, rfl, rfl, Nat.le_refl _, fun _ _ => rfl⟩⟩
    · have hgood : ans = true := by rw [HA.out]; exact rise_good fun i hi h0 => hall i hi h0 (by omega)
      subst hgood
      clear hall
      go_wp2
      go_ret
      exact ⟨rfl, hbw⟩

set_option maxHeartbeats 1000000 in
set_option maxRecDepth 100000 in
theorem dict_rise (A : Option Addr) (m c : Nat) (l : List Nm) (w : World) (hr : Row w w.heap.size A (strs l)) (hm : l.length = m) (hl : m ≤ 1073741824) :
    Calls Try.prog 29 #[.slice A m c] w fun e w' => e = .returned (.bool (risesN l)) ∧ Below w.heap.size w w' := by
  have HR := Lib.hid hr
  clear hr
  subst hm
  obtain ⟨ans, hans⟩ : ∃ ans, ans = risesN l := ⟨_, rfl⟩
  rw [← hans]
  have HA := Lib.hid hans
  clear hans
  go_enter Try.func29, Try.ntmps29
  go_wp2
  go_loopw [2, 3] (fun r i wr => RiseRel l w r i wr) (fun _ i _ => l.length - (intOf i).toNat)
  case atStart => exact ⟨rfl, 1, by omega, rfl, Below.refl _ _, fun j _ _ _ => by omega⟩
  case round =>
    obtain ⟨rfl, k, hk, rfl, hbw, hall⟩ := hrel
    by_cases hlt : k < l.length
    · obtain ⟨b1, o1, e1, _, hc1⟩ := row_nm (HR.out.below hbw) hlt
      subst e1
      have hc0 : wr.cell? ⟨b1, o1 + (k - 1), none⟩ = some (.string ⟨l[k - 1].toArray⟩) := by
        obtain ⟨b2, o2, e2, _, hc2⟩ := row_nm (HR.out.below hbw) (k := k - 1) (by omega)
        injection e2 with e2
        injection e2 with e3 e4
        subst e3 e4
        exact hc2
      obtain ⟨x, hx, hx2⟩ := as_text l[k]
      obtain ⟨y, hy, hy2⟩ := as_text l[k - 1]
      rw [← hx] at hc1
      rw [← hy] at hc0
      obtain ⟨j, hj⟩ : ∃ j, j = k - 1 := ⟨_, rfl⟩
      have hw : IntKind.i64.wrap ((k : Int) - 1) = (j : Int) := by rw [IntWalk.i64_in _ (by omega)]; omega
      have hjl : j < l.length := by omega
      rw [← hj] at hc0
      by_cases hxy : l[k - 1] < l[k]
      · have t1 := less_true (s := y) (t := x) (by rw [hx2, hy2]; exact hxy)
        have HN : Hid (∀ j (hj : j < l.length), 0 < j → j < k + 1 → l[j - 1] < l[j]) := Lib.hid fun j hj h0 hjk => by
          by_cases e : j = k
          · subst e; exact hxy
          · exact hall j hj h0 (by omega)
        clear hx hx2 hy hy2 hj hall hxy
        go_wp2
        go_quiet (fail)
        go_wp2
        go_roundw
        case rel => exact ⟨rfl, k + 1, by omega, by go_num, hbw.trans ⟨rfl, rfl, rfl, Nat.le_refl _, fun _ _ => rfl⟩, HN.out⟩
        case measure => simp [intOf]; omega
      · have hbad : ans = false := by rw [HA.out]; exact rise_bad hlt (by omega) hxy
        subst hbad
        have t1 := less_false (s := y) (t := x) (by rw [hx2, hy2]; exact hxy)
        clear hx hx2 hy hy2 hj hall hxy
        go_wp2
        go_quiet (fail)
        go_wp2
        go_ret
        exact ⟨rfl, hbw.trans ⟨rfl, rfl, rfl, Nat.le_refl _, fun _ _ => rfl⟩⟩
    · have hgood : ans = true := by rw [HA.out]; exact rise_good fun i hi h0 => hall i hi h0 (by omega)
      subst hgood
      clear hall
      go_wp2
      go_ret
      exact ⟨rfl, hbw⟩
end Go.Proofs.Ytebdnjfohahpgaa
