/- What merge.wrong answers, and slices.ContainsFunc of it: whether a list does not rise. -/
import Derived.Test.YtpehcaidjlemiaaRefOrdP11
import Derived.BigCall
import Derived.BigQuiet
import Derived.Deep.QuietTactic
set_option linter.unusedVariables false
namespace Go.Proofs.Ytpehcaidjlemiaa
open Go Go.RowKit

def WrongRel (l : List Int) (w : World) (r last i : Value) (wr : World) : Prop := r = .bool false ∧ ∃ (k : Nat) (x : Int), k ≤ l.length ∧ i = .int .i64 (k : Int) ∧ last = .int .i64 x ∧ risesZ x (l.drop k) = risesZ (-1) l ∧ Below w.heap.size w wr
set_option maxHeartbeats 1000000 in
set_option maxRecDepth 100000 in
theorem merge_wrong (A : Option Addr) (n c : Nat) (l : List Int) (w : World) (hr : Row w w.heap.size A (ints l)) (hn : l.length = n) (hl : n ≤ 9223372036854775807) :
    Calls Try.prog 11 #[.slice A n c] w fun e w' => e = .returned (.bool (!risesZ (-1) l)) ∧ Below w.heap.size w w' := by
  have HR := Lib.hid hr
  clear hr
  obtain ⟨ans, hans⟩ : ∃ ans, ans = !risesZ (-1) l := ⟨_, rfl⟩
  rw [← hans]
  have HA := Lib.hid hans
  have HN := Lib.hid hn
  clear hans hn
  go_enter Try.func11, Try.ntmps11
  go_wp2
  go_loopw [2, 3, 5, 8] (fun r last u i wr => WrongRel l w r last i wr) (fun _ _ _ i _ => n - (intOf i).toNat)
  case atStart => exact ⟨rfl, 0, -1, Nat.zero_le _, rfl, rfl, rfl, Below.refl _ _⟩
  case round =>
    obtain ⟨rfl, k, x, hk, rfl, rfl, hx, hbw⟩ := hrel
    rw [HN.out] at hk
    by_cases hlt : k < n
    · have hkl : k < l.length := by rw [HN.out]; exact hlt
      obtain ⟨b1, o1, rfl, _, hc1⟩ := row_int (HR.out.below hbw) hkl
      have hdr : l.drop k = l[k] :: l.drop (k + 1) := List.drop_eq_getElem_cons hkl
      rw [hdr, risesZ] at hx
      obtain ⟨y, hy⟩ : ∃ y, y = l[k] := ⟨_, rfl⟩
      rw [← hy] at hc1 hx
      have hi0 : (0 : Int) ≤ k := by omega
      have hi1 : (k : Int) < n := by omega
      clear hy hdr
      by_cases hxy : y ≤ x
      · have hv : ans = true := by rw [HA.out, ← hx, decide_eq_false (by omega)]; rfl
        have d1 : decide (y ≤ x) = true := decide_eq_true hxy
        subst hv
        clear hx hkl hxy
        go_wp2
        go_ret
        exact ⟨rfl, hbw⟩
      · have d1 : decide (y ≤ x) = false := decide_eq_false hxy
        rw [decide_eq_true (by omega), Bool.true_and] at hx
        have HX := Lib.hid hx
        clear hx hkl hxy
        go_wp2
        go_roundw
        case rel => exact ⟨rfl, k + 1, y, by rw [HN.out]; omega, by go_num, rfl, HX.out, hbw⟩
        case measure => simp [intOf]; omega
    · have hv : ans = false := by
        rw [HA.out, ← hx, List.drop_of_length_le (by rw [HN.out]; omega)]
        rfl
      subst hv
      clear hx
      go_wp2
      go_ret
      exact ⟨rfl, hbw⟩
def WrongIdxRel (ls : List (List Int)) (w : World) (r u i : Value) (wr : World) : Prop := r = .int .i64 0 ∧ ∃ k : Nat, k ≤ ls.length ∧ i = .int .i64 (k : Int) ∧ Below w.heap.size w wr ∧ ∀ j (hj : j < ls.length), j < k → risesZ (-1) ls[j] = true
set_option maxHeartbeats 2000000 in
set_option maxRecDepth 100000 in
theorem wrong_index (A : Option Addr) (n c : Nat) (ls : List (List Int)) (w : World) (hn : ls.length = n) (hnx : n ≤ 9223372036854775807) (hr : Lol (Value.int .i64) w w.heap.size A ls) :
    Calls Try.prog 19 #[.slice A n c, .func (.func 11) #[] #[]] w fun e w' => (∃ r : Int, e = .returned (.int .i64 r) ∧ decide (0 ≤ r) = !(ls.all (risesZ (-1)))) ∧ Below w.heap.size w w' := by
  have HR := Lib.hid hr
  have HN := Lib.hid hn
  clear hr hn
  go_enter Try.func19, Try.ntmps19
  go_wp2
  go_loopw [4, 5, 8] (fun r u i wr => WrongIdxRel ls w r u i wr) (fun _ _ i _ => n - (intOf i).toNat)
  case atStart => exact ⟨rfl, 0, Nat.zero_le _, rfl, Below.refl _ _, fun j _ hj => by omega⟩
  case round =>
    obtain ⟨rfl, k, hk, rfl, hbw, hall⟩ := hrel
    rw [HN.out] at hk
    have HALL := Lib.hid hall
    clear hall
    by_cases hkn : k < n
    · have hlt : k < ls.length := by rw [HN.out]; exact hkn
      obtain ⟨b1, o1, A', c', rfl, hb1, hc1, hl1, hp1⟩ := (HR.out.below hbw).at_ hlt
      have hi0 : (0 : Int) ≤ k := by omega
      have hi1 : (k : Int) < n := by omega
      obtain ⟨L, hL⟩ : ∃ L, L = ls[k] := ⟨_, rfl⟩
      rw [← hL] at hc1 hl1 hp1
      obtain ⟨m, hm⟩ : ∃ m, m = L.length := ⟨_, rfl⟩
      rw [← hm] at hc1 hl1
      have hsz := hbw.size
      have HW := Lib.hid (merge_wrong A' m c' L wr (hp1.more hsz) hm.symm (by have := hl1.2; unfold maxLen at this; omega))
      have HL := Lib.hid hL
      obtain ⟨z, hz⟩ : ∃ z, z = risesZ (-1) L := ⟨_, rfl⟩
      rw [← hz] at HW
      have HZ := Lib.hid hz
      have HBW := Lib.hid hbw
      clear hL hm hz hp1 hl1 hbw
      cases z with
      | false =>
        have hbad : Hid (ls.all (risesZ (-1)) = false) := Lib.hid (by
          rw [List.all_eq_false]
          exact ⟨_, List.getElem_mem hlt, by rw [← HL.out, ← HZ.out]; decide⟩)
        go_wp2_with (go_at_call 11; (with_reducible refine HW.out.mono ?_); rintro e w5 ⟨rfl, hb5⟩)
        go_ret
        exact ⟨⟨_, rfl, by rw [hbad.out]; exact decide_eq_true hi0⟩, HBW.out.trans (hb5.mono hsz)⟩
      | true =>
        have HOK : Hid (∀ j (hj : j < ls.length), j < k + 1 → risesZ (-1) ls[j] = true) := Lib.hid fun i hi hik => by
          by_cases e : i = k
          · subst e
            rw [← HL.out, ← HZ.out]
          · exact HALL.out i hi (by omega)
        go_wp2_with (go_at_call 11; (with_reducible refine HW.out.mono ?_); rintro e w5 ⟨rfl, hb5⟩)
        go_roundw
        case rel => exact ⟨rfl, k + 1, by rw [HN.out]; omega, by go_num, HBW.out.trans (hb5.mono hsz), HOK.out⟩
        case measure => simp [intOf]; omega
    · have hgood : Hid (ls.all (risesZ (-1)) = true) := Lib.hid (List.all_eq_true.2 fun l hl => by
        obtain ⟨j, hj, rfl⟩ := List.mem_iff_getElem.1 hl
        exact HALL.out j hj (by have := HN.out; omega))
      have HBW := Lib.hid hbw
      clear hbw
      go_wp2
      go_ret
      exact ⟨⟨_, rfl, by rw [hgood.out]; rfl⟩, HBW.out⟩

set_option maxHeartbeats 1000000 in
set_option maxRecDepth 100000 in
theorem wrong_contains (A : Option Addr) (n c : Nat) (ls : List (List Int)) (w : World) (hn : ls.length = n) (hnx : n ≤ 9223372036854775807) (hr : Lol (Value.int .i64) w w.heap.size A ls) :
    Calls Try.prog 10 #[.slice A n c, .func (.func 11) #[] #[]] w fun e w' => e = .returned (.bool (!(ls.all (risesZ (-1))))) ∧ Below w.heap.size w w' := by
  have C := Lib.hid (wrong_index A n c ls w hn hnx hr)
  clear hn hnx hr
  obtain ⟨z, hz⟩ : ∃ z, z = !(ls.all (risesZ (-1))) := ⟨_, rfl⟩
  rw [← hz] at C ⊢
  clear hz
  go_enter Try.func10, Try.ntmps10
  go_wp2_with (go_at_call 19; (with_reducible refine C.out.mono ?_); rintro e w1 ⟨⟨r, rfl, hr⟩, hb⟩)
  go_ret
  exact ⟨rfl, hb⟩
end Go.Proofs.Ytpehcaidjlemiaa
