/- Side: how many numbers of the first list are followed in the others. -/
import Derived.Test.YtldcadpemnpbmaaSideW13
set_option linter.unusedVariables false
namespace Go.Proofs.Ytldcadpemnpbmaa
open Go Go.RowKit

def SideRel (s : List Int) (ls : List (List Int)) (w : World) (vn vi : Value) (wr : World) : Prop :=
  ∃ k : Nat, k ≤ s.length ∧ vi = .int .i64 (k : Int) ∧ vn = .int .i64 (((s.take k).countP (followF ls) : Nat) : Int) ∧ Below w.heap.size w wr
theorem count_take (p : Int → Bool) {s : List Int} {k : Nat} (hk : k < s.length) : (s.take (k + 1)).countP p = (s.take k).countP p + if p s[k] = true then 1 else 0 := by
  rw [List.take_succ_eq_append_getElem hk, List.countP_append, List.countP_singleton]

set_option maxHeartbeats 4000000 in
set_option maxRecDepth 100000 in
theorem match_Side (A : Option Addr) (n c : Nat) (l : List (List Int)) (w : World) (h : Lis w w.heap.size A l) (hn : l.length = n) (hc : n ≤ c) (hl : RiseL l) (hm : n ≤ 1099511627776) :
    Calls Try.prog 16 #[.slice A n c] w fun e w' => e = .returned (.int .i64 ((sideF l : Nat) : Int)) ∧ Below w.heap.size w w' := by
  rcases l with _ | ⟨s, ls⟩
  · subst hn
    rw [List.length_nil]
    have hv : ((sideF [] : Nat) : Int) = 0 := rfl
    rw [hv]
    clear h hv hc hm hl
    go_enter Try.func16, Try.ntmps16
    go_wp2
    go_ret
    exact ⟨rfl, Below.refl _ _⟩
  · obtain ⟨b0, o0, A0, c0, rfl, hb0, hc0, hr0⟩ := h.at_ (i := 0) (by simp)
    have hs := hl s (List.mem_cons_self ..)
    have hls : RiseL ls := fun x hx => hl x (List.mem_cons_of_mem _ hx)
    rw [List.getElem_cons_zero] at hc0 hr0
    rw [Nat.add_zero] at hc0
    obtain ⟨AN, hAN⟩ : ∃ AN : Addr, (if c = 1 then some (⟨b0, o0, none⟩ : Addr) else some ⟨b0, o0 + 1, none⟩) = some AN := by split <;> exact ⟨_, rfl⟩
    have hnl : ls.length + 1 = n := by rw [← hn]; rfl
    have hn1 : n - 1 = ls.length := by omega
    have HT := Lib.hid (h.tail (by omega) hAN)
    have HF : Hid (∀ w2 (x : Int), Below w.heap.size w w2 → x ∈ s → Calls Try.prog 24 #[.slice (some AN) (n - 1) (c - 1), .int .i64 x] w2 fun e w' => e = .returned (.bool (followF ls x)) ∧ Below w2.heap.size w2 w') := Lib.hid fun w2 x hb hx =>
      match_follow (some AN) (n - 1) (c - 1) ls x w2 (HT.out.later hb) hn1.symm hls (hs.2.2 x hx).1 (hs.2.2 x hx).2 (by omega)
    obtain ⟨m, hms⟩ : ∃ m, m = s.length := ⟨_, rfl⟩
    have hm1 : m ≤ 1099511627776 := by rw [hms]; exact hs.1
    rw [← hms] at hc0
    have hv : sideF (s :: ls) = s.countP (followF ls) := rfl
    rw [hv]
    have HREL : Hid (SideRel s ls w (.int .i64 0) (.int .i64 ((0 : Nat) : Int)) w) := Lib.hid ⟨0, Nat.zero_le _, rfl, by simp, Below.refl _ _⟩
    have HR := Lib.hid hr0
    have HM := Lib.hid hms
    have HC : Hid (w.cell? ⟨b0, o0, none⟩ = some (.slice A0 m c0)) := Lib.hid hc0
    have h0n : ((n : Int) == 0) = false := beq_eq_false_iff_ne.2 (by omega)
    have h0n' : (0 : Int) < (n : Int) := by omega
    have h1n : (1 : Int) ≤ (n : Int) := by omega
    have h0n2 : 0 < n := by omega
    clear h hl hls hs hr0 hms hv hn hnl hn1
    go_enter Try.func16, Try.ntmps16
    go_wp2
    go_loopw [3, 13] (fun vn vi wr => SideRel s ls w vn vi wr) (fun _ i _ => m - (intOf i).toNat)
    case atStart => exact HREL.out
    case round =>
      obtain ⟨k, hk, rfl, rfl, hbw⟩ := hrel
      rw [← HM.out] at hk
      by_cases hlt : k < m
      · have hkl : k < s.length := by rw [← HM.out]; exact hlt
        obtain ⟨b1, o1, rfl, _, hc1⟩ := row_int (HR.out.below hbw) hkl
        have hct := count_take (followF ls) hkl
        have HFX := Lib.hid (HF.out wr s[k] hbw (List.getElem_mem hkl))
        obtain ⟨x, hx⟩ : ∃ x, x = s[k] := ⟨_, rfl⟩
        rw [← hx] at hc1 hct HFX
        have hle : (s.take k).countP (followF ls) ≤ k := Nat.le_trans List.countP_le_length (by simp; omega)
        obtain ⟨q, hq⟩ : ∃ q, q = (s.take k).countP (followF ls) := ⟨_, rfl⟩
        rw [← hq] at hct hle ⊢
        have hkm : (k : Int) < (m : Int) := by omega
        obtain ⟨f, hf⟩ : ∃ f, f = followF ls x := ⟨_, rfl⟩
        rw [← hf] at hct HFX
        have HCT := Lib.hid hct
        have HKL := Lib.hid hkl
        have HBW := Lib.hid hbw
        clear hct hx hq hf hkl hbw
        cases f with
        | true =>
          go_wp2_with (go_at_call 24; refine HFX.out.mono ?_; rintro e w2 ⟨rfl, hb2⟩)
          go_roundw
          case rel => exact ⟨k + 1, HKL.out, by go_num, by rw [HCT.out]; simp, HBW.out.trans (hb2.mono HBW.out.size)⟩
          case measure => simp [intOf]; omega
        | false =>
          go_wp2_with (go_at_call 24; refine HFX.out.mono ?_; rintro e w2 ⟨rfl, hb2⟩)
          go_roundw
          case rel => exact ⟨k + 1, HKL.out, by go_num, by rw [HCT.out]; simp, HBW.out.trans (hb2.mono HBW.out.size)⟩
          case measure => simp [intOf]; omega
      · have hkm : k = s.length := by rw [← HM.out]; omega
        rw [hkm, List.take_length]
        obtain ⟨q, hq⟩ : ∃ q, q = s.countP (followF ls) := ⟨_, rfl⟩
        rw [← hq]
        have hlt' : ¬ ((s.length : Nat) : Int) < (m : Int) := by rw [HM.out]; omega
        have HQ := Lib.hid hq
        clear hq
        go_wp2
        go_ret
        exact ⟨by rw [← HQ.out]; rfl, hbw⟩
end Go.Proofs.Ytldcadpemnpbmaa
