/- What From's function hands on: the names and things, one by one, as long as it is told to go on. -/
import Derived.Test.YtebdnjfohahpgaaFrom07
import Derived.Test.YtebdnjfohahpgaaTells06
import Derived.Test.YtebdnjfohahpgaaFirm
set_option linter.unusedVariables false
namespace Go.Proofs.Ytebdnjfohahpgaa
open Go Go.RowKit
attribute [local go_sem] Oper.semAt_some

def encE (x : Nm × Int) : Array Value := #[.string ⟨x.1.toArray⟩, .int .i64 x.2]
/-- What holds of each thing that is told. -/
def OkE (l : List Nm) (vs : List Int) (pre : List (Nm × Int)) (x : Nm × Int) (W : World) : Prop := ∃ h : pre.length < l.length, x.1 = l[pre.length] ∧ x.2 = vs.getD pre.length 0
def TellRel (b : Nat) (l : List Nm) (w0 : World) (J : List (Nm × Int) → World → Prop) (i : Value) (wr : World) : Prop := ∃ pre : List (Nm × Int), pre.length ≤ l.length ∧ i = .int .i64 (pre.length : Int) ∧ J pre wr ∧ Below b w0 wr

set_option maxHeartbeats 4000000 in
set_option maxRecDepth 100000 in
theorem from_told (m b D : Nat) (l : List Nm) (vs : List Int) (w : World) (hm : 1 ≤ m) (hb : b ≤ w.heap.size) (h : RestAt b D l vs w) (hl : l.length ≤ 1048576) :
    Tells m Try.prog 38 #[.pointer (some ⟨D, 0, none⟩)] encE (fun A B => Below A.heap.size A B) (Below b) (OkE l vs) (fun xs => xs.length = l.length) (fun _ => True) w := by
  intro lp J X W hW hJ hY h0
  obtain ⟨A, c, hblk, hnc, hcm, hrow⟩ := h.var
  have hvl := h.vlen
  have hblkW := (hW.block D (lt_of_block hblk)).trans hblk
  have c1 := cell_of_one hblkW
  have HROW := Lib.hid (hrow.below (hW.mono hb))
  have HJ := Lib.hid hJ
  have HY := Lib.hid hY
  have HREL : Hid (TellRel b l W J (.int .i64 ((0 : Nat) : Int)) W) := Lib.hid ⟨[], Nat.zero_le _, rfl, h0, Below.refl _ _⟩
  have hbW : b ≤ W.heap.size := Nat.le_trans hb hW.size
  obtain ⟨n, hn⟩ : ∃ n, n = l.length := ⟨_, rfl⟩
  rw [← hn] at hnc hl c1
  have HN := Lib.hid hn
  have HV := Lib.hid hvl
  clear hJ hY h0 h hblk hblkW hrow hW hn hvl
  refine callsIn_of_wp Try.func38 rfl trivial ?_ rfl
  simp only [Try.ntmps38, List.size_toArray, List.length_cons, List.length_nil, Nat.reduceAdd, Nat.reduceSub, Array.replicate_succ, Array.replicate_zero, List.push_toArray, List.append_toArray, List.nil_append, List.cons_append]
  gi_wp2
  gi_loopw [7] (TellRel b l W J) (fun i _ => n - (intOf i).toNat)
  case atStart => exact HREL.out
  case round =>
    obtain ⟨pre, hpl, rfl, hj, hbw⟩ := hrel
    obtain ⟨k, hk⟩ : ∃ k, k = pre.length := ⟨_, rfl⟩
    rw [← hk, ← HN.out] at hpl
    rw [← hk]
    have hsz := hbw.size
    by_cases hlt : k < n
    · have hkl : k < l.length := by rw [← HN.out]; exact hlt
      obtain ⟨b1, o1, rfl, hb1, hcs⟩ := (HROW.out.below hbw).at_ (by rw [entC_length HV.out]; omega)
      obtain ⟨g1, g2⟩ := entC_at HV.out hkl
      have d1 := hcs _ _ g1
      have d2 := hcs _ _ g2
      rw [← Nat.add_assoc] at d2
      obtain ⟨x, hx⟩ : ∃ x, x = l[k] := ⟨_, rfl⟩
      obtain ⟨y, hy⟩ : ∃ y, y = vs.getD k 0 := ⟨_, rfl⟩
      rw [← hx] at d1
      rw [← hy] at d2
      have hok : ∀ W1, OkE l vs pre (x, y) W1 := fun W1 => ⟨by rw [← hk]; exact hkl, by simp only [← hk]; exact hx, by simp only [← hk]; exact hy⟩
      obtain ⟨X1, hX1⟩ : ∃ t : ByteArray, t = ⟨x.toArray⟩ := ⟨_, rfl⟩
      rw [← hX1] at d1
      have HOK := Lib.hid hok
      have HX1 := Lib.hid hX1
      have HK := Lib.hid hk
      have HJ0 := Lib.hid hj
      have hkn : (k : Int) < (n : Int) := by omega
      have hk0 : (0 : Int) ≤ (k : Int) := by omega
      clear g1 g2 hcs hx hy hok hX1 hk hj hkl
      obtain ⟨w3, hw3⟩ : ∃ w3, w3 = wr.alloc (.cells #[.string X1, .int .i64 y] 59) := ⟨_, rfl⟩
      have hb3 : Below wr.heap.size wr w3 := by rw [hw3]; exact (Below.refl _ _).alloc (Nat.le_refl _) _
      have hyy := HY.out pre (x, y) w3 (HJ.out _ _ _ HJ0.out hb3) (HOK.out w3)
      rw [show encE (x, y) = #[.string X1, .int .i64 y] by unfold encE; rw [HX1.out]] at hyy
      obtain ⟨fn, tmps, assign, body, hy, hR⟩ := hyy
      rw [hw3] at hy
      have HB3 := Lib.hid (hbw.trans (hb3.mono (by omega)))
      have HW3 := Lib.hid hw3
      clear hw3 hb3
      gi_wp2
      rw [HW3.out] at hR
      refine hR.mono ?_
      rintro e W4 (⟨rfl, hJ4, hk4⟩ | ⟨rfl, hX4⟩)
      · have hrel : TellRel b l W J (.int .i64 ((k : Int) + 1)) W4 := by
          refine ⟨pre ++ [(x, y)], ?_, ?_, hJ4, HB3.out.trans ?_⟩
          · rw [List.length_append, List.length_singleton, ← HK.out, ← HN.out]; omega
          · rw [List.length_append, List.length_singleton, ← HK.out]; rfl
          · rw [HW3.out]; exact hk4
        have HR := Lib.hid hrel
        clear hrel hJ4 hk4 hy hR
        gi_wp2
        go_roundw
        case rel => exact HR.out
        case measure => simp [intOf]; omega
      · gi_wp2
        refine bodyPost_ret (results_none rfl _ _ _) rfl ?_
        exact ⟨⟨_, rfl⟩, .inr ⟨_, trivial, hX4⟩⟩
    · have hkn : pre.length = l.length := by rw [← hk, ← HN.out]; omega
      gi_wp2
      go_end0
      exact ⟨⟨_, rfl⟩, .inl ⟨_, hkn, hj⟩⟩
end Go.Proofs.Ytebdnjfohahpgaa
