/- What the list's blocks hands on, one by one: each block, in new memory. -/
import Derived.Test.YtfhjnblcnkjooaaTold05
import Derived.Test.YtfhjnblcnkjooaaBlock05
import Derived.OneCell
set_option linter.unusedVariables false
namespace Go.Proofs.Ytfhjnblcnkjooaa
open Go Go.RowKit
attribute [local go_sem] Oper.semAt_some

/-- What lies below base stays, and block D. -/
def KpOne (base D : Nat) (A B : World) : Prop := Below base A B ∧ (D < A.heap.size → B.heap[D]? = A.heap[D]?)
theorem KpOne.trans {base D : Nat} {A B C : World} (h : KpOne base D A B) (k : KpOne base D B C) : KpOne base D A C :=
  ⟨h.1.trans k.1, fun e => (k.2 (Nat.lt_of_lt_of_le e h.1.size)).trans (h.2 e)⟩
/-- A thing that is told: the block that comes next. -/
def OkBlock (l : List Po) (pre : List Value) (v : Value) (W : World) : Prop := pre.length < blocksP l.length ∧ NewPo 0 W v (blockP l (pre.length : Int))
def BlRel (w0 : World) (B D N : Nat) (J : List Value → World → Prop) (i : Value) (wr : World) : Prop :=
  ∃ pre : List Value, pre.length ≤ N ∧ i = .int .i64 (pre.length : Int) ∧ J pre wr ∧ Below w0.heap.size w0 wr ∧ wr.heap[D]? = some (.cells #[.pointer (some ⟨B, 0, none⟩)] 25 (0, 0))

set_option maxHeartbeats 4000000 in
set_option maxRecDepth 100000 in
theorem blocks_told (m D base0 B : Nat) (l : List Po) (w0 w : World) (hm : 1 ≤ m) (h : LAt w0 base0 B (bytesP (-1) l) l) (hmay : mayB' (-1) l = true) (hbl : (bytesP (-1) l).length ≤ 1000000) (hl : l.length ≤ 1000000) (hb : Below w0.heap.size w0 w)
    (hd : w.heap[D]? = some (.cells #[.pointer (some ⟨B, 0, none⟩)] 25 (0, 0))) :
    Told m Try.prog 52 #[.pointer (some ⟨D, 0, none⟩)] (fun v : Value => #[v]) (KpOne w0.heap.size D) (OkBlock l) (fun ys => ys.length = blocksP l.length) w := by
  intro lp J W hW hJ hY h0
  have e1 : W.heap[D]? = some (.cells #[.pointer (some ⟨B, 0, none⟩)] 25 (0, 0)) := (hW.block D (lt_of_block hd)).trans hd
  have hbW := hb.trans (hW.mono hb.size)
  refine callsIn_of_wp Try.func52 rfl trivial ?_ rfl
  simp only [Try.ntmps52, List.size_toArray, List.length_cons, List.length_nil, Nat.reduceAdd, Nat.reduceSub, Array.replicate_succ, Array.replicate_zero, List.push_toArray, List.append_toArray, List.nil_append, List.cons_append]
  have HBK := Lib.hid (list_Blocks base0 B _ l W (h.below hbW))
  have HBL : Hid (∀ w', Below w0.heap.size w0 w' → ∀ k : Nat, Calls Try.prog 19 #[.pointer (some ⟨B, 0, none⟩), .int .i64 (k : Int)] w' (GaveNew (blockP l (k : Int)) w')) := Lib.hid fun w' hb' k =>
    list_Block base0 B l w' (h.below hb') hmay hbl hl k (by omega)
  have c1 := cell_of_one e1
  obtain ⟨N, hN⟩ : ∃ N, N = blocksP l.length := ⟨_, rfl⟩
  rw [← hN] at HBK
  have hNb : N ≤ 1000000 := by rw [hN]; unfold blocksP; omega
  have HNE := Lib.hid hN
  have HY := Lib.hid hY
  have HJ := Lib.hid hJ
  have H0 := Lib.hid h0
  have HE1 := Lib.hid e1
  have HBW := Lib.hid hbW
  clear hY hJ h0 hW hd e1 hbW h hb hN hmay hbl
  gi_wp2_with (first
    | (refine ⟨trivial, ?_⟩; gi_at_call 18; refine (callsIn_wide.2 HBK.out).mono ?_; rintro e w' ⟨rfl, rfl⟩)
    | (gi_at_call 18; refine (callsIn_wide.2 HBK.out).mono ?_; rintro e w' ⟨rfl, rfl⟩))
  gi_loopw [6] (fun i wr => BlRel w0 B D N J i wr) (fun i _ => N - (intOf i).toNat)
  case atStart => exact ⟨[], Nat.zero_le _, rfl, H0.out, HBW.out, HE1.out⟩
  case round =>
    obtain ⟨pre, hk, rfl, hj, hbw, e2⟩ := hrel
    obtain ⟨k, hke⟩ : ∃ k, k = pre.length := ⟨_, rfl⟩
    rw [← hke] at hk
    rw [← hke]
    have c2 := cell_of_one e2
    have HJK := Lib.hid hj
    have E2 := Lib.hid e2
    have HKE := Lib.hid hke
    have HB1 := Lib.hid hbw
    clear hj e2 hke c1 hbw
    by_cases hlt : k < N
    · have hbk := HBL.out wr HB1.out k
      have HBC := Lib.hid hbk
      clear hbk
      gi_wp2_with (first
        | (refine ⟨trivial, ?_⟩; gi_at_call 19; refine (callsIn_wide.2 HBC.out).mono ?_)
        | (gi_at_call 19; refine (callsIn_wide.2 HBC.out).mono ?_))
      rintro e w5 ⟨v, rfl, hnew, hb5⟩
      have hok : OkBlock l pre v w5 := by
        unfold OkBlock
        rw [← HKE.out, ← HNE.out]
        exact ⟨hlt, hnew.low (Nat.zero_le _)⟩
      obtain ⟨fn, tmps, assign, body, hy, hR⟩ := HY.out pre v w5 (HJ.out _ _ _ HJK.out hb5) hok
      have e5 := (hb5.block _ (lt_of_block E2.out)).trans E2.out
      have HB5 := Lib.hid (HB1.out.trans (hb5.mono HB1.out.size))
      have E5 := Lib.hid e5
      clear hok hnew hb5 e5
      gi_wp2
      refine hR.mono ?_
      rintro e W6 ⟨rfl, hJ6, hk6⟩
      have e6 := (hk6.2 (lt_of_block E5.out)).trans E5.out
      have HJ6 := Lib.hid hJ6
      have E6 := Lib.hid e6
      have HB6 := Lib.hid (HB5.out.trans hk6.1)
      clear hJ6 hk6 e6 hy hR c2
      gi_wp2
      go_roundw
      case rel => exact ⟨pre ++ [v], by rw [List.length_append, ← HKE.out]; exact hlt, by rw [List.length_append, ← HKE.out]; simp, HJ6.out, HB6.out, E6.out⟩
      case measure => simp [intOf]; omega
    · have hfin : pre.length = blocksP l.length := by rw [← HKE.out, ← HNE.out]; omega
      have HF := Lib.hid hfin
      clear hfin
      gi_wp2
      go_end0
      exact ⟨⟨_, rfl⟩, _, HF.out, HJK.out⟩

/-- What blocks gives: a function that keeps the list. -/
theorem list_blocks (p : Addr) (w : World) :
    Calls Try.prog 47 #[.pointer (some p)] w fun e w' => e = .returned (.func (.func 52) #[] #[.pointer (some ⟨w.heap.size, 0, none⟩)]) ∧
      w'.heap[w.heap.size]? = some (.cells #[.pointer (some p)] 25 (0, 0)) ∧ Below w.heap.size w w' ∧ w'.heap.size = w.heap.size + 1 := by
  go_enter Try.func47, Try.ntmps47
  go_wp2
  go_ret
  exact ⟨rfl, heap_alloc_new w _, (Below.refl _ w).alloc (Nat.le_refl _) _, by simp⟩
end Go.Proofs.Ytfhjnblcnkjooaa
