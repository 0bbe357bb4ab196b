/- slices.Chunk of postings, by eight: what its function hands on, one by one. -/
import Derived.Test.YtfhjnblcnkjooaaTold05
import Derived.Test.YtfhjnblcnkjooaaList05
set_option linter.unusedVariables false
namespace Go.Proofs.Ytfhjnblcnkjooaa
open Go Go.RowKit
attribute [local go_sem] Oper.semAt_some

/-- Two blocks stay. -/
def KpTwo (D1 D2 : Nat) (A B : World) : Prop := A.heap.size ≤ B.heap.size ∧ (D1 < A.heap.size → B.heap[D1]? = A.heap[D1]?) ∧ (D2 < A.heap.size → B.heap[D2]? = A.heap[D2]?)
theorem KpTwo.refl (D1 D2 : Nat) (A : World) : KpTwo D1 D2 A A := ⟨Nat.le_refl _, fun _ => rfl, fun _ => rfl⟩
theorem KpTwo.trans {D1 D2 : Nat} {A B C : World} (h : KpTwo D1 D2 A B) (k : KpTwo D1 D2 B C) : KpTwo D1 D2 A C :=
  ⟨Nat.le_trans h.1 k.1, fun e => (k.2.1 (Nat.lt_of_lt_of_le e h.1)).trans (h.2.1 e), fun e => (k.2.2 (Nat.lt_of_lt_of_le e h.1)).trans (h.2.2 e)⟩
theorem KpTwo.putObj {D1 D2 : Nat} (W : World) (l : Nat) (o : Obj) (h1 : D1 ≠ l) (h2 : D2 ≠ l) : KpTwo D1 D2 W (W.putObj l o) :=
  ⟨by simp [World.putObj], fun _ => World.putObj_heap_other h1, fun _ => World.putObj_heap_other h2⟩
theorem KpTwo.of_below {D1 D2 : Nat} {W W' : World} (h : Below W.heap.size W W') : KpTwo D1 D2 W W' := ⟨h.size, fun e => h.block _ e, fun e => h.block _ e⟩

/-- The k-th chunk of a slice of postings. -/
def chunkV (b off n k : Nat) : Value := .slice (some ⟨b, off + 8 * k * 2, none⟩) (min 8 (n - 8 * k)) (min 8 (n - 8 * k))
def ChunkRel (D1 D2 n : Nat) (A : Option Addr) (c : Nat) (J : List Nat → World → Prop) (i : Value) (wr : World) : Prop :=
  ∃ k a : Nat, a = 8 * k ∧ a < n + 8 ∧ i = .int .i64 (a : Int) ∧ J (List.range k) wr ∧ wr.heap[D1]? = some (.cells #[.slice A n c] 22 (0, 0)) ∧ wr.heap[D2]? = some (.cells #[.int .i64 8] 3 (0, 0))

set_option maxHeartbeats 4000000 in
set_option maxRecDepth 100000 in
theorem chunk_told (m D1 D2 n c : Nat) (A : Option Addr) (b off : Nat) (hm : 1 ≤ m) (hA : 0 < n → A = some ⟨b, off, none⟩) (hc : n ≤ c) (hcx : c ≤ maxLen) (hn : n ≤ 1000000) (w : World) (d1 : w.heap[D1]? = some (.cells #[.slice A n c] 22 (0, 0))) (d2 : w.heap[D2]? = some (.cells #[.int .i64 8] 3 (0, 0))) :
    Told m Try.prog 44 #[.pointer (some ⟨D1, 0, none⟩), .pointer (some ⟨D2, 0, none⟩)] (fun k : Nat => #[chunkV b off n k]) (KpTwo D1 D2) (fun pre k _ => k = pre.length ∧ k < blocksP n) (fun ys => ys = List.range (blocksP n)) w := by
  intro l J W hW hJ hY h0
  have e1 : W.heap[D1]? = some (.cells #[.slice A n c] 22 (0, 0)) := (hW.block D1 (lt_of_block d1)).trans d1
  have e2 : W.heap[D2]? = some (.cells #[.int .i64 8] 3 (0, 0)) := (hW.block D2 (lt_of_block d2)).trans d2
  refine callsIn_of_wp Try.func44 rfl trivial ?_ rfl
  simp only [Try.ntmps44, List.size_toArray, List.length_cons, List.length_nil, Nat.reduceAdd, Nat.reduceSub, Array.replicate_succ, Array.replicate_zero, List.push_toArray, List.append_toArray, List.nil_append, List.cons_append]
  have HY := Lib.hid hY
  have HJ := Lib.hid hJ
  have H0 := Lib.hid h0
  have HA := Lib.hid hA
  have HE1 := Lib.hid e1
  have HE2 := Lib.hid e2
  clear hY hJ h0 hW d1 d2 e1 e2 hA
  unfold maxLen at hcx
  gi_wp2
  gi_loopw [4] (fun i wr => ChunkRel D1 D2 n A c J i wr) (fun i _ => n + 8 - (intOf i).toNat)
  case atStart => exact ⟨0, 0, rfl, by omega, rfl, H0.out, HE1.out, HE2.out⟩
  case round =>
    obtain ⟨k, a, hak, han, rfl, hj, e1, e2⟩ := hrel
    have c1 := cell_of_one e1
    have c2 := cell_of_one e2
    have HJK := Lib.hid hj
    have E1 := Lib.hid e1
    have E2 := Lib.hid e2
    have HAK := Lib.hid hak
    clear hj e1 e2 hak
    by_cases hlt : a < n
    · have hsome := HA.out (by omega)
      subst hsome
      obtain ⟨q, hq⟩ : ∃ q, q = min 8 (n - a) := ⟨_, rfl⟩
      have hq1 : 0 < q ∧ q ≤ 8 ∧ a + q ≤ n := by omega
      have hpre : chunkV b off n k = .slice (some ⟨b, off + a * 2, none⟩) q q := by unfold chunkV; rw [← HAK.out, ← hq]
      obtain ⟨fn, tmps, assign, body, hy, hR⟩ := HY.out (List.range k) k (wr.drew) (HJ.out _ _ _ HJK.out (Below.refl _ _).drew) ⟨by simp, by have := HAK.out; unfold blocksP; omega⟩
      rw [hpre] at hy
      clear hpre
      have hqm : (if ((n - a : Nat) : Int) < 8 then ((n - a : Nat) : Int) else 8) = (q : Int) := by split <;> omega
      have hj2 : List.range (k + 1) = List.range k ++ [k] := List.range_succ
      have HJ2 := Lib.hid hj2
      have hq3 : a + q ≤ c := by omega
      have hqs : a + q - a = q := by omega
      clear hq hj2
      gi_wp2
      gi_region
      gi_wp2
      refine hR.mono ?_
      rintro e W4 ⟨rfl, hJ4, hk4⟩
      have f1 : W4.heap[D1]? = some (.cells #[.slice (some ⟨b, off, none⟩) n c] 22 (0, 0)) := (hk4.2.1 (lt_of_block E1.out)).trans E1.out
      have f2 : W4.heap[D2]? = some (.cells #[.int .i64 8] 3 (0, 0)) := (hk4.2.2 (lt_of_block E2.out)).trans E2.out
      have c3 := cell_of_one f1
      have c4 := cell_of_one f2
      rw [← HJ2.out] at hJ4
      have HJ4 := Lib.hid hJ4
      have F1 := Lib.hid f1
      have F2 := Lib.hid f2
      clear hJ4 hk4 f1 f2 hy hR c1 c2
      gi_wp2
      go_roundw
      case rel => exact ⟨k + 1, a + 8, by have := HAK.out; omega, by omega, by go_num, HJ4.out, F1.out, F2.out⟩
      case measure => simp [intOf]; omega
    · have hk : k = blocksP n := by have := HAK.out; unfold blocksP; omega
      have hfin := HJK.out
      rw [hk] at hfin
      have HF := Lib.hid hfin
      clear hk hfin
      gi_wp2
      go_end0
      exact ⟨⟨_, rfl⟩, _, rfl, HF.out⟩

/-- What slices.Chunk gives: a function that keeps the slice and the number. -/
theorem posting_Chunk (A : Option Addr) (n c : Nat) (w : World) :
    Calls Try.prog 24 #[.slice A n c, .int .i64 8] w fun e w' => e = .returned (.func (.func 44) #[] #[.pointer (some ⟨w.heap.size, 0, none⟩), .pointer (some ⟨w.heap.size + 1, 0, none⟩)]) ∧
      w'.heap[w.heap.size]? = some (.cells #[.slice A n c] 22 (0, 0)) ∧ w'.heap[w.heap.size + 1]? = some (.cells #[.int .i64 8] 3 (0, 0)) ∧ Below w.heap.size w w' ∧ w'.heap.size = w.heap.size + 2 := by
  go_enter Try.func24, Try.ntmps24
  go_wp2
  go_ret
  have h1 := heap_alloc_new (w.alloc (.cells #[.slice A n c] 22)) (.cells #[.int .i64 8] 3)
  rw [World.size_alloc] at h1
  refine ⟨rfl, ?_, h1, ((Below.refl _ w).alloc (Nat.le_refl _) _).alloc (by simp) _, by simp⟩
  exact (Below.heap_alloc _ _ _ (by simp)).trans (heap_alloc_new w _)
end Go.Proofs.Ytfhjnblcnkjooaa
