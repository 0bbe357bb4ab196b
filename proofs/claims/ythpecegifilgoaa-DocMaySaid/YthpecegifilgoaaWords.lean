/- What package word's Words answers: the words of the bytes, in new memory; nothing that was there turns. For every text of at most 2^30 bytes. -/
import Derived.Test.YthpecegifilgoaaGather
namespace Go.Proofs.Ythpecegifilgoaa
open Go Go.RowKit
set_option linter.unusedVariables false

/-- What a call gives that makes a list of texts. -/
def GaveStrs (l : List (List UInt8)) (w : World) (e : Ending) (w' : World) : Prop := ∃ v, e = .returned v ∧ w'.ownsRow w.heap.size 9 1 v l.length (strs l) ∧ Below w.heap.size w w'

/-- What is gathered of the first k signs. -/
def upto (l : List Int) (k : Nat) : List (List Int) × List Int := (l.take k).foldl step ([], [])
theorem upto_succ {l : List Int} {k : Nat} (hk : k < l.length) : upto l (k + 1) = step (upto l k) l[k] := by
  unfold upto
  rw [List.take_succ_eq_append_getElem hk, List.foldl_append]
  rfl
theorem upto_end (l : List Int) : (step (upto l l.length) 32).1 = wordSigns l := by
  unfold upto wordSigns gather
  rw [List.take_length, List.foldl_append]
  rfl
theorem step_bd (st : List (List Int) × List Int) (c : Int) : (step st c).1.length + (step st c).2.length ≤ st.1.length + st.2.length + 1 := by
  unfold step
  split
  · simp; omega
  · split
    · omega
    · simp
theorem upto_bd (l : List Int) : ∀ k, k ≤ l.length → (upto l k).1.length + (upto l k).2.length ≤ k
  | 0, _ => by simp [upto]
  | k + 1, hk => by
    have h1 := upto_bd l k (by omega)
    have h2 := step_bd (upto l k) l[k]
    rw [upto_succ (by omega)]
    omega

def WordsRel (l : List Int) (base B : Nat) (w1 : World) (i : Value) (wr : World) : Prop :=
  ∃ k : Nat, k ≤ l.length ∧ i = .int .i64 k ∧ Gath base B (B + 1) (B + 2) (upto l k) wr ∧ Aside base B (B + 2) w1 wr

/-- The memory that Words makes for its gatherer. -/
def made (w : World) : World :=
  ((w.alloc (.cells #[.slice none 0 0] 48)).alloc (.cells #[.func (.func 64) #[] #[.pointer (some ⟨w.heap.size, 0, none⟩)]] 95)).alloc (.cells #[.slice none 0 0] 45)
theorem made_size (w : World) : (made w).heap.size = w.heap.size + 3 := by simp [made]
theorem made_below (w : World) : Below w.heap.size w (made w) := (((Below.refl _ w).alloc (Nat.le_refl _) _).alloc (by simp) _).alloc (by simp; omega) _
theorem made_gath (w w1 : World) (hb : Below (made w).heap.size (made w) w1) : Gath w1.heap.size w.heap.size (w.heap.size + 1) (w.heap.size + 2) ([], []) w1 := by
  have hs := made_size w
  have h1 : (made w).heap[w.heap.size]? = some (.cells #[.slice none 0 0] 48 (0, 0)) := by
    unfold made
    rw [Below.heap_alloc _ _ _ (by simp; omega), Below.heap_alloc _ _ _ (by simp)]
    exact heap_alloc_new w _
  have h2 : (made w).heap[w.heap.size + 1]? = some (.cells #[.func (.func 64) #[] #[.pointer (some ⟨w.heap.size, 0, none⟩)]] 95 (0, 0)) := by
    unfold made
    rw [Below.heap_alloc _ _ _ (by simp)]
    have := heap_alloc_new (w.alloc (.cells #[.slice none 0 0] 48)) (.cells #[.func (.func 64) #[] #[.pointer (some ⟨w.heap.size, 0, none⟩)]] 95)
    simpa using this
  have h3 : (made w).heap[w.heap.size + 2]? = some (.cells #[.slice none 0 0] 45 (0, 0)) := by
    unfold made
    have := heap_alloc_new ((w.alloc (.cells #[.slice none 0 0] 48)).alloc (.cells #[.func (.func 64) #[] #[.pointer (some ⟨w.heap.size, 0, none⟩)]] 95)) (.cells #[.slice none 0 0] 45)
    simpa using this
  exact ⟨Nat.le_refl _, ⟨_, (hb.block _ (by omega)).trans h1, World.ownsRow_nil _ _ _ _⟩, (hb.block _ (by omega)).trans h2, ⟨_, (hb.block _ (by omega)).trans h3, World.ownsRow_nil _ _ _ _⟩⟩

set_option maxHeartbeats 1000000 in
set_option maxRecDepth 100000 in
theorem word_Words (s : ByteArray) (w : World) (hs : s.size ≤ 1073741824) :
    Calls Try.prog 50 #[.string s] w (GaveStrs (words s.data.toList) w) := by
  have hsl := signs_length s.data.toList
  have hsz : s.data.toList.length = s.size := Array.length_toList
  rw [hsz] at hsl
  have hwd : (step (upto (signs s.data.toList) (signs s.data.toList).length) 32).1.map text = words s.data.toList := by rw [upto_end]; rfl
  go_enter Try.func50, Try.ntmps50
  go_wp2_with (first
    | (go_at_call 63; go_in)
    | (go_at_call 65; refine (sign_Signs s _ hs).mono ?_))
  rintro e w1 ⟨v, rfl, hown, hb⟩
  have hms := made_size w
  have hg1 := made_gath w w1 hb
  have hbm : Below w.heap.size w w1 := (made_below w).trans (hb.mono (made_below w).size)
  have hown : w1.ownsRow (w.heap.size + 3) 3 1 v (signs s.data.toList).length (ints (signs s.data.toList)) := by rw [← hms]; exact hown
  have hszm : w.heap.size + 3 ≤ w1.heap.size := by rw [← hms]; exact hb.size
  obtain ⟨A, c, rfl, _, _⟩ := owned_row hown
  obtain ⟨l, hl⟩ : ∃ l, l = signs s.data.toList := ⟨_, rfl⟩
  rw [← hl] at hown hsl hwd
  rw [← hl]
  have HG1 := Lib.hid hg1
  have HBM := Lib.hid hbm
  have HO := Lib.hid hown
  have HWD := Lib.hid hwd
  clear hl hms hg1 hbm hb hown hwd
  go_wp2
  go_loopw [12] (fun i wr => WordsRel l w1.heap.size w.heap.size w1 i wr) (fun i _ => l.length - (intOf i).toNat)
  case atStart => exact ⟨0, Nat.zero_le _, rfl, HG1.out, Aside.refl _ _ _ _⟩
  case round =>
    obtain ⟨k, hk, rfl, hg, ha⟩ := hrel
    have hbd := upto_bd l k hk
    have HR := Lib.hid (owned_row_of (owned_aside HO.out (by omega) (by omega) (Nat.le_refl _) ha))
    have HA := Lib.hid ha
    have cL := hg.outs
    by_cases hlt : k < l.length
    · obtain ⟨b1, o1, e1, _, hc1⟩ := row_int HR.out hlt
      subst e1
      have HU := Lib.hid (upto_succ hlt)
      obtain ⟨x, hx⟩ : ∃ x, x = l[k] := ⟨_, rfl⟩
      rw [← hx] at hc1 HU
      clear hx ha cL
      go_wp2_with (go_at_call 73; refine (take_any w1.heap.size w.heap.size (w.heap.size + 1) (w.heap.size + 2) (upto l k) x _ hg (by omega) (by omega)).mono ?_; rintro e w2 ⟨rfl, hg2, ha2⟩)
      go_roundw
      case rel => exact ⟨k + 1, by omega, by go_num, by rw [HU.out]; exact hg2, HA.out.trans ha2⟩
      case measure => simp [intOf]; omega
    · have hkl : k = l.length := by omega
      clear cL ha
      go_wp2_with (go_at_call 73; refine (take_any w1.heap.size w.heap.size (w.heap.size + 1) (w.heap.size + 2) (upto l k) 32 _ hg (by omega) (by omega)).mono ?_; rintro e w2 ⟨rfl, hg2, ha2⟩; obtain ⟨v2, hv2, hown2⟩ := hg2.outs; have c2 := cell_of_one hv2)
      go_ret
      subst hkl
      rw [HWD.out] at hown2
      refine ⟨_, rfl, ?_, HBM.out.trans ((HA.out.trans ha2).below HBM.out.size (Nat.le_refl _) (by omega))⟩
      rw [strs_length] at hown2
      exact owned_low hown2 HBM.out.size
end Go.Proofs.Ythpecegifilgoaa
