/- Texts laid together: Plain04, Bytes04, Row04, Made04, Zed04, First04, Take04, Get04, Rises04, GetR04, Same04, Add04, Put04, PutR04. -/
import Derived.Below
import Derived.Test.YtnmnbckaccicaaaP00
import Derived.Test.YtnmnbckaccicaaaProg
import Derived.ArgAppend
import Derived.Lib.Hide
import Derived.Laws.BytesArg
import Derived.Deep.RegionLaw
import Derived.Deep.CutRange
import Derived.BigCall
import Derived.BigQuiet
import Derived.Deep.QuietTactic

/- Numbers as bytes, plainly: digits to the base 128, and what is read of bytes. No program. -/
set_option linter.unusedVariables false
namespace Go.Proofs.Ytnmnbckaccicaaa

/-! ## Bytes of a number -/

def putB (n : Nat) : List UInt8 := if n < 128 then [UInt8.ofNat n] else UInt8.ofNat (128 + n % 128) :: putB (n / 128)
termination_by n
decreasing_by omega

theorem putB_small {n : Nat} (h : n < 128) : putB n = [UInt8.ofNat n] := by rw [putB, if_pos h]
theorem putB_big {n : Nat} (h : 128 ≤ n) : putB n = UInt8.ofNat (128 + n % 128) :: putB (n / 128) := by rw [putB, if_neg (by omega)]
theorem byte_nat {n : Nat} (h : n < 256) : (UInt8.ofNat n).toNat = n := by simp; omega
theorem putB_pos (n : Nat) : 0 < (putB n).length := by
  by_cases h : n < 128
  · rw [putB_small h]; simp
  · rw [putB_big (by omega)]; simp
theorem putB_le {k : Nat} : ∀ {n : Nat}, n < 128 ^ (k + 1) → (putB n).length ≤ k + 1 := by
  induction k with
  | zero => intro n h; rw [putB_small (by simpa using h)]; simp
  | succ k ih =>
    intro n h
    by_cases h1 : n < 128
    · rw [putB_small h1]; simp
    · rw [putB_big (by omega), List.length_cons]
      have := ih (n := n / 128) (by rw [Nat.pow_succ] at h; exact Nat.div_lt_of_lt_mul (by rw [Nat.mul_comm]; exact h))
      omega
theorem putB_nine {n : Nat} (h : n < 9223372036854775808) : (putB n).length ≤ 9 := putB_le (k := 8) (by simpa using h)
theorem putB_mono : ∀ {n m : Nat}, n ≤ m → (putB n).length ≤ (putB m).length := by
  intro n
  induction n using Nat.strongRecOn with
  | _ n ih =>
    intro m h
    by_cases h1 : n < 128
    · rw [putB_small h1]
      exact putB_pos m
    · rw [putB_big (by omega), putB_big (n := m) (by omega), List.length_cons, List.length_cons]
      exact Nat.succ_le_succ (ih (n / 128) (by omega) (Nat.div_le_div_right h))

/-! ## What bytes are worth -/

def valB : List UInt8 → Nat
  | [] => 0
  | c :: r => c.toNat % 128 + 128 * valB r
theorem valB_lt : ∀ l : List UInt8, valB l < 128 ^ l.length
  | [] => by simp [valB]
  | c :: r => by
    have := valB_lt r
    rw [valB, List.length_cons, Nat.pow_succ]
    omega
theorem valB_snoc : ∀ (l : List UInt8) (c : UInt8), valB (l ++ [c]) = valB l + c.toNat % 128 * 128 ^ l.length
  | [], c => by simp [valB]
  | d :: r, c => by
    rw [List.cons_append, valB, valB, valB_snoc r c, List.length_cons, Nat.pow_succ, Nat.mul_add]
    have : 128 * (c.toNat % 128 * 128 ^ r.length) = c.toNat % 128 * (128 ^ r.length * 128) := by
      rw [Nat.mul_comm 128, Nat.mul_assoc]
    omega
theorem valB_take {l : List UInt8} {i : Nat} (h : i < l.length) : valB (l.take (i + 1)) = valB (l.take i) + (l.getD i 0).toNat % 128 * 128 ^ i := by
  rw [List.take_succ_eq_append_getElem h, valB_snoc, List.length_take, Nat.min_eq_left (by omega), List.getD_eq_getElem?_getD, List.getElem?_eq_getElem h]
  rfl
theorem valB_take_lt (l : List UInt8) (i : Nat) : valB (l.take i) < 128 ^ i := by
  have h := valB_lt (l.take i)
  have h2 : (l.take i).length ≤ i := List.length_take_le i l
  exact Nat.lt_of_lt_of_le h (Nat.pow_le_pow_right (by omega) h2)

/-! ## The first number -/

def scan : Nat → List UInt8 → Option Nat
  | 0, _ => none
  | _ + 1, [] => none
  | f + 1, c :: r => if c.toNat < 128 then some 0 else (scan f r).map (· + 1)
/-- The number that bytes begin with, and how many bytes it has: none, if there is none. -/
def getF (l : List UInt8) : Nat × Nat :=
  match scan 9 l with
  | none => (0, 0)
  | some k => if k ≠ 0 ∧ (l.getD k 0).toNat = 0 then (0, 0) else (valB (l.take (k + 1)), k + 1)

theorem scan_none : ∀ {f : Nat} {l : List UInt8}, (∀ j, j < f → j < l.length → 128 ≤ (l.getD j 0).toNat) → scan f l = none
  | 0, _, _ => rfl
  | f + 1, [], _ => rfl
  | f + 1, c :: r, h => by
    have h0 : 128 ≤ c.toNat := h 0 (by omega) (by simp)
    have ih := scan_none (f := f) (l := r) fun j hj hr => h (j + 1) (by omega) (by simp; omega)
    simp only [scan, ih]
    rw [if_neg (by omega)]
    rfl
theorem scan_some : ∀ {f : Nat} {l : List UInt8} {i : Nat}, i < f → i < l.length → (∀ j, j < i → 128 ≤ (l.getD j 0).toNat) → (l.getD i 0).toNat < 128 → scan f l = some i
  | 0, _, _, h, _, _, _ => by omega
  | f + 1, [], _, _, h, _, _ => by simp at h
  | f + 1, c :: r, 0, _, _, _, h => by
    have h0 : c.toNat < 128 := h
    simp [scan, h0]
  | f + 1, c :: r, i + 1, hf, hl, hb, h => by
    have h0 : 128 ≤ c.toNat := hb 0 (by omega)
    have ih := scan_some (f := f) (l := r) (i := i) (by omega) (by simpa using hl) (fun j hj => hb (j + 1) (by omega)) h
    simp only [scan, ih]
    rw [if_neg (by omega)]
    rfl
/-- The first so many bytes are none the last one. -/
def High (l : List UInt8) (i : Nat) : Prop := ∀ j, j < i → 128 ≤ (l.getD j 0).toNat
theorem High.zero (l : List UInt8) : High l 0 := fun j h => by omega
theorem High.succ {l : List UInt8} {i : Nat} (h : High l i) (hc : 128 ≤ (l.getD i 0).toNat) : High l (i + 1) := fun j hj => by
  by_cases e : j = i
  · rw [e]; exact hc
  · exact h j (by omega)
theorem getF_none {l : List UInt8} {i : Nat} (h : High l i) (hi : 9 ≤ i ∨ l.length ≤ i) : getF l = (0, 0) := by
  unfold getF
  rw [scan_none fun j h1 h2 => h j (by omega)]
theorem getF_zero {l : List UInt8} {i : Nat} (h : High l i) (hi : i < 9) (hl : i < l.length) (h0 : 0 < i) (hc : (l.getD i 0).toNat = 0) : getF l = (0, 0) := by
  unfold getF
  rw [scan_some hi hl h (by omega)]
  simp only
  rw [if_pos ⟨by omega, hc⟩]
theorem getF_some {l : List UInt8} {i : Nat} (h : High l i) (hi : i < 9) (hl : i < l.length) (hc : (l.getD i 0).toNat < 128) (h0 : i = 0 ∨ (l.getD i 0).toNat ≠ 0) : getF l = (valB (l.take (i + 1)), i + 1) := by
  unfold getF
  rw [scan_some hi hl h hc]
  simp only
  rw [if_neg (by omega)]
/-- What getF answers, in its three ways. -/
theorem getF_cases (l : List UInt8) : getF l = (0, 0) ∨ ∃ i, i < 9 ∧ i < l.length ∧ getF l = (valB (l.take (i + 1)), i + 1) := by
  unfold getF
  have key : ∀ (f : Nat) (l : List UInt8) (k : Nat), scan f l = some k → k < f ∧ k < l.length := by
    intro f
    induction f with
    | zero => intro l k h; cases h
    | succ f ih =>
      intro l k h
      cases l with
      | nil => cases h
      | cons c r =>
        rw [scan] at h
        split at h
        · simp at h; subst h; simp
        · rw [Option.map_eq_some_iff] at h
          obtain ⟨j, hj, rfl⟩ := h
          have := ih r j hj
          simp; omega
  rcases hs : scan 9 l with _ | k
  · exact .inl rfl
  · have := key 9 l k hs
    simp only
    split
    · exact .inl rfl
    · exact .inr ⟨k, this.1, this.2, rfl⟩
theorem getF_bd (l : List UInt8) : (getF l).1 < 9223372036854775808 ∧ (getF l).2 ≤ l.length ∧ (getF l).2 ≤ 9 := by
  rcases getF_cases l with h | ⟨i, h1, h2, h⟩
  · rw [h]; simp
  · rw [h]
    have := valB_take_lt l (i + 1)
    have h3 : (128 : Nat) ^ (i + 1) ≤ 128 ^ 9 := Nat.pow_le_pow_right (by omega) (by omega)
    have h4 : (128 : Nat) ^ 9 = 9223372036854775808 := by decide
    refine ⟨?_, ?_, ?_⟩ <;> simp only <;> omega
theorem pow_bd {i : Nat} (h : i < 9) : (128 : Nat) ^ i ≤ 72057594037927936 := by
  have h3 : (128 : Nat) ^ i ≤ 128 ^ 8 := Nat.pow_le_pow_right (by omega) (by omega)
  have h4 : (128 : Nat) ^ 8 = 72057594037927936 := by decide
  omega

/-! ## A number's own bytes -/

theorem putB_high : ∀ (n : Nat) (j : Nat), j + 1 < (putB n).length → 128 ≤ ((putB n).getD j 0).toNat := by
  intro n
  induction n using Nat.strongRecOn with
  | _ n ih =>
    intro j hj
    by_cases h1 : n < 128
    · rw [putB_small h1] at hj; simp at hj
    · rw [putB_big (by omega)] at hj ⊢
      cases j with
      | zero => rw [List.getD_cons_zero, byte_nat (by omega)]; omega
      | succ j => simpa using ih (n / 128) (by omega) j (by simpa using hj)
theorem putB_last : ∀ (n : Nat), ((putB n).getD ((putB n).length - 1) 0).toNat < 128 ∧ (0 < n → ((putB n).getD ((putB n).length - 1) 0).toNat ≠ 0) := by
  intro n
  induction n using Nat.strongRecOn with
  | _ n ih =>
    by_cases h1 : n < 128
    · rw [putB_small h1]
      have := byte_nat (n := n) (by omega)
      simp only [List.length_singleton, List.getD_cons_zero, Nat.sub_self]
      omega
    · rw [putB_big (by omega)]
      have hp := putB_pos (n / 128)
      have := ih (n / 128) (by omega)
      rw [List.length_cons, show (putB (n / 128)).length + 1 - 1 = ((putB (n / 128)).length - 1) + 1 by omega, List.getD_cons_succ]
      exact ⟨this.1, fun _ => this.2 (by omega)⟩
theorem putB_long {n : Nat} (h : 1 < (putB n).length) : 0 < n := by
  rcases Nat.eq_zero_or_pos n with h0 | h0
  · subst h0
    rw [putB_small (by omega)] at h
    simp at h
  · exact h0
theorem valB_putB : ∀ n : Nat, valB (putB n) = n := by
  intro n
  induction n using Nat.strongRecOn with
  | _ n ih =>
    by_cases h1 : n < 128
    · rw [putB_small h1, valB, valB, byte_nat (by omega)]; omega
    · rw [putB_big (by omega), valB, ih (n / 128) (by omega), byte_nat (by omega)]; omega
theorem getD_app {a b : List UInt8} {j : Nat} (h : j < a.length) : (a ++ b).getD j 0 = a.getD j 0 := by
  rw [List.getD_eq_getElem?_getD, List.getD_eq_getElem?_getD, List.getElem?_append_left h]
theorem getF_putB {n : Nat} (h : n < 9223372036854775808) (r : List UInt8) : getF (putB n ++ r) = (n, (putB n).length) := by
  have hp := putB_pos n
  have h9 := putB_nine h
  have hl := putB_last n
  rw [getF_some (i := (putB n).length - 1) ?_ (by omega) (by simp; omega) ?_ ?_, show (putB n).length - 1 + 1 = (putB n).length by omega, List.take_left, valB_putB]
  · intro j hj
    rw [getD_app (by omega)]
    exact putB_high n j (by omega)
  · rw [getD_app (by omega)]
    exact hl.1
  · by_cases h1 : (putB n).length = 1
    · exact .inl (by omega)
    · refine .inr ?_
      rw [getD_app (by omega)]
      exact hl.2 (putB_long (by omega))
theorem getF_cut {n c : Nat} (hc : c < (putB n).length) : getF ((putB n).take c) = (0, 0) := by
  refine getF_none (i := c) (fun j hj => ?_) (.inr (List.length_take_le _ _))
  rw [List.getD_eq_getElem?_getD, List.getElem?_take_of_lt hj, ← List.getD_eq_getElem?_getD]
  exact putB_high n j (by omega)
/-- Bytes that are of their form are those of what they are worth. -/
theorem putB_valB : ∀ {k : Nat} {l : List UInt8}, l.length = k + 1 → High l k → (l.getD k 0).toNat < 128 → (k = 0 ∨ (l.getD k 0).toNat ≠ 0) → putB (valB l) = l ∧ ((l.getD k 0).toNat ≠ 0 → 0 < valB l)
  | 0, [c], _, _, h, _ => by
    have hc : c.toNat < 128 := by simpa using h
    have hv : valB [c] = c.toNat := by simp only [valB]; omega
    refine ⟨?_, fun h0 => ?_⟩
    · rw [hv, putB_small hc]
      congr 1
      exact UInt8.toNat_inj.1 (by rw [byte_nat (by omega)])
    · rw [hv]
      have : c.toNat ≠ 0 := by simpa using h0
      omega
  | k + 1, c :: r, hl, hh, h, h0 => by
    have hc0 : 128 ≤ c.toNat := hh 0 (by omega)
    have hc1 := c.toNat_lt
    have h0' : (r.getD k 0).toNat ≠ 0 := by
      rcases h0 with h0 | h0
      · omega
      · simpa using h0
    have ih := putB_valB (k := k) (l := r) (by simpa using hl) (fun j hj => by simpa using hh (j + 1) (by omega)) (by simpa using h) (.inr h0')
    have hv : valB (c :: r) = c.toNat - 128 + 128 * valB r := by simp only [valB]; omega
    have hpos := ih.2 h0'
    refine ⟨?_, fun _ => by rw [hv]; omega⟩
    rw [hv, putB_big (by omega), show (c.toNat - 128 + 128 * valB r) / 128 = valB r by omega, ih.1]
    congr 1
    exact UInt8.toNat_inj.1 (by rw [byte_nat (by omega)]; omega)
theorem putB_valB_not {k : Nat} {l : List UInt8} (hl : l.length = k + 1) (hk : 0 < k) (h0 : (l.getD k 0).toNat = 0) (n : Nat) : putB n ≠ l := by
  intro e
  have h1 := putB_last n
  rw [e, hl] at h1
  have := h1.2 (putB_long (by rw [e, hl]; omega))
  simp at this
  simp at h0
  exact this h0

/-! ## A number at a place: the number, the place behind it, the error -/

def getZ (l : List UInt8) (a : Int) : Int × Int × Int :=
  if a < 0 ∨ (l.length : Int) < a then (0, 0, 1)
  else if (getF (l.drop a.toNat)).2 = 0 then (0, 0, 2) else (((getF (l.drop a.toNat)).1 : Int), a + ((getF (l.drop a.toNat)).2 : Int), 0)
theorem getZ_out {l : List UInt8} {a : Int} (h : a < 0 ∨ (l.length : Int) < a) : getZ l a = (0, 0, 1) := by unfold getZ; rw [if_pos h]
theorem getZ_form {l : List UInt8} {a : Nat} (h : a ≤ l.length) (h2 : (getF (l.drop a)).2 = 0) : getZ l (a : Int) = (0, 0, 2) := by
  unfold getZ
  rw [if_neg (by omega), Int.toNat_natCast, if_pos h2]
theorem getZ_ok {l : List UInt8} {a n k : Nat} (h : a ≤ l.length) (h2 : getF (l.drop a) = (n, k + 1)) : getZ l (a : Int) = ((n : Int), (a : Int) + ((k + 1 : Nat) : Int), 0) := by
  unfold getZ
  rw [if_neg (by omega), Int.toNat_natCast, h2]
  simp
theorem getZ_put {n : Nat} (h : n < 9223372036854775808) (b r : List UInt8) : getZ (b ++ (putB n ++ r)) (b.length : Int) = ((n : Int), ((b.length + (putB n).length : Nat) : Int), 0) := by
  have hp := putB_pos n
  obtain ⟨k, hk⟩ : ∃ k, (putB n).length = k + 1 := ⟨(putB n).length - 1, by omega⟩
  rw [getZ_ok (n := n) (k := k) (by simp) (by rw [List.drop_left, getF_putB h, hk]), hk]
  simp

/-! ## Rising numbers -/

def risesZ : Int → List Int → Bool
  | _, [] => true
  | last, n :: r => decide (last < n) && risesZ n r
def dB : Int → List Int → List UInt8
  | _, [] => []
  | last, n :: r => putB (n - (last + 1)).toNat ++ dB n r
def putR (l : List Int) : List UInt8 := putB l.length ++ dB (-1) l
def goodZ : Int → List Int → List Int
  | _, [] => []
  | last, n :: r => (last + 1 + (if n < 0 then -(n + 1) else n) % 1000) :: goodZ (last + 1 + (if n < 0 then -(n + 1) else n) % 1000) r
theorem goodZ_length : ∀ (l : List Int) (last : Int), (goodZ last l).length = l.length
  | [], _ => rfl
  | n :: r, last => by simp [goodZ, goodZ_length r]
theorem goodZ_rises : ∀ (l : List Int) (last : Int), risesZ last (goodZ last l) = true
  | [], _ => rfl
  | n :: r, last => by
    rw [goodZ, risesZ, goodZ_rises r, Bool.and_true, decide_eq_true_iff]
    split <;> omega
theorem goodZ_le : ∀ (l : List Int) (last : Int), -1 ≤ last → ∀ x ∈ goodZ last l, 0 ≤ x ∧ x ≤ last + 1000 * l.length
  | [], _, _ => by simp [goodZ]
  | n :: r, last, h => by
    intro x hx
    rw [goodZ] at hx
    have hm : 0 ≤ (if n < 0 then -(n + 1) else n) % 1000 ∧ (if n < 0 then -(n + 1) else n) % 1000 < 1000 := ⟨Int.emod_nonneg _ (by omega), Int.emod_lt_of_pos _ (by omega)⟩
    rw [List.length_cons]
    rcases List.mem_cons.1 hx with rfl | hx
    · omega
    · have := goodZ_le r _ (by omega) x hx
      omega
theorem dB_length : ∀ (l : List Int) (last : Int), -1 ≤ last → risesZ last l = true → (∀ x ∈ l, x ≤ 9223372036854775807) → (dB last l).length ≤ 9 * l.length
  | [], _, _, _, _ => by simp [dB]
  | n :: r, last, h, hr, hb => by
    rw [risesZ, Bool.and_eq_true, decide_eq_true_iff] at hr
    have hn := hb n (by simp)
    rw [dB, List.length_append, List.length_cons]
    have h1 := putB_nine (n := (n - (last + 1)).toNat) (by omega)
    have h2 := dB_length r n (by omega) hr.2 fun x hx => hb x (by simp [hx])
    omega

def takeR (l : List UInt8) : Nat → Int → Nat → List Int → Option (List Int × Nat)
  | 0, _, a, acc => some (acc, a)
  | m + 1, last, a, acc =>
    if (getF (l.drop a)).2 = 0 ∨ 4611686018427387904 - (last + 1) < ((getF (l.drop a)).1 : Int) then none
    else takeR l m (last + (((getF (l.drop a)).1 : Int) + 1)) (a + (getF (l.drop a)).2) (acc ++ [last + (((getF (l.drop a)).1 : Int) + 1)])
/-- The rising numbers at a place, the place behind them, the error. -/
def risZ (l : List UInt8) (a : Int) : List Int × Int × Int :=
  if (getZ l a).2.2 = 0 then
    match takeR l (getZ l a).1.toNat (-1) (getZ l a).2.1.toNat [] with
    | none => ([], 0, 2)
    | some (xs, b) => (xs, (b : Int), 0)
  else ([], 0, (getZ l a).2.2)

theorem takeR_dB : ∀ (g : List Int) (last : Int) (pre post : List UInt8) (acc : List Int), -1 ≤ last → risesZ last g = true → (∀ x ∈ g, x ≤ 4611686018427387904) →
    takeR (pre ++ (dB last g ++ post)) g.length last pre.length acc = some (acc ++ g, pre.length + (dB last g).length)
  | [], last, pre, post, acc, _, _, _ => by simp [takeR, dB]
  | n :: r, last, pre, post, acc, h, hr, hb => by
    rw [risesZ, Bool.and_eq_true, decide_eq_true_iff] at hr
    have hn := hb n (by simp)
    have e : pre ++ (dB last (n :: r) ++ post) = pre ++ (putB (n - (last + 1)).toNat ++ (dB n r ++ post)) := by rw [dB, List.append_assoc]
    have hg : getF ((pre ++ (dB last (n :: r) ++ post)).drop pre.length) = ((n - (last + 1)).toNat, (putB (n - (last + 1)).toNat).length) := by
      rw [e, List.drop_left, getF_putB (by omega)]
    have hp := putB_pos (n - (last + 1)).toNat
    rw [List.length_cons, takeR, hg]
    simp only
    rw [if_neg (by omega), show last + (((n - (last + 1)).toNat : Int) + 1) = n by omega, e]
    have e2 : pre ++ (putB (n - (last + 1)).toNat ++ (dB n r ++ post)) = (pre ++ putB (n - (last + 1)).toNat) ++ (dB n r ++ post) := by rw [List.append_assoc]
    have ih := takeR_dB r n (pre ++ putB (n - (last + 1)).toNat) post (acc ++ [n]) (by omega) hr.2 (fun x hx => hb x (by simp [hx]))
    rw [e2, ← List.length_append, ih, dB]
    simp [Nat.add_assoc]
theorem risZ_put {g : List Int} (hr : risesZ (-1) g = true) (hb : ∀ x ∈ g, x ≤ 4611686018427387904) (hl : g.length < 9223372036854775808) (b r : List UInt8) :
    risZ (b ++ (putR g ++ r)) (b.length : Int) = (g, ((b.length + (putR g).length : Nat) : Int), 0) := by
  have hz := getZ_put hl b (dB (-1) g ++ r)
  have e : b ++ (putR g ++ r) = b ++ (putB g.length ++ (dB (-1) g ++ r)) := by rw [putR, List.append_assoc]
  have e2 : b ++ (putB g.length ++ (dB (-1) g ++ r)) = (b ++ putB g.length) ++ (dB (-1) g ++ r) := by rw [List.append_assoc]
  have ht := takeR_dB g (-1) (b ++ putB g.length) r [] (by omega) hr hb
  unfold risZ
  rw [e, hz]
  simp only [if_true, Int.toNat_natCast]
  rw [e2, ← List.length_append, ht]
  simp [putR, Nat.add_assoc]
end Go.Proofs.Ytnmnbckaccicaaa

/- Bytes that lie in a slice, and one byte more behind them; lists of ints; what came in as bytes. No program but the kinds' facts. -/
set_option linter.unusedVariables false
namespace Go.Proofs.Ytnmnbckaccicaaa
open Go Go.RowKit

def ints (l : List Int) : List Value := l.map (Value.int .i64)
theorem ints_length (l : List Int) : (ints l).length = l.length := by simp [ints]
theorem info_int : (Try.prog.info? 3).map (fun i => (i.zero, i.size, i.bytes)) = some (some (.int .i64 0), 1, 8) := by kernel_rfl
theorem info_byte : (Try.prog.info? 5).map (fun i => (i.zero, i.size, i.bytes)) = some (some (.int .u8 0), 1, 1) := by kernel_rfl
theorem row_int {w : World} {B : Nat} {A : Option Addr} {xs : List Int} (h : Row w B A (ints xs)) {k : Nat} (hk : k < xs.length) :
    ∃ b off, A = some ⟨b, off, none⟩ ∧ b < B ∧ w.cell? ⟨b, off + k, none⟩ = some (.int .i64 xs[k]) := by
  obtain ⟨b, off, rfl, hb, hc⟩ := h.at_ (by rw [ints_length]; omega)
  refine ⟨b, off, rfl, hb, hc k _ ?_⟩
  simp [ints, hk]
theorem row_byte {w : World} {B : Nat} {A : Option Addr} {xs : List UInt8} (h : Row w B A (Lib.byteCells xs)) {k : Nat} (hk : k < xs.length) :
    ∃ b off, A = some ⟨b, off, none⟩ ∧ b < B ∧ w.cell? ⟨b, off + k, none⟩ = some (.int .u8 ((xs.getD k 0).toNat : Int)) := by
  obtain ⟨b, off, rfl, hb, hc⟩ := h.at_ (by rw [Lib.byteCells_length]; omega)
  refine ⟨b, off, rfl, hb, hc k _ ?_⟩
  simp [Lib.byteCells, hk]
theorem byteCells_oneCell (l : List UInt8) : ∀ u ∈ Lib.byteCells l, u.oneCell' = true := by
  intro u hu
  obtain ⟨b, _, rfl⟩ := List.mem_map.1 hu
  rfl
theorem ints_oneCell' (l : List Int) : ∀ u ∈ ints l, u.oneCell' = true := by
  intro u hu
  obtain ⟨b, _, rfl⟩ := List.mem_map.1 hu
  rfl

/-- Ints of the kind of bytes are bytes. -/
theorem bytes_of_ints : ∀ {zs : List Int}, (∀ n ∈ zs, (Lit.int IntKind.u8 n).wf = true) → ∃ l : List UInt8, zs.map (Value.int .u8) = Lib.byteCells l ∧ l.length = zs.length
  | [], _ => ⟨[], rfl, rfl⟩
  | z :: r, h => by
    obtain ⟨l, hl, hn⟩ := bytes_of_ints (zs := r) fun n hn => h n (by simp [hn])
    have hz := h z (by simp)
    have hb : 0 ≤ z ∧ z < 256 := by
      have e1 : IntKind.u8.min = 0 := rfl
      have e2 : IntKind.u8.max = 255 := rfl
      simp [Lit.wf] at hz
      omega
    refine ⟨UInt8.ofNat z.toNat :: l, ?_, by simp [hn]⟩
    rw [List.map_cons, hl]
    simp only [Lib.byteCells, List.map_cons]
    rw [byte_nat (by omega), Int.toNat_of_nonneg hb.1]

/-- Bytes lie in a slice: in one without room that was there, or in one of the call's own. -/
def Buf (base : Nat) (w : World) (v : Value) (bs : List UInt8) : Prop :=
  (∃ A, v = .slice A bs.length bs.length ∧ Row w base A (Lib.byteCells bs)) ∨ w.ownsRow base 5 1 v bs.length (Lib.byteCells bs)
/-- Bytes lie in a slice of the call's own. -/
def Own (base : Nat) (w : World) (v : Value) (bs : List UInt8) : Prop := w.ownsRow base 5 1 v bs.length (Lib.byteCells bs)
theorem Own.buf {base : Nat} {w : World} {v : Value} {bs : List UInt8} (h : Own base w v bs) : Buf base w v bs := .inr h
theorem Own.below {base : Nat} {w w' : World} {v : Value} {bs : List UInt8} (h : Own base w v bs) (hb : Below w.heap.size w w') : Own base w' v bs := owned_below h hb
theorem Own.low {base b : Nat} {w : World} {v : Value} {bs : List UInt8} (h : Own base w v bs) (hb : b ≤ base) : Own b w v bs := owned_low h hb
theorem Own.row {base : Nat} {w : World} {v : Value} {bs : List UInt8} (h : Own base w v bs) : ∃ A c, v = .slice A bs.length c ∧ bs.length ≤ c ∧ Row w w.heap.size A (Lib.byteCells bs) := owned_row h
theorem Buf.alloc {base : Nat} {w : World} {v : Value} {bs : List UInt8} (h : Buf base w v bs) (hb : base ≤ w.heap.size) (o : Obj) : Buf base (w.alloc o) v bs := by
  rcases h with ⟨A, rfl, hr⟩ | hown
  · exact .inl ⟨A, rfl, hr.below ((Below.refl _ _).alloc hb o)⟩
  · exact .inr (hown.alloc o)

section
variable {P : Program} (w : World)
/-- One byte more behind bytes. -/
theorem wpList_append_buf {ops : Array Oper} {rest : List Oper} {o : Oper} {a : Act} {Q : Exit → Act → World → Prop} (hgd : o.guard = none) (s x : Operand) (t : TypeId)
    (ho : o.op = .call { callee := .builtin .append, args := #[s, x], argTypes := #[t, t] })
    (base : Nat) (i : TypeInfo) (z : Value) (ht : P.underlying t = some (.slice 5)) (hi : P.info? 5 = some i) (hz : i.zero = some z)
    (hsize : i.size = 1) (hby : i.bytes = 1) (hzs : z.cells.size = 1)
    (v : Value) (bs : List UInt8) (hs : a.eval s = v) (hb : Buf base w v bs) (hbase : base ≤ w.heap.size)
    (ad : Addr) (c : Nat) (y : Int) (hx : a.eval x = .slice (some ad) 1 c) (hnews : ∀ j u, [Value.int .u8 y][j]? = some u → w.cell? (ad.add j) = some u)
    (u : UInt8) (hy : y = (u.toNat : Int)) (hl : bs.length ≤ 1099511627776)
    (h : ∀ v' w', Own base w' v' (bs ++ [u]) → Below base w w' → wpList P ops Q rest (a.put o.dst v') w') : wpList P ops Q (o :: rest) a w := by
  have hcells : Lib.byteCells bs ++ [Value.int .u8 y] = Lib.byteCells (bs ++ [u]) := by rw [hy, Lib.byteCells_append]; rfl
  have hlen : bs.length + 1 = (bs ++ [u]).length := by simp
  have h1 : ∀ q ∈ [Value.int .u8 y], q.oneCell' = true := by intro q hq; simp at hq; subst hq; rfl
  rcases hb with ⟨A, rfl, hr⟩ | hown
  · refine wpList_append_grows w hgd s x t ho 5 i z 1 1 ht hi hz hsize hby hzs (by omega) A bs.length bs.length (Lib.byteCells bs) hs ?_ (by rw [Lib.byteCells_length]; omega) ?_ ad 1 c _ hx rfl hnews h1 (by omega) (by unfold maxLen; omega) (by omega) ?_
    · rintro rfl
      rcases hr with h0 | ⟨b, off, h0, _⟩
      · have := congrArg List.length h0
        rw [Lib.byteCells_length] at this
        simp at this
        simp [this]
      · cases h0
    · rintro b rfl j q hq
      rcases hr with h0 | ⟨b', off, h0, _, hc⟩
      · rw [h0] at hq; simp at hq
      · injection h0 with h0
        subst h0
        rw [Addr.add_lit]
        exact hc j q hq
    · intro v' w' hown hg
      rw [hcells, hlen] at hown
      exact h v' w' (owned_low hown hbase) ((Below.refl _ w).grown hg hbase fun k hk => by cases hk)
  · refine wpList_append_own w hgd s x t ho base 5 i z 1 1 ht hi hz hsize hby hzs (by omega) v bs.length (Lib.byteCells bs) hs hown ad 1 c _ hx rfl hnews h1 (by unfold maxLen; omega) (by omega) hbase ?_
    intro v' w' hown' hg _
    rw [hcells, hlen] at hown'
    exact h v' w' hown' ((Below.refl _ w).grown hg hbase fun k hk => (hown.lt k hk).1)
end

theorem run_string_of {P : Program} {w : World} {B : Nat} {A : Option Addr} {l : List UInt8} (h : Row w B A (Lib.byteCells l)) (src dst e : TypeId) (n c : Nat) (hn : l.length = n)
    (hs : P.underlying src = some (.slice e)) (he : P.underlying e = some (.int .u8)) (hd : P.underlying dst = some .string) :
    (convert src dst (.slice A n c)).run P w = .ok (.string ⟨l.toArray⟩) w := by
  subst hn
  by_cases h0 : l = []
  · subst h0
    rcases A with _ | a
    · exact run_convert_bytes_nil w src e hs he 0 c dst hd
    · exact run_convert_bytes_back w src dst e a c [] hs he hd (fun j hj => absurd hj (by simp))
  · have hpos : 0 < l.length := List.length_pos_iff.2 h0
    obtain ⟨b, off, rfl, _, hc⟩ := h.at_ (by rw [Lib.byteCells_length]; exact hpos)
    refine run_convert_bytes_back w src dst e _ c l hs he hd (fun j hj => ?_)
    rw [Addr.add_lit]
    exact hc j _ (by simp [Lib.byteCells, hj])
end Go.Proofs.Ytnmnbckaccicaaa

/- Rising numbers from a place on, and a row of ints. No program. -/
set_option linter.unusedVariables false
namespace Go.Proofs.Ytnmnbckaccicaaa
open Go Go.RowKit

/-- The number ahead of place k: -1 ahead of the first. -/
def ahead (l : List Int) (k : Nat) : Int := if k = 0 then -1 else l.getD (k - 1) 0

theorem ahead_succ {l : List Int} {k : Nat} : ahead l (k + 1) = l.getD k 0 := by simp [ahead]
theorem risesZ_drop {l : List Int} {k : Nat} (hk : k < l.length) (last : Int) : risesZ last (l.drop k) = (decide (last < l.getD k 0) && risesZ (l.getD k 0) (l.drop (k + 1))) := by
  rw [List.drop_eq_getElem_cons hk, risesZ, List.getD_eq_getElem?_getD, List.getElem?_eq_getElem hk]
  rfl
theorem risesZ_end {l : List Int} {k : Nat} (hk : l.length ≤ k) (last : Int) : risesZ last (l.drop k) = true := by rw [List.drop_eq_nil_of_le hk]; rfl
theorem row_int' {w : World} {B : Nat} {A : Option Addr} {xs : List Int} (h : Row w B A (ints xs)) {k : Nat} (hk : k < xs.length) :
    ∃ b off, A = some ⟨b, off, none⟩ ∧ b < B ∧ w.cell? ⟨b, off + k, none⟩ = some (.int .i64 (xs.getD k 0)) := by
  obtain ⟨b, off, h1, h2, h3⟩ := row_int h hk
  refine ⟨b, off, h1, h2, ?_⟩
  rw [h3, List.getD_eq_getElem?_getD, List.getElem?_eq_getElem hk]
  rfl
theorem dB_drop {l : List Int} {k : Nat} (hk : k < l.length) (last : Int) : dB last (l.drop k) = putB (l.getD k 0 - (last + 1)).toNat ++ dB (l.getD k 0) (l.drop (k + 1)) := by
  rw [List.drop_eq_getElem_cons hk, dB, List.getD_eq_getElem?_getD, List.getElem?_eq_getElem hk]
  rfl
theorem dB_end {l : List Int} {k : Nat} (hk : l.length ≤ k) (last : Int) : dB last (l.drop k) = [] := by rw [List.drop_eq_nil_of_le hk]; rfl
end Go.Proofs.Ytnmnbckaccicaaa

/- Small facts for the walks of the laws: arguments that stay, texts that are joined, numbers made from 0 on. No program. -/
namespace Go.Proofs.Ytnmnbckaccicaaa
open Go Go.RowKit
set_option linter.unusedVariables false

theorem wf_bd {a : Int} (h : (Lit.int .i64 a).wf = true) : -9223372036854775808 ≤ a ∧ a ≤ 9223372036854775807 := by
  have e1 : IntKind.i64.min = -9223372036854775808 := rfl
  have e2 : IntKind.i64.max = 9223372036854775807 := rfl
  simp [Lit.wf] at h
  omega
theorem InRow.below {k : IntKind} {w w' : World} {a : Option Addr} {len cap : Nat} {zs : List Int} (h : InRow k w a len cap zs) (hb : Below w.heap.size w w') : InRow k w' a len cap zs :=
  ⟨h.1, h.2.1, h.2.2.1, (h.2.2.2.1.below hb).more hb.size, h.2.2.2.2⟩
theorem Own.room {base : Nat} {w : World} {v : Value} {bs : List UInt8} (h : Own base w v bs) : ∃ A c, v = .slice A bs.length c ∧ bs.length ≤ c ∧ c ≤ maxLen ∧ Row w w.heap.size A (Lib.byteCells bs) := by
  obtain ⟨A, c, rfl, h1, h2⟩ := h.row
  refine ⟨A, c, rfl, h1, ?_, h2⟩
  rcases h.2 with ⟨h3, _⟩ | ⟨g, cap, cur, h3, _, _, _, h4, _⟩
  · injection h3 with _ _ h3; omega
  · injection h3 with _ _ h3; rw [h3]; exact h4
/-- A number, made one from 0 on. -/
theorem made_nat {a : Int} (h : -9223372036854775808 ≤ a ∧ a ≤ 9223372036854775807) : ∃ n : Nat, n < 9223372036854775808 ∧ (a < 0 → -(a + 1) = (n : Int)) ∧ (¬ a < 0 → a = (n : Int)) :=
  ⟨(if a < 0 then -(a + 1) else a).toNat, by split <;> omega, fun h0 => by rw [if_pos h0]; omega, fun h0 => by rw [if_neg h0]; omega⟩
theorem str_cat (a b : List UInt8) : (⟨a.toArray⟩ : ByteArray) ++ ⟨b.toArray⟩ = ⟨(a ++ b).toArray⟩ := by
  apply ByteArray.ext
  simp
theorem str_size (a : List UInt8) : (⟨a.toArray⟩ : ByteArray).size = a.length := by simp [ByteArray.size]

theorem goodZ_drop {l : List Int} {k : Nat} (hk : k < l.length) (x : Int) {g : Nat} (hneg : l.getD k 0 < 0 → -(l.getD k 0 + 1) = (g : Int)) (hpos : ¬ l.getD k 0 < 0 → l.getD k 0 = (g : Int)) :
    goodZ x (l.drop k) = (x + 1 + (g : Int) % 1000) :: goodZ (x + 1 + (g : Int) % 1000) (l.drop (k + 1)) := by
  have e : (if l.getD k 0 < 0 then -(l.getD k 0 + 1) else l.getD k 0) = (g : Int) := by
    split
    · exact hneg (by assumption)
    · exact hpos (by assumption)
  have e2 : l[k] = l.getD k 0 := by rw [List.getD_eq_getElem?_getD, List.getElem?_eq_getElem hk]; rfl
  rw [List.drop_eq_getElem_cons hk, goodZ, e2, e]
theorem goodZ_end {l : List Int} {k : Nat} (hk : l.length ≤ k) (x : Int) : goodZ x (l.drop k) = [] := by rw [List.drop_eq_nil_of_le hk]; rfl

end Go.Proofs.Ytnmnbckaccicaaa

/- Numbers and rising numbers that are got: what calls of that kind give; facts that the walks share. No program but a type's number. -/
namespace Go.Proofs.Ytnmnbckaccicaaa
open Go Go.RowKit
set_option linter.unusedVariables false

/-- What one byte more is worth. -/
theorem worth_more {l : List UInt8} {k : Nat} (hk : k < 9) (hl : k < l.length) : ∃ q p v : Nat, 128 ^ k = q ∧ valB (l.take k) = v ∧ valB (l.take (k + 1)) = v + p ∧ (((l.getD k 0).toNat : Int) % 128) * (q : Int) = (p : Int) ∧ p ≤ 9151314442816847872 ∧ v + p < 9223372036854775808 ∧ q ≤ 72057594037927936 := by
  have h1 := valB_take hl
  have h2 := valB_take_lt l (k + 1)
  have h3 := pow_bd hk
  have h4 : (128 : Nat) ^ (k + 1) ≤ 128 ^ 9 := Nat.pow_le_pow_right (by omega) (by omega)
  have h5 : (128 : Nat) ^ 9 = 9223372036854775808 := by decide
  refine ⟨_, (l.getD k 0).toNat % 128 * 128 ^ k, _, rfl, rfl, h1, by simp, ?_, by omega, h3⟩
  have : (l.getD k 0).toNat % 128 * 128 ^ k ≤ 127 * 72057594037927936 := Nat.mul_le_mul (by omega) h3
  omega
theorem pow_next {k q : Nat} (h : 128 ^ k = q) (hk : k < 8) : 128 ^ (k + 1) = q * 128 ∧ q * 128 ≤ 72057594037927936 := by
  have h1 := pow_bd (i := k + 1) (by omega)
  rw [Nat.pow_succ, h] at h1 ⊢
  exact ⟨rfl, h1⟩

theorem row_drop {w : World} {B b off m c a : Nat} {l : List UInt8} (h : Row w B (some ⟨b, off, none⟩) (Lib.byteCells l)) (hm : l.length = m) (hc : m ≤ c) (ha : a ≤ m) (A : Option Addr) (hA : A = some ⟨b, off, none⟩ ∧ c = a ∨ A = some ⟨b, off + a, none⟩) : Row w B A (Lib.byteCells (l.drop a)) := by
  by_cases h0 : a = m
  · refine .inl ?_
    rw [List.drop_eq_nil_of_le (by omega)]
    rfl
  · rcases hA with ⟨_, hA⟩ | hA
    · omega
    · obtain ⟨b', o', h1, h2, h3⟩ := h.at_ (by rw [Lib.byteCells_length]; omega)
      injection h1 with h1
      injection h1 with h1 h4
      subst h1 h4 hA
      refine .inr ⟨b, off + a, rfl, h2, fun j u hu => ?_⟩
      have := h3 (a + j) u (by rw [← hu]; simp [Lib.byteCells])
      rwa [← Nat.add_assoc] at this

/-- What a call gives that answers a number, a place and an error. -/
def GaveZ (z : Int × Int × Int) (w : World) (e : Ending) (w' : World) : Prop := e = .returned (.tuple #[.int .i64 z.1, .int .i64 z.2.1, .int .i64 z.2.2]) ∧ Below w.heap.size w w'

theorem getZ_split (l : List UInt8) (a : Int) : (∃ e : Int, getZ l a = (0, 0, e) ∧ (e = 1 ∨ e = 2)) ∨ ∃ n b : Nat, getZ l a = ((n : Int), (b : Int), 0) ∧ b ≤ l.length ∧ n < 9223372036854775808 := by
  by_cases h0 : a < 0 ∨ (l.length : Int) < a
  · exact .inl ⟨1, getZ_out h0, .inl rfl⟩
  · obtain ⟨k, rfl⟩ : ∃ k : Nat, a = k := ⟨a.toNat, by omega⟩
    have hbd := getF_bd (l.drop k)
    rw [List.length_drop] at hbd
    by_cases h2 : (getF (l.drop k)).2 = 0
    · exact .inl ⟨2, getZ_form (by omega) h2, .inr rfl⟩
    · obtain ⟨j, hj⟩ : ∃ j, (getF (l.drop k)).2 = j + 1 := ⟨(getF (l.drop k)).2 - 1, by omega⟩
      refine .inr ⟨(getF (l.drop k)).1, k + (j + 1), ?_, by omega, hbd.1⟩
      rw [getZ_ok (n := (getF (l.drop k)).1) (k := j) (by omega) (by rw [← hj])]
      simp

def outR : Option (List Int × Nat) → List Int × Int × Int
  | none => ([], 0, 2)
  | some p => (p.1, (p.2 : Int), 0)
theorem risZ_err {l : List UInt8} {a e : Int} (hz : getZ l a = (0, 0, e)) (he : e ≠ 0) : risZ l a = ([], 0, e) := by
  unfold risZ
  rw [hz, if_neg (by simpa using he)]
theorem risZ_ok {l : List UInt8} {a : Int} {n b : Nat} (hz : getZ l a = ((n : Int), (b : Int), 0)) : risZ l a = outR (takeR l n (-1) b []) := by
  unfold risZ
  rw [hz]
  simp only [if_true, Int.toNat_natCast]
  rcases takeR l n (-1) b [] with _ | ⟨xs, q⟩ <;> rfl
/-- What a call gives that answers numbers, a place and an error. -/
def GaveR (r : List Int × Int × Int) (w : World) (e : Ending) (w' : World) : Prop :=
  ∃ v, e = .returned (.tuple #[v, .int .i64 r.2.1, .int .i64 r.2.2]) ∧ w'.ownsRow w.heap.size 3 1 v r.1.length (ints r.1) ∧ Below w.heap.size w w'

theorem takeR_length : ∀ (many : Nat) (l : List UInt8) (x : Int) (a : Nat) (acc xs : List Int) (b : Nat), takeR l many x a acc = some (xs, b) → a ≤ l.length → xs.length + a ≤ acc.length + b ∧ b ≤ l.length
  | 0, l, x, a, acc, xs, b, h, ha => by
    simp only [takeR, Option.some.injEq, Prod.mk.injEq] at h
    obtain ⟨rfl, rfl⟩ := h
    exact ⟨Nat.le_refl _, ha⟩
  | m + 1, l, x, a, acc, xs, b, h, ha => by
    have hbd := getF_bd (l.drop a)
    rw [List.length_drop] at hbd
    rw [takeR] at h
    split at h
    · cases h
    · have := takeR_length m l _ _ _ xs b h (by omega)
      simp only [List.length_append, List.length_singleton] at this
      omega
theorem risZ_length (l : List UInt8) (a : Int) : (risZ l a).1.length ≤ l.length := by
  rcases getZ_split l a with ⟨e, hz, he⟩ | ⟨many, b, hz, hb, _⟩
  · rw [risZ_err hz (by omega)]; simp
  · rw [risZ_ok hz]
    rcases h : takeR l many (-1) b [] with _ | ⟨xs, q⟩
    · simp [outR]
    · have := takeR_length many l _ _ _ xs q h hb
      simp only [outR, List.length_nil] at this ⊢
      omega

end Go.Proofs.Ytnmnbckaccicaaa

/- Package vint's first: the number that bytes begin with. -/
namespace Go.Proofs.Ytnmnbckaccicaaa
open Go Go.RowKit
set_option linter.unusedVariables false

def FirstRel (l : List UInt8) (r2 r3 n wth i : Value) : Prop :=
  r2 = .int .i64 0 ∧ r3 = .int .i64 0 ∧ ∃ k : Nat, k ≤ 9 ∧ k ≤ l.length ∧ i = .int .i64 (k : Int) ∧ n = .int .i64 (valB (l.take k) : Int) ∧ High l k ∧ ∃ z : Int, wth = .int .i64 z ∧ (k < 9 → z = ((128 ^ k : Nat) : Int))
def GaveF (p : Nat × Nat) (w : World) (e : Ending) (w' : World) : Prop := e = .returned (.tuple #[.int .i64 (p.1 : Int), .int .i64 (p.2 : Int)]) ∧ w = w'

set_option maxHeartbeats 2000000 in
set_option maxRecDepth 100000 in
theorem vint_first (A : Option Addr) (m c : Nat) (l : List UInt8) (w : World) (hm : l.length = m) (hr : Row w w.heap.size A (Lib.byteCells l)) (hl : m ≤ 1073741824) :
    Calls Try.prog 57 #[.slice A m c] w (GaveF (getF l) w) := by
  have HR := Lib.hid hr
  clear hr
  subst hm
  obtain ⟨r, hrr⟩ : ∃ r, r = getF l := ⟨_, rfl⟩
  rw [← hrr]
  have HF := Lib.hid hrr
  clear hrr
  obtain ⟨lim, hlim⟩ : ∃ lim : Nat, (if (9 : Int) < (l.length : Int) then (9 : Int) else (l.length : Int)) = (lim : Int) := by
    by_cases h : (9 : Int) < (l.length : Int)
    · exact ⟨9, by rw [if_pos h]; rfl⟩
    · exact ⟨l.length, by rw [if_neg h]⟩
  have hl9 : lim ≤ 9 ∧ lim ≤ l.length ∧ (lim = 9 ∨ lim = l.length) := by split at hlim <;> omega
  go_enter Try.func57, Try.ntmps57
  go_wp2
  go_loop [2, 3, 4, 5, 11] (fun r2 r3 n wth i => FirstRel l r2 r3 n wth i) (fun _ _ _ _ i => lim - (intOf i).toNat)
  case atStart => exact ⟨rfl, rfl, 0, by omega, by omega, rfl, by simp [valB], High.zero l, 1, rfl, fun _ => by simp⟩
  case round =>
    obtain ⟨rfl, rfl, k, hk9, hkl, rfl, rfl, hh, z, rfl, hz⟩ := hrel
    by_cases hlt : k < lim
    · obtain ⟨b1, o1, e1, _, hc1⟩ := row_byte HR.out (k := k) (by omega)
      subst e1
      obtain ⟨q, p, v, hq, hv, hv2, hmul, hp, hvp, hqb⟩ := worth_more (l := l) (k := k) (by omega) (by omega)
      have hz' := hz (by omega)
      rw [hq] at hz'
      subst hz'
      rw [hv]
      obtain ⟨c, hc⟩ : ∃ c, c = (l.getD k 0).toNat := ⟨_, rfl⟩
      have hc255 : c < 256 := by rw [hc]; exact UInt8.toNat_lt _
      have HC := Lib.hid hc
      have HH := Lib.hid hh
      have HQ := Lib.hid hq
      have HV := Lib.hid hv2
      rw [← hc] at hc1 hmul
      clear hc hh hz hq hv hv2
      by_cases c0 : c = 0 ∧ 0 < k
      · obtain ⟨c0, k0⟩ := c0
        have hr0 : r = (0, 0) := by rw [HF.out]; exact getF_zero HH.out (by omega) (by omega) k0 (by rw [← HC.out]; exact c0)
        have HR0 := Lib.hid hr0
        subst c0
        have hk0 : (0 : Int) < (k : Int) := by omega
        clear hr0
        go_wp2
        go_ret2
        rw [HR0.out]
        exact ⟨rfl, rfl⟩
      · have hpk : Hid (c < 128 → r = (v + p, k + 1)) := Lib.hid fun h => by rw [HF.out, getF_some HH.out (by omega) (by omega) (by rw [← HC.out]; exact h) (by rw [← HC.out]; omega), HV.out]
        have hnx : Hid (128 ≤ c → High l (k + 1)) := Lib.hid fun h => HH.out.succ (by rw [← HC.out]; exact h)
        by_cases h128 : c < 128
        · have HP := Lib.hid (hpk.out h128)
          clear hpk hnx
          by_cases hc0 : c = 0
          · have hcb : ((c : Int) == 0) = true := by rw [beq_iff_eq]; omega
            have hkb : decide ((0 : Int) < (k : Int)) = false := decide_eq_false (by omega)
            have hp0 : Hid (p = 0) := Lib.hid (by rw [hc0] at hmul; simp at hmul; omega)
            go_wp2
            go_ret2
            rw [HP.out, hp0.out]
            exact ⟨by simp, rfl⟩
          · have hcb : ((c : Int) == 0) = false := by rw [beq_eq_false_iff_ne]; omega
            go_wp2
            go_ret2
            rw [HP.out]
            exact ⟨by simp, rfl⟩
        · have HN := Lib.hid (hnx.out (by omega))
          clear hpk hnx
          have hcb : ((c : Int) == 0) = false := by rw [beq_eq_false_iff_ne]; omega
          by_cases k8 : k < 8
          · obtain ⟨hq1, hq2⟩ := pow_next HQ.out k8
            have HQ1 := Lib.hid hq1
            clear hq1
            go_wp2
            go_round
            case rel => exact ⟨rfl, rfl, k + 1, by omega, by omega, by go_num, by rw [HV.out]; go_num, HN.out, _, rfl, fun _ => by rw [HQ1.out]; simp⟩
            case measure => simp [intOf] <;> omega
          · have hq8 : q = 72057594037927936 := by
              have := HQ.out
              rw [show k = 8 by omega] at this
              rw [← this]
            subst hq8
            go_wp2
            go_round
            case rel => exact ⟨rfl, rfl, k + 1, by omega, by omega, by go_num, by rw [HV.out]; go_num, HN.out, _, rfl, fun h => by omega⟩
            case measure => simp [intOf] <;> omega
    · have hr0 : r = (0, 0) := by rw [HF.out]; exact getF_none hh (by omega)
      have HR0 := Lib.hid hr0
      clear hr0
      go_wp2
      go_ret2
      rw [HR0.out]
      exact ⟨rfl, rfl⟩
end Go.Proofs.Ytnmnbckaccicaaa

/- Package vint's taker: the closure that takes numbers one behind the other, and what Get answers. -/
namespace Go.Proofs.Ytnmnbckaccicaaa
open Go Go.RowKit
set_option linter.unusedVariables false

/-- The closure's variables: the error at Be, the bytes at Bb, the place at Ba. -/
structure Taker (Be Bb Ba : Nat) (A : Option Addr) (m c : Nat) (e a : Int) (w : World) : Prop where
  err : w.heap[Be]? = some (.cells #[.int .i64 e] 26 (0, 0))
  bytes : w.heap[Bb]? = some (.cells #[.slice A m c] 55 (0, 0))
  place : w.heap[Ba]? = some (.cells #[.int .i64 a] 3 (0, 0))

theorem ne_of_types {w : World} {a b : Nat} {u v : Array Value} {t s : TypeId} {f g : Nat × Nat} (h : w.heap[a]? = some (.cells u t f)) (h2 : w.heap[b]? = some (.cells v s g)) (hne : t ≠ s) : a ≠ b := by
  rintro rfl
  rw [h] at h2
  simp at h2
  exact hne h2.2.1

section
variable {Be Bb Ba : Nat} {A : Option Addr} {m c : Nat} {e a : Int} {w w' : World}
theorem Taker.setErr (h : Taker Be Bb Ba A m c e a w) (x : Int) : Taker Be Bb Ba A m c x a (w.setCell ⟨Be, 0, none⟩ (.int .i64 x)) :=
  ⟨one_setCell h.err, (Below.heap_setCell _ _ _ _ (ne_of_types h.bytes h.err (by decide))).trans h.bytes, (Below.heap_setCell _ _ _ _ (ne_of_types h.place h.err (by decide))).trans h.place⟩
theorem Taker.setPlace (h : Taker Be Bb Ba A m c e a w) (x : Int) : Taker Be Bb Ba A m c e x (w.setCell ⟨Ba, 0, none⟩ (.int .i64 x)) :=
  ⟨(Below.heap_setCell _ _ _ _ (ne_of_types h.err h.place (by decide))).trans h.err, (Below.heap_setCell _ _ _ _ (ne_of_types h.bytes h.place (by decide))).trans h.bytes, one_setCell h.place⟩
theorem Taker.below (h : Taker Be Bb Ba A m c e a w) (hb : Below w.heap.size w w') : Taker Be Bb Ba A m c e a w' :=
  ⟨(hb.block _ (lt_of_block h.err)).trans h.err, (hb.block _ (lt_of_block h.bytes)).trans h.bytes, (hb.block _ (lt_of_block h.place)).trans h.place⟩
end

/-- What a call of the closure gives: n, the place behind it, the error; and the variables behind it. -/
def Took (Be Bb Ba : Nat) (A : Option Addr) (m c : Nat) (n b e : Int) (a' : Int) (w : World) (en : Ending) (w' : World) : Prop :=
  en = .returned (.tuple #[.int .i64 n, .int .i64 b, .int .i64 e]) ∧ Taker Be Bb Ba A m c e a' w' ∧ Aside w.heap.size Be Ba w w'

theorem aside_set {B C : Nat} {w : World} (x : Value) : Aside w.heap.size B C w (w.setCell ⟨B, 0, none⟩ x) :=
  ⟨rfl, rfl, rfl, by simp, fun k _ hk _ => Below.heap_setCell _ _ _ _ hk⟩
theorem Taker.drewN {Be Bb Ba : Nat} {A : Option Addr} {m c : Nat} {e a : Int} {w : World} (h : Taker Be Bb Ba A m c e a w) (n : Nat) : Taker Be Bb Ba A m c e a (w.drewN n) := ⟨h.1, h.2, h.3⟩
theorem Aside.drewN {base B C : Nat} {w w1 : World} (h : Aside base B C w w1) (n : Nat) : Aside base B C w (w1.drewN n) := ⟨h.1, h.2.1, h.2.2.1, h.2.2.2.1, h.2.2.2.2⟩

set_option maxHeartbeats 1000000 in
set_option maxRecDepth 100000 in
theorem take_none (Be Bb Ba : Nat) (A : Option Addr) (m c : Nat) (e a most : Int) (w : World) (ht : Taker Be Bb Ba A m c e a w) (he : e ≠ 0) :
    Calls Try.prog 56 #[.int .i64 most, .pointer (some ⟨Be, 0, none⟩), .pointer (some ⟨Bb, 0, none⟩), .pointer (some ⟨Ba, 0, none⟩)] w (Took Be Bb Ba A m c 0 0 e a w) := by
  have cE := cell_of_one ht.err
  have heb : (e == 0) = false := by rw [beq_eq_false_iff_ne]; exact he
  have HT := Lib.hid ht
  clear ht he
  go_enter Try.func56, Try.ntmps56
  go_wp2
  go_quiet (fail)
  go_wp2
  go_ret3
  exact ⟨rfl, HT.out.drewN _, (Aside.refl _ _ _ _).drewN _⟩

set_option maxHeartbeats 1000000 in
set_option maxRecDepth 100000 in
theorem take_bad (Be Bb Ba : Nat) (b off : Nat) (m c : Nat) (a : Nat) (most : Int) (l : List UInt8) (n k : Nat) (w : World) (ht : Taker Be Bb Ba (some ⟨b, off, none⟩) m c 0 a w) (hr : Row w w.heap.size (some ⟨b, off, none⟩) (Lib.byteCells l)) (hm : l.length = m) (hc : m ≤ c) (hcx : c ≤ maxLen) (ha : a ≤ m) (hl : m ≤ 1073741824)
    (hF : getF (l.drop a) = (n, k)) (hbad : k = 0 ∨ most < (n : Int)) :
    Calls Try.prog 56 #[.int .i64 most, .pointer (some ⟨Be, 0, none⟩), .pointer (some ⟨Bb, 0, none⟩), .pointer (some ⟨Ba, 0, none⟩)] w (Took Be Bb Ba (some ⟨b, off, none⟩) m c 0 0 2 a w) := by
  have cE := cell_of_one ht.err
  have fE := free_of_one ht.err
  have cB := cell_of_one ht.bytes
  have cA := cell_of_one ht.place
  have f1 := fun A' m' c' h1 h2 h3 => vint_first A' m' c' (l.drop a) w h1 h2 h3
  rw [hF] at f1
  have F1 := Lib.hid f1
  have HT := Lib.hid ht
  have HR := Lib.hid hr
  unfold maxLen at hcx
  clear ht hr f1
  have hfin : Hid (∀ nq, Took Be Bb Ba (some ⟨b, off, none⟩) m c 0 0 2 a w (.returned (.tuple #[.int .i64 0, .int .i64 0, .int .i64 2])) ((w.setCell ⟨Be, 0, none⟩ (.int .i64 2)).drewN nq)) :=
    Lib.hid fun nq => ⟨rfl, (HT.out.setErr 2).drewN _, (aside_set _).drewN _⟩
  rcases Nat.eq_zero_or_pos k with hk | hk
  · subst hk
    go_enter Try.func56, Try.ntmps56
    go_wp2_with (go_at_call 57; refine (F1.out _ _ _ (by rw [List.length_drop]; omega) (row_drop HR.out hm hc ha _ (by first | exact .inl ⟨rfl, by omega⟩ | exact .inr rfl)) (by omega)).mono ?_)
    all_goals
      rintro en w2 ⟨rfl, rfl⟩
      go_wp2
      go_quiet (fail)
      go_wp2
      go_ret3
      exact hfin.out _
  · have hkb : ((k : Int) == 0) = false := by rw [beq_eq_false_iff_ne]; omega
    have hmost : most < (n : Int) := by omega
    go_enter Try.func56, Try.ntmps56
    go_wp2_with (go_at_call 57; refine (F1.out _ _ _ (by rw [List.length_drop]; omega) (row_drop HR.out hm hc ha _ (by first | exact .inl ⟨rfl, by omega⟩ | exact .inr rfl)) (by omega)).mono ?_)
    all_goals
      rintro en w2 ⟨rfl, rfl⟩
      go_wp2
      go_quiet (fail)
      go_wp2
      go_ret3
      exact hfin.out _

set_option maxHeartbeats 1000000 in
set_option maxRecDepth 100000 in
theorem take_good (Be Bb Ba : Nat) (b off : Nat) (m c : Nat) (a : Nat) (most : Int) (l : List UInt8) (n k : Nat) (w : World) (ht : Taker Be Bb Ba (some ⟨b, off, none⟩) m c 0 a w) (hr : Row w w.heap.size (some ⟨b, off, none⟩) (Lib.byteCells l)) (hm : l.length = m) (hc : m ≤ c) (hcx : c ≤ maxLen) (ha : a ≤ m) (hl : m ≤ 1073741824)
    (hF : getF (l.drop a) = (n, k)) (hk : 0 < k) (hmost : (n : Int) ≤ most) :
    Calls Try.prog 56 #[.int .i64 most, .pointer (some ⟨Be, 0, none⟩), .pointer (some ⟨Bb, 0, none⟩), .pointer (some ⟨Ba, 0, none⟩)] w (Took Be Bb Ba (some ⟨b, off, none⟩) m c n ((a : Int) + k) 0 ((a : Int) + k) w) := by
  have cE := cell_of_one ht.err
  have cB := cell_of_one ht.bytes
  have cA := cell_of_one ht.place
  have fA := free_of_one ht.place
  have hbd := getF_bd (l.drop a)
  rw [hF, List.length_drop] at hbd
  simp only at hbd
  have f1 := fun A' m' c' h1 h2 h3 => vint_first A' m' c' (l.drop a) w h1 h2 h3
  rw [hF] at f1
  have F1 := Lib.hid f1
  have HT := Lib.hid ht
  have HR := Lib.hid hr
  unfold maxLen at hcx
  clear ht hr f1
  have hfin : Hid (∀ nq, Took Be Bb Ba (some ⟨b, off, none⟩) m c n ((a : Int) + k) 0 ((a : Int) + k) w (.returned (.tuple #[.int .i64 n, .int .i64 ((a : Int) + k), .int .i64 0])) ((w.setCell ⟨Ba, 0, none⟩ (.int .i64 ((a : Int) + k))).drewN nq)) :=
    Lib.hid fun nq => ⟨rfl, (HT.out.setPlace _).drewN _, (aside_set _).swap.drewN _⟩
  have hkb : ((k : Int) == 0) = false := by rw [beq_eq_false_iff_ne]; omega
  go_enter Try.func56, Try.ntmps56
  go_wp2_with (go_at_call 57; refine (F1.out _ _ _ (by rw [List.length_drop]; omega) (row_drop HR.out hm hc ha _ (by first | exact .inl ⟨rfl, by omega⟩ | exact .inr rfl)) (by omega)).mono ?_)
  all_goals
    rintro en w2 ⟨rfl, rfl⟩
    go_wp2
    go_quiet (fail)
    go_wp2
    go_ret3
    exact hfin.out _
end Go.Proofs.Ytnmnbckaccicaaa

/- What package vint's taker makes, what Get answers. -/
namespace Go.Proofs.Ytnmnbckaccicaaa
open Go Go.RowKit
set_option linter.unusedVariables false

set_option maxHeartbeats 1000000 in
set_option maxRecDepth 100000 in
theorem take_nil (Be Bb Ba : Nat) (A : Option Addr) (m c : Nat) (most : Int) (w : World) (ht : Taker Be Bb Ba A m c 0 0 w) (hm : m = 0) (hcx : c ≤ maxLen) :
    Calls Try.prog 56 #[.int .i64 most, .pointer (some ⟨Be, 0, none⟩), .pointer (some ⟨Bb, 0, none⟩), .pointer (some ⟨Ba, 0, none⟩)] w (Took Be Bb Ba A m c 0 0 2 0 w) := by
  subst hm
  have cE := cell_of_one ht.err
  have fE := free_of_one ht.err
  have cB := cell_of_one ht.bytes
  have cA := cell_of_one ht.place
  have hF : getF [] = (0, 0) := by decide
  have f1 := fun A' m' c' h1 h2 h3 => vint_first A' m' c' [] w h1 h2 h3
  rw [hF] at f1
  have F1 := Lib.hid f1
  have HT := Lib.hid ht
  unfold maxLen at hcx
  clear ht f1 hF
  have hfin : Hid (∀ nq, Took Be Bb Ba A 0 c 0 0 2 0 w (.returned (.tuple #[.int .i64 0, .int .i64 0, .int .i64 2])) ((w.setCell ⟨Be, 0, none⟩ (.int .i64 2)).drewN nq)) :=
    Lib.hid fun nq => ⟨rfl, (HT.out.setErr 2).drewN _, (aside_set _).drewN _⟩
  rcases A with _ | ad
  · go_enter Try.func56, Try.ntmps56
    go_wp2_with (go_at_call 57; refine (F1.out none 0 _ rfl Row.nil (by omega)).mono ?_)
    all_goals
      rintro en w2 ⟨rfl, rfl⟩
      go_wp2
      go_quiet (fail)
      go_wp2
      go_ret3
      exact hfin.out _
  · go_enter Try.func56, Try.ntmps56
    go_wp2_with (go_at_call 57; refine (F1.out _ 0 _ rfl Row.nil (by omega)).mono ?_)
    all_goals
      rintro en w2 ⟨rfl, rfl⟩
      go_wp2
      go_quiet (fail)
      go_wp2
      go_ret3
      exact hfin.out _

/-- What the closure does with a number that is none, or too great. -/
theorem vint_take_bad (Be Bb Ba : Nat) (A : Option Addr) (m c : Nat) (a : Nat) (most : Int) (l : List UInt8) (w : World) (ht : Taker Be Bb Ba A m c 0 a w) (hr : Row w w.heap.size A (Lib.byteCells l)) (hm : l.length = m) (hc : m ≤ c) (hcx : c ≤ maxLen) (ha : a ≤ m) (hl : m ≤ 1073741824)
    (hbad : (getF (l.drop a)).2 = 0 ∨ most < ((getF (l.drop a)).1 : Int)) :
    Calls Try.prog 56 #[.int .i64 most, .pointer (some ⟨Be, 0, none⟩), .pointer (some ⟨Bb, 0, none⟩), .pointer (some ⟨Ba, 0, none⟩)] w (Took Be Bb Ba A m c 0 0 2 a w) := by
  by_cases h0 : l = []
  · subst h0
    have hm0 : m = 0 := by simpa using hm.symm
    have ha0 : a = 0 := by omega
    subst ha0
    exact take_nil Be Bb Ba A m c most w ht hm0 hcx
  · obtain ⟨b, off, rfl, _, _⟩ := hr.at_ (by rw [Lib.byteCells_length]; exact List.length_pos_iff.2 h0)
    exact take_bad Be Bb Ba b off m c a most l _ _ w ht hr hm hc hcx ha hl rfl hbad
theorem vint_take_good (Be Bb Ba : Nat) (A : Option Addr) (m c : Nat) (a : Nat) (most : Int) (l : List UInt8) (w : World) (ht : Taker Be Bb Ba A m c 0 a w) (hr : Row w w.heap.size A (Lib.byteCells l)) (hm : l.length = m) (hc : m ≤ c) (hcx : c ≤ maxLen) (ha : a ≤ m) (hl : m ≤ 1073741824)
    (hk : (getF (l.drop a)).2 ≠ 0) (hmost : ((getF (l.drop a)).1 : Int) ≤ most) :
    Calls Try.prog 56 #[.int .i64 most, .pointer (some ⟨Be, 0, none⟩), .pointer (some ⟨Bb, 0, none⟩), .pointer (some ⟨Ba, 0, none⟩)] w
      (Took Be Bb Ba A m c ((getF (l.drop a)).1 : Int) ((a : Int) + ((getF (l.drop a)).2 : Int)) 0 ((a : Int) + ((getF (l.drop a)).2 : Int)) w) := by
  have hbd := getF_bd (l.drop a)
  rw [List.length_drop] at hbd
  obtain ⟨b, off, rfl, _, _⟩ := hr.at_ (by rw [Lib.byteCells_length]; omega)
  exact take_good Be Bb Ba b off m c a most l _ _ w ht hr hm hc hcx ha hl rfl (by omega) hmost

/-- What taker gives: the closure, its variables in three new blocks. -/
def GaveTaker (A : Option Addr) (m c : Nat) (a : Int) (w : World) (e : Ending) (w' : World) : Prop :=
  e = .returned (.func (.func 56) #[] #[.pointer (some ⟨w.heap.size + 2, 0, none⟩), .pointer (some ⟨w.heap.size, 0, none⟩), .pointer (some ⟨w.heap.size + 1, 0, none⟩)]) ∧
  Taker (w.heap.size + 2) w.heap.size (w.heap.size + 1) A m c (if a < 0 ∨ (m : Int) < a then 1 else 0) a w' ∧ Below w.heap.size w w' ∧ w'.heap.size = w.heap.size + 3

set_option maxHeartbeats 1000000 in
set_option maxRecDepth 100000 in
theorem vint_taker (A : Option Addr) (m c : Nat) (a : Int) (w : World) (hl : m ≤ 1073741824) :
    Calls Try.prog 55 #[.slice A m c, .int .i64 a] w (GaveTaker A m c a w) := by
  have fin : Hid (∀ x : Int, x = (if a < 0 ∨ (m : Int) < a then 1 else 0) → GaveTaker A m c a w
      (.returned (.func (.func 56) #[] #[.pointer (some ⟨w.heap.size + 1 + 1, 0, none⟩), .pointer (some ⟨w.heap.size, 0, none⟩), .pointer (some ⟨w.heap.size + 1, 0, none⟩)]))
      (((w.alloc (.cells #[.slice A m c] 55)).alloc (.cells #[.int .i64 a] 3)).alloc (.cells #[.int .i64 x] 26))) := Lib.hid fun x hx => by
    have s1 : (w.alloc (.cells #[.slice A m c] 55)).heap.size = w.heap.size + 1 := by simp
    have s2 : ((w.alloc (.cells #[.slice A m c] 55)).alloc (.cells #[.int .i64 a] 3)).heap.size = w.heap.size + 2 := by simp
    refine ⟨rfl, ⟨?_, ?_, ?_⟩, ?_, by simp⟩
    · rw [← hx, ← s2]
      exact heap_alloc_new _ _
    · exact (heap_alloc_old _ _ (by omega)).trans ((heap_alloc_old _ _ (by omega)).trans (heap_alloc_new _ _))
    · refine (heap_alloc_old _ _ (by omega)).trans ?_
      rw [← s1]
      exact heap_alloc_new _ _
    · exact (((Below.refl _ w).alloc (Nat.le_refl _) _).alloc (by omega) _).alloc (by omega) _
  by_cases h0 : a < 0
  · go_enter Try.func55, Try.ntmps55
    go_wp2
    go_ret
    exact fin.out 1 (by rw [if_pos (.inl h0)])
  · by_cases h1 : (m : Int) < a
    · go_enter Try.func55, Try.ntmps55
      go_wp2
      go_ret
      exact fin.out 1 (by rw [if_pos (.inr h1)])
    · go_enter Try.func55, Try.ntmps55
      go_wp2
      go_ret
      exact fin.out 0 (by rw [if_neg (by omega)])

/-- What the first call of the closure gives. -/
def TookZ (Be Bb Ba : Nat) (A : Option Addr) (m c : Nat) (z : Int × Int × Int) (w : World) (e : Ending) (w' : World) : Prop :=
  e = .returned (.tuple #[.int .i64 z.1, .int .i64 z.2.1, .int .i64 z.2.2]) ∧ (∃ a', Taker Be Bb Ba A m c z.2.2 a' w' ∧ (z.2.2 = 0 → a' = z.2.1)) ∧ Aside w.heap.size Be Ba w w'
theorem take_first (Be Bb Ba : Nat) (A : Option Addr) (m c : Nat) (a : Int) (l : List UInt8) (w : World) (ht : Taker Be Bb Ba A m c (if a < 0 ∨ (m : Int) < a then 1 else 0) a w) (hr : Row w w.heap.size A (Lib.byteCells l)) (hm : l.length = m) (hc : m ≤ c) (hcx : c ≤ maxLen) (hl : m ≤ 1073741824) :
    Calls Try.prog 56 #[.int .i64 9223372036854775807, .pointer (some ⟨Be, 0, none⟩), .pointer (some ⟨Bb, 0, none⟩), .pointer (some ⟨Ba, 0, none⟩)] w (TookZ Be Bb Ba A m c (getZ l a) w) := by
  by_cases h0 : a < 0 ∨ (m : Int) < a
  · rw [if_pos h0] at ht
    rw [getZ_out (by rw [hm]; exact h0)]
    refine (take_none Be Bb Ba A m c 1 a _ w ht (by decide)).mono ?_
    rintro e w' ⟨h1, h2, h3⟩
    exact ⟨h1, ⟨_, h2, fun h => absurd h (by decide)⟩, h3⟩
  · rw [if_neg h0] at ht
    obtain ⟨k, rfl⟩ : ∃ k : Nat, a = k := ⟨a.toNat, by omega⟩
    have hkm : k ≤ m := by omega
    have hbd := getF_bd (l.drop k)
    by_cases h2 : (getF (l.drop k)).2 = 0
    · rw [getZ_form (by omega) h2]
      refine (vint_take_bad Be Bb Ba A m c k _ l w ht hr hm hc hcx hkm hl (.inl h2)).mono ?_
      rintro e w' ⟨h1, h2, h3⟩
      exact ⟨h1, ⟨_, h2, fun h => absurd h (by decide)⟩, h3⟩
    · obtain ⟨j, hj⟩ : ∃ j, (getF (l.drop k)).2 = j + 1 := ⟨(getF (l.drop k)).2 - 1, by omega⟩
      rw [getZ_ok (n := (getF (l.drop k)).1) (k := j) (by omega) (by rw [← hj]), ← hj]
      refine (vint_take_good Be Bb Ba A m c k _ l w ht hr hm hc hcx hkm hl h2 (by omega)).mono ?_
      rintro e w' ⟨h1, h2, h3⟩
      exact ⟨h1, ⟨_, h2, fun _ => rfl⟩, h3⟩

set_option maxHeartbeats 1000000 in
set_option maxRecDepth 100000 in
theorem vint_Get (A : Option Addr) (m c : Nat) (a : Int) (l : List UInt8) (w : World) (hr : Row w w.heap.size A (Lib.byteCells l)) (hm : l.length = m) (hc : m ≤ c) (hcx : c ≤ maxLen) (hl : m ≤ 1073741824) :
    Calls Try.prog 53 #[.slice A m c, .int .i64 a] w (GaveZ (getZ l a) w) := by
  have HR := Lib.hid hr
  clear hr
  obtain ⟨z, hz⟩ : ∃ z, z = getZ l a := ⟨_, rfl⟩
  rw [← hz]
  have HZ := Lib.hid hz
  clear hz
  go_enter Try.func53, Try.ntmps53
  go_wp2_with (go_at_call 55; refine (vint_taker A m c a _ hl).mono ?_)
  rintro en w2 ⟨rfl, ht, hb, hs⟩
  have hr2 := HR.out.below hb
  have t1 := take_first _ _ _ A m c a l w2 ht (hr2.more (by omega)) hm hc hcx hl
  rw [← HZ.out] at t1
  have T1 := Lib.hid t1
  have HB := Lib.hid hb
  clear t1 hr2 ht hb
  go_wp2_with (go_at_call 56; refine T1.out.mono ?_)
  rintro en w3 ⟨rfl, _, h3⟩
  have hb3 := HB.out.trans (h3.below (by omega) (by omega) (by omega))
  have HB3 := Lib.hid hb3
  clear hb3 h3
  go_wp2
  go_ret3
  exact ⟨rfl, HB3.out⟩
end Go.Proofs.Ytnmnbckaccicaaa

/- What package vint's rises answers. -/
namespace Go.Proofs.Ytnmnbckaccicaaa
open Go Go.RowKit
set_option linter.unusedVariables false

def RisesRel (l : List Int) (r last i : Value) : Prop := r = .bool false ∧ ∃ (k : Nat) (x : Int), k ≤ l.length ∧ i = .int .i64 (k : Int) ∧ last = .int .i64 x ∧ risesZ x (l.drop k) = risesZ (-1) l

set_option maxHeartbeats 1000000 in
set_option maxRecDepth 100000 in
theorem vint_rises (A : Option Addr) (m c : Nat) (l : List Int) (w : World) (hr : Row w w.heap.size A (ints l)) (hm : l.length = m) (hl : m ≤ 1073741824) :
    Calls Try.prog 49 #[.slice A m c] w fun e w' => e = .returned (.bool (risesZ (-1) l)) ∧ w = w' := by
  have HR := Lib.hid hr
  clear hr
  subst hm
  obtain ⟨ans, hans⟩ : ∃ ans, ans = risesZ (-1) l := ⟨_, rfl⟩
  rw [← hans]
  have HA := Lib.hid hans
  clear hans
  go_enter Try.func49, Try.ntmps49
  go_wp2
  go_loop [2, 3, 8] (fun r last i => RisesRel l r last i) (fun _ _ i => l.length - (intOf i).toNat)
  case atStart => exact ⟨rfl, 0, -1, by omega, rfl, rfl, rfl⟩
  case round =>
    obtain ⟨rfl, k, x, hk, rfl, rfl, hx⟩ := hrel
    by_cases hlt : k < l.length
    · obtain ⟨b1, o1, e1, _, hc1⟩ := row_int' HR.out hlt
      subst e1
      rw [risesZ_drop hlt] at hx
      obtain ⟨y, hy⟩ : ∃ y, y = l.getD k 0 := ⟨_, rfl⟩
      rw [← hy] at hc1 hx
      clear hy
      by_cases hxy : y ≤ x
      · rw [decide_eq_false (by omega), Bool.false_and, ← HA.out] at hx
        subst hx
        go_wp2
        go_ret
        exact ⟨rfl, rfl⟩
      · rw [decide_eq_true (by omega), Bool.true_and] at hx
        have HX := Lib.hid hx
        clear hx
        go_wp2
        go_round
        case rel => exact ⟨rfl, k + 1, y, by omega, by go_num, rfl, HX.out⟩
        case measure => simp [intOf]; omega
    · rw [risesZ_end (by omega), ← HA.out] at hx
      subst hx
      go_wp2
      go_ret
      exact ⟨rfl, rfl⟩

end Go.Proofs.Ytnmnbckaccicaaa

/- What package vint's GetRising answers: the rising numbers at a place. -/
namespace Go.Proofs.Ytnmnbckaccicaaa
open Go Go.RowKit
set_option linter.unusedVariables false

theorem Taker.keep {Be Bb Ba : Nat} {A : Option Addr} {m c : Nat} {e a : Int} {w w' : World} (h : Taker Be Bb Ba A m c e a w) {B : Nat} (hb : Below B w w') (h1 : Be < B) (h2 : Bb < B) (h3 : Ba < B) : Taker Be Bb Ba A m c e a w' :=
  ⟨(hb.block _ h1).trans h.err, (hb.block _ h2).trans h.bytes, (hb.block _ h3).trans h.place⟩

/-- Behind k of so many rising numbers. -/
def GetRRel (B0 base : Nat) (A : Option Addr) (m c : Nat) (l : List UInt8) (many : Nat) (w : World) (r : Option (List Int × Nat)) (at_ r4 r5 r6 e vl last i : Value) (wr : World) : Prop :=
  r4 = .slice none 0 0 ∧ r5 = .int .i64 0 ∧ r6 = .int .i64 0 ∧ e = .int .i64 0 ∧ ∃ (acc : List Int) (x : Int) (a k : Nat), k ≤ many ∧ i = .int .i64 (k : Int) ∧ last = .int .i64 x ∧ at_ = .int .i64 (a : Int) ∧ acc.length = k ∧ k ≤ a ∧ a ≤ m ∧ -1 ≤ x ∧ x ≤ 4611686018427387904 ∧
    r = takeR l (many - k) x a acc ∧ wr.ownsRow base 3 1 vl k (ints acc) ∧ Taker (B0 + 2) B0 (B0 + 1) A m c 0 a wr ∧ Below B0 w wr ∧ base ≤ wr.heap.size

set_option maxHeartbeats 2000000 in
set_option maxRecDepth 100000 in
theorem vint_GetRising (A : Option Addr) (m c : Nat) (a : Int) (l : List UInt8) (w : World) (hr : Row w w.heap.size A (Lib.byteCells l)) (hm : l.length = m) (hc : m ≤ c) (hcx : c ≤ maxLen) (hl : m ≤ 1073741823) :
    Calls Try.prog 54 #[.slice A m c, .int .i64 a] w (GaveR (risZ l a) w) := by
  obtain ⟨i0, hi0, hz0, hz1, hz2⟩ := info_parts info_int
  have HR := Lib.hid hr
  clear hr
  rcases getZ_split l a with ⟨e, hz, he⟩ | ⟨many, b, hz, hb, hmany⟩
  · have hres := risZ_err hz (by omega)
    rw [hres]
    have HZ := Lib.hid hz
    clear hz hres he
    go_enter Try.func54, Try.ntmps54
    go_wp2_with (go_at_call 55; refine (vint_taker A m c a _ (by omega)).mono ?_)
    rintro en w2 ⟨rfl, ht, hb, hs⟩
    have hr2 := HR.out.below hb
    have t1 := take_first _ _ _ A m c a l w2 ht (hr2.more (by omega)) hm hc hcx (by omega)
    rw [HZ.out] at t1
    have T1 := Lib.hid t1
    have HB := Lib.hid hb
    clear t1 hr2 ht hb
    go_wp2_with (go_at_call 56; refine T1.out.mono ?_)
    rintro en w3 ⟨rfl, _, h3⟩
    have HB3 := Lib.hid (HB.out.trans (h3.below (by omega) (by omega) (by omega)))
    clear h3
    go_wp2
    go_loop [1, 9, 10, 23] (fun t er vl i => t = .int .i64 0 ∧ er = .int .i64 e ∧ vl = .slice none 0 0 ∧ i = .int .i64 0) (fun _ _ _ _ => 0)
    case atStart => exact ⟨rfl, rfl, rfl, rfl⟩
    case round =>
      obtain ⟨rfl, rfl, rfl, rfl⟩ := hrel
      go_wp2
      go_ret3
      exact ⟨_, rfl, World.ownsRow_nil _ _ _ _, HB3.out⟩
  · have hres := risZ_ok hz
    obtain ⟨r, hr⟩ : ∃ r, r = takeR l many (-1) b [] := ⟨_, rfl⟩
    rw [← hr] at hres
    obtain ⟨z, hzz⟩ : ∃ z, z = risZ l a := ⟨_, rfl⟩
    rw [← hzz]
    rw [← hzz] at hres
    have HZ := Lib.hid hz
    have HRES := Lib.hid hres
    have HRR := Lib.hid hr
    clear hz hres hr hzz
    go_enter Try.func54, Try.ntmps54
    go_wp2_with (go_at_call 55; refine (vint_taker A m c a _ (by omega)).mono ?_)
    rintro en w2 ⟨rfl, ht, hb2, hs⟩
    have hr2 := HR.out.below hb2
    have t1 := take_first _ _ _ A m c a l w2 ht (hr2.more (by omega)) hm hc hcx (by omega)
    rw [HZ.out] at t1
    have T1 := Lib.hid t1
    have HB := Lib.hid hb2
    clear t1 hr2 ht hb2
    go_wp2_with (go_at_call 56; refine T1.out.mono ?_)
    rintro en w3 ⟨rfl, ⟨a', ht3, ha'⟩, h3⟩
    have ha3 : a' = (b : Int) := ha' rfl
    subst ha3
    have hs3 : w2.heap.size ≤ w3.heap.size := h3.2.2.2.1
    have HB3 := Lib.hid (HB.out.trans (h3.below (by omega) (by omega) (by omega)))
    have HT3 := Lib.hid ht3
    clear h3 ht3 ha'
    obtain ⟨B0, hB0⟩ : ∃ B0, B0 = w.heap.size := ⟨_, rfl⟩
    rw [← hB0] at HT3
    rw [← hB0] at HB3
    rw [← hB0] at hs
    rw [← hB0]
    have HB0 := Lib.hid hB0
    clear hB0
    go_wp2
    go_loopw [1, 4, 5, 6, 9, 10, 11, 23] (fun t r4 r5 r6 e vl last i wr => GetRRel B0 w2.heap.size A m c l many w r t r4 r5 r6 e vl last i wr) (fun _ _ _ _ _ _ _ i _ => many - (intOf i).toNat)
    case atStart => exact ⟨rfl, rfl, rfl, rfl, [], -1, b, 0, by omega, rfl, rfl, rfl, rfl, by omega, by omega, by omega, by omega, HRR.out, World.ownsRow_nil _ _ _ _, HT3.out, HB3.out, hs3⟩
    case round =>
      obtain ⟨rfl, rfl, rfl, rfl, acc, x, q, k, hk, rfl, rfl, rfl, hacc, hkq, hqm, hx0, hx1, htake, hown, ht, hbw, hsz⟩ := hrel
      by_cases hlt : k < many
      · obtain ⟨j, hj⟩ : ∃ j, many - k = j + 1 := ⟨many - k - 1, by omega⟩
        rw [hj, takeR] at htake
        have hbd := getF_bd (l.drop q)
        rw [List.length_drop, hm] at hbd
        have hrow := (HR.out.below (HB0.out ▸ hbw)).more (HB0.out ▸ hbw).size
        have HBW := Lib.hid hbw
        have HOWN := Lib.hid hown
        by_cases hbad : (getF (l.drop q)).2 = 0 ∨ 4611686018427387904 - (x + 1) < ((getF (l.drop q)).1 : Int)
        · rw [if_pos hbad] at htake
          have t1 := vint_take_bad (B0 + 2) B0 (B0 + 1) A m c q (4611686018427387904 - (x + 1)) l wr ht hrow hm hc hcx hqm (by omega) hbad
          have T1 := Lib.hid t1
          have hres : z = ([], 0, 2) := by rw [HRES.out, htake]; rfl
          have HR2 := Lib.hid hres
          clear hres t1 hbad htake hbd hj hrow hbw hown ht
          go_wp2_with (go_at_call 56; refine T1.out.mono ?_)
          rintro en w4 ⟨rfl, _, h4⟩
          have HB4 := Lib.hid (HBW.out.trans (h4.below (by have := HBW.out.size; omega) (by omega) (by omega)))
          clear h4
          go_wp2
          go_ret3
          rw [HR2.out]
          exact ⟨_, rfl, World.ownsRow_nil _ _ _ _, HB0.out ▸ HB4.out⟩
        · rw [if_neg hbad] at htake
          have t1 := vint_take_good (B0 + 2) B0 (B0 + 1) A m c q (4611686018427387904 - (x + 1)) l wr ht hrow hm hc hcx hqm (by omega) (by omega) (by omega)
          obtain ⟨f, hf⟩ : ∃ f, f = (getF (l.drop q)).1 := ⟨_, rfl⟩
          obtain ⟨g, hg⟩ : ∃ g, g = (getF (l.drop q)).2 := ⟨_, rfl⟩
          rw [← hf, ← hg] at t1 htake
          rw [← hf, ← hg] at hbd hbad
          have T1 := Lib.hid t1
          have HTK := Lib.hid htake
          have hfx : (f : Int) ≤ 4611686018427387904 - (x + 1) := by omega
          have hg1 : 1 ≤ g := by omega
          have hjk : Hid (j = many - (k + 1)) := Lib.hid (by omega)
          clear t1 hbad htake hj hrow hbw hown ht hf hg
          go_wp2_with (go_at_call 56; refine T1.out.mono ?_)
          rintro en w4 ⟨rfl, ht4, h4⟩
          have hs4 : wr.heap.size ≤ w4.heap.size := h4.2.2.2.1
          have hown4 := owned_aside HOWN.out (by omega) (by omega) (Nat.le_refl _) h4
          have HB4 := Lib.hid (HBW.out.trans (h4.below (by have := HBW.out.size; omega) (by omega) (by omega)))
          have HT4 := Lib.hid ht4
          have HOWN4 := Lib.hid hown4
          clear h4 ht4 hown4
          go_wp2_with (at_builtin; refine wpList_append_own _ rfl (.tmp 41) (.tmp 43) 23 rfl w2.heap.size 3 i0 _ 1 8 Try.underlying23 hi0 hz0 hz1 hz2 rfl (by omega) _ k (ints acc) rfl (HOWN4.out.alloc _) ⟨w4.heap.size, 0, none⟩ 1 1 [.int .i64 (x + ((f : Int) + 1))] rfl rfl (news_at w4 [.int .i64 (x + ((f : Int) + 1))] 3) (by intro u hu; simp at hu; subst hu; rfl) (by unfold maxLen; omega) (by omega) (by simp; omega) ?_)
          intro v5 w5 hown5 hg5 _
          have hb5 : Below w2.heap.size w4 w5 := ((Below.refl _ w4).alloc (by omega) _).grown hg5 (by simp; omega) fun k hk => (HOWN4.out.lt k hk).1
          have hfin : GetRRel B0 w2.heap.size A m c l many w r (.int .i64 ((q : Int) + (g : Int))) (.slice none 0 0) (.int .i64 0) (.int .i64 0) (.int .i64 0) v5 (.int .i64 (x + ((f : Int) + 1))) (.int .i64 ((k : Int) + 1)) w5 :=
            ⟨rfl, rfl, rfl, rfl, acc ++ [x + ((f : Int) + 1)], x + ((f : Int) + 1), q + g, k + 1, by omega, by simp, rfl, by simp, by simp [hacc], by omega, by omega, by omega, by omega,
              by rw [← hjk.out]; exact HTK.out, by rw [show ints (acc ++ [x + ((f : Int) + 1)]) = ints acc ++ [.int .i64 (x + ((f : Int) + 1))] by simp [ints], hs]; exact hown5,
              by rw [Int.natCast_add]; exact HT4.out.keep hb5 (by omega) (by omega) (by omega), HB4.out.trans (hb5.mono (by omega)), by have := hb5.size; omega⟩
          have HF := Lib.hid hfin
          clear hfin hb5 hg5 hown5
          go_wp2
          go_roundw
          case rel => exact HF.out
          case measure => simp [intOf]; omega
      · have hkm : many - k = 0 := by omega
        rw [hkm, takeR] at htake
        have hres : z = (acc, (q : Int), 0) := by rw [HRES.out, htake]; rfl
        have HR2 := Lib.hid hres
        have HA := Lib.hid hacc
        clear hres htake hkm hacc
        go_wp2
        go_ret3
        rw [HR2.out]
        refine ⟨_, rfl, ?_, HB0.out ▸ hbw⟩
        simp only
        rw [HA.out]
        exact owned_low hown (by rw [← HB0.out]; omega)
end Go.Proofs.Ytnmnbckaccicaaa

/- What the document's Same answers of two lists of ints: whether they are the same; nothing turns but draws. -/
namespace Go.Proofs.Ytnmnbckaccicaaa
open Go Go.RowKit
set_option linter.unusedVariables false

set_option maxHeartbeats 1000000 in
set_option maxRecDepth 100000 in
theorem ref_Same (A C : Option Addr) (c d : Nat) (xs : List Int) (w : World) (hx : Row w w.heap.size A (ints xs)) (hy : Row w w.heap.size C (ints xs)) (hxl : xs.length ≤ 1073741824) :
    Calls Try.prog 20 #[.slice A xs.length c, .slice C xs.length d] w fun e w' => e = .returned (.bool true) ∧ Below w.heap.size w w' := by
  have HX := Lib.hid hx
  have HY := Lib.hid hy
  clear hx hy
  go_enter Try.func20, Try.ntmps20
  go_wp2
  go_loopw [5] (fun i wr => ∃ k : Nat, k ≤ xs.length ∧ i = .int .i64 k ∧ Below w.heap.size w wr) (fun i _ => xs.length - (intOf i).toNat)
  case atStart => exact ⟨0, Nat.zero_le _, rfl, Below.refl _ _⟩
  case round =>
    obtain ⟨k, hk, rfl, hbw⟩ := hrel
    by_cases hlt : k < xs.length
    · obtain ⟨b1, o1, e1, _, hc1⟩ := row_int (HX.out.below hbw) hlt
      obtain ⟨b2, o2, e2, _, hc2⟩ := row_int (HY.out.below hbw) hlt
      subst e1 e2
      obtain ⟨x, hx⟩ : ∃ x, x = xs[k] := ⟨_, rfl⟩
      rw [← hx] at hc1 hc2
      clear hx
      have hi0 : (0 : Int) ≤ k := by omega
      have hi1 : (k : Int) < xs.length := by omega
      go_wp2
      go_quiet (fail)
      go_wp2
      go_roundw
      case rel => exact ⟨k + 1, by omega, by go_num, hbw.trans ⟨rfl, rfl, rfl, Nat.le_refl _, fun _ _ => rfl⟩⟩
      case measure => simp [intOf]; omega
    · go_wp2
      go_ret
      exact ⟨rfl, hbw⟩
theorem ref_Same_at (A C : Option Addr) (n m c d : Nat) (xs : List Int) (w : World) (hn : xs.length = n) (hm : xs.length = m) (hx : Row w w.heap.size A (ints xs)) (hy : Row w w.heap.size C (ints xs)) (hxl : n ≤ 1073741824) :
    Calls Try.prog 20 #[.slice A n c, .slice C m d] w fun e w' => e = .returned (.bool true) ∧ Below w.heap.size w w' := by
  subst hn hm
  exact ref_Same A C c d xs w hx hy hxl
end Go.Proofs.Ytnmnbckaccicaaa

/- Package vint's add, Put and Size, and the document's own Put: a number's bytes, behind others. -/
namespace Go.Proofs.Ytnmnbckaccicaaa
open Go Go.RowKit
set_option linter.unusedVariables false

/-- What a call gives that puts bytes behind others. -/
def GaveOwn (base : Nat) (bs : List UInt8) (w : World) (e : Ending) (w' : World) : Prop := ∃ v, e = .returned v ∧ Own base w' v bs ∧ Below base w w'

def AddRel (base : Nat) (all : List UInt8) (n : Nat) (w : World) (v i : Value) (wr : World) : Prop :=
  ∃ (cur : List UInt8) (x : Nat), i = .int .i64 (x : Int) ∧ x ≤ n ∧ cur.length ≤ all.length ∧ cur ++ putB x = all ∧ Buf base wr v cur ∧ Below base w wr

set_option maxHeartbeats 1000000 in
set_option maxRecDepth 100000 in
theorem vint_add (v : Value) (bs : List UInt8) (n : Nat) (base : Nat) (w : World) (hb : Buf base w v bs) (hbase : base ≤ w.heap.size) (hn : n < 9223372036854775808) (hl : bs.length ≤ 1073741824) :
    Calls Try.prog 50 #[v, .int .i64 (n : Int)] w (GaveOwn base (bs ++ putB n) w) := by
  obtain ⟨i0, hi0, hz0, hz1, hz2⟩ := info_parts info_byte
  have h9 := putB_nine hn
  obtain ⟨all, hall⟩ : ∃ all, all = bs ++ putB n := ⟨_, rfl⟩
  have hal : all.length ≤ 1073741833 := by rw [hall, List.length_append]; omega
  rw [← hall]
  have HALL := Lib.hid hall
  have HB := Lib.hid hb
  clear hall hb
  go_enter Try.func50, Try.ntmps50
  go_wp2
  go_loopw [0, 1] (fun v i wr => AddRel base all n w v i wr) (fun _ i _ => (intOf i).toNat)
  case atStart => exact ⟨bs, n, rfl, Nat.le_refl _, by rw [HALL.out]; simp, HALL.out.symm, HB.out, Below.refl _ _⟩
  case round =>
    obtain ⟨cur, x, rfl, hx, hcl, hcat, hbuf, hbw⟩ := hrel
    have hsz := hbw.size
    have HBUF := Lib.hid hbuf
    have HCAT := Lib.hid hcat
    clear hbuf hcat
    by_cases h : 128 ≤ x
    · obtain ⟨c, hc⟩ : ∃ c, c = UInt8.ofNat (128 + x % 128) := ⟨_, rfl⟩
      have hcn : Hid (c.toNat = 128 + x % 128) := Lib.hid (by rw [hc, byte_nat (by omega)])
      have hcat2 : (cur ++ [c]) ++ putB (x / 128) = all := by
        rw [← HCAT.out, putB_big h, List.append_assoc, hc]; rfl
      have hcl2 : (cur ++ [c]).length ≤ all.length := by rw [← hcat2, List.length_append (bs := putB (x / 128))]; omega
      clear hc
      have HC2 := Lib.hid hcat2
      have HL2 := Lib.hid hcl2
      clear hcat2 hcl2
      go_wp2_with (at_builtin; refine wpList_append_buf _ rfl (.tmp 9) (.tmp 14) 55 rfl base i0 _ Try.underlying55 hi0 hz0 hz1 hz2 rfl _ cur rfl (HBUF.out.alloc (by omega) _) (by simp; omega) ⟨wr.heap.size, 0, none⟩ 1 _ rfl (news_at wr [.int .u8 _] 5) c (by rw [hcn.out]; omega) (by omega) ?_)
      intro v' w3 hown3 hb3
      go_wp2
      go_roundw
      case rel => exact ⟨_, x / 128, by go_num, by omega, HL2.out, HC2.out, hown3.buf, (hbw.alloc (by omega) _).trans hb3⟩
      case measure => simp [intOf]; omega
    · obtain ⟨c, hc⟩ : ∃ c, c = UInt8.ofNat x := ⟨_, rfl⟩
      have hcn : Hid (c.toNat = x) := Lib.hid (by rw [hc, byte_nat (by omega)])
      have hcat2 : cur ++ [c] = all := by rw [← HCAT.out, putB_small (by omega), hc]
      clear hc
      have HC2 := Lib.hid hcat2
      clear hcat2
      go_wp2_with (at_builtin; refine wpList_append_buf _ rfl (.tmp 16) (.tmp 19) 55 rfl base i0 _ Try.underlying55 hi0 hz0 hz1 hz2 rfl _ cur rfl (HBUF.out.alloc (by omega) _) (by simp; omega) ⟨wr.heap.size, 0, none⟩ 1 _ rfl (news_at wr [.int .u8 _] 5) c (by rw [hcn.out]) (by omega) ?_)
      intro v' w3 hown3 hb3
      go_wp2
      go_ret
      exact ⟨_, rfl, by rw [← HC2.out]; exact hown3, (hbw.alloc (by omega) _).trans hb3⟩
end Go.Proofs.Ytnmnbckaccicaaa

/- Package vint's Put, and the document's own Put. -/
namespace Go.Proofs.Ytnmnbckaccicaaa
open Go Go.RowKit
set_option linter.unusedVariables false

set_option maxHeartbeats 1000000 in
set_option maxRecDepth 100000 in
theorem vint_Put (A : Option Addr) (m c : Nat) (bs : List UInt8) (n : Nat) (w : World) (hm : bs.length = m) (hc : m ≤ c) (hr : Row w w.heap.size A (Lib.byteCells bs)) (hn : n < 9223372036854775808) (hl : bs.length ≤ 1073741824) :
    Calls Try.prog 41 #[.slice A m c, .int .i64 (n : Int)] w (GaveOwn w.heap.size (bs ++ putB n) w) := by
  have HR := Lib.hid hr
  clear hr
  subst hm
  go_enter Try.func41, Try.ntmps41
  go_wp2_with (go_at_call 50; refine (vint_add _ bs n w.heap.size _ (.inl ⟨A, ?_, HR.out⟩) (Nat.le_refl _) hn hl).mono ?_)
  · rfl
  rintro e w2 ⟨v, rfl, hown, hb⟩
  go_wp2
  go_ret
  exact ⟨_, rfl, hown, hb⟩

end Go.Proofs.Ytnmnbckaccicaaa

/- What package vint's PutRising answers, and the document's own Good and PutRising. -/
namespace Go.Proofs.Ytnmnbckaccicaaa
open Go Go.RowKit
set_option linter.unusedVariables false

/-- Bytes of rising numbers, behind others: the first k of them are put. -/
def PutRRel (base : Nat) (all : List UInt8) (l : List Int) (w : World) (v last i : Value) (wr : World) : Prop :=
  ∃ (cur : List UInt8) (k : Nat) (x : Int), k ≤ l.length ∧ i = .int .i64 (k : Int) ∧ last = .int .i64 x ∧ -1 ≤ x ∧ risesZ x (l.drop k) = true ∧ cur.length ≤ all.length ∧ cur ++ dB x (l.drop k) = all ∧ Own base wr v cur ∧ Below base w wr

set_option maxHeartbeats 1000000 in
set_option maxRecDepth 100000 in
/-- PutRising of numbers that rise. -/
theorem vint_PutRising_ok (A : Option Addr) (m c : Nat) (bs : List UInt8) (C : Option Addr) (n d : Nat) (l : List Int) (w : World) (hm : bs.length = m) (hc : m ≤ c) (hr : Row w w.heap.size A (Lib.byteCells bs)) (hl : m ≤ 60)
    (hn : l.length = n) (hn20 : n ≤ 20) (hrl : Row w w.heap.size C (ints l)) (hb : ∀ x ∈ l, x ≤ 9223372036854775807) (hri : risesZ (-1) l = true) :
    Calls Try.prog 40 #[.slice A m c, .slice C n d] w fun e w' => ∃ v, e = .returned (.tuple #[v, .int .i64 0]) ∧ Own w.heap.size w' v (bs ++ putR l) ∧ Below w.heap.size w w' := by
  subst hm hn
  have hdl := dB_length l (-1) (by omega) hri hb
  have h9 := putB_nine (n := l.length) (by omega)
  obtain ⟨all, hall⟩ : ∃ all, all = bs ++ putR l := ⟨_, rfl⟩
  have hal : all.length ≤ 300 := by rw [hall, putR, List.length_append, List.length_append]; omega
  rw [← hall]
  have HALL := Lib.hid hall
  have HR := Lib.hid hr
  have HRL := Lib.hid hrl
  have HB := Lib.hid hb
  have r1 := vint_rises C l.length d l w hrl rfl (by omega)
  rw [hri] at r1
  have HRI := Lib.hid hri
  have R1 := Lib.hid r1
  clear hall hr hrl hb r1 hri hdl
  go_enter Try.func40, Try.ntmps40
  go_wp2_with (first
    | (go_at_call 49; refine R1.out.mono ?_; rintro e w' ⟨rfl, rfl⟩)
    | (go_at_call 50; refine (vint_add _ bs l.length w.heap.size _ (.inl ⟨A, rfl, HR.out⟩) (Nat.le_refl _) (by omega) (by omega)).mono ?_))
  rintro e w2 ⟨v, rfl, hown, hb2⟩
  have HOWN := Lib.hid hown
  have HB2 := Lib.hid hb2
  clear hown hb2
  go_wp2
  go_loopw [0, 6, 23] (fun v last i wr => PutRRel w.heap.size all l w v last i wr) (fun _ _ i _ => l.length - (intOf i).toNat)
  case atStart => exact ⟨bs ++ putB l.length, 0, -1, by omega, rfl, rfl, by omega, HRI.out, by rw [HALL.out, putR, List.length_append, List.length_append, List.length_append]; omega, by rw [HALL.out, putR, List.append_assoc]; rfl, HOWN.out, HB2.out⟩
  case round =>
    obtain ⟨cur, k, x, hk, rfl, rfl, hx1, hris, hcl, hcat, hown, hbw⟩ := hrel
    have hsz := hbw.size
    have HOW := Lib.hid hown
    clear hown
    by_cases hlt : k < l.length
    · obtain ⟨b1, o1, e1, _, hc1⟩ := row_int' (HRL.out.below hbw) hlt
      subst e1
      rw [risesZ_drop hlt, Bool.and_eq_true, decide_eq_true_iff] at hris
      rw [dB_drop hlt, ← List.append_assoc] at hcat
      have hyb : l.getD k 0 ≤ 9223372036854775807 := HB.out _ (by rw [List.getD_eq_getElem?_getD, List.getElem?_eq_getElem hlt]; simp)
      obtain ⟨y, hy⟩ : ∃ y, y = l.getD k 0 := ⟨_, rfl⟩
      rw [← hy] at hc1 hris hcat hyb
      obtain ⟨hxy, hris⟩ := hris
      obtain ⟨g, hg⟩ : ∃ g : Nat, y - (x + 1) = (g : Int) := ⟨(y - (x + 1)).toNat, by omega⟩
      rw [hg, Int.toNat_natCast] at hcat
      have hcl2 : (cur ++ putB g).length ≤ all.length := by rw [← hcat, List.length_append (bs := dB y _)]; omega
      have HCAT := Lib.hid hcat
      have HRIS := Lib.hid hris
      have HCL := Lib.hid hcl2
      have VA : Hid (Calls Try.prog 50 #[u0, .int .i64 (g : Int)] wr (GaveOwn w.heap.size (cur ++ putB g) wr)) :=
        Lib.hid (by exact vint_add u0 cur g w.heap.size _ HOW.out.buf (by omega) (by omega) (by omega))
      clear hcat hris hcl2 hy
      go_wp2_with (go_at_call 50; refine VA.out.mono ?_)
      rintro e w3 ⟨v3, rfl, hown3, hb3⟩
      go_wp2
      go_roundw
      case rel => exact ⟨_, k + 1, y, by omega, by go_num, rfl, by omega, HRIS.out, HCL.out, HCAT.out, hown3, hbw.trans hb3⟩
      case measure => simp [intOf]; omega
    · rw [dB_end (by omega), List.append_nil] at hcat
      subst hcat
      go_wp2
      go_ret2
      exact ⟨_, rfl, HOW.out, hbw⟩

set_option maxHeartbeats 1000000 in
set_option maxRecDepth 100000 in
/-- PutRising of numbers that do not rise. -/
theorem vint_PutRising_no (A : Option Addr) (m c : Nat) (C : Option Addr) (n d : Nat) (l : List Int) (w : World)
    (hn : l.length = n) (hn20 : n ≤ 20) (hrl : Row w w.heap.size C (ints l)) (hri : risesZ (-1) l = false) :
    Calls Try.prog 40 #[.slice A m c, .slice C n d] w fun e w' => e = .returned (.tuple #[.slice none 0 0, .int .i64 1]) ∧ w = w' := by
  have r1 := vint_rises C n d l w hrl hn (by omega)
  rw [hri] at r1
  have R1 := Lib.hid r1
  clear r1 hrl hri
  go_enter Try.func40, Try.ntmps40
  go_wp2_with (go_at_call 49; refine R1.out.mono ?_; rintro e w' ⟨rfl, rfl⟩)
  go_ret2
  exact ⟨rfl, rfl⟩
end Go.Proofs.Ytnmnbckaccicaaa
