/- Numbers as bytes, plainly: digits to the base 128, and what is read of bytes. No program. -/
import Derived.Below
set_option linter.unusedVariables false
namespace Go.Proofs.Ytldcadpemnpbmaa

/-! ## Bytes of a number -/

def putB (n : Nat) : List UInt8 := if n < 128 then [UInt8.ofNat n] else UInt8.ofNat (128 + n % 128) :: putB (n / 128)
termination_by n
decreasing_by omega

theorem putB_small {n : Nat} (h : n < 128) : putB n = [UInt8.ofNat n] := by rw [putB, if_pos h]
theorem putB_big {n : Nat} (h : 128 ≤ n) : putB n = UInt8.ofNat (128 + n % 128) :: putB (n / 128) := by rw [putB, if_neg (by omega)]
theorem byte_nat {n : Nat} (h : n < 256) : (UInt8.ofNat n).toNat = n := by simp; omega
theorem putB_pos (n : Nat) : 0 < (putB n).length := by
  by_cases h : n < 128
  · rw [putB_small h]; simp
  · rw [putB_big (by omega)]; simp
theorem putB_le {k : Nat} : ∀ {n : Nat}, n < 128 ^ (k + 1) → (putB n).length ≤ k + 1 := by
  induction k with
  | zero => intro n h; rw [putB_small (by simpa using h)]; simp
  | succ k ih =>
    intro n h
    by_cases h1 : n < 128
    · rw [putB_small h1]; simp
    · rw [putB_big (by omega), List.length_cons]
      have := ih (n := n / 128) (by rw [Nat.pow_succ] at h; exact Nat.div_lt_of_lt_mul (by rw [Nat.mul_comm]; exact h))
      omega
theorem putB_nine {n : Nat} (h : n < 9223372036854775808) : (putB n).length ≤ 9 := putB_le (k := 8) (by simpa using h)
theorem putB_mono : ∀ {n m : Nat}, n ≤ m → (putB n).length ≤ (putB m).length := by
  intro n
  induction n using Nat.strongRecOn with
  | _ n ih =>
    intro m h
    by_cases h1 : n < 128
    · rw [putB_small h1]
      exact putB_pos m
    · rw [putB_big (by omega), putB_big (n := m) (by omega), List.length_cons, List.length_cons]
      exact Nat.succ_le_succ (ih (n / 128) (by omega) (Nat.div_le_div_right h))

/-! ## What bytes are worth -/

def valB : List UInt8 → Nat
  | [] => 0
  | c :: r => c.toNat % 128 + 128 * valB r
theorem valB_lt : ∀ l : List UInt8, valB l < 128 ^ l.length
  | [] => by simp [valB]
  | c :: r => by
    have := valB_lt r
    rw [valB, List.length_cons, Nat.pow_succ]
    omega
theorem valB_snoc : ∀ (l : List UInt8) (c : UInt8), valB (l ++ [c]) = valB l + c.toNat % 128 * 128 ^ l.length
  | [], c => by simp [valB]
  | d :: r, c => by
    rw [List.cons_append, valB, valB, valB_snoc r c, List.length_cons, Nat.pow_succ, Nat.mul_add]
    have : 128 * (c.toNat % 128 * 128 ^ r.length) = c.toNat % 128 * (128 ^ r.length * 128) := by
      rw [Nat.mul_comm 128, Nat.mul_assoc]
    omega
theorem valB_take {l : List UInt8} {i : Nat} (h : i < l.length) : valB (l.take (i + 1)) = valB (l.take i) + (l.getD i 0).toNat % 128 * 128 ^ i := by
  rw [List.take_succ_eq_append_getElem h, valB_snoc, List.length_take, Nat.min_eq_left (by omega), List.getD_eq_getElem?_getD, List.getElem?_eq_getElem h]
  rfl
theorem valB_take_lt (l : List UInt8) (i : Nat) : valB (l.take i) < 128 ^ i := by
  have h := valB_lt (l.take i)
  have h2 : (l.take i).length ≤ i := List.length_take_le i l
  exact Nat.lt_of_lt_of_le h (Nat.pow_le_pow_right (by omega) h2)

/-! ## The first number -/

def scan : Nat → List UInt8 → Option Nat
  | 0, _ => none
  | _ + 1, [] => none
  | f + 1, c :: r => if c.toNat < 128 then some 0 else (scan f r).map (· + 1)
/-- The number that bytes begin with, and how many bytes it has: none, if there is none. -/
def getF (l : List UInt8) : Nat × Nat :=
  match scan 9 l with
  | none => (0, 0)
  | some k => if k ≠ 0 ∧ (l.getD k 0).toNat = 0 then (0, 0) else (valB (l.take (k + 1)), k + 1)

theorem scan_none : ∀ {f : Nat} {l : List UInt8}, (∀ j, j < f → j < l.length → 128 ≤ (l.getD j 0).toNat) → scan f l = none
  | 0, _, _ => rfl
  | f + 1, [], _ => rfl
  | f + 1, c :: r, h => by
    have h0 : 128 ≤ c.toNat := h 0 (by omega) (by simp)
    have ih := scan_none (f := f) (l := r) fun j hj hr => h (j + 1) (by omega) (by simp; omega)
    simp only [scan, ih]
    rw [if_neg (by omega)]
    rfl
theorem scan_some : ∀ {f : Nat} {l : List UInt8} {i : Nat}, i < f → i < l.length → (∀ j, j < i → 128 ≤ (l.getD j 0).toNat) → (l.getD i 0).toNat < 128 → scan f l = some i
  | 0, _, _, h, _, _, _ => by omega
  | f + 1, [], _, _, h, _, _ => by simp at h
  | f + 1, c :: r, 0, _, _, _, h => by
    have h0 : c.toNat < 128 := h
    simp [scan, h0]
  | f + 1, c :: r, i + 1, hf, hl, hb, h => by
    have h0 : 128 ≤ c.toNat := hb 0 (by omega)
    have ih := scan_some (f := f) (l := r) (i := i) (by omega) (by simpa using hl) (fun j hj => hb (j + 1) (by omega)) h
    simp only [scan, ih]
    rw [if_neg (by omega)]
    rfl
/-- The first so many bytes are none the last one. -/
def High (l : List UInt8) (i : Nat) : Prop := ∀ j, j < i → 128 ≤ (l.getD j 0).toNat
theorem High.zero (l : List UInt8) : High l 0 := fun j h => by omega
theorem High.succ {l : List UInt8} {i : Nat} (h : High l i) (hc : 128 ≤ (l.getD i 0).toNat) : High l (i + 1) := fun j hj => by
  by_cases e : j = i
  · rw [e]; exact hc
  · exact h j (by omega)
theorem getF_none {l : List UInt8} {i : Nat} (h : High l i) (hi : 9 ≤ i ∨ l.length ≤ i) : getF l = (0, 0) := by
  unfold getF
  rw [scan_none fun j h1 h2 => h j (by omega)]
theorem getF_zero {l : List UInt8} {i : Nat} (h : High l i) (hi : i < 9) (hl : i < l.length) (h0 : 0 < i) (hc : (l.getD i 0).toNat = 0) : getF l = (0, 0) := by
  unfold getF
  rw [scan_some hi hl h (by omega)]
  simp only
  rw [if_pos ⟨by omega, hc⟩]
theorem getF_some {l : List UInt8} {i : Nat} (h : High l i) (hi : i < 9) (hl : i < l.length) (hc : (l.getD i 0).toNat < 128) (h0 : i = 0 ∨ (l.getD i 0).toNat ≠ 0) : getF l = (valB (l.take (i + 1)), i + 1) := by
  unfold getF
  rw [scan_some hi hl h hc]
  simp only
  rw [if_neg (by omega)]
/-- What getF answers, in its three ways. -/
theorem getF_cases (l : List UInt8) : getF l = (0, 0) ∨ ∃ i, i < 9 ∧ i < l.length ∧ getF l = (valB (l.take (i + 1)), i + 1) := by
  unfold getF
  have key : ∀ (f : Nat) (l : List UInt8) (k : Nat), scan f l = some k → k < f ∧ k < l.length := by
    intro f
    induction f with
    | zero => intro l k h; cases h
    | succ f ih =>
      intro l k h
      cases l with
      | nil => cases h
      | cons c r =>
        rw [scan] at h
        split at h
        · simp at h; subst h; simp
        · rw [Option.map_eq_some_iff] at h
          obtain ⟨j, hj, rfl⟩ := h
          have := ih r j hj
          simp; omega
  rcases hs : scan 9 l with _ | k
  · exact .inl rfl
  · have := key 9 l k hs
    simp only
    split
    · exact .inl rfl
    · exact .inr ⟨k, this.1, this.2, rfl⟩
theorem getF_bd (l : List UInt8) : (getF l).1 < 9223372036854775808 ∧ (getF l).2 ≤ l.length ∧ (getF l).2 ≤ 9 := by
  rcases getF_cases l with h | ⟨i, h1, h2, h⟩
  · rw [h]; simp
  · rw [h]
    have := valB_take_lt l (i + 1)
    have h3 : (128 : Nat) ^ (i + 1) ≤ 128 ^ 9 := Nat.pow_le_pow_right (by omega) (by omega)
    have h4 : (128 : Nat) ^ 9 = 9223372036854775808 := by decide
    refine ⟨?_, ?_, ?_⟩ <;> simp only <;> omega
theorem pow_bd {i : Nat} (h : i < 9) : (128 : Nat) ^ i ≤ 72057594037927936 := by
  have h3 : (128 : Nat) ^ i ≤ 128 ^ 8 := Nat.pow_le_pow_right (by omega) (by omega)
  have h4 : (128 : Nat) ^ 8 = 72057594037927936 := by decide
  omega

/-! ## A number's own bytes -/

theorem putB_high : ∀ (n : Nat) (j : Nat), j + 1 < (putB n).length → 128 ≤ ((putB n).getD j 0).toNat := by
  intro n
  induction n using Nat.strongRecOn with
  | _ n ih =>
    intro j hj
    by_cases h1 : n < 128
    · rw [putB_small h1] at hj; simp at hj
    · rw [putB_big (by omega)] at hj ⊢
      cases j with
      | zero => rw [List.getD_cons_zero, byte_nat (by omega)]; omega
      | succ j => simpa using ih (n / 128) (by omega) j (by simpa using hj)
theorem putB_last : ∀ (n : Nat), ((putB n).getD ((putB n).length - 1) 0).toNat < 128 ∧ (0 < n → ((putB n).getD ((putB n).length - 1) 0).toNat ≠ 0) := by
  intro n
  induction n using Nat.strongRecOn with
  | _ n ih =>
    by_cases h1 : n < 128
    · rw [putB_small h1]
      have := byte_nat (n := n) (by omega)
      simp only [List.length_singleton, List.getD_cons_zero, Nat.sub_self]
      omega
    · rw [putB_big (by omega)]
      have hp := putB_pos (n / 128)
      have := ih (n / 128) (by omega)
      rw [List.length_cons, show (putB (n / 128)).length + 1 - 1 = ((putB (n / 128)).length - 1) + 1 by omega, List.getD_cons_succ]
      exact ⟨this.1, fun _ => this.2 (by omega)⟩
theorem putB_long {n : Nat} (h : 1 < (putB n).length) : 0 < n := by
  rcases Nat.eq_zero_or_pos n with h0 | h0
  · subst h0
    rw [putB_small (by omega)] at h
    simp at h
  · exact h0
theorem valB_putB : ∀ n : Nat, valB (putB n) = n := by
  intro n
  induction n using Nat.strongRecOn with
  | _ n ih =>
    by_cases h1 : n < 128
    · rw [putB_small h1, valB, valB, byte_nat (by omega)]; omega
    · rw [putB_big (by omega), valB, ih (n / 128) (by omega), byte_nat (by omega)]; omega
theorem getD_app {a b : List UInt8} {j : Nat} (h : j < a.length) : (a ++ b).getD j 0 = a.getD j 0 := by
  rw [List.getD_eq_getElem?_getD, List.getD_eq_getElem?_getD, List.getElem?_append_left h]
theorem getF_putB {n : Nat} (h : n < 9223372036854775808) (r : List UInt8) : getF (putB n ++ r) = (n, (putB n).length) := by
  have hp := putB_pos n
  have h9 := putB_nine h
  have hl := putB_last n
  rw [getF_some (i := (putB n).length - 1) ?_ (by omega) (by simp; omega) ?_ ?_, show (putB n).length - 1 + 1 = (putB n).length by omega, List.take_left, valB_putB]
  · intro j hj
    rw [getD_app (by omega)]
    exact putB_high n j (by omega)
  · rw [getD_app (by omega)]
    exact hl.1
  · by_cases h1 : (putB n).length = 1
    · exact .inl (by omega)
    · refine .inr ?_
      rw [getD_app (by omega)]
      exact hl.2 (putB_long (by omega))
theorem getF_cut {n c : Nat} (hc : c < (putB n).length) : getF ((putB n).take c) = (0, 0) := by
  refine getF_none (i := c) (fun j hj => ?_) (.inr (List.length_take_le _ _))
  rw [List.getD_eq_getElem?_getD, List.getElem?_take_of_lt hj, ← List.getD_eq_getElem?_getD]
  exact putB_high n j (by omega)
/-- Bytes that are of their form are those of what they are worth. -/
theorem putB_valB : ∀ {k : Nat} {l : List UInt8}, l.length = k + 1 → High l k → (l.getD k 0).toNat < 128 → (k = 0 ∨ (l.getD k 0).toNat ≠ 0) → putB (valB l) = l ∧ ((l.getD k 0).toNat ≠ 0 → 0 < valB l)
  | 0, [c], _, _, h, _ => by
    have hc : c.toNat < 128 := by simpa using h
    have hv : valB [c] = c.toNat := by simp only [valB]; omega
    refine ⟨?_, fun h0 => ?_⟩
    · rw [hv, putB_small hc]
      congr 1
      exact UInt8.toNat_inj.1 (by rw [byte_nat (by omega)])
    · rw [hv]
      have : c.toNat ≠ 0 := by simpa using h0
      omega
  | k + 1, c :: r, hl, hh, h, h0 => by
    have hc0 : 128 ≤ c.toNat := hh 0 (by omega)
    have hc1 := c.toNat_lt
    have h0' : (r.getD k 0).toNat ≠ 0 := by
      rcases h0 with h0 | h0
      · omega
      · simpa using h0
    have ih := putB_valB (k := k) (l := r) (by simpa using hl) (fun j hj => by simpa using hh (j + 1) (by omega)) (by simpa using h) (.inr h0')
    have hv : valB (c :: r) = c.toNat - 128 + 128 * valB r := by simp only [valB]; omega
    have hpos := ih.2 h0'
    refine ⟨?_, fun _ => by rw [hv]; omega⟩
    rw [hv, putB_big (by omega), show (c.toNat - 128 + 128 * valB r) / 128 = valB r by omega, ih.1]
    congr 1
    exact UInt8.toNat_inj.1 (by rw [byte_nat (by omega)]; omega)
theorem putB_valB_not {k : Nat} {l : List UInt8} (hl : l.length = k + 1) (hk : 0 < k) (h0 : (l.getD k 0).toNat = 0) (n : Nat) : putB n ≠ l := by
  intro e
  have h1 := putB_last n
  rw [e, hl] at h1
  have := h1.2 (putB_long (by rw [e, hl]; omega))
  simp at this
  simp at h0
  exact this h0

/-! ## A number at a place: the number, the place behind it, the error -/

def getZ (l : List UInt8) (a : Int) : Int × Int × Int :=
  if a < 0 ∨ (l.length : Int) < a then (0, 0, 1)
  else if (getF (l.drop a.toNat)).2 = 0 then (0, 0, 2) else (((getF (l.drop a.toNat)).1 : Int), a + ((getF (l.drop a.toNat)).2 : Int), 0)
theorem getZ_out {l : List UInt8} {a : Int} (h : a < 0 ∨ (l.length : Int) < a) : getZ l a = (0, 0, 1) := by unfold getZ; rw [if_pos h]
theorem getZ_form {l : List UInt8} {a : Nat} (h : a ≤ l.length) (h2 : (getF (l.drop a)).2 = 0) : getZ l (a : Int) = (0, 0, 2) := by
  unfold getZ
  rw [if_neg (by omega), Int.toNat_natCast, if_pos h2]
theorem getZ_ok {l : List UInt8} {a n k : Nat} (h : a ≤ l.length) (h2 : getF (l.drop a) = (n, k + 1)) : getZ l (a : Int) = ((n : Int), (a : Int) + ((k + 1 : Nat) : Int), 0) := by
  unfold getZ
  rw [if_neg (by omega), Int.toNat_natCast, h2]
  simp
theorem getZ_put {n : Nat} (h : n < 9223372036854775808) (b r : List UInt8) : getZ (b ++ (putB n ++ r)) (b.length : Int) = ((n : Int), ((b.length + (putB n).length : Nat) : Int), 0) := by
  have hp := putB_pos n
  obtain ⟨k, hk⟩ : ∃ k, (putB n).length = k + 1 := ⟨(putB n).length - 1, by omega⟩
  rw [getZ_ok (n := n) (k := k) (by simp) (by rw [List.drop_left, getF_putB h, hk]), hk]
  simp

/-! ## Rising numbers -/

def risesZ : Int → List Int → Bool
  | _, [] => true
  | last, n :: r => decide (last < n) && risesZ n r
def dB : Int → List Int → List UInt8
  | _, [] => []
  | last, n :: r => putB (n - (last + 1)).toNat ++ dB n r
def putR (l : List Int) : List UInt8 := putB l.length ++ dB (-1) l
def goodZ : Int → List Int → List Int
  | _, [] => []
  | last, n :: r => (last + 1 + (if n < 0 then -(n + 1) else n) % 1000) :: goodZ (last + 1 + (if n < 0 then -(n + 1) else n) % 1000) r
theorem goodZ_length : ∀ (l : List Int) (last : Int), (goodZ last l).length = l.length
  | [], _ => rfl
  | n :: r, last => by simp [goodZ, goodZ_length r]
theorem goodZ_rises : ∀ (l : List Int) (last : Int), risesZ last (goodZ last l) = true
  | [], _ => rfl
  | n :: r, last => by
    rw [goodZ, risesZ, goodZ_rises r, Bool.and_true, decide_eq_true_iff]
    split <;> omega
theorem goodZ_le : ∀ (l : List Int) (last : Int), -1 ≤ last → ∀ x ∈ goodZ last l, 0 ≤ x ∧ x ≤ last + 1000 * l.length
  | [], _, _ => by simp [goodZ]
  | n :: r, last, h => by
    intro x hx
    rw [goodZ] at hx
    have hm : 0 ≤ (if n < 0 then -(n + 1) else n) % 1000 ∧ (if n < 0 then -(n + 1) else n) % 1000 < 1000 := ⟨Int.emod_nonneg _ (by omega), Int.emod_lt_of_pos _ (by omega)⟩
    rw [List.length_cons]
    rcases List.mem_cons.1 hx with rfl | hx
    · omega
    · have := goodZ_le r _ (by omega) x hx
      omega
theorem dB_length : ∀ (l : List Int) (last : Int), -1 ≤ last → risesZ last l = true → (∀ x ∈ l, x ≤ 9223372036854775807) → (dB last l).length ≤ 9 * l.length
  | [], _, _, _, _ => by simp [dB]
  | n :: r, last, h, hr, hb => by
    rw [risesZ, Bool.and_eq_true, decide_eq_true_iff] at hr
    have hn := hb n (by simp)
    rw [dB, List.length_append, List.length_cons]
    have h1 := putB_nine (n := (n - (last + 1)).toNat) (by omega)
    have h2 := dB_length r n (by omega) hr.2 fun x hx => hb x (by simp [hx])
    omega

def takeR (l : List UInt8) : Nat → Int → Nat → List Int → Option (List Int × Nat)
  | 0, _, a, acc => some (acc, a)
  | m + 1, last, a, acc =>
    if (getF (l.drop a)).2 = 0 ∨ 4611686018427387904 - (last + 1) < ((getF (l.drop a)).1 : Int) then none
    else takeR l m (last + (((getF (l.drop a)).1 : Int) + 1)) (a + (getF (l.drop a)).2) (acc ++ [last + (((getF (l.drop a)).1 : Int) + 1)])
/-- The rising numbers at a place, the place behind them, the error. -/
def risZ (l : List UInt8) (a : Int) : List Int × Int × Int :=
  if (getZ l a).2.2 = 0 then
    match takeR l (getZ l a).1.toNat (-1) (getZ l a).2.1.toNat [] with
    | none => ([], 0, 2)
    | some (xs, b) => (xs, (b : Int), 0)
  else ([], 0, (getZ l a).2.2)

theorem takeR_dB : ∀ (g : List Int) (last : Int) (pre post : List UInt8) (acc : List Int), -1 ≤ last → risesZ last g = true → (∀ x ∈ g, x ≤ 4611686018427387904) →
    takeR (pre ++ (dB last g ++ post)) g.length last pre.length acc = some (acc ++ g, pre.length + (dB last g).length)
  | [], last, pre, post, acc, _, _, _ => by simp [takeR, dB]
  | n :: r, last, pre, post, acc, h, hr, hb => by
    rw [risesZ, Bool.and_eq_true, decide_eq_true_iff] at hr
    have hn := hb n (by simp)
    have e : pre ++ (dB last (n :: r) ++ post) = pre ++ (putB (n - (last + 1)).toNat ++ (dB n r ++ post)) := by rw [dB, List.append_assoc]
    have hg : getF ((pre ++ (dB last (n :: r) ++ post)).drop pre.length) = ((n - (last + 1)).toNat, (putB (n - (last + 1)).toNat).length) := by
      rw [e, List.drop_left, getF_putB (by omega)]
    have hp := putB_pos (n - (last + 1)).toNat
    rw [List.length_cons, takeR, hg]
    simp only
    rw [if_neg (by omega), show last + (((n - (last + 1)).toNat : Int) + 1) = n by omega, e]
    have e2 : pre ++ (putB (n - (last + 1)).toNat ++ (dB n r ++ post)) = (pre ++ putB (n - (last + 1)).toNat) ++ (dB n r ++ post) := by rw [List.append_assoc]
    have ih := takeR_dB r n (pre ++ putB (n - (last + 1)).toNat) post (acc ++ [n]) (by omega) hr.2 (fun x hx => hb x (by simp [hx]))
    rw [e2, ← List.length_append, ih, dB]
    simp [Nat.add_assoc]
theorem risZ_put {g : List Int} (hr : risesZ (-1) g = true) (hb : ∀ x ∈ g, x ≤ 4611686018427387904) (hl : g.length < 9223372036854775808) (b r : List UInt8) :
    risZ (b ++ (putR g ++ r)) (b.length : Int) = (g, ((b.length + (putR g).length : Nat) : Int), 0) := by
  have hz := getZ_put hl b (dB (-1) g ++ r)
  have e : b ++ (putR g ++ r) = b ++ (putB g.length ++ (dB (-1) g ++ r)) := by rw [putR, List.append_assoc]
  have e2 : b ++ (putB g.length ++ (dB (-1) g ++ r)) = (b ++ putB g.length) ++ (dB (-1) g ++ r) := by rw [List.append_assoc]
  have ht := takeR_dB g (-1) (b ++ putB g.length) r [] (by omega) hr hb
  unfold risZ
  rw [e, hz]
  simp only [if_true, Int.toNat_natCast]
  rw [e2, ← List.length_append, ht]
  simp [putR, Nat.add_assoc]
end Go.Proofs.Ytldcadpemnpbmaa
