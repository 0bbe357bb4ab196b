/- Numbers and rising numbers that are got: what calls of that kind give; facts that the walks share. No program but a type's number. -/
import Derived.Test.YtfhjnblcnkjooaaBytes04
namespace Go.Proofs.Ytfhjnblcnkjooaa
open Go Go.RowKit
set_option linter.unusedVariables false

/-- What one byte more is worth. -/
theorem worth_more {l : List UInt8} {k : Nat} (hk : k < 9) (hl : k < l.length) : ∃ q p v : Nat, 128 ^ k = q ∧ valB (l.take k) = v ∧ valB (l.take (k + 1)) = v + p ∧ (((l.getD k 0).toNat : Int) % 128) * (q : Int) = (p : Int) ∧ p ≤ 9151314442816847872 ∧ v + p < 9223372036854775808 ∧ q ≤ 72057594037927936 := by
  have h1 := valB_take hl
  have h2 := valB_take_lt l (k + 1)
  have h3 := pow_bd hk
  have h4 : (128 : Nat) ^ (k + 1) ≤ 128 ^ 9 := Nat.pow_le_pow_right (by omega) (by omega)
  have h5 : (128 : Nat) ^ 9 = 9223372036854775808 := by decide
  refine ⟨_, (l.getD k 0).toNat % 128 * 128 ^ k, _, rfl, rfl, h1, by simp, ?_, by omega, h3⟩
  have : (l.getD k 0).toNat % 128 * 128 ^ k ≤ 127 * 72057594037927936 := Nat.mul_le_mul (by omega) h3
  omega
theorem pow_next {k q : Nat} (h : 128 ^ k = q) (hk : k < 8) : 128 ^ (k + 1) = q * 128 ∧ q * 128 ≤ 72057594037927936 := by
  have h1 := pow_bd (i := k + 1) (by omega)
  rw [Nat.pow_succ, h] at h1 ⊢
  exact ⟨rfl, h1⟩

theorem row_drop {w : World} {B b off m c a : Nat} {l : List UInt8} (h : Row w B (some ⟨b, off, none⟩) (Lib.byteCells l)) (hm : l.length = m) (hc : m ≤ c) (ha : a ≤ m) (A : Option Addr) (hA : A = some ⟨b, off, none⟩ ∧ c = a ∨ A = some ⟨b, off + a, none⟩) : Row w B A (Lib.byteCells (l.drop a)) := by
  by_cases h0 : a = m
  · refine .inl ?_
    rw [List.drop_eq_nil_of_le (by omega)]
    rfl
  · rcases hA with ⟨_, hA⟩ | hA
    · omega
    · obtain ⟨b', o', h1, h2, h3⟩ := h.at_ (by rw [Lib.byteCells_length]; omega)
      injection h1 with h1
      injection h1 with h1 h4
      subst h1 h4 hA
      refine .inr ⟨b, off + a, rfl, h2, fun j u hu => ?_⟩
      have := h3 (a + j) u (by rw [← hu]; simp [Lib.byteCells])
      rwa [← Nat.add_assoc] at this

/-- What a call gives that answers a number, a place and an error. -/
def GaveZ (z : Int × Int × Int) (w : World) (e : Ending) (w' : World) : Prop := e = .returned (.tuple #[.int .i64 z.1, .int .i64 z.2.1, .int .i64 z.2.2]) ∧ Below w.heap.size w w'

theorem getZ_split (l : List UInt8) (a : Int) : (∃ e : Int, getZ l a = (0, 0, e) ∧ (e = 1 ∨ e = 2)) ∨ ∃ n b : Nat, getZ l a = ((n : Int), (b : Int), 0) ∧ b ≤ l.length ∧ n < 9223372036854775808 := by
  by_cases h0 : a < 0 ∨ (l.length : Int) < a
  · exact .inl ⟨1, getZ_out h0, .inl rfl⟩
  · obtain ⟨k, rfl⟩ : ∃ k : Nat, a = k := ⟨a.toNat, by omega⟩
    have hbd := getF_bd (l.drop k)
    rw [List.length_drop] at hbd
    by_cases h2 : (getF (l.drop k)).2 = 0
    · exact .inl ⟨2, getZ_form (by omega) h2, .inr rfl⟩
    · obtain ⟨j, hj⟩ : ∃ j, (getF (l.drop k)).2 = j + 1 := ⟨(getF (l.drop k)).2 - 1, by omega⟩
      refine .inr ⟨(getF (l.drop k)).1, k + (j + 1), ?_, by omega, hbd.1⟩
      rw [getZ_ok (n := (getF (l.drop k)).1) (k := j) (by omega) (by rw [← hj])]
      simp

def outR : Option (List Int × Nat) → List Int × Int × Int
  | none => ([], 0, 2)
  | some p => (p.1, (p.2 : Int), 0)
theorem risZ_err {l : List UInt8} {a e : Int} (hz : getZ l a = (0, 0, e)) (he : e ≠ 0) : risZ l a = ([], 0, e) := by
  unfold risZ
  rw [hz, if_neg (by simpa using he)]
theorem risZ_ok {l : List UInt8} {a : Int} {n b : Nat} (hz : getZ l a = ((n : Int), (b : Int), 0)) : risZ l a = outR (takeR l n (-1) b []) := by
  unfold risZ
  rw [hz]
  simp only [if_true, Int.toNat_natCast]
  rcases takeR l n (-1) b [] with _ | ⟨xs, q⟩ <;> rfl
/-- What a call gives that answers numbers, a place and an error. -/
def GaveR (r : List Int × Int × Int) (w : World) (e : Ending) (w' : World) : Prop :=
  ∃ v, e = .returned (.tuple #[v, .int .i64 r.2.1, .int .i64 r.2.2]) ∧ w'.ownsRow w.heap.size 3 1 v r.1.length (ints r.1) ∧ Below w.heap.size w w'

theorem takeR_length : ∀ (many : Nat) (l : List UInt8) (x : Int) (a : Nat) (acc xs : List Int) (b : Nat), takeR l many x a acc = some (xs, b) → a ≤ l.length → xs.length + a ≤ acc.length + b ∧ b ≤ l.length
  | 0, l, x, a, acc, xs, b, h, ha => by
    simp only [takeR, Option.some.injEq, Prod.mk.injEq] at h
    obtain ⟨rfl, rfl⟩ := h
    exact ⟨Nat.le_refl _, ha⟩
  | m + 1, l, x, a, acc, xs, b, h, ha => by
    have hbd := getF_bd (l.drop a)
    rw [List.length_drop] at hbd
    rw [takeR] at h
    split at h
    · cases h
    · have := takeR_length m l _ _ _ xs b h (by omega)
      simp only [List.length_append, List.length_singleton] at this
      omega
theorem risZ_length (l : List UInt8) (a : Int) : (risZ l a).1.length ≤ l.length := by
  rcases getZ_split l a with ⟨e, hz, he⟩ | ⟨many, b, hz, hb, _⟩
  · rw [risZ_err hz (by omega)]; simp
  · rw [risZ_ok hz]
    rcases h : takeR l many (-1) b [] with _ | ⟨xs, q⟩
    · simp [outR]
    · have := takeR_length many l _ _ _ xs q h hb
      simp only [outR, List.length_nil] at this ⊢
      omega

end Go.Proofs.Ytfhjnblcnkjooaa
