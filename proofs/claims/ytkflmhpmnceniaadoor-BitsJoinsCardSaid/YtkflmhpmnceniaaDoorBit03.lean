/- What package bits' bit and below, math/bits' OnesCount64 and TrailingZeros64, cmp.Compare at ints, and find's own comparison answer. -/
import Derived.Test.YtkflmhpmnceniaaDoorProg
import Derived.WalkKit
import Derived.Laws.Bits64b
import Derived.Lib.TrailingZeros
import Derived.Lib.Hide
import Derived.BigQuiet
import Derived.Deep.QuietTactic
import Derived.Test.YtkflmhpmnceniaaDoorPop03
import Derived.Test.YtkflmhpmnceniaaDoorBase
set_option linter.unusedVariables false
namespace Go.Proofs.YtkflmhpmnceniaaDoor
open Go Go.RowKit

theorem bits_andNot_u64_nat (a b : Nat) (ha : a < 18446744073709551616) (hb : b < 18446744073709551616) :
    bits .andNot .u64 (a : Int) (b : Int) = ((Plain.andn a b : Nat) : Int) := by
  have hx : Plain.andn a b < 18446744073709551616 := Nat.lt_of_le_of_lt (Plain.andn_le a b) ha
  have h1 : (BitVec.ofInt 64 (a : Int)).toNat = a := by
    rw [BitVec.ofInt_natCast, BitVec.toNat_ofNat]; exact Nat.mod_eq_of_lt (by omega)
  have h2 : (BitVec.ofInt 64 (b : Int)).toNat = b := by
    rw [BitVec.ofInt_natCast, BitVec.toNat_ofNat]; exact Nat.mod_eq_of_lt (by omega)
  have h3 : (BitVec.ofInt 64 (a : Int) &&& ~~~BitVec.ofInt 64 (b : Int)).toNat = Plain.andn a b := by
    apply Nat.eq_of_testBit_eq
    intro j
    rw [Plain.andn_bit, BitVec.toNat_and, Nat.testBit_and, h1, BitVec.toNat_not, h2]
    by_cases hj : j < 64
    · rw [show 2 ^ 64 - 1 - b = 2 ^ 64 - (b + 1) by omega, Nat.testBit_two_pow_sub_succ (by omega)]
      simp [hj]
    · have : a.testBit j = false := by
        cases h : a.testBit j
        · rfl
        · exact absurd (Plain.testBit_64 ha h) hj
      simp [this]
  show IntKind.u64.wrap ((BitVec.ofInt 64 (a : Int) &&& ~~~BitVec.ofInt 64 (b : Int)).toNat : Int) = _
  rw [h3, IntKind.wrap_u64]
  omega

set_option maxHeartbeats 1000000 in
theorem bits_bit (i : Nat) (w : World) (hi : i < 9223372036854775808) :
    Calls Tryd.prog 46 #[.int .i64 i] w fun e w' => e = .returned (.int .u64 ((2 ^ (i % 64) : Nat) : Int)) ∧ w = w' := by
  have hm : i % 64 < 64 := Nat.mod_lt _ (by decide)
  have hp := Plain.bit_fits hm
  obtain ⟨p, hpp⟩ : ∃ p, p = 2 ^ (i % 64) := ⟨_, rfl⟩
  rw [← hpp] at hp ⊢
  have HP := Lib.hid hpp
  clear hpp
  go_enter Tryd.func46, Tryd.ntmps46
  go_wp2
  go_ret
  refine ⟨ret_int ?_, rfl⟩
  rw [HP.out, IntKind.wrap_u64]
  rw [HP.out] at hp
  generalize hq : 2 ^ (i % 64) = q at *
  have : ((2 : Int) ^ (i % 64)) = (q : Int) := by rw [← hq]; simp
  rw [this]
  omega

/-- What 'below' answers. -/
theorem bits_below (i : Nat) (w : World) (hi : i < 9223372036854775808) :
    Calls Tryd.prog 38 #[.int .i64 i] w fun e w' => e = .returned (.int .u64 ((2 ^ (i % 64) - 1 : Nat) : Int)) ∧ w = w' := by
  have hm : i % 64 < 64 := Nat.mod_lt _ (by decide)
  have hp := Plain.bit_fits hm
  have hb := bits_bit i w hi
  have h0 : 0 < 2 ^ (i % 64) := Nat.two_pow_pos _
  generalize 2 ^ (i % 64) = p at *
  have HB := Lib.hid hb
  clear hb
  have e1 : ((p - 1 : Nat) : Int) = (p : Int) - 1 := by omega
  rw [e1]
  go_enter Tryd.func38, Tryd.ntmps38
  go_wp2_with (go_at_call 46; refine HB.out.mono ?_; rintro e w' ⟨rfl, rfl⟩)
  go_ret
  refine ⟨ret_int ?_, rfl⟩
  first | rfl | (rw [IntKind.wrap_u64]; omega) | omega

set_option maxHeartbeats 1000000 in
theorem cmp_isNaN (x : Int) (w : World) :
    Calls Tryd.prog 54 #[.int .i64 x] w fun e w' => e = .returned (.bool false) ∧ w = w' := by
  go_enter Tryd.func54, Tryd.ntmps54
  go_wp2
  go_ret
  exact ⟨ret_bool (by simp), rfl⟩

/-- What 'cmp.Compare' answers of two ints. -/
def cmpI (x y : Int) : Int := if x < y then -1 else if y < x then 1 else 0
set_option maxHeartbeats 1000000 in
theorem cmp_Compare (x y : Int) (w : World) :
    Calls Tryd.prog 51 #[.int .i64 x, .int .i64 y] w fun e w' => e = .returned (.int .i64 (cmpI x y)) ∧ w = w' := by
  go_enter Tryd.func51, Tryd.ntmps51
  go_wp2_with (go_at_call 54; refine (cmp_isNaN _ _).mono ?_; rintro e w' ⟨rfl, rfl⟩)
  all_goals
    go_ret
    refine ⟨ret_int ?_, rfl⟩
    unfold cmpI
    first
      | (rw [if_pos (by omega)])
      | (rw [if_neg (by omega), if_pos (by omega)])
      | (rw [if_neg (by omega), if_neg (by omega)])

/-- find's comparison: of a word against a place; it lays a block. -/
theorem find_1 (a : Int) (x : Int) (at_ : Int) (w : World) :
    Calls Tryd.prog 50 #[.agg #[.int .i64 a, .int .u64 x], .int .i64 at_] w fun e w' => e = .returned (.int .i64 (cmpI a at_)) ∧ Below w.heap.size w w' := by
  go_enter Tryd.func50, Tryd.ntmps50
  go_wp2_with (go_at_call 51; refine (cmp_Compare _ _ _).mono ?_; rintro e w' ⟨rfl, rfl⟩)
  go_ret
  exact ⟨rfl, (Below.refl _ _).alloc (Nat.le_refl _) _⟩

theorem bits_and_i64_127 (x : Nat) (hx : x < 9223372036854775808) : bits .and .i64 (x : Int) 127 = ((x % 128 : Nat) : Int) := by
  have h1 : (BitVec.ofInt 64 (x : Int)).toNat = x := by
    rw [BitVec.ofInt_natCast, BitVec.toNat_ofNat]; exact Nat.mod_eq_of_lt (by omega)
  have h2 : (BitVec.ofInt 64 127).toNat = 127 := by decide
  show IntKind.i64.wrap ((BitVec.ofInt 64 (x : Int) &&& BitVec.ofInt 64 127).toNat : Int) = _
  rw [BitVec.toNat_and, h1, h2, show (127 : Nat) = 2 ^ 7 - 1 from rfl, Nat.and_two_pow_sub_one_eq_mod, IntKind.wrap_i64]
  omega

theorem u64_shr (x k : Nat) : ((x : Int).fdiv (2 ^ k)) = ((x / 2 ^ k : Nat) : Int) := by
  rw [Int.fdiv_eq_ediv_of_nonneg _ (Int.le_of_lt (by have := Nat.two_pow_pos k; exact_mod_cast this))]
  simp

set_option maxHeartbeats 4000000 in
set_option maxRecDepth 100000 in
theorem bits_OnesCount64 (x : Nat) (w : World) (hx : x < 18446744073709551616) :
    Calls Tryd.prog 47 #[.int .u64 x] w fun e w' => e = .returned (.int .i64 (Plain.pop x : Nat)) ∧ w = w' := by
  obtain ⟨x1, x2, x3, x4, x5, x6, h1, b1, h2, b2, b2', h3, b3, h4, b4, h5, b5, h6, b6, h7⟩ := Plain.pop_hack x hx
  obtain ⟨y2, hy2⟩ : ∃ y, y = x2 / 16 + x2 := ⟨_, rfl⟩
  rw [← hy2] at b2' h3
  have k1 := bits_and_u64_nat (x / 2) 6148914691236517205 (by omega) (by decide)
  have k2 := bits_and_u64_nat x 6148914691236517205 hx (by decide)
  have k3 := bits_and_u64_nat (x1 / 4) 3689348814741910323 (by omega) (by decide)
  have k4 := bits_and_u64_nat x1 3689348814741910323 b1 (by decide)
  have k5 := bits_and_u64_nat y2 1085102592571150095 b2' (by decide)
  have e1 : IntKind.u64.wrap (bits .and .u64 ((x : Int) / 2) 6148914691236517205 + bits .and .u64 (x : Int) 6148914691236517205) = (x1 : Int) := by
    rw [IntKind.wrap_u64, show ((x : Int) / 2) = ((x / 2 : Nat) : Int) by omega]
    rw [show (6148914691236517205 : Int) = ((6148914691236517205 : Nat) : Int) from rfl, k1, k2]
    omega
  have e2 : IntKind.u64.wrap (bits .and .u64 ((x1 : Int) / 4) 3689348814741910323 + bits .and .u64 (x1 : Int) 3689348814741910323) = (x2 : Int) := by
    rw [IntKind.wrap_u64, show ((x1 : Int) / 4) = ((x1 / 4 : Nat) : Int) by omega]
    rw [show (3689348814741910323 : Int) = ((3689348814741910323 : Nat) : Int) from rfl, k3, k4]
    omega
  have e3 : IntKind.u64.wrap ((x2 : Int) / 16 + (x2 : Int)) = (y2 : Int) := by
    rw [IntKind.wrap_u64]
    omega
  have e4 : bits .and .u64 (y2 : Int) 1085102592571150095 = (x3 : Int) := by
    rw [show (1085102592571150095 : Int) = ((1085102592571150095 : Nat) : Int) from rfl, k5, h3]
  have e5 : IntKind.u64.wrap ((x3 : Int) + (x3 : Int) / 256) = (x4 : Int) := by
    rw [IntKind.wrap_u64]
    omega
  have e6 : IntKind.u64.wrap ((x4 : Int) + (x4 : Int) / 65536) = (x5 : Int) := by
    rw [IntKind.wrap_u64]
    omega
  have e7 : IntKind.u64.wrap ((x5 : Int) + (x5 : Int) / 4294967296) = (x6 : Int) := by
    rw [IntKind.wrap_u64]
    omega
  have HP := Lib.hid h7
  clear k1 k2 k3 k4 k5 h1 h2 h3 h4 h5 h6 h7 hy2
  go_enter Tryd.func47, Tryd.ntmps47
  go_wp2
  go_ret
  refine ⟨ret_int ?_, rfl⟩
  have h2 := bits_and_i64_127 x6 b6
  rw [← HP.out, ← h2]

/-- The table in its variable. -/
def TabAt (g : Nat) (tab : List Nat) (w : World) : Prop := ∀ j, j < tab.length → w.cell? ⟨g, j, none⟩ = some (.int .u8 (tab.getD j 0))
/-- The table of TrailingZeros64 lies as its initialiser lays it. -/
def Tab (w : World) : Prop := TabAt 0 Lib.deBruijn64tab w
theorem Tab.below {B : Nat} {w w' : World} (h : Tab w) (hb : Below B w w') (hB : 0 < B) : Tab w' := fun j hj => (hb.cell (p := ⟨0, j, none⟩) hB).trans (h j hj)
theorem Tab.lt {w : World} (h : Tab w) : 0 < w.heap.size := World.block_lt_of_cell? w _ (h 0 (by decide))

set_option maxHeartbeats 1000000 in
theorem tz64_core (x k idx : Nat) (w : World) (hx0 : ((x : Int) == 0) = false)
    (key : IntKind.u64.wrap (bits BinOp.and IntKind.u64 (x : Int) (IntKind.u64.wrap (-(x : Int))) * 285870213051353865) / 288230376151711744 = (idx : Int))
    (hi : idx < 64) (hk : k < 64) (hcell : w.cell? ⟨0, idx, none⟩ = some (.int .u8 k)) :
    Calls Tryd.prog 48 #[.int .u64 x] w fun e w' => e = .returned (.int .i64 k) ∧ w = w' := by
  go_enter Tryd.func48, Tryd.ntmps48
  go_wp2_with (simp only [key])
  go_ret
  exact ⟨rfl, rfl⟩

theorem tz64_key (x a : Nat) (hx : x < 18446744073709551616) (hx0 : x ≠ 0) (hlow : x &&& (18446744073709551616 - x) = a) :
    IntKind.u64.wrap (bits BinOp.and IntKind.u64 (x : Int) (IntKind.u64.wrap (-(x : Int))) * 285870213051353865) / 288230376151711744 = ((a * 285870213051353865 % 18446744073709551616 / 288230376151711744 : Nat) : Int) := by
  have e1 : IntKind.u64.wrap (-(x : Int)) = ((18446744073709551616 - x : Nat) : Int) := by rw [IntKind.wrap_u64]; omega
  rw [e1, bits_and_u64_nat x _ hx (by omega), hlow, IntKind.wrap_u64]
  omega

/-- TrailingZeros64, of what is not 0. -/
theorem bits_TrailingZeros64 (x : Nat) (hx : x < 18446744073709551616) (hx0 : x ≠ 0) (w : World) (hT : Tab w) :
    Calls Tryd.prog 48 #[.int .u64 x] w fun e w' => e = .returned (.int .i64 (Lib.ctz 64 x : Nat)) ∧ w = w' := by
  obtain ⟨hlow, hk⟩ := Lib.lowest_bit 64 x hx0 hx
  obtain ⟨hi, htab⟩ := Lib.deBruijn64_at _ hk
  have hcell := hT _ hi
  rw [htab] at hcell
  exact tz64_core x _ _ w (by simp; omega) (tz64_key x _ hx hx0 hlow) hi hk hcell
end Go.Proofs.YtkflmhpmnceniaaDoor
