/- What the document's 'one' answers: the character at the beginning of bytes that are some, and how many bytes it has: as the model's own decoding has it. -/
import Derived.Test.YthpecegifilgoaaPlain01
import Derived.Test.YthpecegifilgoaaBase
import Derived.Test.YthpecegifilgoaaProg
import Derived.Lib.Hide
namespace Go.Proofs.Ythpecegifilgoaa
open Go Go.RowKit
set_option linter.unusedVariables false

/-- Byte j is there, and carries on what was begun. -/
def ContAt (l : List UInt8) (j : Nat) : Prop := j < l.length ∧ (l.getD j 0).toNat / 64 = 2
/-- The value that has come together behind k more bytes. -/
def vals (l : List UInt8) (v0 : Int) : Nat → Int
  | 0 => v0
  | k + 1 => 64 * vals l v0 k + ((l.getD (k + 1) 0).toNat : Int) - 128
def Small (k : Nat) (v : Int) : Prop := 0 ≤ v ∧ ((k = 0 ∧ v ≤ 31) ∨ (k = 1 ∧ v ≤ 2047) ∨ (k = 2 ∧ v ≤ 131071) ∨ (k = 3 ∧ v ≤ 8388607))
def Conts (l : List UInt8) (k : Nat) : Prop := ∀ j, 1 ≤ j → j ≤ k → ContAt l j
theorem conts_zero (l : List UInt8) : Conts l 0 := fun j h1 h2 => by omega
theorem conts_succ {l : List UInt8} {k : Nat} (h : Conts l k) (hc : ContAt l (k + 1)) : Conts l (k + 1) := fun j h1 h2 => by
  by_cases e : j = k + 1
  · rw [e]; exact hc
  · exact h j h1 (by omega)
theorem cont_bool (l : List UInt8) (j : Nat) : (decide (j < l.length) && (l.getD j 0).toNat / 64 == 2) = true ↔ ContAt l j := by
  simp [ContAt]

theorem dec_low (l : List UInt8) (h : (l.getD 0 0).toNat < 128) : dec l = ((l.getD 0 0).toNat, 1) := by
  unfold dec; simp only []; rw [if_pos h]
theorem dec_bad (l : List UInt8) (h : 128 ≤ (l.getD 0 0).toNat) (h2 : (l.getD 0 0).toNat < 194 ∨ 245 ≤ (l.getD 0 0).toNat) : dec l = (65533, 1) := by
  have hb := (l.getD 0 0).toNat_lt
  have hb1 := (l.getD 1 0).toNat_lt
  have hb2 := (l.getD 2 0).toNat_lt
  have hb3 := (l.getD 3 0).toNat_lt
  unfold dec
  simp only []
  rw [if_neg (by omega)]
  by_cases c1 : (l.getD 0 0).toNat / 32 = 6
  · by_cases c2 : ContAt l 1
    · rw [if_pos (by rw [Bool.and_eq_true, cont_bool]; exact ⟨by simpa using c1, c2⟩), if_neg (by omega)]
    · rw [if_neg (by rw [Bool.and_eq_true, cont_bool]; exact fun h => c2 h.2)]
      rw [if_neg (by intro h; simp only [Bool.and_eq_true, beq_iff_eq, decide_eq_true_eq] at h; omega), if_neg (by intro h; simp only [Bool.and_eq_true, beq_iff_eq, decide_eq_true_eq] at h; omega)]
  · rw [if_neg (by intro h; simp only [Bool.and_eq_true, beq_iff_eq, decide_eq_true_eq] at h; omega), if_neg (by intro h; simp only [Bool.and_eq_true, beq_iff_eq, decide_eq_true_eq] at h; omega)]
    by_cases c3 : (l.getD 0 0).toNat / 8 = 30
    · split
      · rw [if_neg]
        rw [Bool.and_eq_true, valid_iff]
        intro hh
        have := hh.2
        omega
      · rfl
    · rw [if_neg (by intro h; simp only [Bool.and_eq_true, beq_iff_eq, decide_eq_true_eq] at h; omega)]
theorem dec_short2 (l : List UInt8) (h : (l.getD 0 0).toNat / 32 = 6) (hc : ¬ ContAt l 1) : dec l = (65533, 1) := by
  unfold dec
  simp only []
  rw [if_neg (by omega), if_neg (by rw [Bool.and_eq_true, cont_bool]; exact fun h => hc h.2), if_neg (by intro h; simp only [Bool.and_eq_true, beq_iff_eq, decide_eq_true_eq] at h; omega), if_neg (by intro h; simp only [Bool.and_eq_true, beq_iff_eq, decide_eq_true_eq] at h; omega)]
theorem dec_ok2 (l : List UInt8) (h : (l.getD 0 0).toNat / 32 = 6) (hg : 194 ≤ (l.getD 0 0).toNat) (hc : ContAt l 1) : dec l = (((l.getD 0 0).toNat % 32) * 64 + (l.getD 1 0).toNat % 64, 2) := by
  unfold dec
  simp only []
  rw [if_neg (by omega), if_pos (by rw [Bool.and_eq_true, cont_bool]; exact ⟨by simpa using h, hc⟩), if_pos (by omega)]
theorem dec_short3 (l : List UInt8) (h : (l.getD 0 0).toNat / 16 = 14) (hc : ¬ (ContAt l 1 ∧ ContAt l 2)) : dec l = (65533, 1) := by
  unfold dec
  simp only []
  rw [if_neg (by omega), if_neg (by intro h; simp only [Bool.and_eq_true, beq_iff_eq, decide_eq_true_eq] at h; omega), if_neg (by rw [Bool.and_eq_true, Bool.and_eq_true, cont_bool, cont_bool]; exact fun h => hc ⟨h.1.2, h.2⟩), if_neg (by intro h; simp only [Bool.and_eq_true, beq_iff_eq, decide_eq_true_eq] at h; omega)]
theorem dec_mid3 (l : List UInt8) (h : (l.getD 0 0).toNat / 16 = 14) (h1 : ContAt l 1) (h2 : ContAt l 2) (c : Nat) (e : c = ((l.getD 0 0).toNat % 16) * 4096 + ((l.getD 1 0).toNat % 64) * 64 + (l.getD 2 0).toNat % 64) :
    dec l = if 2048 ≤ c ∧ Utf8.valid c = true then (c, 3) else (65533, 1) := by
  subst e
  unfold dec
  simp only []
  rw [if_neg (by omega), if_neg (by intro h; simp only [Bool.and_eq_true, beq_iff_eq, decide_eq_true_eq] at h; omega), if_pos (by rw [Bool.and_eq_true, Bool.and_eq_true, cont_bool, cont_bool]; exact ⟨⟨by simpa using h, h1⟩, h2⟩)]
  simp only [Bool.and_eq_true, decide_eq_true_eq, ge_iff_le]
theorem dec_short4 (l : List UInt8) (h : (l.getD 0 0).toNat / 8 = 30) (hc : ¬ (ContAt l 1 ∧ ContAt l 2 ∧ ContAt l 3)) : dec l = (65533, 1) := by
  unfold dec
  simp only []
  rw [if_neg (by omega), if_neg (by intro h; simp only [Bool.and_eq_true, beq_iff_eq, decide_eq_true_eq] at h; omega), if_neg (by intro h; simp only [Bool.and_eq_true, beq_iff_eq, decide_eq_true_eq] at h; omega), if_neg (by rw [Bool.and_eq_true, Bool.and_eq_true, Bool.and_eq_true, cont_bool, cont_bool, cont_bool]; exact fun h => hc ⟨h.1.1.2, h.1.2, h.2⟩)]
theorem dec_mid4 (l : List UInt8) (h : (l.getD 0 0).toNat / 8 = 30) (h1 : ContAt l 1) (h2 : ContAt l 2) (h3 : ContAt l 3) (c : Nat)
    (e : c = ((l.getD 0 0).toNat % 8) * 262144 + ((l.getD 1 0).toNat % 64) * 4096 + ((l.getD 2 0).toNat % 64) * 64 + (l.getD 3 0).toNat % 64) :
    dec l = if 65536 ≤ c ∧ Utf8.valid c = true then (c, 4) else (65533, 1) := by
  subst e
  unfold dec
  simp only []
  rw [if_neg (by omega), if_neg (by intro h; simp only [Bool.and_eq_true, beq_iff_eq, decide_eq_true_eq] at h; omega), if_neg (by intro h; simp only [Bool.and_eq_true, beq_iff_eq, decide_eq_true_eq] at h; omega), if_pos (by rw [Bool.and_eq_true, Bool.and_eq_true, Bool.and_eq_true, cont_bool, cont_bool, cont_bool]; exact ⟨⟨⟨by simpa using h, h1⟩, h2⟩, h3⟩)]
  simp only [Bool.and_eq_true, decide_eq_true_eq, ge_iff_le]

/-- What 'one' hands back. -/
def Told (l : List UInt8) (e : Ending) : Prop := e = .returned (.tuple #[.int .i64 ((dec l).1 : Int), .int .i64 ((dec l).2 : Int)])
theorem told_of {l : List UInt8} {a b : Int} {c n : Nat} (h : dec l = (c, n)) (ha : a = c) (hb : b = n) : Told l (.returned (.tuple #[.int .i64 a, .int .i64 b])) := by
  unfold Told; rw [h, ha, hb]
theorem get_byte {s : ByteArray} {k : Nat} (h : k < s.size) : s.data.toList.getD k 0 = s[k] := by
  rw [List.getD_eq_getElem?_getD, List.getElem?_eq_getElem (by rw [Array.length_toList]; exact h)]
  simp; rfl
theorem size_list (s : ByteArray) : s.data.toList.length = s.size := Array.length_toList

/-- The end of 'one' behind n bytes that carry on. -/
theorem told_end2 {l : List UInt8} {V : Int} (h0 : (l.getD 0 0).toNat / 32 = 6) (hg : 194 ≤ (l.getD 0 0).toNat) (hc : Conts l 1) (hV : V = vals l ((l.getD 0 0).toNat - 192) 1) : dec l = (V.toNat, 2) ∧ 128 ≤ V ∧ V ≤ 2047 := by
  have c1 := hc 1 (by omega) (by omega)
  rw [dec_ok2 l h0 hg c1]
  have := c1.2
  simp only [vals] at hV
  simp only [Nat.zero_add] at hV
  refine ⟨Prod.ext ?_ rfl, by omega, by omega⟩
  show _ = V.toNat
  simp only []
  omega
theorem told_end3 {l : List UInt8} {V : Int} (h0 : (l.getD 0 0).toNat / 16 = 14) (hc : Conts l 2) (hV : V = vals l ((l.getD 0 0).toNat - 224) 2) :
    0 ≤ V ∧ V ≤ 65535 ∧ (dec l = if 2048 ≤ V ∧ ¬ (55296 ≤ V ∧ V ≤ 57343) then (V.toNat, 3) else (65533, 1)) := by
  have c1 := hc 1 (by omega) (by omega)
  have c2 := hc 2 (by omega) (by omega)
  have e1 := c1.2
  have e2 := c2.2
  simp only [vals] at hV
  simp only [Nat.zero_add, Nat.reduceAdd] at hV
  have hV2 : V = (((l.getD 0 0).toNat % 16) * 4096 + ((l.getD 1 0).toNat % 64) * 64 + (l.getD 2 0).toNat % 64 : Nat) := by omega
  refine ⟨by omega, by omega, ?_⟩
  rw [dec_mid3 l h0 c1 c2 V.toNat (by omega)]
  have hv := valid_iff (V.toNat : Int)
  by_cases hh : 2048 ≤ V ∧ ¬ (55296 ≤ V ∧ V ≤ 57343)
  · rw [if_pos hh, if_pos ⟨by omega, hv.2 (by omega)⟩]
  · rw [if_neg hh, if_neg]
    rintro ⟨ha, hb⟩
    have := hv.1 hb
    omega
theorem told_end4 {l : List UInt8} {V : Int} (h0 : (l.getD 0 0).toNat / 8 = 30) (hc : Conts l 3) (hV : V = vals l ((l.getD 0 0).toNat - 240) 3) :
    0 ≤ V ∧ V ≤ 2097151 ∧ (dec l = if 65536 ≤ V ∧ V ≤ 1114111 then (V.toNat, 4) else (65533, 1)) := by
  have c1 := hc 1 (by omega) (by omega)
  have c2 := hc 2 (by omega) (by omega)
  have c3 := hc 3 (by omega) (by omega)
  have e1 := c1.2
  have e2 := c2.2
  have e3 := c3.2
  simp only [vals] at hV
  simp only [Nat.zero_add, Nat.reduceAdd] at hV
  have hV2 : V = (((l.getD 0 0).toNat % 8) * 262144 + ((l.getD 1 0).toNat % 64) * 4096 + ((l.getD 2 0).toNat % 64) * 64 + (l.getD 3 0).toNat % 64 : Nat) := by omega
  refine ⟨by omega, by omega, ?_⟩
  rw [dec_mid4 l h0 c1 c2 c3 V.toNat (by omega)]
  have hv := valid_iff (V.toNat : Int)
  by_cases hh : 65536 ≤ V ∧ V ≤ 1114111
  · rw [if_pos hh, if_pos ⟨by omega, hv.2 (by omega)⟩]
  · rw [if_neg hh, if_neg]
    rintro ⟨ha, hb⟩
    have := hv.1 hb
    omega
end Go.Proofs.Ythpecegifilgoaa
