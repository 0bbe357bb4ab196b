/- How many bits a number of 64 bits has: byte by byte. No program. -/
import Derived.Test.YtkflmhpmnceniaaDoorPlain03
set_option linter.unusedVariables false
namespace Go.Proofs.YtkflmhpmnceniaaDoor.Plain

def popAux : Nat → Nat → Nat
  | 0, _ => 0
  | f + 1, x => x % 2 + popAux f (x / 2)
/-- How many bits are in. -/
def pop (x : Nat) : Nat := (bitsOf x).length
theorem pop_aux : ∀ (n x : Nat), ((List.range n).filter fun j => x.testBit j).length = popAux n x
  | 0, x => rfl
  | n + 1, x => by
    rw [List.range_succ_eq_map, List.filter_cons, List.filter_map]
    have ih := pop_aux n (x / 2)
    have e : (fun j => x.testBit j) ∘ Nat.succ = fun j => (x / 2).testBit j := by funext j; simp [Nat.testBit_succ]
    rw [e]
    unfold popAux
    rw [← ih]
    rcases Nat.mod_two_eq_zero_or_one x with h | h
    · rw [if_neg (by simp [h]), List.length_map, h, Nat.zero_add]
    · rw [if_pos (by simp [h]), List.length_cons, List.length_map, h, Nat.add_comm]
theorem pop_eq (x : Nat) : pop x = popAux 64 x := pop_aux 64 x
theorem pop_le (x : Nat) : pop x ≤ 64 := by
  unfold pop bitsOf
  exact Nat.le_trans (List.length_filter_le _ _) (by simp)

def val : List Nat → Nat
  | [] => 0
  | b :: bs => 256 * val bs + b
def mB (c : Nat) : Nat → Nat
  | 0 => 0
  | n + 1 => 256 * mB c n + c
def h1 (b : Nat) : Nat := (b / 2 &&& 85) + (b &&& 85)
def h2 (b : Nat) : Nat := (b / 4 &&& 51) + (b &&& 51)
def h3 (b : Nat) : Nat := (b / 16 + b) &&& 15

theorem and_split (y b m c : Nat) (hb : b < 256) (hc : c < 256) : (256 * y + b) &&& (256 * m + c) = 256 * (y &&& m) + (b &&& c) := by
  have e : (256 : Nat) = 2 ^ 8 := rfl
  rw [e] at hb hc ⊢
  apply Nat.eq_of_testBit_eq
  intro i
  have hbc : b &&& c < 2 ^ 8 := Nat.and_lt_two_pow b hc
  rw [Nat.testBit_and, Nat.testBit_two_pow_mul_add y hb, Nat.testBit_two_pow_mul_add m hc, Nat.testBit_two_pow_mul_add _ hbc]
  split
  · rw [Nat.testBit_and]
  · rw [Nat.testBit_and]

theorem low1 : ∀ e, e < 2 → ∀ b, b < 256 → (128 * e + b / 2) &&& 85 = b / 2 &&& 85 := by decide +kernel
theorem low2 : ∀ e, e < 4 → ∀ b, b < 256 → (64 * e + b / 4) &&& 51 = b / 4 &&& 51 := by decide +kernel
theorem low3 : ∀ e, e < 5 → ∀ b, b < 69 → (16 * e + b / 16 + b) &&& 15 = (b / 16 + b) &&& 15 := by decide +kernel
theorem byte12 : ∀ b, b < 256 → h1 b < 256 ∧ h2 (h1 b) < 69 ∧ h2 (h1 b) % 16 < 5 ∧ h3 (h2 (h1 b)) = popAux 8 b ∧ popAux 8 b ≤ 8 := by decide +kernel

theorem step1 : ∀ bs : List Nat, (∀ b ∈ bs, b < 256) → (val bs / 2 &&& mB 85 bs.length) + (val bs &&& mB 85 bs.length) = val (bs.map h1)
  | [], _ => rfl
  | b :: bs, h => by
    have hb := h b (by simp)
    have ih := step1 bs fun c hc => h c (by simp [hc])
    simp only [val, mB, List.length_cons, List.map_cons]
    have e : (256 * val bs + b) / 2 = 256 * (val bs / 2) + (128 * (val bs % 2) + b / 2) := by omega
    rw [e, and_split _ _ _ _ (by omega) (by omega), and_split _ _ _ _ hb (by omega), low1 _ (Nat.mod_lt _ (by decide)) b hb, ← ih]
    unfold h1
    omega
theorem step2 : ∀ bs : List Nat, (∀ b ∈ bs, b < 256) → (val bs / 4 &&& mB 51 bs.length) + (val bs &&& mB 51 bs.length) = val (bs.map h2)
  | [], _ => rfl
  | b :: bs, h => by
    have hb := h b (by simp)
    have ih := step2 bs fun c hc => h c (by simp [hc])
    simp only [val, mB, List.length_cons, List.map_cons]
    have e : (256 * val bs + b) / 4 = 256 * (val bs / 4) + (64 * (val bs % 4) + b / 4) := by omega
    rw [e, and_split _ _ _ _ (by omega) (by omega), and_split _ _ _ _ hb (by omega), low2 _ (Nat.mod_lt _ (by decide)) b hb, ← ih]
    unfold h2
    omega
theorem step3 : ∀ bs : List Nat, (∀ b ∈ bs, b < 69 ∧ b % 16 < 5) → (val bs / 16 + val bs) &&& mB 15 bs.length = val (bs.map h3)
  | [], _ => rfl
  | b :: bs, h => by
    have hb := h b (by simp)
    have ih := step3 bs fun c hc => h c (by simp [hc])
    have hm : val bs % 16 < 5 := by
      cases bs with
      | nil => simp [val]
      | cons c cs =>
        have := (h c (by simp)).2
        simp only [val]
        omega
    simp only [val, mB, List.length_cons, List.map_cons]
    have e : (256 * val bs + b) / 16 + (256 * val bs + b) = 256 * (val bs / 16 + val bs) + (16 * (val bs % 16) + b / 16 + b) := by omega
    rw [e, and_split _ _ _ _ (by omega) (by omega), low3 _ hm b hb.1, ← ih]
    rfl

def bytesOf (x : Nat) : List Nat := [x % 256, x / 256 % 256, x / 65536 % 256, x / 16777216 % 256, x / 4294967296 % 256, x / 1099511627776 % 256, x / 281474976710656 % 256, x / 72057594037927936 % 256]
theorem val_bytesOf (x : Nat) (hx : x < 18446744073709551616) : val (bytesOf x) = x := by
  simp only [bytesOf, val]
  omega
theorem pop8 (y b m : Nat) (hb : b < 256) : popAux (m + 8) (256 * y + b) = popAux 8 b + popAux m y := by
  have e : (256 * y + b) / 2 / 2 / 2 / 2 / 2 / 2 / 2 / 2 = y := by omega
  simp only [popAux, e]
  omega
theorem pop_val (a b c d e f g h : Nat) (ha : a < 256) (hb : b < 256) (hc : c < 256) (hd : d < 256) (he : e < 256) (hf : f < 256) (hg : g < 256) (hh : h < 256) :
    pop (val [a, b, c, d, e, f, g, h]) = popAux 8 a + (popAux 8 b + (popAux 8 c + (popAux 8 d + (popAux 8 e + (popAux 8 f + (popAux 8 g + popAux 8 h)))))) := by
  rw [pop_eq]
  simp only [val]
  rw [pop8 _ _ 56 ha, pop8 _ _ 48 hb, pop8 _ _ 40 hc, pop8 _ _ 32 hd, pop8 _ _ 24 he, pop8 _ _ 16 hf, pop8 _ _ 8 hg, pop8 _ _ 0 hh]
  simp [popAux]
theorem sum_last (a b c d e f g h : Nat) (ha : a ≤ 8) (hb : b ≤ 8) (hc : c ≤ 8) (hd : d ≤ 8) (he : e ≤ 8) (hf : f ≤ 8) (hg : g ≤ 8) (hh : h ≤ 8) (x y z : Nat)
    (hx : x = val [a, b, c, d, e, f, g, h] + val [a, b, c, d, e, f, g, h] / 256) (hy : y = x + x / 65536) (hz : z = y + y / 4294967296) :
    x < 18446744073709551616 ∧ y < 18446744073709551616 ∧ z < 9223372036854775808 ∧ z % 128 = a + (b + (c + (d + (e + (f + (g + h)))))) := by
  simp only [val] at hx
  have e1 : x = 256 * (256 * (256 * (256 * (256 * (256 * (256 * h + (g + h)) + (f + g)) + (e + f)) + (d + e)) + (c + d)) + (b + c)) + (a + b) := by omega
  have e2 : y = 256 * (256 * (256 * (256 * (256 * (256 * (256 * h + (g + h)) + (f + g + h)) + (e + f + g + h)) + (d + e + f + g)) + (c + d + e + f)) + (b + c + d + e)) + (a + b + c + d) := by
    clear hx hz
    omega
  obtain ⟨U, hU⟩ : ∃ U, U = 256 * (256 * (256 * h + (g + h)) + (f + g + h)) + (e + f + g + h) := ⟨_, rfl⟩
  obtain ⟨L, hL⟩ : ∃ L, L = 256 * (256 * (256 * (d + e + f + g) + (c + d + e + f)) + (b + c + d + e)) + (a + b + c + d) := ⟨_, rfl⟩
  have e3 : y = 4294967296 * U + L := by
    clear hx hy e1 hz
    omega
  have e4 : y / 4294967296 = U := by
    clear hx hy e1 hz e2
    omega
  have e5 : U < 4294967296 := by
    clear hx hy e1 hz e2 e3 e4
    omega
  have e6 : L < 4294967296 := by
    clear hx hy e1 hz e2 e3 e4 hU
    omega
  rw [e4] at hz
  have e7 : z % 128 = (L + U) % 128 := by
    clear hx hy e1 e2 hU hL
    omega
  have e8 : U ≤ 200000000 := by
    clear hx hy e1 hz e2 e3 e4 hL e7
    omega
  refine ⟨?_, ?_, ?_, ?_⟩
  · clear hx hy hz e2 e3 e4 hU hL e7
    omega
  · clear hx hy hz e2 e1 e4 hU hL e7
    omega
  · clear hx hy e2 e1 e4 hU hL e7
    omega
  · rw [e7]
    clear hx hy e2 e1 e4 e3 hz e7
    omega

/-- What 'OnesCount64' does, step by step. -/
theorem pop_hack (x : Nat) (hx : x < 18446744073709551616) :
    ∃ x1 x2 x3 x4 x5 x6 : Nat,
      x1 = (x / 2 &&& 6148914691236517205) + (x &&& 6148914691236517205) ∧ x1 < 18446744073709551616 ∧
      x2 = (x1 / 4 &&& 3689348814741910323) + (x1 &&& 3689348814741910323) ∧ x2 < 18446744073709551616 ∧
      x2 / 16 + x2 < 18446744073709551616 ∧ x3 = (x2 / 16 + x2) &&& 1085102592571150095 ∧ x3 < 18446744073709551616 ∧
      x4 = x3 + x3 / 256 ∧ x4 < 18446744073709551616 ∧ x5 = x4 + x4 / 65536 ∧ x5 < 18446744073709551616 ∧ x6 = x5 + x5 / 4294967296 ∧ x6 < 9223372036854775808 ∧ x6 % 128 = pop x := by
  have hall : ∀ b ∈ bytesOf x, b < 256 := by
    intro b hb
    simp only [bytesOf, List.mem_cons, List.not_mem_nil, or_false] at hb
    omega
  have s1 := step1 (bytesOf x) hall
  rw [val_bytesOf x hx] at s1
  have m1 : mB 85 (bytesOf x).length = 6148914691236517205 := by simp [mB, bytesOf]
  rw [m1] at s1
  have s2 := step2 ((bytesOf x).map h1) (by
    intro b hb
    obtain ⟨c, hc, rfl⟩ := List.mem_map.1 hb
    exact (byte12 c (hall c hc)).1)
  have m2 : mB 51 ((bytesOf x).map h1).length = 3689348814741910323 := by simp [mB, bytesOf]
  rw [m2] at s2
  have s3 := step3 (((bytesOf x).map h1).map h2) (by
    intro b hb
    obtain ⟨c, hc, rfl⟩ := List.mem_map.1 hb
    obtain ⟨d, hd, rfl⟩ := List.mem_map.1 hc
    exact ⟨(byte12 d (hall d hd)).2.1, (byte12 d (hall d hd)).2.2.1⟩)
  have m3 : mB 15 (((bytesOf x).map h1).map h2).length = 1085102592571150095 := by simp [mB, bytesOf]
  rw [m3] at s3
  have hpop : pop x = pop (val (bytesOf x)) := by rw [val_bytesOf x hx]
  simp only [bytesOf, List.map_cons, List.map_nil] at s1 s2 s3 hpop
  have ha : x % 256 < 256 := Nat.mod_lt _ (by decide)
  have hb : x / 256 % 256 < 256 := Nat.mod_lt _ (by decide)
  have hc : x / 65536 % 256 < 256 := Nat.mod_lt _ (by decide)
  have hd : x / 16777216 % 256 < 256 := Nat.mod_lt _ (by decide)
  have he : x / 4294967296 % 256 < 256 := Nat.mod_lt _ (by decide)
  have hf : x / 1099511627776 % 256 < 256 := Nat.mod_lt _ (by decide)
  have hg : x / 281474976710656 % 256 < 256 := Nat.mod_lt _ (by decide)
  have hh : x / 72057594037927936 % 256 < 256 := Nat.mod_lt _ (by decide)
  clear m1 m2 m3 hall
  generalize x % 256 = a at *
  generalize x / 256 % 256 = b at *
  generalize x / 65536 % 256 = c at *
  generalize x / 16777216 % 256 = d at *
  generalize x / 4294967296 % 256 = e at *
  generalize x / 1099511627776 % 256 = f at *
  generalize x / 281474976710656 % 256 = g at *
  generalize x / 72057594037927936 % 256 = h at *
  obtain ⟨a1, a2, a3, a4, a5⟩ := byte12 a ha
  obtain ⟨b1, b2, b3, b4, b5⟩ := byte12 b hb
  obtain ⟨c1, c2, c3, c4, c5⟩ := byte12 c hc
  obtain ⟨d1, d2, d3, d4, d5⟩ := byte12 d hd
  obtain ⟨e1, e2, e3, e4, e5⟩ := byte12 e he
  obtain ⟨f1, f2, f3, f4, f5⟩ := byte12 f hf
  obtain ⟨g1, g2, g3, g4, g5⟩ := byte12 g hg
  obtain ⟨i1, i2, i3, i4, i5⟩ := byte12 h hh
  rw [a4, b4, c4, d4, e4, f4, g4, i4] at s3
  rw [pop_val _ _ _ _ _ _ _ _ ha hb hc hd he hf hg hh] at hpop
  obtain ⟨l1, l2, l3, l4⟩ := sum_last (popAux 8 a) (popAux 8 b) (popAux 8 c) (popAux 8 d) (popAux 8 e) (popAux 8 f) (popAux 8 g) (popAux 8 h) a5 b5 c5 d5 e5 f5 g5 i5 _ _ _ rfl rfl rfl
  rw [← hpop] at l4
  have v1 : val [h1 a, h1 b, h1 c, h1 d, h1 e, h1 f, h1 g, h1 h] < 18446744073709551616 := by
    simp only [val]
    omega
  have v2 : val [h2 (h1 a), h2 (h1 b), h2 (h1 c), h2 (h1 d), h2 (h1 e), h2 (h1 f), h2 (h1 g), h2 (h1 h)] < 5000000000000000000 := by
    simp only [val]
    omega
  have v3 : val [popAux 8 a, popAux 8 b, popAux 8 c, popAux 8 d, popAux 8 e, popAux 8 f, popAux 8 g, popAux 8 h] < 18446744073709551616 := by
    simp only [val]
    omega
  rw [← s3, ] at l1 l2 l3 l4
  refine ⟨_, _, _, _, _, _, rfl, ?_, rfl, ?_, ?_, rfl, ?_, rfl, ?_, rfl, ?_, rfl, ?_, ?_⟩
  · rw [s1]; exact v1
  · rw [s1, s2]; omega
  · rw [s1, s2]; omega
  · rw [s1, s2, s3]; exact v3
  · rw [s1, s2]; exact l1
  · rw [s1, s2]; exact l2
  · rw [s1, s2]; exact l3
  · rw [s1, s2]; exact l4
end Go.Proofs.YtkflmhpmnceniaaDoor.Plain
