/- The statements' own 'lives' of layer 6, out of what package cursor's calls give. -/
import Derived.Test.YtnmnbckaccicaaaCur06
import Derived.Test.YtnmnbckaccicaaaP05
set_option linter.unusedVariables false
namespace Go.Proofs.Ytnmnbckaccicaaa
open Go Go.RowKit

def three : List Po := [(1, [0]), (5, [0]), (9, [0])]
theorem three_may : mayB' (-1) three = true := by decide
theorem three_bytes : (bytesP (-1) three).length ≤ 1000000 := by
  have h := bytesP_length three (-1) (by omega) three_may (fun p hp => by simp [three] at hp; rcases hp with rfl | rfl | rfl <;> simp)
  have h2 : totalP three = 3 := rfl
  have h3 : three.length = 3 := rfl
  omega
theorem three_adv4 : advC three 4 (-1) = 1 := by
  rw [advC_step (by decide), show (-1 : Int) + 1 = 0 by rfl, advC_step (by decide), show (0 : Int) + 1 = 1 by rfl, advC_stay (by decide)]
theorem three_adv2 : advC three 2 1 = 1 := advC_stay (by decide)

theorem three_d1 : docC three 1 = 5 := rfl
theorem three_d2 : docC three 2 = 9 := rfl
theorem three_d3 : docC three 3 = 2147483648 := rfl
theorem three_n1 : nextC three 1 = 2 := rfl
theorem three_n2 : nextC three 2 = 3 := rfl
theorem row_news (w : World) (l : List Value) (t : TypeId) : Row (w.alloc (.cells l.toArray t)) (w.heap.size + 1) (some ⟨w.heap.size, 0, none⟩) l :=
  .inr ⟨_, _, rfl, by simp, fun j u hu => by have := news_at w l t j u hu; rwa [Addr.add_lit] at this⟩
theorem cells_three {R : Option Addr → List Value → Prop} {A1 A2 A3 : Option Addr} (h1 : R A1 (ints [0])) (h2 : R A2 (ints [0])) (h3 : R A3 (ints [0])) :
    PoCells R three [.int .i64 1, .slice A1 1 1, .int .i64 5, .slice A2 1 1, .int .i64 9, .slice A3 1 1] :=
  ⟨_, _, _, rfl, by simp, by unfold maxLen; omega, h1, _, _, _, rfl, by simp, by unfold maxLen; omega, h2, _, _, _, rfl, by simp, by unfold maxLen; omega, h3, rfl⟩
theorem posts_three (w : World) (t t' : TypeId) :
    Posts ((((w.alloc (.cells (ints [0]).toArray t)).alloc (.cells (ints [0]).toArray t)).alloc (.cells (ints [0]).toArray t)).alloc
      (.cells [.int .i64 1, .slice (some ⟨w.heap.size, 0, none⟩) 1 1, .int .i64 5, .slice (some ⟨w.heap.size + 1, 0, none⟩) 1 1, .int .i64 9, .slice (some ⟨w.heap.size + 1 + 1, 0, none⟩) 1 1].toArray t'))
      (w.heap.size + 1 + 1 + 1 + 1) (some ⟨w.heap.size + 1 + 1 + 1, 0, none⟩) three := by
  obtain ⟨w1, h1⟩ : ∃ w1, w1 = w.alloc (.cells (ints [0]).toArray t) := ⟨_, rfl⟩
  obtain ⟨w2, h2⟩ : ∃ w2, w2 = w1.alloc (.cells (ints [0]).toArray t) := ⟨_, rfl⟩
  obtain ⟨w3, h3⟩ : ∃ w3, w3 = w2.alloc (.cells (ints [0]).toArray t) := ⟨_, rfl⟩
  have s1 : w1.heap.size = w.heap.size + 1 := by rw [h1]; simp
  have s2 : w2.heap.size = w.heap.size + 1 + 1 := by rw [h2]; simp [s1]
  have s3 : w3.heap.size = w.heap.size + 1 + 1 + 1 := by rw [h3]; simp [s2]
  have r1 := row_news w (ints [0]) t
  have r2 := row_news w1 (ints [0]) t
  have r3 := row_news w2 (ints [0]) t
  rw [← h1, ← s1] at r1
  rw [← h2, s1, ← s2] at r2
  rw [← h3, s2, ← s3] at r3
  rw [← h1, ← h2, ← h3]
  obtain ⟨cs, hcs⟩ : ∃ cs : List Value, cs = [.int .i64 1, .slice (some ⟨w.heap.size, 0, none⟩) 1 1, .int .i64 5, .slice (some ⟨w.heap.size + 1, 0, none⟩) 1 1, .int .i64 9, .slice (some ⟨w.heap.size + 1 + 1, 0, none⟩) 1 1] := ⟨_, rfl⟩
  rw [← hcs]
  have r4 := row_news w3 cs t'
  rw [s3] at r4
  have b1 : Below w1.heap.size w1 w2 := by rw [h2]; exact (Below.refl _ _).alloc (Nat.le_refl _) _
  have b2 : Below w2.heap.size w2 w3 := by rw [h3]; exact (Below.refl _ _).alloc (Nat.le_refl _) _
  have b3 : Below w3.heap.size w3 (w3.alloc (.cells cs.toArray t')) := (Below.refl _ _).alloc (Nat.le_refl _) _
  have q3 := (r3.below b3).more (B' := w.heap.size + 1 + 1 + 1 + 1) (by omega)
  have q2 := (r2.below (b2.trans (b3.mono (by omega)))).more (B' := w.heap.size + 1 + 1 + 1 + 1) (by omega)
  have q1 := (r1.below (b1.trans ((b2.mono (by omega)).trans (b3.mono (by omega))))).more (B' := w.heap.size + 1 + 1 + 1 + 1) (by omega)
  refine ⟨cs, ?_, r4⟩
  have h := cells_three q1 q2 q3
  rw [← hcs] at h
  exact h

set_option maxHeartbeats 4000000 in
set_option maxRecDepth 100000 in
theorem law06_lives (CK : CursorOk) (w : World) :
    Calls Try.prog 18 #[] w fun e w' => e = .returned (.bool true) ∧ Below w.heap.size w w' := by
  have mk := fun A c w1 hc hcx hp => posting_Make A 3 c three w1 rfl hc hcx (by omega) hp (by intro q hq; simp [three] at hq; rcases hq with rfl | rfl | rfl <;> simp) three_may
  have MK := Lib.hid mk
  have cn := fun base B w1 h => CK.new base B three w1 h three_may (by simp [three]) three_bytes
  have CN := Lib.hid cn
  clear mk cn CK
  go_enter Try.func18, Try.ntmps18
  go_wp2_with (go_at_call 9; refine (MK.out _ _ _ (by omega) (by unfold maxLen; omega) ?_).mono ?_)
  · have h := posts_three w 3 46
    have e4 : ((((w.alloc (.cells (ints [0]).toArray 3)).alloc (.cells (ints [0]).toArray 3)).alloc (.cells (ints [0]).toArray 3)).alloc
      (.cells [.int .i64 1, .slice (some ⟨w.heap.size, 0, none⟩) 1 1, .int .i64 5, .slice (some ⟨w.heap.size + 1, 0, none⟩) 1 1, .int .i64 9, .slice (some ⟨w.heap.size + 1 + 1, 0, none⟩) 1 1].toArray 46)).heap.size = w.heap.size + 1 + 1 + 1 + 1 := by simp
    rw [← e4] at h
    exact h
  rintro e w2 ⟨B, rfl, hl, hb2⟩
  have hb0 := ((((Below.refl _ w).alloc (Nat.le_refl _) (.cells (ints [0]).toArray 3)).alloc (by simp) (.cells (ints [0]).toArray 3)).alloc (by simp; omega) (.cells (ints [0]).toArray 3)).alloc (by simp; omega)
      (.cells [.int .i64 1, .slice (some ⟨w.heap.size, 0, none⟩) 1 1, .int .i64 5, .slice (some ⟨w.heap.size + 1, 0, none⟩) 1 1, .int .i64 9, .slice (some ⟨w.heap.size + 1 + 1, 0, none⟩) 1 1].toArray 46)
  have HB2 := Lib.hid (hb0.trans (hb2.mono (by simp; omega)))
  have HL := Lib.hid hl
  clear hb0 hb2 hl
  go_wp2_with (go_at_call 10; refine (CN.out _ _ _ HL.out).mono ?_)
  rintro e w3 ⟨C, At, rfl, CO, hat, hC, hb3⟩
  have HB3 := Lib.hid (HB2.out.trans (hb3.mono HB2.out.size))
  have hC' : w.heap.size ≤ C := Nat.le_trans HB2.out.size hC
  have a4 := fun w' h => CO.advance (-1) w' 4 h (by omega) (by simp [three]) (by omega) (by omega)
  have a2 := fun w' h => CO.advance 1 w' 2 h (by omega) (by simp [three]) (by omega) (by omega)
  have n1 := fun w' h => CO.next 1 w' h (by omega) (by simp [three])
  have n2 := fun w' h => CO.next 2 w' h (by omega) (by simp [three])
  rw [three_adv4, three_d1] at a4
  rw [three_adv2, three_d1] at a2
  rw [three_n1, three_d2] at n1
  rw [three_n2, three_d3] at n2
  have A4 := Lib.hid a4
  have A2 := Lib.hid a2
  have N1 := Lib.hid n1
  have N2 := Lib.hid n2
  have HAT := Lib.hid hat
  clear a4 a2 n1 n2 CO hat hb3 HL MK CN
  go_wp2_with (go_at_call 15; (with_reducible refine (A4.out _ HAT.out).mono ?_))
  rintro e w4 ⟨rfl, hat4, ho4⟩
  have HAT4 := Lib.hid hat4
  have HO4 := Lib.hid ho4
  clear hat4 ho4
  go_wp2_with (go_at_call 15; (with_reducible refine (A2.out _ HAT4.out).mono ?_))
  rintro e w5 ⟨rfl, hat5, ho5⟩
  have HAT5 := Lib.hid hat5
  have HO5 := Lib.hid (HO4.out.trans ho5)
  clear hat5 ho5
  go_wp2_with (go_at_call 13; (with_reducible refine (N1.out _ HAT5.out).mono ?_))
  rintro e w6 ⟨rfl, hat6, ho6⟩
  have HAT6 := Lib.hid hat6
  have HO6 := Lib.hid (HO5.out.trans ho6)
  clear hat6 ho6
  go_wp2_with (go_at_call 13; (with_reducible refine (N2.out _ HAT6.out).mono ?_))
  rintro e w7 ⟨rfl, hat7, ho7⟩
  have HO7 := Lib.hid (HO6.out.trans ho7)
  clear hat7 ho7
  go_wp2
  go_ret
  exact ⟨rfl, HB3.out.trans (HO7.out.below (fun k hk => by omega) HB3.out.size)⟩
end Go.Proofs.Ytnmnbckaccicaaa
