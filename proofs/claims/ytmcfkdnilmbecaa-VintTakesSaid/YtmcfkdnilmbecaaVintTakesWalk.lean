/- The walk of VintTakes: it returns true for every input, and nothing that was there turns. -/
import Derived.Test.YtmcfkdnilmbecaaRefGetR04
import Derived.Test.YtmcfkdnilmbecaaSame04
import Derived.Test.YtmcfkdnilmbecaaLives04
namespace Go.Proofs.Ytmcfkdnilmbecaa
open Go Go.RowKit
set_option linter.unusedVariables false

theorem takeR_length : ∀ (many : Nat) (l : List UInt8) (x : Int) (a : Nat) (acc xs : List Int) (b : Nat), takeR l many x a acc = some (xs, b) → a ≤ l.length → xs.length + a ≤ acc.length + b ∧ b ≤ l.length
  | 0, l, x, a, acc, xs, b, h, ha => by
    simp only [takeR, Option.some.injEq, Prod.mk.injEq] at h
    obtain ⟨rfl, rfl⟩ := h
    exact ⟨Nat.le_refl _, ha⟩
  | m + 1, l, x, a, acc, xs, b, h, ha => by
    have hbd := getF_bd (l.drop a)
    rw [List.length_drop] at hbd
    rw [takeR] at h
    split at h
    · cases h
    · have := takeR_length m l _ _ _ xs b h (by omega)
      simp only [List.length_append, List.length_singleton] at this
      omega
theorem risZ_length (l : List UInt8) (a : Int) : (risZ l a).1.length ≤ l.length := by
  rcases getZ_split l a with ⟨e, hz, he⟩ | ⟨many, b, hz, hb, _⟩
  · rw [risZ_err hz (by omega)]; simp
  · rw [risZ_ok hz]
    rcases h : takeR l many (-1) b [] with _ | ⟨xs, q⟩
    · simp [outR]
    · have := takeR_length many l _ _ _ xs q h hb
      simp only [outR, List.length_nil] at this ⊢
      omega

set_option maxHeartbeats 1000000 in
set_option maxRecDepth 100000 in
theorem walk_VintTakes (a0 : Option Addr) (len0 cap0 : Nat) (z0 : List Int) (a1 : Int) (w : World) (w0 : InRow .u8 w a0 len0 cap0 z0) (w1 : (Lit.int .i64 a1).wf = true) :
    Calls Try.prog 6 #[.slice a0 len0 cap0, .int .i64 a1] w fun e w' => e = .returned (.bool true) ∧ Below w.heap.size w w' := by
  have HW0 := Lib.hid w0
  clear w0
  go_enter Try.func6, Try.ntmps6
  go_wp2_with (go_at_call 9; refine (law04_few a0 len0 cap0 z0 _ HW0.out).mono ?_)
  rintro e w2 ⟨A, m, c, bs, rfl, hm, hmc, hm60, hcx, hr, rfl⟩
  have HR := Lib.hid hr
  have hlen := risZ_length bs a1
  have g1 := vint_GetRising A m c a1 bs w hr hm hmc hcx (by omega)
  have g2 := fun w2 hr2 => ref_GetRising A m c a1 bs w2 hr2 hm hmc hcx (by omega)
  obtain ⟨z, hz⟩ : ∃ z, z = risZ bs a1 := ⟨_, rfl⟩
  rw [← hz] at g1 g2 hlen
  rw [hm] at hlen
  obtain ⟨xs, p, er⟩ := z
  have G1 := Lib.hid g1
  have G2 := Lib.hid g2
  simp only at hlen
  clear hr hm g1 g2 hz
  go_wp2_with (go_at_call 20; refine G1.out.mono ?_)
  rintro e w3 ⟨v3, rfl, hown3, hb3⟩
  obtain ⟨A3, c3, rfl, _, hr3⟩ := owned_row hown3
  have hs3 := hb3.size
  go_wp2_with (go_at_call 22; refine (G2.out _ ((HR.out.below hb3).more hb3.size)).mono ?_)
  rintro e w4 ⟨v4, rfl, hown4, hb4⟩
  obtain ⟨A4, c4, rfl, _, hr4⟩ := owned_row hown4
  have HB := Lib.hid (hb3.trans (hb4.mono hb3.size))
  have HR3 := Lib.hid ((hr3.below hb4).more hb4.size)
  have HR4 := Lib.hid hr4
  clear hb3 hb4 hown3 hown4 hr3 hr4
  go_wp2_with (go_at_call 21; refine (ref_Same_at A3 A4 _ _ c3 c4 xs _ rfl rfl HR3.out HR4.out (by omega)).mono ?_)
  rintro e w5 ⟨rfl, hb5⟩
  have HB5 := Lib.hid (HB.out.trans (hb5.mono HB.out.size))
  clear hb5
  go_wp2_with (go_at_call 14; refine (law04_lives _).mono ?_)
  rintro e w9 ⟨rfl, hb9⟩
  go_wp2
  go_ret
  exact ⟨rfl, HB5.out.trans (hb9.mono HB5.out.size)⟩
end Go.Proofs.Ytmcfkdnilmbecaa
