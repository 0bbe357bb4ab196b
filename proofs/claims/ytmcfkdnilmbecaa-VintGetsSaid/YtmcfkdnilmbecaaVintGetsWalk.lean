/- The walk of VintGets: it returns true for every input, and nothing that was there turns. -/
import Derived.Test.YtmcfkdnilmbecaaRefGetAll04
import Derived.Test.YtmcfkdnilmbecaaLives04
namespace Go.Proofs.Ytmcfkdnilmbecaa
open Go Go.RowKit
set_option linter.unusedVariables false

set_option maxHeartbeats 1000000 in
set_option maxRecDepth 100000 in
theorem walk_VintGets (a0 : Option Addr) (len0 cap0 : Nat) (z0 : List Int) (a1 : Int) (w : World) (w0 : InRow .u8 w a0 len0 cap0 z0) (w1 : (Lit.int .i64 a1).wf = true) :
    Calls Try.prog 4 #[.slice a0 len0 cap0, .int .i64 a1] w fun e w' => e = .returned (.bool true) ∧ Below w.heap.size w w' := by
  have HW0 := Lib.hid w0
  clear w0
  go_enter Try.func4, Try.ntmps4
  go_wp2_with (go_at_call 9; refine (law04_few a0 len0 cap0 z0 _ HW0.out).mono ?_)
  rintro e w2 ⟨A, m, c, bs, rfl, hm, hmc, hm60, hcx, hr, rfl⟩
  have HR := Lib.hid hr
  have HM := Lib.hid hm
  have g1 := vint_Get A m c a1 bs w hr hm hmc hcx (by omega)
  have g2 := fun w2 hr2 => ref_Get A m c a1 bs w2 hr2 hm hmc hcx (by omega)
  obtain ⟨z, hz⟩ : ∃ z, z = getZ bs a1 := ⟨_, rfl⟩
  rw [← hz] at g1 g2
  have G1 := Lib.hid g1
  have G2 := Lib.hid g2
  clear hr hm g1 g2 hz
  go_wp2_with (go_at_call 13; refine G1.out.mono ?_)
  rintro e w3 ⟨rfl, hb3⟩
  go_wp2_with (go_at_call 15; refine (G2.out _ ((HR.out.below hb3).more hb3.size)).mono ?_)
  rintro e w4 ⟨rfl, hb4⟩
  have HB := Lib.hid (hb3.trans (hb4.mono hb3.size))
  clear hb3 hb4
  go_wp2_with (go_at_call 14; refine (law04_lives _).mono ?_)
  rintro e w9 ⟨rfl, hb9⟩
  go_wp2
  go_ret
  exact ⟨rfl, HB.out.trans (hb9.mono HB.out.size)⟩
end Go.Proofs.Ytmcfkdnilmbecaa
