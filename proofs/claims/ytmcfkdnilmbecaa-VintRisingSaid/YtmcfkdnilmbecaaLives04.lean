/- The document's examples of layer 4 hold: what the statements' own 'lives' answers. -/
import Derived.Test.YtmcfkdnilmbecaaPutR04
namespace Go.Proofs.Ytmcfkdnilmbecaa
open Go Go.RowKit
set_option linter.unusedVariables false

theorem row_new (w : World) (l : List Value) (t : TypeId) : Row (w.alloc (.cells l.toArray t)) (w.alloc (.cells l.toArray t)).heap.size (some ⟨w.heap.size, 0, none⟩) l :=
  .inr ⟨_, _, rfl, by simp, fun j u hu => by have := news_at w l t j u hu; rwa [Addr.add_lit] at this⟩
theorem putB_300 : putB 300 = [172, 2] := by rw [putB_big (by omega), putB_small (by omega)]; rfl
theorem putR_349 : putR [3, 4, 9] = [3, 3, 0, 4] := by
  simp only [putR, dB, List.length_cons, List.length_nil]
  rw [putB_small (by decide), putB_small (by decide), putB_small (by decide), putB_small (by decide)]
  rfl

set_option maxHeartbeats 1000000 in
set_option maxRecDepth 100000 in
theorem law04_lives (w : World) :
    Calls Try.prog 14 #[] w fun e w' => e = .returned (.bool true) ∧ Below w.heap.size w w' := by
  have c1 := fun w1 => vint_Put none 0 0 [] 300 w1 rfl (Nat.le_refl _) Row.nil (by omega) (by simp)
  rw [List.nil_append, putB_300] at c1
  have C1 := Lib.hid c1
  clear c1
  go_enter Try.func14, Try.ntmps14
  go_wp2_with (go_at_call 10; refine (C1.out _).mono ?_)
  rintro e w1 ⟨v, rfl, hown, hb⟩
  obtain ⟨A, c, rfl, hc, hrow⟩ := hown.row
  obtain ⟨b, off, rfl, hblt, hcell⟩ := hrow.at_ (by simp [Lib.byteCells])
  have h0 : w1.cell? ⟨b, off, none⟩ = some (.int .u8 172) := hcell 0 _ rfl
  have h1 : w1.cell? ⟨b, off + 1, none⟩ = some (.int .u8 2) := hcell 1 _ rfl
  have HC := Lib.hid hcell
  have HB := Lib.hid hb
  clear hcell hrow hown hb
  go_wp2_with (go_at_call 17; refine (vint_PutRising_ok none 0 0 [] _ 3 3 [3, 4, 9] _ rfl (Nat.le_refl _) Row.nil (by omega) rfl (by omega) ?_ (by decide) (by decide)).mono ?_)
  · exact row_new _ (ints [3, 4, 9]) _
  rintro e w2 ⟨v2, rfl, hown2, hb2⟩
  rw [putR_349] at hown2
  obtain ⟨A2, c2, rfl, _, hrow2⟩ := hown2.row
  have hcv := run_string_of (P := Try.prog) hrow2 22 9 5 4 c2 rfl Try.underlying22 Try.underlying5 Try.underlying9
  have hb3 := ((Below.refl _ w1).alloc (Nat.le_refl _) (.cells (ints [3, 4, 9]).toArray 3)).trans (hb2.mono (by simp))
  have k0 : w2.cell? ⟨b, off, none⟩ = some (.int .u8 172) := (hb3.cell (p := ⟨b, off, none⟩) hblt).trans h0
  have k1 : w2.cell? ⟨b, off + 1, none⟩ = some (.int .u8 2) := (hb3.cell (p := ⟨b, off + 1, none⟩) hblt).trans h1
  have HB3 := Lib.hid (HB.out.trans (hb3.mono HB.out.size))
  clear hb3 hb2 hown2 hrow2
  go_wp2
  go_ret
  exact ⟨rfl, HB3.out⟩
end Go.Proofs.Ytmcfkdnilmbecaa
