/- The walk of SignSigns: it returns true for every input, and nothing that was there turns. -/
import Derived.Test.YtfgkhophgganjaaRefFold
import Derived.Test.YtfgkhophgganjaaFoldText
import Derived.Test.YtfgkhophgganjaaFew01
import Derived.Test.YtfgkhophgganjaaLives01
namespace Go.Proofs.Ytfgkhophgganjaa
open Go Go.RowKit
set_option linter.unusedVariables false

theorem row_take {w : World} {A : Option Addr} {zs : List Int} (h : Row w w.heap.size A (zs.map (Value.int .i64))) (k : Nat) : Row w w.heap.size A (ints (zs.take k)) := by
  have := h.cut k
  rw [← List.map_take] at this
  exact this

set_option maxHeartbeats 2000000 in
set_option maxRecDepth 100000 in
theorem walk_SignSigns (a0 : ByteArray) (a1 : Option Addr) (len1 cap1 : Nat) (z1 : List Int) (w : World) (w0 : a0.size ≤ maxLen) (w1 : InRow .i64 w a1 len1 cap1 z1) :
    Calls Try.prog 3 #[.string a0, .slice a1 len1 cap1] w fun e w' => e = .returned (.bool true) ∧ Below w.heap.size w w' := by
  obtain ⟨h1, h2, hz, hrow, _⟩ := w1
  unfold maxLen at h2
  have HR := Lib.hid hrow
  have HW0 := Lib.hid w0
  have HZ := Lib.hid hz
  by_cases hcut : 50 < len1
  · obtain ⟨b, off, rfl, _, _⟩ := HR.out.at_ (by rw [List.length_map, HZ.out]; omega)
    have HL : Hid (Row w w.heap.size (some ⟨b, off, none⟩) (ints (z1.take 50)) ∧ (z1.take 50).length = 50) := ⟨row_take HR.out 50, by rw [List.length_take, HZ.out]; omega⟩
    obtain ⟨xs, hxs⟩ : ∃ xs, xs = z1.take 50 := ⟨_, rfl⟩
    rw [← hxs] at HL
    clear hxs HR HZ hz hrow w0
    go_enter Try.func3, Try.ntmps3
    go_wp2_with (go_at_call 9; refine (law01_few a0 _ HW0.out).mono ?_)
    rintro e w' ⟨t, rfl, ht, rfl⟩
    go_wp2_with (go_at_call 11; refine (sign_Signs t _ (by omega)).mono ?_)
    rintro e w2 ⟨v2, rfl, hown2, hb2⟩
    obtain ⟨A2, c2, rfl, _, hrow2⟩ := owned_row hown2
    have HR2 := Lib.hid hrow2
    clear hrow2 hown2
    go_wp2_with (go_at_call 12; refine (ref_Signs t _ (by omega)).mono ?_)
    rintro e w3 ⟨v3, rfl, hown3, hb3⟩
    obtain ⟨A3, c3, rfl, _, hrow3⟩ := owned_row hown3
    have HR3 := Lib.hid hrow3
    clear hrow3 hown3
    have hsl := signs_length t.data.toList
    rw [size_list] at hsl
    go_wp2_with (go_at_call 10; refine (ref_Same_at _ _ _ _ _ _ (signs t.data.toList) _ rfl rfl ((HR2.out.below hb3).more hb3.size) HR3.out (by omega)).mono ?_)
    rintro e w4 ⟨rfl, hb4⟩
    have hb : Below w.heap.size w w4 := (hb2.trans (hb3.mono hb2.size)).trans (hb4.mono (by have := hb2.size; have := hb3.size; omega))
    clear hb2 hb3 hb4 HR2 HR3
    go_wp2_with (go_at_call 13; refine (sign_Text_at _ _ _ xs _ HL.out.2 ((HL.out.1.below hb).more hb.size) (by omega)).mono ?_)
    rintro e w5 ⟨rfl, hb5⟩
    have hb6 : Below w.heap.size w w5 := hb.trans (hb5.mono hb.size)
    clear hb hb5
    go_wp2_with (go_at_call 14; refine (ref_Text_at _ _ _ xs _ HL.out.2 ((HL.out.1.below hb6).more hb6.size) (by omega)).mono ?_)
    rintro e w7 ⟨rfl, hb7⟩
    have hb8 : Below w.heap.size w w7 := hb6.trans (hb7.mono hb6.size)
    clear hb6 hb7
    go_wp2_with (go_at_call 15; refine (law01_lives _).mono ?_)
    rintro e w9 ⟨rfl, hb9⟩
    go_wp2
    go_ret
    exact ⟨rfl, hb8.trans (hb9.mono hb8.size)⟩
  · have HL : Hid (Row w w.heap.size a1 (ints z1) ∧ z1.length = len1) := ⟨HR.out, HZ.out⟩
    obtain ⟨xs, hxs⟩ : ∃ xs, xs = z1 := ⟨_, rfl⟩
    rw [← hxs] at HL
    clear hxs HR HZ hz hrow w0
    go_enter Try.func3, Try.ntmps3
    go_wp2_with (go_at_call 9; refine (law01_few a0 _ HW0.out).mono ?_)
    rintro e w' ⟨t, rfl, ht, rfl⟩
    go_wp2_with (go_at_call 11; refine (sign_Signs t _ (by omega)).mono ?_)
    rintro e w2 ⟨v2, rfl, hown2, hb2⟩
    obtain ⟨A2, c2, rfl, _, hrow2⟩ := owned_row hown2
    have HR2 := Lib.hid hrow2
    clear hrow2 hown2
    go_wp2_with (go_at_call 12; refine (ref_Signs t _ (by omega)).mono ?_)
    rintro e w3 ⟨v3, rfl, hown3, hb3⟩
    obtain ⟨A3, c3, rfl, _, hrow3⟩ := owned_row hown3
    have HR3 := Lib.hid hrow3
    clear hrow3 hown3
    have hsl := signs_length t.data.toList
    rw [size_list] at hsl
    go_wp2_with (go_at_call 10; refine (ref_Same_at _ _ _ _ _ _ (signs t.data.toList) _ rfl rfl ((HR2.out.below hb3).more hb3.size) HR3.out (by omega)).mono ?_)
    rintro e w4 ⟨rfl, hb4⟩
    have hb : Below w.heap.size w w4 := (hb2.trans (hb3.mono hb2.size)).trans (hb4.mono (by have := hb2.size; have := hb3.size; omega))
    clear hb2 hb3 hb4 HR2 HR3
    go_wp2_with (go_at_call 13; refine (sign_Text_at _ _ _ xs _ HL.out.2 ((HL.out.1.below hb).more hb.size) (by omega)).mono ?_)
    rintro e w5 ⟨rfl, hb5⟩
    have hb6 : Below w.heap.size w w5 := hb.trans (hb5.mono hb.size)
    clear hb hb5
    go_wp2_with (go_at_call 14; refine (ref_Text_at _ _ _ xs _ HL.out.2 ((HL.out.1.below hb6).more hb6.size) (by omega)).mono ?_)
    rintro e w7 ⟨rfl, hb7⟩
    have hb8 : Below w.heap.size w w7 := hb6.trans (hb7.mono hb6.size)
    clear hb6 hb7
    go_wp2_with (go_at_call 15; refine (law01_lives _).mono ?_)
    rintro e w9 ⟨rfl, hb9⟩
    go_wp2
    go_ret
    exact ⟨rfl, hb8.trans (hb9.mono hb8.size)⟩
end Go.Proofs.Ytfgkhophgganjaa
