/- The walk of WordMay: it returns true for every input, and nothing that was there turns. -/
import Derived.Test.YtagcaebmboikbaaLives02
namespace Go.Proofs.Ytagcaebmboikbaa
open Go Go.RowKit
set_option linter.unusedVariables false

theorem spaced_take {ws : List (List UInt8)} {k : Nat} (hk : k < ws.length) : spaced (ws.take (k + 1)) = spaced (ws.take k) ++ ws[k] ++ [32] := by
  unfold spaced
  rw [List.take_succ_eq_append_getElem hk, List.flatMap_append, List.append_assoc]
  congr 1
  simp

def MayWalkRel (ws : List (List UInt8)) (w1 : World) (a t i : Value) (wr : World) : Prop :=
  ∃ (k : Nat) (u : ByteArray), k ≤ ws.length ∧ a = .bool false ∧ t = .string u ∧ i = .int .i64 k ∧ u.size ≤ 241 * k ∧ Below w1.heap.size w1 wr ∧ u.data.toList = spaced (ws.take k)

set_option maxHeartbeats 2000000 in
set_option maxRecDepth 100000 in
theorem walk_WordMay (a0 : ByteArray) (w : World) (w0 : a0.size ≤ maxLen) :
    Calls Try.prog 5 #[.string a0] w fun e w' => e = .returned (.bool true) ∧ Below w.heap.size w w' := by
  have HW0 := Lib.hid w0
  clear w0
  go_enter Try.func5, Try.ntmps5
  go_wp2_with (go_at_call 10; refine (law02_few a0 60 _ HW0.out (by omega)).mono ?_)
  rintro e w' ⟨s, rfl, hs, rfl⟩
  have hsz : s.data.toList.length = s.size := Array.length_toList
  have hwl := words_length s.data.toList
  rw [hsz] at hwl
  have hsp := words_spaced s.data.toList
  have hmw := fun w (h : w ∈ words s.data.toList) => mayWord_of h
  have hws : ∀ w, w ∈ words s.data.toList → w.length ≤ 240 := fun w h => by have := words_size h; omega
  have c1 := fun w => word_Words s w (by omega)
  have m1 := fun w => word_May s w (by omega)
  have m2 := fun w => ref_May s w (by omega)
  generalize words s.data.toList = ws at c1 hwl hsp hmw hws
  generalize mayWord s.data.toList = m at m1 m2
  have C1 := Lib.hid c1
  have M1 := Lib.hid m1
  have M2 := Lib.hid m2
  have HSP := Lib.hid hsp
  have HMW := Lib.hid hmw
  have HWS := Lib.hid hws
  clear c1 m1 m2 hsz hsp hmw hws
  go_wp2_with (go_at_call 14; refine (C1.out _).mono ?_)
  rintro e w1 ⟨v1, rfl, hown1, hb1⟩
  obtain ⟨A, k1, rfl, _, hrow1⟩ := owned_row hown1
  have HR := Lib.hid hrow1
  have HB := Lib.hid hb1
  have hsz1 := hb1.size
  clear hrow1 hown1 hb1
  go_wp2
  go_loopw [2, 4, 5] (fun a t i wr => MayWalkRel ws w1 a t i wr) (fun _ _ i _ => ws.length - (intOf i).toNat)
  case atStart => exact ⟨0, ByteArray.empty, Nat.zero_le _, rfl, rfl, rfl, by simp, Below.refl _ _, by simp [spaced]⟩
  case round =>
    obtain ⟨k, u, hk, rfl, rfl, rfl, hu, hbw, hul⟩ := hrel
    by_cases hlt : k < ws.length
    · obtain ⟨b1, o1, e1, hblt, hc1⟩ := row_str (HR.out.below hbw) hlt
      subst e1
      have hst := spaced_take hlt
      have hm := HMW.out ws[k] (List.getElem_mem hlt)
      have hx4 := HWS.out ws[k] (List.getElem_mem hlt)
      obtain ⟨x, hx⟩ : ∃ x : ByteArray, x = ⟨ws[k].toArray⟩ := ⟨_, rfl⟩
      have hxl : x.data.toList = ws[k] := by rw [hx]
      have hxz : x.data.toList.length = x.size := Array.length_toList
      rw [← hx] at hc1
      rw [← hxl] at hm hst hx4
      rw [hxz] at hm hx4
      have mx := fun w => word_May x w (by omega)
      rw [hm] at mx
      have MX := Lib.hid mx
      have HST := Lib.hid hst
      have HUL := Lib.hid hul
      have HC1 := Lib.hid (HR.out.below hbw)
      have hbs := hbw.size
      have hi0 : (0 : Int) ≤ k := by omega
      have hi1 : (k : Int) < ws.length := by omega
      clear hx hxl hxz hm hst hul mx
      by_cases h30 : x.size ≤ 30
      · have d30 : decide (x.size ≤ 30) = true := by simpa using h30
        have dz : decide ((x.size : Int) ≤ 30) = true := by simp; omega
        have mx := MX.out
        rw [d30] at mx
        have MY := Lib.hid mx
        clear mx MX d30
        go_wp2
        go_region_held3 (fun w' => w'.cell? ⟨b1, o1 + k, none⟩ = some (.string x)) (first | go_keep | exact hc2)
          (first
            | (go_at_call 17; refine (MY.out _).mono ?_; rintro e w2 ⟨rfl, hb2⟩
               have hc2 := (hb2.cell (p := ⟨b1, o1 + k, none⟩) (by show b1 < _; simp; omega)).trans hc1))
        have hb3 : Below w1.heap.size w1 w2 := hbw.trans (((Below.refl _ wr).drew.mono hbs).trans (hb2.mono hbs))
        have HC2 := HC1.out.below (((Below.refl _ wr).drew.mono (Nat.le_refl _)).mono hbs |>.trans (hb2.mono hbs))
        go_wp2
        go_roundw
        case rel => exact ⟨k + 1, _, by omega, rfl, rfl, by go_num, by rw [ByteArray.size_append, ByteArray.size_append, show (ByteArray.mk #[32]).size = 1 from rfl]; omega, hb3, by simp [HST.out, HUL.out]⟩
        case measure => simp [intOf]; omega
      · have d30 : decide (x.size ≤ 30) = false := by simpa using h30
        have dz : decide ((x.size : Int) ≤ 30) = false := by simp; omega
        have mx := MX.out
        rw [d30] at mx
        have MY := Lib.hid mx
        clear mx MX d30
        go_wp2
        go_region_held3 (fun w' => w'.cell? ⟨b1, o1 + k, none⟩ = some (.string x)) (first | go_keep | exact hc2)
          (first
            | (go_at_call 17; refine (MY.out _).mono ?_; rintro e w2 ⟨rfl, hb2⟩
               have hc2 := (hb2.cell (p := ⟨b1, o1 + k, none⟩) (by show b1 < _; simp; omega)).trans hc1))
        have hb3 : Below w1.heap.size w1 w2 := hbw.trans (((Below.refl _ wr).drew.mono hbs).trans (hb2.mono hbs))
        have HC2 := HC1.out.below (((Below.refl _ wr).drew.mono (Nat.le_refl _)).mono hbs |>.trans (hb2.mono hbs))
        go_wp2
        go_roundw
        case rel => exact ⟨k + 1, _, by omega, rfl, rfl, by go_num, by rw [ByteArray.size_append, ByteArray.size_append, show (ByteArray.mk #[32]).size = 1 from rfl]; omega, hb3, by simp [HST.out, HUL.out]⟩
        case measure => simp [intOf]; omega
    · have hkl : k = ws.length := by omega
      rw [hkl, List.take_length] at hul
      have husz : u.size ≤ 14460 := by omega
      have hsp := HSP.out
      have c2 := fun w => word_Words u w (by omega)
      rw [hul, hsp] at c2
      have C2 := Lib.hid c2
      clear hkl hul hsp c2
      have hszb := hbw.size
      go_wp2_with (go_at_call 17; refine (M1.out _).mono ?_; rintro e w2 ⟨rfl, hb2⟩)
      go_wp2_with (go_at_call 18; refine (M2.out _).mono ?_; rintro e w3 ⟨rfl, hb3⟩)
      go_wp2_with (go_at_call 14; refine (C2.out _).mono ?_)
      rintro e w4 ⟨v4, rfl, hown4, hb4⟩
      obtain ⟨A4, k4, rfl, _, hrow4⟩ := owned_row hown4
      have HR4 := Lib.hid hrow4
      have s2 := hb2.size
      have s3 := hb3.size
      have s4 := hb4.size
      have hbx : Below w1.heap.size w1 w4 := ((hbw.trans (hb2.mono (by omega))).trans (hb3.mono (by omega))).trans (hb4.mono (by omega))
      have HR1 := Lib.hid ((HR.out.below hbx).more hbx.size)
      have hby : Below w.heap.size w w4 := HB.out.trans (hbx.mono hsz1)
      clear hrow4 hown4 hb2 hb3 hb4 hbw
      go_wp2_with (go_at_call 13; refine (ref02_Same _ _ _ _ _ _ ws _ rfl rfl HR4.out HR1.out (by omega)).mono ?_)
      rintro e w5 ⟨rfl, hb5⟩
      have hbz : Below w.heap.size w w5 := hby.trans (hb5.mono hby.size)
      clear hby hbx hb5 HR4 HR1
      go_wp2_with (go_at_call 16; refine (law02_lives _).mono ?_)
      rintro e w9 ⟨rfl, hb9⟩
      go_wp2
      go_ret
      exact ⟨rfl, hbz.trans (hb9.mono hbz.size)⟩
end Go.Proofs.Ytagcaebmboikbaa
