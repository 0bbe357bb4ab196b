/- What Next answers: the least number that is not below, or -1. -/
import Derived.Test.YtkflmhpmnceniaaDoorRead03
import Derived.RegionTactic
import Derived.BigCall
import Derived.Deep.RegionWith
set_option linter.unusedVariables false
namespace Go.Proofs.YtkflmhpmnceniaaDoor
open Go Go.RowKit
open Plain (Wd WS Rep posW keptW getW hasB mayB ones nextB rankB countW pop fromW firstFrom)

def NextRel (ws : List Wd) (w1 : World) (m f : Nat) (r t : Value) (wr : World) : Prop :=
  ∃ k : Nat, f + k ≤ ws.length ∧ r = .int .i64 0 ∧ t = .int .i64 k ∧ firstFrom ws m = firstFrom (ws.drop (f + k)) m ∧ Below w1.heap.size w1 wr

set_option maxHeartbeats 4000000 in
set_option maxRecDepth 100000 in
theorem set_Next (base B : Nat) (r : List Bool) (i : Int) (w : World) (h : SetIs w base B r) (hn : r.length ≤ big) (hi63 : i < 9223372036854775808) (hi0 : -9223372036854775808 ≤ i) (hT : Tab w) :
    Calls Tryd.prog 29 #[.pointer (some ⟨B, 0, none⟩), .int .i64 i] w (GaveI (nextB r i) w) := by
  obtain ⟨m, hm, hmr⟩ : ∃ m : Nat, (if i ≤ 0 then m = 0 else i = (m : Int)) ∧ nextB r i = nextB r (m : Int) := by
    by_cases h0 : i ≤ 0
    · exact ⟨0, by simp [h0], Plain.nextB_neg r i h0⟩
    · exact ⟨i.toNat, by rw [if_neg h0]; omega, by rw [Int.toNat_of_nonneg (by omega)]⟩
  have hm63 : (m : Int) < 9223372036854775808 := by split at hm <;> omega
  have hmax : max i 0 = (m : Int) := by split at hm <;> omega
  rw [hmr]
  obtain ⟨ws, hs, hrep⟩ := h
  have hl := (len_big hrep.wds hn).1
  have hl2 := (len_big hrep.wds hn).2
  rw [← hrep.next m]
  have HF := Lib.hid (fun w h => set_find base B r.length ws (m / 64) w h hrep.wds hn (by omega))
  have HB := Lib.hid (fun w => bits_below m w (by omega))
  have hpf := Plain.bit_fits (Nat.mod_lt m (show 0 < 64 by decide))
  have hpl := Plain.posW_le ws (m / 64)
  have HFS := Lib.hid (Plain.firstFrom_low hrep.wds m)
  have HSP := Lib.hid (Plain.split_pos hrep.wds (m / 64)).2
  have HREP := Lib.hid hrep
  have HS := Lib.hid hs
  obtain ⟨q, hq⟩ : ∃ q, q = m / 64 := ⟨_, rfl⟩
  have hq2 : (m : Int) / 64 = (q : Int) := by omega
  have hqb : q ≤ 144115188075855872 := by omega
  rw [← hq] at HF hpl HFS HSP
  have hmx : ∀ (w : World) (ts : Array TypeId) (t : TypeId), (Builtin.max_ ts t #[.int .i64 i, .int .i64 0]).run Tryd.prog w = .ok (.int .i64 (m : Int)) w := fun w ts t => by rw [run_max_int2]; congr 2; split <;> omega
  have HQ := Lib.hid hq
  obtain ⟨y, hy⟩ : ∃ y, y = 2 ^ (m % 64) - 1 := ⟨_, rfl⟩
  rw [← hy] at HB
  have hyf : y < 18446744073709551616 := by omega
  have HY := Lib.hid hy
  have HL2 := Lib.hid hl2
  have HI1 := Lib.hid hi63
  have HI2 := Lib.hid hi0
  have HI3 := Lib.hid hm63
  have HT := Lib.hid hT
  obtain ⟨f, hf⟩ : ∃ f, f = posW ws q := ⟨_, rfl⟩
  rw [← hf] at hpl HFS HSP
  have HFE := Lib.hid hf
  clear hf hpf hq hmr hm hrep hs hmax hi63 hi0 hm63 hy hl2 hT
  go_enter Tryd.func29, Tryd.ntmps29
  go_wp2_with (go_at_call 44; (with_reducible refine (HF.out _ HS.out).mono ?_))
  rintro e w1 ⟨rfl, hb1⟩
  rw [← HFE.out]
  have HS1 := Lib.hid (HS.out.below hb1)
  have HT1 := Lib.hid (HT.out.below hb1 HT.out.lt)
  obtain ⟨A, c, c0, c1, hc, hr⟩ := HS1.out.read
  have HR := Lib.hid hr
  have HB1 := Lib.hid hb1
  clear hb1 c0 hr hc
  go_wp2
  go_loopw [4, 25] (NextRel ws w1 m f) (fun _ t _ => ws.length - f - (intOf t).toNat)
  case atStart => exact ⟨0, by omega, rfl, rfl, HFS.out, Below.refl _ _⟩
  case round =>
    obtain ⟨k, hk, rfl, rfl, hfirst, hbw⟩ := hrel
    have HFI := Lib.hid hfirst
    have HBW := Lib.hid hbw
    clear hfirst hbw
    have c1r := (HBW.out.cell (p := ⟨B, 1, none⟩) HS1.out.lt).trans c1
    have hz1 := HBW.out.size
    have HTR := HT1.out.below HBW.out HT1.out.lt
    by_cases hlt : f + k < ws.length
    · obtain ⟨b1, o1, e1, hb1, hc1, hc2⟩ := row_word (HR.out.below HBW.out) hlt
      subst e1
      have hq1 : q ≤ (ws[f + k]'hlt).1 := HSP.out _ (by
        rw [List.mem_iff_getElem?]
        exact ⟨k, by rw [List.getElem?_drop, List.getElem?_eq_getElem hlt]⟩)
      have hpb := HL2.out _ (List.getElem_mem hlt)
      have hpf := HREP.out.wds.fits _ (List.getElem_mem hlt)
      have hstep := Plain.firstFrom_step (i := m) hlt (by rw [← HQ.out]; exact hq1)
      have hhit := Plain.firstFrom_hit (i := m) hlt (by rw [← HQ.out]; exact hq1)
      obtain ⟨p, hpp⟩ : ∃ p, p = ws[f + k]'hlt := ⟨_, rfl⟩
      rw [← hpp] at hc1 hc2 hq1 hpb hpf hstep hhit
      have hff := Plain.fromW_fits (i := m) hpf
      obtain ⟨z, hz⟩ : ∃ z, z = fromW p m := ⟨_, rfl⟩
      rw [← hz] at hff hstep hhit
      have HST := Lib.hid hstep
      have HHI := Lib.hid hhit
      clear hpp hstep hhit
      obtain ⟨j, hj⟩ : ∃ j, j = f + k := ⟨_, rfl⟩
      have hj2 : (f : Int) + (k : Int) = (j : Int) := by omega
      rw [← hj] at hc1 hc2 hlt
      have HJ := Lib.hid hj
      clear hj
      have hjl : (j : Int) < ws.length := by omega
      have hkl : (k : Int) < (ws.length : Int) - (f : Int) := by have := HJ.out; omega
      by_cases hpq : p.1 = q
      · have d1 : ((p.1 : Int) == (q : Int)) = true := by simp [hpq]
        have hand := bits_andNot_u64_nat p.2 y hpf hyf
        have hze : Plain.andn p.2 y = z := by rw [hz]; unfold fromW; rw [if_pos (by rw [← HQ.out]; exact hpq), HY.out]
        rw [hze] at hand
        clear hze hz hpq
        go_wp2
        by_cases h0 : z = 0
        · have HS0 := Lib.hid (HST.out h0)
          clear HST HHI
          subst h0
          go_region_with (go_at_call 38; (with_reducible refine (HB.out _).mono ?_); rintro e w' ⟨rfl, rfl⟩)
          all_goals
            go_wp2
            go_roundw
            case rel => exact ⟨k + 1, by have := HJ.out; omega, rfl, by go_num, (HFI.out.trans HS0.out).trans (by rw [Nat.add_assoc]), (by repeat (first | exact HBW.out | apply Below.drew | refine Below.setCell ?_ (by simp; omega) _ | refine Below.alloc ?_ (by first | omega | (simp; omega)) _))⟩
            case measure => simp [intOf]; have := HJ.out; omega
        · have HLE := Lib.hid (fun w hT => least_any p.1 z w (by omega) hff h0 hT)
          have HRES := Lib.hid ((HFI.out.trans (HHI.out h0 hff)))
          have hz0 : ((z : Int) == 0) = false := by simp; omega
          have hz2 : ((z : Int) != 0) = true := by simp; omega
          have HH0 := Lib.hid h0
          clear h0
          go_region_with (go_at_call 38; (with_reducible refine (HB.out _).mono ?_); rintro e w' ⟨rfl, rfl⟩)
          all_goals
            go_wp2_with fail
            refine (HLE.out _ ((HTR.alloc _).drewN 1)).mono ?_
            rintro e w3 ⟨rfl, hb3⟩
            go_wp2
            go_ret
            have hb4 : Below w1.heap.size w1 w3 := Below.trans (by repeat (first | exact HBW.out | apply Below.drew | refine Below.setCell ?_ (by first | omega | (simp; omega)) _ | refine Below.alloc ?_ (by first | omega | (simp; omega)) _)) (hb3.mono (by simp; omega))
            exact ⟨by rw [HRES.out]; rfl, HB1.out.trans (hb4.mono HB1.out.size)⟩
      · have d1 : ((p.1 : Int) == (q : Int)) = false := by simp; omega
        have hze : p.2 = z := by rw [hz]; unfold fromW; rw [if_neg (by rw [← HQ.out]; exact hpq)]
        rw [hze] at hc2
        clear hze hz hpq
        by_cases h0 : z = 0
        · have HS0 := Lib.hid (HST.out h0)
          clear HST HHI
          subst h0
          go_wp2
          go_roundw
          case rel => exact ⟨k + 1, by have := HJ.out; omega, rfl, by go_num, (HFI.out.trans HS0.out).trans (by rw [Nat.add_assoc]), (by repeat (first | exact HBW.out | apply Below.drew | refine Below.setCell ?_ (by simp; omega) _ | refine Below.alloc ?_ (by first | omega | (simp; omega)) _))⟩
          case measure => simp [intOf]; have := HJ.out; omega
        · have HLE := Lib.hid (fun w hT => least_any p.1 z w (by omega) hff h0 hT)
          have HRES := Lib.hid ((HFI.out.trans (HHI.out h0 hff)))
          have hz0 : ((z : Int) == 0) = false := by simp; omega
          have hz2 : ((z : Int) != 0) = true := by simp; omega
          have HH0 := Lib.hid h0
          clear h0
          go_wp2_with fail
          refine (HLE.out _ (HTR.alloc _)).mono ?_
          rintro e w3 ⟨rfl, hb3⟩
          go_wp2
          go_ret
          have hb4 : Below w1.heap.size w1 w3 := Below.trans (by repeat (first | exact HBW.out | apply Below.drew | refine Below.setCell ?_ (by first | omega | (simp; omega)) _ | refine Below.alloc ?_ (by first | omega | (simp; omega)) _)) (hb3.mono (by simp; omega))
          exact ⟨by rw [HRES.out]; rfl, HB1.out.trans (hb4.mono HB1.out.size)⟩
    · have hend : firstFrom (ws.drop (f + k)) m = -1 := by rw [List.drop_eq_nil_of_le (by omega)]; rfl
      have HE := Lib.hid (HFI.out.trans hend)
      have hkl : ¬ (k : Int) < (ws.length : Int) - (f : Int) := by omega
      clear hend
      go_wp2
      go_ret
      exact ⟨by rw [HE.out]; rfl, HB1.out.trans (HBW.out.mono HB1.out.size)⟩
end Go.Proofs.YtkflmhpmnceniaaDoor
