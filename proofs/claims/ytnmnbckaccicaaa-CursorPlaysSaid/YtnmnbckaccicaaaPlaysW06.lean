/- The walk of CursorPlays, out of what package cursor's calls give. -/
import Derived.Test.YtnmnbckaccicaaaStart06
import Derived.Deep.CutRange
import Derived.StillTailTactics
set_option linter.unusedVariables false
namespace Go.Proofs.Ytnmnbckaccicaaa
open Go Go.RowKit

abbrev BoxAt (R : Nat) (A : Option Addr) (n c : Nat) (i : Int) (w : World) : Prop := w.heap[R]? = some (.cells #[.slice A n c, .int .i64 i] 32 (0, 0))
def PlayRel (n : Nat) (C R : Nat) (A : Option Addr) (c : Nat) (At : Int → World → Prop) (w : World) (v : Value) (wr : World) : Prop :=
  ∃ (k : Nat) (i : Int), v = .int .i64 (k : Int) ∧ k ≤ 40 ∧ -1 ≤ i ∧ i ≤ (n : Int) ∧ At i wr ∧ BoxAt R A n c i wr ∧ OnlyIn (fun q => q = C ∨ q = R) w wr

theorem OnlyIn.mono06 {S S' : Nat → Prop} {w w' : World} (h : OnlyIn S w w') (hs : ∀ k, S k → S' k) : OnlyIn S' w w' := ⟨h.os, h.tape, h.output, h.size, fun k hk hn => h.block k hk fun e => hn (hs k e)⟩
theorem play_set {C R n c : Nat} {g : List Po} {A : Option Addr} {At : Int → World → Prop} {i i' j' : Int} {w w1 : World} (CO : CurOk C g At) (hCR : C ≠ R) (hb : BoxAt R A n c i w1) (hat : At j' w1) (hon : OnlyIn (fun q => q = C ∨ q = R) w w1) :
    At j' ((w1.setCell ⟨R, 0, none⟩ (.slice A n c)).setCell ⟨R, 1, none⟩ (.int .i64 i')) ∧ BoxAt R A n c i' ((w1.setCell ⟨R, 0, none⟩ (.slice A n c)).setCell ⟨R, 1, none⟩ (.int .i64 i')) ∧
      OnlyIn (fun q => q = C ∨ q = R) w ((w1.setCell ⟨R, 0, none⟩ (.slice A n c)).setCell ⟨R, 1, none⟩ (.int .i64 i')) := by
  obtain ⟨w2, hw2⟩ : ∃ w2, w2 = (w1.setCell ⟨R, 0, none⟩ (.slice A n c)).setCell ⟨R, 1, none⟩ (.int .i64 i') := ⟨_, rfl⟩
  have hz : BoxAt R A n c i' w2 := by rw [hw2]; exact setPair hb
  have ho : OnlyIn (fun q => q = R) w1 w2 := by
    rw [hw2]
    exact ⟨rfl, rfl, rfl, by simp, fun k hk hne => (Below.heap_setCell _ ⟨R, 1, none⟩ _ k hne).trans (Below.heap_setCell w1 ⟨R, 0, none⟩ _ k hne)⟩
  rw [← hw2]
  have hsoft : At j' w2 := CO.box j' w1 w2 R _ _ hat hCR hb ho
  exact ⟨hsoft, hz, hon.trans (ho.mono06 fun k hk => .inr hk)⟩

set_option maxHeartbeats 4000000 in
set_option maxRecDepth 100000 in
theorem plays_of (CK : CursorOk) (a0 : Option Addr) (len0 cap0 : Nat) (z0 : List Po) (a1 : Option Addr) (len1 cap1 : Nat) (z1 : List Int) (w : World) (w0 : InPosts w a0 len0 cap0 z0) (w1 : InRow .i64 w a1 len1 cap1 z1) :
    Calls Try.prog 3 #[.slice a0 len0 cap0, .slice a1 len1 cap1] w fun e w' => e = .returned (.bool true) ∧ Below w.heap.size w w' := by
  obtain ⟨g, gg, hgo⟩ := good_gave a0 len0 cap0 z0 w w0
  have LV := Lib.hid (law06_lives CK)
  have CKH := Lib.hid CK
  have HGO := Lib.hid hgo
  have GG := Lib.hid gg
  have HW1 := Lib.hid w1
  clear hgo w0 w1 CK gg
  go_enter Try.func3, Try.ntmps3
  go_wp2_with (go_at_call 8; (with_reducible refine HGO.out.mono ?_))
  rintro e w3 ⟨A2, c2, rfl, hc2, hx2, hp3, hb3⟩
  have HB3 := Lib.hid hb3
  have HP3 := Lib.hid hp3
  clear hb3 hp3 HGO
  obtain ⟨n, hn⟩ : ∃ n, n = g.length := ⟨_, rfl⟩
  rw [← hn] at hc2
  rw [← hn]
  have HN := Lib.hid hn
  clear hn
  go_wp2_with (go_at_call 9; (with_reducible refine (make_good GG.out A2 n c2 w3 HN.out.symm hc2 hx2 HP3.out).mono ?_))
  rintro e w5 ⟨B1, rfl, hl1, hb5⟩
  have HB5 := Lib.hid (HB3.out.trans (hb5.mono HB3.out.size))
  have HB35 : Hid (Below w3.heap.size w3 w5) := Lib.hid hb5
  have HL5 := Lib.hid hl1
  have HP5 := Lib.hid (HP3.out.later hb5)
  clear hb5 hl1
  go_wp2_with (go_at_call 10; (with_reducible refine (CKH.out.new _ B1 g w5 HL5.out GG.out.may (by have := GG.out.len; omega) GG.out.bytes).mono ?_))
  rintro e w6 ⟨C, At, rfl, CO, hat6, hC, hb6⟩
  have HB6 := Lib.hid (HB5.out.trans (hb6.mono HB5.out.size))
  have HB36 := Lib.hid (HB35.out.trans (hb6.mono HB35.out.size))
  have HC3 := Lib.hid (Nat.le_trans HB35.out.size hC)
  have HP6 := Lib.hid (HP5.out.later hb6)
  have HAT6 := Lib.hid hat6
  have HC := Lib.hid (Nat.le_trans HB5.out.size hC)
  have hown := CO.own _ _ hat6
  have hCl : C < w6.heap.size := by obtain ⟨cs, fr, h⟩ := hown; exact (Array.getElem?_eq_some_iff.1 h).1
  have HCL := Lib.hid hCl
  have HCO := Lib.hid CO
  have hsz6 := hb6.size
  clear hb6 hat6 hC hown hCl CO
  go_wp2_with (go_at_call 11; (with_reducible refine (ref06_New A2 n c2 _).mono ?_))
  rintro e w7 ⟨rfl, hb7⟩
  have HB7 := Lib.hid (HB6.out.trans (hb7.mono HB6.out.size))
  have HB37 := Lib.hid (HB36.out.trans (hb7.mono HB36.out.size))
  have HCL7 := Lib.hid (Nat.lt_of_lt_of_le HCL.out hb7.size)
  have HAT7 := Lib.hid (HCO.out.stays _ _ _ HAT6.out hb7)
  have HP7 := Lib.hid (HP6.out.later hb7)
  clear hb7
  unfold curV
  go_wp2_with fail
  have hb8 : Below w7.heap.size w7 (w7.alloc (.cells #[.slice A2 n c2, .int .i64 (-1)] 32)) := (Below.refl _ _).alloc (Nat.le_refl _) _
  have hbox : BoxAt w7.heap.size A2 n c2 (-1) (w7.alloc (.cells #[.slice A2 n c2, .int .i64 (-1)] 32)) := heap_alloc_new w7 _
  obtain ⟨w8, hw8⟩ : ∃ w8, w8 = w7.alloc (.cells #[.slice A2 n c2, .int .i64 (-1)] 32) := ⟨_, rfl⟩
  rw [← hw8] at hb8 hbox
  rw [← hw8]
  obtain ⟨R, hR⟩ : ∃ R, R = w7.heap.size := ⟨_, rfl⟩
  rw [← hR] at hbox
  rw [← hR]
  have HR := Lib.hid (show w3.heap.size ≤ R ∧ w.heap.size ≤ R ∧ C ≠ R by have h1 := HB37.out.size; have h2 := HB7.out.size; have h3 := HCL7.out; omega)
  have HB8 := Lib.hid (HB7.out.trans (hb8.mono HB7.out.size))
  have HB38 := Lib.hid (HB37.out.trans (hb8.mono HB37.out.size))
  have HAT8 := Lib.hid (HCO.out.stays _ _ _ HAT7.out hb8)
  have HP8 := Lib.hid (HP7.out.later hb8)
  have HBOX8 := Lib.hid hbox
  have LK : Hid (∀ (i : Int) (w' : World), At i w' → Below w3.heap.size w3 w' → -1 ≤ i → i ≤ (n : Int) → Calls Try.prog 12 #[.pointer (some ⟨C, 0, none⟩), .agg #[.slice A2 n c2, .int .i64 i]] w' fun e w'' => e = .returned (.bool true) ∧ Below w'.heap.size w' w'') := Lib.hid fun i w' h hb h0 h1 =>
    law06_like C g At HCO.out A2 n c2 i w' h HN.out.symm (by have := GG.out.len; have := HN.out; omega) ((HP3.out.below hb).more hb.size) h0 h1 (by have := GG.out.placesC i; omega)
  clear hb8 hbox hw8 hR
  go_at_call 12
  (with_reducible refine (LK.out (-1) w8 HAT8.out HB38.out (by omega) (by omega)).mono ?_)
  rintro e w9 ⟨rfl, hb9⟩
  have HB9 := Lib.hid (HB8.out.trans (hb9.mono HB8.out.size))
  have HB39 := Lib.hid (HB38.out.trans (hb9.mono HB38.out.size))
  have HAT9 := Lib.hid (HCO.out.stays _ _ _ HAT8.out hb9)
  have HBOX9 : Hid (BoxAt R A2 n c2 (-1) w9) := Lib.hid ((hb9.block R (lt_of_block HBOX8.out)).trans HBOX8.out)
  clear hb9
  go_wp2_with fail
  go_loopw [10] (fun v wr => PlayRel n C R A2 c2 At w9 v wr) (fun v _ => 40 - (intOf v).toNat)
  case atStart => exact ⟨0, -1, rfl, by omega, by omega, by omega, HAT9.out, HBOX9.out, OnlyIn.of_below (Below.refl _ _)⟩
  case round =>
    obtain ⟨k, i, rfl, hk40, hi0, hi1, hat, hbx, hon⟩ := hrel
    have hbw : Below w.heap.size w wr := HB9.out.trans (hon.below (fun q hq => by have h1 := HR.out; have h2 := HC.out; omega) HB9.out.size)
    have hb3w : Below w3.heap.size w3 wr := HB39.out.trans (hon.below (fun q hq => by have h1 := HR.out; have h2 := HC3.out; omega) HB39.out.size)
    have HBW := Lib.hid hbw
    have HB3W := Lib.hid hb3w
    have HAT := Lib.hid hat
    have HBX := Lib.hid hbx
    have HON := Lib.hid hon
    have HI := Lib.hid (And.intro hi0 hi1)
    clear hbw hb3w hat hbx hon
    obtain ⟨_, hcx, hzl, _, _⟩ := HW1.out
    by_cases hlt : k < len1
    · have hd1 : decide ((k : Int) < (len1 : Int)) = true := decide_eq_true (by omega)
      by_cases h40 : k < 40
      · have hd2 : decide ((k : Int) < 40) = true := decide_eq_true (by omega)
        obtain ⟨b1, o1, e1, hb1, hc1⟩ := row_int' ((HW1.out.2.2.2.1)) (k := k) (by rw [hzl]; exact hlt)
        subst e1
        obtain ⟨a, ha⟩ : ∃ a, a = z1.getD k 0 := ⟨_, rfl⟩
        rw [← ha] at hc1
        have hawf : -9223372036854775808 ≤ a ∧ a ≤ 9223372036854775807 := by
          have := HW1.out.2.2.2.2 a (by rw [ha, List.getD_eq_getElem?_getD, List.getElem?_eq_getElem (by omega)]; simp)
          exact wf_bd this
        have HASK : Hid (∀ w', Below w.heap.size w w' → w'.cell? ⟨b1, o1 + k, none⟩ = some (.int .i64 a)) := Lib.hid fun w' h => (h.cell hb1).trans hc1
        have HAW := Lib.hid hawf
        clear ha hc1 hawf
        have hk0 : (0 : Int) ≤ (k : Int) := by omega
        have hk1 : (k : Int) < (len1 : Int) := by omega
        have ask0 := HASK.out wr HBW.out
        have hdd := fun (i' : Int) (w' : World) (h : Below w3.heap.size w3 w') h0 h1 => ref06_Doc A2 n c2 g i' w' HN.out.symm (by have := GG.out.len; have := HN.out; omega) ((HP3.out.below h).more h.size) h0 h1
        unfold curV at hdd
        have HDD := Lib.hid hdd
        clear hdd
        go_upto_if 43 with fail
        go_cut [11] from 43 to 59 (fun s wx => ∃ i' : Int, s = .int .i64 (docC g i') ∧ -1 ≤ i' ∧ i' ≤ (n : Int) ∧ At i' wx ∧ BoxAt R A2 n c2 i' wx ∧ OnlyIn (fun q => q = C ∨ q = R) wr wx)
        case first =>
          by_cases hneg : a < 0
          · have hdn : decide (a < 0) = true := decide_eq_true hneg
            rw [hdn]
            clear hneg
            have nx := HCO.out.next i wr HAT.out HI.out.1 (by have := HI.out.2; have := HN.out; omega)
            have hni0 : -1 ≤ nextC g i ∧ nextC g i ≤ (n : Int) := by have := HI.out; have := HN.out; unfold nextC; split <;> omega
            have hrn := fun w' => ref06_Next A2 n c2 g i w' HN.out.symm (by have := GG.out.len; have := HN.out; omega) HI.out.1 HI.out.2
            unfold curV at hrn
            obtain ⟨i', hi'⟩ : ∃ i', i' = nextC g i := ⟨_, rfl⟩
            rw [← hi'] at nx hni0 hrn
            obtain ⟨x, hx⟩ : ∃ x, x = docC g i' := ⟨_, rfl⟩
            rw [← hx] at nx
            have HX := Lib.hid hx
            have HRN := Lib.hid hrn
            have HNX := Lib.hid nx
            have HNI := Lib.hid hni0
            clear hx hrn nx hni0 hi'
            go_wp2_with (go_at_call 13; (with_reducible refine HNX.out.mono ?_))
            rintro e w10 ⟨rfl, hat10, hon10⟩
            have hbx10 : BoxAt R A2 n c2 i w10 := (hon10.block R (lt_of_block HBX.out) (fun h => HR.out.2.2 h.symm)).trans HBX.out
            obtain ⟨q0, q1, f0, f1⟩ := cellsPair hbx10
            have HAT10 := Lib.hid hat10
            have HBX10 := Lib.hid hbx10
            have HON10 : Hid (OnlyIn (fun q => q = C ∨ q = R) wr w10) := Lib.hid (hon10.mono06 fun z hz => .inl hz)
            clear hat10 hon10 hbx10
            go_wp2_with (go_at_call 14; (with_reducible refine (HRN.out _).mono ?_))
            rintro e w11 ⟨rfl, hb11⟩
            have hbx11 : BoxAt R A2 n c2 i w11 := (hb11.block R (lt_of_block HBX10.out)).trans HBX10.out
            obtain ⟨q2, q3, f2, f3⟩ := cellsPair hbx11
            have HFIN := Lib.hid (play_set HCO.out HR.out.2.2 hbx11 (HCO.out.stays _ _ _ HAT10.out hb11) (HON10.out.trans (OnlyIn.of_below hb11)) (i' := i') (j' := i'))
            clear hb11 hbx11
            go_wp2
            go_meet
            exact ⟨i', by rw [HX.out], HNI.out.1, HNI.out.2, HFIN.out⟩
          · have hdn : decide (a < 0) = false := decide_eq_false hneg
            rw [hdn]
            clear hneg
            have nx := HCO.out.advance i wr a HAT.out HI.out.1 (by have := HI.out.2; have := HN.out; omega) HAW.out.1 HAW.out.2
            have hni0 : -1 ≤ advC g a i ∧ advC g a i ≤ (n : Int) := by
              have h1 := advC_bd (g := g) (doc := a) _ i rfl (by have := HI.out.2; have := HN.out; omega)
              have := HI.out
              have := HN.out
              omega
            have hrn := fun w' (h : Below w3.heap.size w3 w') => ref06_Advance A2 n c2 g a i w' HN.out.symm (by have := GG.out.len; have := HN.out; omega) ((HP3.out.below h).more h.size) HI.out.1 HI.out.2
            unfold curV at hrn
            obtain ⟨i', hi'⟩ : ∃ i', i' = advC g a i := ⟨_, rfl⟩
            rw [← hi'] at nx hni0 hrn
            obtain ⟨x, hx⟩ : ∃ x, x = docC g i' := ⟨_, rfl⟩
            rw [← hx] at nx
            have HX := Lib.hid hx
            have HRN := Lib.hid hrn
            have HNX := Lib.hid nx
            have HNI := Lib.hid hni0
            clear hx hrn nx hni0 hi'
            go_wp2_with (go_at_call 15; (with_reducible refine HNX.out.mono ?_))
            rintro e w10 ⟨rfl, hat10, hon10⟩
            have hbx10 : BoxAt R A2 n c2 i w10 := (hon10.block R (lt_of_block HBX.out) (fun h => HR.out.2.2 h.symm)).trans HBX.out
            obtain ⟨q0, q1, f0, f1⟩ := cellsPair hbx10
            have hb10 : Below w.heap.size w w10 := HBW.out.trans ((hon10.below (fun q hq => by have h1 := HC.out; omega) HBW.out.size))
            have hb310 : Below w3.heap.size w3 w10 := HB3W.out.trans ((hon10.below (fun q hq => by have h1 := HC3.out; omega) HB3W.out.size))
            have ask1 := HASK.out w10 hb10
            have HAT10 := Lib.hid hat10
            have HBX10 := Lib.hid hbx10
            have HON10 : Hid (OnlyIn (fun q => q = C ∨ q = R) wr w10) := Lib.hid (hon10.mono06 fun z hz => .inl hz)
            have HB310 := Lib.hid hb310
            clear hat10 hon10 hbx10 hb10 hb310
            go_wp2
            refine wp_region_still_tail 5 (by kernel_rfl) (by kernel_rfl) ?_
            simp only [List.take_succ_cons, List.take_zero, List.drop_succ_cons, List.drop_zero]
            still_step
            still_step
            still_step
            still_step
            still_step
            refine wpStill_nil ?_
            change wpList _ _ _ _ _ w10.drew
            obtain ⟨wd, hwd⟩ : ∃ wd, wd = w10.drew := ⟨_, rfl⟩
            have hbd : Below w10.heap.size w10 wd := by rw [hwd]; exact (Below.refl _ _).drew
            rw [← hwd]
            clear hwd
            go_wp2_with (go_at_call 16; (with_reducible refine (HRN.out _ (HB310.out.trans (hbd.mono HB310.out.size))).mono ?_))
            rintro e w11 ⟨rfl, hb11⟩
            have hb11 := hbd.trans (hb11.mono hbd.size)
            have hbx11 : BoxAt R A2 n c2 i w11 := (hb11.block R (lt_of_block HBX10.out)).trans HBX10.out
            obtain ⟨q2, q3, f2, f3⟩ := cellsPair hbx11
            have HFIN := Lib.hid (play_set HCO.out HR.out.2.2 hbx11 (HCO.out.stays _ _ _ HAT10.out hb11) (HON10.out.trans (OnlyIn.of_below hb11)) (i' := i') (j' := i'))
            clear hb11 hbx11 hbd
            go_wp2
            go_meet
            exact ⟨i', by rw [HX.out], HNI.out.1, HNI.out.2, HFIN.out⟩
        case rest =>
          obtain ⟨i', rfl, hi0', hi1', hat', hbx', hon'⟩ := hcut
          obtain ⟨x, hx⟩ : ∃ x, x = docC g i' := ⟨_, rfl⟩
          rw [← hx]
          obtain ⟨q0, q1, _, _⟩ := cellsPair hbx'
          have hon2 := HON.out.trans hon'
          have hb3c : Below w3.heap.size w3 wc := HB39.out.trans (hon2.below (fun q hq => by have h1 := HR.out; have h2 := HC3.out; omega) HB39.out.size)
          have HD := Lib.hid (HDD.out i' wc hb3c hi0' hi1')
          rw [← hx] at HD
          have HLK := Lib.hid (fun w' (h : Below wc.heap.size wc w') => LK.out i' w' (HCO.out.stays _ _ _ hat' h) (hb3c.trans (h.mono hb3c.size)) hi0' hi1')
          have HAT' := Lib.hid hat'
          have HBX' := Lib.hid hbx'
          have HON2 := Lib.hid hon2
          have HI' := Lib.hid (And.intro hi0' hi1')
          have hxx : (x == x) = true := by simp
          clear hon' hat' hbx' hon2 hb3c hi0' hi1' hx
          go_wp2_with (go_at_call 17; (with_reducible refine HD.out.mono ?_))
          rintro e w12 ⟨rfl, hb12⟩
          have hbx12 : BoxAt R A2 n c2 i' w12 := (hb12.block R (lt_of_block HBX'.out)).trans HBX'.out
          obtain ⟨q2, q3, _, _⟩ := cellsPair hbx12
          have HLK2 := Lib.hid (HLK.out _ hb12)
          have HB12 := Lib.hid hb12
          clear hb12 hbx12 q0 q1
          go_wp2_with (go_at_call 12; (with_reducible refine HLK2.out.mono ?_))
          rintro e w13 ⟨rfl, hb13⟩
          have hb13 := HB12.out.trans (hb13.mono HB12.out.size)
          have hfin : PlayRel n C R A2 c2 At w9 (.int .i64 ((k : Int) + 1)) w13 := ⟨k + 1, i', by simp, by omega, HI'.out.1, HI'.out.2, HCO.out.stays _ _ _ HAT'.out hb13, (hb13.block R (lt_of_block HBX'.out)).trans HBX'.out, HON2.out.trans (OnlyIn.of_below hb13)⟩
          have HF := Lib.hid hfin
          clear hfin hb13 q2 q3
          go_wp2
          go_roundw
          case rel => exact HF.out
          case measure => simp [intOf]; omega
      · have hd2 : decide ((k : Int) < 40) = false := decide_eq_false (by omega)
        clear h40
        go_wp2_with (go_at_call 18; (with_reducible refine (LV.out _).mono ?_); rintro e w16 ⟨rfl, hb16⟩)
        go_wp2
        go_ret
        exact ⟨rfl, HBW.out.trans (hb16.mono HBW.out.size)⟩
    · clear hi0 hi1 hk40
      have hd1 : decide ((k : Int) < (len1 : Int)) = false := decide_eq_false (by omega)
      have hd3 : decide (k < len1) = false := decide_eq_false hlt
      have hge : len1 ≤ k := by omega
      clear hlt
      go_wp2_with (go_at_call 18; (with_reducible refine (LV.out _).mono ?_); rintro e w16 ⟨rfl, hb16⟩)
      go_wp2
      go_ret
      exact ⟨rfl, HBW.out.trans (hb16.mono HBW.out.size)⟩
end Go.Proofs.Ytnmnbckaccicaaa
