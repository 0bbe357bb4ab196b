/- BufferPlays holds of any deeds that came in, and any key. -/
import Derived.Test.YtgcdekaceimdnaaGreatPlay09
import Derived.Test.YtgcdekaceimdnaaGreatQ15
import Derived.Test.YtgcdekaceimdnaaGreatLike09
import Derived.Test.YtgcdekaceimdnaaGreatQ16
import Derived.Test.YtgcdekaceimdnaaGreatFewD09
import Derived.Test.YtgcdekaceimdnaaGreatAddE09
import Derived.Test.YtgcdekaceimdnaaGreatArgD09
import Derived.Deep.DeepCutAuto
import Derived.Deep.RegionHeld3
namespace Go.Proofs.YtgcdekaceimdnaaGreat
open Go Go.RowKit
set_option linter.unusedVariables false

def PlayRel (B R : Nat) (len0 : Nat) (w : World) (x : Value) (wr : World) : Prop := ∃ k : Nat, k ≤ len0 ∧ k ≤ 15 ∧ x = .int .i64 (k : Int) ∧ PlayMid B R k w wr

/-- The document at block D. -/
def PlayDoc (D : Nat) (id : Int) (wr wx : World) : Prop := ∃ (fs : List Fd) (A : Option Addr) (c : Nat), wx.heap[D]? = some (.cells #[.int .i64 id, .slice A fs.length c] 30 (0, 0)) ∧ OwnFd wr.heap.size wx (.slice A fs.length c) fs ∧ (fs.length ≤ c ∧ c ≤ maxLen) ∧ (A = none ∨ ∃ b o, A = some ⟨b, o, none⟩) ∧
  fs.length ≤ 10 ∧ (∀ f ∈ fs, f.1.length ≤ 20 ∧ f.2.length ≤ 60) ∧ Below wr.heap.size wr wx ∧ wr.heap.size ≤ D
set_option maxHeartbeats 8000000 in
set_option maxRecDepth 100000 in
theorem walk_BufferPlays (a0 : Option Addr) (len0 cap0 : Nat) (z0 : List Dd) (key : ByteArray) (W : World) (h0 : InDeeds09 W a0 len0 cap0 z0) (hkey : key.size ≤ maxLen) :
    Calls Tryz.prog 3 #[.slice a0 len0 cap0, .string key] W fun e W' => e = .returned (.bool true) ∧ Below W.heap.size W W' := by
  obtain ⟨g1, g2, g3, g4, g5⟩ := h0
  have HN := Lib.hid g4
  have HGD := Lib.hid g5
  have HL3 := Lib.hid g3
  have HNEW : Hid (∀ S B w1, BufAt S w1 B [] (-1) → (∀ k, S k → W.heap.size ≤ k) → Below W.heap.size W w1 → ∀ w2, w2 = w1.alloc (.cells #[.slice none 0 0, .int .i64 (-1)] 27) → PlayMid B w1.heap.size 0 W w2) := Lib.hid fun S B w1 hb hS hbw w2 hw2 => by
    have hb2 : Below w1.heap.size w1 w2 := by rw [hw2]; exact (Below.refl _ _).alloc (Nat.le_refl _) _
    exact ⟨S, [], -1, none, 0, 0, Nat.le_refl _, hb.below hb2, hS, by rw [hw2]; exact heap_alloc_new _ _, fun hs => Nat.lt_irrefl _ (hb.lt _ hs), hbw.size, rfl, NestP.nil, hbw.trans (hb2.mono hbw.size)⟩
  clear g3 g4 g5
  go_enter Tryz.func3, Tryz.ntmps3
  go_upto_region 6 with (first
    | (go_at_call 7; (with_reducible refine (buf_New W).mono ?_); rintro e w1 ⟨S, B, rfl, hb1, hS1, hw1⟩
       have HB1 := Lib.hid hb1
       have HS1 := Lib.hid hS1
       have HW1 := Lib.hid hw1
       clear hb1 hS1 hw1))
  obtain ⟨w2, hw2⟩ : ∃ w2, w2 = w1.alloc (.cells #[.slice none 0 0, .int .i64 (-1)] 27) := ⟨_, rfl⟩
  have HST := Lib.hid (HNEW.out S B w1 HB1.out HS1.out HW1.out w2 hw2)
  rw [← hw2]
  obtain ⟨R, hR⟩ : ∃ R, R = w1.heap.size := ⟨_, rfl⟩
  rw [← hR] at HST ⊢
  generalize key.extract 0 (min (↑key.size) 20 : Int).toNat = kx
  clear hw2 hR HNEW HB1 HS1 HW1
  go_wp2
  go_loopw [7] (fun x wr => PlayRel B R len0 W x wr) (fun x _ => len0 - (intOf x).toNat)
  case atStart => exact ⟨0, Nat.zero_le _, Nat.zero_le _, rfl, HST.out⟩
  case round =>
    obtain ⟨k, hk, hk15, rfl, Sk, L, up, A, n, c, hnk, hp⟩ := hrel
    by_cases hlt : k < len0 ∧ k < 15
    · obtain ⟨hkl0, hk5⟩ := hlt
      have hkl : k < z0.length := by rw [HL3.out]; exact hkl0
      obtain ⟨b1, o1, A1, c1, e1, hb1, d0, d1, d2, d3, d4, hc1, hc1x, hfr⟩ := deedS_at (Nest.below HN.out hp.bel) hkl
      subst e1
      obtain ⟨wf0, wf1, hfd⟩ := HGD.out _ (List.getElem_mem hkl)
      obtain ⟨dd, hdd⟩ : ∃ dd, dd = z0[k] := ⟨_, rfl⟩
      rw [← hdd] at d0 d1 d2 d3 d4 hc1 hfr wf0 wf1 hfd
      obtain ⟨kd, N, id, fs, raw⟩ := dd
      simp only at d0 d1 d2 d3 d4 hc1 hfr wf0 wf1 hfd
      obtain ⟨m, hm⟩ : ∃ m, m = fs.length := ⟨_, rfl⟩
      rw [← hm] at d3 hc1
      have k0 : (0 : Int) ≤ k := by omega
      have k1 : (k : Int) < len0 := by omega
      have k2 : (k : Int) < 15 := by omega
      have HP := Lib.hid hp
      have HFR : Hid (FRow wr W.heap.size A1 fs) := Lib.hid hfr
      have HFD := Lib.hid hfd
      have HM := Lib.hid hm
      have HDD : Hid (∀ w', Below W.heap.size wr w' → w'.cell? ⟨b1, o1 + k * 5, none⟩ = some (.int .i64 kd) ∧ w'.cell? ⟨b1, o1 + k * 5 + 1, none⟩ = some (.int .i64 N) ∧ w'.cell? ⟨b1, o1 + k * 5 + 2, none⟩ = some (.int .i64 id) ∧ w'.cell? ⟨b1, o1 + k * 5 + 3, none⟩ = some (.slice A1 m c1) ∧ w'.cell? ⟨b1, o1 + k * 5 + 4, none⟩ = some (.bool raw)) := Lib.hid fun w' h =>
        ⟨(h.cell (p := ⟨b1, _, none⟩) hb1).trans d0, (h.cell (p := ⟨b1, _, none⟩) hb1).trans d1, (h.cell (p := ⟨b1, _, none⟩) hb1).trans d2, (h.cell (p := ⟨b1, _, none⟩) hb1).trans d3, (h.cell (p := ⟨b1, _, none⟩) hb1).trans d4⟩
      clear hp hfr hfd hm hdd hb1 wf0
      go_upto_if 37 with fail
      obtain ⟨t1, ht1⟩ : ∃ t1, t1 = (kd != 0) := ⟨_, rfl⟩
      rw [← ht1]
      clear ht1
      go_cut [8, 9, 10, 11] from 38 to 77 (fun s8 s9 s10 s11 wx => PlayMid B R (k + 1) W wx)
      case first =>
        cases t1 with
        | true =>
          have hpd := HP.out.below (Below.refl _ wr).drew
          have hpn := HP.out.len
          have hgl := HP.out.buf.good
          have HSEC : Hid (Calls Tryz.prog 9 #[.pointer (some ⟨B, 0, none⟩)] wr.drew fun e w' => ∃ S' A5 c5, e = .returned (.slice A5 n c5) ∧ PlayAt S' B R [] up A n c L up W w' ∧ Nest enS w' w'.heap.size A5 L) := Lib.hid ((buf_Seal hpd.buf).mono fun e w' h => by
            obtain ⟨S', A5, c5, r1, r2, r3⟩ := hpd.sealed h
            rw [hpn] at r1
            exact ⟨S', A5, c5, r1, r2, r3⟩)
          have HSAM : Hid (∀ (S' : Nat → Prop) (A5 : Option Addr) (c5 : Nat) w', PlayAt S' B R [] up A n c L up W w' → Nest enS w' w'.heap.size A5 L → Calls Tryz.prog 8 #[.slice A5 n c5, .slice A n c] w' fun e w'' => e = .returned (.bool true) ∧ PlayAt S' B R [] up A n c L up W w'') := Lib.hid fun S' A5 c5 w' h h5 =>
            (ref09_Same A5 A n n c5 c L w' hpn hpn h5 (h.nest.imp fun k hk => hk.1) (by omega) fun q hq => by have := (hgl q hq).len; omega).mono fun e w'' h2 => ⟨h2.1, h.below h2.2⟩
          have HS0 : Hid (wr.drew.cell? ⟨R, 0, none⟩ = some (.slice A n c)) := Lib.hid hpd.cells.1
          clear hpd hpn hgl
          go_upto_region 10 with fail
          go_region_held3 (fun w' => w'.cell? ⟨R, 0, none⟩ = some (.slice A n c))
            (first | exact HS0.out | exact HP4.out.cells.1 | exact HP5.out.cells.1)
            (first
              | (go_at_call 9; (with_reducible refine HSEC.out.mono ?_); rintro e w4 ⟨S4, A5, c5, rfl, hp4, hn4⟩
                 have HP4 := Lib.hid hp4
                 have HN4 := Lib.hid hn4
                 clear hp4 hn4)
              | (go_at_call 8; (with_reducible refine (HSAM.out _ _ _ _ HP4.out HN4.out).mono ?_); rintro e w5 ⟨rfl, hp5⟩
                 have HP5 := Lib.hid hp5
                 clear hp5))
          all_goals
            obtain ⟨r0, r1, r2, r3⟩ := HP5.out.cells
            go_wp2_with fail
            go_meet
            have hnn : NestP enS (Beside S4 R w5) w5 none [] := NestP.nil
            exact ⟨S4, [], up, none, 0, 0, Nat.zero_le _, HP5.out.put (by rw [set_at HP5.out.rb]; rfl) (fun k hk => set_ne (Ne.symm hk)) (by simp) rfl rfl rfl rfl hnn⟩
        | false =>
          have hfl := fewD_length fs
          have hfb := fewD_bd fs
          have hp1 := HP.out.rge
          have hRlt := lt_of_block HP.out.rb
          have hWr := HP.out.bel.size
          have HFEW := Lib.hid (law09_few id A1 m c1 fs wr HM.out.symm (FRow.more HFR.out hWr) (by unfold maxLen at hc1x; omega) fun f hf => by
            have := HFD.out f hf
            unfold maxLen at this
            omega)
          obtain ⟨e1, e2, e3, e4, e5⟩ := HDD.out wr (Below.refl _ _)
          clear d0 d1 d2 d3 d4
          go_upto_if 56 with (first
            | (go_at_call 10; (with_reducible refine HFEW.out.mono ?_); rintro e w2 ⟨v2, rfl, ho2, hb2⟩
               obtain ⟨A2, c2, rfl, hc2, hr2, hA2⟩ := ho2.room9
               have HO2 := Lib.hid ho2
               have HB2 := Lib.hid hb2
               have hWr2 : W.heap.size ≤ w2.heap.size := Nat.le_trans hWr hb2.size
               have f5 : ∀ o, (w2.alloc o).cell? ⟨b1, o1 + k * 5 + 4, none⟩ = some (.bool raw) := fun o => (HDD.out _ ((hb2.mono hWr).alloc hWr2 o)).2.2.2.2
               obtain ⟨n2, hn2⟩ : ∃ n2, n2 = (fewD fs).length := ⟨_, rfl⟩
               rw [← hn2] at hc2 HO2 hfl ⊢
               have HN2 := Lib.hid hn2
               have HR2 := Lib.hid hr2
               clear ho2 hb2 hr2 hn2))
          obtain ⟨t2, ht2⟩ : ∃ t2, t2 = !raw := ⟨_, rfl⟩
          rw [← ht2]
          clear ht2
          obtain ⟨D, hD⟩ : ∃ D, D = w2.heap.size := ⟨_, rfl⟩
          obtain ⟨w3, hw3⟩ : ∃ w3, w3 = w2.alloc (.cells #[.int .i64 id, .slice A2 n2 c2] 30) := ⟨_, rfl⟩
          have hb23 : Below w2.heap.size w2 w3 := by rw [hw3]; exact (Below.refl _ _).alloc (Nat.le_refl _) _
          have hD3 : w3.heap[D]? = some (.cells #[.int .i64 id, .slice A2 n2 c2] 30 (0, 0)) := by rw [hw3, hD]; exact heap_alloc_new _ _
          have hb3 : Below wr.heap.size wr w3 := HB2.out.trans (hb23.mono HB2.out.size)
          have ho3 : OwnFd wr.heap.size w3 (.slice A2 n2 c2) (fewD fs) := HO2.out.below hb23
          have hDwr : wr.heap.size ≤ D := by rw [hD]; exact HB2.out.size
          rw [← hw3, ← hD]
          have HMID3 : Hid (PlayDoc D id wr w3) := Lib.hid ⟨fewD fs, A2, c2, by rw [← HN2.out]; exact hD3, by rw [← HN2.out]; exact ho3, by rw [← HN2.out]; exact hc2, hA2, by rw [← HN2.out]; exact hfl, hfb, hb3, hDwr⟩
          obtain ⟨x0, x1, x2, x3⟩ := two_cells hD3
          have HD3 := Lib.hid hD3
          have HB3 := Lib.hid hb3
          have HGO : Hid (Calls Tryz.prog 11 #[docV id A2 n2 c2] w3 fun e w' => ∃ v, e = .returned (.agg #[.int .i64 id, v]) ∧ OwnFd w3.heap.size w' v (goodD (fewD fs)) ∧ Below w3.heap.size w3 w') := Lib.hid (ref08_Good id A2 n2 c2 (fewD fs) w3 HN2.out.symm (FRow.later HR2.out hb23) (by omega) fun f hf => by have := hfb f hf; omega)
          have hD3lt := lt_of_block hD3
          clear hD hw3 hb23 hD3 hb3 ho3 hfl hfb f5
          go_cut [] from 57 to 58 (fun wx => PlayDoc D id wr wx)
          case first =>
            cases t2 with
            | true =>
              go_wp2_with (first
                | (go_at_call 11; (with_reducible refine HGO.out.mono ?_); rintro e w4 ⟨v4, rfl, ho4, hb4⟩
                   obtain ⟨A4, c4, rfl, hc4, hr4, hA4⟩ := ho4.room9
                   have hD4 := (hb4.block D hD3lt).trans HD3.out
                   have HD4 := Lib.hid hD4
                   have HO4 := Lib.hid ho4
                   have HB4 := Lib.hid hb4
                   have HC4 := Lib.hid (And.intro hc4 hA4)
                   obtain ⟨y0, y1, y2, y3⟩ := two_cells hD4
                   clear hD4 ho4 hb4 hr4 hc4 hA4))
              go_meet
              have hgd := goodD_good (fewD fs)
              refine ⟨goodD (fewD fs), A4, c4, by rw [set_at (set_at HD4.out)]; rfl, ?_, HC4.out.1, HC4.out.2, by have := hgd.len; omega, fun f hf => ⟨by have := hgd.names f hf; omega, by have := goodUp_text (fewD fs) _ f hf; omega⟩, ((HB3.out.trans (HB4.out.mono HB3.out.size)).setCell hDwr _).setCell hDwr _, hDwr⟩
              have h9 := ownsRow_setCell_below (ownsRow_setCell_below HO4.out (a := ⟨D, 0, none⟩) hD3lt (.int .i64 id)) (a := ⟨D, 1, none⟩) hD3lt (.slice A4 (goodD (fewD fs)).length c4)
              exact (show OwnFd w3.heap.size _ _ _ from h9).low HB3.out.size
            | false =>
              go_wp2_with fail
              go_meet
              exact HMID3.out
          case rest =>
            obtain ⟨w4, rfl⟩ : ∃ w4, w4 = wc := ⟨_, rfl⟩
            obtain ⟨fs', A3, c3, hD4, ho4, hc4, hA4, hfl, hfb, hb4, _⟩ := hcut
            obtain ⟨n3, hn3⟩ : ∃ n3, n3 = fs'.length := ⟨_, rfl⟩
            rw [← hn3] at hD4 ho4 hc4 hfl
            have hdd4 := HDD.out w4 (hb4.mono hWr)
            have HSD : Hid (∀ w', Below w4.heap.size w4 w' → w'.cell? ⟨D, 0, none⟩ = some (.int .i64 id) ∧ w'.cell? ⟨D, 1, none⟩ = some (.slice A3 n3 c3) ∧ w'.cell? ⟨b1, o1 + k * 5 + 1, none⟩ = some (.int .i64 N)) := Lib.hid fun w' h => by
              have := two_cells ((h.block D (lt_of_block hD4)).trans hD4)
              exact ⟨this.1, this.2.1, (HDD.out w' ((hb4.mono hWr).trans (h.mono (by have := hb4.size; omega)))).2.1⟩
            have HP4 := Lib.hid (HP.out.below hb4)
            have HO4 := Lib.hid ho4
            have HN3 := Lib.hid hn3
            have HFB := Lib.hid hfb
            have HB4 := Lib.hid hb4
            have hwr4 := hb4.size
            have hDw4 := lt_of_block hD4
            clear hD4 ho4 hb4 hdd4 hfb hn3 x0 x1 x2 x3
            go_upto_region 16 with fail
            go_cut [9] from 59 to 65 (fun s wx => s = .pointer (some ⟨w4.heap.size, 0, none⟩) ∧ wx.heap[w4.heap.size]? = some (.cells #[.int .i64 id, .slice A3 n3 c3, .int .i64 N] 37 (0, 0)) ∧ Below w4.heap.size w4 wx)
            case first =>
              go_region_held3 (fun w' => w'.cell? ⟨D, 0, none⟩ = some (.int .i64 id) ∧ w'.cell? ⟨D, 1, none⟩ = some (.slice A3 n3 c3) ∧ w'.cell? ⟨b1, o1 + k * 5 + 1, none⟩ = some (.int .i64 N))
                (first | exact HSD.out _ (Below.refl _ _).drew | exact HSD.out _ ((Below.refl _ w4).alloc (Nat.le_refl _) _).drew)
                (fail)
              all_goals
                go_wp2_with fail
                go_meet
                exact ⟨rfl, heap_alloc_new w4 _, ((Below.refl _ w4).alloc (Nat.le_refl _) _).drew⟩
            case rest =>
              obtain ⟨w5, rfl⟩ : ∃ w5, w5 = wc := ⟨_, rfl⟩
              obtain ⟨rfl, hE5, hb5⟩ := hcut
              obtain ⟨E, hE⟩ : ∃ E, E = w4.heap.size := ⟨_, rfl⟩
              rw [← hE] at hE5 ⊢
              have hp5 := HP4.out.below hb5
              have ho5 : OwnFd wr.heap.size w5 (.slice A3 n3 c3) fs' := HO4.out.below hb5
              have hElt := lt_of_block hE5
              have hrow : ∀ w', OwnFd wr.heap.size w' (.slice A3 n3 c3) fs' → RowP (fun k => Beside Sk R w' k) w' A3 (flds fs') := fun w' h => by
                unfold OwnFd at h
                rw [← HN3.out] at h
                exact (RowF.of_own (S := fun k => wr.heap.size ≤ k) h fun k h1 _ => h1).1.imp fun k hk => ⟨hk.lt, fun hs => by have := HP.out.buf.lt k hs; have := hk.1; omega, by have := hk.1; omega⟩
              obtain ⟨EM, hEM⟩ : ∃ EM, EM = mayE up ((id, fs', N) : En) := ⟨_, rfl⟩
              have HEM := Lib.hid hEM
              have HADR : Hid (Calls Tryz.prog 12 #[.agg #[.slice A n c, .int .i64 up], .agg #[.int .i64 id, .slice A3 n3 c3, .int .i64 N]] w5 fun e w6 => ∃ A10 n10 c10 L10 l10, e = .returned (.tuple #[.agg #[.slice A10 n10 c10, .int .i64 l10], .int .i64 EM]) ∧ L10.length = n10 ∧ n10 ≤ k + 1 ∧ NestP enS (Beside Sk R w6) w6 A10 L10 ∧ (EM ≠ 0 → L10 = L ∧ l10 = up) ∧ (EM = 0 → L10 = L ++ [((id, fs', N) : En)] ∧ l10 = N) ∧ Below w5.heap.size w5 w6) := Lib.hid (by
                refine (ref09_Add A n c L up id A3 n3 c3 fs' N w5 (Beside Sk R w5) (fun k hk => hk.1) hp5.len hp5.nest (by omega) HN3.out.symm (hrow w5 ho5) hc4.1 hc4.2 (by omega) fun f hf => by have := HFB.out f hf; omega).mono ?_
                rintro e w6 ⟨v10, l10, rfl, h1, h2, hb6⟩
                rw [← hEM] at h1 h2 ⊢
                have hlt5 := lt_of_block hp5.rb
                have hs6 := hb6.size
                by_cases hz : EM = 0
                · obtain ⟨⟨A', c', rfl, hnp⟩, hlN⟩ := h2 hz
                  refine ⟨A', n + 1, c', L ++ [((id, fs', N) : En)], _, rfl, by rw [List.length_append, hp5.len]; rfl, by omega, hnp.imp fun b hb => ?_, fun h => absurd hz h, fun _ => ⟨rfl, hlN⟩, hb6⟩
                  rcases hb with hb | hb
                  · exact ⟨by have := hb.1; omega, hb.2⟩
                  · exact ⟨hb.2, fun hs => by have := hp5.buf.lt b hs; omega, by omega⟩
                · obtain ⟨rfl, hlU⟩ := h1 hz
                  exact ⟨A, n, c, L, _, rfl, hp5.len, by omega, (hp5.nest.keep fun b hb => hb6.block b hb.1).imp fun b hb => ⟨by have := hb.1; omega, hb.2⟩, fun _ => ⟨rfl, hlU⟩, fun h => absurd h hz, hb6⟩)
              obtain ⟨r0, r1, r2, r3⟩ := hp5.cells
              obtain ⟨s0, s1, s2⟩ := three_cells hE5
              have hRw5 := lt_of_block hp5.rb
              have HP5 := Lib.hid hp5
              have HO5 := Lib.hid ho5
              have HE5 := Lib.hid hE5
              have HROW := Lib.hid hrow
              have HC4 := Lib.hid hc4
              have hER : E ≠ R := by omega
              clear hE hp5 ho5 hE5 hrow hc4 hEM hb5
              go_upto_region 18 with (first
                | (go_at_call 12; (with_reducible refine HADR.out.mono ?_); rintro e w6 ⟨A10, n10, c10, L10, l10, rfl, hl10, hn10, hnp, hx1, hx2, hb6⟩
                   have HL10 := Lib.hid hl10
                   have HNP := Lib.hid hnp
                   have HX1 := Lib.hid hx1
                   have HX2 := Lib.hid hx2
                   have HB6 := Lib.hid hb6
                   clear hl10 hnp hx1 hx2 hb6))
              obtain ⟨w7, hw7⟩ : ∃ w7, w7 = w6.alloc (.cells #[.slice A10 n10 c10, .int .i64 l10] 27) := ⟨_, rfl⟩
              have hb67 : Below w6.heap.size w6 w7 := by rw [hw7]; exact (Below.refl _ _).alloc (Nat.le_refl _) _
              have hX7 : w7.heap[w6.heap.size]? = some (.cells #[.slice A10 n10 c10, .int .i64 l10] 27 (0, 0)) := by rw [hw7]; exact heap_alloc_new _ _
              have hb57 := HB6.out.trans (hb67.mono HB6.out.size)
              have hp7 := HP5.out.below hb57
              have ho7 : OwnFd wr.heap.size w7 (.slice A3 n3 c3) fs' := HO5.out.below hb57
              have hE7 := (hb57.block E hElt).trans HE5.out
              have hnp7 : NestP enS (Beside Sk R w7) w7 A10 L10 := (HNP.out.keep fun b hb => hb67.block b hb.1).imp fun b hb => ⟨Nat.lt_of_lt_of_le hb.1 hb67.size, hb.2⟩
              obtain ⟨w8, hw8⟩ : ∃ w8, w8 = (w7.setCell ⟨R, 0, none⟩ (.slice A10 n10 c10)).setCell ⟨R, 1, none⟩ (.int .i64 l10) := ⟨_, rfl⟩
              have hk8 : ∀ j, j ≠ R → w8.heap[j]? = w7.heap[j]? := fun j hj => by rw [hw8, set_ne (Ne.symm hj), set_ne (Ne.symm hj)]
              have hp8 := hp7.put (w' := w8) (L' := L10) (A' := A10) (n' := n10) (c' := c10) (last' := l10) (by rw [hw8, set_at (set_at hp7.rb)]; rfl) hk8 (by rw [hw8]; simp) (by rw [hw8]; rfl) (by rw [hw8]; rfl) (by rw [hw8]; rfl) HL10.out hnp7
              have ho8 : OwnFd wr.heap.size w8 (.slice A3 n3 c3) fs' := by
                rw [hw8]
                exact ownsRow_setCell_below (ownsRow_setCell_below ho7 (a := ⟨R, 0, none⟩) hRlt _) (a := ⟨R, 1, none⟩) hRlt _
              have hE8 := (hk8 E hER).trans hE7
              have hADD := buf_Add hp8.buf ((id, fs', N) : En) A3 n3 c3 HN3.out.symm HC4.out.1 ((HROW.out w8 ho8).imp fun b hb => ⟨hb.1, hb.2.1⟩) hA4 (by omega) (fun f hf => by have := HFB.out f hf; omega) (by have := HP.out.len; omega)
              have HAB : Hid (Calls Tryz.prog 13 #[.pointer (some ⟨B, 0, none⟩), .agg #[.int .i64 id, .slice A3 n3 c3, .int .i64 N]] w8 fun e w9 => e = .returned (.int .i64 EM) ∧ PlayMid B R (k + 1) W w9) := Lib.hid (hADD.mono fun e w9 h => by
                obtain ⟨rfl, h1, h2⟩ := h
                rw [← HEM.out] at h1 h2 ⊢
                refine ⟨rfl, ?_⟩
                by_cases hz : EM = 0
                · obtain ⟨S', hb9, hS9, ho9⟩ := h2 hz
                  obtain ⟨hLL, hll⟩ := HX2.out hz
                  have := hp8.added hb9 hS9 ho9
                  rw [hLL, hll] at this
                  exact ⟨S', _, _, _, _, _, hn10, this⟩
                · obtain ⟨hLL, hll⟩ := HX1.out hz
                  have := hp8.below (h1 hz)
                  rw [hLL, hll] at this
                  exact ⟨Sk, _, _, _, _, _, hn10, this⟩)
              obtain ⟨x0, x1, x2, x3⟩ := two_cells hX7
              obtain ⟨y0, y1, y2, y3⟩ := hp7.cells
              obtain ⟨z0, z1, z2⟩ := three_cells hE8
              rw [show w6.alloc _ = w7 from hw7.symm]
              have HW8 := Lib.hid hw8
              clear hw7 hb67 hX7 hb57 hp7 ho7 hE7 hnp7 hw8 hk8 hp8 ho8 hE8 hADD r0 r1 r2 r3 s0 s1 s2
              go_upto_region 19 with fail
              rw [show (w7.setCell _ _).setCell _ _ = w8 from HW8.out.symm]
              go_wp2_with (go_at_call 13; (with_reducible refine HAB.out.mono ?_); rintro e w9 ⟨rfl, hmid⟩)
              go_meet
              exact hmid
      case rest =>
        obtain ⟨wz, rfl⟩ : ∃ wz, wz = wc := ⟨_, rfl⟩
        obtain ⟨S2, L2, up2, A2, n2, c2, hn2, hp2⟩ := hcut
        obtain ⟨r0, r1, r2, r3⟩ := hp2.cells
        have HLK := Lib.hid (law09_like hp2.buf A2 n2 c2 up2 kx hp2.len (hp2.nest.imp fun k hk => hk.1) (by omega))
        have HP2 := Lib.hid hp2
        clear hp2 d0 d1 d2 d3 d4
        go_wp2_with (go_at_call 14; (with_reducible refine HLK.out.mono ?_); rintro e w9 ⟨rfl, hb9⟩)
        exact ⟨⟨k + 1, hkl0, hk5, by go_num, S2, L2, up2, A2, n2, c2, hn2, HP2.out.below hb9⟩, by simp [intOf]; omega⟩
    · have h1 : (len0 : Int) ≤ k ∨ (k : Int) < len0 ∧ (15 : Int) ≤ k := by omega
      have HBE := Lib.hid hp.bel
      clear hlt hp
      rcases h1 with h1 | ⟨h1, h2⟩
      all_goals
        go_wp2_with (go_at_call 15; (with_reducible refine (law09_lives _).mono ?_); rintro e w9 ⟨rfl, hb9⟩)
        go_ret
        exact ⟨rfl, HBE.out.trans (hb9.mono HBE.out.size)⟩
end Go.Proofs.YtgcdekaceimdnaaGreat
