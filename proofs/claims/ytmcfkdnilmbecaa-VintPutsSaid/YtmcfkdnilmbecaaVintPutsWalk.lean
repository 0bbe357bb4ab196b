/- The walk of VintPuts: it returns true for every input, and nothing that was there turns. -/
import Derived.Test.YtmcfkdnilmbecaaMade04
import Derived.Deep.RegionHeld3
namespace Go.Proofs.Ytmcfkdnilmbecaa
open Go Go.RowKit
set_option linter.unusedVariables false

set_option maxHeartbeats 2000000 in
set_option maxRecDepth 100000 in
theorem walk_VintPuts (a0 : Int) (a1 : Option Addr) (len1 cap1 : Nat) (z1 : List Int) (a2 : Option Addr) (len2 cap2 : Nat) (z2 : List Int) (w : World) (w0 : (Lit.int .i64 a0).wf = true) (w1 : InRow .u8 w a1 len1 cap1 z1) (w2 : InRow .u8 w a2 len2 cap2 z2) :
    Calls Try.prog 3 #[.int .i64 a0, .slice a1 len1 cap1, .slice a2 len2 cap2] w fun e w' => e = .returned (.bool true) ∧ Below w.heap.size w w' := by
  have hwf := wf_bd w0
  obtain ⟨i0, hi0, hz0, hz1, hz2⟩ := info_parts info_byte
  have HW1 := Lib.hid w1
  have HW2 := Lib.hid w2
  clear w0 w1 w2
  obtain ⟨n, hn, hneg, hpos⟩ := made_nat hwf
  have HN := Lib.hid hneg
  have HP0 := Lib.hid hpos
  clear hneg hpos
  go_enter Try.func3, Try.ntmps3
  go_upto_if 12 with fail
  go_cut [0] from 11 to 15 (fun s wx => s = .int .i64 (n : Int) ∧ w = wx)
  case first =>
    by_cases h0 : a0 < 0
    · have hng := HN.out h0
      go_wp2_with fail
      go_meet
      exact ⟨rfl, rfl⟩
    · have hng := HP0.out h0
      subst hng
      go_wp2_with fail
      go_meet
      exact ⟨rfl, rfl⟩
  case rest =>
    obtain ⟨rfl, rfl⟩ := hcut
    clear hwf HN HP0
    go_wp2_with (go_at_call 9; refine (law04_few a1 len1 cap1 z1 _ HW1.out).mono ?_)
    rintro e w2 ⟨A, m, c, bs, rfl, hm, hmc, hm60, hcx, hr, rfl⟩
    have HR := Lib.hid hr
    clear hr
    have h9 := putB_nine hn
    have p1 := vint_Put A m c bs n w hm hmc HR.out hn (by omega)
    have p2 := fun w2 => ref_Put n w2 hn
    have s1 := fun w2 => vint_Size n w2 hn
    obtain ⟨pb, hpb⟩ : ∃ pb, pb = putB n := ⟨_, rfl⟩
    have gz := fun r => getZ_put hn bs r
    rw [← hpb] at p1 p2 s1 h9 gz
    obtain ⟨u, hu⟩ : ∃ u : ByteArray, u = ⟨bs.toArray⟩ := ⟨_, rfl⟩
    obtain ⟨p, hp⟩ : ∃ p : ByteArray, p = ⟨pb.toArray⟩ := ⟨_, rfl⟩
    obtain ⟨cc, hcc⟩ : ∃ cc : ByteArray, cc = ⟨(bs ++ pb).toArray⟩ := ⟨_, rfl⟩
    have hcat : u ++ p = cc := by rw [hu, hp, hcc, str_cat]
    have hus : u.size ≤ 60 := by rw [hu, str_size]; omega
    have hps : p.size ≤ 9 := by rw [hp, str_size]; omega
    have hsz : ¬ 9223372036854775807 < u.size + p.size := by omega
    have P1 := Lib.hid p1
    have P2 := Lib.hid p2
    have S1 := Lib.hid s1
    have GZ := Lib.hid gz
    have HM := Lib.hid hm
    have HU := Lib.hid hu
    have HP := Lib.hid hp
    have HCC := Lib.hid hcc
    clear p1 p2 s1 gz hm hu hp hcc hpb
    go_wp2_with (go_at_call 10; refine P1.out.mono ?_)
    rintro e w2 ⟨v, rfl, hown, hb⟩
    obtain ⟨A2, c2, rfl, hc2, hrow2⟩ := hown.row
    have HOWN := Lib.hid hown
    obtain ⟨L, hL⟩ : ∃ L, L = (bs ++ pb).length := ⟨_, rfl⟩
    rw [← hL] at HOWN hc2
    rw [← hL]
    have HL := Lib.hid hL
    have hLn : Hid (L = m + pb.length) := Lib.hid (by rw [hL, List.length_append, HM.out])
    have hL100 : L ≤ 100 := by rw [hLn.out]; omega
    have hwL : IntKind.i64.wrap ((L : Int) - (m : Int)) = (pb.length : Int) := by rw [hLn.out, IntWalk.i64_in _ (by omega)]; omega
    have HS : Hid (∀ w', Below w2.heap.size w2 w' → (convert 22 9 (.slice A2 L c2)).run Try.prog w' = .ok (.string cc) w' ∧ (convert 22 9 (.slice A m c)).run Try.prog w' = .ok (.string u) w') := Lib.hid fun w' hb' => by
      rw [HU.out, HCC.out]
      exact ⟨run_string_of (P := Try.prog) (hrow2.below hb') 22 9 5 L c2 hL.symm Try.underlying22 Try.underlying5 Try.underlying9,
        run_string_of (P := Try.prog) ((HR.out.below hb).more hb.size |>.below hb') 22 9 5 m c HM.out Try.underlying22 Try.underlying5 Try.underlying9⟩
    have HB := Lib.hid hb
    clear hb hown hrow2 hL
    obtain ⟨q1, q2⟩ := HS.out w2.drew (Below.refl _ w2).drew
    go_upto_region 5 with fail
    go_cut [39] from 21 to 39 (fun t wx => t = .bool false ∧ Below w2.heap.size w2 wx)
    case first =>
      refine wp_region_noPanic ?_
      refine wp_region_held_drew (S := (fun w' => (convert 22 9 (.slice A2 L c2)).run Try.prog w' = .ok (.string cc) w' ∧ (convert 22 9 (.slice A m c)).run Try.prog w' = .ok (.string u) w')) (by kernel_rfl) (HS.out _ (Below.refl _ w2).drew) (fun hHeld => ?_)
      refine wpAnyH_take (i := 0) (v := .slice A2 L c2) rfl (by kernel_rfl) (by kernel_rfl) (by kernel_rfl) (fun _ _ _ h => h) (Or.inl ⟨by rfl, fun wx hSw => by obtain ⟨s1, s2⟩ := hSw; go_simp⟩) (by assumption) ?_
      try simp only [Act.put, List.getElem_toArray, List.getElem_cons_zero, List.getElem_cons_succ, List.setIfInBounds_toArray, List.set_cons_zero, List.set_cons_succ]
      refine wpAnyH_take (i := 1) (v := .string cc) rfl (by kernel_rfl) (by kernel_rfl) (by kernel_rfl) (fun _ _ _ h => h) (Or.inl ⟨by rfl, fun wx hSw => by obtain ⟨s1, s2⟩ := hSw; go_simp⟩) (by assumption) ?_
      try simp only [Act.put, List.getElem_toArray, List.getElem_cons_zero, List.getElem_cons_succ, List.setIfInBounds_toArray, List.set_cons_zero, List.set_cons_succ]
      refine wpAnyH_take (i := 2) (v := .slice A m c) rfl (by kernel_rfl) (by kernel_rfl) (by kernel_rfl) (fun _ _ _ h => h) (Or.inl ⟨by rfl, fun wx hSw => by obtain ⟨s1, s2⟩ := hSw; go_simp⟩) (by assumption) ?_
      try simp only [Act.put, List.getElem_toArray, List.getElem_cons_zero, List.getElem_cons_succ, List.setIfInBounds_toArray, List.set_cons_zero, List.set_cons_succ]
      refine wpAnyH_take (i := 3) (v := .string u) rfl (by kernel_rfl) (by kernel_rfl) (by kernel_rfl) (fun _ _ _ h => h) (Or.inl ⟨by rfl, fun wx hSw => by obtain ⟨s1, s2⟩ := hSw; go_simp⟩) (by assumption) ?_
      try simp only [Act.put, List.getElem_toArray, List.getElem_cons_zero, List.getElem_cons_succ, List.setIfInBounds_toArray, List.set_cons_zero, List.set_cons_succ]
      refine wpAnyH_take (i := 4) (v := .int .i64 (n : Int)) rfl (by kernel_rfl) (by kernel_rfl) (by kernel_rfl) (fun _ _ _ h => h) (Or.inl ⟨by rfl, fun wx hSw => by obtain ⟨s1, s2⟩ := hSw; go_simp⟩) (by assumption) ?_
      try simp only [Act.put, List.getElem_toArray, List.getElem_cons_zero, List.getElem_cons_succ, List.setIfInBounds_toArray, List.set_cons_zero, List.set_cons_succ]
      refine wpAnyH_ready (rs := [5]) (by kernel_rfl) (by simp) ?_
      refine AllReadyH.cons rfl (fun K hK => ?_) AllReadyH.nil
      try simp only [List.getElem_toArray, List.getElem_cons_zero, List.getElem_cons_succ]
      go_simp
      go_at_call 11
      refine (P2.out _).mono ?_
      rintro e w3 ⟨v3, rfl, hown3, hb3⟩
      obtain ⟨A3, c3, rfl, _, hrow3⟩ := hown3.row
      have hcv3 := run_string_of (P := Try.prog) hrow3 22 9 5 _ c3 rfl Try.underlying22 Try.underlying5 Try.underlying9
      rw [← HP.out] at hcv3
      have HB3 := Lib.hid ((Below.refl _ w2).drew.trans hb3)
      go_wp2_with fail
      refine hK.out _ _ ?_ (fun hHeld1 => ?_)
      · exact HS.out _ HB3.out
      clear hK K
      try simp only [Act.put, List.getElem_toArray, List.getElem_cons_zero, List.getElem_cons_succ, List.setIfInBounds_toArray, List.set_cons_zero, List.set_cons_succ]
      refine wpAnyH_ready (rs := [6]) (by kernel_rfl) (by simp) ?_
      refine AllReadyH.cons rfl (fun K hK => ?_) AllReadyH.nil
      try simp only [List.getElem_toArray, List.getElem_cons_zero, List.getElem_cons_succ]
      go_simp
      refine hK.out _ _ ?_ (fun hHeld2 => ?_)
      · exact HS.out _ HB3.out
      clear hK K
      try simp only [Act.put, List.getElem_toArray, List.getElem_cons_zero, List.getElem_cons_succ, List.setIfInBounds_toArray, List.set_cons_zero, List.set_cons_succ]
      refine wpAnyH_take (i := 7) (v := .string cc) rfl (by kernel_rfl) (by kernel_rfl) (by kernel_rfl) (fun _ _ _ h => h) (Or.inl ⟨by rfl, fun wx hSw => by obtain ⟨s1, s2⟩ := hSw; go_simp⟩) (by assumption) ?_
      try simp only [Act.put, List.getElem_toArray, List.getElem_cons_zero, List.getElem_cons_succ, List.setIfInBounds_toArray, List.set_cons_zero, List.set_cons_succ]
      refine wpAnyH_take (i := 8) (v := .bool false) rfl (by kernel_rfl) (by kernel_rfl) (by kernel_rfl) (fun _ _ _ h => h) (Or.inl ⟨by rfl, fun wx hSw => by obtain ⟨s1, s2⟩ := hSw; go_simp⟩) (by assumption) ?_
      try simp only [Act.put, List.getElem_toArray, List.getElem_cons_zero, List.getElem_cons_succ, List.setIfInBounds_toArray, List.set_cons_zero, List.set_cons_succ]
      refine wpAnyH_take (i := 9) (v := .bool false) rfl (by kernel_rfl) (by kernel_rfl) (by kernel_rfl) (fun _ _ _ h => h) (Or.inl ⟨by rfl, fun wx hSw => by obtain ⟨s1, s2⟩ := hSw; go_simp⟩) (by assumption) ?_
      try simp only [Act.put, List.getElem_toArray, List.getElem_cons_zero, List.getElem_cons_succ, List.setIfInBounds_toArray, List.set_cons_zero, List.set_cons_succ]
      refine wpAnyH_take (i := 10) (v := .int .i64 (n : Int)) rfl (by kernel_rfl) (by kernel_rfl) (by kernel_rfl) (fun _ _ _ h => h) (Or.inl ⟨by rfl, fun wx hSw => by obtain ⟨s1, s2⟩ := hSw; go_simp⟩) (by assumption) ?_
      try simp only [Act.put, List.getElem_toArray, List.getElem_cons_zero, List.getElem_cons_succ, List.setIfInBounds_toArray, List.set_cons_zero, List.set_cons_succ]
      refine wpAnyH_take (i := 12) (v := .slice A2 L c2) rfl (by kernel_rfl) (by kernel_rfl) (by kernel_rfl) (fun _ _ _ h => h) (Or.inl ⟨by rfl, fun wx hSw => by obtain ⟨s1, s2⟩ := hSw; go_simp⟩) (by assumption) ?_
      try simp only [Act.put, List.getElem_toArray, List.getElem_cons_zero, List.getElem_cons_succ, List.setIfInBounds_toArray, List.set_cons_zero, List.set_cons_succ]
      refine wpAnyH_take (i := 13) (v := .int .i64 (L : Int)) rfl (by kernel_rfl) (by kernel_rfl) (by kernel_rfl) (fun _ _ _ h => h) (Or.inl ⟨by rfl, fun wx hSw => by obtain ⟨s1, s2⟩ := hSw; go_simp⟩) (by assumption) ?_
      try simp only [Act.put, List.getElem_toArray, List.getElem_cons_zero, List.getElem_cons_succ, List.setIfInBounds_toArray, List.set_cons_zero, List.set_cons_succ]
      refine wpAnyH_take (i := 14) (v := .slice A m c) rfl (by kernel_rfl) (by kernel_rfl) (by kernel_rfl) (fun _ _ _ h => h) (Or.inl ⟨by rfl, fun wx hSw => by obtain ⟨s1, s2⟩ := hSw; go_simp⟩) (by assumption) ?_
      try simp only [Act.put, List.getElem_toArray, List.getElem_cons_zero, List.getElem_cons_succ, List.setIfInBounds_toArray, List.set_cons_zero, List.set_cons_succ]
      refine wpAnyH_take (i := 15) (v := .int .i64 (m : Int)) rfl (by kernel_rfl) (by kernel_rfl) (by kernel_rfl) (fun _ _ _ h => h) (Or.inl ⟨by rfl, fun wx hSw => by obtain ⟨s1, s2⟩ := hSw; go_simp⟩) (by assumption) ?_
      try simp only [Act.put, List.getElem_toArray, List.getElem_cons_zero, List.getElem_cons_succ, List.setIfInBounds_toArray, List.set_cons_zero, List.set_cons_succ]
      refine wpAnyH_take (i := 16) (v := .int .i64 (pb.length : Int)) rfl (by kernel_rfl) (by kernel_rfl) (by kernel_rfl) (fun _ _ _ h => h) (Or.inl ⟨by rfl, fun wx hSw => by obtain ⟨s1, s2⟩ := hSw; go_simp⟩) (by assumption) ?_
      try simp only [Act.put, List.getElem_toArray, List.getElem_cons_zero, List.getElem_cons_succ, List.setIfInBounds_toArray, List.set_cons_zero, List.set_cons_succ]
      refine wpAnyH_ready (rs := [11]) (by kernel_rfl) (by simp) ?_
      refine AllReadyH.cons rfl (fun K hK => ?_) AllReadyH.nil
      try simp only [List.getElem_toArray, List.getElem_cons_zero, List.getElem_cons_succ]
      go_simp
      go_at_call 12
      refine (S1.out _).mono ?_
      rintro e w4 ⟨rfl, rfl⟩
      go_wp2_with fail
      refine hK.out _ _ ?_ (fun hHeld3 => ?_)
      · exact HS.out _ HB3.out
      clear hK K
      try simp only [Act.put, List.getElem_toArray, List.getElem_cons_zero, List.getElem_cons_succ, List.setIfInBounds_toArray, List.set_cons_zero, List.set_cons_succ]
      refine wpAnyH_take (i := 17) (v := .bool false) rfl (by kernel_rfl) (by kernel_rfl) (by kernel_rfl) (fun _ _ _ h => h) (Or.inl ⟨by rfl, fun wx hSw => by obtain ⟨s1, s2⟩ := hSw; go_simp⟩) (by assumption) ?_
      try simp only [Act.put, List.getElem_toArray, List.getElem_cons_zero, List.getElem_cons_succ, List.setIfInBounds_toArray, List.set_cons_zero, List.set_cons_succ]
      refine wpAnyH_take (i := 18) (v := .bool false) rfl (by kernel_rfl) (by kernel_rfl) (by kernel_rfl) (fun _ _ _ h => h) (Or.inl ⟨by rfl, fun wx hSw => by obtain ⟨s1, s2⟩ := hSw; go_simp⟩) (by assumption) ?_
      try simp only [Act.put, List.getElem_toArray, List.getElem_cons_zero, List.getElem_cons_succ, List.setIfInBounds_toArray, List.set_cons_zero, List.set_cons_succ]
      refine wpAnyH_done (by kernel_rfl) ?_ _
      refine NoPanic.normal ?_
      go_wp2_with fail
      go_meet
      exact ⟨rfl, HB3.out⟩
    case rest =>
      obtain ⟨rfl, hb3⟩ := hcut
      have HBW := Lib.hid (HB.out.trans (hb3.mono HB.out.size))
      have HOW := Lib.hid (HOWN.out.below hb3)
      have hsz3 := HBW.out.size
      clear hb3 q1 q2
      go_wp2_with (go_at_call 9; refine (law04_few a2 len2 cap2 z2 _ (HW2.out.below HBW.out)).mono ?_)
      rintro e w4 ⟨A4, m4, c4, bs4, rfl, hm4, hmc4, hm460, hcx4, hr4, rfl⟩
      have HR4 := Lib.hid hr4
      have HM4 := Lib.hid hm4
      clear hr4 hm4
      go_wp2_with (at_builtin; refine wpList_append_row _ rfl (.tmp 41) (.tmp 43) 22 rfl w.heap.size 5 i0 _ 1 1 Try.underlying22 hi0 hz0 hz1 hz2 rfl (by omega) _ (bs ++ pb).length (Lib.byteCells (bs ++ pb)) rfl HOW.out _ A4 m4 c4 (Lib.byteCells bs4) rfl (by rw [Lib.byteCells_length, HM4.out]; omega) HR4.out (byteCells_oneCell _) (by unfold maxLen; rw [← HL.out]; omega) (by rw [← HL.out]; omega) hsz3 ?_)
      intro v5 w5 hown5 hg5
      have hb5 : Below w.heap.size wc w5 := (Below.refl _ wc).grown hg5 hsz3 fun k hk => (HOW.out.lt k hk).1
      have ho5 : Own w.heap.size w5 v5 ((bs ++ pb) ++ bs4) := by
        have e5 : ((bs ++ pb) ++ bs4).length = (bs ++ pb).length + m4 := by rw [List.length_append, HM4.out]
        unfold Own
        rw [e5, Lib.byteCells_append, List.length_append]
        exact hown5
      obtain ⟨A5, c5, rfl, hc5, hcx5, hr5⟩ := ho5.room
      have hlen5 : ((bs ++ pb) ++ bs4).length ≤ 200 := by rw [List.length_append, List.length_append, HM4.out, HM.out]; omega
      have g5 := vint_Get A5 _ c5 (m : Int) ((bs ++ pb) ++ bs4) w5 hr5 rfl hc5 hcx5 (by omega)
      rw [show getZ ((bs ++ pb) ++ bs4) (m : Int) = ((n : Int), (L : Int), 0) by rw [List.append_assoc, ← HM.out, GZ.out, hLn.out, HM.out]] at g5
      obtain ⟨N, hN⟩ : ∃ N, N = ((bs ++ pb) ++ bs4).length := ⟨_, rfl⟩
      rw [← hN] at g5 ⊢
      have G5 := Lib.hid g5
      have HB5 := Lib.hid (HBW.out.trans hb5)
      clear hown5 hg5 hb5 ho5 hc5 hcx5 hr5 hlen5 g5 hN
      go_wp2_with (go_at_call 13; refine G5.out.mono ?_)
      rintro e w6 ⟨rfl, hb6⟩
      have HB6 := Lib.hid (HB5.out.trans (hb6.mono HB5.out.size))
      clear hb6
      go_wp2_with (go_at_call 14; refine (law04_lives _).mono ?_)
      rintro e w9 ⟨rfl, hb9⟩
      go_wp2
      go_ret
      exact ⟨rfl, HB6.out.trans (hb9.mono HB6.out.size)⟩
end Go.Proofs.Ytmcfkdnilmbecaa
