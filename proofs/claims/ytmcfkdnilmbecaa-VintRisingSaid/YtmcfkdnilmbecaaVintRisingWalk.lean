/- The walk of VintRising: it returns true for every input, and nothing that was there turns. -/
import Derived.Test.YtmcfkdnilmbecaaGood04
import Derived.Test.YtmcfkdnilmbecaaGetR04
import Derived.Test.YtmcfkdnilmbecaaSame04
import Derived.Test.YtmcfkdnilmbecaaVars
import Derived.Deep.RegionHeld3
namespace Go.Proofs.Ytmcfkdnilmbecaa
open Go Go.RowKit
set_option linter.unusedVariables false

/-- What a call of PutRising gives: bytes or none, and whether the numbers rise. -/
def GavePut (r : Bool) (w : World) (e : Ending) (w' : World) : Prop :=
  ∃ A n c er, e = .returned (.tuple #[.slice A n c, .int .i64 er]) ∧ (r = true ∧ er = 0 ∨ r = false ∧ er = 1 ∧ n = 0) ∧ Below w.heap.size w w'
theorem vint_PutRising (A : Option Addr) (m c : Nat) (bs : List UInt8) (C : Option Addr) (n d : Nat) (l : List Int) (w : World) (hm : bs.length = m) (hc : m ≤ c) (hr : Row w w.heap.size A (Lib.byteCells bs)) (hl : m ≤ 60)
    (hn : l.length = n) (hn20 : n ≤ 20) (hrl : Row w w.heap.size C (ints l)) (hb : ∀ x ∈ l, x ≤ 9223372036854775807) :
    Calls Try.prog 17 #[.slice A m c, .slice C n d] w (GavePut (risesZ (-1) l) w) := by
  rcases hri : risesZ (-1) l with _ | _
  · refine (vint_PutRising_no A m c C n d l w hn hn20 hrl hri).mono ?_
    rintro e w' ⟨rfl, rfl⟩
    exact ⟨_, _, _, _, rfl, .inr ⟨rfl, rfl, rfl⟩, Below.refl _ _⟩
  · refine (vint_PutRising_ok A m c bs C n d l w hm hc hr hl hn hn20 hrl hb hri).mono ?_
    rintro e w' ⟨v, rfl, hown, hbb⟩
    obtain ⟨A', c', rfl, _, _⟩ := hown.row
    exact ⟨_, _, _, _, rfl, .inl ⟨rfl, rfl⟩, hbb⟩

theorem grown_other {w w' : World} {base base' size size' : Nat} {e e' : TypeId} {v v' : Value} {n n' : Nat} {xs xs' : List Value} (h : w.ownsRow base e size v n xs) (h' : w.ownsRow base' e' size' v' n' xs') (ht : e' ≠ e) (hg : w.grownBy w' v'.ownBlock) : w'.ownsRow base e size v n xs :=
  owned_keep h fun g hgg => hg.block g (h.lt g hgg).2 fun e0 => owned_apart2 h' h ht hgg e0.symm
/-- The first twenty ints. -/
def FirstInts (w : World) (s : Value) : Prop := ∃ C n d l, s = .slice C n d ∧ l.length = n ∧ n ≤ 20 ∧ Row w w.heap.size C (ints l) ∧ ∀ x ∈ l, (Lit.int .i64 x).wf = true

set_option maxHeartbeats 2000000 in
set_option maxRecDepth 100000 in
theorem walk_VintRising (a0 : Option Addr) (len0 cap0 : Nat) (z0 : List Int) (a1 : Option Addr) (len1 cap1 : Nat) (z1 : List Int) (a2 : Option Addr) (len2 cap2 : Nat) (z2 : List Int) (w : World) (w0 : InRow .i64 w a0 len0 cap0 z0) (w1 : InRow .u8 w a1 len1 cap1 z1) (w2 : InRow .u8 w a2 len2 cap2 z2) :
    Calls Try.prog 5 #[.slice a0 len0 cap0, .slice a1 len1 cap1, .slice a2 len2 cap2] w fun e w' => e = .returned (.bool true) ∧ Below w.heap.size w w' := by
  obtain ⟨i0, hi0, hz0, hz1, hz2⟩ := info_parts info_byte
  obtain ⟨hlc, hcx0, hzl, hrz, hwz⟩ := w0
  have HRZ : Hid (Row w w.heap.size a0 (ints z0)) := Lib.hid hrz
  have HWZ := Lib.hid hwz
  have HW1 := Lib.hid w1
  have HW2 := Lib.hid w2
  unfold maxLen at hcx0
  clear hrz hwz w1 w2
  go_enter Try.func5, Try.ntmps5
  go_upto_if 18 with fail
  go_cut [0] from 16 to 20 (fun s wx => FirstInts w s ∧ w = wx)
  case first =>
    by_cases h0 : 20 < len0
    · obtain ⟨b, off, hA, _, _⟩ := HRZ.out.at_ (by rw [ints_length]; omega)
      subst hA
      have hrc := HRZ.out.cut 20
      rw [show (ints z0).take 20 = ints (z0.take 20) by simp [ints, List.map_take]] at hrc
      have hfi : FirstInts w (.slice (some ⟨b, off, none⟩) 20 cap0) := ⟨_, _, _, z0.take 20, rfl, by rw [List.length_take]; omega, by omega, hrc, fun x hx => HWZ.out x (List.mem_of_mem_take hx)⟩
      have HFI := Lib.hid hfi
      clear hfi hrc
      go_wp2_with fail
      go_meet
      exact ⟨HFI.out, rfl⟩
    · have hfi : FirstInts w (.slice a0 len0 cap0) := ⟨_, _, _, z0, rfl, hzl, by omega, HRZ.out, HWZ.out⟩
      have HFI := Lib.hid hfi
      clear hfi
      go_wp2_with fail
      go_meet
      exact ⟨HFI.out, rfl⟩
  case rest =>
    obtain ⟨⟨C, n, d, l, rfl, hln, hn20, hrl, hwl⟩, rfl⟩ := hcut
    have HRL := Lib.hid hrl
    have HLN := Lib.hid hln
    have HWL := Lib.hid hwl
    clear hrl hln hwl hcx0 hlc hzl HRZ HWZ
    go_wp2_with (go_at_call 9; refine (law04_few a1 len1 cap1 z1 _ HW1.out).mono ?_)
    rintro e w2 ⟨A, m, c, bs, rfl, hm, hmc, hm60, hcx, hr, rfl⟩
    have HR := Lib.hid hr
    have HM := Lib.hid hm
    clear hr hm
    go_wp2_with (go_at_call 16; refine (ref_Rises C n d l _ HRL.out HLN.out (by omega)).mono ?_)
    rintro e w3 ⟨rfl, hb3⟩
    have HB3 := Lib.hid hb3
    have hs3 := hb3.size
    clear hb3
    have hle : ∀ x ∈ l, x ≤ 9223372036854775807 := fun x hx => (wf_bd (HWL.out x hx)).2
    have HLE := Lib.hid hle
    clear hle
    go_wp2_with (go_at_call 17; refine (vint_PutRising A m c bs C n d l _ HM.out hmc ((HR.out.below HB3.out).more hs3) hm60 HLN.out hn20 ((HRL.out.below HB3.out).more hs3) HLE.out).mono ?_)
    rintro e w4 ⟨A4, n4, c4, er, rfl, hcase, hb4⟩
    have HB4 := Lib.hid (HB3.out.trans (hb4.mono hs3))
    have hs4 := HB4.out.size
    obtain ⟨r, hr⟩ : ∃ r, r = risesZ (-1) l := ⟨_, rfl⟩
    rw [← hr] at hcase ⊢
    clear hb4 hr
    go_upto_region 6 with fail
    go_cut [47] from 31 to 47 (fun t wx => t = .bool false ∧ w4 = wx)
    case first =>
      rcases hcase with ⟨rfl, rfl⟩ | ⟨rfl, rfl, rfl⟩
      · go_wp2_with fail
        go_meet
        exact ⟨rfl, rfl⟩
      · go_wp2_with fail
        go_meet
        exact ⟨rfl, rfl⟩
    case rest =>
      obtain ⟨rfl, rfl⟩ := hcut
      clear hcase
      go_wp2_with (go_at_call 18; refine (ref_Good C n d l _ HLN.out hn20 ((HRL.out.below HB4.out).more hs4) HWL.out).mono ?_)
      rintro e w5 ⟨vg, rfl, howng, hb5⟩
      obtain ⟨Ag, cg, rfl, hcg, hrg⟩ := owned_row howng
      have hgl := goodZ_length l (-1)
      have hgr := goodZ_rises l (-1)
      have hgb := goodZ_le l (-1) (by omega)
      rw [HLN.out] at hgl hgb
      obtain ⟨g, hg⟩ : ∃ g, g = goodZ (-1) l := ⟨_, rfl⟩
      rw [← hg] at hgl hgr hgb hrg howng
      have hb5' := HB4.out.trans (hb5.mono hs4)
      have hs5 := hb5'.size
      have p1 := vint_PutRising_ok A m c bs Ag n cg g w5 HM.out hmc ((HR.out.below hb5').more hs5) hm60 hgl hn20 hrg (fun x hx => by have := hgb x hx; omega) hgr
      have p2 := fun w1 (h : Row w1 w1.heap.size Ag (ints g)) => ref_PutRising Ag n cg g w1 hgl hn20 h (fun x hx => by have := hgb x hx; omega) hgr
      have gz := fun r => risZ_put hgr (fun x hx => by have := hgb x hx; omega) (by omega) bs r
      have hdl := dB_length g (-1) (by omega) hgr fun x hx => by have := hgb x hx; omega
      have h9 := putB_nine (n := g.length) (by omega)
      have hpl : (putR g).length ≤ 200 := by rw [putR, List.length_append]; omega
      obtain ⟨pb, hpb⟩ : ∃ pb, pb = putR g := ⟨_, rfl⟩
      rw [← hpb] at p1 p2 gz hpl
      obtain ⟨u, hu⟩ : ∃ u : ByteArray, u = ⟨bs.toArray⟩ := ⟨_, rfl⟩
      obtain ⟨p, hp⟩ : ∃ p : ByteArray, p = ⟨pb.toArray⟩ := ⟨_, rfl⟩
      obtain ⟨cc, hcc⟩ : ∃ cc : ByteArray, cc = ⟨(bs ++ pb).toArray⟩ := ⟨_, rfl⟩
      have hcat : u ++ p = cc := by rw [hu, hp, hcc, str_cat]
      have hus : u.size ≤ 60 := by rw [hu, str_size]; have := HM.out; omega
      have hps : p.size ≤ 200 := by rw [hp, str_size]; omega
      have hsz : ¬ 9223372036854775807 < u.size + p.size := by omega
      have HRG5 := Lib.hid hrg
      have HOG5 := Lib.hid (owned_low howng hs4)
      have HGL := Lib.hid hgl
      have HB5 := Lib.hid hb5'
      have P1 := Lib.hid p1
      have P2 := Lib.hid p2
      have GZ := Lib.hid gz
      have HU := Lib.hid hu
      have HP := Lib.hid hp
      have HCC := Lib.hid hcc
      clear hrg hgl hgr hgb hb5 hb5' p1 p2 gz hu hp hcc hpb hdl h9 howng hg
      go_wp2_with (go_at_call 17; refine P1.out.mono ?_)
      rintro e w2 ⟨v, rfl, hown, hb⟩
      obtain ⟨A2, c2, rfl, hc2, hrow2⟩ := hown.row
      have HOWN := Lib.hid (hown.low hs5)
      obtain ⟨L, hL⟩ : ∃ L, L = (bs ++ pb).length := ⟨_, rfl⟩
      rw [← hL] at HOWN hc2
      rw [← hL]
      have HL := Lib.hid hL
      have hLn : Hid (L = m + pb.length) := Lib.hid (by rw [hL, List.length_append, HM.out])
      have hL300 : L ≤ 300 := by rw [hLn.out]; omega
      have hbb := HB5.out.trans (hb.mono hs5)
      have HB := Lib.hid hbb
      have HOG2 := Lib.hid (owned_below HOG5.out hb)
      have HRG : Hid (∀ w', Below w2.heap.size w2 w' → Row w' w'.heap.size Ag (ints g)) := Lib.hid fun w' hb' => (((HRG5.out.below hb).more hb.size).below hb').more hb'.size
      have HS : Hid (∀ w', Below w2.heap.size w2 w' → (convert 22 9 (.slice A2 L c2)).run Try.prog w' = .ok (.string cc) w' ∧ (convert 22 9 (.slice A m c)).run Try.prog w' = .ok (.string u) w') := Lib.hid fun w' hb' => by
        rw [HU.out, HCC.out]
        exact ⟨run_string_of (P := Try.prog) (hrow2.below hb') 22 9 5 L c2 hL.symm Try.underlying22 Try.underlying5 Try.underlying9,
          run_string_of (P := Try.prog) ((HR.out.below hbb).more hbb.size |>.below hb') 22 9 5 m c HM.out Try.underlying22 Try.underlying5 Try.underlying9⟩
      clear hb hbb hown hrow2 hL
      go_upto_region 10 with fail
      go_cut [68] from 56 to 68 (fun t wx => t = .bool false ∧ Below w2.heap.size w2 wx)
      case first =>
        refine wp_region_noPanic ?_
        refine wp_region_held_drew (S := (fun w' => (convert 22 9 (.slice A2 L c2)).run Try.prog w' = .ok (.string cc) w' ∧ (convert 22 9 (.slice A m c)).run Try.prog w' = .ok (.string u) w')) (by kernel_rfl) (HS.out _ (Below.refl _ w2).drew) (fun hHeld => ?_)
        refine wpAnyH_take (i := 0) (v := .slice A2 L c2) rfl (by kernel_rfl) (by kernel_rfl) (by kernel_rfl) (fun _ _ _ h => h) (Or.inl ⟨by rfl, fun wx hSw => by obtain ⟨s1, s2⟩ := hSw; go_simp⟩) (by assumption) ?_
        try simp only [Act.put, List.getElem_toArray, List.getElem_cons_zero, List.getElem_cons_succ, List.setIfInBounds_toArray, List.set_cons_zero, List.set_cons_succ]
        refine wpAnyH_take (i := 1) (v := .string cc) rfl (by kernel_rfl) (by kernel_rfl) (by kernel_rfl) (fun _ _ _ h => h) (Or.inl ⟨by rfl, fun wx hSw => by obtain ⟨s1, s2⟩ := hSw; go_simp⟩) (by assumption) ?_
        try simp only [Act.put, List.getElem_toArray, List.getElem_cons_zero, List.getElem_cons_succ, List.setIfInBounds_toArray, List.set_cons_zero, List.set_cons_succ]
        refine wpAnyH_take (i := 2) (v := .slice A m c) rfl (by kernel_rfl) (by kernel_rfl) (by kernel_rfl) (fun _ _ _ h => h) (Or.inl ⟨by rfl, fun wx hSw => by obtain ⟨s1, s2⟩ := hSw; go_simp⟩) (by assumption) ?_
        try simp only [Act.put, List.getElem_toArray, List.getElem_cons_zero, List.getElem_cons_succ, List.setIfInBounds_toArray, List.set_cons_zero, List.set_cons_succ]
        refine wpAnyH_take (i := 3) (v := .string u) rfl (by kernel_rfl) (by kernel_rfl) (by kernel_rfl) (fun _ _ _ h => h) (Or.inl ⟨by rfl, fun wx hSw => by obtain ⟨s1, s2⟩ := hSw; go_simp⟩) (by assumption) ?_
        try simp only [Act.put, List.getElem_toArray, List.getElem_cons_zero, List.getElem_cons_succ, List.setIfInBounds_toArray, List.set_cons_zero, List.set_cons_succ]
        refine wpAnyH_take (i := 4) (v := .slice Ag n cg) rfl (by kernel_rfl) (by kernel_rfl) (by kernel_rfl) (fun _ _ _ h => h) (Or.inl ⟨by rfl, fun wx hSw => by obtain ⟨s1, s2⟩ := hSw; go_simp⟩) (by assumption) ?_
        try simp only [Act.put, List.getElem_toArray, List.getElem_cons_zero, List.getElem_cons_succ, List.setIfInBounds_toArray, List.set_cons_zero, List.set_cons_succ]
        refine wpAnyH_ready (rs := [5]) (by kernel_rfl) (by simp) ?_
        refine AllReadyH.cons rfl (fun K hK => ?_) AllReadyH.nil
        try simp only [List.getElem_toArray, List.getElem_cons_zero, List.getElem_cons_succ]
        go_simp
        go_at_call 19
        refine (P2.out _ (HRG.out _ (Below.refl _ w2).drew)).mono ?_
        rintro e w3 ⟨v3, rfl, hown3, hb3⟩
        obtain ⟨A3, c3, rfl, _, hrow3⟩ := hown3.row
        have hcv3 := run_string_of (P := Try.prog) hrow3 22 9 5 _ c3 rfl Try.underlying22 Try.underlying5 Try.underlying9
        rw [← HP.out] at hcv3
        have HB3 := Lib.hid ((Below.refl _ w2).drew.trans hb3)
        go_wp2_with fail
        refine hK.out _ _ ?_ (fun hHeld1 => ?_)
        · exact HS.out _ HB3.out
        clear hK K
        try simp only [Act.put, List.getElem_toArray, List.getElem_cons_zero, List.getElem_cons_succ, List.setIfInBounds_toArray, List.set_cons_zero, List.set_cons_succ]
        refine wpAnyH_ready (rs := [6]) (by kernel_rfl) (by simp) ?_
        refine AllReadyH.cons rfl (fun K hK => ?_) AllReadyH.nil
        try simp only [List.getElem_toArray, List.getElem_cons_zero, List.getElem_cons_succ]
        go_simp
        refine hK.out _ _ ?_ (fun hHeld2 => ?_)
        · exact HS.out _ HB3.out
        clear hK K
        try simp only [Act.put, List.getElem_toArray, List.getElem_cons_zero, List.getElem_cons_succ, List.setIfInBounds_toArray, List.set_cons_zero, List.set_cons_succ]
        refine wpAnyH_take (i := 7) (v := .string cc) rfl (by kernel_rfl) (by kernel_rfl) (by kernel_rfl) (fun _ _ _ h => h) (Or.inl ⟨by rfl, fun wx hSw => by obtain ⟨s1, s2⟩ := hSw; go_simp⟩) (by assumption) ?_
        try simp only [Act.put, List.getElem_toArray, List.getElem_cons_zero, List.getElem_cons_succ, List.setIfInBounds_toArray, List.set_cons_zero, List.set_cons_succ]
        refine wpAnyH_take (i := 8) (v := .bool false) rfl (by kernel_rfl) (by kernel_rfl) (by kernel_rfl) (fun _ _ _ h => h) (Or.inl ⟨by rfl, fun wx hSw => by obtain ⟨s1, s2⟩ := hSw; go_simp⟩) (by assumption) ?_
        try simp only [Act.put, List.getElem_toArray, List.getElem_cons_zero, List.getElem_cons_succ, List.setIfInBounds_toArray, List.set_cons_zero, List.set_cons_succ]
        refine wpAnyH_take (i := 9) (v := .bool false) rfl (by kernel_rfl) (by kernel_rfl) (by kernel_rfl) (fun _ _ _ h => h) (Or.inl ⟨by rfl, fun wx hSw => by obtain ⟨s1, s2⟩ := hSw; go_simp⟩) (by assumption) ?_
        try simp only [Act.put, List.getElem_toArray, List.getElem_cons_zero, List.getElem_cons_succ, List.setIfInBounds_toArray, List.set_cons_zero, List.set_cons_succ]
        refine wpAnyH_take (i := 10) (v := .int .i64 0) rfl (by kernel_rfl) (by kernel_rfl) (by kernel_rfl) (fun _ _ _ h => h) (Or.inl ⟨by rfl, fun wx hSw => by obtain ⟨s1, s2⟩ := hSw; go_simp⟩) (by assumption) ?_
        try simp only [Act.put, List.getElem_toArray, List.getElem_cons_zero, List.getElem_cons_succ, List.setIfInBounds_toArray, List.set_cons_zero, List.set_cons_succ]
        refine wpAnyH_take (i := 11) (v := .bool false) rfl (by kernel_rfl) (by kernel_rfl) (by kernel_rfl) (fun _ _ _ h => h) (Or.inl ⟨by rfl, fun wx hSw => by obtain ⟨s1, s2⟩ := hSw; go_simp⟩) (by assumption) ?_
        try simp only [Act.put, List.getElem_toArray, List.getElem_cons_zero, List.getElem_cons_succ, List.setIfInBounds_toArray, List.set_cons_zero, List.set_cons_succ]
        refine wpAnyH_take (i := 12) (v := .bool false) rfl (by kernel_rfl) (by kernel_rfl) (by kernel_rfl) (fun _ _ _ h => h) (Or.inl ⟨by rfl, fun wx hSw => by obtain ⟨s1, s2⟩ := hSw; go_simp⟩) (by assumption) ?_
        try simp only [Act.put, List.getElem_toArray, List.getElem_cons_zero, List.getElem_cons_succ, List.setIfInBounds_toArray, List.set_cons_zero, List.set_cons_succ]
        refine wpAnyH_done (by kernel_rfl) ?_ _
        refine NoPanic.normal ?_
        go_wp2_with fail
        go_meet
        exact ⟨rfl, HB3.out⟩
      case rest =>
        obtain ⟨rfl, hb3⟩ := hcut
        have HBW := Lib.hid (HB.out.trans (hb3.mono HB.out.size))
        have HOW := Lib.hid (HOWN.out.below hb3)
        have HOGW := Lib.hid (owned_below HOG2.out hb3)
        have hszw := HBW.out.size
        clear hb3
        go_wp2_with (go_at_call 9; refine (law04_few a2 len2 cap2 z2 _ (HW2.out.below HBW.out)).mono ?_)
        rintro e w7 ⟨A7, m7, c7, bs7, rfl, hm7, hmc7, hm760, hcx7, hr7, rfl⟩
        have HR7 := Lib.hid hr7
        have HM7 := Lib.hid hm7
        clear hr7 hm7
        go_wp2_with (at_builtin; refine wpList_append_row _ rfl (.tmp 70) (.tmp 72) 22 rfl w.heap.size 5 i0 _ 1 1 Try.underlying22 hi0 hz0 hz1 hz2 rfl (by omega) _ (bs ++ pb).length (Lib.byteCells (bs ++ pb)) rfl HOW.out _ A7 m7 c7 (Lib.byteCells bs7) rfl (by rw [Lib.byteCells_length, HM7.out]; omega) HR7.out (byteCells_oneCell _) (by unfold maxLen; rw [← HL.out]; omega) (by rw [← HL.out]; omega) hszw ?_)
        intro v8 w8 hown8 hg8
        have hb8 := (Below.refl _ _).grown hg8 hszw fun k hk => (HOW.out.lt k hk).1
        have HOG8 := Lib.hid (grown_other HOGW.out HOW.out (by decide) hg8)
        have ho8 : Own w.heap.size w8 v8 ((bs ++ pb) ++ bs7) := by
          have e5 : ((bs ++ pb) ++ bs7).length = (bs ++ pb).length + m7 := by rw [List.length_append, HM7.out]
          unfold Own
          rw [e5, Lib.byteCells_append, List.length_append]
          exact hown8
        obtain ⟨A8, c8, rfl, hc8, hcx8, hr8⟩ := ho8.room
        have hlen8 : ((bs ++ pb) ++ bs7).length ≤ 400 := by rw [List.length_append, ← HL.out, HM7.out]; omega
        have g8 := vint_GetRising A8 _ c8 (m : Int) ((bs ++ pb) ++ bs7) w8 hr8 rfl hc8 hcx8 (by omega)
        rw [show risZ ((bs ++ pb) ++ bs7) (m : Int) = (g, (L : Int), 0) by rw [List.append_assoc, ← HM.out, GZ.out, hLn.out, HM.out]] at g8
        obtain ⟨N, hN⟩ : ∃ N, N = ((bs ++ pb) ++ bs7).length := ⟨_, rfl⟩
        rw [← hN] at g8 ⊢
        have G8 := Lib.hid g8
        have HB8 := Lib.hid (HBW.out.trans hb8)
        have hs8 := HB8.out.size
        clear hown8 hg8 hb8 ho8 hc8 hcx8 hr8 hlen8 g8 hN
        go_wp2_with (go_at_call 20; refine G8.out.mono ?_)
        rintro e w9 ⟨v9, rfl, hown9, hb9⟩
        simp only at hown9
        rw [HGL.out] at hown9
        obtain ⟨A9, c9, rfl, _, hr9⟩ := owned_row hown9
        have HR9 := Lib.hid hr9
        have HRG9 := Lib.hid (owned_row_of (owned_below HOG8.out hb9))
        have HB9 := Lib.hid (HB8.out.trans (hb9.mono hs8))
        clear hown9 hr9 hb9
        go_wp2_with (go_at_call 21; refine (ref_Same_at A9 Ag n n c9 cg g _ HGL.out HGL.out HR9.out HRG9.out (by omega)).mono ?_)
        rintro e w10 ⟨rfl, hb10⟩
        have HB10 := Lib.hid (HB9.out.trans (hb10.mono HB9.out.size))
        clear hb10
        go_wp2_with (go_at_call 14; refine (law04_lives _).mono ?_)
        rintro e w11 ⟨rfl, hb11⟩
        go_wp2
        go_ret
        exact ⟨rfl, HB10.out.trans (hb11.mono HB10.out.size)⟩
end Go.Proofs.Ytmcfkdnilmbecaa
