/- BufferOwns holds of any documents that came in. -/
import Derived.Test.YtgcdekaceimdnaaGreatQ18
import Derived.Test.YtgcdekaceimdnaaGreatQ15
import Derived.Test.YtgcdekaceimdnaaGreatLike09
import Derived.Test.YtgcdekaceimdnaaGreatQ16
import Derived.Deep.RegionHeld3
import Derived.Deep.DeepCutAuto
namespace Go.Proofs.YtgcdekaceimdnaaGreat
open Go Go.RowKit
set_option linter.unusedVariables false

def OwnRel (B : Nat) (G : List En) (V : Value) (A1 : Option Addr) (N0 N : Nat) (w : World) (x : Value) (wr : World) : Prop := ∃ (k : Nat) (S : Nat → Prop), k ≤ N ∧ x = .int .i64 (k : Int) ∧ OwnAt S B (G.take k) ((k : Int) - 1) V G A1 G N0 w wr
/-- The entry of its own at block O, its fields' texts spoiled. -/
def OwnRel2 (S : Nat → Prop) (B : Nat) (L : List En) (up : Int) (G : List En) (V : Value) (A1 : Option Addr) (N0 : Nat) (w : World) (O : Nat) (id seq : Int) (AF : Option Addr) (m c : Nat) (x : Value) (wx : World) : Prop :=
  ∃ j : Nat, j ≤ m ∧ x = .int .i64 (j : Int) ∧ OwnAt S B L up V G A1 G N0 w wx ∧ wx.heap[O]? = some (.cells #[.int .i64 id, .slice AF m c, .int .i64 seq] 37 (0, 0)) ∧ Shell (fun b => N0 ≤ b ∧ ¬ S b) 59 2 wx AF m

abbrev Free (N0 : Nat) (S : Nat → Prop) (x : Nat) : Prop := N0 ≤ x ∧ ¬ S x
def OwnRel3 (S : Nat → Prop) (B : Nat) (up : Int) (G : List En) (V : Value) (A1 : Option Addr) (N0 N : Nat) (w : World) (A9 : Option Addr) (x : Value) (wx : World) : Prop :=
  ∃ i : Nat, i ≤ N ∧ x = .int .i64 (i : Int) ∧ OwnAt S B G up V G A1 G N0 w wx ∧ (0 < N → ∃ T, A9 = some ⟨T, 0, none⟩ ∧ ToldIn (Free N0 S) T N wx)
def OwnRel4 (S : Nat → Prop) (B : Nat) (up : Int) (G : List En) (V : Value) (A1 : Option Addr) (N0 N : Nat) (w : World) (T i : Nat) (A : Option Addr) (m c : Nat) (x : Value) (wx : World) : Prop :=
  ∃ j : Nat, j ≤ m ∧ x = .int .i64 (j : Int) ∧ OwnAt S B G up V G A1 G N0 w wx ∧ ToldIn (Free N0 S) T N wx ∧ wx.cell? ⟨T, i * 3 + 1, none⟩ = some (.slice A m c) ∧ Shell (Free N0 S) 59 2 wx A m
def OwnRel5 (S : Nat → Prop) (B : Nat) (up : Int) (G : List En) (V : Value) (A1 : Option Addr) (N0 K : Nat) (w : World) (b8 : Nat) (V8 : Value) (x : Value) (wx : World) : Prop :=
  ∃ j : Nat, j ≤ K ∧ x = .int .i64 (j : Int) ∧ OwnAt S B G up V G A1 G N0 w wx ∧ OwnNm b8 wx V8 (keysE G)
def OwnRel6 (S : Nat → Prop) (B : Nat) (up : Int) (G : List En) (V : Value) (A1 : Option Addr) (N0 NL : Nat) (w : World) (b8 : Nat) (V8 : Value) (T : Nat) (x : Value) (wx : World) : Prop :=
  ∃ j : Nat, j ≤ NL ∧ x = .int .i64 (j : Int) ∧ OwnAt S B G up V G A1 G N0 w wx ∧ OwnNm b8 wx V8 (keysE G) ∧ PostIn (Free N0 S) T NL wx
set_option maxHeartbeats 8000000 in
set_option maxRecDepth 100000 in
theorem walk_BufferOwns (a0 : Option Addr) (len0 cap0 : Nat) (z0 : List Dc) (W : World) (h0 : InDocs W a0 len0 cap0 z0) :
    Calls Tryz.prog 5 #[.slice a0 len0 cap0] W fun e W' => e = .returned (.bool true) ∧ Below W.heap.size W W' := by
  obtain ⟨i0, hi0, hz0, hz1, hz2⟩ := info_parts info_field
  obtain ⟨g1, g2, g3, g4, g5⟩ := h0
  have HN := Lib.hid g4
  have HFD := Lib.hid g5
  have HL3 := Lib.hid g3
  obtain ⟨G, hG⟩ : ∃ G, G = goodsE z0 5 0 1 := ⟨_, rfl⟩
  have hGl : G.length ≤ 5 := by rw [hG, goodsE_length]; omega
  have HGOOD : Hid (∀ q ∈ G, ∃ d, q.2.1 = goodD d) := Lib.hid (by rw [hG]; exact goodsE_good _ _ _ _)
  have HGE : Hid (GoodE G) := Lib.hid (by rw [hG]; exact goodsE_goodE _ _ _ _)
  have HSEQ : Hid (∀ i (h : i < G.length), G[i].2.2 = (i : Int)) := Lib.hid (by subst hG; exact fun i h => by rw [goodsE_at h]; omega)
  have HGD : Hid (∀ w1, Below W.heap.size W w1 → Calls Tryz.prog 16 #[.slice a0 len0 cap0, .int .i64 5, .int .i64 0, .int .i64 1] w1 (GaveEn G w1)) := Lib.hid fun w1 hb => by
    rw [hG]
    exact ref09_Good a0 len0 cap0 z0 5 0 1 w1 HL3.out (Nest.later HN.out hb) (by unfold maxLen at g2; omega) (by omega) (by omega) (by omega) fun q hq f hf => by
      have := HFD.out q hq f hf
      unfold maxLen at this
      omega
  clear g3 g4 g5 hG
  obtain ⟨N, hN⟩ : ∃ N, N = G.length := ⟨_, rfl⟩
  rw [← hN] at hGl
  have HHN := Lib.hid hN
  clear hN
  go_enter Tryz.func5, Tryz.ntmps5
  go_upto_region 6 with (first
    | (go_at_call 7; (with_reducible refine (buf_New W).mono ?_); rintro e w1 ⟨S, B, rfl, hb1, hS1, hw1⟩
       have HB1 := Lib.hid hb1
       have HS1 := Lib.hid hS1
       have HW1 := Lib.hid hw1
       clear hb1 hS1 hw1)
    | (go_at_call 16; (with_reducible refine (HGD.out w1 HW1.out).mono ?_); rintro e w2 ⟨V2, rfl, ho2, hb2⟩
       obtain ⟨AG, cG, rfl, hcG, hu⟩ := ho2.nest
       rw [← HHN.out] at hcG ⊢
       have HO2 : Hid (OwnES (fun k => w1.heap.size ≤ k) w2 (.slice AG N cG) G) := Lib.hid (by rw [HHN.out]; exact ho2)
       have HB2 := Lib.hid hb2
       have HW2 : Hid (Below W.heap.size W w2) := Lib.hid (HW1.out.trans (hb2.mono HW1.out.size))
       clear ho2 hb2 hu)
    | (go_at_call 16; (with_reducible refine (HGD.out w2 HW2.out).mono ?_); rintro e w3 ⟨V3, rfl, ho3, hb3⟩
       obtain ⟨AK, cK, rfl, hcK, hu⟩ := ho3.nest
       rw [← HHN.out] at hcK ⊢
       have HST : Hid (OwnRel B G (.slice AG N cG) AK w3.heap.size N W (.int .i64 0) w3) := Lib.hid (by
         have hb13 := HB2.out.trans (hb3.mono HB2.out.size)
         have hs12 := HB2.out.size
         have hs23 := hb3.size
         refine ⟨0, S, Nat.zero_le _, rfl, HB1.out.below hb13, HS1.out, ?_, ?_, Nat.le_trans HW2.out.size hs23, Nat.le_refl _, HW2.out.trans (hb3.mono HW2.out.size)⟩
         · have h2 : OwnES (fun k => w1.heap.size ≤ k ∧ k < w2.heap.size) w2 (.slice AG N cG) G := by
             obtain ⟨cs, r1, r2, r3⟩ := HO2.out
             exact ⟨cs, r1, fun k hk => ⟨r2 k hk, (r1.lt k hk).2⟩, r3.imp fun A xs h => ⟨RowP.imp h.1 fun k hk => ⟨⟨hk.1, hk.lt⟩, hk.2⟩, h.2⟩⟩
           exact (h2.keeps fun k hk _ => hb3.block k hk.2).imp fun k hk => ⟨by have := hk.2; omega, fun hs => by have := HB1.out.lt k hs; have := hk.1; omega⟩
         · obtain ⟨A9, c9, e9, _, hn9⟩ := ho3.nestP (p := fun k => w2.heap.size ≤ k ∧ k < w3.heap.size) fun k h1 h2 _ => ⟨h1, h2⟩
           have : A9 = AK := by injection e9 with e _ _; exact e.symm
           rw [← this]
           exact hn9.imp fun k hk => ⟨hk.2, fun hs => by have := HB1.out.lt k hs; have := hk.1; omega⟩)
       have hwn : W.heap.size ≤ w3.heap.size := Nat.le_trans HW2.out.size hb3.size
       clear ho3 hb3 hu))
  obtain ⟨N0, hN0⟩ : ∃ N0, N0 = w3.heap.size := ⟨_, rfl⟩
  rw [← hN0] at HST hwn
  clear hN0
  go_wp2
  go_loopw [6] (fun x wr => OwnRel B G (.slice AG N cG) AK N0 N W x wr) (fun x _ => N - (intOf x).toNat)
  case atStart => exact HST.out
  case round =>
    obtain ⟨k, S1, hk, rfl, hrig⟩ := hrel
    by_cases hka : k < N
    · have hkG : k < G.length := by have := HHN.out; omega
      obtain ⟨b, c0, A', c', hv, hbS, hbl, e0, e1, e2, hc', hcx', hrow⟩ := hrig.own.at_ hkG
      have hAG : AG = some ⟨b, 0, none⟩ := by injection hv
      clear hv
      subst hAG
      have hsq := HSEQ.out k hkG
      have hgf := HGE.out _ (List.getElem_mem hkG)
      obtain ⟨dk, hdk⟩ := HGOOD.out _ (List.getElem_mem hkG)
      have htx : ∀ f ∈ G[k].2.1, f.1.length ≤ 1024 ∧ f.2.length ≤ 1024 := fun f hf => by
        have h1 := hgf.names f hf
        have h2 := hgf.texts f hf
        omega
      have hmay : mayE ((k : Int) - 1) G[k] = 0 := by
        rw [mayE_good hdk, hsq, if_neg (by omega)]
      have hts : G.take (k + 1) = G.take k ++ [G[k]] := List.take_succ_eq_append_getElem hkG
      obtain ⟨gk, hgk⟩ : ∃ gk, gk = G[k] := ⟨_, rfl⟩
      rw [← hgk] at e0 e1 e2 hsq hts hmay htx hgf hc' hrow
      obtain ⟨id, d, seq⟩ := gk
      simp only at e0 e1 e2 hsq htx hgf hc' hrow
      obtain ⟨m, hm⟩ : ∃ m, m = d.length := ⟨_, rfl⟩
      rw [← hm] at e1 hc'
      have hm8 : m ≤ 8 := by rw [hm]; exact hgf.len
      have k0 : (0 : Int) ≤ k := by omega
      have k1 : (k : Int) < N := by omega
      have HRG := Lib.hid hrig
      have HROW := Lib.hid hrow
      have HMAY := Lib.hid hmay
      have HTS := Lib.hid hts
      have HTX := Lib.hid htx
      have HM := Lib.hid hm
      have HSQ := Lib.hid hsq
      clear hrig hrow hmay hts htx hm hsq hgk hgf hdk
      have HS0 : Hid (∀ w', Below wr.heap.size wr w' → w'.cell? ⟨b, k * 3, none⟩ = some (.int .i64 id) ∧ w'.cell? ⟨b, k * 3 + 1, none⟩ = some (.slice A' m c') ∧ w'.cell? ⟨b, k * 3 + 2, none⟩ = some (.int .i64 seq)) := Lib.hid fun w' h => ⟨(h.cell (p := ⟨b, _, none⟩) hbl).trans e0, (h.cell (p := ⟨b, _, none⟩) hbl).trans e1, (h.cell (p := ⟨b, _, none⟩) hbl).trans e2⟩
      have ac0 : ∀ o, (wr.alloc o).cell? ⟨b, k * 3, none⟩ = some (.int .i64 id) := fun o => (HS0.out _ ((Below.refl _ _).alloc (Nat.le_refl _) o)).1
      have ac2 : ∀ o, (wr.alloc o).cell? ⟨b, k * 3 + 2, none⟩ = some (.int .i64 seq) := fun o => (HS0.out _ ((Below.refl _ _).alloc (Nat.le_refl _) o)).2.2
      clear e0 e1 e2
      go_upto_region 12 with fail
      obtain ⟨w4, hw4⟩ : ∃ w4, w4 = wr.alloc (.cells #[.int .i64 id, .slice none 0 0, .int .i64 seq] 37) := ⟨_, rfl⟩
      have hb4 : Below wr.heap.size wr w4 := by rw [hw4]; exact (Below.refl _ _).alloc (Nat.le_refl _) _
      have hO4 : w4.heap[wr.heap.size]? = some (.cells #[.int .i64 id, .slice none 0 0, .int .i64 seq] 37 (0, 0)) := by rw [hw4]; exact heap_alloc_new _ _
      have HS4 : Hid (w4.drew.cell? ⟨b, k * 3 + 1, none⟩ = some (.slice A' m c')) := Lib.hid (HS0.out w4 hb4).2.1
      have hrow4 : Row w4.drew w4.heap.size A' (flds d) := (HROW.out.keepO fun k hk => hb4.block k hk.lt).1.imp fun k hk => hk.lt
      obtain ⟨v5, w5, hrun5, ho5, hg5⟩ := run_append_row (P := Tryz.prog) w4.drew 28 28 w4.heap.size 59 i0 _ 2 32 Tryz.underlying28 hi0 hz0 hz1 hz2 rfl (by omega) (.slice none 0 0) 0 [] (World.ownsRow_nil _ _ _ _) w4.heap.size A' m c' (flds d) (by rw [flds_length, HM.out]) hrow4 (fun _ => HROW.out.2) (flds_oneCell _) (by unfold maxLen; omega) (by omega) (Nat.le_refl _)
      rw [Nat.zero_add, List.nil_append] at ho5
      obtain ⟨A5, c5, rfl, hc5, hu5⟩ := owned_roomed ho5
      have hb45 : Below w4.heap.size w4 w5 := (Below.refl _ w4).drew.grown hg5 (Nat.le_refl _) fun j hj => by cases hj
      have hO5 := (hb45.block _ (lt_of_block hO4)).trans hO4
      obtain ⟨w6, hw6⟩ : ∃ w6, w6 = w5.setCell ⟨wr.heap.size, 1, none⟩ (.slice A5 m c5) := ⟨_, rfl⟩
      have hO6 : w6.heap[wr.heap.size]? = some (.cells #[.int .i64 id, .slice A5 m c5, .int .i64 seq] 37 (0, 0)) := by rw [hw6, set_at hO5]; rfl
      have hb46 : Below wr.heap.size wr w6 := by rw [hw6]; exact (hb4.trans (hb45.mono hb4.size)).setCell (Nat.le_refl _) _
      have hs4 : w4.heap.size = wr.heap.size + 1 := by rw [hw4]; simp
      have hF6 : OwnFd (wr.heap.size + 1) w6 (.slice A5 m c5) d := by
        unfold OwnFd
        rw [hw6, ← HM.out, ← hs4]
        exact ownsRow_setCell_below ho5 (a := ⟨wr.heap.size, 1, none⟩) (by simp; omega) _
      have HS5 : Hid (w5.cell? ⟨b, k * 3 + 1, none⟩ = some (.slice A' m c')) := Lib.hid (HS0.out w5 (hb4.trans (hb45.mono hb4.size))).2.1
      have HS6 : Hid ((w5.setCell ⟨wr.heap.size, 1, none⟩ (.slice A5 m c5)).cell? ⟨b, k * 3 + 1, none⟩ = some (.slice A' m c')) := Lib.hid (by rw [← hw6]; exact (HS0.out w6 hb46).2.1)
      have x1 := (three_cells hO4).2.1
      have y1 := (three_cells hO5).2.1
      have y2 := (three_more hO5).2.1
      have HRUN := Lib.hid hrun5
      have HW6 : Hid (w5.setCell ⟨wr.heap.size, 1, none⟩ (.slice A5 m c5) = w6) := Lib.hid hw6.symm
      have HO6 := Lib.hid hO6
      have HB46 := Lib.hid hb46
      have HF6 := Lib.hid hF6
      have HW4 := Lib.hid hw4
      clear hrun5 hw4 hb4 hO4 hrow4 ho5 hg5 hu5 hb45 hO5 hw6 hO6 hb46 hs4 hF6 ac0 ac2
      rw [show wr.alloc _ = w4 from HW4.out.symm]
      go_cut [] from 43 to 54 (fun wx => wx = w6)
      case first =>
--R12
        refine wp_region_held_drew (S := (fun w' => w'.cell? ⟨b, k * 3 + 1, none⟩ = some (.slice A' m c'))) (by kernel_rfl) HS4.out (fun hHeld0 => ?_)
        refine wpAnyH_take (i := 0) (v := .pointer (some ⟨wr.heap.size, 0, none⟩)) rfl (by kernel_rfl) (by kernel_rfl) (by kernel_rfl) (fun _ _ _ h => h) (Or.inl ⟨by rfl, fun wx hSw => by go_simp⟩) (by assumption) ?_
        try simp only [Act.put, List.getElem_toArray, List.getElem_cons_zero, List.setIfInBounds_toArray, List.set_cons_zero, List.set_cons_succ]
        refine wpAnyH_take (i := 1) (v := .pointer (some ⟨wr.heap.size, 1, none⟩)) rfl (by kernel_rfl) (by kernel_rfl) (by kernel_rfl) (fun _ _ _ h => h) (Or.inl ⟨by rfl, fun wx hSw => by go_simp⟩) (by assumption) ?_
        try simp only [Act.put, List.getElem_toArray, List.getElem_cons_zero, List.getElem_cons_succ, List.setIfInBounds_toArray, List.set_cons_zero, List.set_cons_succ]
        refine wpAnyH_take (i := 3) (v := .slice (some ⟨b, 0, none⟩) N cG) rfl (by kernel_rfl) (by kernel_rfl) (by kernel_rfl) (fun _ _ _ h => h) (Or.inl ⟨by rfl, fun wx hSw => by go_simp⟩) (by assumption) ?_
        try simp only [Act.put, List.getElem_toArray, List.getElem_cons_zero, List.getElem_cons_succ, List.setIfInBounds_toArray, List.set_cons_zero, List.set_cons_succ]
        refine wpAnyH_take (i := 4) (v := .int .i64 (k : Int)) rfl (by kernel_rfl) (by kernel_rfl) (by kernel_rfl) (fun _ _ _ h => h) (Or.inl ⟨by rfl, fun wx hSw => by go_simp⟩) (by assumption) ?_
        try simp only [Act.put, List.getElem_toArray, List.getElem_cons_zero, List.getElem_cons_succ, List.setIfInBounds_toArray, List.set_cons_zero, List.set_cons_succ]
        refine wpAnyH_take (i := 5) (v := .pointer (some ⟨b, k * 3, none⟩)) rfl (by kernel_rfl) (by kernel_rfl) (by kernel_rfl) (fun _ _ _ h => h) (Or.inl ⟨by rfl, fun wx hSw => by go_simp⟩) (by assumption) ?_
        try simp only [Act.put, List.getElem_toArray, List.getElem_cons_zero, List.getElem_cons_succ, List.setIfInBounds_toArray, List.set_cons_zero, List.set_cons_succ]
        refine wpAnyH_take (i := 6) (v := .pointer (some ⟨b, k * 3, none⟩)) rfl (by kernel_rfl) (by kernel_rfl) (by kernel_rfl) (fun _ _ _ h => h) (Or.inl ⟨by rfl, fun wx hSw => by go_simp⟩) (by assumption) ?_
        try simp only [Act.put, List.getElem_toArray, List.getElem_cons_zero, List.getElem_cons_succ, List.setIfInBounds_toArray, List.set_cons_zero, List.set_cons_succ]
        refine wpAnyH_take (i := 7) (v := .pointer (some ⟨b, k * 3 + 1, none⟩)) rfl (by kernel_rfl) (by kernel_rfl) (by kernel_rfl) (fun _ _ _ h => h) (Or.inl ⟨by rfl, fun wx hSw => by go_simp⟩) (by assumption) ?_
        try simp only [Act.put, List.getElem_toArray, List.getElem_cons_zero, List.getElem_cons_succ, List.setIfInBounds_toArray, List.set_cons_zero, List.set_cons_succ]
        refine wpAnyH_take (i := 8) (v := .slice A' m c') rfl (by kernel_rfl) (by kernel_rfl) (by kernel_rfl) (fun _ _ _ h => h) (Or.inl ⟨by rfl, fun wx hSw => by go_simp⟩) (by assumption) ?_
        try simp only [Act.put, List.getElem_toArray, List.getElem_cons_zero, List.getElem_cons_succ, List.setIfInBounds_toArray, List.set_cons_zero, List.set_cons_succ]
        refine wpAnyH_ready (rs := [2]) (by kernel_rfl) (by simp) ?_
        refine AllReadyH.cons rfl (fun K hK => ?_) AllReadyH.nil
        try simp only [List.getElem_toArray, List.getElem_cons_zero, List.getElem_cons_succ]
        go_simp
        refine hK.out _ _ ?_ (fun hHeld1 => ?_)
        · exact HS4.out
        clear hK K
        try simp only [Act.put, List.getElem_toArray, List.getElem_cons_zero, List.getElem_cons_succ, List.setIfInBounds_toArray, List.set_cons_zero, List.set_cons_succ]
        refine wpAnyH_ready (rs := [9]) (by kernel_rfl) (by simp) ?_
        refine AllReadyH.cons rfl (fun K hK => ?_) AllReadyH.nil
        try simp only [List.getElem_toArray, List.getElem_cons_zero, List.getElem_cons_succ]
        refine step_append_run9 (a := ⟨_, _⟩) ?_ (.tmp 45) (.tmp 51) 28 ?_ (.slice none 0 0) (.slice A' m c') ?_ ?_ _ _ HRUN.out ?_
        · rfl
        · rfl
        · rfl
        · rfl
        refine hK.out _ _ ?_ (fun hHeld2 => ?_)
        · exact HS5.out
        clear hK K
        try simp only [Act.put, List.setIfInBounds_toArray, List.set_cons_zero, List.set_cons_succ]
        refine wpAnyH_take (i := 10) (v := .pointer (some ⟨wr.heap.size, 0, none⟩)) rfl (by kernel_rfl) (by kernel_rfl) (by kernel_rfl) (fun _ _ _ h => h) (Or.inl ⟨by rfl, fun wx hSw => by go_simp⟩) (by assumption) ?_
        try simp only [Act.put, List.getElem_toArray, List.getElem_cons_zero, List.getElem_cons_succ, List.setIfInBounds_toArray, List.set_cons_zero, List.set_cons_succ]
        refine wpAnyH_take (i := 11) (v := .pointer (some ⟨wr.heap.size, 1, none⟩)) rfl (by kernel_rfl) (by kernel_rfl) (by kernel_rfl) (fun _ _ _ h => h) (Or.inl ⟨by rfl, fun wx hSw => by go_simp⟩) (by assumption) ?_
        try simp only [Act.put, List.getElem_toArray, List.getElem_cons_zero, List.getElem_cons_succ, List.setIfInBounds_toArray, List.set_cons_zero, List.set_cons_succ]
        refine wpAnyH_ready (rs := [12]) (by kernel_rfl) (by simp) ?_
        refine AllReadyH.cons rfl (fun K hK => ?_) AllReadyH.nil
        try simp only [List.getElem_toArray, List.getElem_cons_zero, List.getElem_cons_succ]
        go_simp
        refine hK.out _ _ ?_ (fun hHeld3 => ?_)
        · exact HS6.out
        clear hK K
        try simp only [Act.put, List.getElem_toArray, List.getElem_cons_zero, List.getElem_cons_succ, List.setIfInBounds_toArray, List.set_cons_zero, List.set_cons_succ]
        refine wpAnyH_done (by kernel_rfl) ?_ _
        go_wp2_with fail
        go_meet
        exact HW6.out
        --R12END
      case rest =>
        obtain rfl := hcut
        obtain ⟨O, hO⟩ : ∃ O, O = wr.heap.size := ⟨_, rfl⟩
        have HADD : Hid (Calls Tryz.prog 13 #[.pointer (some ⟨B, 0, none⟩), .agg #[.int .i64 id, .slice A5 m c5, .int .i64 seq]] wc fun e w' => e = .returned (.int .i64 0) ∧ ∃ S', OwnAt S' B (G.take (k + 1)) (((k + 1 : Nat) : Int) - 1) (.slice (some ⟨b, 0, none⟩) N cG) G AK G N0 W w' ∧ w'.heap[O]? = some (.cells #[.int .i64 id, .slice A5 m c5, .int .i64 seq] 37 (0, 0)) ∧ Shell (fun x => N0 ≤ x ∧ ¬ S' x) 59 2 w' A5 m) := Lib.hid (by
          have hr6 := HRG.out.below HB46.out
          have hlt1 := HRG.out.buf.lt
          have hhi := HRG.out.hi
          have hfr : RowF (fun x => O + 1 ≤ x ∧ x < wc.heap.size) wc A5 (flds d) := by
            have h := HF6.out
            unfold OwnFd at h
            rw [← HM.out] at h
            exact RowF.of_own h fun x h1 h2 => ⟨by omega, h2⟩
          refine (buf_Add hr6.buf ((id, d, seq) : En) A5 m c5 HM.out.symm hc5.1 (hfr.1.imp fun x hx => ⟨hx.lt, fun hs => by have := hlt1 x hs; have := hx.1.1; omega⟩) hfr.2 (by omega) HTX.out (by rw [List.length_take]; omega)).mono ?_
          rintro e w' ⟨rfl, _, h2⟩
          rw [HMAY.out] at h2 ⊢
          obtain ⟨S', hb', hS', ho'⟩ := h2 rfl
          have hown := hr6.added hb' hS' ho'
          refine ⟨rfl, S', ?_, ?_, ?_⟩
          · rw [HTS.out, show ((k + 1 : Nat) : Int) - 1 = seq by rw [HSQ.out]; push_cast; omega]
            exact hown
          · have h6 := HO6.out
            rw [← hO] at h6
            exact (ho'.block O (lt_of_block h6) fun hs => by have := hlt1 O hs; omega).trans h6
          · have hsh : Shell (fun x => O + 1 ≤ x ∧ x < wc.heap.size) 59 2 wc A5 m := Shell.of hfr.1 (by rw [flds_length, HM.out]) (by decide)
            exact (hsh.keep fun x cs hx _ => ho'.block x hx.2 fun hs => by have := hlt1 x hs; have := hx.1; omega).imp fun x hx => ⟨by have := hx.1; omega, fun hs => (hS' x hs).elim (fun hs => by have := hlt1 x hs; have := hx.1; omega) fun hs => by have := hx.2; omega⟩)
        have hO6 := HO6.out
        rw [← hO] at hO6 ⊢
        obtain ⟨p0, p1, p2⟩ := three_cells hO6
        clear hO6 hO y1 y2 x1
        go_wp2_with (go_at_call 13; (with_reducible refine HADD.out.mono ?_); rintro e w7 ⟨rfl, S7, hown7, hO7, hsh7⟩
                     have HOW7 := Lib.hid hown7
                     have HO7 := Lib.hid hO7
                     have HSH7 := Lib.hid hsh7
                     clear hown7 hO7 hsh7)
        clear p0 p1 p2
        go_loopw [8] (fun x wx => OwnRel2 S7 B (G.take (k + 1)) (((k + 1 : Nat) : Int) - 1) G (.slice (some ⟨b, 0, none⟩) N cG) AK N0 W O id seq A5 m c5 x wx) (fun x _ => m - (intOf x).toNat)
        case atStart => exact ⟨0, Nat.zero_le _, rfl, HOW7.out, HO7.out, HSH7.out⟩
        case round =>
          obtain ⟨j, hj, rfl, hr8, hO8, hsh8⟩ := hrel
          obtain ⟨p0, p1, p2⟩ := three_cells hO8
          by_cases hjm : j < m
          · obtain ⟨bF, oF, rfl, hpF, ⟨u, hu⟩, hfz, ⟨csF, hFF⟩⟩ := hsh8.at_ (j := j) (i := 1) hjm (by decide)
            have hne : bF ≠ O := fun e => by
              rw [e, hO8] at hFF
              injection hFF with hFF
              injection hFF with _ h2 _
              exact absurd h2 (by decide)
            have HREL : Hid (OwnRel2 S7 B (G.take (k + 1)) (((k + 1 : Nat) : Int) - 1) G (.slice (some ⟨b, 0, none⟩) N cG) AK N0 W O id seq (some ⟨bF, oF, none⟩) m c5 (.int .i64 ((j : Int) + 1)) (wr.setCell ⟨bF, oF + j * 2 + 1, none⟩ (.string ⟨#[115, 112, 111, 105, 108, 101, 100]⟩))) := Lib.hid
              ⟨j + 1, hjm, by push_cast; rfl, hr8.spoil hpF, (set_ne hne).trans hO8, hsh8.set _ _ _⟩
            have j0 : (0 : Int) ≤ j := by omega
            have j1 : (j : Int) < m := by omega
            clear hr8 hO8 hsh8 hpF hFF hne
            go_wp2
            exact ⟨HREL.out, by simp [intOf]; omega⟩
          · have hje : j = m := by omega
            subst hje
            have HREL : Hid (OwnRel B G (.slice (some ⟨b, 0, none⟩) N cG) AK N0 N W (.int .i64 ((k : Int) + 1)) wr) := Lib.hid ⟨k + 1, S7, hka, by push_cast; rfl, hr8⟩
            clear hr8 hO8 hsh8 hjm
            go_wp2
            exact ⟨HREL.out, by simp [intOf]; omega⟩
    · have hke : k = N := by omega
      subst hke
      have htk : G.take k = G := List.take_of_length_le (by have := HHN.out; omega)
      rw [htk] at hrig
      obtain ⟨UP, hUP⟩ : ∃ UP : Int, UP = (k : Int) - 1 := ⟨_, rfl⟩
      rw [← hUP] at hrig
      have HEN := Lib.hid (buf_Entries hrig.buf (by have := HHN.out; omega))
      have hfree : ∀ x, wr.heap.size ≤ x → Free N0 S1 x := fun x hx => ⟨by have := hrig.hi; omega, fun hs => by have := hrig.buf.lt x hs; omega⟩
      have HFREE := Lib.hid hfree
      have HRG := Lib.hid hrig
      clear hrig htk hUP hka hfree
      go_wp2_with (go_at_call 22; (with_reducible refine HEN.out.mono ?_); rintro e w9 ⟨V9, rfl, ho9, hb9⟩
                   obtain ⟨A9, c9, rfl, hc9, hu9⟩ := ho9.nest
                   rw [← HHN.out] at hc9 ⊢
                   have HR9 : Hid (OwnRel3 S1 B UP G (.slice AG k cG) AK N0 k W A9 (.int .i64 0) w9) := Lib.hid (by
                     refine ⟨0, Nat.zero_le _, rfl, HRG.out.below hb9, fun h0 => ?_⟩
                     obtain ⟨T, c, hV, hT⟩ := ToldIn.of ho9 HFREE.out (fun q hq => by have := (HGE.out q hq).len; omega) (by have := HHN.out; omega)
                     refine ⟨T, ?_, by rw [HHN.out]; exact hT⟩
                     injection hV)
                   clear ho9 hb9 hu9)
      go_loopw [10] (fun x wx => OwnRel3 S1 B UP G (.slice AG k cG) AK N0 k W A9 x wx) (fun x _ => k - (intOf x).toNat)
      case atStart => exact HR9.out
      case round =>
        obtain ⟨i, hi, rfl, hr10, htold⟩ := hrel
        by_cases hik : i < k
        · obtain ⟨T, rfl, hT⟩ := htold (by omega)
          obtain ⟨A, m, c, hcell, hm, hsh⟩ := hT.2 i hik
          have HR10 := Lib.hid hr10
          have HT10 := Lib.hid hT
          have HSH := Lib.hid hsh
          have i0' : (0 : Int) ≤ i := by omega
          have i1' : (i : Int) < k := by omega
          clear hr10 hT hsh htold
          go_wp2
          go_loopw [11] (fun x wx => OwnRel4 S1 B UP G (.slice AG k cG) AK N0 k W T i A m c x wx) (fun x _ => m - (intOf x).toNat)
          case atStart => exact ⟨0, Nat.zero_le _, rfl, HR10.out, HT10.out, hcell, HSH.out⟩
          case round =>
            obtain ⟨j, hj, rfl, hr11, hT11, hcell11, hsh11⟩ := hrel
            by_cases hjm : j < m
            · obtain ⟨bF, oF, rfl, hpF, ⟨u, hu⟩, hfz, ⟨csF, hFF⟩⟩ := hsh11.at_ (j := j) (i := 0) hjm (by decide)
              rw [Nat.add_zero] at hu hfz
              have hne : bF ≠ T := fun e => by
                obtain ⟨cT, hTT⟩ := hT11.1
                rw [e, hTT] at hFF
                injection hFF with hFF
                injection hFF with _ h2 _
                exact absurd h2 (by decide)
              have HREL : Hid (OwnRel4 S1 B UP G (.slice AG k cG) AK N0 k W T i (some ⟨bF, oF, none⟩) m c (.int .i64 ((j : Int) + 1)) (wr.setCell ⟨bF, oF + j * 2, none⟩ (.string ⟨#[115, 112, 111, 105, 108, 101, 100]⟩))) := Lib.hid
                ⟨j + 1, hjm, by push_cast; rfl, hr11.spoil hpF, hT11.set hFF, (cell_far hne).trans hcell11, hsh11.set _ _ _⟩
              have j0 : (0 : Int) ≤ j := by omega
              have j1 : (j : Int) < m := by omega
              clear hr11 hT11 hsh11 hpF hFF hne hcell
              go_wp2
              exact ⟨HREL.out, by simp [intOf]; omega⟩
            · have hje : j = m := by omega
              subst hje
              have HREL : Hid (OwnRel3 S1 B UP G (.slice AG k cG) AK N0 k W (some ⟨T, 0, none⟩) (.int .i64 ((i : Int) + 1)) wr) := Lib.hid ⟨i + 1, hik, by push_cast; rfl, hr11, fun _ => ⟨T, rfl, hT11⟩⟩
              clear hr11 hT11 hsh11 hjm hcell
              go_wp2
              exact ⟨HREL.out, by simp [intOf]; omega⟩
        · have hie : i = k := by omega
          subst hie
          have HRI := Lib.hid hr10
          have HKE := Lib.hid (buf_Keys hr10.buf (by have := HHN.out; omega))
          obtain ⟨b8, hb8⟩ : ∃ b8, b8 = wr.heap.size := ⟨_, rfl⟩
          have HB8 := Lib.hid hb8
          clear hr10 htold hik hb8
          go_wp2_with (go_at_call 17; (with_reducible refine HKE.out.mono ?_); rintro e w12 ⟨v12, rfl, ho12, hb12⟩
                       obtain ⟨A12, c12, rfl, hc12, hu12⟩ := ho12.row
                       obtain ⟨K, hK⟩ : ∃ K, K = (keysE G).length := ⟨_, rfl⟩
                       rw [← hK] at hc12 ⊢
                       have ho12' : OwnNm b8 w12 (.slice A12 K c12) (keysE G) := by rw [HB8.out, hK]; exact ho12
                       have HHK := Lib.hid hK
                       have HR12 : Hid (OwnRel5 S1 B UP G (.slice AG i cG) AK N0 K W b8 (.slice A12 K c12) (.int .i64 0) w12) := Lib.hid ⟨0, Nat.zero_le _, rfl, HRI.out.below hb12, ho12'⟩
                       clear ho12 ho12' hb12 hu12 hK)
          have hK4 : K ≤ 40000 := by
            have h1 := keysE_length (l := G) (a := []) (M := 4000) fun q hq => terms_len9 (HGE.out q hq)
            have h2 : (keysE G).length ≤ G.length * 4000 + ([] : List Nm).length := h1
            simp only [List.length_nil] at h2
            have := HHN.out
            have := HHK.out
            omega
          go_loopw [13] (fun x wx => OwnRel5 S1 B UP G (.slice AG i cG) AK N0 K W b8 (.slice A12 K c12) x wx) (fun x _ => K - (intOf x).toNat)
          case atStart => exact HR12.out
          case round =>
            obtain ⟨j, hj, rfl, hr13, ho13⟩ := hrel
            obtain ⟨wo, rfl⟩ : ∃ wo, wo = wr := ⟨_, rfl⟩
            by_cases hjK : j < K
            · have hjl : j < (keysE G).length := by have := HHK.out; omega
              obtain ⟨A13, c13, e13, _, hrow13⟩ := OwnNm.row ho13
              have hA13 : A13 = A12 := by injection e13 with e _ _; exact e.symm
              clear e13
              subst hA13
              obtain ⟨b13, o13, rfl, hb13, hx13⟩ := row_nm hrow13 hjl
              obtain ⟨x, hx, hx2⟩ := as_text (keysE G)[j]
              rw [← hx] at hx13
              have hthere : 0 < (postsE 0 G (keysE G)[j]).length := posts_there (mem_keysE.1 (List.getElem_mem hjl))
              have hlen := posts_len HGE.out (key := (keysE G)[j]) G 0 fun q h => h
              have hgood := posts_good HGE.out (key := (keysE G)[j])
              obtain ⟨L, hL⟩ : ∃ L, L = postsE 0 G (keysE G)[j] := ⟨_, rfl⟩
              rw [← hL] at hthere hlen hgood
              have HPO := Lib.hid (buf_Postings hr13.buf x L (by rw [hL, hx2]) (by have := HHN.out; omega) fun p hp => by have := hgood p hp; omega)
              have HFR2 : Hid (∀ y, wo.heap.size ≤ y → Free N0 S1 y) := Lib.hid fun y hy => ⟨by have := hr13.hi; omega, fun hs => by have := hr13.buf.lt y hs; omega⟩
              obtain ⟨NL, hNL⟩ : ∃ NL, NL = L.length := ⟨_, rfl⟩
              rw [← hNL] at hthere hlen
              have hNL8 : NL ≤ 8 := by have := HHN.out; omega
              have HNL := Lib.hid hNL
              have HGD2 := Lib.hid hgood
              have HR13 := Lib.hid hr13
              have HO13 := Lib.hid ho13
              have j0 : (0 : Int) ≤ j := by omega
              have j1 : (j : Int) < K := by omega
              clear hx hx2 hgood hlen hL hNL hr13 ho13 hrow13 hjl
              go_wp2_with (go_at_call 18; (with_reducible refine HPO.out.mono ?_); rintro e w14 ⟨v14, rfl, ho14, hb14⟩
                           obtain ⟨T14, c14, rfl, hp14⟩ := PostIn.of ho14 HFR2.out (fun q hq => (HGD2.out q hq).1) (by rw [← HNL.out]; exact hthere)
                           rw [← HNL.out] at hp14 ⊢
                           have HR14 : Hid (OwnRel6 S1 B UP G (.slice AG i cG) AK N0 NL W b8 (.slice (some ⟨b13, o13, none⟩) K c12) T14 (.int .i64 0) w14) := Lib.hid ⟨0, Nat.zero_le _, rfl, HR13.out.below hb14, HO13.out.below hb14, hp14⟩
                           clear ho14 hb14 hp14)
              go_loopw [15] (fun x wx => OwnRel6 S1 B UP G (.slice AG i cG) AK N0 NL W b8 (.slice (some ⟨b13, o13, none⟩) K c12) T14 x wx) (fun x _ => NL - (intOf x).toNat)
              case atStart => exact HR14.out
              case round =>
                obtain ⟨q, hq, rfl, hr15, ho15, hp15⟩ := hrel
                by_cases hqN : q < NL
                · obtain ⟨A15, m15, c15, hcell, hm15, hmc, hsh⟩ := hp15.2 q hqN
                  obtain ⟨bF, oF, rfl, hpF, ⟨u, hu⟩, hfz, ⟨csF, hFF⟩⟩ := hsh.at_ (j := 0) (i := 0) hm15 (by decide)
                  simp only [Nat.zero_mul, Nat.add_zero] at hu hfz
                  have hne : (Value.slice (some ⟨b13, o13, none⟩) K c12).ownBlock ≠ some bF := owned_apart ho15 hFF (by decide)
                  have HREL : Hid (OwnRel6 S1 B UP G (.slice AG i cG) AK N0 NL W b8 (.slice (some ⟨b13, o13, none⟩) K c12) T14 (.int .i64 ((q : Int) + 1)) (wr.setCell ⟨bF, oF, none⟩ (.int .i64 99))) := Lib.hid
                    ⟨q + 1, hqN, by push_cast; rfl, hr15.spoil hpF, ownsRow_setCell_other ho15 hne _, hp15.set hFF⟩
                  have q0 : (0 : Int) ≤ q := by omega
                  have q1 : (q : Int) < NL := by omega
                  have m0 : (0 : Int) < m15 := by omega
                  clear hr15 ho15 hp15 hpF hFF hne hsh
                  go_wp2
                  exact ⟨HREL.out, by simp [intOf]; omega⟩
                · have hqe : q = NL := by omega
                  subst hqe
                  have HREL : Hid (OwnRel5 S1 B UP G (.slice AG i cG) AK N0 K W b8 (.slice (some ⟨b13, o13, none⟩) K c12) (.int .i64 ((j : Int) + 1)) wr) := Lib.hid ⟨j + 1, hjK, by push_cast; rfl, hr15, ho15⟩
                  clear hr15 ho15 hp15 hqN
                  go_wp2
                  exact ⟨HREL.out, by simp [intOf]; omega⟩
            · have hje : j = K := by omega
              subst hje
              have HR13 := Lib.hid hr13
              have HLK : Hid (Calls Tryz.prog 14 #[.pointer (some ⟨B, 0, none⟩), .agg #[.slice AK i cK, .int .i64 9], .string ⟨#[]⟩] wo fun e w' => e = .returned (.bool true) ∧ Below wo.heap.size wo w') := Lib.hid (law09_like hr13.buf AK i cK 9 ⟨#[]⟩ HHN.out.symm (hr13.nest.imp fun y hy => by have := hr13.hi; have := hy.1; omega) (by omega))
              clear hr13 ho13 hjK
              go_wp2_with (first
                | (go_at_call 14; (with_reducible refine HLK.out.mono ?_); rintro e w15 ⟨rfl, hb15⟩
                   have HR15 := Lib.hid (HR13.out.below hb15)
                   clear hb15)
                | (go_at_call 15; (with_reducible refine (law09_lives _).mono ?_); rintro e w16 ⟨rfl, hb16⟩
                   have HR16 := Lib.hid (HR15.out.below hb16)
                   clear hb16))
              go_ret
              exact ⟨rfl, HR16.out.bel⟩
end Go.Proofs.YtgcdekaceimdnaaGreat
