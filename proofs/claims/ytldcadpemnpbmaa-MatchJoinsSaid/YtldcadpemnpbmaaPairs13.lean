/- The documents of two lists, side by side, as they are told one by one. -/
import Derived.Test.YtldcadpemnpbmaaKeep13
import Derived.Test.YtldcadpemnpbmaaTold05
set_option linter.unusedVariables false
namespace Go.Proofs.Ytldcadpemnpbmaa
open Go Go.RowKit
attribute [local go_sem] Oper.semAt_some

def encPr (p : Pr) : Array Value := #[prV p]
def PairsRel (b : Nat) (l r : List Fo) (W0 : World) (J : List Pr → World → Prop) (sa sb : Value) (wr : World) : Prop :=
  ∃ (a' b' : List Fo) (pre : List Pr), InFoB wr b sa a' ∧ InFoB wr b sb b' ∧ pairsF l r = pre ++ pairsF a' b' ∧ (FewF a' ∧ FewF b') ∧ J pre wr ∧ Below b W0 wr
/-- A step of the loop. -/
theorem PairsRel.step {b : Nat} {l r : List Fo} {W0 W' : World} {J : List Pr → World → Prop} {a' b' : List Fo} {pre : List Pr} {va vb : Value} (hne : ¬ (a' = [] ∧ b' = [])) (hp : pairsF l r = pre ++ pairsF a' b') (hf : FewF a' ∧ FewF b')
    (ha : InFoB W' b va (restF a' b')) (hb : InFoB W' b vb (restF b' a')) (hJ : J (pre ++ [headF a' b']) W') (hW : Below b W0 W') : PairsRel b l r W0 J va vb W' :=
  ⟨_, _, _, ha, hb, by rw [hp, pairs_step hne, List.append_assoc]; rfl, ⟨hf.1.rest, hf.2.rest⟩, hJ, hW⟩
theorem cells4 {w : World} {b : Nat} {x y z u : Value} {t : TypeId} (h : w.heap[b]? = some (.cells #[x, y, z, u] t (0, 0))) :
    (w.cell? ⟨b, 0, none⟩ = some x ∧ w.cell? ⟨b, 1, none⟩ = some y ∧ w.cell? ⟨b, 2, none⟩ = some z ∧ w.cell? ⟨b, 3, none⟩ = some u) ∧ (w.frozen? ⟨b, 0, none⟩ = false ∧ w.frozen? ⟨b, 1, none⟩ = false) := by
  simp [World.cell?, World.frozen?, h]
theorem ahead_true {a b : List Fo} (h : aheadF a b = true) : ∃ x l, a = x :: l := by
  rcases a with _ | ⟨x, l⟩
  · cases h
  · exact ⟨x, l, rfl⟩
theorem ahead_one {a b : List Fo} (h : ¬ (a = [] ∧ b = [])) : (aheadF a b || aheadF b a) = true := by
  rcases a with _ | ⟨x, a⟩
  · rcases b with _ | ⟨y, b⟩
    · exact absurd ⟨rfl, rfl⟩ h
    · rfl
  · rcases b with _ | ⟨y, b⟩
    · rfl
    · simp only [aheadF, Bool.or_eq_true, decide_eq_true_eq]
      omega
theorem set_atF {w : World} {b k : Nat} {cs : Array Value} {t : TypeId} {v : Value} (h : w.heap[b]? = some (.cells cs t (0, 0))) : (w.setCell ⟨b, k, none⟩ v).heap[b]? = some (.cells (cs.setIfInBounds k v) t (0, 0)) := by
  have hlt := lt_of_block h
  have h' : w.heap[b] = .cells cs t (0, 0) := by simpa [Array.getElem?_eq_getElem hlt] using h
  show (w.heap.modify b _)[b]? = _
  rw [Array.getElem?_eq_getElem (by simpa using hlt), Array.getElem_modify_self, h']
  rfl
theorem pair_set {w : World} {P : Nat} {x y z u p q : Value} {t : TypeId} (h : w.heap[P]? = some (.cells #[x, y, z, u] t (0, 0))) : (((w.setCell ⟨P, 0, none⟩ p).setCell ⟨P, 1, none⟩ q).drew).heap[P]? = some (.cells #[p, q, z, u] t (0, 0)) := by
  show ((w.setCell ⟨P, 0, none⟩ p).setCell ⟨P, 1, none⟩ q).heap[P]? = _
  rw [set_atF (set_atF h)]
  rfl
theorem pair_below {w wr : World} {P B : Nat} {p q : Value} (h : Below B w wr) (hb : B ≤ P) : Below B w ((wr.setCell ⟨P, 0, none⟩ p).setCell ⟨P, 1, none⟩ q).drew := ((h.setCell hb _).setCell hb _).trans (Below.refl _ _).drew
theorem head_tf {x : Fo} {a b : List Fo} (h1 : aheadF (x :: a) b = true) (h2 : aheadF b (x :: a) = false) : headF (x :: a) b = (x, true, false) := by
  unfold headF
  rw [h1, h2]
  rcases b with _ | ⟨y, b⟩
  · rfl
  · have h3 : ¬ y.1 ≤ x.1 := by simpa [aheadF] using h2
    simp [topF, show x.1 < y.1 by omega]
theorem head_tt {x y : Fo} {a b : List Fo} (h1 : aheadF (x :: a) (y :: b) = true) (h2 : aheadF (y :: b) (x :: a) = true) : headF (x :: a) (y :: b) = ((y.1, x.2 + y.2), true, true) := by
  unfold headF
  rw [h1, h2]
  have h3 : x.1 ≤ y.1 := by simpa [aheadF] using h1
  have h4 : y.1 ≤ x.1 := by simpa [aheadF] using h2
  simp [topF, show ¬ x.1 < y.1 by omega, h3]
theorem head_ft {y : Fo} {a b : List Fo} (h1 : aheadF a (y :: b) = false) (h2 : aheadF (y :: b) a = true) : headF a (y :: b) = ((y.1, y.2), false, true) := by
  unfold headF
  rw [h1, h2]
  rcases a with _ | ⟨x, a⟩
  · simp [topF]
  · have h3 : ¬ x.1 ≤ y.1 := by simpa [aheadF] using h1
    have h4 : y.1 ≤ x.1 := by simpa [aheadF] using h2
    simp [topF, show ¬ x.1 < y.1 by omega, h3]
theorem rest_t {x : Fo} {a b : List Fo} (h : aheadF (x :: a) b = true) : restF (x :: a) b = a := by unfold restF; rw [if_pos h]; rfl
theorem rest_f {a b : List Fo} (h : aheadF a b = false) : restF a b = a := by unfold restF; rw [if_neg (by rw [h]; decide)]
theorem heads_lt {a b : List Fo} (h : ¬ (a = [] ∧ b = [])) {l r : List Fo} {pre : List Pr} (hp : pairsF l r = pre ++ pairsF a b) : pre.length < (pairsF l r).length := by
  rw [hp, pairs_step h, List.length_append, List.length_cons]
  omega

set_option maxHeartbeats 16000000 in
set_option maxRecDepth 100000 in
theorem pairs_told (m b D1 D2 : Nat) (l r : List Fo) (vl vr : Value) (w : World) (hm : 1 ≤ m) (hb : b ≤ w.heap.size) (hl : InFoB w b vl l) (hr : InFoB w b vr r) (h1 : w.heap[D1]? = some (.cells #[vl] 22 (0, 0))) (h2 : w.heap[D2]? = some (.cells #[vr] 22 (0, 0))) (hfl : FewF l) (hfr : FewF r) :
    Told m Try.prog 28 #[.pointer (some ⟨D1, 0, none⟩), .pointer (some ⟨D2, 0, none⟩)] encPr (Below b) (fun pre x W => pre.length < (pairsF l r).length) (fun xs => xs = pairsF l r) w := by
  intro lp J W hW hJ hY h0
  have e1 := (hW.block D1 (lt_of_block h1)).trans h1
  have e2 := (hW.block D2 (lt_of_block h2)).trans h2
  have c1 := cell_of_one e1
  have c2 := cell_of_one e2
  have hbW : b ≤ W.heap.size := Nat.le_trans hb hW.size
  have HREL : Hid (PairsRel b l r W.drew J vl vr W.drew) := Lib.hid ⟨l, r, [], (hl.below (hW.mono hb)).below (Below.refl _ _).drew, (hr.below (hW.mono hb)).below (Below.refl _ _).drew, rfl, ⟨hfl, hfr⟩, hJ _ _ _ h0 (Below.refl _ _).drew, Below.refl _ _⟩
  have HJ := Lib.hid hJ
  have HY := Lib.hid hY
  have HBW := Lib.hid hbW
  clear hJ hY h0 h1 h2 hW e1 e2 hl hr hfl hfr hb hbW
  refine callsIn_of_wp Try.func28 rfl trivial ?_ rfl
  simp only [Try.ntmps28, List.size_toArray, List.length_cons, List.length_nil, Nat.reduceAdd, Nat.reduceSub, Array.replicate_succ, Array.replicate_zero, List.push_toArray, List.append_toArray, List.nil_append, List.cons_append]
  gi_wp2
  gi_region
  gi_wp2
  gi_loopw [4, 5] (PairsRel b l r W.drew J) (fun s4 s5 _ => lenF s4 + lenF s5)
  case atStart => exact HREL.out
  case round =>
    obtain ⟨a', b', pre, hia, hib, hp, hf, hj, hbw⟩ := hrel
    by_cases hend : a' = [] ∧ b' = []
    · obtain ⟨rfl, rfl⟩ := hend
      obtain ⟨A, c, rfl, -, -, -⟩ := hia
      obtain ⟨A2, c2, rfl, -, -, -⟩ := hib
      rw [pairs_nil, List.append_nil] at hp
      rw [← hp] at hj
      simp only [List.length_nil]
      have HJ0 := Lib.hid hj
      clear hj hp hf hbw
      gi_wp2
      go_end0
      exact ⟨⟨_, rfl⟩, _, rfl, HJ0.out⟩
    · have hsz := hbw.size
      have hia2 := hia
      have hib2 := hib
      obtain ⟨A, c, rfl, hac, hcm, hra⟩ := hia
      obtain ⟨A2, c2, rfl, hbc, hcm2, hrb⟩ := hib
      have hbr : b ≤ wr.heap.size := by have := HBW.out; have : W.drew.heap.size = W.heap.size := rfl; omega
      have HA1 : Hid (∀ w2, Below wr.heap.size wr w2 → Calls Try.prog 29 #[.slice A a'.length c, .slice A2 b'.length c2] w2 fun e w' => e = .returned (.bool (aheadF a' b')) ∧ Below w2.heap.size w2 w') := Lib.hid fun w2 h2 => match_ahead _ _ a' b' w2 ((hia2.below (h2.mono hbr)).in_ (Nat.le_trans hbr h2.size)) ((hib2.below (h2.mono hbr)).in_ (Nat.le_trans hbr h2.size))
      have HA2 : Hid (∀ w2, Below wr.heap.size wr w2 → Calls Try.prog 29 #[.slice A2 b'.length c2, .slice A a'.length c] w2 fun e w' => e = .returned (.bool (aheadF b' a')) ∧ Below w2.heap.size w2 w') := Lib.hid fun w2 h2 => match_ahead _ _ b' a' w2 ((hib2.below (h2.mono hbr)).in_ (Nat.le_trans hbr h2.size)) ((hia2.below (h2.mono hbr)).in_ (Nat.le_trans hbr h2.size))
      clear hia2 hib2
      obtain ⟨n, hn⟩ : ∃ n, n = a'.length := ⟨_, rfl⟩
      obtain ⟨k, hk⟩ : ∃ k, k = b'.length := ⟨_, rfl⟩
      rw [← hn] at HA1 HA2 hac
      rw [← hk] at HA1 HA2 hbc
      rw [← hn, ← hk]
      have hpos : 0 < n ∨ 0 < k := by
        rcases Nat.eq_zero_or_pos n with h1 | h1
        · rcases Nat.eq_zero_or_pos k with h2 | h2
          · exact absurd ⟨List.eq_nil_of_length_eq_zero (by omega), List.eq_nil_of_length_eq_zero (by omega)⟩ hend
          · exact .inr h2
        · exact .inl h1
      obtain ⟨L, hL⟩ : ∃ L, L = aheadF a' b' := ⟨_, rfl⟩
      obtain ⟨R, hR⟩ : ∃ R, R = aheadF b' a' := ⟨_, rfl⟩
      rw [← hL] at HA1
      rw [← hR] at HA2
      have HN := Lib.hid hn
      have HK := Lib.hid hk
      have HL := Lib.hid hL
      have HR := Lib.hid hR
      have HRA := Lib.hid hra
      have HRB := Lib.hid hrb
      have HP := Lib.hid hp
      have HF := Lib.hid hf
      have HJ0 := Lib.hid hj
      have HE := Lib.hid hend
      have HW0 := Lib.hid hbw
      have HCM := Lib.hid hcm
      have HCM2 := Lib.hid hcm2
      clear hn hk hL hR hra hrb hp hf hj hend hbw hcm hcm2
      clear hpos
      have hlr : (L || R) = true := by rw [HL.out, HR.out]; exact ahead_one HE.out
      cases L with
      | true =>
        cases R with
        | false =>
          obtain ⟨x, a1, hxa⟩ := ahead_true HL.out.symm
          subst hxa
          have hn0 : 0 < n := by rw [HN.out]; simp
          have d0 : decide ((n : Int) > 0) = true := decide_eq_true (by omega)
          have d0' : decide ((0 : Int) < (n : Int)) = true := decide_eq_true (by omega)
          have hn1 : (1 : Int) ≤ n := by omega
          obtain ⟨b1, o1, rfl, hb1, g0, g1⟩ := fo_head HRA.out
          obtain ⟨xd, hxd⟩ : ∃ xd : Int, xd = (x.1 : Int) := ⟨_, rfl⟩
          obtain ⟨xs, hxs⟩ : ∃ xs : Int, xs = x.2 := ⟨_, rfl⟩
          rw [← hxd] at g0
          rw [← hxs] at g1
          have hxb : -1152921504606846976 ≤ xs ∧ xs ≤ 1152921504606846976 := by rw [hxs]; exact HF.out.1.2 x (List.mem_cons_self ..)
          obtain ⟨hxb1, hxb2⟩ := hxb
          have HXD := Lib.hid hxd
          have HXS := Lib.hid hxs
          clear hxd hxs
          obtain ⟨AN, hAN⟩ : ∃ AN : Addr, (if c = 1 then some (⟨b1, o1, none⟩ : Addr) else some ⟨b1, o1 + 2, none⟩) = some AN := by split <;> exact ⟨_, rfl⟩
          gi_wp2_with (first
            | (gi_at_call 29; (with_reducible refine (callsIn_wide.2 (HA1.out wr (Below.refl _ _))).mono ?_); rintro e w2 ⟨rfl, hb2⟩)
            | (refine ⟨trivial, ?_⟩; gi_at_call 29; (with_reducible refine (callsIn_wide.2 (HA1.out wr (Below.refl _ _))).mono ?_); rintro e w2 ⟨rfl, hb2⟩)
            | (gi_at_call 29; (with_reducible refine (callsIn_wide.2 (HA2.out w2 hb2)).mono ?_); rintro e w3 ⟨rfl, hb3⟩)
            | (refine ⟨trivial, ?_⟩; gi_at_call 29; (with_reducible refine (callsIn_wide.2 (HA2.out w2 hb2)).mono ?_); rintro e w3 ⟨rfl, hb3⟩))
          obtain ⟨P, hP⟩ : ∃ P, P = w3.heap.size := ⟨_, rfl⟩
          obtain ⟨w4, hw4⟩ : ∃ w4, w4 = w3.alloc (.cells #[.int .i64 0, .int .i64 0, .bool true, .bool false] 39) := ⟨_, rfl⟩
          rw [← hw4, ← hP]
          have hblk : w4.heap[P]? = some (.cells #[.int .i64 0, .int .i64 0, .bool true, .bool false] 39 (0, 0)) := by rw [hw4, hP]; exact heap_alloc_new w3 _
          have hb23 : Below wr.heap.size wr w3 := hb2.trans (hb3.mono hb2.size)
          have hb4 : Below wr.heap.size wr w4 := by rw [hw4]; exact hb23.alloc hb23.size _
          have hPw : wr.heap.size ≤ P := by rw [hP]; exact hb23.size
          obtain ⟨⟨p0, p1, p2, p3⟩, f0, f1⟩ := cells4 hblk
          have HB4 := Lib.hid hb4
          have HBLK := Lib.hid hblk
          clear hb2 hb3 hb23 hw4 hP hblk hb4
          have q0 := (HB4.out.cell (p := ⟨b1, o1, none⟩) (by show b1 < _; omega)).trans g0
          have q1 := (HB4.out.cell (p := ⟨b1, o1 + 1, none⟩) (by show b1 < _; omega)).trans g1
          obtain ⟨W5, hW5⟩ : ∃ W5, W5 = ((w4.setCell ⟨P, 0, none⟩ (.int .i64 xd)).setCell ⟨P, 1, none⟩ (.int .i64 xs)).drew := ⟨_, rfl⟩
          have HHD : Hid (headF (x :: a1) b' = ((x.1, x.2), true, false)) := Lib.hid (head_tf HL.out.symm HR.out.symm)
          have HB5 : Hid (Below wr.heap.size wr W5) := Lib.hid (by rw [hW5]; exact pair_below HB4.out hPw)
          have HW5 := Lib.hid hW5
          clear hW5
          have hyy := HY.out pre (headF (x :: a1) b') W5 (HJ.out _ _ _ HJ0.out HB5.out) (heads_lt HE.out HP.out)
          rw [HHD.out, show encPr ((x.1, x.2), true, false) = #[.agg #[.int .i64 xd, .int .i64 xs, .bool true, .bool false]] by unfold encPr prV; simp only; rw [← HXD.out, ← HXS.out]] at hyy
          obtain ⟨fn, tmps, assign, body, hy, hR⟩ := hyy
          rw [HW5.out] at hy
          gi_wp2
          gi_region
          gi_wp2
          rw [← HW5.out]
          refine hR.mono ?_
          rintro e W6 ⟨rfl, hJ6, hk6⟩
          have hbt : Below b wr W6 := (HB5.out.mono hbr).trans hk6
          have hrel6 : PairsRel b l r W.drew J (.slice (some AN) (n - 1) (c - 1)) (.slice A2 k c2) W6 := by
            refine PairsRel.step HE.out HP.out HF.out ?_ ?_ (by rw [HHD.out]; exact hJ6) (HW0.out.trans hbt)
            · rw [rest_t HL.out.symm]
              exact ⟨_, _, by rw [HN.out, List.length_cons, Nat.add_sub_cancel], by have := HN.out; rw [List.length_cons] at this; omega, by have := HCM.out; omega, (fo_next HRA.out (by have := HN.out; rw [List.length_cons] at this; omega) hAN).below hbt⟩
            · rw [rest_f HR.out.symm]
              exact ⟨_, _, by rw [← HK.out], by rw [← HK.out]; exact hbc, by have := HCM2.out; omega, (HRB.out).below hbt⟩
          have HREL6 := Lib.hid hrel6
          clear hrel6 hJ6 hk6 hbt hy hR
          gi_wp2
          go_roundw
          case rel => exact HREL6.out
          case measure => simp [lenF]; omega
        | true =>
          obtain ⟨x, a1, hxa⟩ := ahead_true HL.out.symm
          subst hxa
          have hn0 : 0 < n := by rw [HN.out]; simp
          have d0 : decide ((n : Int) > 0) = true := decide_eq_true (by omega)
          have d0' : decide ((0 : Int) < (n : Int)) = true := decide_eq_true (by omega)
          have hn1 : (1 : Int) ≤ n := by omega
          obtain ⟨b1, o1, rfl, hb1, g0, g1⟩ := fo_head HRA.out
          obtain ⟨xd, hxd⟩ : ∃ xd : Int, xd = (x.1 : Int) := ⟨_, rfl⟩
          obtain ⟨xs, hxs⟩ : ∃ xs : Int, xs = x.2 := ⟨_, rfl⟩
          rw [← hxd] at g0
          rw [← hxs] at g1
          have hxb : -1152921504606846976 ≤ xs ∧ xs ≤ 1152921504606846976 := by rw [hxs]; exact HF.out.1.2 x (List.mem_cons_self ..)
          obtain ⟨hxb1, hxb2⟩ := hxb
          have HXD := Lib.hid hxd
          have HXS := Lib.hid hxs
          clear hxd hxs
          obtain ⟨AN, hAN⟩ : ∃ AN : Addr, (if c = 1 then some (⟨b1, o1, none⟩ : Addr) else some ⟨b1, o1 + 2, none⟩) = some AN := by split <;> exact ⟨_, rfl⟩
          obtain ⟨y, b1', hyb⟩ := ahead_true HR.out.symm
          subst hyb
          have hk0 : 0 < k := by rw [HK.out]; simp
          have hk1 : (1 : Int) ≤ k := by omega
          obtain ⟨b2, o2, rfl, hb2', k0, k1⟩ := fo_head HRB.out
          obtain ⟨yd, hyd⟩ : ∃ yd : Int, yd = (y.1 : Int) := ⟨_, rfl⟩
          obtain ⟨ys, hys⟩ : ∃ ys : Int, ys = y.2 := ⟨_, rfl⟩
          rw [← hyd] at k0
          rw [← hys] at k1
          have hyb : -1152921504606846976 ≤ ys ∧ ys ≤ 1152921504606846976 := by rw [hys]; exact HF.out.2.2 y (List.mem_cons_self ..)
          obtain ⟨hyb1, hyb2⟩ := hyb
          have HYD := Lib.hid hyd
          have HYS := Lib.hid hys
          clear hyd hys
          obtain ⟨BN, hBN⟩ : ∃ BN : Addr, (if c2 = 1 then some (⟨b2, o2, none⟩ : Addr) else some ⟨b2, o2 + 2, none⟩) = some BN := by split <;> exact ⟨_, rfl⟩
          gi_wp2_with (first
            | (gi_at_call 29; (with_reducible refine (callsIn_wide.2 (HA1.out wr (Below.refl _ _))).mono ?_); rintro e w2 ⟨rfl, hb2⟩)
            | (refine ⟨trivial, ?_⟩; gi_at_call 29; (with_reducible refine (callsIn_wide.2 (HA1.out wr (Below.refl _ _))).mono ?_); rintro e w2 ⟨rfl, hb2⟩)
            | (gi_at_call 29; (with_reducible refine (callsIn_wide.2 (HA2.out w2 hb2)).mono ?_); rintro e w3 ⟨rfl, hb3⟩)
            | (refine ⟨trivial, ?_⟩; gi_at_call 29; (with_reducible refine (callsIn_wide.2 (HA2.out w2 hb2)).mono ?_); rintro e w3 ⟨rfl, hb3⟩))
          obtain ⟨P, hP⟩ : ∃ P, P = w3.heap.size := ⟨_, rfl⟩
          obtain ⟨w4, hw4⟩ : ∃ w4, w4 = w3.alloc (.cells #[.int .i64 0, .int .i64 0, .bool true, .bool true] 39) := ⟨_, rfl⟩
          rw [← hw4, ← hP]
          have hblk : w4.heap[P]? = some (.cells #[.int .i64 0, .int .i64 0, .bool true, .bool true] 39 (0, 0)) := by rw [hw4, hP]; exact heap_alloc_new w3 _
          have hb23 : Below wr.heap.size wr w3 := hb2.trans (hb3.mono hb2.size)
          have hb4 : Below wr.heap.size wr w4 := by rw [hw4]; exact hb23.alloc hb23.size _
          have hPw : wr.heap.size ≤ P := by rw [hP]; exact hb23.size
          obtain ⟨⟨p0, p1, p2, p3⟩, f0, f1⟩ := cells4 hblk
          have HB4 := Lib.hid hb4
          have HBLK := Lib.hid hblk
          clear hb2 hb3 hb23 hw4 hP hblk hb4
          have q0 := (HB4.out.cell (p := ⟨b1, o1, none⟩) (by show b1 < _; omega)).trans g0
          have q1 := (HB4.out.cell (p := ⟨b1, o1 + 1, none⟩) (by show b1 < _; omega)).trans g1
          have s0 := (HB4.out.cell (p := ⟨b2, o2, none⟩) (by show b2 < _; omega)).trans k0
          have s1 := (HB4.out.cell (p := ⟨b2, o2 + 1, none⟩) (by show b2 < _; omega)).trans k1
          gi_wp2
          gi_region
          gi_wp2
          obtain ⟨w5, hw5⟩ : ∃ w5, w5 = ((w4.setCell ⟨P, 0, none⟩ (.int .i64 xd)).setCell ⟨P, 1, none⟩ (.int .i64 xs)).drew := ⟨_, rfl⟩
          rw [← hw5]
          have hblk5 : w5.heap[P]? = some (.cells #[.int .i64 xd, .int .i64 xs, .bool true, .bool true] 39 (0, 0)) := by rw [hw5]; exact pair_set HBLK.out
          have HB45 : Hid (Below wr.heap.size wr w5) := Lib.hid (by rw [hw5]; exact pair_below HB4.out hPw)
          clear p0 p1 p2 p3 f0 f1 s0 s1 q0 q1 hw5
          obtain ⟨⟨p0, p1, p2, p3⟩, f0, f1⟩ := cells4 hblk5
          have s0 := (HB45.out.cell (p := ⟨b2, o2, none⟩) (by show b2 < _; omega)).trans k0
          have s1 := (HB45.out.cell (p := ⟨b2, o2 + 1, none⟩) (by show b2 < _; omega)).trans k1
          clear hblk5
          obtain ⟨W5, hW5⟩ : ∃ W5, W5 = ((w5.setCell ⟨P, 0, none⟩ (.int .i64 yd)).setCell ⟨P, 1, none⟩ (.int .i64 (xs + ys))).drew := ⟨_, rfl⟩
          have HHD : Hid (headF (x :: a1) (y :: b1') = ((y.1, x.2 + y.2), true, true)) := Lib.hid (head_tt HL.out.symm HR.out.symm)
          have HB5 : Hid (Below wr.heap.size wr W5) := Lib.hid (by rw [hW5]; exact pair_below HB45.out hPw)
          have HW5 := Lib.hid hW5
          clear hW5
          have hyy := HY.out pre (headF (x :: a1) (y :: b1')) W5 (HJ.out _ _ _ HJ0.out HB5.out) (heads_lt HE.out HP.out)
          rw [HHD.out, show encPr ((y.1, x.2 + y.2), true, true) = #[.agg #[.int .i64 yd, .int .i64 (xs + ys), .bool true, .bool true]] by unfold encPr prV; simp only; rw [← HYD.out, ← HXS.out, ← HYS.out]] at hyy
          obtain ⟨fn, tmps, assign, body, hy, hR⟩ := hyy
          rw [HW5.out] at hy
          gi_region
          gi_wp2
          rw [← HW5.out]
          refine hR.mono ?_
          rintro e W6 ⟨rfl, hJ6, hk6⟩
          have hbt : Below b wr W6 := (HB5.out.mono hbr).trans hk6
          have hrel6 : PairsRel b l r W.drew J (.slice (some AN) (n - 1) (c - 1)) (.slice (some BN) (k - 1) (c2 - 1)) W6 := by
            refine PairsRel.step HE.out HP.out HF.out ?_ ?_ (by rw [HHD.out]; exact hJ6) (HW0.out.trans hbt)
            · rw [rest_t HL.out.symm]
              exact ⟨_, _, by rw [HN.out, List.length_cons, Nat.add_sub_cancel], by have := HN.out; rw [List.length_cons] at this; omega, by have := HCM.out; omega, (fo_next HRA.out (by have := HN.out; rw [List.length_cons] at this; omega) hAN).below hbt⟩
            · rw [rest_t HR.out.symm]
              exact ⟨_, _, by rw [HK.out, List.length_cons, Nat.add_sub_cancel], by have := HK.out; rw [List.length_cons] at this; omega, by have := HCM2.out; omega, (fo_next HRB.out (by have := HK.out; rw [List.length_cons] at this; omega) hBN).below hbt⟩
          have HREL6 := Lib.hid hrel6
          clear hrel6 hJ6 hk6 hbt hy hR
          gi_wp2
          go_roundw
          case rel => exact HREL6.out
          case measure => simp [lenF]; omega
      | false =>
        cases R with
        | false => cases hlr
        | true =>
          rcases Nat.eq_zero_or_pos n with hn0 | hn0
          ·
            obtain ⟨y, b1', hyb⟩ := ahead_true HR.out.symm
            subst hyb
            have hk0 : 0 < k := by rw [HK.out]; simp
            have hk1 : (1 : Int) ≤ k := by omega
            obtain ⟨b2, o2, rfl, hb2', k0, k1⟩ := fo_head HRB.out
            obtain ⟨yd, hyd⟩ : ∃ yd : Int, yd = (y.1 : Int) := ⟨_, rfl⟩
            obtain ⟨ys, hys⟩ : ∃ ys : Int, ys = y.2 := ⟨_, rfl⟩
            rw [← hyd] at k0
            rw [← hys] at k1
            have hyb : -1152921504606846976 ≤ ys ∧ ys ≤ 1152921504606846976 := by rw [hys]; exact HF.out.2.2 y (List.mem_cons_self ..)
            obtain ⟨hyb1, hyb2⟩ := hyb
            have HYD := Lib.hid hyd
            have HYS := Lib.hid hys
            clear hyd hys
            obtain ⟨BN, hBN⟩ : ∃ BN : Addr, (if c2 = 1 then some (⟨b2, o2, none⟩ : Addr) else some ⟨b2, o2 + 2, none⟩) = some BN := by split <;> exact ⟨_, rfl⟩
            subst hn0
            have dk : decide ((k : Int) > 0) = true := decide_eq_true (by omega)
            have dk' : decide ((0 : Int) < (k : Int)) = true := decide_eq_true (by omega)
            gi_wp2_with (first
              | (gi_at_call 29; (with_reducible refine (callsIn_wide.2 (HA1.out wr (Below.refl _ _))).mono ?_); rintro e w2 ⟨rfl, hb2⟩)
              | (refine ⟨trivial, ?_⟩; gi_at_call 29; (with_reducible refine (callsIn_wide.2 (HA1.out wr (Below.refl _ _))).mono ?_); rintro e w2 ⟨rfl, hb2⟩)
              | (gi_at_call 29; (with_reducible refine (callsIn_wide.2 (HA2.out w2 hb2)).mono ?_); rintro e w3 ⟨rfl, hb3⟩)
              | (refine ⟨trivial, ?_⟩; gi_at_call 29; (with_reducible refine (callsIn_wide.2 (HA2.out w2 hb2)).mono ?_); rintro e w3 ⟨rfl, hb3⟩))
            obtain ⟨P, hP⟩ : ∃ P, P = w3.heap.size := ⟨_, rfl⟩
            obtain ⟨w4, hw4⟩ : ∃ w4, w4 = w3.alloc (.cells #[.int .i64 0, .int .i64 0, .bool false, .bool true] 39) := ⟨_, rfl⟩
            rw [← hw4, ← hP]
            have hblk : w4.heap[P]? = some (.cells #[.int .i64 0, .int .i64 0, .bool false, .bool true] 39 (0, 0)) := by rw [hw4, hP]; exact heap_alloc_new w3 _
            have hb23 : Below wr.heap.size wr w3 := hb2.trans (hb3.mono hb2.size)
            have hb4 : Below wr.heap.size wr w4 := by rw [hw4]; exact hb23.alloc hb23.size _
            have hPw : wr.heap.size ≤ P := by rw [hP]; exact hb23.size
            obtain ⟨⟨p0, p1, p2, p3⟩, f0, f1⟩ := cells4 hblk
            have HB4 := Lib.hid hb4
            have HBLK := Lib.hid hblk
            clear hb2 hb3 hb23 hw4 hP hblk hb4
            have s0 := (HB4.out.cell (p := ⟨b2, o2, none⟩) (by show b2 < _; omega)).trans k0
            have s1 := (HB4.out.cell (p := ⟨b2, o2 + 1, none⟩) (by show b2 < _; omega)).trans k1
            obtain ⟨W5, hW5⟩ : ∃ W5, W5 = ((w4.setCell ⟨P, 0, none⟩ (.int .i64 yd)).setCell ⟨P, 1, none⟩ (.int .i64 ys)).drew := ⟨_, rfl⟩
            have HHD : Hid (headF a' (y :: b1') = ((y.1, y.2), false, true)) := Lib.hid (head_ft HL.out.symm HR.out.symm)
            have HB5 : Hid (Below wr.heap.size wr W5) := Lib.hid (by rw [hW5]; exact pair_below HB4.out hPw)
            have HW5 := Lib.hid hW5
            clear hW5
            have hyy := HY.out pre (headF a' (y :: b1')) W5 (HJ.out _ _ _ HJ0.out HB5.out) (heads_lt HE.out HP.out)
            rw [HHD.out, show encPr ((y.1, y.2), false, true) = #[.agg #[.int .i64 yd, .int .i64 ys, .bool false, .bool true]] by unfold encPr prV; simp only; rw [← HYD.out, ← HYS.out]] at hyy
            obtain ⟨fn, tmps, assign, body, hy, hR⟩ := hyy
            rw [HW5.out] at hy
            gi_wp2
            gi_region
            gi_wp2
            rw [← HW5.out]
            refine hR.mono ?_
            rintro e W6 ⟨rfl, hJ6, hk6⟩
            have hbt : Below b wr W6 := (HB5.out.mono hbr).trans hk6
            have hrel6 : PairsRel b l r W.drew J (.slice A 0 c) (.slice (some BN) (k - 1) (c2 - 1)) W6 := by
              refine PairsRel.step HE.out HP.out HF.out ?_ ?_ (by rw [HHD.out]; exact hJ6) (HW0.out.trans hbt)
              · rw [rest_f HL.out.symm]
                exact ⟨_, _, by rw [← HN.out], by rw [← HN.out]; exact hac, by have := HCM.out; omega, (HRA.out).below hbt⟩
              · rw [rest_t HR.out.symm]
                exact ⟨_, _, by rw [HK.out, List.length_cons, Nat.add_sub_cancel], by have := HK.out; rw [List.length_cons] at this; omega, by have := HCM2.out; omega, (fo_next HRB.out (by have := HK.out; rw [List.length_cons] at this; omega) hBN).below hbt⟩
            have HREL6 := Lib.hid hrel6
            clear hrel6 hJ6 hk6 hbt hy hR
            gi_wp2
            go_roundw
            case rel => exact HREL6.out
            case measure => simp [lenF]; omega
          ·
            obtain ⟨y, b1', hyb⟩ := ahead_true HR.out.symm
            subst hyb
            have hk0 : 0 < k := by rw [HK.out]; simp
            have hk1 : (1 : Int) ≤ k := by omega
            obtain ⟨b2, o2, rfl, hb2', k0, k1⟩ := fo_head HRB.out
            obtain ⟨yd, hyd⟩ : ∃ yd : Int, yd = (y.1 : Int) := ⟨_, rfl⟩
            obtain ⟨ys, hys⟩ : ∃ ys : Int, ys = y.2 := ⟨_, rfl⟩
            rw [← hyd] at k0
            rw [← hys] at k1
            have hyb : -1152921504606846976 ≤ ys ∧ ys ≤ 1152921504606846976 := by rw [hys]; exact HF.out.2.2 y (List.mem_cons_self ..)
            obtain ⟨hyb1, hyb2⟩ := hyb
            have HYD := Lib.hid hyd
            have HYS := Lib.hid hys
            clear hyd hys
            obtain ⟨BN, hBN⟩ : ∃ BN : Addr, (if c2 = 1 then some (⟨b2, o2, none⟩ : Addr) else some ⟨b2, o2 + 2, none⟩) = some BN := by split <;> exact ⟨_, rfl⟩
            have d0 : decide ((n : Int) > 0) = true := decide_eq_true (by omega)
            have d0' : decide ((0 : Int) < (n : Int)) = true := decide_eq_true (by omega)
            gi_wp2_with (first
              | (gi_at_call 29; (with_reducible refine (callsIn_wide.2 (HA1.out wr (Below.refl _ _))).mono ?_); rintro e w2 ⟨rfl, hb2⟩)
              | (refine ⟨trivial, ?_⟩; gi_at_call 29; (with_reducible refine (callsIn_wide.2 (HA1.out wr (Below.refl _ _))).mono ?_); rintro e w2 ⟨rfl, hb2⟩)
              | (gi_at_call 29; (with_reducible refine (callsIn_wide.2 (HA2.out w2 hb2)).mono ?_); rintro e w3 ⟨rfl, hb3⟩)
              | (refine ⟨trivial, ?_⟩; gi_at_call 29; (with_reducible refine (callsIn_wide.2 (HA2.out w2 hb2)).mono ?_); rintro e w3 ⟨rfl, hb3⟩))
            obtain ⟨P, hP⟩ : ∃ P, P = w3.heap.size := ⟨_, rfl⟩
            obtain ⟨w4, hw4⟩ : ∃ w4, w4 = w3.alloc (.cells #[.int .i64 0, .int .i64 0, .bool false, .bool true] 39) := ⟨_, rfl⟩
            rw [← hw4, ← hP]
            have hblk : w4.heap[P]? = some (.cells #[.int .i64 0, .int .i64 0, .bool false, .bool true] 39 (0, 0)) := by rw [hw4, hP]; exact heap_alloc_new w3 _
            have hb23 : Below wr.heap.size wr w3 := hb2.trans (hb3.mono hb2.size)
            have hb4 : Below wr.heap.size wr w4 := by rw [hw4]; exact hb23.alloc hb23.size _
            have hPw : wr.heap.size ≤ P := by rw [hP]; exact hb23.size
            obtain ⟨⟨p0, p1, p2, p3⟩, f0, f1⟩ := cells4 hblk
            have HB4 := Lib.hid hb4
            have HBLK := Lib.hid hblk
            clear hb2 hb3 hb23 hw4 hP hblk hb4
            have s0 := (HB4.out.cell (p := ⟨b2, o2, none⟩) (by show b2 < _; omega)).trans k0
            have s1 := (HB4.out.cell (p := ⟨b2, o2 + 1, none⟩) (by show b2 < _; omega)).trans k1
            obtain ⟨W5, hW5⟩ : ∃ W5, W5 = ((w4.setCell ⟨P, 0, none⟩ (.int .i64 yd)).setCell ⟨P, 1, none⟩ (.int .i64 ys)).drew := ⟨_, rfl⟩
            have HHD : Hid (headF a' (y :: b1') = ((y.1, y.2), false, true)) := Lib.hid (head_ft HL.out.symm HR.out.symm)
            have HB5 : Hid (Below wr.heap.size wr W5) := Lib.hid (by rw [hW5]; exact pair_below HB4.out hPw)
            have HW5 := Lib.hid hW5
            clear hW5
            have hyy := HY.out pre (headF a' (y :: b1')) W5 (HJ.out _ _ _ HJ0.out HB5.out) (heads_lt HE.out HP.out)
            rw [HHD.out, show encPr ((y.1, y.2), false, true) = #[.agg #[.int .i64 yd, .int .i64 ys, .bool false, .bool true]] by unfold encPr prV; simp only; rw [← HYD.out, ← HYS.out]] at hyy
            obtain ⟨fn, tmps, assign, body, hy, hR⟩ := hyy
            rw [HW5.out] at hy
            gi_wp2
            gi_region
            gi_wp2
            rw [← HW5.out]
            refine hR.mono ?_
            rintro e W6 ⟨rfl, hJ6, hk6⟩
            have hbt : Below b wr W6 := (HB5.out.mono hbr).trans hk6
            have hrel6 : PairsRel b l r W.drew J (.slice A n c) (.slice (some BN) (k - 1) (c2 - 1)) W6 := by
              refine PairsRel.step HE.out HP.out HF.out ?_ ?_ (by rw [HHD.out]; exact hJ6) (HW0.out.trans hbt)
              · rw [rest_f HL.out.symm]
                exact ⟨_, _, by rw [← HN.out], by rw [← HN.out]; exact hac, by have := HCM.out; omega, (HRA.out).below hbt⟩
              · rw [rest_t HR.out.symm]
                exact ⟨_, _, by rw [HK.out, List.length_cons, Nat.add_sub_cancel], by have := HK.out; rw [List.length_cons] at this; omega, by have := HCM2.out; omega, (fo_next HRB.out (by have := HK.out; rw [List.length_cons] at this; omega) hBN).below hbt⟩
            have HREL6 := Lib.hid hrel6
            clear hrel6 hJ6 hk6 hbt hy hR
            gi_wp2
            go_roundw
            case rel => exact HREL6.out
            case measure => simp [lenF]; omega
end Go.Proofs.Ytldcadpemnpbmaa
