/- The walk of MatchLogic. -/
import Derived.Test.YtldcadpemnpbmaaJoinW13
import Derived.Deep.CutRange
set_option linter.unusedVariables false
namespace Go.Proofs.Ytldcadpemnpbmaa
open Go Go.RowKit

theorem not_few {a : List Fo} (ha : RiseF a) {n : Nat} (hn : n ≤ 1048576) : FewF (notF a n) := ⟨by have := not_len ha n; omega, fun x hx => by
  rw [not_is ha] at hx
  have h := (tab_low x hx).2
  split at h
  · cases h
  · injection h with h; omega⟩
theorem or_few {a b : List Fo} (ha : RiseF a) (hb : RiseF b) (hla : a.length ≤ 1048576) (hlb : b.length ≤ 1048576) (h1 : ∀ x ∈ a, x.2 = 0) (h2 : ∀ x ∈ b, x.2 = 0) : FewF (orF a b) := ⟨by have := kept_len orB a b; unfold orF; omega, fun x hx => by
  have h := sc_of_mem (kept_rise orB ha hb) hx
  rw [kept_sc _ ha hb] at h
  have z1 : ∀ s, scF a x.1 = some s → s = 0 := fun s hs => h1 _ (sc_mem hs)
  have z2 : ∀ s, scF b x.1 = some s → s = 0 := fun s hs => h2 _ (sc_mem hs)
  have hs : x.2 = (scF a x.1).getD 0 + (scF b x.1).getD 0 := by
    unfold bothF at h
    split at h
    · injection h with h; exact h.symm
    · cases h
  cases e1 : scF a x.1 with
  | none =>
    cases e2 : scF b x.1 with
    | none => rw [e1, e2] at hs; simp at hs; omega
    | some t => rw [e1, e2, z2 t e2] at hs; simp at hs; omega
  | some s =>
    cases e2 : scF b x.1 with
    | none => rw [e1, e2, z1 s e1] at hs; simp at hs; omega
    | some t => rw [e1, e2, z1 s e1, z2 t e2] at hs; simp at hs; omega⟩
theorem not_zero {a : List Fo} (ha : RiseF a) (n : Nat) : ∀ x ∈ notF a n, x.2 = 0 := fun x hx => by
  rw [not_is ha] at hx
  have h := (tab_low x hx).2
  split at h
  · cases h
  · injection h with h; exact h.symm
def LogicRel (n : Nat) (w : World) (vi : Value) (wr : World) : Prop := ∃ k : Nat, k ≤ n ∧ vi = .int .i64 (k : Int) ∧ Below w.heap.size w wr

set_option maxHeartbeats 8000000 in
set_option maxRecDepth 100000 in
theorem walk_MatchLogic (A0 : Option Addr) (n0 c0 : Nat) (z0 : List (Int × Int)) (A1 : Option Addr) (n1 c1 : Nat) (z1 : List (Int × Int)) (w : World) (h0 : InRaw w A0 n0 c0 z0) (h1 : InRaw w A1 n1 c1 z1) :
    Calls Try.prog 5 #[.slice A0 n0 c0, .slice A1 n1 c1] w fun e w' => e = .returned (.bool true) ∧ Below w.heap.size w w' := by
  have C0 := Lib.hid (ref13_Good A0 n0 c0 z0 w h0)
  have C1 : Hid (∀ w1, Below w.heap.size w w1 → Calls Try.prog 6 #[.slice A1 n1 c1, .int .i64 20] w1 (GaveGood w1)) := Lib.hid fun w1 hb => ref13_Good A1 n1 c1 z1 w1 (h1.later hb)
  clear h0 h1
  go_enter Try.func5, Try.ntmps5
  go_wp2_with (go_at_call 6; (with_reducible refine C0.out.mono ?_))
  rintro e w1 ⟨v1, g, m, rfl, hm, hg, ho1, hb1⟩
  have hin1 := ho1.in_
  obtain ⟨B1, d1, rfl, -, -, -⟩ := hin1
  have CC := Lib.hid (C1.out w1 hb1)
  have HB1 := Lib.hid hb1
  have HO1 := Lib.hid ho1
  have HG := Lib.hid (And.intro hg hm)
  clear hg ho1 hb1 hm
  go_wp2_with (go_at_call 6; (with_reducible refine CC.out.mono ?_))
  rintro e w2 ⟨v2, g2, m2, rfl, hm2, hg2, ho2, hb2⟩
  have hin2 := ho2.in_
  obtain ⟨B2, d2, rfl, -, -, -⟩ := hin2
  have I1 : Hid (∀ w', Below w2.heap.size w2 w' → InFo w' (.slice B1 g.length d1) g ∧ InFo w' (.slice B2 g2.length d2) g2) := Lib.hid fun w' hb => ⟨((HO1.out.in_).later hb2).later hb, ho2.in_.later hb⟩
  have HB2 : Hid (Below w.heap.size w w2) := Lib.hid (HB1.out.trans (hb2.mono HB1.out.size))
  have HG2 := Lib.hid (And.intro hg2 hm2)
  clear ho2 hb2 hg2 hm2 HO1
  have hlen : g.length ≤ 20 ∧ g2.length ≤ 20 := by rw [HG.out.1.len, HG2.out.1.len]; exact ⟨HG.out.2, HG2.out.2⟩
  have HLN := Lib.hid hlen
  obtain ⟨gl, hgl⟩ : ∃ gl, gl = g.length := ⟨_, rfl⟩
  obtain ⟨gl2, hgl2⟩ : ∃ gl2, gl2 = g2.length := ⟨_, rfl⟩
  rw [← hgl, ← hgl2] at I1
  rw [← hgl, ← hgl2]
  clear hlen hgl hgl2
  obtain ⟨la, hla⟩ : ∃ la, la = andF g g2 := ⟨_, rfl⟩
  obtain ⟨p, hp⟩ : ∃ p, p = notF g 250 := ⟨_, rfl⟩
  obtain ⟨q, hq⟩ : ∃ q, q = notF g2 250 := ⟨_, rfl⟩
  obtain ⟨r, hr⟩ : ∃ r, r = orF p q := ⟨_, rfl⟩
  obtain ⟨t, ht⟩ : ∃ t, t = notF r 250 := ⟨_, rfl⟩
  have hfin : t = la.map fun x => (x.1, 0) := by
    rw [ht, hr, hp, hq, hla]
    exact logic_is HG.out.1.rise HG2.out.1.rise (fun x hx => by have := HG.out.1.docs x hx; have := HG.out.2; omega) (fun x hx => by have := HG2.out.1.docs x hx; have := HG2.out.2; omega)
  have hpr : RiseF p := by rw [hp]; exact kept_rise _ (tab_rise _ _) HG.out.1.rise
  have hqr : RiseF q := by rw [hq]; exact kept_rise _ (tab_rise _ _) HG2.out.1.rise
  have hpf : FewF p := by rw [hp]; exact not_few HG.out.1.rise (by omega)
  have hqf : FewF q := by rw [hq]; exact not_few HG2.out.1.rise (by omega)
  have hpl : p.length ≤ 250 := by rw [hp]; exact not_len HG.out.1.rise 250
  have hql : q.length ≤ 250 := by rw [hq]; exact not_len HG2.out.1.rise 250
  have hrf : FewF r := by rw [hr]; exact or_few hpr hqr (by omega) (by omega) (by rw [hp]; exact not_zero HG.out.1.rise 250) (by rw [hq]; exact not_zero HG2.out.1.rise 250)
  have KA : Hid (∀ w', Below w2.heap.size w2 w' → Calls Try.prog 8 #[.slice B1 gl d1, .slice B2 gl2 d2] w' (GaveFo la w')) := Lib.hid fun w' hb => by rw [hla]; exact (good_ops HG.out.1 HG2.out.1 HG.out.2 HG2.out.2 (I1.out w' hb).1 (I1.out w' hb).2).1
  have KP : Hid (∀ w', Below w2.heap.size w2 w' → Calls Try.prog 11 #[.slice B1 gl d1, .int .i64 250] w' (GaveFo p w')) := Lib.hid fun w' hb => by rw [hp]; exact (good_nots HG.out.1 HG.out.2 (n := 250) (by omega) (I1.out w' hb).1).1
  have KQ : Hid (∀ w', Below w2.heap.size w2 w' → Calls Try.prog 11 #[.slice B2 gl2 d2, .int .i64 250] w' (GaveFo q w')) := Lib.hid fun w' hb => by rw [hq]; exact (good_nots HG2.out.1 HG2.out.2 (n := 250) (by omega) (I1.out w' hb).2).1
  have KR : Hid (∀ w' u v, InFo w' u p → InFo w' v q → Calls Try.prog 10 #[u, v] w' (GaveFo r w')) := Lib.hid fun w' u v hu hv => by rw [hr]; exact match_Or u v p q w' hu hv hpf hqf
  have KT : Hid (∀ w' u, InFo w' u r → Calls Try.prog 11 #[u, .int .i64 250] w' (GaveFo t w')) := Lib.hid fun w' u hu => by rw [ht]; exact match_Not u r 250 w' hu hrf (by omega)
  have HLV := Lib.hid law13_lives
  have HFIN := Lib.hid hfin
  have hlal : la.length ≤ 40 := by have := kept_len andB g g2; have := HLN.out; rw [hla]; unfold andF; omega
  clear hfin hpr hqr hpf hqf hpl hql hrf ht hr hq hp hla
  go_wp2_with (first
    | (go_at_call 8; (with_reducible refine (KA.out w2 (Below.refl _ _)).mono ?_); rintro e w3 ⟨u3, rfl, o3, hb3⟩; have i3 := Lib.hid o3.in_; have HB3 : Hid (Below w2.heap.size w2 w3) := Lib.hid hb3; obtain ⟨X3, y3, rfl, -, -⟩ := owned_row o3; clear o3 hb3)
    | (go_at_call 11; (with_reducible refine (KP.out w3 HB3.out).mono ?_); rintro e w4 ⟨u4, rfl, o4, hb4⟩; have i4 := Lib.hid o4.in_; have j3 := Lib.hid (i3.out.later hb4); have HB4 : Hid (Below w2.heap.size w2 w4) := Lib.hid (HB3.out.trans (hb4.mono HB3.out.size)); obtain ⟨X4, y4, rfl, -, -⟩ := owned_row o4; clear o4 hb4)
    | (go_at_call 11; (with_reducible refine (KQ.out w4 HB4.out).mono ?_); rintro e w5 ⟨u5, rfl, o5, hb5⟩; have i5 := Lib.hid o5.in_; have k3 := Lib.hid (j3.out.later hb5); have j4 := Lib.hid (i4.out.later hb5); have HB5 : Hid (Below w2.heap.size w2 w5) := Lib.hid (HB4.out.trans (hb5.mono HB4.out.size)); obtain ⟨X5, y5, rfl, -, -⟩ := owned_row o5; clear o5 hb5)
    | (go_at_call 10; (with_reducible refine (KR.out w5 _ _ j4.out i5.out).mono ?_); rintro e w6 ⟨u6, rfl, o6, hb6⟩; have i6 := Lib.hid o6.in_; have l3 := Lib.hid (k3.out.later hb6); have HB6 : Hid (Below w2.heap.size w2 w6) := Lib.hid (HB5.out.trans (hb6.mono HB5.out.size)); obtain ⟨X6, y6, rfl, -, -⟩ := owned_row o6; clear o6 hb6)
    | (go_at_call 11; (with_reducible refine (KT.out w6 _ i6.out).mono ?_)))
  rintro e w7 ⟨u7, rfl, o7, hb7⟩
  have hia := l3.out.later hb7
  have hit := o7.in_
  have HB7 : Hid (Below w2.heap.size w2 w7) := Lib.hid (HB6.out.trans (hb7.mono HB6.out.size))
  obtain ⟨X7, y7, rfl, -, -, hrt⟩ := hit
  obtain ⟨Z3, z3, ez, -, -, hra⟩ := hia
  injection ez with ez1 ez2 ez3
  subst ez1
  have htl : t.length = la.length := by rw [HFIN.out, List.length_map]
  obtain ⟨n, hn⟩ : ∃ n, n = la.length := ⟨_, rfl⟩
  rw [htl, ← hn]
  have HN := Lib.hid hn
  have HTL := Lib.hid htl
  have HRT := Lib.hid hrt
  have HRA := Lib.hid hra
  have hnn : ((n : Int) != (n : Int)) = false := by simp
  have hn40 : n ≤ 40 := by omega
  have HREL : Hid (LogicRel n w7 (.int .i64 ((0 : Nat) : Int)) w7) := Lib.hid ⟨0, Nat.zero_le _, rfl, Below.refl _ _⟩
  clear hn htl hrt hra o7 hb7 ez2 hlal
  go_wp2
  go_loopw [10] (LogicRel n w7) (fun i _ => n - (intOf i).toNat)
  case atStart => exact HREL.out
  case round =>
    obtain ⟨k, hk, rfl, hbw⟩ := hrel
    by_cases hlt : k < n
    · have hka : k < la.length := by rw [← HN.out]; exact hlt
      have hkt : k < t.length := by rw [HTL.out]; exact hka
      obtain ⟨b1, o1, rfl, -, p0, -⟩ := (FoRow.later HRA.out hbw).at_ hka
      obtain ⟨b2, o2, rfl, -, q0, q1⟩ := (FoRow.later HRT.out hbw).at_ hkt
      have he : t[k] = ((la[k]).1, 0) := by
        have : t[k]? = (la.map fun x => (x.1, (0 : Int)))[k]? := congrArg (fun l => l[k]?) HFIN.out
        rw [List.getElem?_map, List.getElem?_eq_getElem hkt, List.getElem?_eq_getElem hka] at this
        simpa using this
      obtain ⟨x, hx⟩ : ∃ x, x = la[k] := ⟨_, rfl⟩
      obtain ⟨y, hy⟩ : ∃ y, y = t[k] := ⟨_, rfl⟩
      rw [← hx] at p0 he
      rw [← hy] at q0 q1 he
      subst he
      simp only at q0 q1
      obtain ⟨z, hz⟩ : ∃ z : Int, z = (x.1 : Int) := ⟨_, rfl⟩
      rw [← hz] at p0 q0
      have hkn : (k : Int) < (n : Int) := by omega
      have hzz : (z != z) = false := by simp
      have HBW := Lib.hid hbw
      clear hx hy hz hka hkt hbw
      go_wp2
      go_quiet (fail)
      go_wp2
      go_roundw
      case rel => exact ⟨k + 1, by omega, by go_num, HBW.out.trans ⟨rfl, rfl, rfl, Nat.le_refl _, fun _ _ => rfl⟩⟩
      case measure => simp [intOf]; omega
    · have HBW : Hid (Below w2.heap.size w2 wr) := Lib.hid (HB7.out.trans (hbw.mono HB7.out.size))
      clear hbw
      go_wp2_with (go_at_call 14; (with_reducible refine (HLV.out _).mono ?_); rintro e w13 ⟨rfl, hb13⟩; have HB13 : Hid (Below w2.heap.size w2 w13) := Lib.hid (HBW.out.trans (hb13.mono HBW.out.size)); clear hb13)
      go_ret
      exact ⟨rfl, HB2.out.trans (HB13.out.mono HB2.out.size)⟩
end Go.Proofs.Ytldcadpemnpbmaa
