/- What package posting's get answers: so many postings that stand at a place, or that there are none. -/
import Derived.Test.YtfhjnblcnkjooaaCalls05
import Derived.Test.YtfhjnblcnkjooaaRead05
import Derived.Test.YtfhjnblcnkjooaaGetR04
import Derived.BigQuiet
import Derived.Deep.QuietTactic
set_option linter.unusedVariables false
namespace Go.Proofs.Ytfhjnblcnkjooaa
open Go Go.RowKit

/-- A list of postings in a row of the call's own; their places lie in rows of ints. -/
def NewPo (base : Nat) (w : World) (v : Value) (l : List Po) : Prop := ∃ cs, w.ownsRow base 43 2 v l.length cs ∧ PoCells (RowS 0 w) l cs
section
variable {base : Nat} {w w' : World} {v v' : Value} {l : List Po}
theorem NewPo.nil : NewPo base w (.slice none 0 0) [] := ⟨[], World.ownsRow_nil _ _ _ _, rfl⟩
theorem NewPo.below (h : NewPo base w v l) (hb : Below w.heap.size w w') : NewPo base w' v l := by
  obtain ⟨cs, h1, h2⟩ := h
  exact ⟨cs, owned_below h1 hb, h2.imp fun _ _ h => h.below hb⟩
theorem RowS.any {A : Option Addr} {xs : List Value} (h : RowS 0 w A xs) : RowS base w A xs := by
  rcases h with h | ⟨b, off, e, ⟨h1, h2⟩, hc⟩
  · exact .inl h
  · exact .inr ⟨b, off, e, ⟨h1, .inr (h2.resolve_left (Nat.not_lt_zero _))⟩, hc⟩
theorem NewPo.room (h : NewPo base w v l) : ∃ A c, v = .slice A l.length c ∧ l.length ≤ c ∧ c ≤ maxLen ∧ Posts w w.heap.size A l := by
  obtain ⟨cs, h1, h2⟩ := h
  obtain ⟨A, c, rfl, hc, hr⟩ := owned_row h1
  refine ⟨A, c, rfl, hc, ?_, cs, h2.imp fun _ _ h => h.row, hr⟩
  rcases h1.2 with ⟨h4, _⟩ | ⟨g, cap, cur, h4, _, _, _, h5, _⟩
  · injection h4 with _ _ h4; omega
  · injection h4 with _ _ h4; rw [h4]; exact h5
theorem NewPo.push {cs : List Value} (h1 : w.ownsRow base 43 2 v l.length cs) (h2 : PoCells (RowS 0 w) l cs) {A : Option Addr} {c : Nat} {d : Int} {ps : List Int} (hc : ps.length ≤ c) (hcx : c ≤ maxLen) (hr : RowS 0 w A (ints ps))
    (hown : w'.ownsRow base 43 2 v' (l.length + 1) (cs ++ [.int .i64 d, .slice A ps.length c])) (hg : w.grownBy w' v.ownBlock) : NewPo base w' v' (l ++ [(d, ps)]) := by
  have h0 := owned_low h1 (Nat.zero_le base)
  refine ⟨_, ?_, (h2.imp fun _ _ h => h.grown h0 (by decide) hg).snoc hc hcx (hr.grown h0 (by decide) hg)⟩
  rw [List.length_append, List.length_singleton]
  exact hown
end

/-- What a call gives that takes so many postings from a place, behind a document. -/
def GaveGet (b : List UInt8) (x : Int) (a many : Nat) (w : World) (e : Ending) (w' : World) : Prop :=
  Below w.heap.size w w' ∧
    ((∃ g v, g.length = many ∧ Stands b x a g ∧ (∀ g', g'.length = many → Stands b x a g' → g' = g) ∧ (∀ p ∈ g, p.2.length ≤ b.length) ∧ e = .returned (.tuple #[v, .int .i64 ((a + (bytesP x g).length : Nat) : Int), .bool true]) ∧ NewPo w.heap.size w' v g) ∨
     ((∀ g', g'.length = many → ¬ Stands b x a g') ∧ e = .returned (.tuple #[.slice none 0 0, .int .i64 0, .bool false])))

def GetPRel (b : List UInt8) (x0 : Int) (a0 many : Nat) (w : World) (r6 r7 r8 vo last at_ i : Value) (wr : World) : Prop :=
  r6 = .slice none 0 0 ∧ r7 = .int .i64 0 ∧ r8 = .bool false ∧ ∃ (acc : List Po) (k a : Nat) (x : Int), k ≤ many ∧ i = .int .i64 (k : Int) ∧ acc.length = k ∧ last = .int .i64 x ∧ at_ = .int .i64 (a : Int) ∧ x = docOf x0 acc ∧ a = a0 + (bytesP x0 acc).length ∧ a ≤ b.length ∧
    Stands b x0 a0 acc ∧ -1 ≤ x ∧ x < 2147483648 ∧ (∀ g, g.length = many → Stands b x0 a0 g → acc = g.take k) ∧ (∀ p ∈ acc, p.2.length ≤ b.length) ∧ NewPo w.heap.size wr vo acc ∧ Below w.heap.size w wr

set_option maxHeartbeats 4000000 in
set_option maxRecDepth 100000 in
theorem posting_get (A : Option Addr) (m c : Nat) (b : List UInt8) (x0 : Int) (a0 many : Nat) (w : World) (hr : Row w w.heap.size A (Lib.byteCells b)) (hm : b.length = m) (hc : m ≤ c) (hcx : c ≤ maxLen) (hl : m ≤ 1000000) (ha0 : a0 ≤ m) (hx0 : -1 ≤ x0) (hx1 : x0 < 2147483648) (hmany : many ≤ 1000) :
    Calls Try.prog 36 #[.slice A m c, .agg #[.int .i64 x0, .int .i64 (a0 : Int)], .int .i64 (many : Int)] w (GaveGet b x0 a0 many w) := by
  obtain ⟨i0, hi0, hz0, hz1, hz2⟩ := info_parts info_posting
  have HR := Lib.hid hr
  have HM := Lib.hid hm
  clear hr
  go_enter Try.func36, Try.ntmps36
  go_wp2
  go_quiet (fail)
  go_wp2
  obtain ⟨wq, hwq⟩ : ∃ wq, wq = World.drewN (w.alloc (.cells #[.int .i64 x0, .int .i64 (a0 : Int)] 55)) nq := ⟨_, rfl⟩
  have hbq : Below w.heap.size w wq := by rw [hwq]; exact ((Below.refl _ w).alloc (Nat.le_refl _) _).trans (quiet_below _)
  rw [← hwq]
  have HBQ := Lib.hid hbq
  clear hwq hbq
  go_loopw [6, 7, 8, 9, 10, 11, 21] (fun r6 r7 r8 vo last at_ i wr => GetPRel b x0 a0 many w r6 r7 r8 vo last at_ i wr) (fun _ _ _ _ _ _ i _ => many - (intOf i).toNat)
  case atStart => exact ⟨rfl, rfl, rfl, [], 0, a0, x0, by omega, rfl, rfl, rfl, rfl, rfl, by simp [bytesP], by omega, Stands.nil (by omega), hx0, hx1, fun g _ _ => by simp, (by intro p hp; cases hp), NewPo.nil, HBQ.out⟩
  case round =>
    obtain ⟨rfl, rfl, rfl, acc, k, a, x, hk, rfl, hacc, rfl, rfl, hxe, hae, hab, hst, hxl, hxh, huni, hpl, hown, hbw⟩ := hrel
    have hsz := hbw.size
    by_cases hlt : k < many
    · have hnx : ∀ g, g.length = many → Stands b x0 a0 g → ∃ a2 : Nat, getZ b (a : Int) = ((g.getD k (0, [])).1 - (x + 1), (a2 : Int), 0) ∧ risZ b (a2 : Int) = ((g.getD k (0, [])).2, (((a0 + (bytesP x0 (g.take (k + 1))).length : Nat)) : Int), 0) ∧
          x < (g.getD k (0, [])).1 ∧ (g.getD k (0, [])).1 < 2147483648 ∧ placesB (g.getD k (0, [])).2 = true ∧ g.take (k + 1) = acc ++ [((g.getD k (0, [])).1, (g.getD k (0, [])).2)] := fun g h1 h2 => by
        obtain ⟨a2, e1, e2, e3, e4, e5, e6, e7⟩ := stands_next h2 hx0 (k := k) (by omega) (by omega)
        rw [← huni g h1 h2] at e1 e3 e4 e7
        rw [← hxe, ← hae] at e1
        rw [← hxe] at e3 e4
        exact ⟨a2, e1, e2, e4, e5, e6, e7⟩
      have HNX := Lib.hid hnx
      have HUNI := Lib.hid huni
      have HST := Lib.hid hst
      have HXE := Lib.hid hxe
      have HAE := Lib.hid hae
      have HPL := Lib.hid hpl
      have HOWN := Lib.hid hown
      have HA := Lib.hid hacc
      have HBW := Lib.hid hbw
      have g1 := vint_Get A m c (a : Int) b wr ((HR.out.below hbw).more hsz) hm hc hcx (by omega)
      clear hnx huni hst hxe hae hpl hown hacc hbw
      rcases getZ_split b (a : Int) with ⟨e, hz, he⟩ | ⟨dz, a2, hz, ha2, hdz⟩
      · rw [hz] at g1
        have G1 := Lib.hid g1
        have HNO : Hid (∀ g', g'.length = many → ¬ Stands b x0 a0 g') := Lib.hid fun g h1 h2 => by
          obtain ⟨q, e1, _⟩ := HNX.out g h1 h2
          rw [hz] at e1
          simp only [Prod.mk.injEq] at e1
          omega
        have hne : e ≠ 0 := by omega
        have heb : (e != 0) = true := by rw [bne_iff_ne]; exact hne
        clear g1 hz he
        go_wp2_with (go_at_call 48; refine G1.out.mono ?_)
        rintro en w4 ⟨rfl, hb4⟩
        have HB4 := Lib.hid (HBW.out.trans (hb4.mono hsz))
        clear hb4
        go_wp2
        go_ret3
        exact ⟨HB4.out, .inr ⟨HNO.out, rfl⟩⟩
      · rw [hz] at g1
        have G1 := Lib.hid g1
        have HZ := Lib.hid hz
        clear g1 hz
        by_cases hbig : 2147483648 - (x + 1) ≤ (dz : Int)
        · have HNO : Hid (∀ g', g'.length = many → ¬ Stands b x0 a0 g') := Lib.hid fun g h1 h2 => by
            obtain ⟨q, e1, _, e3, e4, _⟩ := HNX.out g h1 h2
            rw [HZ.out] at e1
            simp only [Prod.mk.injEq] at e1
            omega
          have hd : decide (2147483648 - (x + 1) ≤ (dz : Int)) = true := decide_eq_true hbig
          clear hdz
          go_wp2_with (go_at_call 48; refine G1.out.mono ?_)
          rintro en w4 ⟨rfl, hb4⟩
          have HB4 := Lib.hid (HBW.out.trans (hb4.mono hsz))
          clear hb4
          go_wp2
          go_ret3
          exact ⟨HB4.out, .inr ⟨HNO.out, rfl⟩⟩
        · have hd : decide (2147483648 - (x + 1) ≤ (dz : Int)) = false := decide_eq_false hbig
          go_wp2_with (go_at_call 48; refine G1.out.mono ?_)
          rintro en w4 ⟨rfl, hb4⟩
          have HB4 := Lib.hid (HBW.out.trans (hb4.mono hsz))
          have hs4 := HB4.out.size
          have g2 := vint_GetRising A m c (a2 : Int) b w4 ((HR.out.below HB4.out).more hs4) hm hc hcx (by omega)
          have HOW4 := Lib.hid (HOWN.out.below hb4)
          clear hb4
          rcases risZ_split b (a2 : Int) with ⟨e, hz2, he⟩ | ⟨ps, a3, hz2, ha3, hpsl⟩
          · rw [hz2] at g2
            have G2 := Lib.hid g2
            have HNO : Hid (∀ g', g'.length = many → ¬ Stands b x0 a0 g') := Lib.hid fun g h1 h2 => by
              obtain ⟨q, e1, e2, _⟩ := HNX.out g h1 h2
              rw [HZ.out] at e1
              simp only [Prod.mk.injEq] at e1
              rw [← e1.2.1, hz2] at e2
              simp only [Prod.mk.injEq] at e2
              exact he e2.2.2
            have heb : (e != 0) = true := by rw [bne_iff_ne]; exact he
            clear g2 hz2
            go_wp2_with (go_at_call 49; refine G2.out.mono ?_)
            rintro en w5 ⟨v5, rfl, _, hb5⟩
            have HB5 := Lib.hid (HB4.out.trans (hb5.mono hs4))
            clear hb5
            go_wp2
            go_ret3
            exact ⟨HB5.out, .inr ⟨HNO.out, rfl⟩⟩
          · rw [hz2] at g2
            have G2 := Lib.hid g2
            have HZ2 := Lib.hid hz2
            clear g2 hz2
            go_wp2_with (go_at_call 49; refine G2.out.mono ?_)
            rintro en w5 ⟨v5, rfl, hown5, hb5⟩
            simp only at hown5
            obtain ⟨A5, c5, rfl, hc5, hr5⟩ := owned_row hown5
            have hcx5 : c5 ≤ maxLen := by
              rcases hown5.2 with ⟨h, _⟩ | ⟨_, cap, _, h, _, _, _, h4, _⟩
              · injection h with _ _ h; omega
              · injection h with _ _ h; rw [h]; exact h4
            obtain ⟨F, hF⟩ : ∃ F, F = ps.length := ⟨_, rfl⟩
            have mp := may_places A5 F c5 ps w5 hr5 hF.symm (by omega)
            rw [← hF] at hc5 hpsl
            rw [← hF]
            have HFL := Lib.hid hF
            have MP := Lib.hid mp
            have HR5 := Lib.hid (RowS.of_own (base := 0) hown5)
            have HB5 := Lib.hid (HB4.out.trans (hb5.mono hs4))
            have hs5 := HB5.out.size
            have HOW5 := Lib.hid (HOW4.out.below hb5)
            clear hown5 hb5 hF mp hr5
            rcases hpb : placesB ps with _ | _
            · rw [hpb] at MP
              have HNO : Hid (∀ g', g'.length = many → ¬ Stands b x0 a0 g') := Lib.hid fun g h1 h2 => by
                obtain ⟨q, e1, e2, _, _, e5, _⟩ := HNX.out g h1 h2
                rw [HZ.out] at e1
                simp only [Prod.mk.injEq] at e1
                rw [← e1.2.1, HZ2.out] at e2
                simp only [Prod.mk.injEq] at e2
                rw [← e2.1, hpb] at e5
                cases e5
              clear hpb
              go_wp2_with (go_at_call 28; refine MP.out.mono ?_; rintro e w' ⟨rfl, rfl⟩)
              go_ret3
              exact ⟨HB5.out, .inr ⟨HNO.out, rfl⟩⟩
            · rw [hpb] at MP
              have hstep := stands_step HST.out (by rw [← HXE.out]; exact hxl) (d := (dz : Int)) (q2 := (a2 : Int)) (q3 := (a3 : Int)) (ps := ps) (by rw [← HAE.out]; exact HZ.out) HZ2.out (by rw [← HXE.out]; omega) hpb
              rw [← HXE.out] at hstep
              obtain ⟨y, hy⟩ : ∃ y, y = x + 1 + (dz : Int) := ⟨_, rfl⟩
              rw [show (dz : Int) + (x + 1) = y by omega] at hstep
              have hst2 := hstep.1
              have ha32 : a3 = a0 + (bytesP x0 (acc ++ [(y, ps)])).length := by have := hstep.2; omega
              have huni2 : ∀ g, g.length = many → Stands b x0 a0 g → acc ++ [(y, ps)] = g.take (k + 1) := fun g h1 h2 => by
                obtain ⟨q, e1, e2, _, _, _, e6⟩ := HNX.out g h1 h2
                rw [HZ.out] at e1
                simp only [Prod.mk.injEq] at e1
                rw [← e1.2.1, HZ2.out] at e2
                simp only [Prod.mk.injEq] at e2
                rw [e6, ← e2.1, show y = (g.getD k (0, [])).1 by omega]
              have hpl2 : ∀ p ∈ acc ++ [(y, ps)], p.2.length ≤ b.length := fun p hp => by
                rcases List.mem_append.1 hp with h | h
                · exact HPL.out p h
                · simp at h; rw [h]; show ps.length ≤ b.length; rw [← HFL.out]; exact hpsl
              have hy2 : -1 ≤ y ∧ y < 2147483648 := by omega
              have hdoc : y = docOf x0 (acc ++ [(y, ps)]) := docOf_step.symm
              obtain ⟨cs, hcs1, hcs2⟩ := HOW5.out
              rw [HA.out] at hcs1
              have HC1 := Lib.hid hcs1
              have HC2 := Lib.hid hcs2
              have HST2 := Lib.hid hst2
              have HA32 := Lib.hid ha32
              have HUNI2 := Lib.hid huni2
              have HPL2 := Lib.hid hpl2
              have HDOC := Lib.hid hdoc
              have HY := Lib.hid hy
              clear hpb hstep hst2 ha32 huni2 hpl2 hdoc hcs1 hcs2 HST HNX HUNI HPL HZ HZ2 HOW5 HOW4 HOWN
              have hyx : x + 1 + (dz : Int) = y := HY.out.symm
              clear hy
              go_wp2_with (first
                | (go_at_call 28; refine MP.out.mono ?_; rintro e w' ⟨rfl, rfl⟩)
                | (at_builtin; refine wpList_append_own _ rfl (.tmp 58) (.tmp 62) 22 rfl w.heap.size 43 i0 _ 2 32 Try.underlying22 hi0 hz0 hz1 hz2 rfl (by omega) _ k cs rfl (HC1.out.alloc _) ⟨w5.heap.size, 0, none⟩ 1 1 [.int .i64 y, .slice A5 F c5] rfl rfl (news_at w5 [.int .i64 y, .slice A5 F c5] 43) (by intro u hu; simp at hu; rcases hu with hu | hu <;> (subst hu; rfl)) (by unfold maxLen; omega) (by omega) (by simp; omega) ?_))
              intro v7 w7 hown7 hg7 _
              have hal := (Below.refl w5.heap.size w5).alloc (Nat.le_refl _) (.cells #[.int .i64 y, .slice A5 F c5] 43)
              have hb7 : Below w.heap.size w5 w7 := ((Below.refl _ w5).alloc hs5 _).grown hg7 (by simp; omega) fun k hk => (HC1.out.lt k hk).1
              have hpush : NewPo w.heap.size w7 v7 (acc ++ [(y, ps)]) :=
                NewPo.push (c := c5) (A := A5) (cs := cs) (by rw [HA.out]; exact HC1.out.alloc _) (HC2.out.imp fun _ _ h => h.below hal) (by rw [← HFL.out]; exact hc5) hcx5 (HR5.out.below hal) (by rw [HA.out, ← HFL.out]; exact hown7) hg7
              have hfin : GetPRel b x0 a0 many w (.slice none 0 0) (.int .i64 0) (.bool false) v7 (.int .i64 y) (.int .i64 (a3 : Int)) (.int .i64 ((k : Int) + 1)) w7 :=
                ⟨rfl, rfl, rfl, acc ++ [(y, ps)], k + 1, a3, y, by omega, by simp, by simp [HA.out], rfl, rfl, HDOC.out, HA32.out, ha3, HST2.out, hy2.1, hy2.2, HUNI2.out, HPL2.out, hpush, HB5.out.trans hb7⟩
              have HF := Lib.hid hfin
              clear hfin hb7 hg7 hown7 hpush hal
              go_wp2
              go_roundw
              case rel => exact HF.out
              case measure => simp [intOf]; omega
    · obtain rfl : k = many := by omega
      have hfin : Below w.heap.size w wr ∧ ((∃ g v, g.length = k ∧ Stands b x0 a0 g ∧ (∀ g', g'.length = k → Stands b x0 a0 g' → g' = g) ∧ (∀ p ∈ g, p.2.length ≤ b.length) ∧ Ending.returned (.tuple #[u9, .int .i64 (a : Int), .bool true]) = .returned (.tuple #[v, .int .i64 ((a0 + (bytesP x0 g).length : Nat) : Int), .bool true]) ∧ NewPo w.heap.size wr v g)) :=
        ⟨hbw, acc, u9, hacc, hst, fun g' h1 h2 => by rw [huni g' h1 h2, List.take_of_length_le (by omega)], hpl, by rw [hae], hown⟩
      have HF := Lib.hid hfin
      clear hfin hst huni hpl hown hbw hxe hae
      go_wp2
      go_ret3
      exact ⟨HF.out.1, .inl HF.out.2⟩
end Go.Proofs.Ytfhjnblcnkjooaa
