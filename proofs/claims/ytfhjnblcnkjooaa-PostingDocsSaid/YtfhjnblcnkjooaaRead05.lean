/- What the document's own Read of layer 5 answers: the postings whose bytes these are, if there are any. -/
import Derived.Test.YtfhjnblcnkjooaaGood05
import Derived.Test.YtfhjnblcnkjooaaMay05
import Derived.Test.YtfhjnblcnkjooaaRefGetR04
import Derived.Deep.RegionHeld3
namespace Go.Proofs.Ytfhjnblcnkjooaa
open Go Go.RowKit
set_option linter.unusedVariables false

/-- These are so many postings, which may be, and these are their bytes. -/
def Fits (many : Int) (b : List UInt8) (l : List Po) : Prop := mayB' (-1) l = true ∧ (l.length : Int) = many ∧ bytesP (-1) l = b
/-- What a call gives that reads postings. -/
def GaveRead (many : Int) (b : List UInt8) (w : World) (e : Ending) (w' : World) : Prop :=
  Below w.heap.size w w' ∧ ((∃ l v, Fits many b l ∧ (∀ p ∈ l, p.2.length ≤ b.length) ∧ e = .returned (.tuple #[v, .int .i64 0]) ∧ OwnPo 43 w.heap.size w' v l) ∨ ((∀ l, ¬ Fits many b l) ∧ e = .returned (.tuple #[.slice none 0 0, .int .i64 2])))
theorem docOf_getD : ∀ {l : List Po} {x : Int}, 0 < l.length → docOf x l = (l.getD (l.length - 1) (0, [])).1
  | [], _, h => by simp at h
  | [p], x, _ => rfl
  | p :: q :: r, x, _ => by
    have ih := docOf_getD (l := q :: r) (x := p.1) (by simp)
    rw [docOf, ih]
    simp
/-- Every place takes a byte at the least. -/
theorem bytes_places : ∀ (l : List Po) (last : Int) (p : Po), p ∈ l → p.2.length ≤ (bytesP last l).length
  | [], _, p, h => by cases h
  | q :: r, last, p, h => by
    have hd : ∀ (ps : List Int) (x : Int), ps.length ≤ (dB x ps).length := by
      intro ps
      induction ps with
      | nil => simp
      | cons a t ih =>
        intro x
        have := ih a
        have := putB_pos (a - (x + 1)).toNat
        rw [dB, List.length_append, List.length_cons]
        omega
    rw [bytesP, List.length_append, List.length_append]
    rcases List.mem_cons.1 h with rfl | h
    · have := hd p.2 (-1)
      rw [putR, List.length_append]
      omega
    · have := bytes_places r q.1 p h
      omega
/-- The next one of postings whose bytes these are. -/
theorem fits_next {many : Int} {b : List UInt8} {l : List Po} (h : Fits many b l) {k : Nat} (hk : k < l.length) (hb : b.length ≤ 1000000) :
    ∃ a2 : Nat, getZ b ((bytesP (-1) (l.take k)).length : Int) = ((l.getD k (0, [])).1 - (docOf (-1) (l.take k) + 1), (a2 : Int), 0) ∧
      risZ b (a2 : Int) = ((l.getD k (0, [])).2, ((bytesP (-1) (l.take (k + 1))).length : Int), 0) ∧ -1 ≤ docOf (-1) (l.take k) ∧ docOf (-1) (l.take k) < (l.getD k (0, [])).1 ∧ (l.getD k (0, [])).1 < 2147483648 ∧ l.take (k + 1) = l.take k ++ [((l.getD k (0, [])).1, (l.getD k (0, [])).2)] := by
  obtain ⟨h1, h2, h3⟩ := h
  have hsp : l = l.take k ++ (l.getD k (0, []) :: l.drop (k + 1)) := by rw [← drop_po hk, List.take_append_drop]
  have hm := h1
  rw [hsp, mayB'_append, Bool.and_eq_true] at hm
  obtain ⟨m1, m2⟩ := hm
  obtain ⟨m3, m4, m5, m6⟩ := mayB'_cons.1 m2
  have hge := docOf_ge _ _ m1
  have hpl := bytes_places l (-1) (l.getD k (0, [])) (by rw [List.getD_eq_getElem?_getD, List.getElem?_eq_getElem hk]; simp)
  rw [h3] at hpl
  have hts : l.take (k + 1) = l.take k ++ [l.getD k (0, [])] := by
    rw [List.take_succ_eq_append_getElem hk, List.getD_eq_getElem?_getD, List.getElem?_eq_getElem hk]
    rfl
  obtain ⟨q, hq⟩ : ∃ q, q = l.getD k (0, []) := ⟨_, rfl⟩
  rw [← hq] at m3 m4 m5 m6 hsp hts hpl
  rw [← hq]
  obtain ⟨d, ps⟩ := q
  obtain ⟨g1, g2⟩ := get_posting (pre := bytesP (-1) (l.take k)) (post := []) (r := l.drop (k + 1)) hge m3 m4 m5 (by have h9 : ps.length ≤ b.length := hpl; omega)
  have hbe : bytesP (-1) (l.take k) ++ (bytesP (docOf (-1) (l.take k)) ((d, ps) :: l.drop (k + 1)) ++ []) = b := by
    rw [List.append_nil, ← bytesP_append, ← hsp, h3]
  rw [hbe] at g1 g2
  refine ⟨_, g1, ?_, hge, m3, m4, hts⟩
  rw [g2, hts, bytesP_append]
  simp [bytesP]

theorem risZ_split (l : List UInt8) (a : Int) : (∃ e : Int, risZ l a = ([], 0, e) ∧ e ≠ 0) ∨ ∃ (ps : List Int) (q : Nat), risZ l a = (ps, (q : Int), 0) ∧ q ≤ l.length ∧ ps.length ≤ l.length := by
  have hlen := risZ_length l a
  rcases getZ_split l a with ⟨e, hz, he⟩ | ⟨n, b, hz, hb, _⟩
  · exact .inl ⟨e, risZ_err hz (by omega), by omega⟩
  · rw [risZ_ok hz] at hlen ⊢
    rcases h : takeR l n (-1) b [] with _ | ⟨xs, q⟩
    · exact .inl ⟨2, rfl, by omega⟩
    · rw [h] at hlen
      have := takeR_length n l _ _ _ xs q h hb
      exact .inr ⟨xs, q, rfl, this.2, hlen⟩

theorem totalP_le : ∀ {l : List Po} {n : Nat}, (∀ p ∈ l, p.2.length ≤ n) → totalP l ≤ l.length * n
  | [], _, _ => by simp [totalP]
  | p :: r, n, h => by
    have h1 := h p (by simp)
    have h2 := totalP_le (l := r) fun q hq => h q (by simp [hq])
    rw [totalP, List.length_cons, Nat.add_mul, Nat.one_mul]
    omega

def ReadRel (many : Int) (b : List UInt8) (w : World) (r4 r5 vo at_ i : Value) (wr : World) : Prop :=
  r4 = .slice none 0 0 ∧ r5 = .int .i64 0 ∧ ∃ (acc : List Po) (a k : Nat), (k = 0 ∨ (k : Int) ≤ many) ∧ i = .int .i64 (k : Int) ∧ at_ = .int .i64 (a : Int) ∧ acc.length = k ∧ a ≤ b.length ∧ -9223372036854775808 ≤ docOf (-1) acc ∧ docOf (-1) acc ≤ 9223372036854775807 ∧
    (∀ p ∈ acc, p.2.length ≤ b.length) ∧ (∀ l, Fits many b l → acc = l.take k ∧ a = (bytesP (-1) (l.take k)).length) ∧ OwnPo 43 w.heap.size wr vo acc ∧ Below w.heap.size w wr

set_option maxHeartbeats 2000000 in
set_option maxRecDepth 100000 in
theorem ref05_Read (many : Int) (A : Option Addr) (m c : Nat) (b : List UInt8) (w : World) (hr : Row w w.heap.size A (Lib.byteCells b)) (hm : b.length = m) (hc : m ≤ c) (hcx : c ≤ maxLen) (hl : m ≤ 1000) (hmany : many ≤ 60) (hmany2 : -9223372036854775808 ≤ many) :
    Calls Try.prog 16 #[.int .i64 many, .slice A m c] w (GaveRead many b w) := by
  obtain ⟨i0, hi0, hz0, hz1, hz2⟩ := info_parts info_posting
  have HR := Lib.hid hr
  have HM := Lib.hid hm
  clear hr
  go_enter Try.func16, Try.ntmps16
  go_wp2
  go_loopw [4, 5, 6, 7, 8] (fun r4 r5 vo t i wr => ReadRel many b w r4 r5 vo t i wr) (fun _ _ _ _ i _ => 60 - (intOf i).toNat)
  case atStart => exact ⟨rfl, rfl, [], 0, 0, .inl rfl, rfl, rfl, rfl, by omega, by simp [docOf], by simp [docOf], by simp, fun l _ => by simp [bytesP], OwnPo.nil, Below.refl _ _⟩
  case round =>
    obtain ⟨rfl, rfl, acc, a, k, hk, rfl, rfl, hacc, ham, hd0, hd1, hpl, hfit, hown, hbw⟩ := hrel
    have hsz := hbw.size
    by_cases hlt : (k : Int) < many
    · have hk0 : 0 ≤ many := by omega
      obtain ⟨Ao, co, rfl, hco, hpo⟩ := hown.posts
      have hkl : ∀ l, Fits many b l → k < l.length := fun l h => by have := h.2.1; omega
      have hbig : b.length ≤ 1000000 := by omega
      have HFIT := Lib.hid hfit
      have HKL := Lib.hid hkl
      have HPL := Lib.hid hpl
      have HOWN := Lib.hid hown
      have HPO := Lib.hid hpo
      have HA := Lib.hid hacc
      have HBW := Lib.hid hbw
      have g1 := ref_Get A m c (a : Int) b wr ((HR.out.below hbw).more hsz) hm hc hcx (by omega)
      rw [hacc] at hco
      rw [hacc]
      clear hfit hkl hpl hown hpo hacc hbw
      rcases getZ_split b (a : Int) with ⟨e, hz, he⟩ | ⟨dz, a2, hz, ha2, hdz⟩
      · rw [hz] at g1
        have G1 := Lib.hid g1
        have HNO : Hid (∀ l, ¬ Fits many b l) := Lib.hid fun l h => by
          obtain ⟨e1, e2⟩ := HFIT.out l h
          obtain ⟨q, g2, _⟩ := fits_next h (HKL.out l h) hbig
          rw [← e2, hz] at g2
          simp only [Prod.mk.injEq] at g2
          omega
        have heb : (e == 0) = false := by rw [beq_eq_false_iff_ne]; omega
        clear g1 hz he
        go_wp2_with (go_at_call 38; refine G1.out.mono ?_)
        rintro en w4 ⟨rfl, hb4⟩
        have HB4 := Lib.hid (HBW.out.trans (hb4.mono hsz))
        clear hb4
        go_wp2
        go_ret2
        exact ⟨HB4.out, .inr ⟨HNO.out, rfl⟩⟩
      · rw [hz] at g1
        have G1 := Lib.hid g1
        have HZ := Lib.hid hz
        clear g1 hz
        go_wp2_with (go_at_call 38; refine G1.out.mono ?_)
        rintro en w4 ⟨rfl, hb4⟩
        have hs4 := hb4.size
        have HB4 := Lib.hid (HBW.out.trans (hb4.mono hsz))
        have g2 := ref_GetRising A m c (a2 : Int) b w4 ((HR.out.below HB4.out).more HB4.out.size) hm hc hcx (by omega)
        have HOWN4 := Lib.hid (HOWN.out.below hb4)
        have HPO4 := Lib.hid (HPO.out.later hb4)
        clear hb4
        rcases risZ_split b (a2 : Int) with ⟨e, hz2, he⟩ | ⟨ps, a3, hz2, ha3, hpsl⟩
        · rw [hz2] at g2
          have G2 := Lib.hid g2
          have HNO : Hid (∀ l, ¬ Fits many b l) := Lib.hid fun l h => by
            obtain ⟨e1, e2⟩ := HFIT.out l h
            obtain ⟨q, f1, f2, _⟩ := fits_next h (HKL.out l h) hbig
            rw [← e2, HZ.out] at f1
            simp only [Prod.mk.injEq] at f1
            rw [← f1.2.1, hz2] at f2
            simp only [Prod.mk.injEq] at f2
            exact he f2.2.2
          have heb : (e == 0) = false := by rw [beq_eq_false_iff_ne]; exact he
          clear g2 hz2 he
          go_wp2_with (go_at_call 39; refine G2.out.mono ?_)
          rintro en w5 ⟨v5, rfl, _, hb5⟩
          have HB5 := Lib.hid (HB4.out.trans (hb5.mono HB4.out.size))
          clear hb5
          go_wp2
          go_ret2
          exact ⟨HB5.out, .inr ⟨HNO.out, rfl⟩⟩
        · rw [hz2] at g2
          have G2 := Lib.hid g2
          have HZ2 := Lib.hid hz2
          clear g2 hz2
          go_wp2_with (go_at_call 39; refine G2.out.mono ?_)
          rintro en w5 ⟨v5, rfl, hown5, hb5⟩
          simp only at hown5
          obtain ⟨A5, c5, rfl, hc5, _⟩ := owned_row hown5
          have hcx5 : c5 ≤ maxLen := by
            rcases hown5.2 with ⟨h, _⟩ | ⟨_, cap, _, h, _, _, _, h4, _⟩
            · injection h with _ _ h; omega
            · injection h with _ _ h; rw [h]; exact h4
          have HO5 := Lib.hid hown5
          have HB5 := Lib.hid (HB4.out.trans (hb5.mono HB4.out.size))
          have HOWN5 := Lib.hid (HOWN4.out.below hb5)
          have HPO5 := Lib.hid (HPO4.out.later hb5)
          obtain ⟨x, hx⟩ : ∃ x, x = docOf (-1) acc := ⟨_, rfl⟩
          rw [← hx] at hd0 hd1
          have HX := Lib.hid hx
          have HX0 : Hid (k = 0 → x = -1) := Lib.hid fun h => by
            rw [hx, List.eq_nil_of_length_eq_zero (HA.out.trans h)]
            rfl
          have HCELL : Hid (0 < k → ∀ j, j = k - 1 → ∃ bo oo, Ao = some ⟨bo, oo, none⟩ ∧ w5.cell? ⟨bo, oo + j * 2, none⟩ = some (.int .i64 x)) := Lib.hid fun h j hj => by
            obtain ⟨bo, oo, e1, _, e2, _⟩ := HPO5.out.at_ (k := j) (by rw [HA.out]; omega)
            exact ⟨bo, oo, e1, by rw [e2, hx, docOf_getD (by rw [HA.out]; exact h), HA.out, hj]⟩
          obtain ⟨f, hf⟩ : ∃ f : Int, f = (dz : Int) := ⟨_, rfl⟩
          have HF := Lib.hid hf
          have hf0 : 0 ≤ f ∧ f < 9223372036854775808 := by omega
          rw [← hf]
          clear hown5 hb5 hx hf hdz
          go_upto_if 40 with fail
          go_cut [9] from 39 to 49 (fun s wx => w5 = wx ∧ ∃ y : Int, s = .int .i64 y ∧ (f + x + 1 ≤ 2147483648 → -1 ≤ x → y = f + (x + 1)) ∧ -9223372036854775808 ≤ y ∧ y ≤ 9223372036854775807)
          case first =>
            rcases Nat.eq_zero_or_pos k with hk1 | hk1
            · have hd : decide (0 < k) = false := decide_eq_false (by omega)
              have hxx := HX0.out hk1
              have HXX := Lib.hid hxx
              clear hk1 hxx
              rw [hd]
              go_wp2_with fail
              go_meet
              have := HXX.out
              exact ⟨rfl, f, rfl, by omega, by omega, by omega⟩
            · obtain ⟨j, hj⟩ : ∃ j, j = k - 1 := ⟨_, rfl⟩
              obtain ⟨bo, oo, hAo, hc4⟩ := HCELL.out hk1 j hj
              subst hAo
              have hkj : (k : Int) - 1 = (j : Int) := by omega
              have hjk1 : j < k := by omega
              have hd : decide (0 < k) = true := decide_eq_true hk1
              clear hj hk1
              rw [hd]
              by_cases hs : f + x ≤ 9223372036854775806
              · go_wp2_with fail
                go_meet
                exact ⟨rfl, f + x + 1, rfl, by omega, by omega, by omega⟩
              · by_cases hs2 : f + x = 9223372036854775807
                · go_wp2_with fail
                  go_meet
                  exact ⟨rfl, -9223372036854775808, congrArg (Value.int .i64) (by unfold RowKit.wrap64; omega), by omega, by omega, by omega⟩
                · go_wp2_with fail
                  go_meet
                  exact ⟨rfl, f + x - 18446744073709551616 + 1, congrArg (Value.int .i64) (by unfold RowKit.wrap64; omega), by omega, by omega, by omega⟩
          case rest =>
            obtain ⟨rfl, y, rfl, hy1, hy3, hy4⟩ := hcut
            obtain ⟨cs, hcs1, hcs2⟩ := HOWN5.out
            rw [HA.out] at hcs1
            have hs5 := HB5.out.size
            obtain ⟨F, hF⟩ : ∃ F, F = ps.length := ⟨_, rfl⟩
            rw [← hF] at hc5 hpsl
            rw [← hF]
            have HFL := Lib.hid hF
            have hfit2 : ∀ l, Fits many b l → acc ++ [(y, ps)] = l.take (k + 1) ∧ a3 = (bytesP (-1) (l.take (k + 1))).length := fun l h => by
              obtain ⟨e1, e2⟩ := HFIT.out l h
              obtain ⟨q, f1, f2, f3, f4, f5, f6⟩ := fits_next h (HKL.out l h) hbig
              rw [← e2, HZ.out] at f1
              simp only [Prod.mk.injEq] at f1
              obtain ⟨f7, f8, _⟩ := f1
              rw [← f8, HZ2.out] at f2
              simp only [Prod.mk.injEq] at f2
              obtain ⟨f9, f10, _⟩ := f2
              rw [← e1, ← HX.out] at f3 f4 f7
              rw [← HF.out] at f7
              have hyy : y = (l.getD k (0, [])).1 := by rw [hy1 (by omega) f3]; omega
              refine ⟨by rw [f6, ← e1, ← hyy, ← f9], by omega⟩
            have hpl2 : ∀ p ∈ acc ++ [(y, ps)], p.2.length ≤ b.length := fun p hp => by
              rcases List.mem_append.1 hp with h | h
              · exact HPL.out p h
              · simp at h; rw [h]; show ps.length ≤ b.length; rw [← HFL.out]; exact hpsl
            have HFIT2 := Lib.hid hfit2
            have HPL2 := Lib.hid hpl2
            have HC1 := Lib.hid hcs1
            have HC2 := Lib.hid hcs2
            have HR5 := Lib.hid (RowS.of_own (base := w.heap.size) HO5.out)
            have hdoc : docOf (-1) (acc ++ [(y, ps)]) = y := by rw [docOf_append]; rfl
            have HDOC := Lib.hid hdoc
            clear hF hcs1 hcs2 hfit2 hpl2 hy1 hdoc HFIT HPL HCELL HX0
            go_wp2_with (at_builtin; refine wpList_append_own _ rfl (.tmp 50) (.tmp 54) 22 rfl w.heap.size 43 i0 _ 2 32 Try.underlying22 hi0 hz0 hz1 hz2 rfl (by omega) _ k cs rfl (HC1.out.alloc _) ⟨w5.heap.size, 0, none⟩ 1 1 [.int .i64 y, .slice A5 F c5] rfl rfl (news_at w5 [.int .i64 y, .slice A5 F c5] 43) (by intro u hu; simp at hu; rcases hu with hu | hu <;> (subst hu; rfl)) (by unfold maxLen; omega) (by omega) (by simp; omega) ?_)
            intro v7 w7 hown7 hg7 _
            have hal := (Below.refl w5.heap.size w5).alloc (Nat.le_refl _) (.cells #[.int .i64 y, .slice A5 F c5] 43)
            have hb7 : Below w.heap.size w5 w7 := ((Below.refl _ w5).alloc hs5 _).grown hg7 (by simp; omega) fun k hk => (HC1.out.lt k hk).1
            have hpush : OwnPo 43 w.heap.size w7 v7 (acc ++ [(y, ps)]) :=
              OwnPo.push (c := c5) (A := A5) (cs := cs) (by decide) (by rw [HA.out]; exact HC1.out.alloc _) (HC2.out.imp fun _ _ h => h.below hal) (by rw [← HFL.out]; exact hc5) hcx5 (by have := HR5.out.below hal; exact this) (by rw [HA.out, ← HFL.out]; exact hown7) hg7
            have hfin : ReadRel many b w (.slice none 0 0) (.int .i64 0) v7 (.int .i64 (a3 : Int)) (.int .i64 ((k : Int) + 1)) w7 :=
              ⟨rfl, rfl, acc ++ [(y, ps)], a3, k + 1, by omega, by simp, rfl, by simp [HA.out], ha3, by rw [HDOC.out]; exact hy3, by rw [HDOC.out]; exact hy4, HPL2.out, HFIT2.out, hpush, HB5.out.trans hb7⟩
            have HFI := Lib.hid hfin
            clear hfin hb7 hg7 hown7 hpush hal
            go_wp2
            go_roundw
            case rel => exact HFI.out
            case measure => simp [intOf]; omega
    · obtain ⟨Ao, co, rfl, hco, hpo⟩ := hown.posts
      have my := ref05_May Ao acc.length co acc wr rfl (by omega) hpo (fun p hp => by have := hpl p hp; omega)
      obtain ⟨mb, hmb⟩ : ∃ mb, mb = mayB' (-1) acc := ⟨_, rfl⟩
      rw [← hmb] at my
      rw [hacc] at my hco
      rw [hacc]
      have MY := Lib.hid my
      have HMB := Lib.hid hmb
      have HOWN := Lib.hid hown
      have HPO := Lib.hid hpo
      have HPL := Lib.hid hpl
      have HFIT := Lib.hid hfit
      have HA := Lib.hid hacc
      have HBW := Lib.hid hbw
      clear my hmb hown hpo hpl hfit hacc hbw
      by_cases hneg : many < 0
      · have hd : decide (many < 0) = true := decide_eq_true hneg
        have HNO : Hid (∀ l, ¬ Fits many b l) := Lib.hid fun l h => by have := h.2.1; omega
        go_wp2_with (go_at_call 9; refine MY.out.mono ?_; rintro en w5 ⟨rfl, hb5⟩)
        have HB5 := Lib.hid (HBW.out.trans (hb5.mono hsz))
        clear hb5
        go_wp2
        go_quiet (fail)
        go_wp2
        go_ret2
        exact ⟨HB5.out.trans (quiet_below _), .inr ⟨HNO.out, rfl⟩⟩
      · have hd : decide (many < 0) = false := decide_eq_false hneg
        have hkm : (k : Int) = many := by omega
        have HALL : Hid (∀ l, Fits many b l → acc = l) := Lib.hid fun l h => by
          rw [(HFIT.out l h).1, List.take_of_length_le (by have := h.2.1; omega)]
        have HKM := Lib.hid hkm
        clear hkm
        rcases hmc : mb with _ | _
        · have HNO : Hid (∀ l, ¬ Fits many b l) := Lib.hid fun l h => by
            have h1 := h.1
            rw [← HALL.out l h, ← HMB.out, hmc] at h1
            cases h1
          subst hmc
          go_wp2_with (go_at_call 9; refine MY.out.mono ?_; rintro en w5 ⟨rfl, hb5⟩)
          have HB5 := Lib.hid (HBW.out.trans (hb5.mono hsz))
          clear hb5
          go_wp2
          go_quiet (fail)
          go_wp2
          go_ret2
          exact ⟨HB5.out.trans (quiet_below _), .inr ⟨HNO.out, rfl⟩⟩
        · have hmay : mayB' (-1) acc = true := by rw [← HMB.out, hmc]
          subst hmc
          have HMAY := Lib.hid hmay
          have hbl := bytesP_length acc (-1) (by omega) hmay (fun p hp => by have := HPL.out p hp; omega)
          have htl := totalP_le HPL.out
          have hml : acc.length * b.length ≤ 60 * 1000 := Nat.mul_le_mul (by rw [HA.out]; have := HKM.out; omega) (by omega)
          have hlen : (bytesP (-1) acc).length ≤ 1000000 := by have h1 := HA.out; have h2 := HKM.out; omega
          have HLEN := Lib.hid hlen
          clear hmay hbl htl hml hlen
          go_wp2_with (go_at_call 9; refine MY.out.mono ?_; rintro en w5 ⟨rfl, hb5⟩)
          have HB5 := Lib.hid (HBW.out.trans (hb5.mono hsz))
          have hs5 := HB5.out.size
          have HPO5 := Lib.hid (HPO.out.later hb5)
          have HOWN5 := Lib.hid (HOWN.out.below hb5)
          have hk60 : k ≤ 60 := by have := HKM.out; omega
          have by5 : ∀ w', Below w5.heap.size w5 w' → Calls Try.prog 17 #[.slice Ao k co] w' (GaveOwn w'.heap.size (bytesP (-1) acc) w') := fun w' h' =>
            ref05_Bytes Ao k co acc w' HA.out (by omega) (HPO5.out.later h') HMAY.out (fun p hp => by have := HPL.out p hp; omega) HLEN.out
          obtain ⟨bb, hbb⟩ : ∃ bb, bb = bytesP (-1) acc := ⟨_, rfl⟩
          rw [← hbb] at by5
          have BY := Lib.hid by5
          have HS : Hid (∀ w', Below w5.heap.size w5 w' → (convert 32 9 (.slice A m c)).run Try.prog w' = .ok (.string ⟨b.toArray⟩) w') := Lib.hid fun w' hb' =>
            run_string_of (P := Try.prog) (((HR.out.below HB5.out).more hs5).below hb') 32 9 5 m c HM.out Try.underlying32 Try.underlying5 Try.underlying9
          have HBB := Lib.hid hbb
          clear hb5 by5 hbb hm
          by_cases hbe : bb = b
          · have HFF : Hid (Fits many b acc) := Lib.hid ⟨HMAY.out, by rw [HA.out]; exact HKM.out, by rw [← HBB.out]; exact hbe⟩
            have hbe' := hbe.symm
            clear hbe
            subst hbe'
            go_upto_region 17 with fail
            go_cut [72] from 59 to 72 (fun t wx => t = .bool false ∧ Below w5.heap.size w5 wx)
            case first =>
              refine wp_region_noPanic ?_
              refine wp_region_held_drew (S := (fun w' => (convert 32 9 (.slice A m c)).run Try.prog w' = .ok (.string ⟨b.toArray⟩) w')) (by kernel_rfl) (HS.out _ (Below.refl _ w5).drew) (fun hHeld => ?_)
              refine wpAnyH_take (i := 0) (v := .int .i64 many) rfl (by kernel_rfl) (by kernel_rfl) (by kernel_rfl) (fun _ _ _ h => h) (Or.inl ⟨by rfl, fun wx hSw => by have s1 := hSw; go_simp⟩) (by assumption) ?_
              try simp only [Act.put, List.getElem_toArray, List.getElem_cons_zero, List.setIfInBounds_toArray, List.set_cons_zero, List.set_cons_succ]
              refine wpAnyH_take (i := 1) (v := .bool false) rfl (by kernel_rfl) (by kernel_rfl) (by kernel_rfl) (fun _ _ _ h => h) (Or.inl ⟨by rfl, fun wx hSw => by have s1 := hSw; go_simp⟩) (by assumption) ?_
              try simp only [Act.put, List.getElem_toArray, List.getElem_cons_zero, List.getElem_cons_succ, List.setIfInBounds_toArray, List.set_cons_zero, List.set_cons_succ]
              refine wpAnyH_take (i := 2) (v := .bool false) rfl (by kernel_rfl) (by kernel_rfl) (by kernel_rfl) (fun _ _ _ h => h) (Or.inl ⟨by rfl, fun wx hSw => by have s1 := hSw; go_simp⟩) (by assumption) ?_
              try simp only [Act.put, List.getElem_toArray, List.getElem_cons_zero, List.getElem_cons_succ, List.setIfInBounds_toArray, List.set_cons_zero, List.set_cons_succ]
              refine wpAnyH_take (i := 3) (v := .bool true) rfl (by kernel_rfl) (by kernel_rfl) (by kernel_rfl) (fun _ _ _ h => h) (Or.inl ⟨by rfl, fun wx hSw => by have s1 := hSw; go_simp⟩) (by assumption) ?_
              try simp only [Act.put, List.getElem_toArray, List.getElem_cons_zero, List.getElem_cons_succ, List.setIfInBounds_toArray, List.set_cons_zero, List.set_cons_succ]
              refine wpAnyH_take (i := 4) (v := .bool false) rfl (by kernel_rfl) (by kernel_rfl) (by kernel_rfl) (fun _ _ _ h => h) (Or.inl ⟨by rfl, fun wx hSw => by have s1 := hSw; go_simp⟩) (by assumption) ?_
              try simp only [Act.put, List.getElem_toArray, List.getElem_cons_zero, List.getElem_cons_succ, List.setIfInBounds_toArray, List.set_cons_zero, List.set_cons_succ]
              refine wpAnyH_take (i := 5) (v := .bool false) rfl (by kernel_rfl) (by kernel_rfl) (by kernel_rfl) (fun _ _ _ h => h) (Or.inl ⟨by rfl, fun wx hSw => by have s1 := hSw; go_simp⟩) (by assumption) ?_
              try simp only [Act.put, List.getElem_toArray, List.getElem_cons_zero, List.getElem_cons_succ, List.setIfInBounds_toArray, List.set_cons_zero, List.set_cons_succ]
              refine wpAnyH_take (i := 6) (v := .bool false) rfl (by kernel_rfl) (by kernel_rfl) (by kernel_rfl) (fun _ _ _ h => h) (Or.inl ⟨by rfl, fun wx hSw => by have s1 := hSw; go_simp⟩) (by assumption) ?_
              try simp only [Act.put, List.getElem_toArray, List.getElem_cons_zero, List.getElem_cons_succ, List.setIfInBounds_toArray, List.set_cons_zero, List.set_cons_succ]
              refine wpAnyH_take (i := 7) (v := .slice Ao k co) rfl (by kernel_rfl) (by kernel_rfl) (by kernel_rfl) (fun _ _ _ h => h) (Or.inl ⟨by rfl, fun wx hSw => by have s1 := hSw; go_simp⟩) (by assumption) ?_
              try simp only [Act.put, List.getElem_toArray, List.getElem_cons_zero, List.getElem_cons_succ, List.setIfInBounds_toArray, List.set_cons_zero, List.set_cons_succ]
              refine wpAnyH_take (i := 10) (v := .slice A m c) rfl (by kernel_rfl) (by kernel_rfl) (by kernel_rfl) (fun _ _ _ h => h) (Or.inl ⟨by rfl, fun wx hSw => by have s1 := hSw; go_simp⟩) (by assumption) ?_
              try simp only [Act.put, List.getElem_toArray, List.getElem_cons_zero, List.getElem_cons_succ, List.setIfInBounds_toArray, List.set_cons_zero, List.set_cons_succ]
              refine wpAnyH_take (i := 11) (v := .string ⟨b.toArray⟩) rfl (by kernel_rfl) (by kernel_rfl) (by kernel_rfl) (fun _ _ _ h => h) (Or.inl ⟨by rfl, fun wx hSw => by have s1 := hSw; go_simp⟩) (by assumption) ?_
              try simp only [Act.put, List.getElem_toArray, List.getElem_cons_zero, List.getElem_cons_succ, List.setIfInBounds_toArray, List.set_cons_zero, List.set_cons_succ]
              refine wpAnyH_ready (rs := [8]) (by kernel_rfl) (by simp) ?_
              refine AllReadyH.cons rfl (fun K hK => ?_) AllReadyH.nil
              try simp only [List.getElem_toArray, List.getElem_cons_zero, List.getElem_cons_succ]
              go_simp
              go_at_call 17
              refine (BY.out _ (Below.refl _ w5).drew).mono ?_
              rintro e w6 ⟨v6, rfl, hown6, hb6⟩
              obtain ⟨A6, c6, rfl, _, hrow6⟩ := hown6.row
              have hcv6 := run_string_of (P := Try.prog) hrow6 32 9 5 _ c6 rfl Try.underlying32 Try.underlying5 Try.underlying9
              have HB6 := Lib.hid ((Below.refl _ w5).drew.trans hb6)
              go_wp2_with fail
              refine hK.out _ _ ?_ (fun hHeld1 => ?_)
              · exact HS.out _ HB6.out
              clear hK K
              try simp only [Act.put, List.getElem_toArray, List.getElem_cons_zero, List.getElem_cons_succ, List.setIfInBounds_toArray, List.set_cons_zero, List.set_cons_succ]
              refine wpAnyH_ready (rs := [9]) (by kernel_rfl) (by simp) ?_
              refine AllReadyH.cons rfl (fun K hK => ?_) AllReadyH.nil
              try simp only [List.getElem_toArray, List.getElem_cons_zero, List.getElem_cons_succ]
              go_simp
              refine hK.out _ _ ?_ (fun hHeld2 => ?_)
              · exact HS.out _ HB6.out
              clear hK K
              try simp only [Act.put, List.getElem_toArray, List.getElem_cons_zero, List.getElem_cons_succ, List.setIfInBounds_toArray, List.set_cons_zero, List.set_cons_succ]
              refine wpAnyH_take (i := 12) (v := .bool false) rfl (by kernel_rfl) (by kernel_rfl) (by kernel_rfl) (fun _ _ _ h => h) (Or.inl ⟨by rfl, fun wx hSw => by have s1 := hSw; go_simp⟩) (by assumption) ?_
              try simp only [Act.put, List.getElem_toArray, List.getElem_cons_zero, List.getElem_cons_succ, List.setIfInBounds_toArray, List.set_cons_zero, List.set_cons_succ]
              refine wpAnyH_take (i := 13) (v := .bool false) rfl (by kernel_rfl) (by kernel_rfl) (by kernel_rfl) (fun _ _ _ h => h) (Or.inl ⟨by rfl, fun wx hSw => by have s1 := hSw; go_simp⟩) (by assumption) ?_
              try simp only [Act.put, List.getElem_toArray, List.getElem_cons_zero, List.getElem_cons_succ, List.setIfInBounds_toArray, List.set_cons_zero, List.set_cons_succ]
              refine wpAnyH_done (by kernel_rfl) ?_ _
              refine NoPanic.normal ?_
              go_wp2_with fail
              go_meet
              exact ⟨rfl, HB6.out⟩
            case rest =>
              obtain ⟨rfl, hb7⟩ := hcut
              have HB7 := Lib.hid (HB5.out.trans (hb7.mono hs5))
              have hown7 := HOWN5.out.below hb7
              rw [HA.out] at hown7
              have HOWN7 := Lib.hid hown7
              clear hb7 hown7
              go_wp2
              go_ret2
              exact ⟨HB7.out, .inl ⟨acc, _, HFF.out, HPL.out, rfl, HOWN7.out⟩⟩
          · have HNO : Hid (∀ l, ¬ Fits many b l) := Lib.hid fun l h => by
              have h1 := h.2.2
              rw [← HALL.out l h, ← HBB.out] at h1
              exact hbe h1
            have hne1 : (bb == b) = false := by rw [beq_eq_false_iff_ne]; exact hbe
            go_upto_region 17 with fail
            go_cut [72] from 59 to 72 (fun t wx => t = .bool true ∧ Below w5.heap.size w5 wx)
            case first =>
              refine wp_region_noPanic ?_
              refine wp_region_held_drew (S := (fun w' => (convert 32 9 (.slice A m c)).run Try.prog w' = .ok (.string ⟨b.toArray⟩) w')) (by kernel_rfl) (HS.out _ (Below.refl _ w5).drew) (fun hHeld => ?_)
              refine wpAnyH_take (i := 0) (v := .int .i64 many) rfl (by kernel_rfl) (by kernel_rfl) (by kernel_rfl) (fun _ _ _ h => h) (Or.inl ⟨by rfl, fun wx hSw => by have s1 := hSw; go_simp⟩) (by assumption) ?_
              try simp only [Act.put, List.getElem_toArray, List.getElem_cons_zero, List.setIfInBounds_toArray, List.set_cons_zero, List.set_cons_succ]
              refine wpAnyH_take (i := 1) (v := .bool false) rfl (by kernel_rfl) (by kernel_rfl) (by kernel_rfl) (fun _ _ _ h => h) (Or.inl ⟨by rfl, fun wx hSw => by have s1 := hSw; go_simp⟩) (by assumption) ?_
              try simp only [Act.put, List.getElem_toArray, List.getElem_cons_zero, List.getElem_cons_succ, List.setIfInBounds_toArray, List.set_cons_zero, List.set_cons_succ]
              refine wpAnyH_take (i := 2) (v := .bool false) rfl (by kernel_rfl) (by kernel_rfl) (by kernel_rfl) (fun _ _ _ h => h) (Or.inl ⟨by rfl, fun wx hSw => by have s1 := hSw; go_simp⟩) (by assumption) ?_
              try simp only [Act.put, List.getElem_toArray, List.getElem_cons_zero, List.getElem_cons_succ, List.setIfInBounds_toArray, List.set_cons_zero, List.set_cons_succ]
              refine wpAnyH_take (i := 3) (v := .bool true) rfl (by kernel_rfl) (by kernel_rfl) (by kernel_rfl) (fun _ _ _ h => h) (Or.inl ⟨by rfl, fun wx hSw => by have s1 := hSw; go_simp⟩) (by assumption) ?_
              try simp only [Act.put, List.getElem_toArray, List.getElem_cons_zero, List.getElem_cons_succ, List.setIfInBounds_toArray, List.set_cons_zero, List.set_cons_succ]
              refine wpAnyH_take (i := 4) (v := .bool false) rfl (by kernel_rfl) (by kernel_rfl) (by kernel_rfl) (fun _ _ _ h => h) (Or.inl ⟨by rfl, fun wx hSw => by have s1 := hSw; go_simp⟩) (by assumption) ?_
              try simp only [Act.put, List.getElem_toArray, List.getElem_cons_zero, List.getElem_cons_succ, List.setIfInBounds_toArray, List.set_cons_zero, List.set_cons_succ]
              refine wpAnyH_take (i := 5) (v := .bool false) rfl (by kernel_rfl) (by kernel_rfl) (by kernel_rfl) (fun _ _ _ h => h) (Or.inl ⟨by rfl, fun wx hSw => by have s1 := hSw; go_simp⟩) (by assumption) ?_
              try simp only [Act.put, List.getElem_toArray, List.getElem_cons_zero, List.getElem_cons_succ, List.setIfInBounds_toArray, List.set_cons_zero, List.set_cons_succ]
              refine wpAnyH_take (i := 6) (v := .bool false) rfl (by kernel_rfl) (by kernel_rfl) (by kernel_rfl) (fun _ _ _ h => h) (Or.inl ⟨by rfl, fun wx hSw => by have s1 := hSw; go_simp⟩) (by assumption) ?_
              try simp only [Act.put, List.getElem_toArray, List.getElem_cons_zero, List.getElem_cons_succ, List.setIfInBounds_toArray, List.set_cons_zero, List.set_cons_succ]
              refine wpAnyH_take (i := 7) (v := .slice Ao k co) rfl (by kernel_rfl) (by kernel_rfl) (by kernel_rfl) (fun _ _ _ h => h) (Or.inl ⟨by rfl, fun wx hSw => by have s1 := hSw; go_simp⟩) (by assumption) ?_
              try simp only [Act.put, List.getElem_toArray, List.getElem_cons_zero, List.getElem_cons_succ, List.setIfInBounds_toArray, List.set_cons_zero, List.set_cons_succ]
              refine wpAnyH_take (i := 10) (v := .slice A m c) rfl (by kernel_rfl) (by kernel_rfl) (by kernel_rfl) (fun _ _ _ h => h) (Or.inl ⟨by rfl, fun wx hSw => by have s1 := hSw; go_simp⟩) (by assumption) ?_
              try simp only [Act.put, List.getElem_toArray, List.getElem_cons_zero, List.getElem_cons_succ, List.setIfInBounds_toArray, List.set_cons_zero, List.set_cons_succ]
              refine wpAnyH_take (i := 11) (v := .string ⟨b.toArray⟩) rfl (by kernel_rfl) (by kernel_rfl) (by kernel_rfl) (fun _ _ _ h => h) (Or.inl ⟨by rfl, fun wx hSw => by have s1 := hSw; go_simp⟩) (by assumption) ?_
              try simp only [Act.put, List.getElem_toArray, List.getElem_cons_zero, List.getElem_cons_succ, List.setIfInBounds_toArray, List.set_cons_zero, List.set_cons_succ]
              refine wpAnyH_ready (rs := [8]) (by kernel_rfl) (by simp) ?_
              refine AllReadyH.cons rfl (fun K hK => ?_) AllReadyH.nil
              try simp only [List.getElem_toArray, List.getElem_cons_zero, List.getElem_cons_succ]
              go_simp
              go_at_call 17
              refine (BY.out _ (Below.refl _ w5).drew).mono ?_
              rintro e w6 ⟨v6, rfl, hown6, hb6⟩
              obtain ⟨A6, c6, rfl, _, hrow6⟩ := hown6.row
              have hcv6 := run_string_of (P := Try.prog) hrow6 32 9 5 _ c6 rfl Try.underlying32 Try.underlying5 Try.underlying9
              have HB6 := Lib.hid ((Below.refl _ w5).drew.trans hb6)
              go_wp2_with fail
              refine hK.out _ _ ?_ (fun hHeld1 => ?_)
              · exact HS.out _ HB6.out
              clear hK K
              try simp only [Act.put, List.getElem_toArray, List.getElem_cons_zero, List.getElem_cons_succ, List.setIfInBounds_toArray, List.set_cons_zero, List.set_cons_succ]
              refine wpAnyH_ready (rs := [9]) (by kernel_rfl) (by simp) ?_
              refine AllReadyH.cons rfl (fun K hK => ?_) AllReadyH.nil
              try simp only [List.getElem_toArray, List.getElem_cons_zero, List.getElem_cons_succ]
              go_simp
              refine hK.out _ _ ?_ (fun hHeld2 => ?_)
              · exact HS.out _ HB6.out
              clear hK K
              try simp only [Act.put, List.getElem_toArray, List.getElem_cons_zero, List.getElem_cons_succ, List.setIfInBounds_toArray, List.set_cons_zero, List.set_cons_succ]
              refine wpAnyH_take (i := 12) (v := .bool true) rfl (by kernel_rfl) (by kernel_rfl) (by kernel_rfl) (fun _ _ _ h => h) (Or.inl ⟨by rfl, fun wx hSw => by have s1 := hSw; go_simp⟩) (by assumption) ?_
              try simp only [Act.put, List.getElem_toArray, List.getElem_cons_zero, List.getElem_cons_succ, List.setIfInBounds_toArray, List.set_cons_zero, List.set_cons_succ]
              refine wpAnyH_take (i := 13) (v := .bool true) rfl (by kernel_rfl) (by kernel_rfl) (by kernel_rfl) (fun _ _ _ h => h) (Or.inl ⟨by rfl, fun wx hSw => by have s1 := hSw; go_simp⟩) (by assumption) ?_
              try simp only [Act.put, List.getElem_toArray, List.getElem_cons_zero, List.getElem_cons_succ, List.setIfInBounds_toArray, List.set_cons_zero, List.set_cons_succ]
              refine wpAnyH_done (by kernel_rfl) ?_ _
              refine NoPanic.normal ?_
              go_wp2_with fail
              go_meet
              exact ⟨rfl, HB6.out⟩
            case rest =>
              obtain ⟨rfl, hb7⟩ := hcut
              have HB7 := Lib.hid (HB5.out.trans (hb7.mono hs5))
              clear hb7
              go_wp2
              go_ret2
              exact ⟨HB7.out, .inr ⟨HNO.out, rfl⟩⟩
end Go.Proofs.Ytfhjnblcnkjooaa
