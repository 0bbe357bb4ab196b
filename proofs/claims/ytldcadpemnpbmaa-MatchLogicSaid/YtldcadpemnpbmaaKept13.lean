/- What And, Or and Not keep of two lists. -/
import Derived.Test.YtldcadpemnpbmaaPairs13
import Derived.Test.YtldcadpemnpbmaaToldV13
import Derived.Test.YtldcadpemnpbmaaVarG13
import Derived.Shelf.AbstractIn
set_option linter.unusedVariables false
namespace Go.Proofs.Ytldcadpemnpbmaa
open Go Go.RowKit
attribute [local go_sem] Oper.semAt_some

/-- What pairs gives: a function that keeps both lists. -/
theorem match_pairs (A A2 : Option Addr) (n c n2 c2 : Nat) (w : World) :
    Calls Try.prog 26 #[.slice A n c, .slice A2 n2 c2] w fun e w' => e = .returned (.func (.func 28) #[] #[.pointer (some ⟨w.heap.size, 0, none⟩), .pointer (some ⟨w.heap.size + 1, 0, none⟩)]) ∧
      w'.heap[w.heap.size]? = some (.cells #[.slice A n c] 22 (0, 0)) ∧ w'.heap[w.heap.size + 1]? = some (.cells #[.slice A2 n2 c2] 22 (0, 0)) ∧ Below w.heap.size w w' ∧ w'.heap.size = w.heap.size + 2 := by
  go_enter Try.func26, Try.ntmps26
  go_wp2
  go_ret
  have h1 := heap_alloc_new (w.alloc (.cells #[.slice A n c] 22)) (.cells #[.slice A2 n2 c2] 22)
  rw [World.size_alloc] at h1
  refine ⟨rfl, ?_, h1, ((Below.refl _ w).alloc (Nat.le_refl _) _).alloc (by simp) _, by simp⟩
  exact (Below.heap_alloc _ _ _ (by simp)).trans (heap_alloc_new w _)
/-- The variable that keeps the list. -/
abbrev FoVar (base B : Nat) (l : List Fo) : World → Prop := VarOf 22 36 2 base B l.length (foC l)
def KeptI (f : Bool → Bool → Bool) (K : Nat) (w : World) (pre : List Pr) (W : World) : Prop :=
  FoVar w.heap.size (w.heap.size + 1) (keptL f pre) W ∧ W.heap[w.heap.size]? = some (.cells #[.func (.func K) #[] #[]] 40 (0, 0)) ∧ Below w.heap.size w W
theorem KeptI.firm {f : Bool → Bool → Bool} {K : Nat} {w : World} {N : Nat} (hN : w.heap.size < N) (s : List Pr) : Firm N (KeptI f K w s) := (Firm.varOf N).and ((Firm.block hN _).and (Firm.belowW (by omega)))
theorem KeptI.later {f : Bool → Bool → Bool} {K : Nat} {w A B : World} {s : List Pr} (h : KeptI f K w s A) (hb : Below A.heap.size A B) : KeptI f K w s B := ⟨h.1.below hb, (hb.block _ (lt_of_block h.2.1)).trans h.2.1, h.2.2.trans (hb.mono h.2.2.size)⟩
theorem keptL_snoc (f : Bool → Bool → Bool) (pre : List Pr) (x : Pr) : keptL f (pre ++ [x]) = keptL f pre ++ (if f x.2.1 x.2.2 = true then [x.1] else []) := by rw [keptL_append, keptL_one]

set_option maxHeartbeats 8000000 in
set_option maxRecDepth 100000 in
theorem match_kept (K : Nat) (f : Bool → Bool → Bool) (hK : Keeps K f) (va vb : Value) (a b : List Fo) (w : World) (ha : InFo w va a) (hb : InFo w vb b) (hfa : FewF a) (hfb : FewF b) :
    Calls Try.prog 18 #[va, vb, .func (.func K) #[] #[]] w (GaveFo (keptF f a b) w) := by
  obtain ⟨i0, hi0, hz0, hz1, hz2⟩ := info_parts info_found
  refine (callsIn_wide (n := 6)).1 ?_
  obtain ⟨eK, hK⟩ := hK
  have hlen : (pairsF a b).length ≤ 2147483648 := Nat.le_trans (pairs_length _ a b (Nat.le_refl _)) (by have := hfa.1; have := hfb.1; omega)
  obtain ⟨w1, hw1⟩ : ∃ w1, w1 = (w.alloc (.cells #[.func (.func K) #[] #[]] 40)).alloc (.cells #[.slice none 0 0] 22) := ⟨_, rfl⟩
  have hb1 : Below w.heap.size w w1 := by rw [hw1]; exact ((Below.refl _ w).alloc (Nat.le_refl _) _).alloc (by simp) _
  have hz1' : w1.heap.size = w.heap.size + 2 := by rw [hw1]; simp
  have hk1 : w1.heap[w.heap.size]? = some (.cells #[.func (.func K) #[] #[]] 40 (0, 0)) := by rw [hw1]; exact (Below.heap_alloc _ _ _ (by simp)).trans (heap_alloc_new w _)
  have hl1 : w1.heap[w.heap.size + 1]? = some (.cells #[.slice none 0 0] 22 (0, 0)) := by rw [hw1]; exact heap_alloc2_new _ _ _
  have HTOLD : Hid (∀ w2, Below w1.heap.size w1 w2 → w2.heap[w.heap.size + 2]? = some (.cells #[va] 22 (0, 0)) → w2.heap[w.heap.size + 3]? = some (.cells #[vb] 22 (0, 0)) →
      Told 5 Try.prog 28 #[.pointer (some ⟨w.heap.size + 2, 0, none⟩), .pointer (some ⟨w.heap.size + 3, 0, none⟩)] encPr (Below w.heap.size) (fun pre x W => pre.length < (pairsF a b).length) (fun xs => xs = pairsF a b) w2) := Lib.hid fun w2 h2 e1 e2 =>
    pairs_told 5 w.heap.size _ _ a b va vb w2 (by omega) (Nat.le_trans hb1.size h2.size) (ha.b.below (hb1.trans (h2.mono hb1.size))) (hb.b.below (hb1.trans (h2.mono hb1.size))) e1 e2 hfa hfb
  have hva := ha
  have hvb := hb
  obtain ⟨A, c, rfl, -, -, -⟩ := hva
  obtain ⟨A2, c2, rfl, -, -, -⟩ := hvb
  obtain ⟨n, hn⟩ : ∃ n, n = a.length := ⟨_, rfl⟩
  obtain ⟨n2, hn2⟩ : ∃ n2, n2 = b.length := ⟨_, rfl⟩
  rw [← hn, ← hn2] at HTOLD
  rw [← hn, ← hn2]
  have HPR := Lib.hid (match_pairs A A2 n c n2 c2 w1)
  have HI1 : Hid (KeptI f K w [] w1) := Lib.hid ⟨⟨_, hl1, World.ownsRow_nil _ _ _ _⟩, hk1, hb1⟩
  have HW1 := Lib.hid hw1
  have HZ1 := Lib.hid hz1'
  clear ha hb hfa hfb hn hn2 hw1 hb1 hz1' hk1 hl1
  refine callsIn_of_wp_marks Try.func18 rfl trivial ?_ rfl
  simp only [Try.ntmps18, List.size_toArray, List.length_cons, List.length_nil, Nat.reduceAdd, Nat.reduceSub, Array.replicate_succ, Array.replicate_zero, List.push_toArray, List.append_toArray, List.nil_append, List.cons_append]
  gi_wp2_with (first
    | (refine ⟨trivial, ?_⟩; rw [← HW1.out]; gi_at_call 26; refine (callsIn_wide.2 HPR.out).mono ?_)
    | (rw [← HW1.out]; gi_at_call 26; refine (callsIn_wide.2 HPR.out).mono ?_))
  rintro e w2 ⟨rfl, e1, e2, hb2, hz2'⟩
  rw [HZ1.out] at e1 e2 hz2' ⊢
  have HT := Lib.hid (HTOLD.out w2 (by rw [HZ1.out]; rw [HZ1.out] at hb2; exact hb2) e1 e2)
  have HI2 : Hid (KeptI f K w [] w2) := Lib.hid (HI1.out.later hb2)
  have HZ2 := Lib.hid hz2'
  clear e1 e2 hb2 hz2'
  gi_wp2
  refine wpIn_range_told2 (by omega) (gf := 28) (lb := #[.pointer (some ⟨w.heap.size + 2, 0, none⟩), .pointer (some ⟨w.heap.size + 3, 0, none⟩)]) rfl (enters_of Try.func28 (by kernel_rfl) rfl)
    HT.out Below.trans (fun W lp o o' hlp ho hc => Firm.belowW (N := w2.heap.size) (by have := HZ2.out; omega) W lp o o' hlp ho hc (Below.refl _ _)) (fun _ => rfl)
    (KeptI f K w) (fun s A' B' h hb => h.later hb) (fun s => KeptI.firm (by have := HZ2.out; omega) s) (fun s x => Firm.pure) HI2.out
    (fun x V => { tmps := #[.slice A n c, .slice A2 n2 c2, .func (.func K) #[] #[], undef, undef, .pointer (some ⟨w.heap.size, 0, none⟩), .slice none 0 0, .pointer (some ⟨w.heap.size + 1, 0, none⟩), .pointer (some ⟨V, 0, none⟩), .slice A n c, .slice A2 n2 c2,
      .func (.func 28) #[] #[.pointer (some ⟨w.heap.size + 2, 0, none⟩), .pointer (some ⟨w.heap.size + 3, 0, none⟩)], prV x, undef, undef, undef, undef, undef, undef, undef, undef, undef], defers := [] })
    (fun x => .cells #[.int .i64 (x.1.1 : Int), .int .i64 x.1.2, .bool x.2.1, .bool x.2.2] 39) (fun s x A' B' h _ => h) (fun {A' B'} h1 h => h.mono (by have := HZ2.out; omega)) ?assign ?body ?done
  case assign =>
    intro lp x W K' hK'
    unfold encPr prV
    gi_wp2
    exact hK'
  case body =>
    rintro lp pre ⟨⟨d, s⟩, l, r⟩ V W hI hx hV hVw
    unfold prV
    simp only at hV hx ⊢
    have hlenp : (keptL f pre).length ≤ 2147483648 := by have := keptL_length f pre; omega
    obtain ⟨⟨v, hv, hown⟩, hk, hbw⟩ := hI
    obtain ⟨D, hD⟩ : ∃ D : Int, D = (d : Int) := ⟨_, rfl⟩
    rw [← hD] at hV ⊢
    have hsz := hbw.size
    have HCALL := Lib.hid (hK ((d, s), l, r) W)
    rw [show prV ((d, s), l, r) = .agg #[.int .i64 D, .int .i64 s, .bool l, .bool r] by rw [hD]] at HCALL
    obtain ⟨b, hb⟩ : ∃ b, b = f l r := ⟨_, rfl⟩
    simp only at HCALL
    rw [← hb] at HCALL
    have HSN := Lib.hid (keptL_snoc f pre ((d, s), l, r))
    simp only at HSN
    rw [← hb] at HSN
    have HAI : Hid (∀ W', FoVar w.heap.size (w.heap.size + 1) (keptL f (pre ++ [((d, s), l, r)])) W' → W'.heap[w.heap.size]? = some (.cells #[.func (.func K) #[] #[]] 40 (0, 0)) → Below w.heap.size w W' → KeptI f K w (pre ++ [((d, s), l, r)]) W') := Lib.hid fun W' h1 h2 h3 => ⟨h1, h2, h3⟩
    obtain ⟨L, hL⟩ : ∃ L, L = keptL f pre := ⟨_, rfl⟩
    rw [← hL] at HSN hown hlenp
    rw [HSN.out] at HAI
    obtain ⟨m, hm⟩ : ∃ m, m = L.length := ⟨_, rfl⟩
    rw [← hm] at hown hlenp
    have hown' := hown
    obtain ⟨Av, cv, rfl, -, -⟩ := owned_row hown'
    have ck := cell_of_one hk
    have cl := cell_of_one hv
    obtain ⟨⟨p0, p1, p2, p3⟩, -, -⟩ := cells4 hV
    have HV := Lib.hid hv
    have HK := Lib.hid hk
    have HVP := Lib.hid hV
    have HO := Lib.hid hown
    have HBW := Lib.hid hbw
    have HM := Lib.hid hm
    have HD := Lib.hid hD
    clear hv hown hown' hbw hk hV hD hL hb hx hm
    cases b with
    | false =>
      gi_wp2_with (first
        | (gi_at_fn K; refine (CallsIn.inRound lp (callsIn_wide.2 HCALL.out)).mono ?_; rintro e W2 ⟨rfl, hb2⟩)
        | (refine ⟨trivial, ?_⟩; gi_at_fn K; refine (CallsIn.inRound lp (callsIn_wide.2 HCALL.out)).mono ?_; rintro e W2 ⟨rfl, hb2⟩))
      refine ⟨⟨hb2.size, fun q o hq _ => (hb2.block q (Array.getElem?_eq_some_iff.1 hq).1).trans hq⟩, hb2.mono hsz, HAI.out _ ?_ ((hb2.block _ (lt_of_block HK.out)).trans HK.out) (HBW.out.trans (hb2.mono hsz))⟩
      have hvo : FoVar w.heap.size (w.heap.size + 1) L W2 := VarOf.below ⟨_, HV.out, by rw [← HM.out]; exact HO.out⟩ hb2
      simpa using hvo
    | true =>
      gi_wp2_with (first
        | (gi_at_fn K; refine (CallsIn.inRound lp (callsIn_wide.2 HCALL.out)).mono ?_; rintro e W2 ⟨rfl, hb2⟩; have HB2 := Lib.hid hb2; have cl2 := (hb2.cell (p := ⟨w.heap.size + 1, 0, none⟩) (lt_of_block HV.out)).trans cl; have r0 := (hb2.cell (p := ⟨V, 0, none⟩) (lt_of_block HVP.out)).trans p0; have r1 := (hb2.cell (p := ⟨V, 1, none⟩) (lt_of_block HVP.out)).trans p1; clear hb2)
        | (refine ⟨trivial, ?_⟩; gi_at_fn K; refine (CallsIn.inRound lp (callsIn_wide.2 HCALL.out)).mono ?_; rintro e W2 ⟨rfl, hb2⟩; have HB2 := Lib.hid hb2; have cl2 := (hb2.cell (p := ⟨w.heap.size + 1, 0, none⟩) (lt_of_block HV.out)).trans cl; have r0 := (hb2.cell (p := ⟨V, 0, none⟩) (lt_of_block HVP.out)).trans p0; have r1 := (hb2.cell (p := ⟨V, 1, none⟩) (lt_of_block HVP.out)).trans p1; clear hb2)
        | (gi_at_builtin; refine wpListIn_append_own _ rfl (.tmp 16) (.tmp 19) 22 rfl w.heap.size 36 i0 _ 2 16 Try.underlying22 hi0 hz0 hz1 hz2 rfl (by omega) _ m (foC L) rfl ((owned_below HO.out HB2.out).alloc _) ⟨W2.heap.size, 0, none⟩ 1 1 [.int .i64 D, .int .i64 s] rfl rfl (news_at W2 [.int .i64 D, .int .i64 s] 36) (by intro u hu; simp at hu; rcases hu with rfl | rfl <;> rfl) (by unfold maxLen; omega) (by omega) (by have := HB2.out.size; simp; omega) ?_))
      intro v' w4 hown4 hgrow4 hz4
      clear hz4
      obtain ⟨g', cap', hv', _, _⟩ := hown4.form (by omega)
      have hb2 := HB2.out
      have hsz2 := hb2.size
      have hfoc : foC L ++ [.int .i64 D, .int .i64 s] = foC (L ++ [(d, s)]) := by rw [foC_append, HD.out]; rfl
      rw [hfoc] at hown4
      obtain ⟨⟨cB1, fB1⟩, hvo, hbb, hko, hkc⟩ := var_push (by decide) ((hb2.block _ (lt_of_block HV.out)).trans HV.out) (owned_below HO.out hb2) (Nat.le_succ _) (by omega) ((Below.refl _ W2).alloc (Nat.le_refl _) _) hgrow4 hown4
      have hk5 := hkc _ _ _ _ ((hb2.block _ (lt_of_block HK.out)).trans HK.out) (by decide) (by decide)
      have hfin : KeptI f K w (pre ++ [((d, s), l, r)]) (w4.setCell ⟨w.heap.size + 1, 0, none⟩ v') := by
        refine HAI.out _ ?_ hk5 (HBW.out.trans ((hb2.mono hsz).trans hbb))
        rw [if_pos trivial]
        unfold FoVar
        rw [List.length_append, List.length_singleton, ← HM.out]
        exact hvo
      have HF := Lib.hid (And.intro ((⟨hb2.size, fun q o hq _ => (hb2.block q (Array.getElem?_eq_some_iff.1 hq).1).trans hq⟩ : KeepsOthers W W2).trans hko) (And.intro ((hb2.mono hsz).trans hbb) hfin))
      subst hv'
      clear hvo hbb hko hkc hk5 hfin hown4 hgrow4 hb2
      gi_wp2
      exact HF.out
  case done =>
    rintro D' ys W hD2 hys ⟨⟨v, hv, hown⟩, hk, hbw⟩ hK'
    rw [hys] at hown
    have hown' := hown
    obtain ⟨Av, cv, rfl, -, -⟩ := owned_row hown'
    have cB := cell_of_one hv
    have HBW := Lib.hid hbw
    have HRV : Hid (FoVar w.heap.size (w.heap.size + 1) (keptF f a b) W) := Lib.hid ⟨_, hv, hown⟩
    have HVV := Lib.hid hv
    obtain ⟨m, hm⟩ : ∃ m, m = (keptL f (pairsF a b)).length := ⟨_, rfl⟩
    rw [← hm] at cB HVV
    clear hys hown hown' hbw hk hv hm
    gi_wp2
    refine ⟨by simp, .inl ⟨_, _, rfl, run_takeDeferred hK', ?_⟩⟩
    refine ⟨_, results_tmp rfl _ _ _, ?_⟩
    obtain ⟨v2, hv2, ho2⟩ := Firm.varOf 0 W D' _ (.deferred none) (Nat.zero_le _) hK' rfl HRV.out
    have hne : w.heap.size + 1 ≠ D' := by have := HZ2.out; omega
    rw [World.putObj_heap_other hne, HVV.out] at hv2
    simp at hv2
    subst hv2
    exact ⟨_, rfl, ho2, Firm.belowW (N := w2.heap.size) (by have := HZ2.out; omega) W D' _ _ hD2 hK' rfl HBW.out⟩
end Go.Proofs.Ytldcadpemnpbmaa
