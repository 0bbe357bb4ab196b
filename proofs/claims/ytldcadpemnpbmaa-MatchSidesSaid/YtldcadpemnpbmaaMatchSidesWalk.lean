/- The walk of MatchSides. -/
import Derived.Test.YtldcadpemnpbmaaLivesF13
import Derived.Test.YtldcadpemnpbmaaRefS13
import Derived.Test.YtldcadpemnpbmaaGoodV11
import Derived.Test.YtldcadpemnpbmaaArgL11
import Derived.Test.YtldcadpemnpbmaaVarG13
set_option linter.unusedVariables false
namespace Go.Proofs.Ytldcadpemnpbmaa
open Go Go.RowKit

/-- Lists of numbers of the call's own, each in a row of the call's own. -/
def LiOwn (base : Nat) (w : World) : List (List Int) → List Value → Prop
  | [], cs => cs = []
  | x :: r, cs => ∃ u cs', cs = u :: cs' ∧ w.ownsRow base 3 1 u x.length (ints x) ∧ LiOwn base w r cs'
def OwnLi (base : Nat) (w : World) (v : Value) (l : List (List Int)) : Prop := ∃ cs, w.ownsRow base 31 1 v l.length cs ∧ LiOwn base w l cs
theorem OwnLi.nil {base : Nat} {w : World} : OwnLi base w (.slice none 0 0) [] := ⟨[], World.ownsRow_nil _ _ _ _, rfl⟩
theorem LiOwn.imp {base : Nat} {w w' : World} : ∀ {l : List (List Int)} {cs : List Value}, LiOwn base w l cs → (∀ u (x : List Int), w.ownsRow base 3 1 u x.length (ints x) → w'.ownsRow base 3 1 u x.length (ints x)) → LiOwn base w' l cs
  | [], cs, h, _ => h
  | x :: r, cs, h, hi => by
    obtain ⟨u, cs', rfl, h1, h'⟩ := h
    exact ⟨u, cs', rfl, hi _ _ h1, LiOwn.imp h' hi⟩
theorem LiOwn.snoc {base : Nat} {w : World} : ∀ {l : List (List Int)} {cs : List Value} {u : Value} {x : List Int}, LiOwn base w l cs → w.ownsRow base 3 1 u x.length (ints x) → LiOwn base w (l ++ [x]) (cs ++ [u])
  | [], cs, u, x, h, hu => by simp only [LiOwn] at h; subst h; exact ⟨u, [], rfl, hu, rfl⟩
  | y :: r, cs, u, x, h, hu => by
    obtain ⟨v, cs', rfl, h1, h'⟩ := h
    exact ⟨v, cs' ++ [u], rfl, h1, LiOwn.snoc h' hu⟩
theorem LiOwn.lis {base : Nat} {w : World} : ∀ {l : List (List Int)} {cs : List Value}, LiOwn base w l cs → LisC w w.heap.size l cs
  | [], cs, h => by simp only [LiOwn] at h; subst h; exact LisC.nil
  | x :: r, cs, h => by
    obtain ⟨u, cs', rfl, h1, h'⟩ := h
    obtain ⟨A, c, rfl, _, hr⟩ := owned_row h1
    have ih := LiOwn.lis h'
    refine ⟨by simp [ih.1], fun i hi => ?_⟩
    cases i with
    | zero => exact ⟨A, c, rfl, hr⟩
    | succ i => 
      obtain ⟨A', c', k1, k2⟩ := ih.2 i (by simpa using hi)
      exact ⟨A', c', by simpa using k1, by simpa using k2⟩
theorem OwnLi.lists {base : Nat} {w : World} {v : Value} {l : List (List Int)} (h : OwnLi base w v l) : ∃ A c, v = .slice A l.length c ∧ l.length ≤ c ∧ Lis w w.heap.size A l := by
  obtain ⟨cs, h1, h2⟩ := h
  obtain ⟨A, c, rfl, hc, hr⟩ := owned_row h1
  exact ⟨A, c, rfl, hc, cs, h2.lis, hr⟩
theorem OwnLi.below {base : Nat} {w w' : World} {v : Value} {l : List (List Int)} (h : OwnLi base w v l) (hb : Below w.heap.size w w') : OwnLi base w' v l := by
  obtain ⟨cs, h1, h2⟩ := h
  exact ⟨cs, owned_below h1 hb, h2.imp fun _ _ h => owned_below h hb⟩
theorem li_grown {base : Nat} {w w' : World} {u v : Value} {x : List Int} {n : Nat} {ys : List Value} (h : w.ownsRow base 3 1 u x.length (ints x)) (hv : w.ownsRow base 31 1 v n ys) (hg : w.grownBy w' v.ownBlock) : w'.ownsRow base 3 1 u x.length (ints x) :=
  owned_keep h fun g hu => hg.block g (h.lt g hu).2 fun e => owned_apart2 hv h (by decide) hu e.symm
theorem OwnLi.push {base : Nat} {w w' : World} {v v' u : Value} {l : List (List Int)} {x : List Int} {cs : List Value} (h1 : w.ownsRow base 31 1 v l.length cs) (h2 : LiOwn base w l cs) (hu : w.ownsRow base 3 1 u x.length (ints x))
    (hown : w'.ownsRow base 31 1 v' (l.length + 1) (cs ++ [u])) (hg : w.grownBy w' v.ownBlock) : OwnLi base w' v' (l ++ [x]) := by
  refine ⟨_, ?_, (h2.imp fun _ _ h => li_grown h h1 hg).snoc (li_grown hu h1 hg)⟩
  rw [List.length_append, List.length_singleton]
  exact hown
theorem rises_le : ∀ {l : List Int} {x : Int}, risesZ x l = true → (∀ y ∈ l, x < y) ∧ l.Pairwise (· ≤ ·)
  | [], _, _ => ⟨(fun _ h => by cases h), List.Pairwise.nil⟩
  | y :: l, x, h => by
    rw [risesZ, Bool.and_eq_true, decide_eq_true_iff] at h
    obtain ⟨h1, h2⟩ := rises_le h.2
    refine ⟨fun z hz => ?_, List.Pairwise.cons (fun z hz => Int.le_of_lt (h1 z hz)) h2⟩
    rcases List.mem_cons.1 hz with rfl | hz
    · exact h.1
    · have := h1 z hz; omega
/-- Lists that were made. -/
def MadeL13 (G : List (List Int)) : Prop := ∀ s ∈ G, s.length ≤ 12 ∧ s.Pairwise (· ≤ ·) ∧ ∀ x ∈ s, 0 ≤ x ∧ x ≤ 20000
theorem MadeL13.snoc {G : List (List Int)} (h : MadeL13 G) {l : List Int} (hl : l.length ≤ 12) : MadeL13 (G ++ [goodZ (-1) l]) := fun s hs => by
  rcases List.mem_append.1 hs with hs | hs
  · exact h s hs
  · rw [List.mem_singleton] at hs
    subst hs
    refine ⟨by rw [goodZ_length]; exact hl, (rises_le (goodZ_rises l (-1))).2, fun x hx => ?_⟩
    have := goodZ_le l (-1) (by omega) x hx
    omega
theorem MadeL13.rise {G : List (List Int)} (h : MadeL13 G) : RiseL G := fun s hs => by
  obtain ⟨h1, h2, h3⟩ := h s hs
  exact ⟨by omega, h2, fun x hx => by have := h3 x hx; omega⟩
def OutRel13 (M : Nat) (w : World) (vg vi : Value) (wr : World) : Prop := ∃ (k : Nat) (G : List (List Int)), k ≤ M ∧ vi = .int .i64 (k : Int) ∧ G.length = k ∧ MadeL13 G ∧ OwnLi w.heap.size wr vg G ∧ Below w.heap.size w wr
def InRel13 (M : Nat) (w : World) (vo vi : Value) (wr : World) : Prop := ∃ (k : Nat) (o : List Int), k ≤ M ∧ vi = .int .i64 (k : Int) ∧ o.length = k ∧ (∀ x ∈ o, (Lit.int .i64 x).wf = true) ∧ wr.ownsRow w.heap.size 3 1 vo k (ints o) ∧ Below w.heap.size w wr
set_option maxHeartbeats 8000000 in
set_option maxRecDepth 100000 in
theorem walk_MatchSides (A0 : Option Addr) (n0 c0 : Nat) (z : List (List Int)) (w : World) (h0 : InLols w A0 n0 c0 z) :
    Calls Try.prog 4 #[.slice A0 n0 c0] w fun e w' => e = .returned (.bool true) ∧ Below w.heap.size w w' := by
  obtain ⟨i0, hi0, hz0, hz1, hz2⟩ := info_parts info_int
  obtain ⟨j0, hj0, jz0, jz1, jz2⟩ := info_parts (show (Try.prog.info? 31).map (fun i => (i.zero, i.size, i.bytes)) = some (some (.slice none 0 0), 1, 24) by kernel_rfl)
  obtain ⟨hnc, hcm, hzl, hlol, hbd⟩ := h0
  unfold maxLen at hcm
  have HZL := Lib.hid hzl
  have HLOL := Lib.hid hlol
  have HBD := Lib.hid hbd
  have HLV := Lib.hid law13_lives
  obtain ⟨M, hM⟩ : ∃ M, M = min n0 5 := ⟨_, rfl⟩
  have hM5 : M ≤ 5 := by omega
  have HM := Lib.hid hM
  have HREL : Hid (OutRel13 M w (.slice none 0 0) (.int .i64 ((0 : Nat) : Int)) w) := Lib.hid ⟨0, [], Nat.zero_le _, rfl, rfl, (fun s hs => by cases hs), OwnLi.nil, Below.refl _ _⟩
  clear hzl hlol hbd hM
  go_enter Try.func4, Try.ntmps4
  go_wp2
  go_loopw [3, 4] (OutRel13 M w) (fun _ i _ => M - (intOf i).toNat)
  case atStart => exact HREL.out
  case round =>
    obtain ⟨wq, hwq⟩ : ∃ wq, wq = wr := ⟨_, rfl⟩
    subst hwq
    obtain ⟨k, G, hk, rfl, hGl, hG, hown, hbw⟩ := hrel
    have hown0 := hown
    obtain ⟨Ag, cg, rfl, -, -⟩ := hown0.lists
    rw [hGl] at hown ⊢
    by_cases hlt : k < M
    · have hkn : k < n0 := by have := HM.out; omega
      have d0 : decide ((k : Int) < (n0 : Int)) = true := decide_eq_true (by omega)
      have d1 : decide ((k : Int) < 5) = true := decide_eq_true (by omega)
      have hkz : k < z.length := by rw [HZL.out]; exact hkn
      have HAT : Hid (∀ w2, Below w.heap.size w w2 → ∃ b off A' c', A0 = some ⟨b, off, none⟩ ∧ w2.cell? ⟨b, off + k, none⟩ = some (.slice A' z[k].length c') ∧ Row w2 w2.heap.size A' (ints z[k])) := Lib.hid fun w2 h2 => by
        obtain ⟨b, off, A', c', e, _, g1, _, g3⟩ := (HLOL.out.later h2).at_ hkz
        exact ⟨b, off, A', c', e, g1, g3⟩
      obtain ⟨s, hs⟩ : ∃ s, s = z[k] := ⟨_, rfl⟩
      have hsb := HBD.out _ (List.getElem_mem hkz)
      rw [← hs] at HAT hsb
      obtain ⟨m, hm⟩ : ∃ m, m = s.length := ⟨_, rfl⟩
      rw [← hm] at HAT hsb
      obtain ⟨hsb1, hsb2⟩ := hsb
      have HSB := Lib.hid hsb2
      have HMS := Lib.hid hm
      obtain ⟨M2, hM2⟩ : ∃ M2, M2 = min m 12 := ⟨_, rfl⟩
      have HM2 := Lib.hid hM2
      have hM12 : M2 ≤ 12 := by omega
      have hknI : (k : Int) < (n0 : Int) := by omega
      have hsz := hbw.size
      have HIN : Hid (InRel13 M2 wq (.slice none 0 0) (.int .i64 ((0 : Nat) : Int)) wq) := Lib.hid ⟨0, [], Nat.zero_le _, rfl, rfl, (fun s hs => by cases hs), World.ownsRow_nil _ _ _ _, Below.refl _ _⟩
      have HG := Lib.hid (And.intro hGl hG)
      have HO := Lib.hid hown
      have HBW := Lib.hid hbw
      clear hs hm hM2 hsb2 hkz hGl hG hown hown0 hbw
      go_wp2
      go_loopw [5, 6] (InRel13 M2 wq) (fun _ i _ => M2 - (intOf i).toNat)
      case atStart => exact HIN.out
      case round =>
        obtain ⟨j, o, hj, rfl, hol, howf, hown, hb2⟩ := hrel
        have hown0 := hown
        obtain ⟨Ao, co, rfl, -, -⟩ := owned_row hown0
        obtain ⟨bz, oz, As, cs, rfl, hcz, hrs⟩ := HAT.out wr (HBW.out.trans (hb2.mono hsz))
        have hsz2 := hb2.size
        by_cases hjl : j < M2
        · have hjm : j < m := by have := HM2.out; omega
          have hjs : j < s.length := by rw [← HMS.out]; exact hjm
          obtain ⟨b1, o1, rfl, -, hx⟩ := row_int hrs hjs
          have hxb := wf_bd (HSB.out _ (List.getElem_mem hjs))
          obtain ⟨x, hxx⟩ : ∃ x, x = s[j] := ⟨_, rfl⟩
          rw [← hxx] at hx hxb
          obtain ⟨hxb1, hxb2⟩ := hxb
          have e0 : decide ((j : Int) < (m : Int)) = true := decide_eq_true (by omega)
          have e1 : decide ((j : Int) < 12) = true := decide_eq_true (by omega)
          have hjmI : (j : Int) < (m : Int) := by omega
          obtain ⟨q, hq⟩ : ∃ q, x.tmod 3 = q := ⟨_, rfl⟩
          have hqb : -3 < q ∧ q < 3 := by rw [← hq]; exact ⟨Int.lt_tmod_of_pos x (by omega), Int.tmod_lt_of_pos x (by omega)⟩
          obtain ⟨hqb1, hqb2⟩ := hqb
          have HO2 := Lib.hid hown
          have HF2 : Hid (∀ v5 w5, w5.ownsRow wq.heap.size 3 1 v5 (j + 1) (ints o ++ [.int .i64 q]) → Below wq.heap.size wr w5 → InRel13 M2 wq v5 (.int .i64 ((j : Int) + 1)) w5) := Lib.hid fun v5 w5 h1 h2 => by
            refine ⟨j + 1, o ++ [q], by omega, rfl, by simp [hol], fun y hy => ?_, by rw [show ints (o ++ [q]) = ints o ++ [.int .i64 q] by simp [ints]]; exact h1, hb2.trans h2⟩
            rcases List.mem_append.1 hy with hy | hy
            · exact howf y hy
            · rw [List.mem_singleton] at hy
              subst hy
              simp [Lit.wf, IntKind.min, IntKind.max, IntKind.signed, IntKind.bits]
              omega
          clear hrs hjs hxx hown hown0 hb2 hol howf
          go_wp2_with (at_builtin; refine wpList_append_own _ rfl (.tmp 30) (.tmp 39) 31 rfl wq.heap.size 3 i0 _ 1 8 Try.underlying31 hi0 hz0 hz1 hz2 rfl (by omega) _ j (ints o) rfl (HO2.out.alloc _) ⟨wr.heap.size, 0, none⟩ 1 1 [.int .i64 q] rfl rfl (news_at wr [.int .i64 q] 3) (by intro u hu; simp at hu; subst hu; rfl) (by unfold maxLen; omega) (by omega) (by simp; omega) ?_)
          intro v5 w5 hown5 hg5 _
          have hb5 : Below wq.heap.size wr w5 := ((Below.refl _ wr).alloc (by omega) _).grown hg5 (by simp; omega) fun i hi => (HO2.out.lt i hi).1
          have HF := Lib.hid (HF2.out v5 w5 hown5 hb5)
          clear hown5 hg5 hb5
          go_wp2
          go_roundw
          case rel => exact HF.out
          case measure => simp [intOf]; omega
        · obtain rfl : j = M2 := by omega
          have HGOOD : Hid (Calls Try.prog 15 #[.slice Ao j co, .int .i64 12] wr fun e w' => ∃ v, e = .returned v ∧ w'.ownsRow wr.heap.size 3 1 v j (ints (goodZ (-1) o)) ∧ Below wr.heap.size wr w') := Lib.hid (by
            have h := ref04_Good Ao j co 12 o wr hol (by omega) (by omega) (owned_row_of hown) howf
            rw [show o.take 12 = o from List.take_of_length_le (by omega), hol] at h
            exact h)
          have HO2 := Lib.hid (HO.out.below hb2)
          have HB2 := Lib.hid (HBW.out.trans (hb2.mono hsz))
          have hol12 : o.length ≤ 12 := by omega
          have HOL := Lib.hid hol12
          have HZL2 : Hid ((goodZ (-1) o).length = j) := Lib.hid (by rw [goodZ_length, hol])
          have hsz3 : w.heap.size ≤ wr.heap.size := by omega
          have HFIN : Hid (∀ v w', OwnLi w.heap.size w' v (G ++ [goodZ (-1) o]) → Below w.heap.size w w' → OutRel13 M w v (.int .i64 ((k : Int) + 1)) w') := Lib.hid fun v w' h1 h2 => ⟨k + 1, _, by omega, rfl, by simp [HG.out.1], HG.out.2.snoc HOL.out, h1, h2⟩
          have stop : (decide ((j : Int) < (m : Int)) = true ∧ decide ((j : Int) < 12) = false ∧ decide (j < m) = true ∧ decide (j < 12) = false ∧ (j : Int) < (m : Int)) ∨ (decide ((j : Int) < (m : Int)) = false ∧ decide (j < m) = false) := by
            by_cases hjm : j < m
            · exact .inl ⟨decide_eq_true (by omega), decide_eq_false (by have := HM2.out; omega), decide_eq_true hjm, decide_eq_false (by have := HM2.out; omega), by omega⟩
            · exact .inr ⟨decide_eq_false (by omega), decide_eq_false hjm⟩
          clear hown hown0 hol howf hrs hb2 hol12 hjl
          rcases stop with ⟨e0, e1, e2, e3, e4⟩ | ⟨e0, e1⟩
          ·
            go_wp2_with (go_at_call 15; (with_reducible refine HGOOD.out.mono ?_))
            rintro e w5 ⟨u5, rfl, hou, hb5⟩
            have hou2 := owned_low hou hsz3
            have hu1 := hou
            obtain ⟨Au, cu, rfl, -, -⟩ := owned_row hu1
            obtain ⟨csg, hog, hlg⟩ := HO2.out.below hb5
            rw [HG.out.1] at hog
            have HOW := Lib.hid hog
            have HLG := Lib.hid hlg
            have HOU := Lib.hid hou2
            have HB5 : Hid (Below w.heap.size w w5) := Lib.hid (HB2.out.trans (hb5.mono hsz3))
            have hsz5 := HB5.out.size
            clear hou hou2 hu1 hog hlg hb5
            go_wp2_with (at_builtin; refine wpList_append_own _ rfl (.tmp 41) (.tmp 44) 30 rfl w.heap.size 31 j0 _ 1 24 Try.underlying30 hj0 jz0 jz1 jz2 rfl (by omega) _ k csg rfl (HOW.out.alloc _) ⟨w5.heap.size, 0, none⟩ 1 1 [.slice Au j cu] rfl rfl (news_at w5 [.slice Au j cu] 31) (by intro u hu; simp at hu; subst hu; rfl) (by unfold maxLen; omega) (by omega) (by simp; omega) ?_)
            intro v6 w6 hown6 hg6 _
            have hbA : Below w5.heap.size w5 (w5.alloc (.cells #[.slice Au j cu] 31)) := (Below.refl _ _).alloc (Nat.le_refl _) _
            have hli : OwnLi w.heap.size w6 v6 (G ++ [goodZ (-1) o]) := by
              refine OwnLi.push (w := w5.alloc (.cells #[.slice Au j cu] 31)) (v := .slice Ag k cg) (u := .slice Au j cu) (by rw [HG.out.1]; exact HOW.out.alloc _) (HLG.out.imp fun _ _ h => owned_below h hbA) (by rw [HZL2.out]; exact owned_below HOU.out hbA) (by rw [HG.out.1]; exact hown6) hg6
            have hb6 : Below w.heap.size w5 w6 := ((Below.refl _ w5).alloc (by omega) _).grown hg6 (by simp; omega) fun i hi => (HOW.out.lt i hi).1
            have HF := Lib.hid (HFIN.out v6 w6 hli (HB5.out.trans hb6))
            clear hown6 hg6 hli hb6 hbA
            go_wp2
            go_roundw
            case rel => exact HF.out
            case measure => simp [intOf]; omega
          ·
            go_wp2_with (go_at_call 15; (with_reducible refine HGOOD.out.mono ?_))
            rintro e w5 ⟨u5, rfl, hou, hb5⟩
            have hou2 := owned_low hou hsz3
            have hu1 := hou
            obtain ⟨Au, cu, rfl, -, -⟩ := owned_row hu1
            obtain ⟨csg, hog, hlg⟩ := HO2.out.below hb5
            rw [HG.out.1] at hog
            have HOW := Lib.hid hog
            have HLG := Lib.hid hlg
            have HOU := Lib.hid hou2
            have HB5 : Hid (Below w.heap.size w w5) := Lib.hid (HB2.out.trans (hb5.mono hsz3))
            have hsz5 := HB5.out.size
            clear hou hou2 hu1 hog hlg hb5
            go_wp2_with (at_builtin; refine wpList_append_own _ rfl (.tmp 41) (.tmp 44) 30 rfl w.heap.size 31 j0 _ 1 24 Try.underlying30 hj0 jz0 jz1 jz2 rfl (by omega) _ k csg rfl (HOW.out.alloc _) ⟨w5.heap.size, 0, none⟩ 1 1 [.slice Au j cu] rfl rfl (news_at w5 [.slice Au j cu] 31) (by intro u hu; simp at hu; subst hu; rfl) (by unfold maxLen; omega) (by omega) (by simp; omega) ?_)
            intro v6 w6 hown6 hg6 _
            have hbA : Below w5.heap.size w5 (w5.alloc (.cells #[.slice Au j cu] 31)) := (Below.refl _ _).alloc (Nat.le_refl _) _
            have hli : OwnLi w.heap.size w6 v6 (G ++ [goodZ (-1) o]) := by
              refine OwnLi.push (w := w5.alloc (.cells #[.slice Au j cu] 31)) (v := .slice Ag k cg) (u := .slice Au j cu) (by rw [HG.out.1]; exact HOW.out.alloc _) (HLG.out.imp fun _ _ h => owned_below h hbA) (by rw [HZL2.out]; exact owned_below HOU.out hbA) (by rw [HG.out.1]; exact hown6) hg6
            have hb6 : Below w.heap.size w5 w6 := ((Below.refl _ w5).alloc (by omega) _).grown hg6 (by simp; omega) fun i hi => (HOW.out.lt i hi).1
            have HF := Lib.hid (HFIN.out v6 w6 hli (HB5.out.trans hb6))
            clear hown6 hg6 hli hb6 hbA
            go_wp2
            go_roundw
            case rel => exact HF.out
            case measure => simp [intOf]; omega
    · obtain rfl : k = M := by omega
      obtain ⟨Ag2, cg2, eg, hcg, hlis⟩ := hown.lists
      injection eg with eg1 eg2 eg3
      subst eg1 eg3
      rw [hGl] at hcg
      have HS1 := Lib.hid (match_Side Ag k cg G wq hlis hGl hcg hG.rise (by omega))
      have HS2 := Lib.hid (fun w2 (h2 : Below wq.heap.size wq w2) => ref13_Side Ag k cg G w2 (hlis.later h2) hGl (by omega) (fun s hs => by obtain ⟨g1, _, g3⟩ := hG s hs; exact ⟨by omega, fun x hx => by have := g3 x hx; omega⟩))
      have HS3 := Lib.hid (fun w2 => match_Side none 0 0 [] w2 ⟨[], LisC.nil, .inl rfl⟩ rfl (Nat.le_refl _) (fun s hs => by cases hs) (by omega))
      obtain ⟨q, hq⟩ : ∃ q : Int, q = ((sideF G : Nat) : Int) := ⟨_, rfl⟩
      rw [← hq] at HS1 HS2
      have hq2 : (q == q) = true := by simp
      have HBW := Lib.hid hbw
      have stop : (decide ((k : Int) < (n0 : Int)) = true ∧ decide ((k : Int) < 5) = false ∧ decide (k < n0) = true ∧ decide (k < 5) = false ∧ (k : Int) < (n0 : Int)) ∨ (decide ((k : Int) < (n0 : Int)) = false ∧ decide (k < n0) = false) := by
        by_cases hjm : k < n0
        · exact .inl ⟨decide_eq_true (by omega), decide_eq_false (by have := HM.out; omega), decide_eq_true hjm, decide_eq_false (by have := HM.out; omega), by omega⟩
        · exact .inr ⟨decide_eq_false (by omega), decide_eq_false hjm⟩
      clear hown hown0 hlis hq hG hGl hbw eg2 hcg hlt
      rcases stop with ⟨e0, e1, e2, e3, e4⟩ | ⟨e0, e1⟩
      ·
        go_wp2_with (first
          | (go_at_call 16; (with_reducible refine HS1.out.mono ?_); rintro e w2 ⟨rfl, hb2⟩)
          | (go_at_call 17; (with_reducible refine (HS2.out w2 hb2).mono ?_); rintro e w3 ⟨rfl, hb3⟩; have HB3 : Hid (Below wq.heap.size wq w3) := Lib.hid (hb2.trans (hb3.mono hb2.size)); clear hb3)
          | (go_at_call 16; (with_reducible refine (HS3.out w3).mono ?_); rintro e w4 ⟨rfl, hb4⟩; have HB4 : Hid (Below wq.heap.size wq w4) := Lib.hid (HB3.out.trans (hb4.mono HB3.out.size)); clear hb4)
          | (go_at_call 14; (with_reducible refine (HLV.out _).mono ?_); rintro e w5 ⟨rfl, hb5⟩; have HB5 : Hid (Below wq.heap.size wq w5) := Lib.hid (HB4.out.trans (hb5.mono HB4.out.size)); clear hb5))
        go_ret
        exact ⟨rfl, HBW.out.trans (HB5.out.mono HBW.out.size)⟩
      ·
        go_wp2_with (first
          | (go_at_call 16; (with_reducible refine HS1.out.mono ?_); rintro e w2 ⟨rfl, hb2⟩)
          | (go_at_call 17; (with_reducible refine (HS2.out w2 hb2).mono ?_); rintro e w3 ⟨rfl, hb3⟩; have HB3 : Hid (Below wq.heap.size wq w3) := Lib.hid (hb2.trans (hb3.mono hb2.size)); clear hb3)
          | (go_at_call 16; (with_reducible refine (HS3.out w3).mono ?_); rintro e w4 ⟨rfl, hb4⟩; have HB4 : Hid (Below wq.heap.size wq w4) := Lib.hid (HB3.out.trans (hb4.mono HB3.out.size)); clear hb4)
          | (go_at_call 14; (with_reducible refine (HLV.out _).mono ?_); rintro e w5 ⟨rfl, hb5⟩; have HB5 : Hid (Below wq.heap.size wq w5) := Lib.hid (HB4.out.trans (hb5.mono HB4.out.size)); clear hb5))
        go_ret
        exact ⟨rfl, HBW.out.trans (HB5.out.mono HBW.out.size)⟩
end Go.Proofs.Ytldcadpemnpbmaa
