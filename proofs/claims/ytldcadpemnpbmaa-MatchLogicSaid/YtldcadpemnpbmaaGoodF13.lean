/- A list of documents that rise, made of any: the document's Good. -/
import Derived.Test.YtldcadpemnpbmaaOps13
import Derived.Test.YtldcadpemnpbmaaMade04
set_option linter.unusedVariables false
namespace Go.Proofs.Ytldcadpemnpbmaa
open Go Go.RowKit

/-- Documents of any numbers, in memory. -/
def raC : List (Int × Int) → List Value
  | [] => []
  | x :: l => .int .i64 x.1 :: .int .i64 x.2 :: raC l
theorem raC_length : ∀ l : List (Int × Int), (raC l).length = l.length * 2
  | [] => rfl
  | x :: l => by simp only [raC, List.length_cons, raC_length l]; omega
theorem raC_at : ∀ {l : List (Int × Int)} {k : Nat} (hk : k < l.length), (raC l)[k * 2]? = some (.int .i64 l[k].1) ∧ (raC l)[k * 2 + 1]? = some (.int .i64 l[k].2)
  | [], _, h => by simp at h
  | x :: l, 0, _ => ⟨rfl, rfl⟩
  | x :: l, k + 1, h => by
    have := raC_at (l := l) (k := k) (by simpa using h)
    rw [show (k + 1) * 2 = k * 2 + 1 + 1 by omega]
    simpa [raC] using this
/-- What a walk is told of a list of documents that came in. -/
def InRaw (w : World) (a : Option Addr) (len cap : Nat) (l : List (Int × Int)) : Prop :=
  len ≤ cap ∧ cap ≤ maxLen ∧ l.length = len ∧ Row w w.heap.size a (raC l) ∧ ∀ x ∈ l, (-9223372036854775808 ≤ x.1 ∧ x.1 ≤ 9223372036854775807) ∧ (-9223372036854775808 ≤ x.2 ∧ x.2 ≤ 9223372036854775807)
/-- What comes of it. -/
structure GoodFo (k : Nat) (g : List Fo) : Prop where
  len : g.length = k
  rise : RiseF g
  docs : ∀ x ∈ g, x.1 < 10 * k
  scores : ∀ x ∈ g, -1000 < x.2 ∧ x.2 < 1000
theorem GoodFo.nil : GoodFo 0 [] := ⟨rfl, List.Pairwise.nil, (fun x h => by cases h), (fun x h => by cases h)⟩
theorem GoodFo.few {k : Nat} {g : List Fo} (h : GoodFo k g) (hk : k ≤ 1048576) : FewF g := ⟨by rw [h.len]; omega, fun x hx => by have := h.scores x hx; omega⟩
/-- The greatest document so far. -/
def lastD (g : List Fo) : Int := match g.getLast? with | none => -1 | some x => x.1
theorem GoodFo.snoc {k : Nat} {g : List Fo} (h : GoodFo k g) {x : Int} (hx : x = lastD g) {q s : Int} (h0 : 0 ≤ q) (h1 : q < 10) (hs : -1000 < s ∧ s < 1000) :
    ∃ d : Nat, x + 1 + q = (d : Int) ∧ GoodFo (k + 1) (g ++ [(d, s)]) ∧ lastD (g ++ [(d, s)]) = (d : Int) := by
  have hb : -1 ≤ x ∧ x < 10 * (k : Int) ∧ ∀ y ∈ g, (y.1 : Int) ≤ x := by
    rw [hx]
    unfold lastD
    cases hl : g.getLast? with
    | none =>
      rw [List.getLast?_eq_none_iff] at hl
      subst hl
      exact ⟨by simp, by simp <;> omega, fun y hy => by cases hy⟩
    | some z =>
      have hz := List.mem_of_getLast? hl
      have := h.docs z hz
      refine ⟨by simp <;> omega, by simp <;> omega, fun y hy => ?_⟩
      have := rise_last h.rise hl hy
      simp
      omega
  obtain ⟨d, hd⟩ := Int.eq_ofNat_of_zero_le (show 0 ≤ x + 1 + q by omega)
  refine ⟨d, hd, ⟨by rw [List.length_append, h.len]; rfl, ?_, ?_, ?_⟩, by unfold lastD; simp⟩
  · refine List.pairwise_append.2 ⟨h.rise, List.pairwise_singleton _ _, fun y hy z hz => ?_⟩
    rw [List.mem_singleton] at hz
    subst hz
    have := hb.2.2 y hy
    simp
    omega
  · intro y hy
    rcases List.mem_append.1 hy with hy | hy
    · have := h.docs y hy; omega
    · rw [List.mem_singleton] at hy
      subst hy
      simp
      omega
  · intro y hy
    rcases List.mem_append.1 hy with hy | hy
    · exact h.scores y hy
    · rw [List.mem_singleton] at hy
      subst hy
      exact hs
def GoodRelF (M : Nat) (w : World) (vo last vi : Value) (wr : World) : Prop :=
  ∃ (g : List Fo) (k : Nat), k ≤ M ∧ vi = .int .i64 (k : Int) ∧ last = .int .i64 (lastD g) ∧ GoodFo k g ∧ OwnFo w.heap.size wr vo g ∧ Below w.heap.size w wr
def GaveGood (w : World) (e : Ending) (w' : World) : Prop := ∃ v g k, e = .returned v ∧ k ≤ 20 ∧ GoodFo k g ∧ OwnFo w.heap.size w' v g ∧ Below w.heap.size w w'
theorem lastD_bd {k : Nat} {g : List Fo} (h : GoodFo k g) : -1 ≤ lastD g ∧ lastD g < 10 * (k : Int) + 1 := by
  unfold lastD
  cases hl : g.getLast? with
  | none => exact ⟨by simp, by simp <;> omega⟩
  | some z => have := h.docs z (List.mem_of_getLast? hl); exact ⟨by simp <;> omega, by simp <;> omega⟩

set_option maxHeartbeats 4000000 in
set_option maxRecDepth 100000 in
theorem ref13_Good (A : Option Addr) (n c : Nat) (l : List (Int × Int)) (w : World) (hin : InRaw w A n c l) :
    Calls Try.prog 6 #[.slice A n c, .int .i64 20] w (GaveGood w) := by
  obtain ⟨i0, hi0, hz0, hz1, hz2⟩ := info_parts info_found
  obtain ⟨hnc, hcm, hln, hrow, hwf⟩ := hin
  unfold maxLen at hcm
  have HR := Lib.hid hrow
  have HN := Lib.hid hln
  have HWF := Lib.hid hwf
  have HREL : Hid (GoodRelF (min n 20) w (.slice none 0 0) (.int .i64 (-1)) (.int .i64 ((0 : Nat) : Int)) w) := Lib.hid ⟨[], 0, Nat.zero_le _, rfl, rfl, GoodFo.nil, OwnFo.nil, Below.refl _ _⟩
  obtain ⟨M, hM⟩ : ∃ M, M = min n 20 := ⟨_, rfl⟩
  rw [← hM] at HREL
  have HM := Lib.hid hM
  have hM20 : M ≤ 20 := by omega
  clear hrow hln hwf hM
  go_enter Try.func6, Try.ntmps6
  go_wp2
  go_loopw [5, 6, 7] (GoodRelF M w) (fun _ _ i _ => M - (intOf i).toNat)
  case atStart => exact HREL.out
  case round =>
    obtain ⟨g, k, hk, rfl, rfl, hg, hown, hbw⟩ := hrel
    by_cases hlt : k < M
    · have hkn : k < n := by have := HM.out; omega
      have hkl : k < l.length := by rw [HN.out]; exact hkn
      have hkni : (k : Int) < (n : Int) := by omega
      have d0 : decide ((k : Int) < (n : Int)) = true := decide_eq_true (by omega)
      have d1 : decide ((k : Int) < 20) = true := decide_eq_true (by omega)
      have hsz := hbw.size
      obtain ⟨b1, o1, rfl, -, hc1⟩ := (HR.out.below hbw).at_ (by rw [raC_length]; omega)
      obtain ⟨g1, g2⟩ := raC_at hkl
      have p0 := hc1 _ _ g1
      have p1 := hc1 _ _ g2
      rw [← Nat.add_assoc] at p1
      have hbd := HWF.out _ (List.getElem_mem hkl)
      obtain ⟨x, hx⟩ : ∃ x, x = l[k].1 := ⟨_, rfl⟩
      obtain ⟨y, hy⟩ : ∃ y, y = l[k].2 := ⟨_, rfl⟩
      rw [← hx] at p0 hbd
      rw [← hy] at p1 hbd
      obtain ⟨⟨hx1, hx2⟩, hy1, hy2⟩ := hbd
      obtain ⟨f, hf, hneg, hpos⟩ := made_nat (a := x) ⟨hx1, hx2⟩
      have hlb := lastD_bd hg
      have hsn := fun (q s : Int) h0 h1 hs => hg.snoc (x := lastD g) rfl (q := q) (s := s) h0 h1 hs
      obtain ⟨ls, hls⟩ : ∃ ls, ls = lastD g := ⟨_, rfl⟩
      rw [← hls] at hlb hsn ⊢
      obtain ⟨hlb1, hlb2⟩ := hlb
      unfold OwnFo at hown
      have hgl := hg.len
      rw [hgl] at hown
      have hown0 := hown
      obtain ⟨Av, cv, rfl, -, -⟩ := owned_row hown0
      have HSN := Lib.hid hsn
      have HO := Lib.hid hown
      have HGL := Lib.hid hgl
      have HBW := Lib.hid hbw
      have HNEG := Lib.hid hneg
      have HPOS := Lib.hid hpos
      clear hx hy hg hls hsn hown hown0 hgl hbw g1 g2 hc1 hneg hpos hkl
      go_upto_if 26 with fail
      go_cut [8] from 25 to 29 (fun s wx => s = .int .i64 (f : Int) ∧ wr = wx)
      case first =>
        by_cases h0 : x < 0
        · have hng := HNEG.out h0
          go_wp2_with fail
          go_meet
          exact ⟨rfl, rfl⟩
        · have hng := HPOS.out h0
          subst hng
          go_wp2_with fail
          go_meet
          exact ⟨rfl, rfl⟩
      case rest =>
        obtain ⟨rfl, rfl⟩ := hcut
        clear hx1 hx2
        have hm0 : 0 ≤ (f : Int) % 10 := Int.emod_nonneg _ (by omega)
        have hm1 : (f : Int) % 10 < 10 := Int.emod_lt_of_pos _ (by omega)
        obtain ⟨q, hq⟩ : ∃ q, (f : Int) % 10 = q := ⟨_, rfl⟩
        rw [hq] at hm0 hm1
        obtain ⟨z, hz⟩ : ∃ z, z = y.tmod 1000 := ⟨_, rfl⟩
        have hz3 : -1000 < z ∧ z < 1000 := by rw [hz]; exact ⟨Int.lt_tmod_of_pos y (by omega), Int.tmod_lt_of_pos y (by omega)⟩
        obtain ⟨d, hd, hgd, hld⟩ := HSN.out q z hm0 hm1 hz3
        have hz' : y.tmod 1000 = z := hz.symm
        have HD := Lib.hid hd
        have HGD := Lib.hid hgd
        have HLD := Lib.hid hld
        clear hz hz3 hd hgd hld
        go_wp2_with (at_builtin; refine wpList_append_own _ rfl (.tmp 35) (.tmp 44) 22 rfl w.heap.size 36 i0 _ 2 16 Try.underlying22 hi0 hz0 hz1 hz2 rfl (by omega) _ k (foC g) rfl (HO.out.alloc _) ⟨wr.heap.size, 0, none⟩ 1 1 [.int .i64 (ls + 1 + q), .int .i64 z] rfl rfl (news_at wr [.int .i64 (ls + 1 + q), .int .i64 z] 36) (by intro u hu; simp at hu; rcases hu with rfl | rfl <;> rfl) (by unfold maxLen; omega) (by omega) (by simp; omega) ?_)
        intro v5 w5 hown5 hg5 _
        have hb5 : Below w.heap.size wr w5 := ((Below.refl _ wr).alloc (by omega) _).grown hg5 (by simp; omega) fun j hj => (HO.out.lt j hj).1
        have hfin : GoodRelF M w v5 (.int .i64 (ls + 1 + q)) (.int .i64 ((k : Int) + 1)) w5 := by
          refine ⟨g ++ [(d, z)], k + 1, by omega, rfl, by rw [HLD.out, HD.out], HGD.out, ?_, HBW.out.trans hb5⟩
          unfold OwnFo
          rw [List.length_append, List.length_singleton, HGL.out, foC_append]
          rw [HD.out] at hown5
          exact hown5
        have HF := Lib.hid hfin
        clear hfin hb5 hg5 hown5
        go_wp2
        go_roundw
        case rel => exact HF.out
        case measure => simp [intOf]; omega
    · obtain rfl : k = M := by omega
      have HO := Lib.hid hown
      have HG := Lib.hid hg
      by_cases hkn : k < n
      · have d0 : decide ((k : Int) < (n : Int)) = true := decide_eq_true (by omega)
        have d1 : decide ((k : Int) < 20) = false := decide_eq_false (by have := HM.out; omega)
        clear hown hg hlt
        go_wp2
        go_ret
        exact ⟨_, g, k, rfl, hM20, HG.out, HO.out, hbw⟩
      · have d0 : decide ((k : Int) < (n : Int)) = false := decide_eq_false (by omega)
        clear hown hg hlt
        go_wp2
        go_ret
        exact ⟨_, g, k, rfl, hM20, HG.out, HO.out, hbw⟩
end Go.Proofs.Ytldcadpemnpbmaa
