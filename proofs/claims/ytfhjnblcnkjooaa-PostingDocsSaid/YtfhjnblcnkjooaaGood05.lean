/- What the document's own Good of layer 4 (of any many, up to 100) and of layer 5 answer. -/
import Derived.Test.YtfhjnblcnkjooaaPost05
import Derived.Test.YtfhjnblcnkjooaaMade04
namespace Go.Proofs.Ytfhjnblcnkjooaa
open Go Go.RowKit
set_option linter.unusedVariables false

theorem info_posting : (Try.prog.info? 43).map (fun i => (i.zero, i.size, i.bytes)) = some (some (.agg #[.int .i64 0, .slice none 0 0]), 2, 32) := by kernel_rfl

/-- What a walk is told of a list of postings that came in. -/
def InPosts (w : World) (a : Option Addr) (len cap : Nat) (ps : List Po) : Prop :=
  len ≤ cap ∧ cap ≤ maxLen ∧ ps.length = len ∧ Posts w w.heap.size a ps ∧ ∀ p ∈ ps, (Lit.int .i64 p.1).wf = true ∧ ∀ x ∈ p.2, (Lit.int .i64 x).wf = true
theorem InPosts.below {w w' : World} {a : Option Addr} {len cap : Nat} {ps : List Po} (h : InPosts w a len cap ps) (hb : Below w.heap.size w w') : InPosts w' a len cap ps :=
  ⟨h.1, h.2.1, h.2.2.1, h.2.2.2.1.later hb, h.2.2.2.2⟩

def GoodMRel (all : List Int) (l : List Int) (w : World) (vo last i : Value) (wr : World) : Prop :=
  ∃ (acc : List Int) (x : Int) (k : Nat), k ≤ l.length ∧ i = .int .i64 (k : Int) ∧ last = .int .i64 x ∧ acc.length = k ∧ -1 ≤ x ∧ x ≤ 1000 * k ∧ acc ++ goodZ x (l.drop k) = all ∧ wr.ownsRow w.heap.size 3 1 vo k (ints acc) ∧ Below w.heap.size w wr

set_option maxHeartbeats 1000000 in
set_option maxRecDepth 100000 in
theorem ref04_GoodM (C : Option Addr) (n d : Nat) (l : List Int) (most : Nat) (w : World) (hn : l.length = n) (hnx : n ≤ maxLen) (hm100 : most ≤ 100) (hrl : Row w w.heap.size C (ints l)) (hwl : ∀ x ∈ l, (Lit.int .i64 x).wf = true) :
    Calls Try.prog 29 #[.slice C n d, .int .i64 (most : Int)] w fun e w' => ∃ v, e = .returned v ∧ w'.ownsRow w.heap.size 3 1 v (goodZ (-1) (l.take most)).length (ints (goodZ (-1) (l.take most))) ∧ Below w.heap.size w w' := by
  obtain ⟨i0, hi0, hz0, hz1, hz2⟩ := info_parts info_int
  subst hn
  unfold maxLen at hnx
  obtain ⟨L, hL⟩ : ∃ L, L = l.take most := ⟨_, rfl⟩
  have hLl : L.length = min most l.length := by rw [hL, List.length_take]
  have hget : ∀ k, k < L.length → l.getD k 0 = L.getD k 0 := fun k hk => by rw [hL, List.getD_eq_getElem?_getD, List.getD_eq_getElem?_getD, List.getElem?_take_of_lt (by omega)]
  obtain ⟨all, hall⟩ : ∃ all, all = goodZ (-1) L := ⟨_, rfl⟩
  rw [← hL, ← hall]
  have hal : all.length = L.length := by rw [hall, goodZ_length]
  have HGET := Lib.hid hget
  have HALL := Lib.hid hall
  have HAL := Lib.hid hal
  have HRL := Lib.hid hrl
  have HWL := Lib.hid hwl
  clear hall hrl hwl hL hget hal
  go_enter Try.func29, Try.ntmps29
  go_wp2
  go_loopw [5, 6, 7] (fun vo last i wr => GoodMRel all L w vo last i wr) (fun _ _ i _ => L.length - (intOf i).toNat)
  case atStart => exact ⟨[], -1, 0, by omega, rfl, rfl, rfl, by omega, by omega, by rw [HALL.out]; rfl, World.ownsRow_nil _ _ _ _, Below.refl _ _⟩
  case round =>
    obtain ⟨acc, x, k, hk, rfl, rfl, hacc, hx0, hx1, hcat, hown, hbw⟩ := hrel
    have hsz := hbw.size
    by_cases hlt : k < L.length
    · have d0 : k < l.length := by omega
      have d1 : decide ((k : Int) < (most : Int)) = true := decide_eq_true (by omega)
      have d1' : k < most := by omega
      obtain ⟨b1, o1, e1, _, hc1⟩ := row_int' (HRL.out.below hbw) d0
      subst e1
      have hbd := wf_bd (HWL.out (l.getD k 0) (by rw [List.getD_eq_getElem?_getD, List.getElem?_eq_getElem d0]; simp))
      rw [HGET.out k hlt] at hc1 hbd
      obtain ⟨g, hg, hneg, hpos⟩ := made_nat hbd
      rw [goodZ_drop hlt x hneg hpos] at hcat
      obtain ⟨y, hy⟩ : ∃ y, y = L.getD k 0 := ⟨_, rfl⟩
      rw [← hy] at hc1 hbd hneg hpos
      have HN := Lib.hid hneg
      have HP := Lib.hid hpos
      have HCAT := Lib.hid hcat
      have HOWN := Lib.hid hown
      have HA := Lib.hid hacc
      clear hneg hpos hcat hown hy hacc
      go_upto_if 25 with fail
      go_cut [8] from 24 to 28 (fun s wx => s = .int .i64 (g : Int) ∧ wr = wx)
      case first =>
        by_cases h0 : y < 0
        · have hng := HN.out h0
          go_wp2_with fail
          go_meet
          exact ⟨rfl, rfl⟩
        · have hng := HP.out h0
          subst hng
          go_wp2_with fail
          go_meet
          exact ⟨rfl, rfl⟩
      case rest =>
        obtain ⟨rfl, rfl⟩ := hcut
        clear hbd HN HP hc1
        have hm0 : 0 ≤ (g : Int) % 1000 := Int.emod_nonneg _ (by omega)
        have hm1 : (g : Int) % 1000 < 1000 := Int.emod_lt_of_pos _ (by omega)
        obtain ⟨q, hq⟩ : ∃ q, (g : Int) % 1000 = q := ⟨_, rfl⟩
        rw [hq] at HCAT hm0 hm1
        go_wp2_with (at_builtin; refine wpList_append_own _ rfl (.tmp 34) (.tmp 36) 39 rfl w.heap.size 3 i0 _ 1 8 Try.underlying39 hi0 hz0 hz1 hz2 rfl (by omega) _ k (ints acc) rfl (HOWN.out.alloc _) ⟨wr.heap.size, 0, none⟩ 1 1 [.int .i64 (x + 1 + q)] rfl rfl (news_at wr [.int .i64 (x + 1 + q)] 3) (by intro u hu; simp at hu; subst hu; rfl) (by unfold maxLen; omega) (by omega) (by simp; omega) ?_)
        intro v5 w5 hown5 hg5 _
        have hb5 : Below w.heap.size wr w5 := ((Below.refl _ wr).alloc (by omega) _).grown hg5 (by simp; omega) fun k hk => (HOWN.out.lt k hk).1
        have hfin : GoodMRel all L w v5 (.int .i64 (x + 1 + q)) (.int .i64 ((k : Int) + 1)) w5 :=
          ⟨acc ++ [x + 1 + q], x + 1 + q, k + 1, by omega, by simp, rfl, by simp [HA.out], by omega, by omega, by rw [List.append_assoc]; exact HCAT.out,
            by rw [show ints (acc ++ [x + 1 + q]) = ints acc ++ [.int .i64 (x + 1 + q)] by simp [ints]]; exact hown5, hbw.trans hb5⟩
        have HF := Lib.hid hfin
        clear hfin hb5 hg5 hown5
        go_wp2
        go_roundw
        case rel => exact HF.out
        case measure => simp [intOf]; omega
    · rw [goodZ_end (by omega), List.append_nil] at hcat
      have hown2 : wr.ownsRow w.heap.size 3 1 u5 all.length (ints all) := by rw [← hcat, hacc]; exact hown
      have HFIN : Hid (∃ v, Ending.returned u5 = Ending.returned v ∧ wr.ownsRow w.heap.size 3 1 v all.length (ints all) ∧ Below w.heap.size w wr) := Lib.hid ⟨_, rfl, hown2, hbw⟩
      have hsp : (k < l.length ∧ ¬ k < most) ∨ ¬ k < l.length := by omega
      clear hcat hown hown2 hbw hacc hlt hk
      rcases hsp with ⟨h1, h2⟩ | h1
      · have d1 : decide ((k : Int) < (most : Int)) = false := decide_eq_false (by omega)
        go_wp2
        go_ret
        exact HFIN.out
      · go_wp2
        go_ret
        exact HFIN.out

theorem goodP_drop {l : List Po} {k : Nat} (hk : k < l.length) (x : Int) {g : Nat} (hneg : (l.getD k (0, [])).1 < 0 → -((l.getD k (0, [])).1 + 1) = (g : Int)) (hpos : ¬ (l.getD k (0, [])).1 < 0 → (l.getD k (0, [])).1 = (g : Int)) :
    goodP x (l.drop k) = (x + 1 + (g : Int) % 50, if (goodZ (-1) ((l.getD k (0, [])).2.take 5)).isEmpty then [0] else goodZ (-1) ((l.getD k (0, [])).2.take 5)) :: goodP (x + 1 + (g : Int) % 50) (l.drop (k + 1)) := by
  have e : (if (l.getD k (0, [])).1 < 0 then -((l.getD k (0, [])).1 + 1) else (l.getD k (0, [])).1) = (g : Int) := by
    split
    · exact hneg (by assumption)
    · exact hpos (by assumption)
  have e2 : l[k] = l.getD k (0, []) := by rw [List.getD_eq_getElem?_getD, List.getElem?_eq_getElem hk]; rfl
  rw [List.drop_eq_getElem_cons hk, goodP, e2, e]
theorem goodP_end {l : List Po} {k : Nat} (hk : l.length ≤ k) (x : Int) : goodP x (l.drop k) = [] := by rw [List.drop_eq_nil_of_le hk]; rfl

/-- What a call gives that makes a list of postings. -/
def GavePo (l : List Po) (w : World) (e : Ending) (w' : World) : Prop := ∃ v, e = .returned v ∧ OwnPo 43 w.heap.size w' v l ∧ Below w.heap.size w w'

def GoodPRel (all : List Po) (l : List Po) (w : World) (vo last i : Value) (wr : World) : Prop :=
  ∃ (acc : List Po) (x : Int) (k : Nat), k ≤ l.length ∧ i = .int .i64 (k : Int) ∧ last = .int .i64 x ∧ acc.length = k ∧ -1 ≤ x ∧ x ≤ 50 * k ∧ acc ++ goodP x (l.drop k) = all ∧ OwnPo 43 w.heap.size wr vo acc ∧ Below w.heap.size w wr

set_option maxHeartbeats 2000000 in
set_option maxRecDepth 100000 in
theorem ref05_Good (A : Option Addr) (n d : Nat) (l : List Po) (most : Nat) (w : World) (hin : InPosts w A n d l) (hm100 : most ≤ 100) :
    Calls Try.prog 12 #[.slice A n d, .int .i64 (most : Int)] w (GavePo (goodP (-1) (l.take most)) w) := by
  obtain ⟨hnd, hdx, hn, hposts, hwf⟩ := hin
  obtain ⟨i0, hi0, hz0, hz1, hz2⟩ := info_parts info_posting
  subst hn
  unfold maxLen at hdx
  obtain ⟨L, hL⟩ : ∃ L, L = l.take most := ⟨_, rfl⟩
  have hLl : L.length = min most l.length := by rw [hL, List.length_take]
  have hget : ∀ k, k < L.length → l.getD k (0, []) = L.getD k (0, []) := fun k hk => by rw [hL, List.getD_eq_getElem?_getD, List.getD_eq_getElem?_getD, List.getElem?_take_of_lt (by omega)]
  obtain ⟨all, hall⟩ : ∃ all, all = goodP (-1) L := ⟨_, rfl⟩
  rw [← hL, ← hall]
  have HGET := Lib.hid hget
  have HALL := Lib.hid hall
  have HPO := Lib.hid hposts
  have HWF := Lib.hid hwf
  clear hall hposts hwf hL hget
  go_enter Try.func12, Try.ntmps12
  go_wp2
  go_loopw [5, 6, 7] (fun vo last i wr => GoodPRel all L w vo last i wr) (fun _ _ i _ => L.length - (intOf i).toNat)
  case atStart => exact ⟨[], -1, 0, by omega, rfl, rfl, rfl, by omega, by omega, by rw [HALL.out]; rfl, OwnPo.nil, Below.refl _ _⟩
  case round =>
    obtain ⟨acc, x, k, hk, rfl, rfl, hacc, hx0, hx1, hcat, hown, hbw⟩ := hrel
    have hsz := hbw.size
    by_cases hlt : k < L.length
    · have d0 : k < l.length := by omega
      have d1 : decide ((k : Int) < (most : Int)) = true := decide_eq_true (by omega)
      have d1' : k < most := by omega
      obtain ⟨b1, o1, e1, hb1, hc1, A2, c2, hc2, hlc, hcx, hr2⟩ := (HPO.out.below hbw).at_ d0
      subst e1
      obtain ⟨hwd, hwp⟩ := HWF.out (l.getD k (0, [])) (by rw [List.getD_eq_getElem?_getD, List.getElem?_eq_getElem d0]; simp)
      have hbd := wf_bd hwd
      rw [HGET.out k hlt] at hc1 hc2 hlc hr2 hbd hwp
      obtain ⟨g, hg, hneg, hpos⟩ := made_nat hbd
      rw [goodP_drop hlt x hneg hpos] at hcat
      obtain ⟨q, hq⟩ : ∃ q, q = L.getD k (0, []) := ⟨_, rfl⟩
      rw [← hq] at hc1 hc2 hlc hr2 hbd hwp hneg hpos hcat
      obtain ⟨y, ps⟩ := q
      simp only at hc1 hc2 hlc hr2 hbd hwp hneg hpos hcat
      obtain ⟨gz, hgz⟩ : ∃ gz, gz = goodZ (-1) (ps.take 5) := ⟨_, rfl⟩
      obtain ⟨fp, hfp⟩ : ∃ fp, fp = (if gz.isEmpty then [0] else gz) := ⟨_, rfl⟩
      rw [← hgz, ← hfp] at hcat
      have hgl : gz.length ≤ 5 := by rw [hgz, goodZ_length]; exact List.length_take_le _ _
      have gm := ref04_GoodM A2 ps.length c2 ps 5 wr rfl (by omega) (by omega) (hr2.more hsz) hwp
      rw [← hgz] at gm
      have GM := Lib.hid gm
      have HFP := Lib.hid hfp
      have HN := Lib.hid hneg
      have HP := Lib.hid hpos
      have HCAT := Lib.hid hcat
      have HOWN := Lib.hid hown
      have HA := Lib.hid hacc
      clear hneg hpos hcat hown hq hacc gm hgz hfp hwp hr2 hwd
      go_upto_if 27 with fail
      go_cut [8] from 26 to 30 (fun s wx => s = .int .i64 (g : Int) ∧ wr = wx)
      case first =>
        by_cases h0 : y < 0
        · have hng := HN.out h0
          go_wp2_with fail
          go_meet
          exact ⟨rfl, rfl⟩
        · have hng := HP.out h0
          subst hng
          go_wp2_with fail
          go_meet
          exact ⟨rfl, rfl⟩
      case rest =>
        obtain ⟨rfl, rfl⟩ := hcut
        clear hbd HN HP
        have hm0 : 0 ≤ (g : Int) % 50 := Int.emod_nonneg _ (by omega)
        have hm1 : (g : Int) % 50 < 50 := Int.emod_lt_of_pos _ (by omega)
        obtain ⟨q, hq⟩ : ∃ q, (g : Int) % 50 = q := ⟨_, rfl⟩
        rw [hq] at HCAT hm0 hm1
        go_wp2_with (go_at_call 29; refine GM.out.mono ?_)
        rintro e w3 ⟨v3, rfl, hown3, hb3⟩
        obtain ⟨A3, c3, rfl, hc3, hr3⟩ := owned_row hown3
        have hcx3 : c3 ≤ maxLen := by
          rcases hown3.2 with ⟨h, _⟩ | ⟨_, cap, _, h, _, _, _, h4, _⟩
          · injection h with _ _ h; omega
          · injection h with _ _ h; rw [h]; exact h4
        have HO3 := Lib.hid hown3
        have hs3 := hb3.size
        have HB3 := Lib.hid hb3
        have HOW3 := Lib.hid (HOWN.out.below hb3)
        clear hown3 hb3 hr3
        go_upto_if 44 with fail
        go_cut [9] from 42 to 45 (fun s wx => ∃ A4 c4, s = .slice A4 fp.length c4 ∧ fp.length ≤ c4 ∧ c4 ≤ maxLen ∧ RowS w.heap.size wx A4 (ints fp) ∧ Below wr.heap.size wr wx ∧ OwnPo 43 w.heap.size wx u5 acc)
        case first =>
          by_cases hz : gz = []
          · have hf : fp = [0] := by rw [HFP.out, hz]; rfl
            have hl0 : ((gz.length : Int) == 0) = true := by rw [hz]; rfl
            have HF := Lib.hid hf
            clear hf hz
            go_wp2_with fail
            go_meet
            rw [HF.out]
            refine ⟨_, _, rfl, by simp, by unfold maxLen; omega, .inr ⟨_, _, rfl, ⟨by simp, .inr ⟨_, _, heap_alloc_new _ _⟩⟩, fun j u hu => ?_⟩, HB3.out.alloc hs3 _, HOW3.out.below ((Below.refl _ _).alloc (Nat.le_refl _) _)⟩
            have := news_at w3 (ints [0]) 3 j u hu
            rwa [Addr.add_lit] at this
          · have hf : fp = gz := by rw [HFP.out, if_neg (by simpa using hz)]
            have hl0 : ((gz.length : Int) == 0) = false := by
              rw [beq_eq_false_iff_ne]
              have := List.length_pos_iff.2 hz
              omega
            have HF := Lib.hid hf
            clear hf hz
            go_wp2_with fail
            go_meet
            rw [HF.out]
            exact ⟨_, _, rfl, hc3, hcx3, RowS.of_own HO3.out, HB3.out, HOW3.out⟩
        case rest =>
          obtain ⟨A4, c4, rfl, hc4, hcx4, hr4, hb4, hown4⟩ := hcut
          obtain ⟨cs, hcs1, hcs2⟩ := hown4
          have hs4 := hb4.size
          have hb4' := hbw.trans (hb4.mono hsz)
          rw [HA.out] at hcs1
          obtain ⟨F, hF⟩ : ∃ F, F = fp.length := ⟨_, rfl⟩
          rw [← hF] at hc4
          rw [← hF]
          have HFL := Lib.hid hF
          have HC1 := Lib.hid hcs1
          have HC2 := Lib.hid hcs2
          have HR4 := Lib.hid hr4
          have HB4 := Lib.hid hb4'
          have hs4' := hb4'.size
          clear hF hcs1 hcs2 hr4 hb4 hb4' HFP GM HO3 HOW3 HB3
          go_wp2_with (at_builtin; refine wpList_append_own _ rfl (.tmp 46) (.tmp 50) 22 rfl w.heap.size 43 i0 _ 2 32 Try.underlying22 hi0 hz0 hz1 hz2 rfl (by omega) _ k cs rfl (HC1.out.alloc _) ⟨wc.heap.size, 0, none⟩ 1 1 [.int .i64 (x + 1 + q), .slice A4 F c4] rfl rfl (news_at wc [.int .i64 (x + 1 + q), .slice A4 F c4] 43) (by intro u hu; simp at hu; rcases hu with hu | hu <;> (subst hu; rfl)) (by unfold maxLen; omega) (by omega) (by simp; omega) ?_)
          intro v5 w5 hown5 hg5 _
          have hal := (Below.refl wc.heap.size wc).alloc (Nat.le_refl _) (.cells #[.int .i64 (x + 1 + q), .slice A4 F c4] 43)
          have hb5 : Below w.heap.size wc w5 := ((Below.refl _ wc).alloc hs4' _).grown hg5 (by simp; omega) fun k hk => (HC1.out.lt k hk).1
          have hpush : OwnPo 43 w.heap.size w5 v5 (acc ++ [(x + 1 + q, fp)]) :=
            OwnPo.push (c := c4) (A := A4) (cs := cs) (by decide) (by rw [HA.out]; exact HC1.out.alloc _) (HC2.out.imp fun _ _ h => h.below hal) (by rw [← HFL.out]; exact hc4) hcx4 (HR4.out.below hal) (by rw [HA.out, ← HFL.out]; exact hown5) hg5
          have hfin : GoodPRel all L w v5 (.int .i64 (x + 1 + q)) (.int .i64 ((k : Int) + 1)) w5 :=
            ⟨acc ++ [(x + 1 + q, fp)], x + 1 + q, k + 1, by omega, by simp, rfl, by simp [HA.out], by omega, by omega, by rw [List.append_assoc]; exact HCAT.out, hpush, HB4.out.trans hb5⟩
          have HF := Lib.hid hfin
          clear hfin hb5 hg5 hown5 hpush hal
          go_wp2
          go_roundw
          case rel => exact HF.out
          case measure => simp [intOf]; omega
    · rw [goodP_end (by omega), List.append_nil] at hcat
      have HFIN : Hid (∃ v, Ending.returned u5 = Ending.returned v ∧ OwnPo 43 w.heap.size wr v all ∧ Below w.heap.size w wr) := Lib.hid ⟨_, rfl, by rw [← hcat]; exact hown, hbw⟩
      have hsp : (k < l.length ∧ ¬ k < most) ∨ ¬ k < l.length := by omega
      clear hcat hown hbw hacc hlt hk
      rcases hsp with ⟨h1, h2⟩ | h1
      · have d1 : decide ((k : Int) < (most : Int)) = false := decide_eq_false (by omega)
        go_wp2
        go_ret
        exact HFIN.out
      · go_wp2
        go_ret
        exact HFIN.out
end Go.Proofs.Ytfhjnblcnkjooaa
