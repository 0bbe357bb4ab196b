/- What the statements' own 'few' of layer 5 answers: the first ten postings, of each the first ten places. -/
import Derived.Test.YtfhjnblcnkjooaaGood05
import Derived.Deep.RegionHeld3
import Derived.Deep.AppendLies
namespace Go.Proofs.Ytfhjnblcnkjooaa
open Go Go.RowKit
set_option linter.unusedVariables false

def fewP (l : List Po) : List Po := (l.take 10).map fun p => (p.1, p.2.take 10)
theorem fewP_snoc {l : List Po} {k : Nat} (hk : k < l.length) (h10 : k < 10) : (l.take (k + 1)).map (fun p => (p.1, p.2.take 10)) = (l.take k).map (fun p => (p.1, p.2.take 10)) ++ [((l.getD k (0, [])).1, (l.getD k (0, [])).2.take 10)] := by
  rw [List.take_succ_eq_append_getElem hk, List.map_append, List.getD_eq_getElem?_getD, List.getElem?_eq_getElem hk]
  rfl
theorem RowS.cut {base : Nat} {w : World} {A : Option Addr} {xs : List Int} (h : RowS base w A (ints xs)) (k : Nat) : RowS base w A (ints (xs.take k)) := by
  rcases h with h | ⟨b, off, rfl, hb, hc⟩
  · refine .inl ?_
    have : xs = [] := by simpa [ints] using h
    simp [this, ints]
  · refine .inr ⟨b, off, rfl, hb, fun j u hu => hc j u ?_⟩
    rw [show ints (xs.take k) = (ints xs).take k by simp [ints, List.map_take], List.getElem?_take] at hu
    split at hu
    · exact hu
    · cases hu

def FewRel (l : List Po) (w : World) (vo i : Value) (wr : World) : Prop :=
  ∃ k : Nat, k ≤ l.length ∧ k ≤ 10 ∧ i = .int .i64 (k : Int) ∧ OwnPo 43 w.heap.size wr vo ((l.take k).map fun p => (p.1, p.2.take 10)) ∧ Below w.heap.size w wr

set_option maxHeartbeats 2000000 in
set_option maxRecDepth 100000 in
theorem law05_few (A : Option Addr) (n d : Nat) (l : List Po) (w : World) (hin : InPosts w A n d l) :
    Calls Try.prog 8 #[.slice A n d] w (GavePo (fewP l) w) := by
  obtain ⟨hnd, hdx, hn, hposts, hwf⟩ := hin
  obtain ⟨i0, hi0, hz0, hz1, hz2⟩ := info_parts info_posting
  subst hn
  unfold maxLen at hdx
  have HPO := Lib.hid hposts
  clear hposts hwf
  go_enter Try.func8, Try.ntmps8
  go_wp2
  go_loopw [3, 4] (fun vo i wr => FewRel l w vo i wr) (fun _ i _ => 10 - (intOf i).toNat)
  case atStart => exact ⟨0, by omega, by omega, rfl, OwnPo.nil, Below.refl _ _⟩
  case round =>
    obtain ⟨k, hk, hk10, rfl, hown, hbw⟩ := hrel
    have hsz := hbw.size
    by_cases hlt : k < l.length ∧ k < 10
    · obtain ⟨hkl, h10⟩ := hlt
      have d1 : decide ((k : Int) < 10) = true := decide_eq_true (by omega)
      obtain ⟨b1, o1, e1, hb1, hc1, A2, c2, hc2, hlc, hcx, hr2⟩ := (HPO.out.below hbw).at_ hkl
      subst e1
      have hsn := fewP_snoc hkl h10
      obtain ⟨q, hq⟩ : ∃ q, q = l.getD k (0, []) := ⟨_, rfl⟩
      rw [← hq] at hc1 hc2 hlc hr2 hsn
      obtain ⟨y, ps⟩ := q
      simp only at hc1 hc2 hlc hr2 hsn
      obtain ⟨cs, hcs1, hcs2⟩ := hown
      rw [show ((l.take k).map fun p => (p.1, p.2.take 10)).length = k by rw [List.length_map, List.length_take]; omega] at hcs1
      have hrs := (RowS.of_old hr2 hsz).cut 10
      obtain ⟨P, hP⟩ : ∃ P, P = ps.length := ⟨_, rfl⟩
      rw [← hP] at hc2 hlc
      obtain ⟨mm, hmm⟩ : ∃ mm : Nat, (if (10 : Int) < (P : Int) then (10 : Int) else (P : Int)) = (mm : Int) := by
        split
        · exact ⟨10, rfl⟩
        · exact ⟨P, rfl⟩
      have hm1 : mm ≤ P ∧ mm = (ps.take 10).length := by rw [List.length_take, ← hP]; split at hmm <;> omega
      have hm2 : mm ≤ P := hm1.1
      have hm3 : mm ≤ c2 := by omega
      have HM := Lib.hid hm1.2
      unfold maxLen at hcx
      have HC1 := Lib.hid hcs1
      have HC2 := Lib.hid hcs2
      have HRS := Lib.hid hrs
      have HSN := Lib.hid hsn
      have HSS : Hid (∀ w', Below w.heap.size wr w' → w'.cell? ⟨b1, o1 + k * 2, none⟩ = some (.int .i64 y) ∧ w'.cell? ⟨b1, o1 + k * 2 + 1, none⟩ = some (.slice A2 P c2)) := Lib.hid fun w' h =>
        ⟨(h.cell (p := ⟨b1, o1 + k * 2, none⟩) hb1).trans hc1, (h.cell (p := ⟨b1, o1 + k * 2 + 1, none⟩) hb1).trans hc2⟩
      have hal := ((Below.refl wr.heap.size wr).alloc (Nat.le_refl _) (.cells #[.int .i64 y, .slice A2 mm c2] 43)).drew
      have HAL := Lib.hid hal
      clear hm1 hq hr2 hcs1 hcs2 hrs hsn hP hal
      go_wp2
      go_region_held3 (fun w' => w'.cell? ⟨b1, o1 + k * 2, none⟩ = some (.int .i64 y) ∧ w'.cell? ⟨b1, o1 + k * 2 + 1, none⟩ = some (.slice A2 P c2))
        (first | exact HSS.out _ (Below.refl _ _).drew | exact HSS.out _ ((Below.refl _ _).drew.alloc hsz _) | exact HSS.out _ HB5.out)
        (first
          | (refine step_append_lies _ (by rfl) _ _ _ (by rfl) w.heap.size 43 i0 _ 2 32 Try.underlying22 hi0 hz0 hz1 hz2 rfl (by omega) _ k cs (by rfl) ((HC1.out.alloc _).drew)
              ⟨wr.heap.size, 0, none⟩ 1 1 [.int .i64 y, .slice A2 mm c2] (by rfl) (by rfl) (World.news_of_block (cs := #[.int .i64 y, .slice A2 mm c2]) (t := 43) (fr := (0, 0)) (heap_alloc_new wr.drew _)) (by intro u hu; simp at hu; rcases hu with hu | hu <;> (subst hu; rfl))
              (by omega) (by unfold maxLen; omega) (by omega) (by simp; omega) (wr.heap.size + 1) (by simp) ?_
             intro gg cap w5 hown5 hg5 hat hlt5
             have hb5 : Below w.heap.size wr w5 := ((Below.refl _ wr).drew.alloc hsz _).grown hg5 (by simp; omega) fun k hk => (HC1.out.lt k hk).1
             have HB5 := Lib.hid hb5))
      have hpush : OwnPo 43 w.heap.size w5 (.slice (some ⟨gg, 0, none⟩) (k + 1) cap) (((l.take k).map fun p => (p.1, p.2.take 10)) ++ [(y, ps.take 10)]) := by
        have hlen : ((l.take k).map fun p => (p.1, p.2.take 10)).length = k := by rw [List.length_map, List.length_take]; omega
        exact OwnPo.push (c := c2) (A := A2) (cs := cs) (by decide) (by rw [hlen]; exact (HC1.out.alloc _).drew) (HC2.out.imp fun _ _ h => h.below HAL.out) (by rw [← HM.out]; exact hm3) (by unfold maxLen; omega) (HRS.out.below HAL.out) (by rw [hlen, ← HM.out]; exact hown5) hg5
      rw [← HSN.out] at hpush
      have hfin : FewRel l w (.slice (some ⟨gg, 0, none⟩) (k + 1) cap) (.int .i64 ((k : Int) + 1)) w5 := ⟨k + 1, by omega, by omega, by simp, hpush, hbw.trans HB5.out⟩
      have HF := Lib.hid hfin
      clear hfin hpush hown5 hg5
      go_wp2
      go_roundw
      case rel => exact HF.out
      case measure => simp [intOf]; omega
    · have hfin : OwnPo 43 w.heap.size wr u3 (fewP l) := by
        have e : l.take k = l.take 10 := by
          by_cases h : k = 10
          · rw [h]
          · rw [List.take_of_length_le (by omega), List.take_of_length_le (by omega)]
        unfold fewP
        rw [← e]
        exact hown
      have HFIN : Hid (∃ v, Ending.returned u3 = Ending.returned v ∧ OwnPo 43 w.heap.size wr v (fewP l) ∧ Below w.heap.size w wr) := Lib.hid ⟨_, rfl, hfin, hbw⟩
      have hsp : (k < l.length ∧ ¬ k < 10) ∨ ¬ k < l.length := by omega
      clear hfin hown hbw hlt hk
      rcases hsp with ⟨h1, h2⟩ | h1
      · have d1 : decide ((k : Int) < 10) = false := decide_eq_false (by omega)
        go_wp2
        go_ret
        exact HFIN.out
      · go_wp2
        go_ret
        exact HFIN.out
end Go.Proofs.Ytfhjnblcnkjooaa
