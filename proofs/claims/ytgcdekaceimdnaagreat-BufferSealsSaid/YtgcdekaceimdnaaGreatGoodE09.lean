/- What the document's Good answers: entries made of any documents, whose numbers rise. -/
import Derived.Test.YtgcdekaceimdnaaGreatQ07
import Derived.Test.YtgcdekaceimdnaaGreatGood08
import Derived.Deep.AppendLies
namespace Go.Proofs.YtgcdekaceimdnaaGreat
open Go Go.RowKit
set_option linter.unusedVariables false

theorem owned_lift {w : World} {b : Nat} {e : TypeId} {size : Nat} {v : Value} {n : Nat} {xs : List Value} (h : w.ownsRow 0 e size v n xs) (hv : ∀ k, v.ownBlock = some k → b ≤ k) : w.ownsRow b e size v n xs := by
  refine ⟨h.1, ?_⟩
  rcases h.2 with h1 | ⟨g, cap, cur, h1, h2, h3⟩
  · exact .inl h1
  · exact .inr ⟨g, cap, cur, h1, hv g (by rw [h1]; rfl), h3⟩
/-- Entries in memory of the call's own. -/
def GaveEn (l : List En) (w : World) (e : Ending) (w' : World) : Prop := ∃ v, e = .returned v ∧ OwnES (fun k => w.heap.size ≤ k) w' v l ∧ Below w.heap.size w w'
def GoodERel (l : List Dc) (start step : Int) (w : World) (o i : Value) (wr : World) : Prop := ∃ (k : Nat) (vo : Value), vo = o ∧ k ≤ l.length ∧ i = .int .i64 (k : Int) ∧ OwnES (fun k => w.heap.size ≤ k) wr vo (goodsE l k start step) ∧ Below w.heap.size w wr
set_option maxHeartbeats 2000000 in
set_option maxRecDepth 100000 in
theorem ref09_Good (A : Option Addr) (n c : Nat) (l : List Dc) (most : Nat) (start step : Int) (w : World) (hl : l.length = n) (hr : Nest docS w w.heap.size A l) (hn : n ≤ 9223372036854775807) (hm : most ≤ 100) (hst : 0 ≤ start ∧ start ≤ 1000) (hsp : 0 ≤ step ∧ step ≤ 1000)
    (hf : ∀ q ∈ l, ∀ f ∈ q.2, f.1.length ≤ 9223372036854775807 ∧ f.2.length ≤ 9223372036854775807) :
    Calls Tryz.prog 16 #[.slice A n c, .int .i64 (most : Int), .int .i64 start, .int .i64 step] w (GaveEn (goodsE l most start step) w) := by
  obtain ⟨t0, hi0, hz0, hz1, hz2⟩ := info_parts info_entry
  have HR := Lib.hid hr
  have HF := Lib.hid hf
  have HL := Lib.hid hl
  obtain ⟨q1, q2⟩ := hst
  obtain ⟨q3, q4⟩ := hsp
  clear hr hf hl
  go_enter Tryz.func16, Tryz.ntmps16
  go_wp2
  go_loopw [9, 10] (fun o i wr => (GoodERel l start step w o i wr ∧ (intOf i) ≤ most)) (fun _ i _ => n - (intOf i).toNat)
  case atStart => exact ⟨⟨0, _, rfl, Nat.zero_le _, rfl, OwnES.nil, Below.refl _ _⟩, by simp [intOf]⟩
  case round =>
    obtain ⟨⟨k, vo, rfl, hk, rfl, hown, hbw⟩, hkm⟩ := hrel
    obtain ⟨wo, rfl⟩ : ∃ wo, wo = wr := ⟨_, rfl⟩
    have hkm' : k ≤ most := by simpa [intOf] using hkm
    clear hkm
    by_cases hlt : k < n ∧ k < most
    · obtain ⟨hkn, hkm2⟩ := hlt
      have hkl : k < l.length := by rw [HL.out]; exact hkn
      obtain ⟨b, off, A', c', e1, hb, g1, g2, hc1, hc2, hfr⟩ := docS_at (Nest.later HR.out hbw) hkl
      subst e1
      have hq := HF.out _ (List.getElem_mem hkl)
      have hsn := goodsE_take (start := start) (step := step) hkl
      have HC := Lib.hid (ref08_Good l[k].1 A' l[k].2.length c' l[k].2 wo rfl hfr (by unfold maxLen at hc2; omega) hq)
      obtain ⟨N, hN⟩ : ∃ N, N = l[k].2.length := ⟨_, rfl⟩
      obtain ⟨q, hq1⟩ : ∃ q, q = l[k].1 := ⟨_, rfl⟩
      obtain ⟨g, hg⟩ : ∃ g, g = goodD l[k].2 := ⟨_, rfl⟩
      have hgl : g.length ≤ 4 := by rw [hg]; exact Nat.le_trans (goodUp_length _ _) (by omega)
      rw [← hN, ← hq1, ← hg] at HC
      rw [← hN] at g2
      rw [← hq1] at g1
      rw [← hq1, ← hg] at hsn
      have hnum : step * (k : Int) ≤ 100000 ∧ 0 ≤ step * (k : Int) := by
        refine ⟨?_, Int.mul_nonneg q3 (by omega)⟩
        have h1 : step * (k : Int) ≤ 1000 * (k : Int) := Int.mul_le_mul_of_nonneg_right q4 (by omega)
        omega
      obtain ⟨z, hz⟩ : ∃ z, z = step * (k : Int) := ⟨_, rfl⟩
      rw [← hz] at hnum hsn
      obtain ⟨z0, z1⟩ := hnum
      obtain ⟨S, hS⟩ : ∃ S, S = start + z := ⟨_, rfl⟩
      rw [← hS] at hsn
      have hww : IntKind.i64.wrap (start + z) = S := by rw [hS]; exact IntWalk.i64_in _ (by omega)
      have hwz : IntKind.i64.wrap (step * (k : Int)) = z := by rw [← hz]; exact IntWalk.i64_in _ (by omega)
      have hlen := goodsE_length l k start step
      rw [Nat.min_eq_left hk] at hlen
      obtain ⟨cs, hcs0, hcsS, hcs2⟩ := hown
      have hcs1 := owned_lift hcs0 hcsS
      clear hcs0 hcsS
      obtain ⟨G, hG⟩ : ∃ G, G = goodsE l k start step := ⟨_, rfl⟩
      rw [← hG] at hcs1 hcs2 hsn hlen
      have HSN := Lib.hid hsn
      have HC1 := Lib.hid hcs1
      have HC2 := Lib.hid hcs2
      have HBW := Lib.hid hbw
      have HLN := Lib.hid hlen
      have p0 : (0 : Int) ≤ k := by omega
      have p1 : (k : Int) < n := by omega
      have p2 : (k : Int) < most := by omega
      have hsz := hbw.size
      clear hfr hq hN hq1 hg hz hS hsn hcs1 hcs2 hG hlen hc1 hc2 hbw hb
      go_wp2_with (first
        | (go_at_call 11; (with_reducible refine HC.out.mono ?_); rintro e w3 ⟨v3, rfl, ho3, hb3⟩
           obtain ⟨A3, c3, rfl, hr3⟩ := owned_roomed ho3
           have HO3 := Lib.hid ho3
           have HB3 := Lib.hid hb3
           have HR3 := Lib.hid hr3
           have hs3 : w.heap.size ≤ w3.heap.size := Nat.le_trans hsz hb3.size
           clear ho3 hb3 hr3)
        | (at_builtin; refine wpList_append_own _ rfl (.tmp 22) (.tmp 34) 25 rfl w.heap.size 37 t0 _ 3 40 Tryz.underlying25 hi0 hz0 hz1 hz2 rfl (by omega) vo G.length cs rfl ((owned_below HC1.out HB3.out).alloc _) ⟨_, 0, none⟩ 1 1 [.int .i64 q, .slice A3 g.length c3, .int .i64 S] rfl rfl (news_at _ [.int .i64 q, .slice A3 g.length c3, .int .i64 S] 37) (by intro u hu; simp at hu; rcases hu with rfl | rfl | rfl <;> rfl) (by have := HLN.out; unfold maxLen; omega) (by have := HLN.out; omega) (by simp; omega) ?_
           intro v5 w5 hown5 hg5 _))
      have hal : Below w3.heap.size w3 (w3.alloc (.cells #[.int .i64 q, .slice A3 g.length c3, .int .i64 S] 37)) := (Below.refl _ _).alloc (Nat.le_refl _) _
      have hb5 : Below w.heap.size (w3.alloc (.cells #[.int .i64 q, .slice A3 g.length c3, .int .i64 S] 37)) w5 := (Below.refl _ _).grown hg5 (by simp; omega) fun j hj => (HC1.out.lt j hj).1
      have HB5 := Lib.hid (HBW.out.trans ((HB3.out.mono hsz).trans ((hal.mono hs3).trans hb5)))
      have hpush := OwnES.push (S := fun k => w.heap.size ≤ k) (l := G) (q := (q, g, S)) (c := c3) (A := A3) (cs := cs) (owned_low ((owned_below HC1.out HB3.out).alloc _) (Nat.zero_le _)) (HC2.out.imp fun _ _ h => h.keepO fun k hk => (HB3.out.trans (hal.mono HB3.out.size)).block k hk.lt) HR3.out.1.1 HR3.out.1.2 ((RowF.of_own HO3.out fun k h1 _ => Nat.le_trans hsz h1).keepO fun k hk => hal.block k hk.lt) (owned_low hown5 (Nat.zero_le _)) hg5 fun k hk => (hown5.lt k hk).1
      rw [← HSN.out] at hpush
      have HPU := Lib.hid hpush
      clear hal hb5 hpush hown5 hg5
      go_wp2
      refine ⟨⟨⟨k + 1, _, rfl, hkl, by go_num, HPU.out, HB5.out⟩, ?_⟩, by simp [intOf]; omega⟩
      simp [intOf]
      omega
    · have hfin : goodsE l k start step = goodsE l most start step := by
        unfold goodsE
        by_cases h : k = most
        · rw [h]
        · have := HL.out
          rw [List.take_of_length_le (by omega), List.take_of_length_le (by omega)]
      rw [hfin] at hown
      have HO := Lib.hid hown
      have HBW := Lib.hid hbw
      have h1 : (n : Int) ≤ k ∨ (k : Int) < n ∧ (most : Int) ≤ k := by omega
      clear hlt hfin hown hbw
      rcases h1 with h1 | ⟨h1, h2⟩
      all_goals
        go_wp2
        go_ret
        exact ⟨_, rfl, HO.out, HBW.out⟩
end Go.Proofs.YtgcdekaceimdnaaGreat
