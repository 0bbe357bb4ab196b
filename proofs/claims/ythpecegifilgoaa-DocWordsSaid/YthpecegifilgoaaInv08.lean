/- What Invert answers: a document's terms, rising, and at each its places. -/
import Derived.Test.YthpecegifilgoaaQ13
import Derived.Test.YthpecegifilgoaaQ14
import Derived.Lib.AppendZerosOnto
import Derived.Lib.AppendZeros
set_option linter.unusedVariables false
namespace Go.Proofs.Ythpecegifilgoaa
open Go Go.RowKit

theorem info_ints : (Try.prog.info? 45).map (fun i => (i.zero, i.size, i.bytes)) = some (some (.slice none 0 0), 1, 24) := by kernel_rfl
/-- Lists of numbers of the call's own. -/
def OwnII (base base' : Nat) (w : World) (v : Value) (ll : List (List Int)) : Prop := ∃ cs : List Value, w.ownsRow base 45 1 v ll.length cs ∧ cs.length = ll.length ∧ ∀ (i : Nat) (c : Value) (l : List Int), cs[i]? = some c → ll[i]? = some l → OwnI base' w c l
theorem OwnII.below {base base' : Nat} {w w' : World} {v : Value} {ll : List (List Int)} (h : OwnII base base' w v ll) (hb : Below w.heap.size w w') : OwnII base base' w' v ll := by
  obtain ⟨cs, h1, h2, h3⟩ := h
  exact ⟨cs, owned_below h1 hb, h2, fun i c l hc hl => owned_below (h3 i c l hc hl) hb⟩
theorem OwnII.low {base base' b : Nat} {w : World} {v : Value} {ll : List (List Int)} (h : OwnII base base' w v ll) (hb : b ≤ base) (hb' : b ≤ base') : OwnII b b w v ll := by
  obtain ⟨cs, h1, h2, h3⟩ := h
  exact ⟨cs, owned_low h1 hb, h2, fun i c l hc hl => owned_low (h3 i c l hc hl) hb'⟩
theorem OwnII.push {base base' : Nat} {w w' : World} {v v' u : Value} {ll : List (List Int)} {l : List Int} {cs : List Value} (h1 : w.ownsRow base 45 1 v ll.length cs) (h2 : cs.length = ll.length) (h3 : ∀ (i : Nat) (c : Value) (l : List Int), cs[i]? = some c → ll[i]? = some l → OwnI base' w c l) (hu : OwnI base' w u l)
    (hown : w'.ownsRow base 45 1 v' (ll.length + 1) (cs ++ [u])) (hg : w.grownBy w' v.ownBlock) : OwnII base base' w' v' (ll ++ [l]) := by
  have hk : ∀ (c : Value) (l : List Int), OwnI base' w c l → OwnI base' w' c l := fun c l ho => ho.kept hg (owned_other ho h1 (by decide))
  refine ⟨cs ++ [u], by rw [List.length_append, List.length_singleton]; exact hown, by simp [h2], fun i c l' hc hl => ?_⟩
  by_cases hi : i < cs.length
  · rw [List.getElem?_append_left hi] at hc
    rw [List.getElem?_append_left (by omega)] at hl
    exact hk _ _ (h3 i c l' hc hl)
  · rw [List.getElem?_append_right (by omega)] at hc hl
    have hz : i - cs.length = 0 := by
      by_cases hz : i - cs.length = 0
      · exact hz
      · rw [List.getElem?_eq_none (by simp; omega)] at hc; cases hc
    rw [hz] at hc
    rw [show i - ll.length = 0 by omega] at hl
    cases hc
    cases hl
    exact hk _ _ hu
/-- Lists of numbers behind an address, all of it below block B. -/
def IRows (w : World) (B : Nat) (A : Option Addr) (ll : List (List Int)) : Prop := ∃ cs : List Value, cs.length = ll.length ∧ Row w B A cs ∧ ∀ (i : Nat) (c : Value) (l : List Int), cs[i]? = some c → ll[i]? = some l → ∃ A' c', c = .slice A' l.length c' ∧ l.length ≤ c' ∧ Row w B A' (ints l)
theorem OwnII.rows {base base' : Nat} {w : World} {v : Value} {ll : List (List Int)} (h : OwnII base base' w v ll) : ∃ A c, v = .slice A ll.length c ∧ ll.length ≤ c ∧ IRows w w.heap.size A ll := by
  obtain ⟨cs, h1, h2, h3⟩ := h
  obtain ⟨A, c, rfl, hc, hr⟩ := owned_row h1
  exact ⟨A, c, rfl, hc, cs, h2, hr, fun i c l hc hl => owned_row (h3 i c l hc hl)⟩
theorem IRows.below {w w' : World} {B : Nat} {A : Option Addr} {ll : List (List Int)} (h : IRows w B A ll) (hb : Below B w w') : IRows w' B A ll := by
  obtain ⟨cs, h1, h2, h3⟩ := h
  exact ⟨cs, h1, h2.below hb, fun i c l hc hl => by obtain ⟨A', c', g1, g2, g3⟩ := h3 i c l hc hl; exact ⟨A', c', g1, g2, g3.below hb⟩⟩
theorem IRows.at_ {w : World} {B : Nat} {A : Option Addr} {ll : List (List Int)} (h : IRows w B A ll) {k : Nat} (hk : k < ll.length) :
    ∃ b off A' c', A = some ⟨b, off, none⟩ ∧ b < B ∧ w.cell? ⟨b, off + k, none⟩ = some (.slice A' ll[k].length c') ∧ ll[k].length ≤ c' ∧ Row w B A' (ints ll[k]) := by
  obtain ⟨cs, h1, h2, h3⟩ := h
  obtain ⟨b, off, rfl, hb, hc⟩ := Row.at_ h2 (by omega)
  obtain ⟨A', c', g1, g2, g3⟩ := h3 k cs[k] ll[k] (List.getElem?_eq_getElem (by omega)) (List.getElem?_eq_getElem hk)
  have := hc k cs[k] (List.getElem?_eq_getElem (by omega))
  rw [g1] at this
  exact ⟨b, off, A', c', rfl, hb, this, g2, g3⟩

/-- What Invert gives: terms, and lists of numbers. -/
def GotInv (ts : List Tm) (ll : List (List Int)) (w : World) (e : Ending) (w' : World) : Prop := ∃ v1 v2, e = .returned (.tuple #[v1, v2]) ∧ OwnTm w.heap.size w' v1 ts ∧ OwnII w.heap.size w.heap.size w' v2 ll ∧ Below w.heap.size w w'
def InvRel (g : List Gr) (ts : List Tm) (base base' : Nat) (w6 : World) (o i : Value) (wr : World) : Prop := ∃ (k : Nat) (vo : Value), vo = o ∧ k ≤ ts.length ∧ i = .int .i64 (k : Int) ∧ OwnII base base' wr o ((ts.take k).map (getG g)) ∧ Below w6.heap.size w6 wr

theorem GrAt.keys {base : Nat} {w : World} {B : Nat} {g : List Gr} (h : GrAt base w B g) : ∃ m, MapAt w B m ∧ m.map (·.1) = g.map (·.1) ∧ m.length = g.length := by
  obtain ⟨m, h1, _, h3, h4, _⟩ := h
  refine ⟨m, h1, List.ext_getElem (by simp [h3]) fun i hi hj => ?_, h3⟩
  have hi' : i < m.length := by simpa using hi
  have hj' : i < g.length := by simpa using hj
  simpa using (h4 i _ _ (List.getElem?_eq_getElem hi') (List.getElem?_eq_getElem hj')).1

theorem addG_length (t : Tm) (a : Int) : ∀ g : List Gr, (addG g t a).length ≤ g.length + 1
  | [] => Nat.le_refl _
  | p :: g => by
    have := addG_length t a g
    rw [addG]
    split
    · simp
    · simp only [List.length_cons]; omega
theorem groupsF_length : ∀ (s : List (Tm × Int)) (g : List Gr), (s.foldl (fun g p => addG g p.1 p.2) g).length ≤ g.length + s.length
  | [], g => Nat.le_refl _
  | p :: s, g => by
    have h1 := groupsF_length s (addG g p.1 p.2)
    have h2 := addG_length p.1 p.2 g
    rw [List.foldl_cons, List.length_cons]
    omega
theorem groupsT_length (s : List (Tm × Int)) : (groupsT s).length ≤ s.length := by have := groupsF_length s []; simpa [groupsT] using this
theorem groupsT_short {l : List Fd} (ht : ∀ f ∈ l, f.1.length ≤ 536870912 ∧ f.2.length ≤ 134217728) : ∀ t ∈ (groupsT (tellD l)).map (·.1), t.1.length ≤ 536870912 ∧ t.2.length ≤ 536870912 := fun t h => by
  obtain ⟨f, hf, h1, h2⟩ := (tellD_mem t l).1 ((groups_mem _ _).1 h)
  obtain ⟨g1, g2⟩ := ht f hf
  have := words_size h2
  exact ⟨by rw [h1]; exact g1, by omega⟩

set_option maxHeartbeats 4000000 in
set_option maxRecDepth 100000 in
theorem doc_Invert (id : Int) (A : Option Addr) (n c : Nat) (l : List Fd) (w : World) (hl : l.length = n) (hr : FRow w w.heap.size A l) (hn : n ≤ 100) (ht : ∀ f ∈ l, f.1.length ≤ 536870912 ∧ f.2.length ≤ 134217728) (hw : ∀ f ∈ l, (words f.2).length ≤ 1048576) (hap : ApartF l) (h0 : NoZero l) :
    Calls Try.prog 21 #[docV id A n c] w (GotInv (termsD l) ((termsD l).map (placesD l)) w) := by
  obtain ⟨i0, hi0, hz0, hz1, hz2⟩ := info_parts info_ints
  have HS := Lib.hid (fun w' (h : Below w.heap.size w w') => doc_stands id A n c l w' hl (hr.later h) hn (fun f hf => by have := (ht f hf).2; omega) hw)
  have hlen := tellD_len (M := 1048576) l hw
  have hlen2 : (tellD l).length ≤ 104857600 := Nat.le_trans hlen (Nat.le_trans (Nat.mul_le_mul_right _ (by omega : l.length ≤ 100)) (by omega))
  have hgl : (groupsT (tellD l)).length ≤ 134217727 := by have := groupsT_length (tellD l); omega
  have HSH := Lib.hid (groupsT_short ht)
  have HTS := Lib.hid (fun (ts : List Tm) => terms_sorted (ts := ts) hap h0)
  have HPL : Hid (∀ t, getG (groupsT (tellD l)) t = placesD l t) := Lib.hid fun t => by rw [getG_groups, placesS_D hap]
  obtain ⟨g, hg⟩ : ∃ g, g = groupsT (tellD l) := ⟨_, rfl⟩
  have HS' : Hid (∀ w', Below w.heap.size w w' → Calls Try.prog 37 #[docV id A n c] w' fun e w'' => ∃ B, e = .returned (.map (some B)) ∧ GrAt w'.heap.size w'' B g ∧ Below w'.heap.size w' w'') := Lib.hid fun w' h => by rw [hg]; exact HS.out w' h
  rw [← hg] at hgl HSH HTS HPL
  obtain ⟨w1, hw1⟩ : ∃ w1, w1 = boxD w id A n c := ⟨_, rfl⟩
  have hb1 : Below w.heap.size w w1 := by rw [hw1]; exact boxD_below _ _ _ _ _
  have hcc := boxD_cells (w := w) (id := id) (A := A) (n := n) (c := c) (Below.refl _ _)
  rw [← hw1] at hcc
  obtain ⟨hc0, hc1⟩ := hcc
  have HB1 := Lib.hid hb1
  have HW1 := Lib.hid hw1
  obtain ⟨td, htd⟩ : ∃ td, td = termsD l := ⟨_, rfl⟩
  obtain ⟨pd, hpd⟩ : ∃ pd, pd = placesD l := ⟨_, rfl⟩
  rw [← htd] at HTS ⊢
  rw [← hpd] at HPL ⊢
  clear HS hr ht hw hap h0 hlen hlen2 hg hb1 hw1 htd hpd
  go_enter Try.func21, Try.ntmps21
  go_wp2_with (first
    | (go_at_call 37; rw [show w.alloc _ = w1 from HW1.out.symm]
       (with_reducible refine (HS'.out w1 HB1.out).mono ?_)
       rintro e w4 ⟨B, rfl, hg4, hb4⟩
       obtain ⟨m, hm, hmk, hml⟩ := hg4.keys
       obtain ⟨w5, hw5⟩ : ∃ w5, w5 = w4.alloc (.cells #[.map (some B)] 66) := ⟨_, rfl⟩
       have hb5 : Below w4.heap.size w4 w5 := by rw [hw5]; exact (Below.refl _ _).alloc (Nat.le_refl _) _
       have hc5 : w5.cell? ⟨w4.heap.size, 0, none⟩ = some (.map (some B)) := by have := heap_alloc_new w4 (.cells #[.map (some B)] 66); rw [← hw5] at this; exact cell_of_one this
       have HSO := Lib.hid (keys_sorted w4.heap.size B m w5 ((hb5.block B (Array.getElem?_eq_some_iff.1 hm).1).trans hm) hc5 (by omega) (by rw [hmk]; exact HSH.out))
       have HG4 := Lib.hid hg4
       have HB4 := Lib.hid hb4
       have HB5 := Lib.hid hb5
       have HW5 := Lib.hid hw5
       rw [hmk] at HSO
       clear hg4 hb4 hm hmk hml hw5 hb5 hc5)
    | (go_at_call 39; (with_reducible refine (maps_Keys B w4).mono ?_); rintro e w5' ⟨rfl, rfl⟩; rw [← HW5.out])
    | (go_at_call 38; (with_reducible refine HSO.out.mono ?_); rintro e w6 ⟨v6, ts, rfl, hp6, hs6, ho6, hb6⟩
       obtain ⟨A6, c6, rfl, hc6, hr6⟩ := ho6.row
       have hts := HTS.out ts hp6 hs6
       have htl : ts.length ≤ 134217727 := by rw [hp6.length_eq, List.length_map]; exact hgl
       obtain ⟨w7, hrun, hown7, hgrow7⟩ := run_make_own (P := Try.prog) w6 w6.heap.size 38 45 i0 _ 1 Try.underlying38 hi0 hz0 hz1 .i64 .i64 ts.length (by rw [hz2]; omega) (by unfold maxLen; omega) (Nat.le_refl _)
       have HTD := Lib.hid hts
       have HO6 := Lib.hid ho6
       have HB6 := Lib.hid hb6
       have HR6 := Lib.hid hr6
       clear hts hp6 hs6 ho6 hb6 hr6))
  have hb7 : Below w6.heap.size w6 w7 := (Below.refl _ _).grown hgrow7 (Nat.le_refl _) (fun k hk => by cases hk)
  have hs7 := hb7.size
  have HB7 := Lib.hid hb7
  have HO7 : Hid (OwnII w6.heap.size w1.heap.size w7 (.slice (some ⟨w6.heap.size, 0, none⟩) 0 ts.length) []) := Lib.hid ⟨[], hown7, rfl, fun i c l hc => by cases hc⟩
  have h46 : Below w4.heap.size w4 w6 := HB5.out.trans (HB6.out.mono HB5.out.size)
  have h06 : Below w.heap.size w w6 := HB1.out.trans ((HB4.out.trans (h46.mono HB4.out.size)).mono HB1.out.size)
  have hs46 := h46.size
  have hs06 := h06.size
  have H46 := Lib.hid h46
  have H06 := Lib.hid h06
  clear hrun hown7 hgrow7 hb7 h46 h06
  go_loopw [6, 19] (fun o i wr => InvRel g ts w6.heap.size w1.heap.size w6 o i wr) (fun _ i _ => ts.length - (intOf i).toNat)
  case atStart => exact ⟨0, _, rfl, by omega, rfl, HO7.out, HB7.out⟩
  case round =>
    obtain ⟨k, vo, rfl, hk, rfl, hoo, hbw⟩ := hrel
    have h6r : Below w6.heap.size w6 wr := hbw
    have hs6r := h6r.size
    by_cases hlt : k < ts.length
    · obtain ⟨b1, o1, e1, hb1, hf1, hf2⟩ := (HR6.out.below h6r).at_ hlt
      subst e1
      obtain ⟨x, hx, hx2⟩ := as_text ts[k].1
      obtain ⟨y, hy, hy2⟩ := as_text ts[k].2
      rw [← hx] at hf1
      rw [← hy] at hf2
      have htk : (x.data.toList, y.data.toList) = ts[k] := Prod.ext hx2 hy2
      have hsu : (ts.take (k + 1)).map (getG g) = (ts.take k).map (getG g) ++ [getG g (x.data.toList, y.data.toList)] := by rw [htk, List.take_succ_eq_append_getElem hlt, List.map_append]; rfl
      obtain ⟨w8, hw8⟩ : ∃ w8, w8 = wr.alloc (.cells #[.string x, .string y] 43) := ⟨_, rfl⟩
      have hb8 : Below wr.heap.size wr w8 := by rw [hw8]; exact (Below.refl _ _).alloc (Nat.le_refl _) _
      have hs8 := hb8.size
      have hgr : GrAt w1.heap.size w8 B g := HG4.out.below (H46.out.trans ((h6r.trans (hb8.mono hs6r)).mono hs46))
      obtain ⟨u, ⟨m', hm', hv'⟩, hown'⟩ := hgr.look (x.data.toList, y.data.toList)
      obtain ⟨cs, hcs1, hcs2, hcs3⟩ := hoo.below hb8
      have hul : ((ts.take k).map (getG g)).length = k := by rw [List.length_map, List.length_take]; omega
      obtain ⟨lg, hlg⟩ : ∃ lg, lg = getG g (x.data.toList, y.data.toList) := ⟨_, rfl⟩
      rw [← hlg] at hsu hown'
      obtain ⟨A9, c9, hu, _, _⟩ := owned_row hown'
      have hpush : ∀ (v' : Value) (w9 w10 : World), Below w8.heap.size w8 w9 → w10.ownsRow w6.heap.size 45 1 v' (k + 1) (cs ++ [u]) → w9.grownBy w10 vo.ownBlock → OwnII w6.heap.size w1.heap.size w10 v' ((ts.take (k + 1)).map (getG g)) := fun v' w9 w10 h1 h2 h3 => by
        rw [hsu]
        exact OwnII.push (owned_below hcs1 h1) hcs2 (fun i c l hc hl => owned_below (hcs3 i c l hc hl) h1) (owned_below hown' h1) (by rw [hul]; exact h2) h3
      have hcl : cs.length = k := by rw [hcs2, hul]
      rw [hul] at hcs1
      have hkl : k ≤ 134217727 := by omega
      have i0' : (0 : Int) ≤ k := by omega
      have i1 : (k : Int) < ts.length := by omega
      have HPU := Lib.hid hpush
      have HCS := Lib.hid hcs1
      have HM' := Lib.hid hm'
      have HV' := Lib.hid hv'
      have HU := Lib.hid hu
      have HW8 := Lib.hid hw8
      have HB8 := Lib.hid hb8
      have HBW := Lib.hid hbw
      clear hx hx2 hy hy2 htk hsu hw8 hb8 hgr hm' hv' hown' hoo hcs1 hcs2 hcs3 hul hlg hu hpush hbw h6r
      go_wp2_with (first
        | (refine wpList_lookup_tm _ (by rfl) _ _ (by rfl) B m' (x.data.toList, y.data.toList) (by rfl) (by rw [← HW8.out]; exact HM'.out) (by rfl) ?_
           rw [HV'.out, HU.out])
        | (at_builtin; refine wpList_append_own _ rfl (.tmp 23) (.tmp 27) 38 rfl w6.heap.size 45 i0 _ 1 24 Try.underlying38 hi0 hz0 hz1 hz2 rfl (by omega) _ k cs rfl (by rw [← HW8.out]; exact HCS.out.alloc _) ⟨wr.heap.size + 1, 0, none⟩ 1 1 [.slice A9 lg.length c9] rfl rfl (by have := news_at (wr.alloc (.cells #[.string x, .string y] 43)) [.slice A9 lg.length c9] 45; rwa [World.size_alloc] at this) (by intro u hu; simp at hu; subst hu; rfl) (by unfold maxLen; omega) (by omega) (by simp; omega) ?_
           intro v' w10 hown10 hg10 hz10
           clear hz10))
      refine ⟨⟨k + 1, v', rfl, by omega, by go_num, HPU.out v' (w8.alloc (.cells #[.slice A9 lg.length c9] 45)) w10 ((Below.refl _ _).alloc (Nat.le_refl _) _) (by rw [HU.out]; exact hown10) (by rw [HW8.out]; exact hg10), ?_⟩, by simp [intOf]; omega⟩
      have h8 : Below w6.heap.size w6 w8 := HBW.out.trans (HB8.out.mono hs6r)
      have h9 : Below w6.heap.size w6 (w8.alloc (.cells #[.slice A9 lg.length c9] 45)) := h8.alloc (by omega) _
      exact h9.grown (by rw [HW8.out]; exact hg10) h9.size (fun j hj => (HCS.out.lt j hj).1)
    · have hkl : k = ts.length := by omega
      subst hkl
      rw [List.take_length] at hoo
      have hmap : ts.map (getG g) = td.map pd := by rw [HTD.out]; exact List.map_congr_left fun t _ => HPL.out t
      rw [hmap] at hoo
      have hs5 := HB5.out.size
      have hs1 := HB1.out.size
      have hs4 := HB4.out.size
      have HOO := Lib.hid (hoo.low (b := w.heap.size) (by omega) (by omega))
      have HOT : Hid (OwnTm w.heap.size wr (.slice A6 ts.length c6) td) := Lib.hid (by
        have := (HO6.out.below h6r).low (b := w.heap.size) (by omega)
        rw [← HTD.out]
        exact this)
      have HBR : Hid (Below w.heap.size w wr) := Lib.hid (H06.out.trans (hbw.mono hs06))
      clear hoo hmap hbw h6r
      go_wp2
      go_ret2
      exact ⟨_, _, rfl, HOT.out, HOO.out, HBR.out⟩
end Go.Proofs.Ythpecegifilgoaa
