/- Texts laid together: Few12. -/
import Derived.Test.YtolfkhflbjnakaaGreatDoorNAQ15
import Derived.Test.YtolfkhflbjnakaaGreatDoorNAQ12
import Derived.Test.YtolfkhflbjnakaaGreatDoorNAQ06
import Derived.Deep.RegionHeld3
import Derived.Deep.RegionWith
import Derived.BigRegion
import Derived.Deep.AppendLies

/- What the statements' own 'few' of layer 12 answers: a query of the first 9 kids and words, so deep at most. -/
namespace Go.Proofs.YtolfkhflbjnakaaGreatDoor
open Go Go.RowKit
set_option linter.unusedVariables false

/-- The query's block, the answer's block. -/
def boxF (w : World) (k : Int) (f x : ByteArray) (A : Option Addr) (n c : Nat) (K : Option Addr) (m d : Nat) : World := (boxQ w k f x A n c K m d).alloc (.cells #[.int .i64 0, .string ⟨#[]⟩, .string ⟨#[]⟩, .slice none 0 0, .slice none 0 0] 27)
/-- What stands in the two blocks. -/
structure FewAt (w : World) (k : Int) (f x : ByteArray) (a b : Value) (wr : World) : Prop where
  bel : Below w.heap.size w wr
  q : wr.heap[w.heap.size]? = some (.cells #[.int .i64 k, .string f, .string x, a, b] 27 (0, 0))
  r : wr.heap[w.heap.size + 1]? = some (.cells #[.int .i64 0, .string ⟨#[]⟩, .string ⟨#[]⟩, .slice none 0 0, .slice none 0 0] 27 (0, 0))
section
variable {w wr w' : World} {k : Int} {f x : ByteArray} {a b : Value}
theorem FewAt.later (h : FewAt w k f x a b wr) (hb : Below (w.heap.size + 2) wr w') : FewAt w k f x a b w' := ⟨h.bel.trans (hb.mono (by omega)), (hb.block _ (by omega)).trans h.q, (hb.block _ (by omega)).trans h.r⟩
theorem FewAt.size (h : FewAt w k f x a b wr) : w.heap.size + 2 ≤ wr.heap.size := (Array.getElem?_eq_some_iff.1 h.r).1
theorem FewAt.made {A K : Option Addr} {n c m d : Nat} : FewAt w k f x (.slice A n c) (.slice K m d) (boxF w k f x A n c K m d) := by
  have hs : (boxQ w k f x A n c K m d).heap.size = w.heap.size + 1 := boxQ_size
  refine ⟨boxQ_below.alloc (by rw [hs]; omega) _, ?_, ?_⟩
  · exact (((Below.refl _ (boxQ w k f x A n c K m d)).alloc (Nat.le_refl _) _).block _ (by omega)).trans (heap_alloc_new _ _)
  · rw [← hs]
    exact heap_alloc_new _ _
theorem FewAt.term (h : FewAt w k f x a b wr) (f' x' : ByteArray) : FewAt w k f' x' a b ((wr.setCell ⟨w.heap.size, 1, none⟩ (.string f')).setCell ⟨w.heap.size, 2, none⟩ (.string x')) := by
  refine ⟨(h.bel.setCell (Nat.le_refl _) _).setCell (Nat.le_refl _) _, ?_, ?_⟩
  · rw [set_at (set_at h.q)]; rfl
  · rw [set_ne (by omega), set_ne (by omega)]; exact h.r
theorem FewAt.words (h : FewAt w k f x a b wr) (a' : Value) : FewAt w k f x a' b (wr.setCell ⟨w.heap.size, 3, none⟩ a') := by
  refine ⟨h.bel.setCell (Nat.le_refl _) _, ?_, ?_⟩
  · rw [set_at h.q]; rfl
  · rw [set_ne (by omega)]; exact h.r
theorem FewAt.kids (h : FewAt w k f x a b wr) (b' : Value) : FewAt w k f x a b' (wr.setCell ⟨w.heap.size, 4, none⟩ b') := by
  refine ⟨h.bel.setCell (Nat.le_refl _) _, ?_, ?_⟩
  · rw [set_at h.q]; rfl
  · rw [set_ne (by omega)]; exact h.r
end
theorem ext_cut (x : ByteArray) (b m : Nat) (hm : m = min x.size b) : x.extract 0 m = ⟨(x.data.toList.take b).toArray⟩ := by
  have e2 : x.data.toList.length = x.size := Array.length_toList
  have e : (x.extract 0 m).data = x.data.extract 0 m := ByteArray.data_extract
  apply ByteArray.ext
  apply Array.ext'
  rw [e, Array.toList_extract, List.extract_eq_take_drop, List.drop_zero, Nat.sub_zero]
  show List.take _ _ = List.take b _
  by_cases h : x.size ≤ b
  · rw [List.take_of_length_le (by omega), List.take_of_length_le (by omega)]
  · rw [show m = b by omega]
def fewB (x : ByteArray) (n : Nat) : ByteArray := ⟨(x.data.toList.take n).toArray⟩
def FewWRel (w : World) (k : Int) (f x : ByteArray) (a b : Value) (ws : List Nm) (M : Nat) (w1 : World) (u i : Value) (wr : World) : Prop :=
  ∃ j : Nat, j ≤ M ∧ i = .int .i64 (j : Int) ∧ OwnNm (w.heap.size + 2) wr u ((ws.take j).map (·.take 35)) ∧ FewAt w k f x a b wr
def FewKRel (ks : List Qy) (d M : Nat) (w7 : World) (u i : Value) (wr : World) : Prop :=
  ∃ j : Nat, j ≤ M ∧ i = .int .i64 (j : Int) ∧ OwnQs w7.heap.size wr u ((ks.take j).map (fewQ d)) ∧ Below w7.heap.size w7 wr

theorem OwnNm.rowP {base : Nat} {w : World} {v : Value} {l : List Nm} (h : OwnNm base w v l) : ∃ A c, v = .slice A l.length c ∧ l.length ≤ c ∧ RowP (fun b => base ≤ b ∧ b < w.heap.size) w A (strs l) := by
  have h1 : w.ownsRow base 9 1 v l.length (strs l) := h
  have h1' := h1
  obtain ⟨A, c, rfl, hc, hr⟩ := owned_row h1
  refine ⟨A, c, rfl, hc, ?_⟩
  rcases hr with hr | ⟨b, off, rfl, hb, hcell⟩
  · exact .inl hr
  · refine .inr ⟨b, off, rfl, ⟨?_, hb⟩, hcell⟩
    rcases h1'.2 with ⟨hv, _⟩ | ⟨g, cap, cur, hv, hg, _⟩
    · injection hv with hv; cases hv
    · injection hv with hv
      injection hv with hv
      injection hv with hv
      subst hv
      exact hg
/-- All is gathered, and the answer is written. -/
theorem few_done {w w6 wr : World} {k : Int} {F X : ByteArray} {a b v u : Value} {l : List Nm} {os : List Qy} {nw nk : Nat} (h6 : FewAt w k F X a b w6) (hv : OwnNm (w.heap.size + 2) w6 v l) (hr : Below w6.heap.size (w6.setCell ⟨w.heap.size, 3, none⟩ v) wr) (hu : OwnQs w6.heap.size wr u os) (hnw : l.length = nw) (hnk : os.length = nk) :
    ∃ Aw cw Ak ck, v = .slice Aw nw cw ∧ u = .slice Ak nk ck ∧ FewAt w k F X v b wr ∧ FewAt w k F X v u (wr.setCell ⟨w.heap.size, 4, none⟩ u) ∧
      GaveQ (.mk k (F.data.toList, X.data.toList) l os) w (.returned (qV k F X Aw nw cw Ak nk ck)) (set5 (wr.setCell ⟨w.heap.size, 4, none⟩ u) (w.heap.size + 1) (.int .i64 k) (.string F) (.string X) v u) ∧
      (set5 (wr.setCell ⟨w.heap.size, 4, none⟩ u) (w.heap.size + 1) (.int .i64 k) (.string F) (.string X) v u).heap[w.heap.size + 1]? = some (.cells #[.int .i64 k, .string F, .string X, v, u] 27 (0, 0)) := by
  subst hnw hnk
  have hz := h6.size
  have h7 := h6.words v
  have hs7 : (w6.setCell ⟨w.heap.size, 3, none⟩ v).heap.size = w6.heap.size := by simp [World.setCell]
  have hwr : FewAt w k F X v b wr := h7.later (hr.mono hz)
  have h8 := hwr.kids u
  have hs8 : (wr.setCell ⟨w.heap.size, 4, none⟩ u).heap.size = wr.heap.size := by simp [World.setCell]
  have hsz : w6.heap.size ≤ wr.heap.size := by have := hr.size; omega
  obtain ⟨Aw, cw, rfl, hcw, hrw⟩ := hv.rowP
  obtain ⟨Ak, ck, ds, rfl, hck, hrk, hqk⟩ := hu.slice
  refine ⟨Aw, cw, Ak, ck, rfl, rfl, hwr, h8, ⟨_, rfl, ?_, set5_below h8.bel (by omega)⟩, set5_at h8.r⟩
  refine QV.mk (ds := ds) rfl rfl rfl rfl hcw hck ?_ ?_ ?_
  · refine (hrw.keep fun b hb => ?_).imp fun b hb => ⟨by omega, by rw [set5_size, hs8]; omega⟩
    rw [set5_ne (by omega), set_ne (by omega), hr.block b (by omega), set_ne (by omega)]
  · refine (hrk.keep fun b hb => ?_).imp fun b hb => ⟨by omega, by rw [set5_size, hs8]; omega⟩
    rw [set5_ne (by omega), set_ne (by omega)]
  · refine (hqk.keep fun b hb => ?_).imp fun b hb => ⟨by omega, by rw [set5_size, hs8]; omega⟩
    rw [set5_ne (by omega), set_ne (by omega)]
set_option maxHeartbeats 4000000 in
set_option maxRecDepth 100000 in
theorem few_step (D : Nat) (k : Int) (t : Tm) (ws : List Nm) (ks : List Qy) (f x : ByteArray) (A : Option Addr) (c : Nat) (K : Option Addr) (d : Nat) (ds : List Value) (w : World) (hD : D ≤ 100) (hraw : RawQ maxLen (.mk k t ws ks))
    (hf : f.data.toList = t.1) (hx : x.data.toList = t.2) (hA : RowP (fun b => b < w.heap.size) w A (strs ws)) (hK : RowP (fun b => b < w.heap.size) w K ds) (hks : QsAt (fun b => b < w.heap.size) w ks ds)
    (ih : ∀ D', D = D' + 1 → ∀ q ∈ ks, ∀ (v : Value) (w' : World), Below w.heap.size w w' → QIn w' q v → Calls Tryz.prog 12 #[v, .int .i64 (D' : Int)] w' (GaveQ (fewQ D' q) w')) :
    Calls Tryz.prog 12 #[qV k f x A ws.length c K ks.length d, .int .i64 (D : Int)] w (GaveQ (fewQ D (.mk k t ws ks)) w) := by
  rw [RawQ] at hraw
  obtain ⟨hkb, ⟨ht1, ht2⟩, hwl, hrl⟩ := hraw
  have hfs : f.data.toList.length = f.size := Array.length_toList
  have hxs : x.data.toList.length = x.size := Array.length_toList
  have hfb : f.size ≤ 9223372036854775807 := by rw [← hfs, hf]; exact ht1
  have hxb : x.size ≤ 9223372036854775807 := by rw [← hxs, hx]; exact ht2
  obtain ⟨mf, hmf⟩ : ∃ mf : Nat, mf = min f.size 15 := ⟨_, rfl⟩
  obtain ⟨mx, hmx⟩ : ∃ mx : Nat, mx = min x.size 35 := ⟨_, rfl⟩
  have hnf : ∀ (w : World) (ts : Array TypeId) (ty : TypeId), (Builtin.min_ ts ty #[.int .i64 f.size, .int .i64 15]).run Tryz.prog w = .ok (.int .i64 (mf : Int)) w := fun w ts ty => by rw [run_min_int2, hmf]; congr 2; split <;> omega
  have hnx : ∀ (w : World) (ts : Array TypeId) (ty : TypeId), (Builtin.min_ ts ty #[.int .i64 x.size, .int .i64 35]).run Tryz.prog w = .ok (.int .i64 (mx : Int)) w := fun w ts ty => by rw [run_min_int2, hmx]; congr 2; split <;> omega
  obtain ⟨F, hF⟩ : ∃ F, F = fewB f 15 := ⟨_, rfl⟩
  obtain ⟨X, hX⟩ : ∃ X, X = fewB x 35 := ⟨_, rfl⟩
  have hef : f.extract 0 mf = F := by rw [hF]; exact ext_cut f 15 mf hmf
  have hex : x.extract 0 mx = X := by rw [hX]; exact ext_cut x 35 mx hmx
  have hmf1 : mf ≤ f.size := by omega
  have hmx1 : mx ≤ x.size := by omega
  obtain ⟨w1, hw1⟩ : ∃ w1, w1 = boxF w k f x A ws.length c K ks.length d := ⟨_, rfl⟩
  have hfa : FewAt w k f x (.slice A ws.length c) (.slice K ks.length d) w1 := by rw [hw1]; exact FewAt.made
  obtain ⟨⟨a0, a1, a2, a3, a4⟩, f0, f1, f2, f3, f4⟩ := five_cells hfa.q
  have HFA := Lib.hid hfa
  have HW1 := Lib.hid hw1
  have HROW : Hid (∀ wr, Below w.heap.size w wr → Row wr wr.heap.size A (strs ws)) := Lib.hid fun wr h => (Row.below (RowP.row hA fun _ h => h) h).more h.size
  have HKS : Hid (∀ w7, Below w.heap.size w w7 → KidsAt w w7 ks K) := Lib.hid fun w7 h => kids_at hK hks h
  have HWL := Lib.hid hwl
  have HIH : Hid (0 < D → ∀ q ∈ ks, ∀ (v : Value) (w' : World), Below w.heap.size w w' → QIn w' q v → Calls Tryz.prog 12 #[v, .int .i64 ((D : Int) - 1)] w' (GaveQ (fewQ (D - 1) q) w')) := Lib.hid fun h q hq v w' hb hv => by
    have := ih (D - 1) (by omega) q hq v w' hb hv
    rwa [show ((D - 1 : Nat) : Int) = (D : Int) - 1 by omega] at this
  obtain ⟨M, hM, hM9, hMk⟩ : ∃ M, M = min 9 ws.length ∧ M ≤ 9 ∧ M ≤ ws.length := ⟨_, rfl, by omega, by omega⟩
  have HM := Lib.hid hM
  obtain ⟨M2, hm1, hm2, hm3⟩ : ∃ M2 : Nat, (∀ j, j < M2 → j < ks.length ∧ j < 9 ∧ 0 < D) ∧ M2 ≤ ks.length ∧ ((M2 = ks.length ∧ M2 ≤ 9) ∨ (M2 < ks.length ∧ M2 = 9) ∨ (M2 < ks.length ∧ M2 < 9 ∧ D = 0)) := by
    by_cases h : D = 0
    · exact ⟨0, fun j h => by omega, by omega, by omega⟩
    · exact ⟨min 9 ks.length, fun j h => by omega, by omega, by omega⟩
  have HM1 := Lib.hid hm1
  have HM3 := Lib.hid hm3
  have hw9 : fewQ D (.mk k t ws ks) = .mk k (F.data.toList, X.data.toList) ((ws.take M).map (·.take 35)) ((ks.take M2).map (fewQ (D - 1))) := by
    have e1 : F.data.toList = t.1.take 15 := by rw [hF, ← hf]; rfl
    have e2 : X.data.toList = t.2.take 35 := by rw [hX, ← hx]; rfl
    have e3 : ws.take 9 = ws.take M := by
      by_cases h : ws.length ≤ 9
      · rw [List.take_of_length_le h, List.take_of_length_le (by omega)]
      · rw [show M = 9 by omega]
    rw [e1, e2, ← e3]
    cases D with
    | zero =>
      have : M2 = 0 := by
        rcases Nat.eq_zero_or_pos M2 with h | h
        · exact h
        · have := (hm1 0 h).2.2; omega
      rw [fewQ, this]
      rfl
    | succ D =>
      have e4 : ks.take 9 = ks.take M2 := by
        by_cases h : ks.length ≤ 9
        · rw [List.take_of_length_le h, List.take_of_length_le (by omega)]
        · rw [show M2 = 9 by omega]
      rw [fewQ, fewL_map, e4]
      rfl
  obtain ⟨R, hR⟩ : ∃ R, R = fewQ D (.mk k t ws ks) := ⟨_, rfl⟩
  rw [← hR]
  have HR := Lib.hid (hR.trans hw9)
  clear hR
  obtain ⟨j0, hj0, hj1, hj2, hj3⟩ := info_parts info_string
  obtain ⟨p0, hp0, hp1, hp2, hp3⟩ := info_parts info_query
  clear hw1 hfa hmf hmx hF hX hf hx hA hK hks ih hwl hrl hM hm1 hm3 hw9 hfs hxs ht1 ht2
  go_enter Tryz.func12, Tryz.ntmps12
  go_upto_region 1 with fail
  rw [show (w.alloc _).alloc _ = w1 from HW1.out.symm]
  go_cut [28] from 9 to 28 (fun s wx => ((w1.setCell ⟨w.heap.size, 1, none⟩ (.string F)).setCell ⟨w.heap.size, 2, none⟩ (.string X)).drew = wx)
  case first =>
    go_region
    all_goals
      go_wp2_with fail
      go_meet
      exact rfl
  case rest =>
    obtain ⟨w2, hw2⟩ : ∃ w2, w2 = ((w1.setCell ⟨w.heap.size, 1, none⟩ (.string F)).setCell ⟨w.heap.size, 2, none⟩ (.string X)).drew := ⟨_, rfl⟩
    rw [← hw2] at hcut
    subst hcut
    have HF2 : Hid (FewAt w k F X (.slice A ws.length c) (.slice K ks.length d) w2) := Lib.hid (by rw [hw2]; exact (HFA.out.term F X).later (Below.refl _ _).drew)
    have HB2 : Hid (Below w.heap.size w w2) := Lib.hid HF2.out.bel
    clear a0 a1 a2 a3 a4 f0 f1 f2 f3 f4 hnf hnx hef hex hmf1 hmx1 hfb hxb
    go_wp2_with fail
    go_loopw [5, 6] (fun u i wr => FewWRel w k F X (.slice A ws.length c) (.slice K ks.length d) ws M w2 u i wr) (fun _ i _ => M - (intOf i).toNat)
    case atStart => exact ⟨0, by omega, rfl, World.ownsRow_nil _ _ _ _, HF2.out⟩
    case round =>
      obtain ⟨j, hj, rfl, hown, hfa⟩ := hrel
      obtain ⟨⟨a0, a1, a2, a3, a4⟩, f0, f1, f2, f3, f4⟩ := five_cells hfa.q
      have hln : ((ws.take j).map (·.take 35)).length = j := by rw [List.length_map, List.length_take]; omega
      have HFA := Lib.hid hfa
      by_cases hlt : j < M
      · obtain ⟨b8, o8, e8, hb8, hz8⟩ := row_nm (HROW.out wr hfa.bel) (k := j) (by omega)
        subst e8
        have hul := HWL.out _ (List.getElem_mem (show j < ws.length by omega))
        obtain ⟨u8, hu8, hu9⟩ := as_text ((ws[j]'(by omega)))
        rw [← hu8] at hz8
        have hus : u8.data.toList.length = u8.size := Array.length_toList
        have hub : u8.size ≤ 9223372036854775807 := by rw [← hus, hu9]; exact hul
        obtain ⟨m8, hm8⟩ : ∃ m8 : Nat, m8 = min u8.size 35 := ⟨_, rfl⟩
        have hn8 : ∀ (w : World) (ts : Array TypeId) (ty : TypeId), (Builtin.min_ ts ty #[.int .i64 u8.size, .int .i64 35]).run Tryz.prog w = .ok (.int .i64 (m8 : Int)) w := fun w ts ty => by rw [run_min_int2, hm8]; congr 2; split <;> omega
        obtain ⟨U, hU⟩ : ∃ U, U = fewB u8 35 := ⟨_, rfl⟩
        have he8 : u8.extract 0 m8 = U := by rw [hU]; exact ext_cut u8 35 m8 hm8
        have hm81 : m8 ≤ u8.size := by omega
        have HTK : Hid (∀ W v', W.ownsRow (w.heap.size + 2) 9 1 v' (j + 1) (strs ((ws.take j).map (·.take 35)) ++ [.string U]) → OwnNm (w.heap.size + 2) W v' ((ws.take (j + 1)).map (·.take 35))) := Lib.hid fun W v' h => by
          have e : (ws.take (j + 1)).map (·.take 35) = (ws.take j).map (·.take 35) ++ [(ws[j]'(by omega)).take 35] := by rw [List.take_succ_eq_append_getElem (by omega), List.map_append]; rfl
          unfold OwnNm
          rw [e, List.length_append, List.length_singleton, hln]
          have e2 : strs ((ws.take j).map (·.take 35) ++ [(ws[j]'(by omega)).take 35]) = strs ((ws.take j).map (·.take 35)) ++ [.string U] := by
            rw [hU, fewB, hu9]
            simp [strs]
          rw [e2]
          exact h
        obtain ⟨cs, hcs⟩ : ∃ cs, cs = strs ((ws.take j).map (·.take 35)) := ⟨_, rfl⟩
        have hown' := hown
        unfold OwnNm at hown'
        rw [hln, ← hcs] at hown'
        rw [← hcs] at HTK
        obtain ⟨A5, c5, rfl, -⟩ := owned_row hown'
        have HO := Lib.hid hown'
        have hsz := hfa.size
        have i0 : (0 : Int) ≤ j := by omega
        have i3 : (j : Int) < ws.length := by omega
        have i4 : (j : Int) < 9 := by omega
        clear hown hown' hcs hu8 hu9 hus hul hm8 hU hln hfa hb8
        go_upto_region 6 with fail
        go_region_law (first
          | (refine step_append_lies _ (by rfl) _ _ _ (by rfl) (w.heap.size + 2) 9 j0 _ 1 16 Tryz.underlying24 hj0 hj1 hj2 hj3 rfl (by omega) (.slice A5 j c5) j cs (by rfl) (HO.out.drew.alloc _)
              ⟨wr.drew.heap.size, 0, none⟩ 1 1 [.string U] (by rfl) (by rfl) (World.news_of_block (cs := #[.string U]) (t := 9) (fr := (0, 0)) (heap_alloc_new wr.drew _)) (by intro y hy; simp at hy; subst hy; rfl)
              (by omega) (by unfold maxLen; omega) (by omega) (by simp; omega) (wr.heap.size + 1) (by simp) ?_
             intro gg cap w8 hown8 hgrow hat8 hlt8
             have hb8 : Below (w.heap.size + 2) wr w8 := ((Below.refl (w.heap.size + 2) wr).drew.alloc (by simp; omega) _).grown hgrow (by simp; omega) (fun k hk => (HO.out.lt k hk).1)
             have HF8 := Lib.hid (HFA.out.later hb8)
             have HO8 := Lib.hid (HTK.out _ _ hown8)
             clear hb8 hown8 hgrow hat8 hlt8))
        all_goals
          go_wp2_with fail
          go_roundw
          case rel => exact ⟨j + 1, by omega, by go_num, HO8.out, HF8.out⟩
          case measure => simp [intOf]; omega
      · obtain rfl : j = M := by omega
        have hsp : (j = ws.length ∧ j ≤ 9) ∨ (j = 9 ∧ j < ws.length) := by have := HM.out; omega
        obtain ⟨Aw, cw, hu, hcw, -⟩ := hown.rowP
        rw [hln] at hu hcw
        subst hu
        have hz6 := hfa.size
        obtain ⟨w7, hw7⟩ : ∃ w7, w7 = wr.setCell ⟨w.heap.size, 3, none⟩ (.slice Aw j cw) := ⟨_, rfl⟩
        have hs7 : w7.heap.size = wr.heap.size := by rw [hw7]; simp [World.setCell]
        have HF7 : Hid (FewAt w k F X (.slice Aw j cw) (.slice K ks.length d) w7) := Lib.hid (by rw [hw7]; exact hfa.words _)
        have HKA := Lib.hid (HKS.out w7 HF7.out.bel)
        have HDONE : Hid (∀ (wr' : World) (u' : Value) (os : List Qy) (nk : Nat), Below w7.heap.size w7 wr' → OwnQs w7.heap.size wr' u' os → os.length = nk → ∃ Ak ck, u' = .slice Ak nk ck ∧ FewAt w k F X (.slice Aw j cw) (.slice K ks.length d) wr' ∧ FewAt w k F X (.slice Aw j cw) (.slice Ak nk ck) (wr'.setCell ⟨w.heap.size, 4, none⟩ (.slice Ak nk ck)) ∧
            GaveQ (.mk k (F.data.toList, X.data.toList) ((ws.take j).map (·.take 35)) os) w (.returned (qV k F X Aw j cw Ak nk ck)) (set5 (wr'.setCell ⟨w.heap.size, 4, none⟩ (.slice Ak nk ck)) (w.heap.size + 1) (.int .i64 k) (.string F) (.string X) (.slice Aw j cw) (.slice Ak nk ck)) ∧
            (set5 (wr'.setCell ⟨w.heap.size, 4, none⟩ (.slice Ak nk ck)) (w.heap.size + 1) (.int .i64 k) (.string F) (.string X) (.slice Aw j cw) (.slice Ak nk ck)).heap[w.heap.size + 1]? = some (.cells #[.int .i64 k, .string F, .string X, .slice Aw j cw, .slice Ak nk ck] 27 (0, 0))) := Lib.hid fun wr' u' os nk h1 h2 h3 => by
          rw [hw7] at h1
          rw [hs7] at h2
          have h1' : Below wr.heap.size (wr.setCell ⟨w.heap.size, 3, none⟩ (.slice Aw j cw)) wr' := by simpa [World.setCell] using h1
          obtain ⟨Aw', cw', Ak, ck, e1, e2, g1, g2, g3, g4⟩ := few_done hfa hown h1' h2 hln h3
          injection e1 with e1 e1' e1''
          subst e1 e1'' e2
          exact ⟨Ak, ck, rfl, g1, g2, g3, g4⟩
        clear hown hfa hln hs7 hcw hz6 hj
        have hx1 : ¬ (j : Int) < (ws.length : Int) ∨ ((j : Int) < (ws.length : Int) ∧ ¬ (j : Int) < 9) := by omega
        clear hsp hlt
        rcases hx1 with e1 | ⟨e1, e2⟩
        all_goals
          go_upto_region 8 with fail
          rw [show wr.setCell _ _ = w7 from hw7.symm]
          clear hw7 a0 a1 a2 a3 a4 f0 f1 f2 f3 f4
          go_wp2_with fail
          go_loopw [7, 8] (fun u i wr => FewKRel ks (D - 1) M2 w7 u i wr) (fun _ i _ => M2 - (intOf i).toNat)
          case atStart => exact ⟨0, by omega, rfl, OwnQs.nil, Below.refl _ _⟩
          case round =>
            obtain ⟨i, hi, rfl, hown, hbw⟩ := hrel
            have hln : ((ks.take i).map (fewQ (D - 1))).length = i := by rw [List.length_map, List.length_take]; omega
            by_cases hlt2 : i < M2
            · obtain ⟨i5, i6, i7⟩ := HM1.out i hlt2
              obtain ⟨b, off, k', f', x', A', n', c', K', m', d', e', hbl, hv, q0, q1, q2, q3, q4⟩ := HKA.out wr hbw i i5
              subst e'
              obtain ⟨A5, c5, -, hu, -⟩ := hown.slice
              subst hu
              obtain ⟨cs, hcs, hqs⟩ := hown
              have hf7 := HF7.out.later (hbw.mono HF7.out.size)
              have HC : Hid (Calls Tryz.prog 12 #[qV k' f' x' A' n' c' K' m' d', .int .i64 ((D : Int) - 1)] wr (GaveQ (fewQ (D - 1) (ks[i]'i5)) wr)) := Lib.hid (HIH.out i7 _ (List.getElem_mem i5) _ wr hf7.bel hv)
              have HTK : Hid ((ks.take (i + 1)).map (fewQ (D - 1)) = (ks.take i).map (fewQ (D - 1)) ++ [fewQ (D - 1) (ks[i]'i5)]) := Lib.hid (by rw [List.take_succ_eq_append_getElem i5, List.map_append]; rfl)
              obtain ⟨gq, hgq⟩ : ∃ gq, gq = fewQ (D - 1) (ks[i]'i5) := ⟨_, rfl⟩
              rw [← hgq] at HC HTK
              obtain ⟨os, hos⟩ : ∃ os, os = (ks.take i).map (fewQ (D - 1)) := ⟨_, rfl⟩
              rw [← hos] at HTK hln hcs hqs
              rw [← hos, hln]
              have HLN := Lib.hid hln
              have HO : Hid (wr.ownsRow w7.heap.size 27 5 (.slice A5 i c5) i cs) := Lib.hid (by rw [hln] at hcs; exact hcs)
              have HQS : Hid (QsAt (fun b => w7.heap.size ≤ b ∧ b < wr.heap.size ∧ (Value.slice A5 i c5).ownBlock ≠ some b) wr os cs) := Lib.hid (by rw [hln] at hqs; exact hqs)
              obtain ⟨⟨a0, a1, a2, a3, a4⟩, -⟩ := five_cells hf7.q
              have HBW := Lib.hid hbw
              have i0 : (0 : Int) ≤ i := by omega
              have i3 : (i : Int) < ks.length := by omega
              have i4 : (i : Int) < 9 := by omega
              have i8 : (0 : Int) < D := by omega
              clear hv hbw hgq hos hcs hqs hln hf7
              go_wp2_with (first
                | (go_at_call 12; (with_reducible refine HC.out.mono ?_); rintro e w6 ⟨v6, rfl, hq6, hb6⟩
                   obtain ⟨k6, f6, x6, A6, n6, c6, K6, m6, d6, e6, hq7⟩ := hq6
                   subst e6
                   have HB6 := Lib.hid hb6
                   have HQ7 := Lib.hid hq7
                   clear hb6 hq7)
                | (at_builtin; refine wpList_append_lies _ rfl (.tmp 73) (.tmp 82) 25 rfl w7.heap.size 27 p0 _ 5 88 Tryz.underlying25 hp0 hp1 hp2 hp3 rfl (by omega) (.slice A5 i c5) i cs rfl ((owned_below HO.out HB6.out).alloc _)
                     ⟨w6.heap.size, 0, none⟩ 1 1 (qC k6 f6 x6 A6 n6 c6 K6 m6 d6) rfl rfl (World.news_of_block (cs := #[.int .i64 k6, .string f6, .string x6, .slice A6 n6 c6, .slice K6 m6 d6]) (t := 27) (fr := (0, 0)) (heap_alloc_new w6 _)) HQ7.out.one
                     (by omega) (by unfold maxLen; omega) (by omega) (by have := HB6.out.size; have := HBW.out.size; simp; omega) (w6.heap.size + 1) (by simp) ?_
                   intro gg cap w8 hown8 hgrow hat8 hlt8
                   have ho9 : OwnQs w7.heap.size w8 (.slice (some ⟨gg, 0, none⟩) (i + 1) cap) (os ++ [gq]) := OwnQs.push (g := gg) (by rw [HLN.out]; exact HO.out) HQS.out HB6.out HQ7.out HBW.out.size ((Below.refl _ _).alloc (Nat.le_refl _) _) (by rw [HLN.out]; exact hown8) hgrow rfl (hat8.imp (fun h => h) fun h => by omega)
                   have hb8 : Below w7.heap.size w7 w8 := ((HBW.out.trans (HB6.out.mono HBW.out.size)).alloc (by have := HB6.out.size; have := HBW.out.size; omega) _).grown hgrow (by have := HB6.out.size; have := HBW.out.size; simp; omega) (fun k hk => (HO.out.lt k hk).1)
                   have HB8 := Lib.hid hb8
                   have HO9 := Lib.hid ho9
                   clear hb8 ho9 hown8 hgrow hat8 hlt8))
              go_roundw
              case rel => exact ⟨i + 1, by omega, by go_num, by rw [HTK.out]; exact HO9.out, HB8.out⟩
              case measure => simp [intOf]; omega
            · obtain rfl : i = M2 := by omega
              obtain ⟨Ak, ck, hu, hfw, hfz, hgv, hcz⟩ := HDONE.out wr _ _ i hbw hown hln
              subst hu
              obtain ⟨⟨a0, a1, a2, a3, a4⟩, f0, f1, f2, f3, f4⟩ := five_cells hfw.q
              obtain ⟨w8, hw8⟩ : ∃ w8, w8 = wr.setCell ⟨w.heap.size, 4, none⟩ (.slice Ak i ck) := ⟨_, rfl⟩
              rw [← hw8] at hfz hgv hcz
              obtain ⟨⟨b0, b1, b2, b3, b4⟩, -⟩ := five_cells hfz.q
              obtain ⟨⟨r0, r1, r2, r3, r4⟩, g0, g1, g2, g3, g4⟩ := five_cells hfz.r
              obtain ⟨⟨t0, t1, t2, t3, t4⟩, -⟩ := five_cells hcz
              obtain ⟨we, hwe⟩ : ∃ we, we = set5 w8 (w.heap.size + 1) (.int .i64 k) (.string F) (.string X) (.slice Aw j cw) (.slice Ak i ck) := ⟨_, rfl⟩
              rw [← hwe] at hgv t0 t1 t2 t3 t4
              have HGV := Lib.hid hgv
              have HWE := Lib.hid hwe
              have HW8 := Lib.hid hw8
              have T0 := Lib.hid t0
              have T1 := Lib.hid t1
              have T2 := Lib.hid t2
              have T3 := Lib.hid t3
              have T4 := Lib.hid t4
              have h3 := HM3.out
              clear hown hln hbw hfw hfz hgv hcz hwe hw8 t0 t1 t2 t3 t4
              have hy : ¬ (i : Int) < (ks.length : Int) ∨ ((i : Int) < (ks.length : Int) ∧ ¬ (i : Int) < 9) ∨ ((i : Int) < (ks.length : Int) ∧ (i : Int) < 9 ∧ ¬ (0 : Int) < D) := by omega
              clear h3 hlt2
              rcases hy with y1 | ⟨y1, y2⟩ | ⟨y1, y2, y3⟩
              all_goals
                go_upto_region 14 with fail
                rw [show wr.setCell _ _ = w8 from HW8.out.symm]
                clear a0 a1 a2 a3 a4 f0 f1 f2 f3 f4
                go_wp2_with fail
                rw [show (((((w8.setCell _ _).setCell _ _).setCell _ _).setCell _ _).setCell _ _) = we from HWE.out.symm]
                exact bodyPost_ret (v := qV k F X Aw j cw Ak i ck) (by simp [results, Tryz.results12, go_sem, T0.out, T1.out, T2.out, T3.out, T4.out]) rfl (by rw [HR.out]; exact HGV.out)
theorem law12_few (D : Nat) : ∀ (q : Qy) (v : Value) (w : World), D ≤ 100 → RawQ maxLen q → QIn w q v → Calls Tryz.prog 12 #[v, .int .i64 (D : Int)] w (GaveQ (fewQ D q) w) := by
  induction D with
  | zero =>
    intro q v w hD hraw hq
    obtain ⟨k, t, ws, ks, f, x, A, c, K, d, ds, rfl, rfl, hf, hx, hc, hdd, hA, hK, hks⟩ := hq.open_
    exact few_step 0 k t ws ks f x A c K d ds w hD hraw hf hx hA hK hks fun D' h => by omega
  | succ D ih =>
    intro q v w hD hraw hq
    obtain ⟨k, t, ws, ks, f, x, A, c, K, d, ds, rfl, rfl, hf, hx, hc, hdd, hA, hK, hks⟩ := hq.open_
    refine few_step (D + 1) k t ws ks f x A c K d ds w hD hraw hf hx hA hK hks fun D' h q hq v w' hb hv => ?_
    obtain rfl : D' = D := by omega
    have h1 := hraw
    rw [RawQ] at h1
    exact ih q v w' (by omega) (rawL_mem h1.2.2.2 hq) hv
end Go.Proofs.YtolfkhflbjnakaaGreatDoor
