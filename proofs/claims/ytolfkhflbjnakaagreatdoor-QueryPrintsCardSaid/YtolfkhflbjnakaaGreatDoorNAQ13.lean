/- Texts laid together: FoldG12, GradedK12, QMay12, QMayM12, Fits12, Read12, ReadP12. -/
import Derived.Test.YtolfkhflbjnakaaGreatDoorNAQ08
import Derived.Test.YtolfkhflbjnakaaGreatDoorNAQ12
import Derived.BigCall
import Derived.Laws.Small
import Derived.Shelf.Abstract
import Derived.Deep.RegionWith
import Derived.Test.YtolfkhflbjnakaaGreatDoorNAQ07
import Derived.Test.YtolfkhflbjnakaaGreatDoorNAQ06

/- A fold over a query, of grades: what is made of it, of what was made of its kids. -/
namespace Go.Proofs.YtolfkhflbjnakaaGreatDoor
open Go Go.RowKit
set_option linter.unusedVariables false

/-- Every kid of one that holds P does; few kids. -/
def Inner (P : Qy → Prop) : Prop := ∀ q, P q → (kidsOf q).length ≤ 9 ∧ ∀ a ∈ kidsOf q, P a
/-- What the function answers of a query, of what it answered of its kids. -/
def OneG (nm : Nat) (cm : Array Value) (P : Qy → Prop) (G : Qy → Bool × Nat) (w0 : World) : Prop := ∀ q v wr A c, P q → Below w0.heap.size w0 wr → QIn wr q v → GRow wr A ((kidsOf q).map G) → (kidsOf q).length ≤ c →
  Calls Tryz.prog nm (#[v, .slice A (kidsOf q).length c] ++ cm) wr (GaveG (G q) wr)
def FoldGRel (G : Qy → Bool × Nat) (ks : List Qy) (base : Nat) (w1 : World) (u i : Value) (wr : World) : Prop :=
  ∃ j : Nat, j ≤ ks.length ∧ i = .int .i64 (j : Int) ∧ OwnGr base wr u ((ks.take j).map G) ∧ Below w1.heap.size w1 wr

set_option maxHeartbeats 4000000 in
set_option maxRecDepth 100000 in
theorem fold_grade (nm : Nat) (em : ∀ args w, (callFunc nm args).run Tryz.prog w = .ok (.enter nm args) w) (cm : Array Value) (P : Qy → Prop) (G : Qy → Bool × Nat) (w0 : World) (hP : Inner P) (hone : OneG nm cm P G w0) (n : Nat) : ∀ (q : Qy) (v : Value) (w : World), deepQ q ≤ n → P q → Below w0.heap.size w0 w → QIn w q v →
    Calls Tryz.prog 92 #[v, .func (.func nm) #[] cm] w (GaveG (G q) w) := by
  induction n with
  | zero => intro q v w h; have := deepQ_pos q; omega
  | succ n ih =>
    intro q v w hd hp hw hq
    have hq0 := hq
    obtain ⟨k, t, ws, ks, f, x, A, c, K, d, ds, rfl, rfl, hf, hx, hc, hdd, hA, hK, hks⟩ := hq.open_
    obtain ⟨h9, hkp⟩ := hP _ hp
    have h9 : ks.length ≤ 9 := h9
    obtain ⟨w1, hw1⟩ : ∃ w1, w1 = (boxQ w k f x A ws.length c K ks.length d).alloc (.cells #[.bool false, .int .i64 0] 85) := ⟨_, rfl⟩
    have hb1 : Below w.heap.size w w1 := by rw [hw1]; exact boxQ_below.alloc (by rw [boxQ_size]; omega) _
    have hs1 : w1.heap.size = w.heap.size + 2 := by rw [hw1]; simp [boxQ]
    have hres : ResG w1 (w.heap.size + 1) := by
      unfold ResG
      rw [hw1]
      have := heap_alloc_new (boxQ w k f x A ws.length c K ks.length d) (.cells #[.bool false, .int .i64 0] 85)
      rwa [boxQ_size] at this
    have HB : Hid (∀ wr, Below w1.heap.size w1 wr → Below w.heap.size w wr ∧ wr.cell? ⟨w.heap.size, 0, none⟩ = some (.int .i64 k) ∧ wr.cell? ⟨w.heap.size, 1, none⟩ = some (.string f) ∧ wr.cell? ⟨w.heap.size, 2, none⟩ = some (.string x) ∧ wr.cell? ⟨w.heap.size, 3, none⟩ = some (.slice A ws.length c) ∧ wr.cell? ⟨w.heap.size, 4, none⟩ = some (.slice K ks.length d)) := Lib.hid fun wr h => by
      have h2 : Below (boxQ w k f x A ws.length c K ks.length d).heap.size (boxQ w k f x A ws.length c K ks.length d) w1 := by rw [hw1]; exact (Below.refl _ _).alloc (Nat.le_refl _) _
      exact boxQ_of (h2.trans (h.mono h2.size))
    have HRES : Hid (∀ wr, Below w1.heap.size w1 wr → _) := Lib.hid fun wr h => resG (G (.mk k t ws ks)) hb1 hres (by omega) h
    have HK := Lib.hid (kids_at hK hks hb1)
    have HIH : Hid (∀ (i : Nat) (hi : i < ks.length) (v : Value) (wr : World), Below w.heap.size w wr → QIn wr ks[i] v → Calls Tryz.prog 92 #[v, .func (.func nm) #[] cm] wr (GaveG (G ks[i]) wr)) :=
      Lib.hid fun i hi v wr hb hv => ih ks[i] v wr (deep_kid hd hi) (hkp _ (List.getElem_mem hi)) (hw.trans (hb.mono hw.size)) hv
    have HONE : Hid (∀ wr, Below w.heap.size w wr → ∀ B c', GRow wr B (ks.map G) → ks.length ≤ c' → Calls Tryz.prog nm (#[qV k f x A ws.length c K ks.length d, .slice B ks.length c'] ++ cm) wr (GaveG (G (.mk k t ws ks)) wr)) :=
      Lib.hid fun wr hb B c' hr hc' => hone (.mk k t ws ks) _ wr B c' hp (hw.trans (hb.mono hw.size)) (hq0.later hb) hr hc'
    obtain ⟨g, hg⟩ : ∃ g, g = G (.mk k t ws ks) := ⟨_, rfl⟩
    rw [← hg] at HRES HONE ⊢
    have HW1 := Lib.hid hw1
    obtain ⟨j0, hj0, hj1, hj2, hj3⟩ := info_parts info_grade
    obtain ⟨hb0, a0, a1, a2, a3, a4⟩ := HB.out _ (Below.refl _ _)
    clear hw1 hg hb1 hres hq hq0 hf hx hc hdd hA hK hks hkp hd ih hone hP hp hw hb0
    go_enter Tryz.func92, Tryz.ntmps92
    go_wp2_with fail
    rw [show (w.alloc _).alloc _ = w1 from HW1.out.symm]
    go_wp2_with fail
    clear a0 a1 a2 a3 a4
    go_loopw [5, 11] (fun u i wr => FoldGRel G ks (w.heap.size + 2) w1 u i wr) (fun _ i _ => ks.length - (intOf i).toNat)
    case atStart => exact ⟨0, by omega, rfl, OwnGr.nil, Below.refl _ _⟩
    case round =>
      obtain ⟨j, hj, rfl, hown, hbw⟩ := hrel
      obtain ⟨hb0, a0, a1, a2, a3, a4⟩ := HB.out _ hbw
      have HB0 := Lib.hid hb0
      clear hb0
      by_cases hlt : j < ks.length
      · obtain ⟨b, off, k', f', x', A', n', c', K', m', d', e', hbl, hv, c0, c1, c2, c3, c4⟩ := HK.out _ hbw j hlt
        subst e'
        have hln : ((ks.take j).map G).length = j := by rw [List.length_map, List.length_take]; omega
        have hown' := hown
        unfold OwnGr at hown'
        rw [hln] at hown'
        obtain ⟨A5, c5, rfl, -⟩ := owned_row hown'
        obtain ⟨g1, hg1⟩ : ∃ g1, g1 = G ks[j] := ⟨_, rfl⟩
        have HC : Hid (∀ w2, Below wr.heap.size wr w2 → Calls Tryz.prog 92 #[qV k' f' x' A' n' c' K' m' d', .func (.func nm) #[] cm] w2 (GaveG g1 w2)) := Lib.hid fun w2 h => by
          rw [hg1]
          exact HIH.out j hlt _ w2 (HB0.out.trans (h.mono HB0.out.size)) (hv.later h)
        have htk : (ks.take (j + 1)).map G = (ks.take j).map G ++ [g1] := by rw [List.take_succ_eq_append_getElem hlt, List.map_append, hg1]; rfl
        obtain ⟨cs, hcs⟩ : ∃ cs, cs = grC ((ks.take j).map G) := ⟨_, rfl⟩
        rw [← hcs] at hown'
        obtain ⟨gb, gn⟩ := g1
        have HT : Hid (∀ wx vx, wx.ownsRow (w.heap.size + 2) 85 2 vx (j + 1) (cs ++ [.bool gb, .int .i64 (gn : Int)]) → OwnGr (w.heap.size + 2) wx vx ((ks.take (j + 1)).map G)) := Lib.hid fun wx vx h => by
          unfold OwnGr
          rw [htk, grC_append, ← hcs, List.length_append, hln]
          exact h
        have HO := Lib.hid hown'
        have HBW := Lib.hid hbw
        have i0 : (0 : Int) ≤ j := by omega
        have i3 : (j : Int) < ks.length := by omega
        have hz : w.heap.size + 2 ≤ wr.heap.size := by have := hbw.size; omega
        clear hv hbw hown hown' hg1 htk hcs hln
        go_wp2_with (first
          | (go_at_call 92; (with_reducible refine (HC.out _ ((Below.refl _ _).alloc (Nat.le_refl _) _)).mono ?_); rintro e w3 ⟨rfl, hb3⟩
             have HB3 : Hid (Below wr.heap.size wr w3) := Lib.hid (((Below.refl _ _).alloc (Nat.le_refl _) _).trans (hb3.mono (by simp)))
             clear hb3)
          | (at_builtin; refine wpList_append_lies _ rfl (.tmp 15) (.tmp 19) 120 rfl (w.heap.size + 2) 85 j0 _ 2 16 Tryz.underlying120 hj0 hj1 hj2 hj3 rfl (by omega) (.slice A5 j c5) j cs rfl ((owned_below HO.out HB3.out).alloc _)
               ⟨w3.heap.size, 0, none⟩ 1 1 [.bool gb, .int .i64 (gn : Int)] rfl rfl (World.news_of_block (cs := #[.bool gb, .int .i64 (gn : Int)]) (t := 85) (fr := (0, 0)) (heap_alloc_new w3 _)) (by intro y hy; simp only [List.mem_cons, List.mem_nil_iff, or_false] at hy; rcases hy with rfl | rfl <;> rfl)
               (by omega) (by unfold maxLen; omega) (by omega) (by have := HB3.out.size; simp; omega) (w3.heap.size + 1) (by simp) ?_
             intro gg cap w8 hown8 hgrow hat8 hlt8
             have hb8 : Below (w.heap.size + 2) wr w8 := ((HB3.out.mono hz).alloc (by have := HB3.out.size; omega) _).grown hgrow (by have := HB3.out.size; simp; omega) (fun k hk => (HO.out.lt k hk).1)
             have HB8 := Lib.hid hb8
             have HO8 := Lib.hid (HT.out _ _ hown8)
             clear hb8 hown8 hgrow hat8 hlt8))
        go_roundw
        case rel => exact ⟨j + 1, by omega, by go_num, HO8.out, by rw [hs1] at HBW ⊢; exact HBW.out.trans HB8.out⟩
        case measure => simp [intOf]; omega
      · obtain rfl : j = ks.length := by omega
        rw [List.take_length] at hown
        obtain ⟨B5, c5, rfl, hc5, hr5⟩ := hown.row
        rw [List.length_map] at hc5 ⊢
        have HC : Hid (Calls Tryz.prog nm (#[qV k f x A ws.length c K ks.length d, .slice B5 ks.length c5] ++ cm) wr (GaveG g wr)) := Lib.hid (HONE.out wr HB0.out B5 c5 hr5 hc5)
        obtain ⟨gb, gn⟩ := g
        have HBW := Lib.hid hbw
        clear hr5 hown hbw
        go_wp2_with (go_at_fn nm; (with_reducible refine HC.out.mono ?_); rintro e w3 ⟨rfl, hb3⟩; obtain ⟨⟨r0, r1, q0, q1⟩, hres, s0, s1⟩ := HRES.out w3 (HBW.out.trans (hb3.mono HBW.out.size)); have HR := Lib.hid hres; have S0 := Lib.hid s0; have S1 := Lib.hid s1; clear hres s0 s1 hb3)
        unfold set2 at S0 S1 HR
        exact bodyPost_ret (v := gV (gb, gn)) (by simp [results, Tryz.results92, go_sem, S0.out, S1.out]) rfl HR.out
end Go.Proofs.YtolfkhflbjnakaaGreatDoor

/- How a document fits a query, of how it fits the kids: what is done is looked up by kind. -/
namespace Go.Proofs.YtolfkhflbjnakaaGreatDoor
open Go Go.RowKit
set_option linter.unusedVariables false

/-- What the closure sees: the map of kinds in a variable, a document in another. -/
structure GAt (w : World) (V Db B b2 g2 b3 g3 b4 g4 : Nat) (id : Int) (D : Option Addr) (dn dc : Nat) (l : List Fd) : Prop where
  kinds : KindsAt w B b2 g2 b3 g3 b4 g4
  var : w.heap[V]? = some (.cells #[.map (some B)] 55 (0, 0))
  doc : DocIn w Db id D dn dc l
section
variable {w w' : World} {V Db B b2 g2 b3 g3 b4 g4 : Nat} {id : Int} {D : Option Addr} {dn dc : Nat} {l : List Fd}
theorem GAt.below (h : GAt w V Db B b2 g2 b3 g3 b4 g4 id D dn dc l) (hb : Below w.heap.size w w') : GAt w' V Db B b2 g2 b3 g3 b4 g4 id D dn dc l :=
  ⟨h.kinds.below hb, (hb.block V (Array.getElem?_eq_some_iff.1 h.var).1).trans h.var, h.doc.later hb⟩
theorem GAt.cells (h : GAt w V Db B b2 g2 b3 g3 b4 g4 id D dn dc l) : w.cell? ⟨V, 0, none⟩ = some (.map (some B)) ∧ w.cell? ⟨Db, 0, none⟩ = some (.int .i64 id) ∧ w.cell? ⟨Db, 1, none⟩ = some (.slice D dn dc) :=
  ⟨by simp [World.cell?, h.var], h.doc.cells⟩
end

theorem fld_grade (nb nm n2 n3 n4 : Nat) (cm c4 : Array Value) (w : World) : Sem.run Tryz.prog (Instr.field 65 (kindV nb nm n2 n3 n4 cm c4) 4) w = .ok (.func (.func n4) #[] c4) w := by
  simp [Instr.field, go_sem, part, asAgg]
theorem fld_terms (nb nm n2 n3 n4 : Nat) (cm c4 : Array Value) (w : World) : Sem.run Tryz.prog (Instr.field 65 (kindV nb nm n2 n3 n4 cm c4) 3) w = .ok (.func (.func n3) #[] #[]) w := by
  simp [Instr.field, go_sem, part, asAgg]
theorem fld_text (nb nm n2 n3 n4 : Nat) (cm c4 : Array Value) (w : World) : Sem.run Tryz.prog (Instr.field 65 (kindV nb nm n2 n3 n4 cm c4) 2) w = .ok (.func (.func n2) #[] #[]) w := by
  simp [Instr.field, go_sem, part, asAgg]
theorem fld_fits (g : Bool × Nat) (w : World) : Sem.run Tryz.prog (Instr.field 85 (gV g) 0) w = .ok (.bool g.1) w := by
  simp [Instr.field, go_sem, part, asAgg]
theorem fld_score (g : Bool × Nat) (w : World) : Sem.run Tryz.prog (Instr.field 85 (gV g) 1) w = .ok (.int .i64 (g.2 : Int)) w := by
  simp [Instr.field, go_sem, part, asAgg]
set_option maxHeartbeats 2000000 in
set_option maxRecDepth 100000 in
theorem graded1_kind {w : World} {V Db B b2 g2 b3 g3 b4 g4 : Nat} {id : Int} {D : Option Addr} {dn dc : Nat} {l : List Fd} (ha : GAt w V Db B b2 g2 b3 g3 b4 g4 id D dn dc l) (k : Int) (f x : ByteArray) (A : Option Addr) (n c : Nat) (K : Option Addr) (m d : Nat) (G : Option Addr) (gn gc : Nat) (nb nm n2 n3 n4 : Nat) (cm c4 : Array Value) (g : Bool × Nat)
    (hl : ∀ wr, Below w.heap.size w wr → (Instr.lookup 55 (.map (some B)) (.int .i64 k) false).run Tryz.prog wr = .ok (kindV nb nm n2 n3 n4 cm c4) wr)
    (e4 : ∀ args w, (callFunc n4 args).run Tryz.prog w = .ok (.enter n4 args) w)
    (hc : ∀ wr, Below w.heap.size w wr → Calls Tryz.prog n4 (#[qV k f x A n c K m d, docV id D dn dc, .slice G gn gc] ++ c4) wr (GaveG g wr)) :
    Calls Tryz.prog 93 #[qV k f x A n c K m d, .slice G gn gc, .pointer (some ⟨V, 0, none⟩), .pointer (some ⟨Db, 0, none⟩)] w (GaveG g w) := by
  obtain ⟨w1, hw1⟩ : ∃ w1, w1 = (boxQ w k f x A n c K m d).alloc (.cells #[.bool false, .int .i64 0] 85) := ⟨_, rfl⟩
  have hb1 : Below w.heap.size w w1 := by rw [hw1]; exact boxQ_below.alloc (by rw [boxQ_size]; omega) _
  have hres : ResG w1 (w.heap.size + 1) := by
    unfold ResG
    rw [hw1]
    have := heap_alloc_new (boxQ w k f x A n c K m d) (.cells #[.bool false, .int .i64 0] 85)
    rwa [boxQ_size] at this
  have h2 : Below (boxQ w k f x A n c K m d).heap.size (boxQ w k f x A n c K m d) w1 := by rw [hw1]; exact (Below.refl _ _).alloc (Nat.le_refl _) _
  obtain ⟨-, a0, a1, a2, a3, a4⟩ := boxQ_of h2
  obtain ⟨b0, b1, b2'⟩ := (ha.below hb1).cells
  have hl1 := hl w1 hb1
  have hf1 := fld_grade nb nm n2 n3 n4 cm c4
  have HRES : Hid (∀ wr, Below w1.heap.size w1 wr → _) := Lib.hid fun wr h => resG g hb1 hres (by omega) h
  have HC := Lib.hid (hc w1 hb1)
  have HW1 := Lib.hid hw1
  obtain ⟨gb, gg⟩ := g
  clear hw1 hres h2 hb1 hc hl ha
  go_enter Tryz.func93, Tryz.ntmps93
  go_upto_region 1 with fail
  rw [show (w.alloc _).alloc _ = w1 from HW1.out.symm]
  go_wp2_with (go_at_fn n4; (with_reducible refine HC.out.mono ?_); rintro e w3 ⟨rfl, hb3⟩; obtain ⟨⟨r0, r1, q0, q1⟩, hres, s0, s1⟩ := HRES.out w3 hb3; have HR := Lib.hid hres; have S0 := Lib.hid s0; have S1 := Lib.hid s1; clear hres s0 s1 hb3)
  unfold set2 at S0 S1 HR
  exact bodyPost_ret (v := gV (gb, gg)) (by simp [results, Tryz.results93, go_sem, S0.out, S1.out]) rfl HR.out

/-- One that may be, somewhere. -/
def MayH (q : Qy) : Prop := ∃ d, 1 ≤ d ∧ mayQ d q = 0
theorem mayH_inner : Inner MayH := fun q ⟨d, hd, hm⟩ => by
  obtain ⟨k, t, ws, ks⟩ := q
  obtain ⟨h1, h2, h3⟩ := mayQ_zero hm
  refine ⟨?_, fun a ha => ⟨d + 1, by omega, mayL_zero h3 a ha⟩⟩
  show ks.length ≤ 9
  rcases own_zero h2 with ⟨_, h, _⟩ | ⟨_, h, _⟩ | ⟨_, _, _, _, _, h, _⟩ <;> omega
theorem mayH_fine {q : Qy} (h : MayH q) : FineQ q := by
  obtain ⟨d, hd, hm⟩ := h
  exact may_fine 7 (by have := mayQ_deep hm; omega) hm
def gradeQ (l : List Fd) (q : Qy) : Bool × Nat := (fitsQ l q, scoreQ l q)

set_option maxRecDepth 100000 in
theorem graded_one {w : World} {V Db B b2 g2 b3 g3 b4 g4 : Nat} {id : Int} {D : Option Addr} {dn dc : Nat} {l : List Fd} (hg : GoodF l) (ha : GAt w V Db B b2 g2 b3 g3 b4 g4 id D dn dc l) :
    OneG 93 #[.pointer (some ⟨V, 0, none⟩), .pointer (some ⟨Db, 0, none⟩)] MayH (gradeQ l) w := by
  intro q v wr G gc hp hb hq hr hgc
  obtain ⟨k, t, ws, ks, f, x, A, c, K, d, ds, rfl, rfl, hf, hx, hcc, hdd, hA, hK, hks⟩ := hq.open_
  have har := ha.below hb
  obtain ⟨D0, hD0, hm⟩ := hp
  obtain ⟨h1, ho, h3⟩ := mayQ_zero hm
  have hsz := may_size hD0 hm
  rw [sizeQ] at hsz
  have hfr : FRow wr wr.heap.size D l := har.doc.row
  have hdl : l.length = dn := har.doc.len
  have hmost : Most l 500 := hg.wordsS
  have hsum : scoreL l ks ≤ 1000000000 := by have := score_mostL hmost ks; omega
  have hrow : ∀ w', Below wr.heap.size wr w' → FRow w' w'.heap.size D l := fun w' h => hfr.later h
  have hws : ∀ w', Below wr.heap.size wr w' → Row w' w'.heap.size A (strs ws) := fun w' h => (Row.below (RowP.row hA fun _ h => h) h).more h.size
  have hgr : ∀ w', Below wr.heap.size wr w' → GRow w' G (ks.map (gradeQ l)) := fun w' h => GRow.later hr h
  have hfs : fitS (ks.map (gradeQ l)) = fitL l ks := fitS_map l ks
  have hss : sumS (ks.map (gradeQ l)) = scoreL l ks := sumS_map l ks
  have hln : (ks.map (gradeQ l)).length = ks.length := List.length_map _
  have hk9 : ks.length ≤ 9 := by rcases own_zero ho with ⟨_, h, _⟩ | ⟨_, h, _⟩ | ⟨_, _, _, _, _, h, _⟩ <;> omega
  show Calls Tryz.prog 93 #[qV k f x A ws.length c K ks.length d, .slice G ks.length gc, .pointer (some ⟨V, 0, none⟩), .pointer (some ⟨Db, 0, none⟩)] wr (GaveG (gradeQ l (.mk k t ws ks)) wr)
  have hkid : ∀ (g gb : Nat), 2 ≤ k → k ≤ 4 → (∀ args w, (callFunc g args).run Tryz.prog w = .ok (.enter g args) w) → wr.heap[gb]? = some (.cells #[.func (.func g) #[] #[]] 80 (0, 0)) →
      (∀ w : World, Calls Tryz.prog g #[.int .i64 (fitL l ks : Int), .int .i64 (ks.length : Int)] w fun e w' => e = .returned (.bool (enoughQ k (fitL l ks) ks.length)) ∧ w' = w) →
      ∀ w', Below wr.heap.size wr w' → Calls Tryz.prog 107 (#[qV k f x A ws.length c K ks.length d, docV id D dn dc, .slice G ks.length gc] ++ #[.pointer (some ⟨gb, 0, none⟩)]) w' (GaveG (gradeQ l (.mk k t ws ks)) w') := by
    intro g gb h2 h4 eg hgb hen w' hb'
    have hgb' : w'.heap[gb]? = some (.cells #[.func (.func g) #[] #[]] 80 (0, 0)) := (hb'.block gb (Array.getElem?_eq_some_iff.1 hgb).1).trans hgb
    have := query_kidsGrade1 g eg (enoughQ k (fitL l ks) ks.length) (ks.map (gradeQ l)) k f x A ws.length c K ks.length d id D dn dc G ks.length gc gb w' hgb' (by rw [hfs, hln]; exact hen) hln hk9 (by rw [hss]; exact hsum) (hgr w' hb')
    rw [hss] at this
    obtain ⟨e1, e2⟩ := grade_kids (f := l) t ws (ks := ks) h2 h4
    have e : gradeQ l (.mk k t ws ks) = if enoughQ k (fitL l ks) ks.length = true then (true, scoreL l ks) else (false, 0) := by
      rw [gradeQ, e1, e2]
      cases enoughQ k (fitL l ks) ks.length <;> rfl
    rw [e]
    exact this
  have hk' : k = 1 ∨ k = 5 ∨ k = 2 ∨ k = 3 ∨ k = 4 := by rcases own_zero ho with ⟨h, _⟩ | ⟨h, _⟩ | ⟨ha, hb, _⟩ <;> omega
  rcases hk' with rfl | rfl | rfl | rfl | rfl
  · refine graded1_kind har 1 f x A ws.length c K ks.length d G ks.length gc _ _ _ _ _ _ _ (gradeQ l (.mk 1 t ws ks)) (fun w' hb => run_lookup_ki (har.kinds.below hb) find_kind.1 false) (enters_of Tryz.func61 (by kernel_rfl) rfl) fun w' hb => ?_
    obtain ⟨e1, e2⟩ := grade_term l t ws ks
    rw [gradeQ, e1, e2]
    exact query_termGrade hg 1 t f x A _ c K _ d id D dn dc _ w' hf hx hdl (hrow w' hb)
  · refine graded1_kind har 5 f x A ws.length c K ks.length d G ks.length gc _ _ _ _ _ _ _ (gradeQ l (.mk 5 t ws ks)) (fun w' hb => run_lookup_ki (har.kinds.below hb) find_kind.2.1 false) (enters_of Tryz.func66 (by kernel_rfl) rfl) fun w' hb => ?_
    have h6 : ws.length ≤ 9 := by rcases own_zero ho with ⟨h, _⟩ | ⟨_, _, _, _, _, _, h⟩ | ⟨ha, hb, _⟩ <;> omega
    obtain ⟨e1, e2⟩ := grade_phrase l t ws ks
    rw [gradeQ, e1, e2]
    exact query_phraseGrade hg 5 t f x A ws _ c K _ d id D dn dc _ w' hf hdl (hrow w' hb) rfl (hws w' hb) h6 hcc
  · exact graded1_kind har 2 f x A ws.length c K ks.length d G ks.length gc _ _ _ _ _ _ _ (gradeQ l (.mk 2 t ws ks)) (fun w' hb => run_lookup_ki (har.kinds.below hb) find_kind.2.2.1 false) (enters_of Tryz.func107 (by kernel_rfl) rfl)
      (hkid _ _ (by decide) (by decide) (enters_of Tryz.func72 (by kernel_rfl) rfl) har.kinds.f2 fun w => (kinds_enough 2 _ _ w).1 rfl)
  · exact graded1_kind har 3 f x A ws.length c K ks.length d G ks.length gc _ _ _ _ _ _ _ (gradeQ l (.mk 3 t ws ks)) (fun w' hb => run_lookup_ki (har.kinds.below hb) find_kind.2.2.2.1 false) (enters_of Tryz.func107 (by kernel_rfl) rfl)
      (hkid _ _ (by decide) (by decide) (enters_of Tryz.func73 (by kernel_rfl) rfl) har.kinds.f3 fun w => (kinds_enough 3 _ _ w).2.1 rfl)
  · exact graded1_kind har 4 f x A ws.length c K ks.length d G ks.length gc _ _ _ _ _ _ _ (gradeQ l (.mk 4 t ws ks)) (fun w' hb => run_lookup_ki (har.kinds.below hb) find_kind.2.2.2.2 false) (enters_of Tryz.func107 (by kernel_rfl) rfl)
      (hkid _ _ (by decide) (by decide) (enters_of Tryz.func74 (by kernel_rfl) rfl) har.kinds.f4 fun w => (kinds_enough 4 _ _ w).2.2 rfl)
end Go.Proofs.YtolfkhflbjnakaaGreatDoor

/- Package query's May: which queries may be. -/
namespace Go.Proofs.YtolfkhflbjnakaaGreatDoor
open Go Go.RowKit
set_option linter.unusedVariables false

theorem below_drew {w w' : World} (h : Below w.drew.heap.size w.drew w') : Below w.heap.size w w' := ⟨h.os, h.tape, h.output, h.size, h.block⟩
theorem own_is_term {t : Tm} {ws : List Nm} {m : Nat} : ownQ 1 t ws m = if bareT ws.length m = false then 9 else mayTv t := by
  rw [own_leaf (.inl rfl)]
  unfold bareT mayTv
  by_cases h1 : m = 0
  · by_cases h2 : ws = []
    · subst h1 h2; simp
    · have : ws.length ≠ 0 := fun h => h2 (List.eq_nil_of_length_eq_zero h)
      simp [h1, h2, this]
  · have : 0 < m := by omega
    simp [h1, this]
theorem own_is_phrase {t : Tm} {ws : List Nm} {m : Nat} {x : ByteArray} (hx : x.data.toList = t.2) : ownQ 5 t ws m = if bareP x m = false then 9 else mayPv t ws := by
  rw [own_leaf (.inr rfl)]
  unfold bareP mayPv
  rw [hx]
  by_cases h1 : m = 0
  · by_cases h2 : t.2 = []
    · subst h1; simp [h2]
    · simp [h1, h2]
  · have : 0 < m := by omega
    simp [h1, this]
theorem own_is_kids {k : Int} {t : Tm} {ws : List Nm} {m : Nat} {f x : ByteArray} (hf : f.data.toList = t.1) (hx : x.data.toList = t.2) (h1 : 2 ≤ k) (h2 : k ≤ 4) : ownQ k t ws m = if bareK f x ws.length = false then 9 else mayKv (if k = 4 then 1 else 8) m := by
  obtain ⟨t1, t2⟩ := t
  rw [ownQ, if_neg (by omega), if_pos ⟨h1, h2⟩]
  unfold bareK mayKv
  rw [hf, hx]
  by_cases h3 : ws = []
  · subst h3
    by_cases h4 : t1 = [] ∧ t2 = []
    · obtain ⟨rfl, rfl⟩ := h4
      by_cases h5 : m = 0
      · simp [h5]
      · by_cases h6 : k = 4
        · subst h6
          by_cases h7 : 1 < m
          · simp [h5, h7]
          · have : ¬ 8 < m := by omega
            simp [h5, h7, this]
        · simp [h5, h6]
    · simp [h4]
  · have : ws.length ≠ 0 := fun h => h3 (List.eq_nil_of_length_eq_zero h)
    simp [h3, this]
theorem mayQ_by {D : Nat} {k : Int} {t : Tm} {ws : List Nm} {ks : List Qy} {bv : Bool} {E : Int} (hD : D ≤ 6) (h : ownQ k t ws ks.length = if bv = false then 9 else E) : (if bv = false then 9 else if E ≠ 0 then E else mayL (D + 1) ks) = mayQ D (.mk k t ws ks) := by
  have h6 : ¬ 6 < D := by omega
  rw [mayQ, if_neg h6, h]
  cases bv with
  | false => simp
  | true => simp

set_option maxHeartbeats 4000000 in
set_option maxRecDepth 100000 in
theorem query_mayAt (n : Nat) : ∀ (q : Qy) (D : Nat) (v : Value) (w : World) (B b2 g2 b3 g3 b4 g4 : Nat), deepQ q ≤ n → D ≤ 1000 → FineQ q → QIn w q v → KindsAt w B b2 g2 b3 g3 b4 g4 →
    Calls Tryz.prog 33 #[.map (some B), v, .int .i64 (D : Int)] w fun e w' => e = .returned (.int .i64 (mayQ D q)) ∧ Below w.heap.size w w' := by
  induction n with
  | zero => intro q D v w B b2 g2 b3 g3 b4 g4 h; have := deepQ_pos q; omega
  | succ n ih =>
    intro q D v w B b2 g2 b3 g3 b4 g4 hd hD hfine hq hkd
    obtain ⟨k, t, ws, ks, f, x, A, c, K, d, ds, rfl, rfl, hf, hx, hc, hdd, hA, hK, hks⟩ := hq.open_
    rw [FineQ] at hfine
    obtain ⟨hft, hfw, h9, hfl⟩ := hfine
    have hfs : f.data.toList.length = f.size := Array.length_toList
    have hxs : x.data.toList.length = x.size := Array.length_toList
    have hs : f.size ≤ 100000000 ∧ x.size ≤ 100000000 := ⟨by rw [← hfs, hf]; exact hft.1, by rw [← hxs, hx]; exact hft.2⟩
    by_cases h6 : 6 < D
    · have hR : mayQ D (.mk k t ws ks) = 8 := by rw [mayQ, if_pos h6]
      rw [hR]
      have e6 : decide ((6 : Int) < (D : Int)) = true := by simp; omega
      clear hR hf hx hc hdd hA hK hks hft hfw hfl hd hq ih hfs hxs hs
      go_enter Tryz.func33, Tryz.ntmps33
      go_wp2_with fail
      go_ret
      exact ⟨rfl, (Below.refl _ _).alloc (Nat.le_refl _) _⟩
    · have hD6 : D ≤ 6 := by omega
      have hkids : KidsMay w B D ks := fun i hi v wr hb hv => by
        have := ih ks[i] (D + 1) v wr B b2 g2 b3 g3 b4 g4 (deep_kid hd hi) (by omega) (fineL_mem hfl (List.getElem_mem hi)) hv (hkd.below hb)
        rwa [show ((D + 1 : Nat) : Int) = (D : Int) + 1 by omega] at this
      have hrow : ∀ wr, Below w.heap.size w wr → Row wr wr.heap.size A (strs ws) := fun wr h => (Row.below (RowP.row hA fun _ h => h) h).more h.size
      by_cases hk : k < 1 ∨ 5 < k
      · have hR : mayQ D (.mk k t ws ks) = 9 := by rw [mayQ, if_neg h6, ownQ, if_pos hk]; rfl
        rw [hR]
        have e6 : decide ((6 : Int) < (D : Int)) = false := by simp; omega
        have hl1 := run_lookup_ki (hkd.below (boxQ_below (w := w) (k := k) (f := f) (x := x) (A := A) (n := ws.length) (c := c) (K := K) (m := ks.length) (d := d))) (find_kind_no (b2 := b2) (g2 := g2) (b3 := b3) (g3 := g3) (b4 := b4) (g4 := g4) hk) true
        simp only [if_true] at hl1
        unfold boxQ at hl1
        clear hR hf hx hc hdd hA hK hks hft hfw hfl hd hq ih hfs hxs hs hk hkids hrow hkd h6
        go_enter Tryz.func33, Tryz.ntmps33
        go_wp2_with fail
        go_ret
        exact ⟨rfl, ((Below.refl _ _).alloc (Nat.le_refl _) _).alloc (by simp) _⟩
      · have hk' : k = 1 ∨ k = 5 ∨ k = 2 ∨ k = 3 ∨ k = 4 := by omega
        rcases hk' with rfl | rfl | rfl | rfl | rfl
        · refine (mayAt_kind B D 1 f x A ws.length c K ks d ds w _ _ _ _ _ _ _ (bareT ws.length ks.length) (mayTv t) hD6 h9 (fun wr hb => run_lookup_ki (hkd.below hb) find_kind.1 true)
            (enters_of Tryz.func57 (by kernel_rfl) rfl) (enters_of Tryz.func58 (by kernel_rfl) rfl)
            (fun wr hb => query_bareTerm 1 f x A _ c K _ d wr) (fun _ wr hb => query_mayTerm 1 t f x A _ c K _ d wr hf hx hs) hK hks hkids).mono fun e w' ⟨he, hb⟩ => ⟨?_, hb⟩
          rw [he, mayQ_by hD6 own_is_term]
        · refine (mayAt_kind B D 5 f x A ws.length c K ks d ds w _ _ _ _ _ _ _ (bareP x ks.length) (mayPv t ws) hD6 h9 (fun wr hb => run_lookup_ki (hkd.below hb) find_kind.2.1 true)
            (enters_of Tryz.func62 (by kernel_rfl) rfl) (enters_of Tryz.func63 (by kernel_rfl) rfl)
            (fun wr hb => query_barePhrase 5 f x A _ c K _ d wr) (fun _ wr hb => query_mayPhrase 5 t f x A _ c K _ d wr ws hf hs.1 rfl (hrow wr hb) hfw) hK hks hkids).mono fun e w' ⟨he, hb⟩ => ⟨?_, hb⟩
          rw [he, mayQ_by hD6 (own_is_phrase hx)]
        · have ho : ownQ 2 t ws ks.length = if bareK f x ws.length = false then 9 else mayKv 8 ks.length := own_is_kids hf hx (by omega) (by omega)
          refine (mayAt_kind B D 2 f x A ws.length c K ks d ds w _ _ _ _ _ _ _ (bareK f x ws.length) (mayKv 8 ks.length) hD6 h9 (fun wr hb => run_lookup_ki (hkd.below hb) find_kind.2.2.1 true)
            (enters_of Tryz.func67 (by kernel_rfl) rfl) (enters_of Tryz.func106 (by kernel_rfl) rfl)
            (fun wr hb => query_bareKids 2 f x A _ c K _ d wr) (fun _ wr hb => query_mayKids1 2 f x A _ c K _ d wr 8 b2 h9 (by omega) (hkd.below hb).m2) hK hks hkids).mono fun e w' ⟨he, hb⟩ => ⟨?_, hb⟩
          rw [he, mayQ_by hD6 ho]
        · have ho : ownQ 3 t ws ks.length = if bareK f x ws.length = false then 9 else mayKv 8 ks.length := own_is_kids hf hx (by omega) (by omega)
          refine (mayAt_kind B D 3 f x A ws.length c K ks d ds w _ _ _ _ _ _ _ (bareK f x ws.length) (mayKv 8 ks.length) hD6 h9 (fun wr hb => run_lookup_ki (hkd.below hb) find_kind.2.2.2.1 true)
            (enters_of Tryz.func67 (by kernel_rfl) rfl) (enters_of Tryz.func106 (by kernel_rfl) rfl)
            (fun wr hb => query_bareKids 3 f x A _ c K _ d wr) (fun _ wr hb => query_mayKids1 3 f x A _ c K _ d wr 8 b3 h9 (by omega) (hkd.below hb).m3) hK hks hkids).mono fun e w' ⟨he, hb⟩ => ⟨?_, hb⟩
          rw [he, mayQ_by hD6 ho]
        · have ho : ownQ 4 t ws ks.length = if bareK f x ws.length = false then 9 else mayKv 1 ks.length := own_is_kids hf hx (by omega) (by omega)
          refine (mayAt_kind B D 4 f x A ws.length c K ks d ds w _ _ _ _ _ _ _ (bareK f x ws.length) (mayKv 1 ks.length) hD6 h9 (fun wr hb => run_lookup_ki (hkd.below hb) find_kind.2.2.2.2 true)
            (enters_of Tryz.func67 (by kernel_rfl) rfl) (enters_of Tryz.func106 (by kernel_rfl) rfl)
            (fun wr hb => query_bareKids 4 f x A _ c K _ d wr) (fun _ wr hb => query_mayKids1 4 f x A _ c K _ d wr 1 b4 h9 (by omega) (hkd.below hb).m4) hK hks hkids).mono fun e w' ⟨he, hb⟩ => ⟨?_, hb⟩
          rw [he, mayQ_by hD6 ho]
end Go.Proofs.YtolfkhflbjnakaaGreatDoor

/- Package query's May: which queries may be. -/
namespace Go.Proofs.YtolfkhflbjnakaaGreatDoor
open Go Go.RowKit
set_option linter.unusedVariables false

set_option maxHeartbeats 2000000 in
set_option maxRecDepth 100000 in
theorem query_May (q : Qy) (v : Value) (w : World) (hd : deepQ q ≤ 1000) (hq : QIn w q v) (hf : FineQ q) :
    Calls Tryz.prog 14 #[v] w fun e w' => e = .returned (.int .i64 (mayQ 1 q)) ∧ Below w.heap.size w w' := by
  have HC : Hid (∀ w1 B b2 g2 b3 g3 b4 g4, Below w.heap.size w w1 → KindsAt w1 B b2 g2 b3 g3 b4 g4 → Calls Tryz.prog 33 #[.map (some B), v, .int .i64 1] w1 fun e w' => e = .returned (.int .i64 (mayQ 1 q)) ∧ Below w1.heap.size w1 w') := Lib.hid fun w1 B b2 g2 b3 g3 b4 g4 h hk => query_mayAt 1000 q 1 v w1 B b2 g2 b3 g3 b4 g4 hd (by omega) hf (hq.later h) hk
  obtain ⟨k, t, ws, ks, f, x, A, c, K, d, ds, e1, rfl, _⟩ := hq.open_
  obtain ⟨w1, hw1⟩ : ∃ w1, w1 = boxQ w k f x A ws.length c K ks.length d := ⟨_, rfl⟩
  have HB : Hid (∀ wr, Below w1.heap.size w1 wr → Below w.heap.size w wr ∧ wr.cell? ⟨w.heap.size, 0, none⟩ = some (.int .i64 k) ∧ wr.cell? ⟨w.heap.size, 1, none⟩ = some (.string f) ∧ wr.cell? ⟨w.heap.size, 2, none⟩ = some (.string x) ∧ wr.cell? ⟨w.heap.size, 3, none⟩ = some (.slice A ws.length c) ∧ wr.cell? ⟨w.heap.size, 4, none⟩ = some (.slice K ks.length d)) := Lib.hid fun wr h => by
    rw [hw1] at h
    exact boxQ_of h
  have HW1 := Lib.hid hw1
  obtain ⟨R, hR⟩ : ∃ R, R = mayQ 1 q := ⟨_, rfl⟩
  rw [← hR] at HC ⊢
  obtain ⟨hb0, a0, a1, a2, a3, a4⟩ := HB.out _ (Below.refl _ _)
  have HB0 := Lib.hid hb0
  clear hq e1 hw1 hR hf hd hb0
  go_enter Tryz.func14, Tryz.ntmps14
  go_wp2_with fail
  rw [show w.alloc _ = w1 from HW1.out.symm]
  go_region_with (first
    | (go_at_call 34; (with_reducible refine (query_kinds _).mono ?_); rintro e w2 ⟨B, b2, g2, b3, g3, b4, g4, rfl, hk, hb2⟩; have HB2 : Hid (Below w1.heap.size w1 w2) := Lib.hid (below_drew hb2); have HKD := Lib.hid hk; clear hk hb2; obtain ⟨hb0, a0, a1, a2, a3, a4⟩ := HB.out _ HB2.out; have HB3 := Lib.hid hb0; clear hb0)
    | (go_at_call 33; (with_reducible refine (HC.out _ _ _ _ _ _ _ _ HB3.out HKD.out).mono ?_); rintro e w3 ⟨rfl, hb3⟩; have HB4 := Lib.hid (HB3.out.trans (hb3.mono HB3.out.size)); clear hb3))
  all_goals
    go_wp2
    go_ret
    exact ⟨rfl, HB4.out⟩
end Go.Proofs.YtolfkhflbjnakaaGreatDoor

/- Package query's Fits and Score, of a query that may be, over a document that may be. -/
namespace Go.Proofs.YtolfkhflbjnakaaGreatDoor
open Go Go.RowKit
set_option linter.unusedVariables false

set_option maxHeartbeats 2000000 in
set_option maxRecDepth 100000 in
theorem query_graded {l : List Fd} (hg : GoodF l) (q : Qy) (v : Value) (id : Int) (D : Option Addr) (dn dc : Nat) (w : World) (hm : mayQ 1 q = 0) (hq : QIn w q v) (hl : l.length = dn) (hr : FRow w w.heap.size D l) :
    Calls Tryz.prog 51 #[v, docV id D dn dc] w (GaveG (gradeQ l q) w) := by
  have hq0 := hq
  obtain ⟨k, t, ws, ks, f, x, A, c, K, d, ds, he, rfl, hf, hx, hcc, hdd, hA, hK, hks⟩ := hq.open_
  obtain ⟨w1, hw1⟩ : ∃ w1, w1 = box3 w k f x A ws.length c K ks.length d id D dn dc := ⟨_, rfl⟩
  have hs1 : w1.heap.size = w.heap.size + 3 := by rw [hw1]; simp [box3, boxQ]
  have HB : Hid (∀ wr, Below w1.heap.size w1 wr → _) := Lib.hid fun wr h => box3_of (gradeQ l q) (wr := wr) (by rw [hs1, hw1] at h; exact h)
  have h0 := HB.out _ (Below.refl _ _)
  have hdeep : deepQ q ≤ 7 := by have := mayQ_deep hm; omega
  have hM := query_May q _ w1 (by omega) (hq0.later h0.1) (may_fine 7 hdeep hm)
  rw [hm] at hM
  have hdoc : DocIn w1 (w.heap.size + 1) id D dn dc l := by
    have hbq : Below w.heap.size w (boxQ w k f x A ws.length c K ks.length d) := boxQ_below
    have := DocIn.made (w := boxQ w k f x A ws.length c K ks.length d) (id := id) (c := dc) hl (hr.later hbq)
    rw [boxQ_size] at this
    rw [hw1]
    exact this.later ((Below.refl _ _).alloc (Nat.le_refl _) _)
  have HF : Hid (∀ w4 V B b2 g2 b3 g3 b4 g4, Below w1.heap.size w1 w4 → KindsAt w4 B b2 g2 b3 g3 b4 g4 → w4.heap[V]? = some (.cells #[.map (some B)] 55 (0, 0)) →
      Calls Tryz.prog 92 #[qV k f x A ws.length c K ks.length d, .func (.func 93) #[] #[.pointer (some ⟨V, 0, none⟩), .pointer (some ⟨w.heap.size + 1, 0, none⟩)]] w4 (GaveG (gradeQ l q) w4)) := Lib.hid fun w4 V B b2 g2 b3 g3 b4 g4 hb hk hv =>
    fold_grade _ (enters_of Tryz.func93 (by kernel_rfl) rfl) _ MayH (gradeQ l) w4 mayH_inner (graded_one hg ⟨hk, hv, hdoc.later hb⟩) 7 q _ w4 hdeep ⟨1, Nat.le_refl _, hm⟩ (Below.refl _ _) (hq0.later (h0.1.trans (hb.mono h0.1.size)))
  obtain ⟨g, hgr⟩ : ∃ g, g = gradeQ l q := ⟨_, rfl⟩
  rw [← hgr] at HB HF ⊢
  obtain ⟨gb, gg⟩ := g
  have HM := Lib.hid hM
  have HW1 := Lib.hid hw1
  have HS1 := Lib.hid hs1
  obtain ⟨-, ⟨a0, a1, a2, a3, a4⟩, -, -, -⟩ := h0
  clear hw1 hs1 hM hq0 he hf hx hcc hdd hA hK hks hdoc hdeep hgr hm hr hl hg
  go_enter Tryz.func51, Tryz.ntmps51
  go_upto_region 1 with fail
  rw [show ((w.alloc _).alloc _).alloc _ = w1 from HW1.out.symm]
  go_wp2_with (first
    | (go_at_call 14; (with_reducible refine HM.out.mono ?_); rintro e w2 ⟨rfl, hb2⟩; have HB2 : Hid (Below w1.heap.size w1 w2) := Lib.hid hb2; clear hb2 a0 a1 a2 a3 a4; obtain ⟨-, ⟨a0, a1, a2, a3, a4⟩, -, -, -⟩ := HB.out _ HB2.out)
    | (go_at_call 34; (with_reducible refine (query_kinds _).mono ?_); rintro e w3 ⟨B, b2, g2, b3, g3, b4, g4, rfl, hk, hb3⟩
       have HB4 : Hid (Below w1.heap.size w1 (w3.alloc (.cells #[.map (some B)] 55))) := Lib.hid ((HB2.out.trans (hb3.mono HB2.out.size)).alloc (by have := HB2.out.size; have := hb3.size; omega) _)
       have HC := Lib.hid (HF.out (w3.alloc (.cells #[.map (some B)] 55)) w3.heap.size B b2 g2 b3 g3 b4 g4 HB4.out (hk.below ((Below.refl _ _).alloc (Nat.le_refl _) _)) (heap_alloc_new _ _))
       clear hk hb3 a0 a1 a2 a3 a4
       obtain ⟨-, ⟨a0, a1, a2, a3, a4⟩, -, -, -⟩ := HB.out _ HB4.out)
    | (go_at_call 92; (with_reducible refine HC.out.mono ?_); rintro e w5 ⟨rfl, hb5⟩; obtain ⟨-, -, -, ⟨r0, r1, q0, q1⟩, hres, s0, s1⟩ := HB.out w5 (HB4.out.trans (hb5.mono HB4.out.size)); have HR := Lib.hid hres; have S0 := Lib.hid s0; have S1 := Lib.hid s1; clear hres s0 s1 hb5))
  unfold set2 at S0 S1 HR
  exact bodyPost_ret (v := gV (gb, gg)) (by simp [results, Tryz.results51, go_sem, S0.out, S1.out]) rfl HR.out
/-- A query's block, a document's block. -/
def box2 (w : World) (k : Int) (f x : ByteArray) (A : Option Addr) (n c : Nat) (K : Option Addr) (m d : Nat) (id : Int) (D : Option Addr) (dn dc : Nat) : World := (boxQ w k f x A n c K m d).alloc (.cells #[.int .i64 id, .slice D dn dc] 46)
theorem box2_of {w : World} {k : Int} {f x : ByteArray} {A K D : Option Addr} {n c m d dn dc : Nat} {id : Int} {wr : World} (h : Below (w.heap.size + 2) (box2 w k f x A n c K m d id D dn dc) wr) :
    Below w.heap.size w wr ∧ (wr.cell? ⟨w.heap.size, 0, none⟩ = some (.int .i64 k) ∧ wr.cell? ⟨w.heap.size, 1, none⟩ = some (.string f) ∧ wr.cell? ⟨w.heap.size, 2, none⟩ = some (.string x) ∧ wr.cell? ⟨w.heap.size, 3, none⟩ = some (.slice A n c) ∧ wr.cell? ⟨w.heap.size, 4, none⟩ = some (.slice K m d)) ∧
    (wr.cell? ⟨w.heap.size + 1, 0, none⟩ = some (.int .i64 id) ∧ wr.cell? ⟨w.heap.size + 1, 1, none⟩ = some (.slice D dn dc)) := by
  have hs1 : (boxQ w k f x A n c K m d).heap.size = w.heap.size + 1 := boxQ_size
  have hb1 : Below (boxQ w k f x A n c K m d).heap.size (boxQ w k f x A n c K m d) wr := ((Below.refl _ _).alloc (Nat.le_refl _) _).trans (h.mono (by rw [hs1]; omega))
  have hd : wr.heap[w.heap.size + 1]? = some (.cells #[.int .i64 id, .slice D dn dc] 46 (0, 0)) := by
    rw [h.block _ (by omega), ← hs1]
    exact heap_alloc_new _ _
  have hbq := boxQ_of hb1
  exact ⟨hbq.1, hbq.2, (two_cells12 hd).1⟩
set_option maxHeartbeats 2000000 in
set_option maxRecDepth 100000 in
theorem query_Fits {l : List Fd} (hg : GoodF l) (q : Qy) (v : Value) (id : Int) (D : Option Addr) (dn dc : Nat) (w : World) (hm : mayQ 1 q = 0) (hq : QIn w q v) (hl : l.length = dn) (hr : FRow w w.heap.size D l) :
    Calls Tryz.prog 27 #[v, docV id D dn dc] w fun e w' => e = .returned (.bool (fitsQ l q)) ∧ Below w.heap.size w w' := by
  have HQ : Hid (∀ w1, Below w.heap.size w w1 → Calls Tryz.prog 51 #[v, docV id D dn dc] w1 (GaveG (gradeQ l q) w1)) := Lib.hid fun w1 hb => query_graded hg q v id D dn dc w1 hm (hq.later hb) hl (hr.later hb)
  obtain ⟨k, t, ws, ks, f, x, A, c, K, d, ds, he, rfl, -⟩ := hq.open_
  obtain ⟨w1, hw1⟩ : ∃ w1, w1 = box2 w k f x A ws.length c K ks.length d id D dn dc := ⟨_, rfl⟩
  have hs1 : w1.heap.size = w.heap.size + 2 := by rw [hw1]; simp [box2, boxQ]
  obtain ⟨hb0, ⟨a0, a1, a2, a3, a4⟩, b0, b1⟩ := box2_of (wr := w1) (by rw [← hs1, ← hw1]; exact Below.refl _ _)
  have HC := Lib.hid (HQ.out w1 hb0)
  have HB := Lib.hid hb0
  have HW1 := Lib.hid hw1
  unfold gradeQ at HC
  have hfl := fld_fits (fitsQ l q, scoreQ l q)
  obtain ⟨F, hF⟩ : ∃ F, F = fitsQ l q := ⟨_, rfl⟩
  obtain ⟨S, hS⟩ : ∃ S, S = scoreQ l q := ⟨_, rfl⟩
  rw [← hF, ← hS] at HC hfl
  rw [← hF]
  clear hw1 hs1 hb0 he hq hF hS hr hl hg hm HQ
  go_enter Tryz.func27, Tryz.ntmps27
  go_upto_region 1 with fail
  rw [show (w.alloc _).alloc _ = w1 from HW1.out.symm]
  go_wp2_with (go_at_call 51; (with_reducible refine HC.out.mono ?_); rintro e w2 ⟨rfl, hb2⟩; have HB2 := Lib.hid (HB.out.trans (hb2.mono HB.out.size)); clear hb2)
  go_ret
  exact ⟨rfl, HB2.out⟩
set_option maxHeartbeats 2000000 in
set_option maxRecDepth 100000 in
theorem query_Score {l : List Fd} (hg : GoodF l) (q : Qy) (v : Value) (id : Int) (D : Option Addr) (dn dc : Nat) (w : World) (hm : mayQ 1 q = 0) (hq : QIn w q v) (hl : l.length = dn) (hr : FRow w w.heap.size D l) :
    Calls Tryz.prog 29 #[v, docV id D dn dc] w fun e w' => e = .returned (.int .i64 (scoreQ l q : Int)) ∧ Below w.heap.size w w' := by
  have HQ : Hid (∀ w1, Below w.heap.size w w1 → Calls Tryz.prog 51 #[v, docV id D dn dc] w1 (GaveG (gradeQ l q) w1)) := Lib.hid fun w1 hb => query_graded hg q v id D dn dc w1 hm (hq.later hb) hl (hr.later hb)
  obtain ⟨k, t, ws, ks, f, x, A, c, K, d, ds, he, rfl, -⟩ := hq.open_
  obtain ⟨w1, hw1⟩ : ∃ w1, w1 = box2 w k f x A ws.length c K ks.length d id D dn dc := ⟨_, rfl⟩
  have hs1 : w1.heap.size = w.heap.size + 2 := by rw [hw1]; simp [box2, boxQ]
  obtain ⟨hb0, ⟨a0, a1, a2, a3, a4⟩, b0, b1⟩ := box2_of (wr := w1) (by rw [← hs1, ← hw1]; exact Below.refl _ _)
  have HC := Lib.hid (HQ.out w1 hb0)
  have HB := Lib.hid hb0
  have HW1 := Lib.hid hw1
  unfold gradeQ at HC
  have hfl := fld_score (fitsQ l q, scoreQ l q)
  obtain ⟨F, hF⟩ : ∃ F, F = fitsQ l q := ⟨_, rfl⟩
  obtain ⟨S, hS⟩ : ∃ S, S = scoreQ l q := ⟨_, rfl⟩
  rw [← hF, ← hS] at HC hfl
  rw [← hS]
  clear hw1 hs1 hb0 he hq hF hS hr hl hg hm HQ
  go_enter Tryz.func29, Tryz.ntmps29
  go_upto_region 1 with fail
  rw [show (w.alloc _).alloc _ = w1 from HW1.out.symm]
  go_wp2_with (go_at_call 51; (with_reducible refine HC.out.mono ?_); rintro e w2 ⟨rfl, hb2⟩; have HB2 := Lib.hid (HB.out.trans (hb2.mono HB.out.size)); clear hb2)
  go_ret
  exact ⟨rfl, HB2.out⟩
end Go.Proofs.YtolfkhflbjnakaaGreatDoor

/- A text that is read: upto, named, phrase. -/
namespace Go.Proofs.YtolfkhflbjnakaaGreatDoor
open Go Go.RowKit Go.Shelf
set_option linter.unusedVariables false

/-- What is left behind upto. -/
def uptoL (c : UInt8) (s : Nm) : Nm := if (cutV c s).2.2 = true then (cutV c s).2.1 else s
set_option maxHeartbeats 1000000 in
set_option maxRecDepth 100000 in
theorem query_upto (c : UInt8) (R : Nat) (s : Nm) (d : Int) (w : World) (h : RdAt w R s d) (hg : Glob w) (hs : s.length < 4294967281) : Calls Tryz.prog 79 #[.pointer (some ⟨R, 0, none⟩), .string ⟨#[c]⟩] w
    fun e w' => e = .returned (.tuple #[.string ⟨(cutV c s).1.toArray⟩, .bool (cutV c s).2.2]) ∧ RdAt w' R (uptoL c s) d ∧ OnlyR R w w' := by
  obtain ⟨c0, c1, f0, f1⟩ := two_cells h
  obtain ⟨x, hx⟩ : ∃ x : ByteArray, x = ⟨s.toArray⟩ := ⟨_, rfl⟩
  have hxs : x.data.toList = s := by rw [hx]
  have hxl : x.size = s.length := by rw [hx]; exact size_nm s
  have HP0 := str_cut c x w (by omega) hg
  rw [hxs] at HP0
  rw [← hx] at c0
  obtain ⟨a, ha⟩ : ∃ a, a = (cutV c s).1 := ⟨_, rfl⟩
  obtain ⟨r, hr⟩ : ∃ r, r = (cutV c s).2.1 := ⟨_, rfl⟩
  obtain ⟨b, hb⟩ : ∃ b, b = (cutV c s).2.2 := ⟨_, rfl⟩
  have hu : uptoL c s = if b = true then r else s := by unfold uptoL; rw [hb, hr]
  rw [← ha, ← hr, ← hb] at HP0
  rw [← ha, ← hb, hu]
  have HP := Lib.hid HP0
  have HR := Lib.hid h
  clear hx hxs hxl hr hb ha hu HP0 h hg hs
  cases b with
  | false =>
    go_enter Tryz.func79, Tryz.ntmps79
    go_wp2_with (go_at_call 111; (with_reducible refine HP.out.mono ?_); rintro e w2 ⟨rfl, hb2⟩; have HB2 := Lib.hid hb2; clear hb2)
    go_ret2
    exact ⟨rfl, HR.out.below HB2.out, .of_below HB2.out⟩
  | true =>
    have H : Hid (∀ w2, Below w.heap.size w w2 → RdAt (w2.setCell ⟨R, 0, none⟩ (.string ⟨r.toArray⟩)) R r d ∧ w2.cell? ⟨R, 0, none⟩ = some (.string x) ∧ w2.frozen? ⟨R, 0, none⟩ = false) := Lib.hid fun w2 h2 => by
      have hw2 := HR.out.below h2
      refine ⟨?_, ?_⟩
      · unfold RdAt; rw [set_at hw2]; rfl
      · obtain ⟨k0, _, k2, _⟩ := two_cells hw2
        obtain ⟨l0, _, _, _⟩ := two_cells HR.out
        rw [k0, ← l0]
        exact ⟨c0, k2⟩
    go_enter Tryz.func79, Tryz.ntmps79
    go_wp2_with (go_at_call 111; (with_reducible refine HP.out.mono ?_); rintro e w2 ⟨rfl, hb2⟩; have HB2 := Lib.hid hb2; clear hb2; obtain ⟨q0, q1, q2⟩ := H.out w2 HB2.out; have HQ := Lib.hid q0; clear q0)
    go_ret2
    exact ⟨rfl, HQ.out, (OnlyIn.of_below HB2.out).trans (OnlyR.set _)⟩

/-- The first name from place k on that is this one. -/
def fromK (s : Nm) (k : Nat) : Int := if k ≤ 1 ∧ s = [] then k else if k ≤ 2 ∧ s = [97, 110, 100] then 2 else if k ≤ 3 ∧ s = [111, 114] then 3 else if k ≤ 4 ∧ s = [110, 111, 116] then 4 else 0
theorem fromK_zero (s : Nm) : fromK s 0 = nameK s := by
  unfold fromK nameK
  by_cases h : s = []
  · subst h; decide
  · simp [h]
end Go.Proofs.YtolfkhflbjnakaaGreatDoor

/- A text that is read: the kind of a name; phrase. -/
namespace Go.Proofs.YtolfkhflbjnakaaGreatDoor
open Go Go.RowKit Go.Shelf
set_option linter.unusedVariables false

def NamedRel (s : Nm) (R : Int) (w : World) (r i : Value) (wr : World) : Prop := r = .int .i64 0 ∧ ∃ k : Nat, k ≤ 5 ∧ i = .int .i64 (k : Int) ∧ w = wr ∧ fromK s k = R
def namesL : List Nm := [[], [], [97, 110, 100], [111, 114], [110, 111, 116]]
theorem fromK_hit {s : Nm} {k : Nat} (hk : k < 5) (h : namesL.getD k [] = s) : fromK s k = k := by
  have : k = 0 ∨ k = 1 ∨ k = 2 ∨ k = 3 ∨ k = 4 := by omega
  subst h
  rcases this with rfl | rfl | rfl | rfl | rfl <;> decide
theorem fromK_miss {s : Nm} {k : Nat} (hk : k < 5) (h : ¬ namesL.getD k [] = s) : fromK s (k + 1) = fromK s k := by
  have : k = 0 ∨ k = 1 ∨ k = 2 ∨ k = 3 ∨ k = 4 := by omega
  unfold fromK
  rcases this with rfl | rfl | rfl | rfl | rfl <;> (have h' : ¬ s = _ := fun e => h e.symm; simp [namesL] at h'; simp [h'])
theorem ix_0 (w : World) : (Instr.index 130 (.agg #[.string ⟨#[]⟩, .string ⟨#[]⟩, .string ⟨#[97, 110, 100]⟩, .string ⟨#[111, 114]⟩, .string ⟨#[110, 111, 116]⟩]) (.int .i64 0)).run Tryz.prog w = .ok (.string ⟨#[]⟩) w := by kernel_rfl
theorem ix_1 (w : World) : (Instr.index 130 (.agg #[.string ⟨#[]⟩, .string ⟨#[]⟩, .string ⟨#[97, 110, 100]⟩, .string ⟨#[111, 114]⟩, .string ⟨#[110, 111, 116]⟩]) (.int .i64 1)).run Tryz.prog w = .ok (.string ⟨#[]⟩) w := by kernel_rfl
theorem ix_2 (w : World) : (Instr.index 130 (.agg #[.string ⟨#[]⟩, .string ⟨#[]⟩, .string ⟨#[97, 110, 100]⟩, .string ⟨#[111, 114]⟩, .string ⟨#[110, 111, 116]⟩]) (.int .i64 2)).run Tryz.prog w = .ok (.string ⟨#[97, 110, 100]⟩) w := by kernel_rfl
theorem ix_3 (w : World) : (Instr.index 130 (.agg #[.string ⟨#[]⟩, .string ⟨#[]⟩, .string ⟨#[97, 110, 100]⟩, .string ⟨#[111, 114]⟩, .string ⟨#[110, 111, 116]⟩]) (.int .i64 3)).run Tryz.prog w = .ok (.string ⟨#[111, 114]⟩) w := by kernel_rfl
theorem ix_4 (w : World) : (Instr.index 130 (.agg #[.string ⟨#[]⟩, .string ⟨#[]⟩, .string ⟨#[97, 110, 100]⟩, .string ⟨#[111, 114]⟩, .string ⟨#[110, 111, 116]⟩]) (.int .i64 4)).run Tryz.prog w = .ok (.string ⟨#[110, 111, 116]⟩) w := by kernel_rfl
set_option maxHeartbeats 2000000 in
set_option maxRecDepth 100000 in
theorem query_named (x : ByteArray) (w : World) (hg : Glob w) : Calls Tryz.prog 110 #[.string x] w fun e w' => e = .returned (.int .i64 (nameK x.data.toList)) ∧ w = w' := by
  obtain ⟨R, hR⟩ : ∃ R, R = nameK x.data.toList := ⟨_, rfl⟩
  rw [← hR]
  have H0 : Hid (fromK x.data.toList 0 = R) := Lib.hid (by rw [fromK_zero, hR])
  obtain ⟨-, n0, n1, n2, n3, n4⟩ := hg
  clear hR
  go_enter Tryz.func110, Tryz.ntmps110
  go_wp2
  go_loopw [2, 6] (fun r i wr => NamedRel x.data.toList R w r i wr) (fun _ i _ => 5 - (intOf i).toNat)
  case atStart => exact ⟨rfl, 0, by omega, rfl, rfl, H0.out⟩
  case round =>
    obtain ⟨rfl, k, hk, rfl, rfl, hgo⟩ := hrel
    by_cases hlt : k < 5
    · have h5 : k = 0 ∨ k = 1 ∨ k = 2 ∨ k = 3 ∨ k = 4 := by omega
      by_cases he : namesL.getD k [] = x.data.toList
      · have H : Hid ((k : Int) = R) := Lib.hid (by rw [← hgo, fromK_hit hlt he])
        rcases h5 with rfl | rfl | rfl | rfl | rfl
        · have he' : (⟨#[]⟩ : ByteArray).data.toList = x.data.toList := he
          have t1 : x.toList.isEmpty = true := by rw [ByteArray.toList_eq, ← he']; rfl
          clear he he' hgo hlt
          have ix := ix_0
          rw [show ((0 : Nat) : Int) = 0 from rfl]
          go_wp2
          go_ret
          exact ⟨ret_int H.out, rfl⟩
        · have he' : (⟨#[]⟩ : ByteArray).data.toList = x.data.toList := he
          have t1 : x.toList.isEmpty = true := by rw [ByteArray.toList_eq, ← he']; rfl
          clear he he' hgo hlt
          have ix := ix_1
          rw [show ((1 : Nat) : Int) = 1 from rfl]
          go_wp2
          go_ret
          exact ⟨ret_int H.out, rfl⟩
        · have he' : (⟨#[97, 110, 100]⟩ : ByteArray).data.toList = x.data.toList := he
          have t1 : ([97, 110, 100] == x.toList) = true := by rw [ByteArray.toList_eq, ← he']; rfl
          clear he he' hgo hlt
          have ix := ix_2
          rw [show ((2 : Nat) : Int) = 2 from rfl]
          go_wp2
          go_ret
          exact ⟨ret_int H.out, rfl⟩
        · have he' : (⟨#[111, 114]⟩ : ByteArray).data.toList = x.data.toList := he
          have t1 : ([111, 114] == x.toList) = true := by rw [ByteArray.toList_eq, ← he']; rfl
          clear he he' hgo hlt
          have ix := ix_3
          rw [show ((3 : Nat) : Int) = 3 from rfl]
          go_wp2
          go_ret
          exact ⟨ret_int H.out, rfl⟩
        · have he' : (⟨#[110, 111, 116]⟩ : ByteArray).data.toList = x.data.toList := he
          have t1 : ([110, 111, 116] == x.toList) = true := by rw [ByteArray.toList_eq, ← he']; rfl
          clear he he' hgo hlt
          have ix := ix_4
          rw [show ((4 : Nat) : Int) = 4 from rfl]
          go_wp2
          go_ret
          exact ⟨ret_int H.out, rfl⟩
      · have H : Hid (fromK x.data.toList (k + 1) = R) := Lib.hid (by rw [← hgo, fromK_miss hlt he])
        rcases h5 with rfl | rfl | rfl | rfl | rfl
        · have he' : ¬ (⟨#[]⟩ : ByteArray).data.toList = x.data.toList := he
          have t1 : x.toList.isEmpty = false := by rw [ByteArray.toList_eq, List.isEmpty_eq_false_iff]; exact fun e => he' e.symm
          clear he he' hgo hlt
          have ix := ix_0
          rw [show ((0 : Nat) : Int) = 0 from rfl]
          go_wp2
          go_roundw
          case rel => exact ⟨rfl, 1, by omega, rfl, rfl, H.out⟩
          case measure => simp [intOf]
        · have he' : ¬ (⟨#[]⟩ : ByteArray).data.toList = x.data.toList := he
          have t1 : x.toList.isEmpty = false := by rw [ByteArray.toList_eq, List.isEmpty_eq_false_iff]; exact fun e => he' e.symm
          clear he he' hgo hlt
          have ix := ix_1
          rw [show ((1 : Nat) : Int) = 1 from rfl]
          go_wp2
          go_roundw
          case rel => exact ⟨rfl, 2, by omega, rfl, rfl, H.out⟩
          case measure => simp [intOf]
        · have he' : ¬ (⟨#[97, 110, 100]⟩ : ByteArray).data.toList = x.data.toList := he
          have t1 : ([97, 110, 100] == x.toList) = false := by rw [ByteArray.toList_eq, beq_eq_false_iff_ne]; exact he'
          clear he he' hgo hlt
          have ix := ix_2
          rw [show ((2 : Nat) : Int) = 2 from rfl]
          go_wp2
          go_roundw
          case rel => exact ⟨rfl, 3, by omega, rfl, rfl, H.out⟩
          case measure => simp [intOf]
        · have he' : ¬ (⟨#[111, 114]⟩ : ByteArray).data.toList = x.data.toList := he
          have t1 : ([111, 114] == x.toList) = false := by rw [ByteArray.toList_eq, beq_eq_false_iff_ne]; exact he'
          clear he he' hgo hlt
          have ix := ix_3
          rw [show ((3 : Nat) : Int) = 3 from rfl]
          go_wp2
          go_roundw
          case rel => exact ⟨rfl, 4, by omega, rfl, rfl, H.out⟩
          case measure => simp [intOf]
        · have he' : ¬ (⟨#[110, 111, 116]⟩ : ByteArray).data.toList = x.data.toList := he
          have t1 : ([110, 111, 116] == x.toList) = false := by rw [ByteArray.toList_eq, beq_eq_false_iff_ne]; exact he'
          clear he he' hgo hlt
          have ix := ix_4
          rw [show ((4 : Nat) : Int) = 4 from rfl]
          go_wp2
          go_roundw
          case rel => exact ⟨rfl, 5, by omega, rfl, rfl, H.out⟩
          case measure => simp [intOf]
    · obtain rfl : k = 5 := by omega
      have H : Hid (0 = R) := Lib.hid (by rw [← hgo]; simp [fromK])
      clear hgo hlt
      go_wp2
      go_ret
      exact ⟨ret_int H.out, rfl⟩
end Go.Proofs.YtolfkhflbjnakaaGreatDoor
