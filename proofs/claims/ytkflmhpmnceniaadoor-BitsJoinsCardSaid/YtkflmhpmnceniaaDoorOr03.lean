/- Or: what is in one of them. -/
import Derived.Test.YtkflmhpmnceniaaDoorMerge03
set_option linter.unusedVariables false
namespace Go.Proofs.YtkflmhpmnceniaaDoor
open Go Go.RowKit
open Plain (Wd WS Rep getW joinB Merged)

def OrRel (N R : Nat) (ws wo : List Wd) (w : World) (rest i : Value) (wr : World) : Prop :=
  ∃ (k j : Nat) (res : List Wd) (Av : Option Addr) (cv : Nat), k ≤ ws.length ∧ j ≤ wo.length ∧ i = .int .i64 k ∧ rest = .slice Av (wo.length - j) cv ∧ wo.length - j ≤ cv ∧ Row wr R Av (wcells (wo.drop j)) ∧ SetAt wr R R N res ∧ Merged ws wo k j res ∧ Below R w wr
def OrIn (N R : Nat) (ws wo : List Wd) (k nb a y : Nat) (w : World) (rest : Value) (wr : World) : Prop :=
  ∃ (j : Nat) (res : List Wd) (Av : Option Addr) (cv : Nat), j ≤ wo.length ∧ rest = .slice Av (wo.length - j) cv ∧ wo.length - j ≤ cv ∧ Row wr R Av (wcells (wo.drop j)) ∧ SetAt wr R R N res ∧ Merged ws wo k j res ∧ Below R w wr ∧
    wr.heap[nb]? = some (.cells #[.int .i64 a, .int .u64 y] 59 (0, 0)) ∧ R < nb ∧ setOwn wr R ≠ some nb
theorem row_next {w : World} {B b o cv j : Nat} {wo : List Wd} {AN : Addr} (h : Row w B (some ⟨b, o, none⟩) (wcells (wo.drop j))) (hj : j < wo.length) (hcv : wo.length - j ≤ cv) (hA : (if cv = 1 then some (⟨b, o, none⟩ : Addr) else some ⟨b, o + 2, none⟩) = some AN) :
    Row w B (some AN) (wcells (wo.drop (j + 1))) := by
  by_cases e : cv = 1
  · have : wo.drop (j + 1) = [] := List.drop_eq_nil_of_le (by omega)
    rw [this]
    exact .inl rfl
  · rw [if_neg e] at hA
    injection hA with hA
    subst hA
    rw [List.drop_eq_getElem_cons hj] at h
    rcases h with h | ⟨b', o', e', hb, hc⟩
    · obtain ⟨p, q⟩ := wo[j]
      simp [wcells] at h
    · injection e' with e'
      injection e' with e1 e2
      subst e1 e2
      refine .inr ⟨b, o + 2, rfl, hb, fun i u hu => ?_⟩
      have := hc (i + 2) u (by obtain ⟨p, q⟩ := wo[j]; simpa [wcells] using hu)
      rwa [show o + (i + 2) = o + 2 + i by omega] at this
def sliceLen : Value → Nat | .slice _ n _ => n | _ => 0

set_option maxHeartbeats 64000000 in
set_option maxRecDepth 100000 in
theorem set_Or (base B : Nat) (r : List Bool) (base2 B2 : Nat) (r2 : List Bool) (w : World) (h : SetIs w base B r) (h2 : SetIs w base2 B2 r2) (hn : r.length ≤ 1000) (hn2 : r2.length ≤ 1000) :
    Calls Tryd.prog 15 #[.pointer (some ⟨B, 0, none⟩), .pointer (some ⟨B2, 0, none⟩)] w (NewSet (joinB r r2 true) w) := by
  obtain ⟨ws, hs, hrep⟩ := h
  obtain ⟨wo, ho, hrepo⟩ := h2
  have HREP := Lib.hid (fun fin (h : Plain.Merged ws wo ws.length wo.length fin) => Plain.Merged.rep hrep hrepo h)
  have hw := hrep.wds
  have hwo := hrepo.wds
  have hl : ws.length ≤ 16 := by have := hw.length; omega
  have hl2 : wo.length ≤ 16 := by have := hwo.length; omega
  have HNL := Lib.hid (Plain.joinB_length r r2 true)
  obtain ⟨n, hne⟩ : ∃ n, n = r.length := ⟨_, rfl⟩
  obtain ⟨n2, hne2⟩ : ∃ n2, n2 = r2.length := ⟨_, rfl⟩
  rw [← hne] at hs hw hn HNL
  rw [← hne2] at ho hn2 hwo HNL
  have hmx : ∀ (w : World) (ts : Array TypeId) (t : TypeId), (Builtin.max_ ts t #[.int .i64 n, .int .i64 n2]).run Tryd.prog w = .ok (.int .i64 ((max n n2 : Nat) : Int)) w := fun w ts t => by rw [run_max_int2]; congr 2; split <;> omega
  obtain ⟨N, hN⟩ : ∃ N, N = max n n2 := ⟨_, rfl⟩
  have hNl : N ≤ 1073741824 := by omega
  rw [← hN] at hmx HNL
  have HNEW := Lib.hid (fun w3 => bits_New_at N w3 (by omega))
  have HS := Lib.hid hs
  have HO := Lib.hid ho
  have HW := Lib.hid hw
  have HWF := Lib.hid hwo
  obtain ⟨A, c, c0, c1, hc, hr⟩ := hs.read
  obtain ⟨A2, c2, d0, d1, hc2, hr2⟩ := ho.read
  have HC1 := Lib.hid c1
  have HD1 := Lib.hid d1
  have HR2 := Lib.hid hr2
  clear hrep hrepo hne hne2 hs ho hw hwo hr hr2 hN hn hn2 d1 c1
  go_enter Tryd.func15, Tryd.ntmps15
  go_wp2_with (go_at_call 36; (with_reducible refine (bits_given B2 _).mono ?_); rintro e w' ⟨rfl, rfl⟩)
  go_region_with (go_at_call 33; (with_reducible refine (HNEW.out _).mono ?_); rintro e w' ⟨rfl, hs1, hb1⟩)
  all_goals
    have hb1 : Below w.heap.size w w' := below_undrew hb1
    have hs1 : SetAt w' w.heap.size w.heap.size N [] := hs1
    obtain ⟨R, hR⟩ : ∃ R, R = w.heap.size := ⟨_, rfl⟩
    rw [← hR] at hs1
    have hrel0 : OrRel N R ws wo w (.slice A2 wo.length c2) (.int .i64 ((0 : Nat) : Int)) w' := ⟨0, 0, [], A2, c2, Nat.zero_le _, Nat.zero_le _, rfl, rfl, hc2, by rw [hR]; exact HR2.out.below hb1, hs1, Merged.start _ _, by rw [hR]; exact hb1⟩
    have HREL0 := Lib.hid hrel0
    have HRE := Lib.hid hR
    have c1 := (hb1.cell (p := ⟨B, 1, none⟩) HS.out.lt).trans HC1.out
    have d1 := (hb1.cell (p := ⟨B2, 1, none⟩) HO.out.lt).trans HD1.out
    clear hrel0 hb1 hs1 d0 hmx
    go_wp2
    rw [← hR]
    clear hR c0 c1 d1 hc hc2
    go_loopw [6, 30] (OrRel N R ws wo w) (fun _ i _ => ws.length - (intOf i).toNat)
    case atStart => exact HREL0.out
    case round =>
      obtain ⟨k, j, res, Av, cv, hk, hj, rfl, rfl, hcv, hrow, hset, hmg, hbw⟩ := hrel
      by_cases hlt : k < ws.length
      · have hbw2 : Below w.heap.size w wr := by have h := hbw; rwa [HRE.out] at h
        obtain ⟨A', c', d0, d1, hc', hr'⟩ := (HS.out.below hbw2).read
        obtain ⟨b1, o1, e1, hb1, hc1, hc2⟩ := row_word hr' hlt
        have hpf := HW.out.fits _ (List.getElem_mem hlt)
        obtain ⟨p, hp⟩ : ∃ p, p = ws[k]'hlt := ⟨_, rfl⟩
        rw [← hp] at hc1 hc2 hpf
        obtain ⟨a, y⟩ := p
        simp only at hc1 hc2 hpf
        have HP := Lib.hid hp
        have hkl : (k : Int) < ws.length := by omega
        have hRlt := hset.lt
        have hbA : Below wr.heap.size wr (wr.alloc (.cells #[.int .i64 a, .int .u64 y] 59)) := (Below.refl _ _).alloc (Nat.le_refl _) _
        have hin0 : OrIn N R ws wo k wr.heap.size a y w (.slice Av (wo.length - j) cv) (wr.alloc (.cells #[.int .i64 a, .int .u64 y] 59)) := by
          refine ⟨j, res, Av, cv, hj, rfl, hcv, hrow.below (hbA.mono (by omega)), hset.below hbA, hmg, hbw.trans (hbA.mono (by omega)), heap_alloc_new _ _, by omega, fun e => ?_⟩
          rw [setOwn_eq (hbA.block R hRlt)] at e
          have := (hset.own _ e).2
          omega
        have HIN0 := Lib.hid hin0
        subst e1
        clear hp hset hbw hr' hc' d0 hbw2 hrow hmg hin0 hbA hcv hj
        go_wp2
        obtain ⟨nb, hnb⟩ : ∃ nb, nb = wr.heap.size := ⟨_, rfl⟩
        rw [← hnb] at HIN0 ⊢
        clear hnb hc1 hc2 d1 hb1 hRlt
        go_loopw [6] (OrIn N R ws wo k nb a y w) (fun v _ => sliceLen v)
        case atStart => exact HIN0.out
        case round =>
          obtain ⟨j, res, Av, cv, hj, rfl, hcv, hrow, hset, hmg, hbw, hcell, hnR, hno⟩ := hrel
          have HROW := Lib.hid hrow
          have HSET := Lib.hid hset
          have HMG := Lib.hid hmg
          have HBW := Lib.hid hbw
          have HNO := Lib.hid hno
          have HCELL := Lib.hid hcell
          obtain ⟨n0, n1, g0, g1⟩ := cell_two hcell
          have hres : res.length ≤ 33 := by have := hmg.len; omega
          obtain ⟨m, hme⟩ : ∃ m, m = wo.length - j := ⟨_, rfl⟩
          have HME := Lib.hid hme
          rw [← hme] at hcv ⊢
          by_cases hjl : j < wo.length
          · have hm1 : 0 < m := by omega
            have hdl : 0 < (wo.drop j).length := by rw [List.length_drop]; omega
            obtain ⟨b1, o1, e1, hb1, hc1, hc2⟩ := row_word hrow hdl
            have hq0 : (wo.drop j)[0]'hdl = wo[j]'hjl := by rw [List.getElem_drop]; rfl
            have hxf := HWF.out.fits _ (List.getElem_mem hjl)
            rw [hq0] at hc1 hc2
            obtain ⟨q, hq⟩ : ∃ q, q = wo[j]'hjl := ⟨_, rfl⟩
            rw [← hq] at hc1 hc2 hxf
            obtain ⟨a2, x⟩ := q
            simp only [Nat.zero_mul, Nat.add_zero] at hc1 hc2 hxf
            have HQ := Lib.hid hq
            subst e1
            clear hq hq0 hdl hrow hset hmg hbw hno hcell hme
            by_cases hlt2 : a2 < a
            · go_wp2
              go_quiet (fail)
              go_wp2
              obtain ⟨w5, hw5⟩ : ∃ w5, w5 = wr.drewN nq := ⟨_, rfl⟩
              have hb5 : Below wr.heap.size wr w5 := by rw [hw5]; exact ⟨rfl, rfl, rfl, Nat.le_refl _, fun _ _ => rfl⟩
              rw [← hw5]
              have hRw : R ≤ wr.heap.size := Nat.le_of_lt HSET.out.lt
              have p1 := (hb5.cell (p := ⟨b1, o1, none⟩) (by show b1 < _; omega)).trans hc1
              have p2 := (hb5.cell (p := ⟨b1, o1 + 1, none⟩) (by show b1 < _; omega)).trans hc2
              have hS5 := HSET.out.below hb5
              have HS5 := Lib.hid hS5
              have hR5 := hS5.lt
              obtain ⟨hRR, v, hv, ho⟩ := hS5
              obtain ⟨Ar, cr, rfl, _, _⟩ := owned_row ho
              obtain ⟨_, e1, _, _⟩ := cell_two hv
              have e1a : ∀ o, (w5.alloc o).cell? ⟨R, 1, none⟩ = some (.slice Ar res.length cr) := fun o => ((Below.refl w5.heap.size w5).alloc (Nat.le_refl _) o).cell (p := ⟨R, 1, none⟩) hR5 |>.trans e1
              have p1a : ∀ o, (w5.alloc o).cell? ⟨b1, o1, none⟩ = some (.int .i64 a2) := fun o => ((Below.refl w5.heap.size w5).alloc (Nat.le_refl _) o).cell (p := ⟨b1, o1, none⟩) (by show b1 < _; omega) |>.trans p1
              obtain ⟨v', w6, hr, hgot⟩ := run_append_words ((w5.alloc (.cells #[.int .i64 a2, .int .u64 x] 59)).drew) R (.slice Ar res.length cr) res.length res (a2, x) w5.heap.size 1 ((show w5.drew.ownsRow R 59 2 _ _ _ from ho).alloc _) rfl (by omega) (cell_two (B := w5.heap.size) (heap_alloc_new w5.drew _)).1 (cell_two (B := w5.heap.size) (heap_alloc_new w5.drew _)).2.1 (by simp [World.drew]; omega)
              have hgot : RowGot (w5.drew.alloc (.cells #[.int .i64 a2, .int .u64 x] 59)) R (.slice Ar res.length cr) (res ++ [(a2, x)]) v' w6 := hgot
              obtain ⟨A', c', rfl, _, _⟩ := owned_row hgot.1
              obtain ⟨hs6, ht6, c3, f3⟩ := words_moved (w := w5.drew) hRR hv ho hgot
              have HR := Lib.hid hr
              have HS6 := Lib.hid hs6
              have HT6 := Lib.hid ht6
              have HB5 := Lib.hid hb5
              have hm1i : (1 : Int) ≤ m := by omega
              obtain ⟨AN, hAN⟩ : ∃ AN : Addr, (if cv = 1 then some (⟨b1, o1, none⟩ : Addr) else some ⟨b1, o1 + 2, none⟩) = some AN := by split <;> exact ⟨_, rfl⟩
              have hbt : Below R wr (w6.setCell ⟨R, 1, none⟩ (.slice A' (res ++ [(a2, x)]).length c')) := (hb5.mono hRw).trans (below_undrew (Turned.below (w := w5.drew) HS5.out ht6))
              have hnb : nb < wr.heap.size := (Array.getElem?_eq_some_iff.1 HCELL.out).1
              have hno5 : setOwn w5.drew R ≠ some nb := by
                show setOwn w5 R ≠ some nb
                rw [setOwn_eq (hb5.block R HSET.out.lt)]
                exact HNO.out
              have hF : OrIn N R ws wo k nb a y w (.slice (some AN) (m - 1) (cv - 1)) (w6.setCell ⟨R, 1, none⟩ (.slice A' (res ++ [(a2, x)]).length c')) := by
                have e2 : (a2, x) = wo[j]'hjl := HQ.out
                have e1' : (a, y) = ws[k]'hlt := HP.out
                have hmg2 := HMG.out.other HWF.out.asc hjl (fun q hq => by
                  have := Plain.drop_le HW.out.asc hlt q hq
                  rw [← e1'] at this
                  rw [← e2]
                  exact Nat.lt_of_lt_of_le hlt2 this)
                rw [← e2] at hmg2
                have hmj : m - 1 = wo.length - (j + 1) := by have := HME.out; omega
                refine ⟨j + 1, res ++ [(a2, x)], some AN, cv - 1, hjl, by rw [hmj], by omega, (row_next HROW.out hjl (by have := HME.out; omega) hAN).below hbt, hs6, hmg2, HBW.out.trans hbt, ?_, hnR, fun e => ?_⟩
                · rw [ht6.keep nb (by show nb < w5.heap.size; have := hb5.size; omega) (Nat.ne_of_gt hnR) hno5]
                  show w5.heap[nb]? = _
                  rw [hb5.block nb hnb]
                  exact HCELL.out
                · rcases ht6.own _ e with h1 | h1
                  · exact hno5 h1
                  · have h2 : w5.heap.size ≤ nb := h1
                    have := hb5.size
                    omega
              have HF := Lib.hid hF
              clear hr hgot hs6 ht6 hv ho hw5 hb5 hc1 hc2 n0 n1 g0 g1 hbt hno5 hF
              go_region_law (refine step_append_run rfl _ _ _ rfl _ _ (by simp [Act.eval, Act.put]) (by simp [Act.eval, Act.put]) _ _ HR.out ?_)
              all_goals
                try go_simp
                go_roundw
                case rel => first | exact HF.out | simpa using HF.out
                case measure => simp [sliceLen]; omega
            · by_cases heq : a2 = a
              · obtain rfl : a = a2 := heq.symm
                go_wp2
                go_quiet (fail)
                go_wp2
                go_quiet (fail)
                go_wp2
                generalize hw5 : World.drewN _ nq = w5
                have hb5' : Below wr.heap.size wr w5 := by rw [← hw5]; exact ⟨rfl, rfl, rfl, Nat.le_refl _, fun _ _ => rfl⟩
                have hb5 : Below R wr w5 := hb5'.mono (Nat.le_of_lt HSET.out.lt)
                have hS5 : SetAt w5 R R N res := HSET.out.below hb5'
                have hnb : nb < wr.heap.size := (Array.getElem?_eq_some_iff.1 HCELL.out).1
                have hcell5 : w5.heap[nb]? = some (.cells #[.int .i64 a, .int .u64 y] 59 (0, 0)) := (hb5'.block nb hnb).trans HCELL.out
                have hno5 : setOwn w5 R ≠ some nb := by rw [setOwn_eq (hb5'.block R HSET.out.lt)]; exact HNO.out
                have hRw0 : R ≤ wr.heap.size := Nat.le_of_lt HSET.out.lt
                have p2 := (hb5'.cell (p := ⟨b1, o1 + 1, none⟩) (by show b1 < _; omega)).trans hc2
                have hor := bits_or_u64_nat y x hpf hxf
                obtain ⟨z, hz⟩ : ∃ z, z = y ||| x := ⟨_, rfl⟩
                rw [← hz] at hor
                have HZ := Lib.hid hz
                have hm1i : (1 : Int) ≤ m := by omega
                obtain ⟨AN, hAN⟩ : ∃ AN : Addr, (if cv = 1 then some (⟨b1, o1, none⟩ : Addr) else some ⟨b1, o1 + 2, none⟩) = some AN := by split <;> exact ⟨_, rfl⟩
                have hS7' : SetAt (w5.setCell ⟨nb, 1, none⟩ (.int .u64 z)) R R N res := by
                  obtain ⟨q1, v, q2, q3⟩ := hS5
                  exact ⟨q1, v, by rw [Below.heap_setCell _ _ _ _ (Nat.ne_of_lt hnR)]; exact q2, ownsRow_setCell_other q3 (by rw [← setOwn_at q2]; exact hno5) _⟩
                have hc7' := two_setCell (u := .int .u64 z) hcell5
                have hb7' : Below R wr (w5.setCell ⟨nb, 1, none⟩ (.int .u64 z)) := hb5.setCell (Nat.le_of_lt hnR) _
                obtain ⟨m0, m1, _, k1⟩ := cell_two hcell5
                have HS7' := Lib.hid hS7'
                have HC7' := Lib.hid hc7'
                have HB7' := Lib.hid hb7'
                clear hw5 n0 n1 g0 g1 hb5' hb5 hS5 hcell5 hno5 hz hS7' hc7' hb7' hc1 hc2
                go_region
                all_goals
                  obtain ⟨w7, hw7⟩ : ∃ w7, w7 = (w5.setCell ⟨nb, 1, none⟩ (.int .u64 z)).drew := ⟨_, rfl⟩
                  have hS7 : SetAt w7 R R N res := by rw [hw7]; exact HS7'.out.drew
                  have hcell7 : w7.heap[nb]? = some (.cells #[.int .i64 a, .int .u64 z] 59 (0, 0)) := by rw [hw7]; exact HC7'.out
                  have hb7 : Below R wr w7 := by rw [hw7]; exact HB7'.out.drew
                  rw [← hw7]
                  clear hw7 p2 m0 m1 k1 hor HS7' HC7' HB7'
                  go_wp2
                  have hRw : R ≤ wr.heap.size := Nat.le_of_lt HSET.out.lt
                  obtain ⟨m0, m1, _, _⟩ := cell_two hcell7
                  have HS7 := Lib.hid hS7
                  have hR7 := hS7.lt
                  obtain ⟨hRR, v, hv, ho⟩ := hS7
                  obtain ⟨Ar, cr, rfl, _, _⟩ := owned_row ho
                  obtain ⟨_, e1, _, _⟩ := cell_two hv
                  have e1a : ∀ o, (w7.alloc o).cell? ⟨R, 1, none⟩ = some (.slice Ar res.length cr) := fun o => ((Below.refl w7.heap.size w7).alloc (Nat.le_refl _) o).cell (p := ⟨R, 1, none⟩) hR7 |>.trans e1
                  obtain ⟨v', w6, hr, hgot⟩ := run_append_words ((w7.alloc (.cells #[.int .i64 a, .int .u64 z] 59)).drew) R (.slice Ar res.length cr) res.length res (a, z) w7.heap.size 1 ((show w7.drew.ownsRow R 59 2 _ _ _ from ho).alloc _) rfl (by omega) (cell_two (B := w7.heap.size) (heap_alloc_new w7.drew _)).1 (cell_two (B := w7.heap.size) (heap_alloc_new w7.drew _)).2.1 (by simp [World.drew]; omega)
                  have hgot : RowGot (w7.drew.alloc (.cells #[.int .i64 a, .int .u64 z] 59)) R (.slice Ar res.length cr) (res ++ [(a, z)]) v' w6 := hgot
                  obtain ⟨A', c', rfl, _, _⟩ := owned_row hgot.1
                  obtain ⟨hs6, ht6, c3, f3⟩ := words_moved (w := w7.drew) hRR hv ho hgot
                  have HR := Lib.hid hr
                  have hbt : Below R wr (w6.setCell ⟨R, 1, none⟩ (.slice A' (res ++ [(a, z)]).length c')) := hb7.trans (below_undrew (Turned.below (w := w7.drew) HS7.out ht6))
                  have hF : OrRel N R ws wo w (.slice (some AN) (m - 1) (cv - 1)) (.int .i64 ((k + 1 : Nat) : Int)) (w6.setCell ⟨R, 1, none⟩ (.slice A' (res ++ [(a, z)]).length c')) :=
                    ⟨k + 1, j + 1, res ++ [(a, z)], some AN, cv - 1, by omega, hjl, rfl, by rw [show m - 1 = wo.length - (j + 1) by have := HME.out; omega], by have := HME.out; omega, (row_next HROW.out hjl (by have := HME.out; omega) hAN).below hbt, hs6, (by
                      have e1' : (a, y) = ws[k]'hlt := HP.out
                      have e2 : (a, x) = wo[j]'hjl := HQ.out
                      have h1 := HMG.out.both HW.out.asc HWF.out.asc hlt hjl (by rw [← e1', ← e2])
                      rw [← e1', ← e2] at h1
                      rw [HZ.out]
                      exact h1), HBW.out.trans hbt⟩
                  have HF := Lib.hid hF
                  clear hr hgot hs6 ht6 hv ho hcell7 hbt hF
                  go_region_law (refine step_append_run rfl _ _ _ rfl _ _ (by simp [Act.eval, Act.put]) (by simp [Act.eval, Act.put]) _ _ HR.out ?_)
                  all_goals
                    go_wp2
                    go_roundw
                    case rel => first | exact HF.out | simpa using HF.out
                    case measure => simp [intOf]; omega
              · have hgt : ¬ a2 < a := hlt2
                have hne : ¬ (a2 : Int) = (a : Int) := by omega
                have hge : ¬ (a2 : Int) < (a : Int) := by omega
                go_wp2
                go_quiet (fail)
                go_wp2
                go_quiet (fail)
                go_wp2
                generalize hw5 : World.drewN _ nq = w5
                have hb5' : Below wr.heap.size wr w5 := by rw [← hw5]; exact ⟨rfl, rfl, rfl, Nat.le_refl _, fun _ _ => rfl⟩
                have hb5 : Below R wr w5 := hb5'.mono (Nat.le_of_lt HSET.out.lt)
                have hS5 : SetAt w5 R R N res := HSET.out.below hb5'
                have hnb : nb < wr.heap.size := (Array.getElem?_eq_some_iff.1 HCELL.out).1
                have hcell5 : w5.heap[nb]? = some (.cells #[.int .i64 a, .int .u64 y] 59 (0, 0)) := (hb5'.block nb hnb).trans HCELL.out
                clear hw5 n0 n1 g0 g1
                have hRw : R ≤ wr.heap.size := Nat.le_of_lt HSET.out.lt
                obtain ⟨m0, m1, _, _⟩ := cell_two hcell5
                have HS5 := Lib.hid hS5
                have hR5 := hS5.lt
                obtain ⟨hRR, v, hv, ho⟩ := hS5
                obtain ⟨Ar, cr, rfl, _, _⟩ := owned_row ho
                obtain ⟨_, e1, _, _⟩ := cell_two hv
                have e1a : ∀ o, (w5.alloc o).cell? ⟨R, 1, none⟩ = some (.slice Ar res.length cr) := fun o => ((Below.refl w5.heap.size w5).alloc (Nat.le_refl _) o).cell (p := ⟨R, 1, none⟩) hR5 |>.trans e1
                obtain ⟨v', w6, hr, hgot⟩ := run_append_words ((w5.alloc (.cells #[.int .i64 a, .int .u64 y] 59)).drew) R (.slice Ar res.length cr) res.length res (a, y) w5.heap.size 1 ((show w5.drew.ownsRow R 59 2 _ _ _ from ho).alloc _) rfl (by omega) (cell_two (B := w5.heap.size) (heap_alloc_new w5.drew _)).1 (cell_two (B := w5.heap.size) (heap_alloc_new w5.drew _)).2.1 (by simp [World.drew]; omega)
                have hgot : RowGot (w5.drew.alloc (.cells #[.int .i64 a, .int .u64 y] 59)) R (.slice Ar res.length cr) (res ++ [(a, y)]) v' w6 := hgot
                obtain ⟨A', c', rfl, _, _⟩ := owned_row hgot.1
                obtain ⟨hs6, ht6, c3, f3⟩ := words_moved (w := w5.drew) hRR hv ho hgot
                have HR := Lib.hid hr
                have hbt : Below R wr (w6.setCell ⟨R, 1, none⟩ (.slice A' (res ++ [(a, y)]).length c')) := hb5.trans (below_undrew (Turned.below (w := w5.drew) HS5.out ht6))
                have hF : OrRel N R ws wo w (.slice (some ⟨b1, o1, none⟩) m cv) (.int .i64 ((k + 1 : Nat) : Int)) (w6.setCell ⟨R, 1, none⟩ (.slice A' (res ++ [(a, y)]).length c')) :=
                  ⟨k + 1, j, res ++ [(a, y)], some ⟨b1, o1, none⟩, cv, by omega, hj, rfl, by rw [show m = wo.length - j by have := HME.out; omega], by have := HME.out; omega, (HROW.out).below hbt, hs6, (by
                                    have e1' : (a, y) = ws[k]'hlt := HP.out
                                    have e2 : (a2, x) = wo[j]'hjl := HQ.out
                                    have h1 := HMG.out.one HW.out.asc hlt (fun q hq => by
                                      have := Plain.drop_le HWF.out.asc hjl q hq
                                      rw [← e2] at this
                                      rw [← e1']
                                      exact Nat.lt_of_lt_of_le (by show a < a2; omega) this)
                                    rw [← e1'] at h1
                                    exact h1), HBW.out.trans hbt⟩
                have HF := Lib.hid hF
                clear hr hgot hs6 ht6 hv ho hcell5 hbt hF
                go_region_law (refine step_append_run rfl _ _ _ rfl _ _ (by simp [Act.eval, Act.put]) (by simp [Act.eval, Act.put]) _ _ HR.out ?_)
                all_goals
                  go_wp2
                  go_roundw
                  case rel => first | exact HF.out | simpa using HF.out
                  case measure => simp [intOf]; omega
          · have hm0 : m = 0 := by omega
            subst hm0
            clear hrow hset hmg hbw hno hcell hme
            go_wp2
            go_quiet (fail)
            go_wp2
            go_quiet (fail)
            go_wp2
            generalize hw5 : World.drewN _ nq = w5
            have hb5' : Below wr.heap.size wr w5 := by rw [← hw5]; exact ⟨rfl, rfl, rfl, Nat.le_refl _, fun _ _ => rfl⟩
            have hb5 : Below R wr w5 := hb5'.mono (Nat.le_of_lt HSET.out.lt)
            have hS5 : SetAt w5 R R N res := HSET.out.below hb5'
            have hnb : nb < wr.heap.size := (Array.getElem?_eq_some_iff.1 HCELL.out).1
            have hcell5 : w5.heap[nb]? = some (.cells #[.int .i64 a, .int .u64 y] 59 (0, 0)) := (hb5'.block nb hnb).trans HCELL.out
            clear hw5 n0 n1 g0 g1
            have hRw : R ≤ wr.heap.size := Nat.le_of_lt HSET.out.lt
            obtain ⟨m0, m1, _, _⟩ := cell_two hcell5
            have HS5 := Lib.hid hS5
            have hR5 := hS5.lt
            obtain ⟨hRR, v, hv, ho⟩ := hS5
            obtain ⟨Ar, cr, rfl, _, _⟩ := owned_row ho
            obtain ⟨_, e1, _, _⟩ := cell_two hv
            have e1a : ∀ o, (w5.alloc o).cell? ⟨R, 1, none⟩ = some (.slice Ar res.length cr) := fun o => ((Below.refl w5.heap.size w5).alloc (Nat.le_refl _) o).cell (p := ⟨R, 1, none⟩) hR5 |>.trans e1
            obtain ⟨v', w6, hr, hgot⟩ := run_append_words ((w5.alloc (.cells #[.int .i64 a, .int .u64 y] 59)).drew) R (.slice Ar res.length cr) res.length res (a, y) w5.heap.size 1 ((show w5.drew.ownsRow R 59 2 _ _ _ from ho).alloc _) rfl (by omega) (cell_two (B := w5.heap.size) (heap_alloc_new w5.drew _)).1 (cell_two (B := w5.heap.size) (heap_alloc_new w5.drew _)).2.1 (by simp [World.drew]; omega)
            have hgot : RowGot (w5.drew.alloc (.cells #[.int .i64 a, .int .u64 y] 59)) R (.slice Ar res.length cr) (res ++ [(a, y)]) v' w6 := hgot
            obtain ⟨A', c', rfl, _, _⟩ := owned_row hgot.1
            obtain ⟨hs6, ht6, c3, f3⟩ := words_moved (w := w5.drew) hRR hv ho hgot
            have HR := Lib.hid hr
            have hbt : Below R wr (w6.setCell ⟨R, 1, none⟩ (.slice A' (res ++ [(a, y)]).length c')) := hb5.trans (below_undrew (Turned.below (w := w5.drew) HS5.out ht6))
            have hF : OrRel N R ws wo w (.slice Av 0 cv) (.int .i64 ((k + 1 : Nat) : Int)) (w6.setCell ⟨R, 1, none⟩ (.slice A' (res ++ [(a, y)]).length c')) :=
              ⟨k + 1, j, res ++ [(a, y)], Av, cv, by omega, hj, rfl, by rw [show 0 = wo.length - j by have := HME.out; omega], by have := HME.out; omega, (HROW.out).below hbt, hs6, (by
                            have e1' : (a, y) = ws[k]'hlt := HP.out
                            have h1 := HMG.out.one HW.out.asc hlt (fun q hq => by
                              rw [List.drop_eq_nil_of_le (by omega)] at hq
                              exact absurd hq List.not_mem_nil)
                            rw [← e1'] at h1
                            exact h1), HBW.out.trans hbt⟩
            have HF := Lib.hid hF
            clear hr hgot hs6 ht6 hv ho hcell5 hbt hF
            go_region_law (refine step_append_run rfl _ _ _ rfl _ _ (by simp [Act.eval, Act.put]) (by simp [Act.eval, Act.put]) _ _ HR.out ?_)
            all_goals
              go_wp2
              go_roundw
              case rel => first | exact HF.out | simpa using HF.out
              case measure => simp [intOf]; omega
      · obtain rfl : k = ws.length := by omega
        have HROW := Lib.hid hrow
        have HMG := Lib.hid (Plain.Merged.rest HWF.out.asc (wo.length - j) j res rfl hj hmg)
        have hres : res.length ≤ 32 := by have := hmg.len; omega
        have hRlt := hset.lt
        have hzw : R ≤ wr.heap.size := by omega
        obtain ⟨_, v, hv, ho⟩ := hset
        obtain ⟨_, e1, _, _⟩ := cell_two hv
        have HV := Lib.hid hv
        have HOO := Lib.hid ho
        have HBW := Lib.hid hbw
        obtain ⟨i0, hi0, hz0, hz1, hz2⟩ := info_parts info_word
        have hdl : (wcells (wo.drop j)).length = (wo.length - j) * 2 := by rw [wcells_length, List.length_drop]
        have HDL := Lib.hid hdl
        clear hrow hmg hv ho hbw hdl
        go_wp2_with (at_builtin; refine wpList_append_row _ rfl (.tmp 103) (.tmp 104) 54 rfl R 59 i0 _ 2 16 Tryd.underlying54 hi0 hz0 hz1 hz2 rfl (by decide) v res.length (wcells res) rfl HOO.out R Av (wo.length - j) cv (wcells (wo.drop j)) rfl HDL.out HROW.out (wcells_one _) (by unfold maxLen; omega) (by omega) hzw ?_)
        intro v' w3 hown hgrow
        have hB3 : w3.heap[R]? = some (.cells #[.int .i64 N, v] 56 (0, 0)) := by
          rw [hgrow.block R hRlt (fun e => owned_apart HOO.out HV.out (by decide) e.symm)]
          exact HV.out
        obtain ⟨_, c3, _, f3⟩ := cell_two hB3
        obtain ⟨A', c', rfl, _, _⟩ := owned_row hown
        have hfin : SetAt (w3.setCell ⟨R, 1, none⟩ (.slice A' (res.length + (wo.length - j)) c')) R R N (res ++ wo.drop j) := by
          refine ⟨Nat.le_refl _, _, two_setCell hB3, ?_⟩
          rw [List.length_append, List.length_drop, wcells_append]
          exact ownsRow_setCell_other hown (owned_apart hown hB3 (by decide)) _
        have hbf : Below R w (w3.setCell ⟨R, 1, none⟩ (.slice A' (res.length + (wo.length - j)) c')) :=
          (HBW.out.grown hgrow hzw (fun g e => (HOO.out.lt g e).1)).setCell (Nat.le_refl _) _
        have HFIN := Lib.hid hfin
        have HBF := Lib.hid hbf
        clear hfin hbf hown hgrow hB3
        go_wp2
        go_ret
        exact ⟨R, rfl, ⟨_, by rw [HNL.out, ← HRE.out]; exact HFIN.out, HREP.out _ HMG.out⟩, by rw [← HRE.out]; exact HBF.out⟩
end Go.Proofs.YtkflmhpmnceniaaDoor
