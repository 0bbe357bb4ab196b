/- What the document's May answers of a document. -/
import Derived.Test.YtgcdekaceimdnaaGreatQ09
namespace Go.Proofs.YtgcdekaceimdnaaGreat
open Go Go.RowKit
set_option linter.unusedVariables false

theorem errFrom_zero : ∀ {ws : List Nm} {i : Nat}, errFrom i ws = 0 → i ≤ 500 → i + ws.length ≤ 500
  | [], i, _, h => by simpa using h
  | w :: ws, i, h, hi => by
    rw [errFrom] at h
    split at h
    · omega
    · split at h
      · omega
      · have := errFrom_zero h (by omega)
        simp only [List.length_cons]
        omega
def seenUp (l : List Fd) (k : Nat) : List Nm := (l.take k).map (·.1)
theorem seenUp_succ {l : List Fd} {k : Nat} (hk : k < l.length) : seenUp l (k + 1) = seenUp l k ++ [l[k].1] := by
  unfold seenUp
  rw [List.take_succ_eq_append_getElem hk, List.map_append]
  rfl
theorem seenUp_in {l : List Fd} {k j : Nat} (hk : k ≤ l.length) (hj : j < k) : (l[j]'(by omega)).1 ∈ seenUp l k := by
  refine List.mem_map.2 ⟨l[j]'(by omega), ?_, rfl⟩
  have h : j < (l.take k).length := by rw [List.length_take]; omega
  have := List.getElem_mem h
  rwa [List.getElem_take] at this
theorem seenUp_out {l : List Fd} {k : Nat} (hk : k ≤ l.length) {x : Nm} (h : ∀ j (hj : j < l.length), j < k → l[j].1 ≠ x) : x ∉ seenUp l k := fun hx => by
  obtain ⟨f, hf, rfl⟩ := List.mem_map.1 hx
  obtain ⟨j, hj, rfl⟩ := List.getElem_of_mem hf
  rw [List.length_take] at hj
  rw [List.getElem_take] at h
  exact h j (by omega) (by omega) rfl
theorem mayF_at {seen : List Nm} {n k : Nat} {l : List Fd} (hk : k < l.length) : mayF seen n (l.drop k) =
    if nameB l[k].1 = false then 4 else if l[k].1 ∈ seen then 5 else if errFrom 0 (words l[k].2) ≠ 0 then errFrom 0 (words l[k].2) else mayF (seen ++ [l[k].1]) (n + (words l[k].2).length) (l.drop (k + 1)) := by
  rw [List.drop_eq_getElem_cons hk, mayF]

def MayRel8 (l : List Fd) (E : Int) (w1 : World) (r a i : Value) (wr : World) : Prop :=
  r = .int .i64 0 ∧ ∃ k m : Nat, k ≤ l.length ∧ m ≤ k * 500 ∧ a = .int .i64 (m : Int) ∧ i = .int .i64 (k : Int) ∧ Below w1.heap.size w1 wr ∧ mayF (seenUp l k) m (l.drop k) = E
def TwiceRel (l : List Fd) (k : Nat) (wr : World) (r i : Value) (wi : World) : Prop :=
  r = .int .i64 0 ∧ ∃ j : Nat, j ≤ k ∧ i = .int .i64 (j : Int) ∧ Below wr.heap.size wr wi ∧ ∀ i (hi : i < l.length) (hk : k < l.length), i < j → l[i].1 ≠ l[k].1

set_option maxHeartbeats 4000000 in
set_option maxRecDepth 100000 in
theorem ref08_May (id : Int) (A : Option Addr) (n c : Nat) (l : List Fd) (w : World) (hl : l.length = n) (hr : FRow w w.heap.size A l) (hn : n ≤ 1073741824) (ht : ∀ f ∈ l, f.1.length ≤ 1073741824 ∧ f.2.length ≤ 268435456) :
    Calls Tryz.prog 27 #[docV id A n c] w fun e w' => e = .returned (.int .i64 (mayD l)) ∧ Below w.heap.size w w' := by
  obtain ⟨R, hR⟩ : ∃ R, R = mayD l := ⟨_, rfl⟩
  rw [← hR]
  have HRR := Lib.hid hR
  have HR := Lib.hid hr
  have HT := Lib.hid ht
  have HB1 : Hid (∀ w1, w1 = boxD w id A n c → ∀ wr, Below w1.heap.size w1 wr → Below w.heap.size w wr ∧ wr.cell? ⟨w.heap.size, 0, none⟩ = some (.int .i64 id) ∧ wr.cell? ⟨w.heap.size, 1, none⟩ = some (.slice A n c)) := Lib.hid fun w1 e wr h => by subst e; exact ⟨boxD_out h, boxD_cells h⟩
  clear hR hr ht
  by_cases h8 : 8 < n
  · have hR7 : R = 7 := by rw [HRR.out, mayD, if_pos (by omega)]
    subst hR7
    have HB0 := Lib.hid (HB1.out _ rfl _ (Below.refl _ _)).1
    go_enter Tryz.func27, Tryz.ntmps27
    go_wp2
    go_ret
    exact ⟨rfl, HB0.out⟩
  · have hn8 : n ≤ 8 := by omega
    have HE : Hid (mayF (seenUp l 0) 0 (l.drop 0) = R) := Lib.hid (by rw [HRR.out, mayD, if_neg (by omega)]; rfl)
    clear h8
    subst hl
    go_enter Tryz.func27, Tryz.ntmps27
    go_wp2
    obtain ⟨w1, hw1⟩ : ∃ w1, w1 = boxD w id A l.length c := ⟨_, rfl⟩
    have HB2 := Lib.hid (HB1.out w1 hw1)
    rw [show w.alloc _ = w1 from hw1.symm]
    clear hw1 HB1
    go_loopw [2, 3, 4, 5, 6, 7, 8] (fun r a i n j t e wr => MayRel8 l R w1 r a i wr) (fun _ _ i _ _ _ _ _ => l.length - (intOf i).toNat)
    case atStart => exact ⟨rfl, 0, 0, by omega, by omega, rfl, rfl, Below.refl _ _, HE.out⟩
    case round =>
      obtain ⟨rfl, k, m, hk, hm, rfl, rfl, hbw, hgo⟩ := hrel
      obtain ⟨hb0, a0, a1⟩ := HB2.out _ hbw
      by_cases hlt : k < l.length
      · obtain ⟨b1, o1, e1, hb1, hc1, hc2⟩ := (HR.out.below hb0).at_ hlt
        subst e1
        rw [mayF_at hlt] at hgo
        have ht8 := HT.out _ (List.getElem_mem hlt)
        obtain ⟨x, hx, hx2⟩ := as_text l[k].1
        obtain ⟨y, hy, hy2⟩ := as_text l[k].2
        rw [← hx] at hc1
        rw [← hy] at hc2
        have i0 : (0 : Int) ≤ k := by omega
        have i1 : (k : Int) < l.length := by omega
        have N1 := fun w' => ref08_Name x w' (by rw [hx, size_nm]; have := ht8.1; omega)
        rw [hx2] at N1
        have T1 := fun w' => ref_Tokens y w' (by rw [hy, size_nm]; exact ht8.2)
        rw [hy2] at T1
        have HX := Lib.hid (And.intro hx hx2)
        clear hx hx2 hy hy2 ht8
        have HB0 := Lib.hid hb0
        clear hb0
        cases hnm : nameB l[k].1 with
        | false =>
          rw [hnm] at N1 hgo
          rw [if_pos rfl] at hgo
          subst hgo
          have HN1 := Lib.hid N1
          clear N1 T1 hnm
          go_wp2_with (go_at_call 26; (with_reducible refine (HN1.out _).mono ?_); rintro e w2 ⟨rfl, hb2⟩)
          go_ret
          exact ⟨rfl, HB0.out.trans (hb2.mono HB0.out.size)⟩
        | true =>
          rw [hnm] at N1 hgo
          rw [if_neg (by decide)] at hgo
          have HN1 := Lib.hid N1
          have HT1 := Lib.hid T1
          have HGO := Lib.hid hgo
          clear N1 T1 hnm hgo
          go_wp2_with (go_at_call 26; (with_reducible refine (HN1.out _).mono ?_); rintro e w2 ⟨rfl, hb2⟩)
          have hbw2 := hbw.trans (hb2.mono hbw.size)
          have HC : Hid (∀ wi, Below w2.heap.size w2 wi → Below w.heap.size w wi ∧ wi.cell? ⟨w.heap.size, 1, none⟩ = some (.slice (some ⟨b1, o1, none⟩) l.length c) ∧ wi.cell? ⟨b1, o1 + k * 2, none⟩ = some (.string x) ∧ wi.cell? ⟨b1, o1 + k * 2 + 1, none⟩ = some (.string y) ∧ ∀ j (hj : j < l.length), wi.cell? ⟨b1, o1 + j * 2, none⟩ = some (.string ⟨l[j].1.toArray⟩)) := Lib.hid fun wi h => by
            have h2 := hbw2.trans (h.mono hbw2.size)
            have h3 := HB2.out _ h2
            have hs1 := (HB2.out _ (Below.refl _ _)).1.size
            have h4 := (hb2.mono (by have := hbw.size; omega : w.heap.size ≤ wr.heap.size)).trans (h.mono (by have := hbw2.size; omega))
            refine ⟨h3.1, h3.2.2, (h4.cell (p := ⟨b1, o1 + k * 2, none⟩) hb1).trans hc1, (h4.cell (p := ⟨b1, o1 + k * 2 + 1, none⟩) hb1).trans hc2, fun j hj => ?_⟩
            obtain ⟨b', o', e', _, g, _⟩ := (HR.out.below h3.1).at_ hj
            injection e' with e'
            injection e' with e1 e2
            subst e1 e2
            exact g
          have HBW2 := Lib.hid hbw2
          clear hb2 hbw2 hc1 hc2 a0 a1 hbw
          go_wp2
          go_loopw [2, 6] (fun r i wi => TwiceRel l k w2 r i wi) (fun _ i _ => k - (intOf i).toNat)
          case atStart => exact ⟨rfl, 0, by omega, rfl, Below.refl _ _, fun _ _ _ h => by omega⟩
          case round =>
            obtain ⟨rfl, j, hj, rfl, hbi, hne⟩ := hrel
            obtain ⟨hb0, a1, hc1, hc2, hcs⟩ := HC.out _ hbi
            by_cases hjk : j < k
            · have hjl : j < l.length := by omega
              have hcj := hcs j hjl
              clear hcs
              obtain ⟨z, hz, hz2⟩ := as_text l[j].1
              rw [← hz] at hcj
              have j0 : (0 : Int) ≤ j := by omega
              have j1 : (j : Int) < l.length := by omega
              have j2 : (j : Int) < k := by omega
              by_cases he : l[j].1 = l[k].1
              · have t1 := same_true (s := z) (t := x) (by rw [hz2, HX.out.2]; exact he)
                have hR5 : R = 5 := by rw [← HGO.out, if_pos (by rw [← he]; exact seenUp_in hk hjk)]
                subst hR5
                have HB0' := Lib.hid hb0
                clear he hz hz2 hne hb0
                go_wp2
                go_quiet (fail)
                go_wp2
                go_ret
                exact ⟨rfl, HB0'.out.trans ((drewN_below _ _).mono HB0'.out.size)⟩
              · have t1 := same_false (s := z) (t := x) (by rw [hz2, HX.out.2]; exact he)
                have HNE : Hid (∀ i (hi : i < l.length) (hk : k < l.length), i < j + 1 → l[i].1 ≠ l[k].1) := Lib.hid fun i hi hk hij => by
                  by_cases e : i = j
                  · subst e; exact he
                  · exact hne i hi hk (by omega)
                clear he hz hz2 hne hb0
                go_wp2
                go_quiet (fail)
                go_wp2
                exact ⟨⟨rfl, j + 1, by omega, by go_num, hbi.trans ((drewN_below _ _).mono hbi.size), HNE.out⟩, by simp [intOf]; omega⟩
            · have hjk' : j = k := by omega
              subst hjk'
              have hgo := HGO.out
              rw [if_neg (seenUp_out hk fun i hi hij => hne i hi hlt hij)] at hgo
              obtain ⟨ws, hws⟩ : ∃ ws, ws = words l[j].2 := ⟨_, rfl⟩
              have HT2 : Hid (∀ w', Calls Tryz.prog 43 #[.string y] w' (GaveToks ws w')) := Lib.hid (by rw [hws]; exact HT1.out)
              rw [← hws] at hgo
              have HB0' := Lib.hid hb0
              clear hne hcs hb0 hws HGO HT1
              go_wp2_with (go_at_call 43; refine (HT2.out _).mono ?_)
              rintro e w3 ⟨v, rfl, h1, h2, hb3⟩
              have HBI := Lib.hid (HB0'.out.trans (hb3.mono HB0'.out.size))
              have HBJ := Lib.hid (hbi.trans (hb3.mono hbi.size))
              by_cases hz : errFrom 0 ws = 0
              · obtain ⟨A3, c3, rfl⟩ : ∃ A3 c3, v = .slice A3 ws.length c3 := by
                  rcases (h1 hz).2 with ⟨hv, hn⟩ | ⟨g, cap, cur, hv, _⟩
                  · exact ⟨none, 0, by rw [hn]; exact hv⟩
                  · exact ⟨_, _, hv⟩
                have hw5 := errFrom_zero hz (by omega)
                rw [if_neg (by rw [hz]; decide), ← seenUp_succ hlt] at hgo
                have HGO2 := Lib.hid hgo
                rw [hz]
                have hm5 : m ≤ 4000 := by omega
                have hwn : ws.length ≤ 500 := by omega
                clear h1 h2 hz hgo hb3
                go_wp2
                refine ⟨⟨rfl, j + 1, m + ws.length, by omega, by omega, ?_, by go_num, HBW2.out.trans (HBJ.out.mono HBW2.out.size), HGO2.out⟩, by simp [intOf]; omega⟩
                push_cast
                rfl
              · rw [if_pos hz] at hgo
                obtain ⟨E, hE⟩ : ∃ E, E = errFrom 0 ws := ⟨_, rfl⟩
                rw [← hE] at hgo hz
                rw [← hE]
                subst hgo
                have hv := h2 (by rw [← hE]; exact hz)
                subst hv
                clear h1 h2 hb3 hE
                go_wp2
                go_ret
                exact ⟨rfl, HBI.out⟩
      · have hkl : k = l.length := by omega
        subst hkl
        rw [List.drop_length, mayF] at hgo
        have HB0 := Lib.hid hb0
        clear hb0
        by_cases h5 : 500 < m
        · rw [if_pos h5] at hgo
          subst hgo
          go_wp2
          go_ret
          exact ⟨rfl, HB0.out⟩
        · rw [if_neg h5] at hgo
          subst hgo
          have h5' : m ≤ 500 := by omega
          clear h5
          go_wp2
          go_ret
          exact ⟨rfl, HB0.out⟩
end Go.Proofs.YtgcdekaceimdnaaGreat
