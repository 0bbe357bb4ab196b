/- What package doc's May answers of a document. -/
import Derived.Test.YtgcdekaceimdnaaGreatQ13
import Derived.Test.YtgcdekaceimdnaaGreatQ06
import Derived.Test.YtgcdekaceimdnaaGreatMay08
import Derived.Deep.RegionHeld3
import Derived.Deep.DeepCutAuto
namespace Go.Proofs.YtgcdekaceimdnaaGreat
open Go Go.RowKit
set_option linter.unusedVariables false

/-- A field's cells. -/
def encF (f : Fd) : List Value := [.string ⟨f.1.toArray⟩, .string ⟨f.2.toArray⟩]
theorem encF_row {w : World} {B b o : Nat} {zs : List Fd} (h : FRow w B (some ⟨b, o, none⟩) zs) : ∀ j, j < zs.length → ∀ i v, (encF zs[j]!)[i]? = some v → w.cell? ⟨b, o + j * 2 + i, none⟩ = some v := fun j hj i v hv => by
  obtain ⟨_, _, e, _, h1, h2⟩ := h.at_ hj
  cases e
  rw [getElem!_pos zs j hj] at hv
  match i, hv with
  | 0, hv => cases hv; exact h1
  | 1, hv => cases hv; exact h2
  | i + 2, hv => simp [encF] at hv
/-- One field behind others: how many words it has, and the error. -/
def mayOne (seen : List Nm) (f : Fd) : Nat × Int := if nameB f.1 = false then (0, 4) else if f.1 ∈ seen then (0, 5) else if errFrom 0 (words f.2) ≠ 0 then (0, errFrom 0 (words f.2)) else ((words f.2).length, 0)
theorem mayF_one {seen : List Nm} {n k : Nat} {l : List Fd} (hk : k < l.length) : mayF seen n (l.drop k) = if (mayOne seen l[k]).2 ≠ 0 then (mayOne seen l[k]).2 else mayF (seen ++ [l[k].1]) (n + (mayOne seen l[k]).1) (l.drop (k + 1)) := by
  rw [mayF_at hk, mayOne]
  by_cases h1 : nameB l[k].1 = false
  · simp [h1]
  · by_cases h2 : l[k].1 ∈ seen
    · simp [h1, h2]
    · by_cases h3 : errFrom 0 (words l[k].2) = 0
      · simp [h1, h2, h3]
      · simp [h1, h2, h3]
theorem mayOne_le {seen : List Nm} {f : Fd} : (mayOne seen f).1 ≤ 500 := by
  unfold mayOne
  split
  · exact Nat.zero_le _
  · split
    · exact Nat.zero_le _
    · split
      · exact Nat.zero_le _
      · rename_i h
        have := errFrom_zero (Classical.not_not.1 h) (by omega)
        show (words f.2).length ≤ 500
        omega

set_option maxHeartbeats 1000000 in
set_option maxRecDepth 100000 in
theorem doc_named (B : Nat) (x : ByteArray) (f : Fd) (w : World) (hB : w.cell? ⟨B, 0, none⟩ = some (.string x)) :
    Calls Tryz.prog 62 #[.agg #[.string ⟨f.1.toArray⟩, .string ⟨f.2.toArray⟩], .pointer (some ⟨B, 0, none⟩)] w fun e w' => e = .returned (.bool (decide (f.1 = x.data.toList))) ∧ Below w.heap.size w w' := by
  have hc : ∀ o, (w.alloc o).cell? ⟨B, 0, none⟩ = some (.string x) := fun o => Lib.cell?_alloc_some _ hB
  obtain ⟨y, hy, hy2⟩ := as_text f.1
  obtain ⟨z, hz⟩ : ∃ z, z = decide (f.1 = x.data.toList) := ⟨_, rfl⟩
  rw [← hz, ← hy]
  rw [← hy2] at hz
  have HB : Hid (∀ o, Below w.heap.size w (w.alloc o)) := Lib.hid fun o => (Below.refl _ _).alloc (Nat.le_refl _) o
  clear hB hy hy2
  by_cases he : y.data.toList = x.data.toList
  · have t1 := same_true he
    rw [he] at hz
    have hzt : z = true := by rw [hz]; exact decide_eq_true rfl
    subst hzt
    clear he hz
    go_enter Tryz.func62, Tryz.ntmps62
    go_wp2
    go_ret
    exact ⟨rfl, HB.out _⟩
  · have t1 := same_false he
    have hzf : z = false := by rw [hz]; exact decide_eq_false he
    subst hzf
    clear he hz
    go_enter Tryz.func62, Tryz.ntmps62
    go_wp2
    go_ret
    exact ⟨rfl, HB.out _⟩

theorem doc_has_name (B : Nat) (x : ByteArray) (b o k c : Nat) (zs : List Fd) (w : World) (hB : w.cell? ⟨B, 0, none⟩ = some (.string x)) (hBl : B < w.heap.size) (hk : zs.length = k) (hb : b < w.heap.size) (hr : FRow w w.heap.size (some ⟨b, o, none⟩) zs) (hkn : k ≤ 1073741824) :
    Calls Tryz.prog 61 #[.slice (some ⟨b, o, none⟩) k c, .func (.func 62) #[] #[.pointer (some ⟨B, 0, none⟩)]] w fun e w' => e = .returned (.bool (decide (x.data.toList ∈ zs.map (·.1)))) ∧ Below w.heap.size w w' := by
  have e : (zs.take k).any (fun f => decide (f.1 = x.data.toList)) = decide (x.data.toList ∈ zs.map (·.1)) := by
    rw [List.take_of_length_le (by omega), Bool.eq_iff_iff, List.any_eq_true, decide_eq_true_iff, List.mem_map]
    constructor
    · rintro ⟨f, hf, h⟩; exact ⟨f, hf, of_decide_eq_true h⟩
    · rintro ⟨f, hf, h⟩; exact ⟨f, hf, decide_eq_true h⟩
  rw [← e]
  exact AnyQ.slices_ContainsFunc layHasFd 2 Tryz.isAgg59 Tryz.sizeOf59 encF (fun _ => rfl) (fun f => decide (f.1 = x.data.toList)) 62 #[.pointer (some ⟨B, 0, none⟩)] (enters_of Tryz.func62 (by kernel_rfl) rfl) b o k c zs w
    (fun W f hW => (doc_named B x f W ((hW.cell (p := ⟨B, 0, none⟩) hBl).trans hB)).mono fun e w' ⟨h1, h2⟩ => ⟨h1, hW.trans (h2.mono hW.size)⟩) (by omega) (by omega) hb (encF_row hr)

set_option maxHeartbeats 2000000 in
set_option maxRecDepth 100000 in
theorem doc_mayField (x y : ByteArray) (b o k c : Nat) (zs : List Fd) (w : World) (hk : zs.length = k) (hb : b < w.heap.size) (hr : FRow w w.heap.size (some ⟨b, o, none⟩) zs) (hkn : k ≤ 1073741824) (hx : x.size ≤ 9223372036854775807) (hy : y.size ≤ 268435456) :
    Calls Tryz.prog 44 #[.agg #[.string x, .string y], .slice (some ⟨b, o, none⟩) k c] w fun e w' =>
      e = .returned (.tuple #[.int .i64 ((mayOne (zs.map (·.1)) (x.data.toList, y.data.toList)).1 : Int), .int .i64 (mayOne (zs.map (·.1)) (x.data.toList, y.data.toList)).2]) ∧ Below w.heap.size w w' := by
  obtain ⟨w1, hw1⟩ : ∃ w1, w1 = w.alloc (.cells #[.string x, .string y] 59) := ⟨_, rfl⟩
  have hblk : w1.heap[w.heap.size]? = some (.cells #[.string x, .string y] 59 (0, 0)) := by rw [hw1]; exact heap_alloc_new _ _
  have hb1 : Below w.heap.size w w1 := by rw [hw1]; exact (Below.refl _ _).alloc (Nat.le_refl _) _
  have hs1 : w1.heap.size = w.heap.size + 1 := by rw [hw1]; simp
  have HC : Hid (∀ w', Below w1.heap.size w1 w' → Below w.heap.size w w' ∧ w'.cell? ⟨w.heap.size, 0, none⟩ = some (.string x) ∧ w'.cell? ⟨w.heap.size, 1, none⟩ = some (.string y) ∧ w.heap.size < w'.heap.size ∧ b < w'.heap.size ∧ FRow w' w'.heap.size (some ⟨b, o, none⟩) zs) := Lib.hid fun w' h => by
    have h0 := hb1.trans (h.mono hb1.size)
    have hk : w'.heap[w.heap.size]? = some (.cells #[.string x, .string y] 59 (0, 0)) := (h.block _ (by omega)).trans hblk
    exact ⟨h0, by simp [World.cell?, hk], by simp [World.cell?, hk], lt_of_block hk, by have := h0.size; omega, hr.later h0⟩
  have HW1 := Lib.hid hw1
  have N1 : Hid (∀ w', Calls Tryz.prog 60 #[.string x] w' fun e w'' => e = .returned (.bool (nameB x.data.toList)) ∧ Below w'.heap.size w' w'') := Lib.hid fun w' => doc_Name x w' hx
  have H1 : Hid (∀ w', Below w1.heap.size w1 w' → Calls Tryz.prog 61 #[.slice (some ⟨b, o, none⟩) k c, .func (.func 62) #[] #[.pointer (some ⟨w.heap.size, 0, none⟩)]] w' fun e w'' => e = .returned (.bool (decide (x.data.toList ∈ zs.map (·.1)))) ∧ Below w'.heap.size w' w'') := Lib.hid fun w' h => by
    obtain ⟨_, h1, _, h2, h3, h4⟩ := HC.out w' h
    exact doc_has_name w.heap.size x b o k c zs w' h1 h2 hk h3 h4 hkn
  have T1 : Hid (∀ w', Calls Tryz.prog 63 #[.string y] w' (GaveToks (words y.data.toList) w')) := Lib.hid fun w' => word_Tokens y w' hy
  obtain ⟨r, hrr⟩ : ∃ r, r = mayOne (zs.map (·.1)) (x.data.toList, y.data.toList) := ⟨_, rfl⟩
  rw [← hrr]
  unfold mayOne at hrr
  simp only at hrr
  obtain ⟨z1, hz1⟩ : ∃ z1, z1 = nameB x.data.toList := ⟨_, rfl⟩
  obtain ⟨z2, hz2⟩ : ∃ z2, z2 = decide (x.data.toList ∈ zs.map (·.1)) := ⟨_, rfl⟩
  rw [← hz1] at N1 hrr
  rw [← hz2] at H1
  have hz3 : x.data.toList ∈ zs.map (·.1) ↔ z2 = true := by rw [hz2, decide_eq_true_iff]
  simp only [hz3] at hrr
  obtain ⟨ws, hws⟩ : ∃ ws, ws = words y.data.toList := ⟨_, rfl⟩
  rw [← hws] at T1 hrr
  clear hw1 hblk hb1 hs1 hz1 hz2 hz3 hws hb hr hk
  cases z1 with
  | false =>
    rw [if_pos rfl] at hrr
    subst hrr
    go_enter Tryz.func44, Tryz.ntmps44
    go_wp2_with (go_at_call 60; rw [show w.alloc _ = w1 from HW1.out.symm]; (with_reducible refine (N1.out _).mono ?_); rintro e w2 ⟨rfl, hb2⟩)
    go_ret2
    exact ⟨rfl, (HC.out _ hb2).1⟩
  | true =>
    rw [if_neg (by decide)] at hrr
    cases z2 with
    | true =>
      rw [if_pos rfl] at hrr
      subst hrr
      go_enter Tryz.func44, Tryz.ntmps44
      go_wp2_with (first
        | (go_at_call 60; rw [show w.alloc _ = w1 from HW1.out.symm]; (with_reducible refine (N1.out _).mono ?_); rintro e w2 ⟨rfl, hb2⟩
           have HB2 := Lib.hid hb2
           clear hb2)
        | (go_at_call 61; (with_reducible refine (H1.out _ HB2.out).mono ?_); rintro e w3 ⟨rfl, hb3⟩
           have HB3 := Lib.hid (HB2.out.trans (hb3.mono HB2.out.size))
           clear hb3))
      go_ret2
      exact ⟨rfl, (HC.out _ HB3.out).1⟩
    | false =>
      rw [if_neg (by decide)] at hrr
      have HRR := Lib.hid hrr
      clear hrr
      go_enter Tryz.func44, Tryz.ntmps44
      go_wp2_with (first
        | (go_at_call 60; rw [show w.alloc _ = w1 from HW1.out.symm]; (with_reducible refine (N1.out _).mono ?_); rintro e w2 ⟨rfl, hb2⟩
           have HB2 := Lib.hid hb2
           clear hb2)
        | (go_at_call 61; (with_reducible refine (H1.out _ HB2.out).mono ?_); rintro e w3 ⟨rfl, hb3⟩
           have HB3 := Lib.hid (HB2.out.trans (hb3.mono HB2.out.size))
           have a1 := (HC.out _ HB3.out).2.2.1
           clear hb3)
        | (go_at_call 63; (with_reducible refine (T1.out _).mono ?_); rintro e w4 ⟨v, rfl, h1, h2, hb4⟩
           have HB4 := Lib.hid (HB3.out.trans (hb4.mono HB3.out.size))
           obtain ⟨A3, n3, c3, rfl, hn3⟩ : ∃ A3 n3 c3, v = .slice A3 n3 c3 ∧ r = (n3, errFrom 0 ws) := by
             by_cases hz : errFrom 0 ws = 0
             · rcases (h1 hz).2 with ⟨hv, hn⟩ | ⟨g, cap, cur, hv, _⟩
               · exact ⟨none, 0, 0, hv, by rw [HRR.out, if_neg (by rw [hz]; decide), hz, hn]⟩
               · exact ⟨_, _, _, hv, by rw [HRR.out, if_neg (by rw [hz]; decide), hz]⟩
             · exact ⟨none, 0, 0, h2 hz, by rw [HRR.out, if_pos hz]⟩
           obtain ⟨E, hE⟩ : ∃ E, E = errFrom 0 ws := ⟨_, rfl⟩
           rw [← hE] at hn3 ⊢
           clear h1 h2 hb4 hE))
      go_ret2
      rw [hn3]
      exact ⟨rfl, (HC.out _ HB4.out).1⟩

set_option maxHeartbeats 4000000 in
set_option maxRecDepth 100000 in
theorem doc_May (id : Int) (A : Option Addr) (n c : Nat) (l : List Fd) (w : World) (hl : l.length = n) (hr : FRow w w.heap.size A l) (hn : n ≤ 1073741824) (hnc : n ≤ c) (ht : ∀ f ∈ l, f.1.length ≤ 1073741824 ∧ f.2.length ≤ 268435456) :
    Calls Tryz.prog 28 #[docV id A n c] w fun e w' => e = .returned (.int .i64 (mayD l)) ∧ Below w.heap.size w w' := by
  obtain ⟨R, hR⟩ : ∃ R, R = mayD l := ⟨_, rfl⟩
  rw [← hR]
  have HRR := Lib.hid hR
  have HR := Lib.hid hr
  have HT := Lib.hid ht
  have HB1 : Hid (∀ w1, w1 = boxD w id A n c → ∀ wr, Below w1.heap.size w1 wr → Below w.heap.size w wr ∧ wr.cell? ⟨w.heap.size, 0, none⟩ = some (.int .i64 id) ∧ wr.cell? ⟨w.heap.size, 1, none⟩ = some (.slice A n c)) := Lib.hid fun w1 e wr h => by subst e; exact ⟨boxD_out h, boxD_cells h⟩
  clear hR hr ht
  by_cases h8 : 8 < n
  · have hR7 : R = 7 := by rw [HRR.out, mayD, if_pos (by omega)]
    subst hR7
    have HB0 := Lib.hid (HB1.out _ rfl _ (Below.refl _ _)).1
    go_enter Tryz.func28, Tryz.ntmps28
    go_wp2
    go_ret
    exact ⟨rfl, HB0.out⟩
  · have hn8 : n ≤ 8 := by omega
    have HE : Hid (mayF (seenUp l 0) 0 (l.drop 0) = R) := Lib.hid (by rw [HRR.out, mayD, if_neg (by omega)]; rfl)
    clear h8
    subst hl
    go_enter Tryz.func28, Tryz.ntmps28
    go_wp2
    obtain ⟨w1, hw1⟩ : ∃ w1, w1 = boxD w id A l.length c := ⟨_, rfl⟩
    have HB2 := Lib.hid (HB1.out w1 hw1)
    rw [show w.alloc _ = w1 from hw1.symm]
    clear hw1 HB1
    go_loopw [2, 3, 15] (fun r a i wr => MayRel8 l R w1 r a i wr) (fun _ _ i _ => l.length - (intOf i).toNat)
    case atStart => exact ⟨rfl, 0, 0, by omega, by omega, rfl, rfl, Below.refl _ _, HE.out⟩
    case round =>
      obtain ⟨rfl, k, m, hk, hm, rfl, rfl, hbw, hgo⟩ := hrel
      obtain ⟨hb0, a0, a1⟩ := HB2.out _ hbw
      by_cases hlt : k < l.length
      · obtain ⟨b1, o1, e1, hb1, hc1, hc2⟩ := (HR.out.below hb0).at_ hlt
        subst e1
        rw [mayF_one hlt] at hgo
        have ht8 := HT.out _ (List.getElem_mem hlt)
        obtain ⟨x, hx, hx2⟩ := as_text l[k].1
        obtain ⟨y, hy, hy2⟩ := as_text l[k].2
        rw [← hx] at hc1
        rw [← hy] at hc2
        have i0 : (0 : Int) ≤ k := by omega
        have i1 : (k : Int) < l.length := by omega
        have i2 : (k : Int) ≤ c := by omega
        obtain ⟨w2, hw2⟩ : ∃ w2, w2 = wr.alloc (.cells #[.string x, .string y] 59) := ⟨_, rfl⟩
        have hblk : w2.heap[wr.heap.size]? = some (.cells #[.string x, .string y] 59 (0, 0)) := by rw [hw2]; exact heap_alloc_new _ _
        have hb2 : Below wr.heap.size wr w2 := by rw [hw2]; exact (Below.refl _ _).alloc (Nat.le_refl _) _
        have hbr := hbw.size
        have hr1 : FRow w2 w2.heap.size (some ⟨b1, o1, none⟩) (l.take k) := ((HR.out.later hb0).later hb2).cut k
        obtain ⟨r, hrr⟩ : ∃ r, r = mayOne (seenUp l k) l[k] := ⟨_, rfl⟩
        have hr5 : r.1 ≤ 500 := by rw [hrr]; exact mayOne_le
        have HMF : Hid (∀ w', Below w2.heap.size w2 w' → Calls Tryz.prog 44 #[.agg #[.string x, .string y], .slice (some ⟨b1, o1, none⟩) k c] w' fun e w'' => e = .returned (.tuple #[.int .i64 (r.1 : Int), .int .i64 r.2]) ∧ Below w'.heap.size w' w'') := Lib.hid fun w' h => by
          have hs0 := hb0.size
          have hs2 := hb2.size
          have hs3 := h.size
          have := doc_mayField x y b1 o1 k c (l.take k) w' (by rw [List.length_take]; omega) (by omega) (hr1.later h) (by omega) (by rw [hx, size_nm]; have := ht8.1; omega) (by rw [hy, size_nm]; exact ht8.2)
          rw [hx2, hy2] at this
          rw [hrr]
          exact this
        rw [← hrr] at hgo
        have HS : Hid (∀ w', Below w2.heap.size w2 w' → Below w1.heap.size w1 w' ∧ w'.cell? ⟨wr.heap.size, 0, none⟩ = some (.string x) ∧ w'.cell? ⟨wr.heap.size, 1, none⟩ = some (.string y) ∧ w'.cell? ⟨w.heap.size, 1, none⟩ = some (.slice (some ⟨b1, o1, none⟩) l.length c)) := Lib.hid fun w' h => by
          have h1 := hbw.trans ((hb2.trans (h.mono hb2.size)).mono hbw.size)
          have hk : w'.heap[wr.heap.size]? = some (.cells #[.string x, .string y] 59 (0, 0)) := (h.block _ (lt_of_block hblk)).trans hblk
          exact ⟨h1, by simp [World.cell?, hk], by simp [World.cell?, hk], (HB2.out _ h1).2.2⟩
        have HW2 := Lib.hid hw2
        have HGO := Lib.hid hgo
        have HB0 := Lib.hid hb0
        clear hx hx2 hy hy2 ht8 hw2 hblk hb2 hr1 hrr hgo hb0 hb1 hbw
        obtain ⟨q, E⟩ := r
        simp only at hr5 HMF HGO
        go_upto_region 7 with fail
        rw [show wr.alloc _ = w2 from HW2.out.symm]
        go_region_held3 (fun w' => w'.cell? ⟨wr.heap.size, 0, none⟩ = some (.string x) ∧ w'.cell? ⟨wr.heap.size, 1, none⟩ = some (.string y) ∧ w'.cell? ⟨w.heap.size, 1, none⟩ = some (.slice (some ⟨b1, o1, none⟩) l.length c))
          (first | exact (HS.out _ (Below.refl _ _).drew).2 | exact (HS.out _ HB3.out).2)
          (first
            | (go_at_call 44; (with_reducible refine (HMF.out _ (Below.refl _ w2).drew).mono ?_); rintro e w3 ⟨rfl, hb3⟩
               have HB3 : Hid (Below w2.heap.size w2 w3) := Lib.hid ((Below.refl _ w2).drew.trans hb3)
               clear hb3))
        by_cases hE : E = 0
        · subst hE
          have hgo := HGO.out
          rw [if_neg (by decide), ← seenUp_succ hlt] at hgo
          have HGO2 := Lib.hid hgo
          have hm5 : m ≤ 4000 := by omega
          clear hgo
          go_wp2
          refine ⟨⟨rfl, k + 1, m + q, by omega, by omega, ?_, by go_num, (HS.out _ HB3.out).1, HGO2.out⟩, by simp [intOf]; omega⟩
          push_cast
          rfl
        · have hgo := HGO.out
          rw [if_pos hE] at hgo
          subst hgo
          go_wp2
          go_ret
          exact ⟨rfl, (HB2.out _ (HS.out _ HB3.out).1).1⟩
      · have hkl : k = l.length := by omega
        subst hkl
        rw [List.drop_length, mayF] at hgo
        have HB0 := Lib.hid hb0
        clear hb0
        by_cases h5 : 500 < m
        · rw [if_pos h5] at hgo
          subst hgo
          go_wp2
          go_ret
          exact ⟨rfl, HB0.out⟩
        · rw [if_neg h5] at hgo
          subst hgo
          have h5' : m ≤ 500 := by omega
          clear h5
          go_wp2
          go_ret
          exact ⟨rfl, HB0.out⟩
end Go.Proofs.YtgcdekaceimdnaaGreat
