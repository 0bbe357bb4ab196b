/- What merge.Order answers. -/
import Derived.Test.YtpehcaidjlemiaaHeapPush11
import Derived.Test.YtpehcaidjlemiaaHeapInit11
import Derived.Test.YtpehcaidjlemiaaWrong11
import Derived.Test.YtpehcaidjlemiaaOrdOk11
import Derived.StillTailTactics
set_option linter.unusedVariables false
namespace Go.Proofs.Ytpehcaidjlemiaa
open Go Go.RowKit

/-- A block of another type stays while a row grows. -/
theorem grown_other {w w' : World} {b : Nat} {e : TypeId} {size n : Nat} {v : Value} {xs : List Value} (ho : w.ownsRow b e size v n xs) (hg : w.grownBy w' v.ownBlock) {k : Nat} {cs : Array Value} {t : TypeId} {fr : Nat × Nat} (hk : w.heap[k]? = some (.cells cs t fr)) (ht : t ≠ e) : w'.heap[k]? = some (.cells cs t fr) := by
  rw [hg.block k (Array.getElem?_eq_some_iff.1 hk).1 ?_, hk]
  intro e2
  obtain ⟨cs', h⟩ := owned_kind ho e2.symm
  rw [hk] at h
  injection h with h
  injection h with _ h
  exact ht h
theorem three_cells11 {w : World} {b : Nat} {x y z : Value} {t : TypeId} (h : w.heap[b]? = some (.cells #[x, y, z] t (0, 0))) : w.cell? ⟨b, 0, none⟩ = some x ∧ w.cell? ⟨b, 1, none⟩ = some y ∧ w.cell? ⟨b, 2, none⟩ = some z := by
  simp [World.cell?, h]
theorem HAt.other {base B : Nat} {w w' : World} {H : List Hd} (h : HAt base w B H) {b : Nat} {e : TypeId} {size n : Nat} {v : Value} {xs : List Value} (ho : w.ownsRow b e size v n xs) (hg : w.grownBy w' v.ownBlock) (he : ¬ TurnH e) : HAt base w' B H := by
  obtain ⟨h1, u, h2, h3⟩ := h
  refine ⟨h1, u, grown_other ho hg h2 (fun e2 => he (e2 ▸ .inr rfl)), owned_keep h3 fun g hg2 => ?_⟩
  obtain ⟨cs, hk⟩ := owned_kind h3 hg2
  rw [grown_other ho hg hk (fun e2 => he (e2 ▸ .inl rfl)), hk]
/-- Pop of a heap whose first one is known. -/
theorem heap_Pop_at (base B : Nat) (H : List Hd) (x : Hd) (w : World) (h : HAt base w B H) (hx : H[0]? = some x) (hl : H.length ≤ 100000) (hh : HeapN hkey H H.length) :
    Calls Try.prog 15 #[ifH B] w fun e w' => e = .returned (ifX x) ∧ ∃ R, (x :: R).Perm H ∧ HeapN hkey R R.length ∧ HAt base w' B R ∧ MildH base w w' := by
  refine (heap_Pop base B H w h (List.getElem?_eq_some_iff.1 hx).1 hl hh).mono ?_
  rintro e w' ⟨y, R, rfl, h1, h2, h3, h4, h5⟩
  rw [hx] at h2
  injection h2 with h2
  subst h2
  exact ⟨rfl, R, h1, h3, h4, h5⟩
/-- An order is being made, out of a heap of heads. -/
structure OrderAt (l : List (List Int)) (w : World) (B : Nat) (a : List Nat) (o : List Pl) (last : Int) (H : List Hd) (vo : Value) (wr : World) : Prop where
  mid : OrdMid l a o last
  cnt : o.length = a.sum
  heads : Heads l a H
  heap : HeapN hkey H H.length
  few : H.length ≤ l.length
  out : wr.ownsRow w.heap.size 30 2 vo o.length (plc o)
  at_ : HAt w.heap.size wr B H
  below : Below w.heap.size w wr
def OrderRel (l : List (List Int)) (w : World) (B : Nat) (v5 v6 : Value) (wr : World) : Prop := ∃ (a : List Nat) (o : List Pl) (last : Int) (H : List Hd), v6 = .int .i64 last ∧ lenV v5 = o.length ∧ OrderAt l w B a o last H v5 wr
set_option maxHeartbeats 4000000 in
set_option maxRecDepth 100000 in
theorem merge_Order (A : Option Addr) (m c : Nat) (l : List (List Int)) (w : World) (hL : Lol (Value.int .i64) w w.heap.size A l) (hm : l.length = m) (hm2 : m ≤ 1000) (hl : ∀ s ∈ l, s.length ≤ 1000) :
    Calls Try.prog 5 #[.slice A m c] w (GaveOrdN l w) := by
  obtain ⟨j0, hj0, hy0, hy1, hy2⟩ := info_parts info_pair
  have htot : (l.map List.length).sum ≤ 1000000 := sum_bound hm hm2 hl
  have C1 := Lib.hid (wrong_contains A m c l w hm (by omega) hL)
  have HL := Lib.hid hL
  have HLL := Lib.hid hl
  have HM := Lib.hid hm
  have HT := Lib.hid htot
  obtain ⟨z, hz⟩ : ∃ z, z = l.all (risesZ (-1)) := ⟨_, rfl⟩
  rw [← hz] at C1
  have HZ := Lib.hid hz
  clear hL hl hm htot hz
  have hta := fun v w => run_assert_head v w
  cases z with
  | false =>
    have hbad : ¬ ∀ s ∈ l, risesZ (-1) s = true := fun h => by
      have := List.all_eq_true.2 h
      rw [← HZ.out] at this
      cases this
    have HBAD := Lib.hid hbad
    clear hbad
    go_enter Try.func5, Try.ntmps5
    go_wp2_with (go_at_call 10; refine (C1.out).mono ?_; rintro e w1 ⟨rfl, hb1⟩)
    go_ret2
    exact ⟨1, [], none, 0, .bad HBAD.out, rfl, ⟨Nat.le_refl _, Nat.zero_le _⟩, Row.nil, hb1, Nat.zero_le _⟩
  | true =>
    have hall : ∀ s ∈ l, risesZ (-1) s = true := fun s hs => List.all_eq_true.1 (HZ.out).symm s hs
    have HALL := Lib.hid hall
    clear hall
    go_enter Try.func5, Try.ntmps5
    go_wp2_with first
      | (go_at_call 13; rw [← HW3.out]; refine (C3.out).mono ?_; rintro e w4 ⟨⟨v4, rfl⟩, H, hp, hheap, hat, hmild⟩)
      | (go_at_call 12; refine (C2.out).mono ?_; rintro e w2 ⟨v2, H0, rfl, hH, hHl, hown, hb2⟩
         obtain ⟨A2, c2, rfl, _, _, _⟩ := owned_roomy hown
         obtain ⟨w3, hw3⟩ : ∃ w3, w3 = w2.alloc (.cells #[.slice A2 H0.length c2] 38) := ⟨_, rfl⟩
         have hsz2 : w.heap.size ≤ w2.heap.size := Nat.le_trans (HB1.out).size hb2.size
         have hat3 : HAt w.heap.size w3 w2.heap.size H0 := by
           rw [hw3]
           exact ⟨hsz2, _, heap_alloc_new w2 _, (owned_low hown (HB1.out).size).alloc _⟩
         have C3 := Lib.hid (heap_Init w.heap.size w2.heap.size H0 w3 hat3 (by have := HM.out; omega))
         have HW3 := Lib.hid hw3
         have HB3 := Lib.hid (show Below w.heap.size w w3 by rw [hw3]; exact ((HB1.out).trans (hb2.mono (HB1.out).size)).alloc hsz2 _)
         have HH := Lib.hid hH
         have HHL := Lib.hid hHl
         clear hw3 hat3 hown hb2 hH hHl hsz2)
      | (go_at_call 10; refine (C1.out).mono ?_; rintro e w1 ⟨rfl, hb1⟩
         have C2 := Lib.hid (merge_first A m c l w1 ((HL.out).later hb1) HM.out (by omega))
         have HB1 := Lib.hid hb1
         clear hb1)
    obtain ⟨B, hB⟩ : ∃ B, B = w2.heap.size := ⟨_, rfl⟩
    rw [← hB] at hat
    have hst : OrderRel l w B (.slice none 0 0) (.int .i64 (-1)) w4 :=
      ⟨List.replicate l.length 0, [], -1, H, rfl, rfl, ordMid_begin HALL.out, by simp, ((HH.out).start).perm hp, hheap, by rw [hp.length_eq]; exact HHL.out, World.ownsRow_nil _ _ _ _, hat, (HB3.out).trans hmild.below⟩
    have HST := Lib.hid hst
    clear hst hat hheap hp hmild HH HHL HB3 HW3 C3 C2 C1
    try rw [← hB]
    clear hB
    go_loopw [5, 6, 7, 8] (fun v5 v6 v7 v8 wr => OrderRel l w B v5 v6 wr) (fun v5 _ _ _ _ => 1000001 - lenV v5)
    case atStart => exact HST.out
    case round =>
      clear HST
      obtain ⟨a, o, last, H, rfl, hlen, hat⟩ := hrel
      have hlm : H.length ≤ 1000 := by have h1 := hat.few; have h2 := HM.out; omega
      have hle0 := sum_le11 hat.mid.len hat.mid.le
      have hcnt0 := hat.cnt
      have hol : o.length ≤ 1000000 := by have := HT.out; omega
      obtain ⟨Ah, ch, hch, _, _, _⟩ := hat.at_.read
      have hall := HALL.out
      cases H with
      | nil =>
        obtain ⟨Ao, co, rfl, hco, hcm, hro⟩ := owned_roomy hat.out
        have HFIN := Lib.hid (show GaveOrdN l w (.returned (.tuple #[.slice Ao o.length co, .int .i64 0])) wr from ⟨0, o, Ao, co, .ok hall (hat.heads.none hat.mid), rfl, ⟨hco, hcm⟩, hro, hat.below, hol⟩)
        clear hat hcnt0 hle0 hall hlen hol hro hco hcm
        simp only [List.length_nil] at hch
        go_wp2_with (go_at_call 14; refine (heads_Len _ _ _ _).mono ?_; rintro e w5 ⟨rfl, rfl⟩)
        go_ret2
        exact HFIN.out
      | cons x R0 =>
        obtain ⟨x1, x2, x3⟩ := x
        obtain ⟨hin, hx3, hx1⟩ := hat.heads.ins _ (List.mem_cons_self ..)
        simp only at hin hx3 hx1
        have hin' : InO l (x2, x3) := hin
        have hkl : x2 < l.length := hin'.1
        have hkn : x3 < l[x2].length := (inO_at.1 hin').2
        clear hin'
        have hba : x2 < a.length := by rw [hat.mid.len]; exact hkl
        have hmin : ∀ y ∈ R0, x1 ≤ y.1 := fun y hy => by
          obtain ⟨j, hj, rfl⟩ := List.getElem_of_mem hy
          have := hat.heap.least (Nat.le_refl _) (j + 1) (by simpa using hj)
          simpa using this
        obtain ⟨hb1, hb2⟩ := hat.heads.least (x := (x1, x2, x3)) hmin
        simp only at hb1 hb2
        rw [← hx3] at hb1 hb2
        have hstep := fun hn => hat.mid.step hall (b := x2) (by rw [← hx3]; exact hb1) (by rw [← hx3]; exact hb2) hn
        have htw := fun he => hat.mid.twice hall (b := x2) (by rw [← hx3]; exact hb1) he
        rw [← hx3, ← hx1] at hstep htw
        have hsum := sum_set a x2 hba
        rw [← hx3] at hsum
        have CP := heap_Pop_at w.heap.size B _ (x1, x2, x3) wr hat.at_ rfl (by omega) hat.heap
        have hHlen : (((x1, x2, x3) :: R0 : List Hd).length : Int) = (R0.length : Int) + 1 := by simp
        have hbw := hat.below
        have hdec : decide ((0 : Int) < (R0.length : Int) + 1) = true := decide_eq_true (by omega)
        have HCP := Lib.hid CP
        have HSTEP := Lib.hid hstep
        have HTW := Lib.hid htw
        have HSUM := Lib.hid hsum
        have HAT := Lib.hid hat
        have HBW := Lib.hid hbw
        have HX3 := Lib.hid hx3
        have HX1 := Lib.hid hx1
        have HB1 := Lib.hid hb1
        clear hstep htw hsum hmin hb1 hb2 hin CP hat hle0 hcnt0 hall hx3 hx1 hbw hHlen
        by_cases hxl : x1 = last
        · have TW := Lib.hid (HTW.out hxl)
          have d1 : (x1 == last) = true := by rw [hxl]; exact beq_self_eq_true _
          clear hxl hkn hlen hol
          go_wp2_with (first
            | (go_at_call 15; refine (HCP.out).mono ?_; rintro e w3 ⟨rfl, R, hp, hheap, hat3, hm3⟩)
            | (go_at_call 14; refine (heads_Len _ _ _ _).mono ?_; rintro e w5 ⟨rfl, rfl⟩))
          go_ret2
          exact ⟨5, [], none, 0, .twice HALL.out TW.out, rfl, ⟨Nat.le_refl _, Nat.zero_le _⟩, Row.nil, ((HBW.out).trans hm3.below).alloc (Nat.le_trans (HBW.out).size hm3.below.size) _, Nat.zero_le _⟩
        · have d1 : (x1 == last) = false := beq_eq_false_iff_ne.2 hxl
          have hnx := HSTEP.out hxl
          have hle1 := sum_le11 hnx.len hnx.le
          rw [HSUM.out] at hle1
          have hN1 : o.length + 1 ≤ 1000000 := by have h1 := HT.out; have h2 := (HAT.out).cnt; omega
          have NX := Lib.hid hnx
          obtain ⟨b1, o1, A', c', rfl, hbl1, q1, ⟨hc1, hc2⟩, hrow⟩ := ((HL.out).below (HBW.out)).at_ hkl
          obtain ⟨b2, o2, rfl, hbl2, _⟩ := row_int hrow (k := x3) hkn
          have hval : ∀ (hn : x3 + 1 < l[x2].length), l[x2][x3 + 1] = valO l (x2, x3 + 1) := fun hn => (valO_at hkl hn).symm
          have hio : x3 + 1 < l[x2].length → InO l (x2, x3 + 1) := fun hn => inO_at.2 ⟨hkl, hn⟩
          have hno : ¬ x3 + 1 < l[x2].length → ¬ InO l (x2, x3 + 1) := fun hn h => hn (inO_at.1 h).2
          have hcy : ∀ (hn : x3 + 1 < l[x2].length), wr.cell? ⟨b2, o2 + (x3 + 1), none⟩ = some (.int .i64 (valO l (x2, x3 + 1))) := fun hn => by
            obtain ⟨b3, o3, e3, _, hc3⟩ := row_int hrow (k := x3 + 1) hn
            injection e3 with e3
            injection e3 with e3 e4
            subst e3 e4
            rw [hval hn] at hc3
            exact hc3
          obtain ⟨n, hn⟩ : ∃ n, n = l[x2].length := ⟨_, rfl⟩
          rw [← hn] at q1 hc1 hkn hio hno hcy
          obtain ⟨N, hN⟩ : ∃ N, N = o.length := ⟨_, rfl⟩
          rw [← hN] at hN1 hlen
          have hout := (HAT.out).out
          rw [← hN] at hout
          have hgb := (HAT.out).heads
          have hla := (HAT.out).mid.len
          have hfew := (HAT.out).few
          rw [List.length_cons] at hfew
          have hx2m : (x2 : Int) < (m : Int) := by have := HM.out; omega
          have hnb : n ≤ 9223372036854775807 := by unfold maxLen at hc2; omega
          have HN := Lib.hid hN
          have HLEN := Lib.hid hlen
          have HOUT := Lib.hid hout
          have HFEW := Lib.hid hfew
          have hQ : ∀ W, Below w.heap.size wr W → W.cell? ⟨b1, o1 + x2, none⟩ = some (.slice (some ⟨b2, o2, none⟩) n c') := fun W hW => (hW.cell (p := ⟨b1, o1 + x2, none⟩) hbl1).trans q1
          have HQ := Lib.hid hQ
          unfold maxLen at hc2
          clear hxl hnx hle1 hN hlen hout hfew hQ q1 hrow hol hval hn
          by_cases hn1 : x3 + 1 < n
          · have hi := hio hn1
            have hnext := hgb.next hla hi
            have hcy1 := hcy hn1
            simp only at hnext
            obtain ⟨y, hy⟩ : ∃ y, y = valO l (x2, x3 + 1) := ⟨_, rfl⟩
            rw [← hy] at hnext hcy1
            have HNEXT := Lib.hid hnext
            have HY : Hid (∀ W, Below w.heap.size wr W → W.cell? ⟨b2, o2 + (x3 + 1), none⟩ = some (.int .i64 y)) := Lib.hid fun W hW => (hW.cell (p := ⟨b2, o2 + (x3 + 1), none⟩) hbl2).trans hcy1
            have hnc : ¬ c' = x3 + 1 := by omega
            have hd2 : decide ((0 : Int) < ((n - (x3 + 1) : Nat) : Int)) = true := decide_eq_true (by omega)
            have hd3 : decide (0 < n - (x3 + 1)) = true := decide_eq_true (by omega)
            have hd4 : 0 < n - (x3 + 1) := by omega
            clear hgb hi hnext hcy1 hcy hio hno hy hla
            go_wp2_with (first
              | (go_at_call 15; refine (HCP.out).mono ?_; rintro e w3 ⟨rfl, R, hp, hheap, hat3, hm3⟩
                 have HP := Lib.hid (hp.cons_inv)
                 have HHE := Lib.hid hheap
                 have HAT3 := Lib.hid hat3
                 have HM3 := Lib.hid hm3
                 have HO3 := Lib.hid (hm3.owned HOUT.out (by unfold TurnH; decide))
                 clear hp hheap hat3 hm3)
              | (go_at_call 14; refine (heads_Len _ _ _ _).mono ?_; rintro e w5 ⟨rfl, h5⟩; obtain rfl : wr = w5 := h5.symm)
              | (at_builtin; refine wpList_append_own _ rfl (.tmp 27) (.tmp 33) 26 rfl w.heap.size 30 j0 _ 2 16 Try.underlying26 hj0 hy0 hy1 hy2 rfl (by omega) _ N (plc o) rfl ((HO3.out.alloc _).alloc _) ⟨w3.heap.size + 1, 0, none⟩ 1 1 [.int .i64 (x2 : Int), .int .i64 (x3 : Int)] rfl rfl (by simpa using news_at (w3.alloc _) [.int .i64 (x2 : Int), .int .i64 (x3 : Int)] 30) (by intro u hu; simp at hu; rcases hu with rfl | rfl <;> rfl) (by unfold maxLen; omega) (by omega) (by have h1 := (HBW.out).size; have h2 := (HM3.out).below.size; simp; omega) ?_
                 intro v6 w6 hown6 hg6 _))
            have hal3 : Below w3.heap.size w3 ((w3.alloc (.cells #[.int .i64 x1, .int .i64 (x2 : Int), .int .i64 (x3 : Int)] 44)).alloc (.cells #[.int .i64 (x2 : Int), .int .i64 (x3 : Int)] 30)) := ((Below.refl _ w3).alloc (Nat.le_refl _) _).alloc (by simp) _
            have hbox : ((w3.alloc (.cells #[.int .i64 x1, .int .i64 (x2 : Int), .int .i64 (x3 : Int)] 44)).alloc (.cells #[.int .i64 (x2 : Int), .int .i64 (x3 : Int)] 30)).heap[w3.heap.size]? = some (.cells #[.int .i64 x1, .int .i64 (x2 : Int), .int .i64 (x3 : Int)] 44 (0, 0)) := by rw [Below.heap_alloc _ _ _ (by simp)]; exact heap_alloc_new w3 _
            have hO3a := owned_below HO3.out hal3
            have hat6 := ((HAT3.out).below hal3).other hO3a hg6 (by unfold TurnH; decide)
            have hbx6 := grown_other hO3a hg6 hbox (by decide)
            have hs36 : w.heap.size ≤ w3.heap.size := by have h1 := (HBW.out).size; have h2 := (HM3.out).below.size; omega
            have hb6 : Below w.heap.size wr w6 := ((HM3.out).below.trans (hal3.mono hs36)).grown hg6 (Nat.le_trans hs36 hal3.size) (fun q hq => (hO3a.lt q hq).1)
            obtain ⟨A6, c6, e6, _, _, _⟩ := owned_roomy hown6
            have hl6 : lenV v6 = N + 1 := by rw [e6]; rfl
            obtain ⟨X, hX⟩ : ∃ X, X = w3.heap.size := ⟨_, rfl⟩
            rw [← hX] at hbx6
            try rw [← hX]
            obtain ⟨p1, p2, p3⟩ := three_cells11 hbx6
            have q1 := HQ.out w6 hb6
            have HL6 := Lib.hid hl6
            have HAT6 := Lib.hid hat6
            have HO6 := Lib.hid hown6
            have HBX6 := Lib.hid hbx6
            have HB6 := Lib.hid hb6
            have HS6 : Hid (w.heap.size ≤ w6.heap.size) := Lib.hid (Nat.le_trans (HBW.out).size hb6.size)
            clear hal3 hbox hO3a hat6 hbx6 hb6 e6 hl6 hown6 hg6 hX hs36
            go_quiet (fail)
            generalize hwz : World.drewN _ nq = wz
            have hz : Below w6.heap.size w6 wz := by rw [← hwz]; exact ⟨rfl, rfl, rfl, Nat.le_refl _, fun _ _ => rfl⟩
            have hbz : Below w.heap.size wr wz := (HB6.out).trans (hz.mono HS6.out)
            have HATZ := Lib.hid ((HAT6.out).below hz)
            have HOZ := Lib.hid (owned_below HO6.out hz)
            have HBZ := Lib.hid hbz
            obtain ⟨p4, p5, p6⟩ := three_cells11 ((hz.block X (lt_of_block HBX6.out)).trans HBX6.out)
            have q2 := (HY.out) wz hbz
            clear hwz hz hbz p1 p2 p3 q1
            go_wp2
            refine wp_region_still_tail 11 (by kernel_rfl) (by kernel_rfl) ?_
            simp only [List.take_succ_cons, List.take_zero, List.drop_succ_cons, List.drop_zero]
            still_step
            still_step
            still_step
            still_step
            still_step
            still_step
            still_step
            still_step
            still_step
            still_step
            still_step
            refine wpStill_nil ?_
            change wpList _ _ _ _ _ wz.drew
            have C7 : Calls Try.prog 16 #[ifH B, .iface 44 (.agg #[.int .i64 y, .int .i64 (x2 : Int), .int .i64 ((x3 : Int) + 1)])] wz.drew (HeapGot w.heap.size B (R ++ [(y, x2, x3 + 1)]) wz.drew) := by
              have h7 := heap_Push w.heap.size B R (y, x2, x3 + 1) wz.drew (HATZ.out).drew (by have h1 := (HP.out).length_eq; have h2 := HFEW.out; have h3 := HM.out; omega) HHE.out
              rw [show (x3 : Int) + 1 = ((x3 + 1 : Nat) : Int) by omega]
              exact h7
            go_wp2_with (go_at_call 16; refine C7.mono ?_; rintro e w7 ⟨⟨v7, rfl⟩, l7, hp7, hh7, hat7, hm7⟩)
            have hlen7 : l7.length = R0.length + 1 := by rw [hp7.length_eq, List.length_append, List.length_singleton, (HP.out).length_eq]
            have hout7 := hm7.owned (show wz.drew.ownsRow w.heap.size 30 2 v6 (N + 1) _ from HOZ.out) (by unfold TurnH; decide)
            have hfin : OrderRel l w B v6 (.int .i64 x1) w7 := by
              refine ⟨a.set x2 (x3 + 1), o ++ [(x2, x3)], x1, l7, rfl, by rw [HL6.out, List.length_append, ← HN.out]; rfl, NX.out, by rw [List.length_append, HSUM.out, ← (HAT.out).cnt]; rfl, (HNEXT.out).perm (hp7.trans ((List.perm_append_singleton _ _).trans ((HP.out).cons _))), hh7, by rw [hlen7]; exact HFEW.out, ?_, hat7, ?_⟩
              · rw [List.length_append, ← HN.out, plc_append]
                exact hout7
              · exact ((HBW.out).trans HBZ.out).trans (Below.trans (Below.refl _ wz).drew hm7.below)
            have HFIN := Lib.hid hfin
            clear hfin hout7 hlen7 hp7 hh7 hat7 hm7
            go_roundw
            case rel => exact HFIN.out
            case measure => have h1 := HL6.out; have h2 := HLEN.out; simp; omega
          · have hlast := hgb.last hla (hno hn1)
            simp only at hlast
            have HLAST := Lib.hid hlast
            have hd2 : decide ((0 : Int) < ((n - (x3 + 1) : Nat) : Int)) = false := decide_eq_false (by omega)
            have hd3 : decide (0 < n - (x3 + 1)) = false := decide_eq_false (by omega)
            have hle3 : x3 + 1 ≤ n := by omega
            clear hgb hlast hcy hio hno hla
            go_wp2_with (first
              | (go_at_call 15; refine (HCP.out).mono ?_; rintro e w3 ⟨rfl, R, hp, hheap, hat3, hm3⟩
                 have HP := Lib.hid (hp.cons_inv)
                 have HHE := Lib.hid hheap
                 have HAT3 := Lib.hid hat3
                 have HM3 := Lib.hid hm3
                 have HO3 := Lib.hid (hm3.owned HOUT.out (by unfold TurnH; decide))
                 clear hp hheap hat3 hm3)
              | (go_at_call 14; refine (heads_Len _ _ _ _).mono ?_; rintro e w5 ⟨rfl, h5⟩; obtain rfl : wr = w5 := h5.symm)
              | (at_builtin; refine wpList_append_own _ rfl (.tmp 27) (.tmp 33) 26 rfl w.heap.size 30 j0 _ 2 16 Try.underlying26 hj0 hy0 hy1 hy2 rfl (by omega) _ N (plc o) rfl ((HO3.out.alloc _).alloc _) ⟨w3.heap.size + 1, 0, none⟩ 1 1 [.int .i64 (x2 : Int), .int .i64 (x3 : Int)] rfl rfl (by simpa using news_at (w3.alloc _) [.int .i64 (x2 : Int), .int .i64 (x3 : Int)] 30) (by intro u hu; simp at hu; rcases hu with rfl | rfl <;> rfl) (by unfold maxLen; omega) (by omega) (by have h1 := (HBW.out).size; have h2 := (HM3.out).below.size; simp; omega) ?_
                 intro v6 w6 hown6 hg6 _))
            have hal3 : Below w3.heap.size w3 ((w3.alloc (.cells #[.int .i64 x1, .int .i64 (x2 : Int), .int .i64 (x3 : Int)] 44)).alloc (.cells #[.int .i64 (x2 : Int), .int .i64 (x3 : Int)] 30)) := ((Below.refl _ w3).alloc (Nat.le_refl _) _).alloc (by simp) _
            have hbox : ((w3.alloc (.cells #[.int .i64 x1, .int .i64 (x2 : Int), .int .i64 (x3 : Int)] 44)).alloc (.cells #[.int .i64 (x2 : Int), .int .i64 (x3 : Int)] 30)).heap[w3.heap.size]? = some (.cells #[.int .i64 x1, .int .i64 (x2 : Int), .int .i64 (x3 : Int)] 44 (0, 0)) := by rw [Below.heap_alloc _ _ _ (by simp)]; exact heap_alloc_new w3 _
            have hO3a := owned_below HO3.out hal3
            have hat6 := ((HAT3.out).below hal3).other hO3a hg6 (by unfold TurnH; decide)
            have hbx6 := grown_other hO3a hg6 hbox (by decide)
            have hs36 : w.heap.size ≤ w3.heap.size := by have h1 := (HBW.out).size; have h2 := (HM3.out).below.size; omega
            have hb6 : Below w.heap.size wr w6 := ((HM3.out).below.trans (hal3.mono hs36)).grown hg6 (Nat.le_trans hs36 hal3.size) (fun q hq => (hO3a.lt q hq).1)
            obtain ⟨A6, c6, e6, _, _, _⟩ := owned_roomy hown6
            have hl6 : lenV v6 = N + 1 := by rw [e6]; rfl
            obtain ⟨X, hX⟩ : ∃ X, X = w3.heap.size := ⟨_, rfl⟩
            rw [← hX] at hbx6
            try rw [← hX]
            obtain ⟨p1, p2, p3⟩ := three_cells11 hbx6
            have q1 := HQ.out w6 hb6
            have HL6 := Lib.hid hl6
            have HAT6 := Lib.hid hat6
            have HO6 := Lib.hid hown6
            have HBX6 := Lib.hid hbx6
            have HB6 := Lib.hid hb6
            have HS6 : Hid (w.heap.size ≤ w6.heap.size) := Lib.hid (Nat.le_trans (HBW.out).size hb6.size)
            clear hal3 hbox hO3a hat6 hbx6 hb6 e6 hl6 hown6 hg6 hX hs36
            go_quiet (fail)
            generalize hwz : World.drewN _ nq = wz
            have hz : Below w6.heap.size w6 wz := by rw [← hwz]; exact ⟨rfl, rfl, rfl, Nat.le_refl _, fun _ _ => rfl⟩
            have hbz : Below w.heap.size wr wz := (HB6.out).trans (hz.mono HS6.out)
            have HATZ := Lib.hid ((HAT6.out).below hz)
            have HOZ := Lib.hid (owned_below HO6.out hz)
            have HBZ := Lib.hid hbz
            clear hwz hz hbz p1 p2 p3 q1
            go_wp2
            have hfin : OrderRel l w B v6 (.int .i64 x1) wz := by
              refine ⟨a.set x2 (x3 + 1), o ++ [(x2, x3)], x1, R, rfl, by rw [HL6.out, List.length_append, ← HN.out]; rfl, NX.out, by rw [List.length_append, HSUM.out, ← (HAT.out).cnt]; rfl, (HLAST.out).perm HP.out, HHE.out, by have h1 := (HP.out).length_eq; have h2 := HFEW.out; omega, ?_, HATZ.out, (HBW.out).trans HBZ.out⟩
              rw [List.length_append, ← HN.out, plc_append]
              exact HOZ.out
            have HFIN := Lib.hid hfin
            clear hfin
            go_roundw
            case rel => exact HFIN.out
            case measure => have h1 := HL6.out; have h2 := HLEN.out; simp; omega
end Go.Proofs.Ytpehcaidjlemiaa
