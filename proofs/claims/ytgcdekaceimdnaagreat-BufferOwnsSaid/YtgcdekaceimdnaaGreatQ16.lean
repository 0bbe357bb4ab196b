/- Texts laid together: Lives09, Same08, Same09, Arg08, Arg09, Nat. -/
import Derived.Test.YtgcdekaceimdnaaGreatQ15
import Derived.Test.YtgcdekaceimdnaaGreatAddB09
import Derived.Test.YtgcdekaceimdnaaGreatQ02
import Derived.Test.YtgcdekaceimdnaaGreatQ09
import Derived.Test.YtgcdekaceimdnaaGreatNest09
import Derived.Deep.RegionHeld3
import Derived.Test.YtgcdekaceimdnaaGreatQ05
import Derived.Deep.SlicePairs
import Derived.ProofKit
import Derived.OpenShut

/- The statements' lives: the document's example. -/
set_option linter.unusedVariables false
namespace Go.Proofs.YtgcdekaceimdnaaGreat
open Go Go.RowKit

def aba : List Fd := [([116], [97, 32, 98, 32, 97])]
def abaE : En := (0, aba, 0)
theorem aba_may : mayE (-1) abaE = 0 := by decide
theorem aba_posts : postsE 0 [abaE] [116, 0, 97] = [((0 : Int), [0, 2])] := by decide
theorem aba_weight : weightE [abaE] = 3 := by decide
theorem OnlyIn.low {S : Nat → Prop} {w w' : World} {base : Nat} (h : OnlyIn S w w') (hS : ∀ k, S k → base ≤ k) (hb : base ≤ w.heap.size) : Below base w w' := h.below hS hb
set_option maxHeartbeats 2000000 in
set_option maxRecDepth 100000 in
theorem law09_lives (w : World) : Calls Tryz.prog 15 #[] w fun e w' => e = .returned (.bool true) ∧ Below w.heap.size w w' := by
  have HADD : Hid (∀ (S : Nat → Prop) (B : Nat) (w1 w2 : World), BufAt S w1 B [] (-1) → w2 = w1.alloc (.cells #[.string ⟨#[116]⟩, .string ⟨#[97, 32, 98, 32, 97]⟩] 59) →
      Calls Tryz.prog 13 #[.pointer (some ⟨B, 0, none⟩), .agg #[.int .i64 0, .slice (some ⟨w1.heap.size, 0, none⟩) 1 1, .int .i64 0]] w2 fun e w3 => e = .returned (.int .i64 0) ∧ ∃ S', BufAt S' w3 B [abaE] 0 ∧ (∀ k, S' k → S k ∨ w2.heap.size ≤ k) ∧ OnlyIn S w2 w3) := Lib.hid fun S B w1 w2 hb hw2 => by
    have hb2 : Below w1.heap.size w1 w2 := by rw [hw2]; exact (Below.refl _ _).alloc (Nat.le_refl _) _
    have hfr : FRow w2 w2.heap.size (some ⟨w1.heap.size, 0, none⟩) aba := by
      rw [hw2]
      exact frow_new w1 ([116], [97, 32, 98, 32, 97]) 59
    have hrow : RowP (fun k => k < w2.heap.size ∧ ¬ S k) w2 (some ⟨w1.heap.size, 0, none⟩) (flds aba) := by
      rcases hfr with h | ⟨b, off, e, hbb, hc⟩
      · exact .inl h
      · cases e
        exact .inr ⟨_, _, rfl, ⟨hbb, fun hs => Nat.lt_irrefl _ (hb.lt _ hs)⟩, hc⟩
    refine (buf_Add (hb.below hb2) abaE (some ⟨w1.heap.size, 0, none⟩) 1 1 rfl (Nat.le_refl _) hrow (.inr ⟨_, _, rfl⟩) (by omega) (by decide) (by simp)).mono ?_
    rintro e w3 ⟨rfl, _, h⟩
    rw [aba_may] at h ⊢
    exact ⟨rfl, h rfl⟩
  have HPO : Hid (∀ (S : Nat → Prop) (B : Nat) (w3 : World), BufAt S w3 B [abaE] 0 → Calls Tryz.prog 18 #[.pointer (some ⟨B, 0, none⟩), .string ⟨#[116, 0, 97]⟩] w3 (GotPo [((0 : Int), [0, 2])] w3)) := Lib.hid fun S B w3 hb => buf_Postings hb ⟨#[116, 0, 97]⟩ _ aba_posts.symm (by decide) (by decide)
  have HWO : Hid (∀ (S : Nat → Prop) (B : Nat) (w3 : World), BufAt S w3 B [abaE] 0 → Calls Tryz.prog 20 #[.pointer (some ⟨B, 0, none⟩)] w3 fun e w' => e = .returned (.int .i64 3) ∧ Below w3.heap.size w3 w') := Lib.hid fun S B w3 hb => by
    have := buf_Words hb
    rw [aba_weight] at this
    exact this
  go_enter Tryz.func15, Tryz.ntmps15
  go_wp2_with (first
    | (go_at_call 7; (with_reducible refine (buf_New w).mono ?_); rintro e w1 ⟨S, B, rfl, hb1, hS1, hw1⟩
       have HB1 := Lib.hid hb1
       have HS1 := Lib.hid hS1
       have HW1 := Lib.hid hw1
       clear hb1 hS1 hw1)
    | (go_at_call 13; (with_reducible refine (HADD.out S B w1 _ HB1.out rfl).mono ?_); rintro e w3 ⟨rfl, S', hb3, hS3, ho3⟩
       have HB3 := Lib.hid hb3
       have HW3 : Hid (Below w.heap.size w w3) := Lib.hid ((HW1.out.alloc HW1.out.size _).trans (ho3.below HS1.out (by have := HW1.out.size; simp; omega)))
       clear hb3 hS3 ho3)
    | (go_at_call 18; (with_reducible refine (HPO.out S' B w3 HB3.out).mono ?_); rintro e w4 ⟨v4, rfl, ho4, hb4⟩
       obtain ⟨A4, c4, rfl, hc4, hp4⟩ := ho4.posts
       obtain ⟨b5, o5, rfl, hb5, hx5, A6, c6, hy5, hc6, hc7, hr6⟩ := hp4.at_ (k := 0) (by simp)
       obtain ⟨b7, o7, rfl, hb7, hz7⟩ := row_int (k := 1) hr6 (by simp)
       have hx6 : w4.cell? ⟨b5, o5, none⟩ = some (.int .i64 0) := hx5
       have hy6 : w4.cell? ⟨b5, o5 + 1, none⟩ = some (.slice (some ⟨b7, o7, none⟩) 2 c6) := by simpa using hy5
       have hz8 : w4.cell? ⟨b7, o7 + 1, none⟩ = some (.int .i64 2) := hz7
       have hc8 : 2 ≤ c6 := hc6
       clear hx5 hy5 hz7 hc6
       have HB4 := Lib.hid (HB3.out.below hb4)
       have HW4 : Hid (Below w.heap.size w w4) := Lib.hid (HW3.out.trans (hb4.mono HW3.out.size))
       clear ho4 hb4 hp4 hr6)
    | (go_at_call 20; (with_reducible refine (HWO.out S' B w4 HB4.out).mono ?_); rintro e w5 ⟨rfl, hb8⟩
       have HW5 : Hid (Below w.heap.size w w5) := Lib.hid (HW4.out.trans (hb8.mono HW4.out.size))
       clear hb8))
  go_ret
  exact ⟨rfl, HW5.out⟩
end Go.Proofs.YtgcdekaceimdnaaGreat

/- What the document's Same answers of two documents. -/
namespace Go.Proofs.YtgcdekaceimdnaaGreat
open Go Go.RowKit
set_option linter.unusedVariables false

/-- Two documents in blocks of their own. -/
def boxDD (w : World) (i j : Int) (A C : Option Addr) (n c m d : Nat) : World := (boxD w i A n c).alloc (.cells #[.int .i64 j, .slice C m d] 30)
theorem boxDD_of {w wr : World} {i j : Int} {A C : Option Addr} {n c m d : Nat} (h : Below (boxDD w i j A C n c m d).heap.size (boxDD w i j A C n c m d) wr) :
    Below w.heap.size w wr ∧ wr.cell? ⟨w.heap.size, 0, none⟩ = some (.int .i64 i) ∧ wr.cell? ⟨w.heap.size, 1, none⟩ = some (.slice A n c) ∧ wr.cell? ⟨w.heap.size + 1, 0, none⟩ = some (.int .i64 j) ∧ wr.cell? ⟨w.heap.size + 1, 1, none⟩ = some (.slice C m d) := by
  have hs : (boxDD w i j A C n c m d).heap.size = w.heap.size + 2 := by simp [boxDD, boxD]
  have h0 : Below (boxD w i A n c).heap.size (boxD w i A n c) (boxDD w i j A C n c m d) := (Below.refl _ _).alloc (Nat.le_refl _) _
  have h1 : Below (boxD w i A n c).heap.size (boxD w i A n c) wr := h0.trans (h.mono (by rw [hs, boxD_size]; omega))
  have hb : wr.heap[w.heap.size + 1]? = some (.cells #[.int .i64 j, .slice C m d] 30 (0, 0)) := (h.block (w.heap.size + 1) (by omega)).trans (by have := heap_alloc_new (boxD w i A n c) (.cells #[.int .i64 j, .slice C m d] 30); rwa [boxD_size] at this)
  obtain ⟨c0, c1⟩ := boxD_cells h1
  exact ⟨boxD_out h1, c0, c1, by simp [World.cell?, hb], by simp [World.cell?, hb]⟩

theorem fd_ne {xs ys : List Fd} {k : Nat} (hx : k < xs.length) (hy : k < ys.length) (h : xs[k] ≠ ys[k]) : decide (xs = ys) = false := decide_eq_false fun e => h (by subst e; rfl)
theorem fd_all {xs ys : List Fd} (hl : xs.length = ys.length) (h : ∀ j (hj : j < xs.length), xs[j] = ys[j]'(by omega)) : decide (xs = ys) = true := decide_eq_true (List.ext_getElem hl fun j h1 _ => h j h1)
def SameRel8 (n : Nat) (xs ys : List Fd) (w1 : World) (r i : Value) (wr : World) : Prop := r = .bool false ∧ ∃ k : Nat, k ≤ n ∧ i = .int .i64 (k : Int) ∧ Below w1.heap.size w1 wr ∧ ∀ j (hj : j < xs.length) (hj' : j < ys.length), j < k → xs[j] = ys[j]

set_option maxHeartbeats 2000000 in
set_option maxRecDepth 100000 in
theorem ref08_Same (i j : Int) (A C : Option Addr) (n c m d : Nat) (xs ys : List Fd) (w : World) (hn : xs.length = n) (hm : ys.length = m) (hx : FRow w w.heap.size A xs) (hy : FRow w w.heap.size C ys) (hnl : n ≤ 1073741824) (hml : m ≤ 1073741824) :
    Calls Tryz.prog 25 #[docV i A n c, docV j C m d] w fun e w' => e = .returned (.bool (decide (i = j) && decide (xs = ys))) ∧ Below w.heap.size w w' := by
  have HX := Lib.hid hx
  have HY := Lib.hid hy
  obtain ⟨z, hz⟩ : ∃ z, z = (decide (i = j) && decide (xs = ys)) := ⟨_, rfl⟩
  rw [← hz]
  have HZ := Lib.hid hz
  clear hx hy hz
  have HB1 : Hid (∀ w1, w1 = boxDD w i j A C n c m d → ∀ wr, Below w1.heap.size w1 wr → Below w.heap.size w wr ∧ wr.cell? ⟨w.heap.size, 0, none⟩ = some (.int .i64 i) ∧ wr.cell? ⟨w.heap.size, 1, none⟩ = some (.slice A n c) ∧ wr.cell? ⟨w.heap.size + 1, 0, none⟩ = some (.int .i64 j) ∧ wr.cell? ⟨w.heap.size + 1, 1, none⟩ = some (.slice C m d)) := Lib.hid fun w1 e wr h => by subst e; exact boxDD_of h
  by_cases hij : i = j
  · subst hij
    have b1 : (i != i) = false := by simp
    by_cases hlen : n = m
    · subst hlen
      have HXL := Lib.hid hn
      have HYL := Lib.hid hm
      clear hn hm
      go_enter Tryz.func25, Tryz.ntmps25
      go_wp2
      obtain ⟨w1, hw1⟩ : ∃ w1, w1 = boxDD w i i A C n c n d := ⟨_, rfl⟩
      have HB2 := Lib.hid (HB1.out w1 hw1)
      rw [show ((w.alloc _).alloc _) = w1 from hw1.symm]
      clear hw1 HB1
      go_loopw [4, 5] (fun r i wr => SameRel8 n xs ys w1 r i wr) (fun _ i _ => n - (intOf i).toNat)
      case atStart => exact ⟨rfl, 0, Nat.zero_le _, rfl, Below.refl _ _, fun j _ _ hj => by omega⟩
      case round =>
        obtain ⟨rfl, k, hk, rfl, hbw, hall⟩ := hrel
        obtain ⟨hb0, a0, a1, a2, a3⟩ := HB2.out _ hbw
        by_cases hltn : k < n
        · have hlt : k < xs.length := by rw [HXL.out]; exact hltn
          have hlt2 : k < ys.length := by rw [HYL.out]; exact hltn
          obtain ⟨b1, o1, e1, _, hc1, hc2⟩ := (HX.out.below hb0).at_ hlt
          obtain ⟨b2, o2, e2, _, hc3, hc4⟩ := (HY.out.below hb0).at_ hlt2
          subst e1 e2
          obtain ⟨x, hx, hx2⟩ := as_text xs[k].1
          obtain ⟨x', hx', hx2'⟩ := as_text xs[k].2
          obtain ⟨y, hy, hy2⟩ := as_text ys[k].1
          obtain ⟨y', hy', hy2'⟩ := as_text ys[k].2
          rw [← hx] at hc1
          rw [← hx'] at hc2
          rw [← hy] at hc3
          rw [← hy'] at hc4
          have hi0 : (0 : Int) ≤ k := by omega
          have hi1 : (k : Int) < n := by omega
          have HB0 := Lib.hid hb0
          clear hb0
          by_cases he : xs[k] = ys[k]
          · have t1 := same_true (s := x) (t := y) (by rw [hx2, hy2, he])
            have t2 := same_true (s := x') (t := y') (by rw [hx2', hy2', he])
            have HN : Hid (∀ j (hj : j < xs.length) (hj' : j < ys.length), j < k + 1 → xs[j] = ys[j]) := Lib.hid fun j hj hj' hjk => by
              by_cases e : j = k
              · subst e; exact he
              · exact hall j hj hj' (by omega)
            clear hall he hx hx2 hy hy2 hx' hx2' hy' hy2'
            go_wp2
            go_quiet (fail)
            go_wp2
            exact ⟨⟨rfl, k + 1, by omega, by go_num, hbw.trans ((drewN_below _ _).mono hbw.size), HN.out⟩, by simp [intOf]; omega⟩
          · have hzf : z = false := by rw [HZ.out, fd_ne hlt hlt2 he]; simp
            subst hzf
            have ht : (x.toList == y.toList) = false ∨ (x.toList == y.toList) = true ∧ (x'.toList == y'.toList) = false := by
              by_cases h1 : xs[k].1 = ys[k].1
              · exact .inr ⟨same_true (by rw [hx2, hy2, h1]), same_false (by rw [hx2', hy2']; exact fun h2 => he (Prod.ext h1 h2))⟩
              · exact .inl (same_false (by rw [hx2, hy2]; exact h1))
            clear hall he hx hx2 hy hy2 hx' hx2' hy' hy2'
            rcases ht with t1 | ⟨t1, t2⟩
            all_goals
              go_wp2
              go_quiet (fail)
              go_wp2
              go_ret
              exact ⟨rfl, HB0.out.trans ((drewN_below _ _).mono HB0.out.size)⟩
        · have hzt : z = true := by rw [HZ.out, fd_all (HXL.out.trans HYL.out.symm) fun j hj => hall j hj (by rw [HYL.out, ← HXL.out]; exact hj) (by have := HXL.out; omega)]; simp
          subst hzt
          have HB0 := Lib.hid hb0
          clear hall hb0
          go_wp2
          go_ret
          exact ⟨rfl, HB0.out⟩
    · have hzf : z = false := by
        rw [HZ.out, Bool.and_eq_false_iff]
        exact .inr (decide_eq_false fun e => hlen (by rw [← hn, ← hm, e]))
      subst hzf
      have hlen2 : (n : Int) ≠ m := by omega
      have HB0 := Lib.hid (HB1.out _ rfl _ (Below.refl _ _)).1
      clear hlen hn hm
      go_enter Tryz.func25, Tryz.ntmps25
      go_wp2
      go_ret
      exact ⟨rfl, HB0.out⟩
  · have hzf : z = false := by
      rw [HZ.out, Bool.and_eq_false_iff]
      exact .inl (decide_eq_false hij)
    subst hzf
    have HB0 := Lib.hid (HB1.out _ rfl _ (Below.refl _ _)).1
    clear hn hm
    go_enter Tryz.func25, Tryz.ntmps25
    go_wp2
    go_ret
    exact ⟨rfl, HB0.out⟩
end Go.Proofs.YtgcdekaceimdnaaGreat

/- What the document's Same of entries answers of two lists of entries that are the same. -/
namespace Go.Proofs.YtgcdekaceimdnaaGreat
open Go Go.RowKit
set_option linter.unusedVariables false

def SameRel09 (n : Nat) (w : World) (r i : Value) (wr : World) : Prop := r = .bool false ∧ ∃ k : Nat, k ≤ n ∧ i = .int .i64 (k : Int) ∧ Below w.heap.size w wr
set_option maxHeartbeats 2000000 in
set_option maxRecDepth 100000 in
theorem ref09_Same (A C : Option Addr) (n m c d : Nat) (l : List En) (w : World) (hn : l.length = n) (hm : l.length = m) (ha : Nest enS w w.heap.size A l) (hb : Nest enS w w.heap.size C l) (hnx : n ≤ 1073741824) (hfl : ∀ q ∈ l, q.2.1.length ≤ 1073741824) :
    Calls Tryz.prog 8 #[.slice A n c, .slice C m d] w fun e w' => e = .returned (.bool true) ∧ Below w.heap.size w w' := by
  have hmn : m = n := by omega
  subst hmn
  have HA := Lib.hid ha
  have HB := Lib.hid hb
  have HL := Lib.hid hn
  have HF := Lib.hid hfl
  clear ha hb hm hn hfl
  go_enter Tryz.func8, Tryz.ntmps8
  go_wp2
  go_loopw [4, 5, 6] (fun r i s wr => SameRel09 m w r i wr) (fun _ i _ _ => m - (intOf i).toNat)
  case atStart => exact ⟨rfl, 0, Nat.zero_le _, rfl, Below.refl _ _⟩
  case round =>
    obtain ⟨rfl, k, hk, rfl, hbw⟩ := hrel
    obtain ⟨wo, rfl⟩ : ∃ wo, wo = wr := ⟨_, rfl⟩
    by_cases hlt : k < m
    · have hkl : k < l.length := by rw [HL.out]; exact hlt
      obtain ⟨b1, o1, A1, c1, e1, hb1, f0, f1, f2, _, _, hr1⟩ := enS_at (Nest.later HA.out hbw) hkl
      obtain ⟨b2, o2, A2, c2, e2, hb2, g0, g1, g2, _, _, hr2⟩ := enS_at (Nest.later HB.out hbw) hkl
      subst e1 e2
      have hq := HF.out _ (List.getElem_mem hkl)
      obtain ⟨N, hN⟩ : ∃ N, N = l[k].2.1.length := ⟨_, rfl⟩
      obtain ⟨q, hq1⟩ : ∃ q, q = l[k].1 := ⟨_, rfl⟩
      obtain ⟨s, hs1⟩ : ∃ s, s = l[k].2.2 := ⟨_, rfl⟩
      rw [← hN] at f1 g1 hq
      rw [← hq1] at f0 g0
      rw [← hs1] at f2 g2
      have HC : Hid (∀ w', Below wo.heap.size wo w' → Calls Tryz.prog 25 #[docV q A1 N c1, docV q A2 N c2] w' fun e w'' => e = .returned (.bool true) ∧ Below w'.heap.size w' w'') := Lib.hid fun w' h => by
        have := ref08_Same q q A1 A2 N c1 N c2 l[k].2.1 l[k].2.1 w' hN.symm hN.symm (FRow.later hr1 h) (FRow.later hr2 h) hq hq
        rwa [decide_eq_true rfl, decide_eq_true rfl] at this
      have HS : Hid (∀ w', Below wo.heap.size wo w' → w'.cell? ⟨b1, o1 + k * 3, none⟩ = some (.int .i64 q) ∧ w'.cell? ⟨b1, o1 + k * 3 + 1, none⟩ = some (.slice A1 N c1) ∧ w'.cell? ⟨b1, o1 + k * 3 + 2, none⟩ = some (.int .i64 s) ∧
          w'.cell? ⟨b2, o2 + k * 3, none⟩ = some (.int .i64 q) ∧ w'.cell? ⟨b2, o2 + k * 3 + 1, none⟩ = some (.slice A2 N c2) ∧ w'.cell? ⟨b2, o2 + k * 3 + 2, none⟩ = some (.int .i64 s)) := Lib.hid fun w' h =>
        ⟨(h.cell (p := ⟨b1, _, none⟩) hb1).trans f0, (h.cell (p := ⟨b1, _, none⟩) hb1).trans f1, (h.cell (p := ⟨b1, _, none⟩) hb1).trans f2, (h.cell (p := ⟨b2, _, none⟩) hb2).trans g0, (h.cell (p := ⟨b2, _, none⟩) hb2).trans g1, (h.cell (p := ⟨b2, _, none⟩) hb2).trans g2⟩
      have p0 : (0 : Int) ≤ k := by omega
      have p1 : (k : Int) < m := by omega
      have HBW := Lib.hid hbw
      clear hr1 hr2 hN hq1 hs1 hq hbw
      go_wp2
      go_region_held3 (fun w' => w'.cell? ⟨b1, o1 + k * 3, none⟩ = some (.int .i64 q) ∧ w'.cell? ⟨b1, o1 + k * 3 + 1, none⟩ = some (.slice A1 N c1) ∧ w'.cell? ⟨b1, o1 + k * 3 + 2, none⟩ = some (.int .i64 s) ∧
          w'.cell? ⟨b2, o2 + k * 3, none⟩ = some (.int .i64 q) ∧ w'.cell? ⟨b2, o2 + k * 3 + 1, none⟩ = some (.slice A2 N c2) ∧ w'.cell? ⟨b2, o2 + k * 3 + 2, none⟩ = some (.int .i64 s))
        (first | exact HS.out _ (Below.refl _ _).drew | exact HS.out _ HB3.out)
        (first
          | (go_at_call 25; (with_reducible refine (HC.out _ (Below.refl _ _).drew).mono ?_); rintro e w3 ⟨rfl, hb3⟩
             have HB3 : Hid (Below wo.heap.size wo w3) := Lib.hid ((Below.refl _ wo).drew.trans hb3)
             clear hb3))
      clear f0 f1 f2 g0 g1 g2
      obtain ⟨f0, f1, f2, g0, g1, g2⟩ := HS.out _ HB3.out
      go_wp2
      go_quiet (fail)
      go_wp2
      exact ⟨⟨rfl, k + 1, by omega, by go_num, HBW.out.trans ((HB3.out.trans ((drewN_below _ _).mono HB3.out.size)).mono HBW.out.size)⟩, by simp [intOf]; omega⟩
    · go_wp2
      go_ret
      exact ⟨rfl, hbw⟩
end Go.Proofs.YtgcdekaceimdnaaGreat

/- A list of fields that came in, read as data: what a walk is told of it. -/
namespace Go.Proofs.YtgcdekaceimdnaaGreat
open Go Go.RowKit Go.ChangeShapes Go.WideShapes Go.ChangeAt
set_option linter.unusedVariables false

/-- What a walk is told of a list of fields that came in. -/
def InFlds (w : World) (a : Option Addr) (len cap : Nat) (l : List Fd) : Prop :=
  len ≤ cap ∧ cap ≤ maxLen ∧ l.length = len ∧ FRow w w.heap.size a l ∧ ∀ f ∈ l, f.1.length ≤ maxLen ∧ f.2.length ≤ maxLen
theorem field_cells : Tryz.prog.cellsOf 59 = 2 := by kernel_rfl
theorem str_cells : Tryz.prog.cellsOf 9 = 1 := by kernel_rfl
theorem flds_range {f : Nat → Fd} {V0 V1 : Nat → Value} {w : World} {b off n : Nat} (h : ∀ i, i < n → V0 i = .string ⟨(f i).1.toArray⟩ ∧ V1 i = .string ⟨(f i).2.toArray⟩)
    (hc : ∀ i, i < n → w.cell? ⟨b, off + i * 2, none⟩ = some (V0 i) ∧ w.cell? ⟨b, off + (i * 2 + 1), none⟩ = some (V1 i)) :
    ∀ k, k ≤ n → ∀ j u, (flds ((List.range k).map f))[j]? = some u → w.cell? ⟨b, off + j, none⟩ = some u
  | 0, _, j, u, hu => by simp [flds] at hu
  | k + 1, hk, j, u, hu => by
    rw [List.range_succ, List.map_append, flds_append] at hu
    have hl : (flds ((List.range k).map f)).length = k * 2 := by rw [flds_length, List.length_map, List.length_range]
    by_cases hj : j < k * 2
    · rw [List.getElem?_append_left (by rw [hl]; exact hj)] at hu
      exact flds_range h hc k (by omega) j u hu
    · rw [List.getElem?_append_right (by rw [hl]; omega), hl] at hu
      obtain ⟨h0, h1⟩ := h k (by omega)
      obtain ⟨c0, c1⟩ := hc k (by omega)
      rcases hq : j - k * 2 with _ | _ | q
      · rw [hq] at hu
        simp [flds] at hu
        rw [show j = k * 2 by omega, c0, h0, hu]
      · rw [hq] at hu
        simp [flds] at hu
        rw [show j = k * 2 + 1 by omega, c1, h1, hu]
      · rw [hq] at hu
        simp [flds] at hu

theorem in_flds {H : Type} {enc : TypeId × Value → H} {W : World} {fuel : Nat} {a : Option Addr} {len cap : Nat} {x : DataW H × List MemPlace}
    (h : DataW.trod enc Tryz.prog W 0 (fun _ => true) true fuel 28 [Value.slice a len cap] = some x) : ∃ l, InFlds W a len cap l := by
  rcases Deep.open_slice_pairs Tryz.underlying28 Tryz.underlying59 field_cells rfl rfl str_cells str_cells h with ⟨hcs, _⟩ | ⟨ad, l, c, m, n, V0, V1, D0, D1, P0, P1, hcs, _, hl, hm, hmm, _, hx⟩
  · simp at hcs
    obtain ⟨rfl, rfl, rfl⟩ := hcs
    exact ⟨[], Nat.le_refl _, Nat.zero_le _, rfl, FRow.nil, fun p hp => by cases hp⟩
  · simp at hcs
    obtain ⟨rfl, rfl, rfl⟩ := hcs
    simp only [if_true] at hmm
    subst hmm
    have each : ∀ i, i < m → ∃ q : Fd, (V0 i = .string ⟨q.1.toArray⟩ ∧ V1 i = .string ⟨q.2.toArray⟩) ∧ q.1.length ≤ maxLen ∧ q.2.length ≤ maxLen := fun i hi => by
      obtain ⟨_, _, g0, g1⟩ := hx i hi
      obtain ⟨s0, e0, _, k0⟩ := DataW.trod_string Tryz.underlying9 g0
      obtain ⟨s1, e1, _, k1⟩ := DataW.trod_string Tryz.underlying9 g1
      simp only [List.cons.injEq, and_true] at e0 e1
      refine ⟨(s0.data.toList, s1.data.toList), ⟨e0, e1⟩, ?_, ?_⟩
      · show s0.data.toList.length ≤ maxLen
        rw [Array.length_toList]
        exact k0
      · show s1.data.toList.length ≤ maxLen
        rw [Array.length_toList]
        exact k1
    obtain ⟨f, hf⟩ := Deep.choose_lt each
    by_cases h0 : m = 0
    · have hl0 : len = 0 := by omega
      subst hl0
      exact ⟨[], hl, hm, rfl, FRow.nil, fun p hp => by cases hp⟩
    · obtain ⟨c00, _, _, _⟩ := hx 0 (by omega)
      obtain ⟨b, off, spot⟩ := ad
      have hs : spot = none := by simpa [Addr.add] using World.cell?_spot c00
      subst hs
      have hblt : b < W.heap.size := by simpa [Addr.add_lit] using World.block_lt_of_cell? W _ c00
      refine ⟨(List.range len).map f, hl, hm, by simp, .inr ⟨b, off, rfl, hblt, flds_range (n := m) (fun i hi => (hf i hi).1) (fun i hi => ?_) len hl⟩, fun p hp => ?_⟩
      · obtain ⟨g0, g1, _, _⟩ := hx i hi
        rw [Addr.add_lit] at g0 g1
        exact ⟨g0, g1⟩
      · obtain ⟨i, hi, rfl⟩ := List.mem_map.1 hp
        have hil := List.mem_range.1 hi
        exact (hf i (by omega)).2
/-- .. whatever the value is. -/
theorem in_flds_any {H : Type} {enc : TypeId × Value → H} {W : World} {fuel : Nat} {v : Value} {x : DataW H × List MemPlace}
    (h : DataW.trod enc Tryz.prog W 0 (fun _ => true) true fuel 28 [v] = some x) : ∃ a len cap l, v = .slice a len cap ∧ InFlds W a len cap l := by
  have hv : ∃ a len cap, v = .slice a len cap := by
    rcases Deep.open_slice_pairs Tryz.underlying28 Tryz.underlying59 field_cells rfl rfl str_cells str_cells h with ⟨hcs, _⟩ | ⟨ad, l, c, m, n, V0, V1, D0, D1, P0, P1, hcs, _⟩
    · simp only [List.cons.injEq, and_true] at hcs
      exact ⟨_, _, _, hcs⟩
    · simp only [List.cons.injEq, and_true] at hcs
      exact ⟨_, _, _, hcs⟩
  obtain ⟨a, len, cap, rfl⟩ := hv
  obtain ⟨l, hl⟩ := in_flds h
  exact ⟨a, len, cap, l, rfl, hl⟩
theorem doc_cells : Tryz.prog.cellsOf 30 = 2 := by kernel_rfl
end Go.Proofs.YtgcdekaceimdnaaGreat

/- Lists of documents, and of deeds, that came in, read as data: what a walk is told of them. -/
namespace Go.Proofs.YtgcdekaceimdnaaGreat
open Go Go.RowKit Go.ChangeShapes Go.WideShapes Go.ChangeAt
set_option linter.unusedVariables false

/-- Cells, one thing's behind the other's. -/
def catTo (V : Nat → List Value) : Nat → List Value
  | 0 => []
  | k + 1 => catTo V k ++ V k
theorem catTo_length {V : Nat → List Value} {z n : Nat} (hz : ∀ i, i < n → (V i).length = z) : ∀ k, k ≤ n → (catTo V k).length = k * z
  | 0, _ => by simp [catTo]
  | k + 1, hk => by rw [catTo, List.length_append, catTo_length hz k (by omega), hz k (by omega), Nat.add_mul, Nat.one_mul]
theorem catTo_row {w : World} {b off z n : Nat} {V : Nat → List Value} (hz : ∀ i, i < n → (V i).length = z) (h : ∀ i, i < n → ∀ j u, (V i)[j]? = some u → w.cell? ⟨b, off + (i * z + j), none⟩ = some u) :
    ∀ k, k ≤ n → ∀ j u, (catTo V k)[j]? = some u → w.cell? ⟨b, off + j, none⟩ = some u
  | 0, _, j, u, hu => by simp [catTo] at hu
  | k + 1, hk, j, u, hu => by
    rw [catTo] at hu
    have hl := catTo_length hz k (by omega)
    by_cases hj : j < k * z
    · rw [List.getElem?_append_left (by rw [hl]; exact hj)] at hu
      exact catTo_row hz h k (by omega) j u hu
    · rw [List.getElem?_append_right (by rw [hl]; omega), hl] at hu
      have := h k (by omega) _ _ hu
      rwa [show k * z + (j - k * z) = j by omega] at this
theorem catTo_nest {α : Type} {s : Shape α} {R : Option Addr → List Value → Prop} {V : Nat → List Value} {f : Nat → α} {n : Nat}
    (h : ∀ i, i < n → ∃ A c, V i = s.pre (f i) ++ (.slice A (s.mid (f i)).length c :: s.post (f i)) ∧ (s.mid (f i)).length ≤ c ∧ c ≤ maxLen ∧ R A (flds (s.mid (f i)))) : ∀ k, k ≤ n → NestC s R ((List.range k).map f) (catTo V k)
  | 0, _ => rfl
  | k + 1, hk => by
    have ih := catTo_nest h k (by omega)
    obtain ⟨A, c, h1, h2, h3, h4⟩ := h k (by omega)
    rw [List.range_succ, List.map_append, catTo, h1]
    exact ih.snoc h2 h3 h4

/-- A slice of things that came in. -/
def InNest {α : Type} (s : Shape α) (good : α → Prop) (w : World) (a : Option Addr) (len cap : Nat) (l : List α) : Prop :=
  len ≤ cap ∧ cap ≤ maxLen ∧ l.length = len ∧ Nest s w w.heap.size a l ∧ ∀ q ∈ l, good q

theorem in_nest {α : Type} [Inhabited α] {H : Type} {enc : TypeId × Value → H} {W : World} (s : Shape α) (good : α → Prop) {t e : TypeId} (ht : Tryz.prog.underlying t = some (.slice e)) (ce : Tryz.prog.cellsOf e = s.size)
    (open1 : ∀ {fuel : Nat} {cs : List Value} {x : DataW H × List MemPlace}, DataW.trod enc Tryz.prog W 0 (fun _ => true) true fuel e cs = some x →
      ∃ (q : α) (A : Option Addr) (c : Nat), cs = s.pre q ++ (.slice A (s.mid q).length c :: s.post q) ∧ (s.mid q).length ≤ c ∧ c ≤ maxLen ∧ FRow W W.heap.size A (s.mid q) ∧ good q)
    {fuel : Nat} {a : Option Addr} {len cap : Nat} {x : DataW H × List MemPlace} (h : DataW.trod enc Tryz.prog W 0 (fun _ => true) true fuel t [Value.slice a len cap] = some x) : ∃ l, InNest s good W a len cap l := by
  rcases Deep.open_slice ht h with ⟨hcs, _⟩ | ⟨ad, l, c, m, n, D, Pl, hcs, _, hl, hm, hmm, _, hx⟩
  · simp at hcs
    obtain ⟨rfl, rfl, rfl⟩ := hcs
    exact ⟨[], Nat.le_refl _, Nat.zero_le _, rfl, NestP.nil, fun p hp => by cases hp⟩
  · simp at hcs
    obtain ⟨rfl, rfl, rfl⟩ := hcs
    simp only [if_true] at hmm
    subst hmm
    have each : ∀ i, i < m → ∃ q : α × List Value, (∃ A c, q.2 = s.pre q.1 ++ (.slice A (s.mid q.1).length c :: s.post q.1) ∧ (s.mid q.1).length ≤ c ∧ c ≤ maxLen ∧ Row W W.heap.size A (flds (s.mid q.1))) ∧ good q.1 ∧ q.2.length = s.size ∧
        ∀ j u, q.2[j]? = some u → W.cell? (ad.add (i * s.size + j)) = some u := fun i hi => by
      obtain ⟨cs', h1, h2⟩ := hx i hi
      obtain ⟨_, hlen, hcell⟩ := World.cells?_some h1
      obtain ⟨q, A, c, e1, e2, e3, e4, e5⟩ := open1 h2
      rw [ce] at hlen
      refine ⟨(q, cs'), ⟨A, c, e1, e2, e3, e4⟩, e5, hlen, fun j u hu => ?_⟩
      have hj : j < s.size := by
        rcases Nat.lt_or_ge j s.size with h | h
        · exact h
        · rw [List.getElem?_eq_none (by rw [hlen]; exact h)] at hu; cases hu
      have := hcell j (by rw [ce]; exact hj)
      rw [Deep.add_add, ce] at this
      rw [this]
      exact hu
    obtain ⟨f, hf⟩ := Deep.choose_lt each
    by_cases h0 : m = 0
    · have hl0 : len = 0 := by omega
      subst hl0
      exact ⟨[], hl, hm, rfl, NestP.nil, fun p hp => by cases hp⟩
    · obtain ⟨_, _, hl0, hc0⟩ := hf 0 (by omega)
      obtain ⟨u0, hu0⟩ : ∃ u, (f 0).2[0]? = some u := ⟨_, List.getElem?_eq_getElem (by rw [hl0]; unfold Shape.size; omega)⟩
      have c00 := hc0 0 u0 hu0
      obtain ⟨b, off, spot⟩ := ad
      have hs : spot = none := by simpa [Addr.add] using World.cell?_spot c00
      subst hs
      have hblt : b < W.heap.size := by simpa [Addr.add_lit] using World.block_lt_of_cell? W _ c00
      refine ⟨(List.range len).map fun i => (f i).1, hl, hm, by simp, ⟨catTo (fun i => (f i).2) len, catTo_nest (n := m) (fun i hi => (hf i hi).1) len hl, .inr ⟨b, off, rfl, hblt, catTo_row (n := m) (z := s.size) (fun i hi => (hf i hi).2.2.1) (fun i hi j u hu => ?_) len hl⟩⟩, fun p hp => ?_⟩
      · have := (hf i hi).2.2.2 j u hu
        rwa [Addr.add_lit] at this
      · obtain ⟨i, hi, rfl⟩ := List.mem_map.1 hp
        have hil := List.mem_range.1 hi
        exact (hf i (by omega)).2.1

/-- Texts that came in. -/
def InFd (l : List Fd) : Prop := ∀ f ∈ l, f.1.length ≤ maxLen ∧ f.2.length ≤ maxLen
theorem open_doc {H : Type} {enc : TypeId × Value → H} {W : World} {fuel : Nat} {cs : List Value} {x : DataW H × List MemPlace} (h : DataW.trod enc Tryz.prog W 0 (fun _ => true) true fuel 30 cs = some x) :
    ∃ (q : Dc) (A : Option Addr) (c : Nat), cs = [.int .i64 q.1, .slice A q.2.length c] ∧ q.2.length ≤ c ∧ c ≤ maxLen ∧ FRow W W.heap.size A q.2 ∧ InFd q.2 := by
  obtain ⟨y0, y1, n, _, hl, g0, g1⟩ := trod_struct2 Tryz.underlying30 h
  rw [doc_cells] at hl
  obtain ⟨v0, v1, rfl⟩ : ∃ v0 v1, cs = [v0, v1] := by
    rcases cs with _ | ⟨v0, _ | ⟨v1, _ | ⟨v2, cs⟩⟩⟩
    · cases hl
    · cases hl
    · exact ⟨_, _, rfl⟩
    · simp only [List.length_cons] at hl; omega
  · have ci : Tryz.prog.cellsOf 3 = 1 := by kernel_rfl
    have cf : Tryz.prog.cellsOf 28 = 1 := by kernel_rfl
    simp [ci] at g0
    simp [cf] at g1
    obtain ⟨d, e0, _, _⟩ := DataW.trod_int Tryz.underlying3 g0
    obtain ⟨a, len, cap, l, rfl, h1, h2, h3, h4, h5⟩ := in_flds_any g1
    simp only [List.cons.injEq, and_true] at e0
    subst e0
    exact ⟨(d, l), a, cap, by rw [h3], by rw [h3]; exact h1, h2, h4, h5⟩
abbrev InDocs := InNest docS (fun q => InFd q.2)
theorem in_docs {H : Type} {enc : TypeId × Value → H} {W : World} {fuel : Nat} {a : Option Addr} {len cap : Nat} {x : DataW H × List MemPlace}
    (h : DataW.trod enc Tryz.prog W 0 (fun _ => true) true fuel 45 (Value.slice a len cap).cells.toList = some x) : ∃ l, InDocs W a len cap l :=
  in_nest docS (fun q => InFd q.2) Tryz.underlying45 doc_cells (fun h => open_doc h) (by simpa [Value.cells] using h)
end Go.Proofs.YtgcdekaceimdnaaGreat

/- Small facts for the walks of the laws: numbers made from 0 on, texts that are joined. No program. -/
namespace Go.Proofs.YtgcdekaceimdnaaGreat
open Go Go.RowKit
set_option linter.unusedVariables false

theorem wf_bd {a : Int} (h : (Lit.int .i64 a).wf = true) : -9223372036854775808 ≤ a ∧ a ≤ 9223372036854775807 := by
  have e1 : IntKind.i64.min = -9223372036854775808 := rfl
  have e2 : IntKind.i64.max = 9223372036854775807 := rfl
  simp [Lit.wf] at h
  omega
/-- A number, made one from 0 on. -/
theorem made_nat {a : Int} (h : -9223372036854775808 ≤ a ∧ a ≤ 9223372036854775807) : ∃ n : Nat, n < 9223372036854775808 ∧ (a < 0 → -(a + 1) = (n : Int)) ∧ (¬ a < 0 → a = (n : Int)) :=
  ⟨(if a < 0 then -(a + 1) else a).toNat, by split <;> omega, fun h0 => by rw [if_pos h0]; omega, fun h0 => by rw [if_neg h0]; omega⟩
theorem str_cat (a b : List UInt8) : (⟨a.toArray⟩ : ByteArray) ++ ⟨b.toArray⟩ = ⟨(a ++ b).toArray⟩ := by
  apply ByteArray.ext
  simp
theorem str_size (a : List UInt8) : (⟨a.toArray⟩ : ByteArray).size = a.length := by simp [ByteArray.size]
end Go.Proofs.YtgcdekaceimdnaaGreat
