/- What the document's Same answers of two documents. -/
import Derived.Test.YthpecegifilgoaaQ07
namespace Go.Proofs.Ythpecegifilgoaa
open Go Go.RowKit
set_option linter.unusedVariables false

/-- Two documents in blocks of their own. -/
def boxDD (w : World) (i j : Int) (A C : Option Addr) (n c m d : Nat) : World := (boxD w i A n c).alloc (.cells #[.int .i64 j, .slice C m d] 24)
theorem boxDD_of {w wr : World} {i j : Int} {A C : Option Addr} {n c m d : Nat} (h : Below (boxDD w i j A C n c m d).heap.size (boxDD w i j A C n c m d) wr) :
    Below w.heap.size w wr ∧ wr.cell? ⟨w.heap.size, 0, none⟩ = some (.int .i64 i) ∧ wr.cell? ⟨w.heap.size, 1, none⟩ = some (.slice A n c) ∧ wr.cell? ⟨w.heap.size + 1, 0, none⟩ = some (.int .i64 j) ∧ wr.cell? ⟨w.heap.size + 1, 1, none⟩ = some (.slice C m d) := by
  have hs : (boxDD w i j A C n c m d).heap.size = w.heap.size + 2 := by simp [boxDD, boxD]
  have h0 : Below (boxD w i A n c).heap.size (boxD w i A n c) (boxDD w i j A C n c m d) := (Below.refl _ _).alloc (Nat.le_refl _) _
  have h1 : Below (boxD w i A n c).heap.size (boxD w i A n c) wr := h0.trans (h.mono (by rw [hs, boxD_size]; omega))
  have hb : wr.heap[w.heap.size + 1]? = some (.cells #[.int .i64 j, .slice C m d] 24 (0, 0)) := (h.block (w.heap.size + 1) (by omega)).trans (by have := heap_alloc_new (boxD w i A n c) (.cells #[.int .i64 j, .slice C m d] 24); rwa [boxD_size] at this)
  obtain ⟨c0, c1⟩ := boxD_cells h1
  exact ⟨boxD_out h1, c0, c1, by simp [World.cell?, hb], by simp [World.cell?, hb]⟩

theorem fd_ne {xs ys : List Fd} {k : Nat} (hx : k < xs.length) (hy : k < ys.length) (h : xs[k] ≠ ys[k]) : decide (xs = ys) = false := decide_eq_false fun e => h (by subst e; rfl)
theorem fd_all {xs ys : List Fd} (hl : xs.length = ys.length) (h : ∀ j (hj : j < xs.length), xs[j] = ys[j]'(by omega)) : decide (xs = ys) = true := decide_eq_true (List.ext_getElem hl fun j h1 _ => h j h1)
def SameRel8 (n : Nat) (xs ys : List Fd) (w1 : World) (r i : Value) (wr : World) : Prop := r = .bool false ∧ ∃ k : Nat, k ≤ n ∧ i = .int .i64 (k : Int) ∧ Below w1.heap.size w1 wr ∧ ∀ j (hj : j < xs.length) (hj' : j < ys.length), j < k → xs[j] = ys[j]

set_option maxHeartbeats 2000000 in
set_option maxRecDepth 100000 in
theorem ref08_Same (i j : Int) (A C : Option Addr) (n c m d : Nat) (xs ys : List Fd) (w : World) (hn : xs.length = n) (hm : ys.length = m) (hx : FRow w w.heap.size A xs) (hy : FRow w w.heap.size C ys) (hnl : n ≤ 1073741824) (hml : m ≤ 1073741824) :
    Calls Try.prog 14 #[docV i A n c, docV j C m d] w fun e w' => e = .returned (.bool (decide (i = j) && decide (xs = ys))) ∧ Below w.heap.size w w' := by
  have HX := Lib.hid hx
  have HY := Lib.hid hy
  obtain ⟨z, hz⟩ : ∃ z, z = (decide (i = j) && decide (xs = ys)) := ⟨_, rfl⟩
  rw [← hz]
  have HZ := Lib.hid hz
  clear hx hy hz
  have HB1 : Hid (∀ w1, w1 = boxDD w i j A C n c m d → ∀ wr, Below w1.heap.size w1 wr → Below w.heap.size w wr ∧ wr.cell? ⟨w.heap.size, 0, none⟩ = some (.int .i64 i) ∧ wr.cell? ⟨w.heap.size, 1, none⟩ = some (.slice A n c) ∧ wr.cell? ⟨w.heap.size + 1, 0, none⟩ = some (.int .i64 j) ∧ wr.cell? ⟨w.heap.size + 1, 1, none⟩ = some (.slice C m d)) := Lib.hid fun w1 e wr h => by subst e; exact boxDD_of h
  by_cases hij : i = j
  · subst hij
    have b1 : (i != i) = false := by simp
    by_cases hlen : n = m
    · subst hlen
      have HXL := Lib.hid hn
      have HYL := Lib.hid hm
      clear hn hm
      go_enter Try.func14, Try.ntmps14
      go_wp2
      obtain ⟨w1, hw1⟩ : ∃ w1, w1 = boxDD w i i A C n c n d := ⟨_, rfl⟩
      have HB2 := Lib.hid (HB1.out w1 hw1)
      rw [show ((w.alloc _).alloc _) = w1 from hw1.symm]
      clear hw1 HB1
      go_loopw [4, 5] (fun r i wr => SameRel8 n xs ys w1 r i wr) (fun _ i _ => n - (intOf i).toNat)
      case atStart => exact ⟨rfl, 0, Nat.zero_le _, rfl, Below.refl _ _, fun j _ _ hj => by omega⟩
      case round =>
        obtain ⟨rfl, k, hk, rfl, hbw, hall⟩ := hrel
        obtain ⟨hb0, a0, a1, a2, a3⟩ := HB2.out _ hbw
        by_cases hltn : k < n
        · have hlt : k < xs.length := by rw [HXL.out]; exact hltn
          have hlt2 : k < ys.length := by rw [HYL.out]; exact hltn
          obtain ⟨b1, o1, e1, _, hc1, hc2⟩ := (HX.out.below hb0).at_ hlt
          obtain ⟨b2, o2, e2, _, hc3, hc4⟩ := (HY.out.below hb0).at_ hlt2
          subst e1 e2
          obtain ⟨x, hx, hx2⟩ := as_text xs[k].1
          obtain ⟨x', hx', hx2'⟩ := as_text xs[k].2
          obtain ⟨y, hy, hy2⟩ := as_text ys[k].1
          obtain ⟨y', hy', hy2'⟩ := as_text ys[k].2
          rw [← hx] at hc1
          rw [← hx'] at hc2
          rw [← hy] at hc3
          rw [← hy'] at hc4
          have hi0 : (0 : Int) ≤ k := by omega
          have hi1 : (k : Int) < n := by omega
          have HB0 := Lib.hid hb0
          clear hb0
          by_cases he : xs[k] = ys[k]
          · have t1 := same_true (s := x) (t := y) (by rw [hx2, hy2, he])
            have t2 := same_true (s := x') (t := y') (by rw [hx2', hy2', he])
            have HN : Hid (∀ j (hj : j < xs.length) (hj' : j < ys.length), j < k + 1 → xs[j] = ys[j]) := Lib.hid fun j hj hj' hjk => by
              by_cases e : j = k
              · subst e; exact he
              · exact hall j hj hj' (by omega)
            clear hall he hx hx2 hy hy2 hx' hx2' hy' hy2'
            go_wp2
            go_quiet (fail)
            go_wp2
            exact ⟨⟨rfl, k + 1, by omega, by go_num, hbw.trans ((drewN_below _ _).mono hbw.size), HN.out⟩, by simp [intOf]; omega⟩
          · have hzf : z = false := by rw [HZ.out, fd_ne hlt hlt2 he]; simp
            subst hzf
            have ht : (x.toList == y.toList) = false ∨ (x.toList == y.toList) = true ∧ (x'.toList == y'.toList) = false := by
              by_cases h1 : xs[k].1 = ys[k].1
              · exact .inr ⟨same_true (by rw [hx2, hy2, h1]), same_false (by rw [hx2', hy2']; exact fun h2 => he (Prod.ext h1 h2))⟩
              · exact .inl (same_false (by rw [hx2, hy2]; exact h1))
            clear hall he hx hx2 hy hy2 hx' hx2' hy' hy2'
            rcases ht with t1 | ⟨t1, t2⟩
            all_goals
              go_wp2
              go_quiet (fail)
              go_wp2
              go_ret
              exact ⟨rfl, HB0.out.trans ((drewN_below _ _).mono HB0.out.size)⟩
        · have hzt : z = true := by rw [HZ.out, fd_all (HXL.out.trans HYL.out.symm) fun j hj => hall j hj (by rw [HYL.out, ← HXL.out]; exact hj) (by have := HXL.out; omega)]; simp
          subst hzt
          have HB0 := Lib.hid hb0
          clear hall hb0
          go_wp2
          go_ret
          exact ⟨rfl, HB0.out⟩
    · have hzf : z = false := by
        rw [HZ.out, Bool.and_eq_false_iff]
        exact .inr (decide_eq_false fun e => hlen (by rw [← hn, ← hm, e]))
      subst hzf
      have hlen2 : (n : Int) ≠ m := by omega
      have HB0 := Lib.hid (HB1.out _ rfl _ (Below.refl _ _)).1
      clear hlen hn hm
      go_enter Try.func14, Try.ntmps14
      go_wp2
      go_ret
      exact ⟨rfl, HB0.out⟩
  · have hzf : z = false := by
      rw [HZ.out, Bool.and_eq_false_iff]
      exact .inl (decide_eq_false hij)
    subst hzf
    have HB0 := Lib.hid (HB1.out _ rfl _ (Below.refl _ _)).1
    clear hn hm
    go_enter Try.func14, Try.ntmps14
    go_wp2
    go_ret
    exact ⟨rfl, HB0.out⟩
end Go.Proofs.Ythpecegifilgoaa
