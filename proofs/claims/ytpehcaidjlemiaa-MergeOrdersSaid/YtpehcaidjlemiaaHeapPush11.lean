/- What Push and Pop of heads do; container/heap's Push and Pop. -/
import Derived.Test.YtpehcaidjlemiaaHeapUp11
import Derived.Test.YtpehcaidjlemiaaHeapDown11
import Derived.Test.YtpehcaidjlemiaaFirst11
import Derived.Deep.AppendLies
import Derived.Deep.RegionLaw
set_option linter.unusedVariables false
namespace Go.Proofs.Ytpehcaidjlemiaa
open Go Go.RowKit

/-- A head as a value of an interface. -/
abbrev ifX (x : Hd) : Value := .iface 44 (.agg #[.int .i64 x.1, .int .i64 (x.2.1 : Int), .int .i64 (x.2.2 : Int)])

theorem run_assert_head (v : Value) (w : World) : (Instr.typeAssert (.iface 44 v) 20 44 false).run Try.prog w = .ok v w := by kernel_rfl
theorem HAt.pushed {base B : Nat} {w w1 : World} {l : List Hd} {x : Hd} {v v' : Value} {o : Obj} (hb : base ≤ B) (hB : w.heap[B]? = some (.cells #[v] 38 (0, 0))) (hown : w.ownsRow base 44 3 v l.length (hds l))
    (hg : ((w.alloc o).drew).grownBy w1 v.ownBlock) (ho : w1.ownsRow base 44 3 v' (l.length + 1) (hds l ++ [.int .i64 x.1, .int .i64 (x.2.1 : Int), .int .i64 (x.2.2 : Int)])) (hbs : base ≤ w.heap.size) :
    w1.heap[B]? = some (.cells #[v] 38 (0, 0)) ∧ HAt base (w1.setCell ⟨B, 0, none⟩ v') B (l ++ [x]) ∧ MildH base w (w1.setCell ⟨B, 0, none⟩ v') := by
  have hlt := (Array.getElem?_eq_some_iff.1 hB).1
  have hal : Below w.heap.size w ((w.alloc o).drew) := ((Below.refl _ w).alloc (Nat.le_refl _) _).drew
  have hown' := owned_below hown hal
  have hne : v.ownBlock ≠ some B := fun e => by
    obtain ⟨cs, h⟩ := owned_kind hown e
    rw [hB] at h
    injection h with h
    injection h with _ h
    exact absurd h (by decide)
  have h1 : w1.heap[B]? = some (.cells #[v] 38 (0, 0)) := by
    rw [hg.block B (Nat.lt_of_lt_of_le hlt hal.size) (fun e => hne e.symm), hal.block B hlt, hB]
  have hne' : v'.ownBlock ≠ some B := fun e => by
    obtain ⟨cs, h⟩ := owned_kind ho e
    rw [h1] at h
    injection h with h
    injection h with _ h
    exact absurd h (by decide)
  refine ⟨h1, ⟨hb, v', one_setCell h1, ?_⟩, ?_⟩
  · rw [List.length_append, hds_append]
    exact ownsRow_setCell_other ho hne' _
  · exact ((MildH.of_below hal hbs).trans (MildH.grownOwn hown' (.inl rfl) hg (Nat.le_trans hbs hal.size))).trans (MildH.setCell h1 (.inr rfl) hb v')
set_option maxHeartbeats 2000000 in
theorem heads_Push (base B : Nat) (l : List Hd) (x : Hd) (w : World) (h : HAt base w B l) (hl : l.length ≤ 1000000) (hbs : base ≤ w.heap.size) :
    Calls Try.prog 45 #[.pointer (some ⟨B, 0, none⟩), ifX x] w fun e w' => (∃ v, e = .returned v) ∧ HAt base w' B (l ++ [x]) ∧ MildH base w w' := by
  obtain ⟨i0, hi0, hz0, hz1, hz2⟩ := info_parts info_head
  obtain ⟨hb, v, hB, hown⟩ := h
  have hlt := (Array.getElem?_eq_some_iff.1 hB).1
  have c0 := cell_of_one hB
  have c1 : ∀ o, (w.alloc o).cell? ⟨B, 0, none⟩ = some v := fun o => (((Below.refl w.heap.size w).alloc (Nat.le_refl _) o).cell (p := ⟨B, 0, none⟩) hlt).trans c0
  have HB := Lib.hid hB
  have HE := Lib.hid hown
  have HBS := Lib.hid hbs
  obtain ⟨x1, x2, x3⟩ := x
  obtain ⟨n, hn⟩ : ∃ n, n = l.length := ⟨_, rfl⟩
  have HN := Lib.hid hn
  rw [← hn] at hl
  have hta := run_assert_head (.agg #[.int .i64 x1, .int .i64 (x2 : Int), .int .i64 (x3 : Int)])
  clear hB hown hn hbs
  go_enter Try.func45, Try.ntmps45
  go_upto_region 0 with fail
  go_region_law (first
      | (refine step_append_lies _ (by rfl) _ _ _ (by rfl) base 44 i0 _ 3 24 Try.underlying38 hi0 hz0 hz1 hz2 rfl (by omega) v n (hds l) (by rfl) ((HN.out ▸ HE.out.alloc _).drew)
          ⟨w.heap.size, 0, none⟩ 1 1 [.int .i64 x1, .int .i64 (x2 : Int), .int .i64 (x3 : Int)] (by rfl) (by rfl) (World.news_of_block (cs := #[.int .i64 x1, .int .i64 (x2 : Int), .int .i64 (x3 : Int)]) (t := 44) (fr := (0, 0)) (heap_alloc_new w _)) (by intro u hu; simp at hu; rcases hu with hu | hu | hu <;> (subst hu; rfl))
          (by omega) (by unfold maxLen; omega) (by omega) (by have := HBS.out; simp; omega) (w.heap.size + 1) (by simp) ?_
         intro gg cap w1 hown1 hgrow hat hlt1
         obtain ⟨hv1, hh1, hm1⟩ := HAt.pushed (x := (x1, x2, x3)) hb HB.out HE.out hgrow (HN.out ▸ hown1) HBS.out
         have cB := cell_of_one hv1
         have fB := free_of_one hv1))
  all_goals
    rw [← HN.out] at hh1 hm1
    go_end0
    exact ⟨⟨_, rfl⟩, hh1, hm1⟩
set_option maxHeartbeats 2000000 in
theorem heads_Pop (base B : Nat) (l : List Hd) (x : Hd) (w : World) (h : HAt base w B (l ++ [x])) (hl : l.length ≤ 1000000) :
    Calls Try.prog 44 #[.pointer (some ⟨B, 0, none⟩)] w fun e w' => e = .returned (ifX x) ∧ HAt base w' B l ∧ MildH base w w' := by
  have hlt := h.lt
  have hb := h.1
  obtain ⟨g, c, q1, q2, q3, q4, q5, x1, x2, x3⟩ := h.at_ (k := l.length) (by simp)
  have e0 : (l ++ [x])[l.length]'(by simp) = x := by simp
  rw [e0] at x1 x2 x3
  have e1 : (l ++ [x]).length = l.length + 1 := by simp
  rw [e1] at q1 q2 q3
  have hcut := ownedH_cut q2 (m := l.length) (by omega)
  rw [hds_append, List.take_append_of_le_length (by rw [hds_length]; omega), List.take_of_length_le (by rw [hds_length]; omega)] at hcut
  have hgl := (q2.lt g rfl).2
  have c0 := cell_of_one q1
  have hal : ∀ o, Below w.heap.size w (w.alloc o) := fun o => (Below.refl w.heap.size w).alloc (Nat.le_refl _) o
  have hB1 : ∀ o, (w.alloc o).heap[B]? = some (.cells #[.slice (some ⟨g, 0, none⟩) (l.length + 1) c] 38 (0, 0)) := fun o => ((hal o).block B hlt).trans q1
  have c1 := fun o => cell_of_one (hB1 o)
  have f1 := fun o => free_of_one (hB1 o)
  have hset : HAt base (w.setCell ⟨B, 0, none⟩ (.slice (some ⟨g, 0, none⟩) l.length c)) B l := ⟨hb, _, one_setCell q1, ownsRow_setCell_other hcut (by simpa [Value.ownBlock] using q5) _⟩
  have hfin : ∀ o, HAt base ((w.setCell ⟨B, 0, none⟩ (.slice (some ⟨g, 0, none⟩) l.length c)).alloc o) B l ∧ MildH base w ((w.setCell ⟨B, 0, none⟩ (.slice (some ⟨g, 0, none⟩) l.length c)).alloc o) := fun o => by
    have hs : (w.setCell ⟨B, 0, none⟩ (.slice (some ⟨g, 0, none⟩) l.length c)).heap.size = w.heap.size := by simp [World.setCell]
    have hbl := (Below.refl _ (w.setCell ⟨B, 0, none⟩ (.slice (some ⟨g, 0, none⟩) l.length c))).alloc (Nat.le_refl _) o
    exact ⟨hset.below hbl, (MildH.setCell q1 (.inr rfl) hb _).trans (MildH.of_below hbl (by rw [hs]; omega))⟩
  have HFIN := Lib.hid hfin
  obtain ⟨y1, y2, y3⟩ := x
  obtain ⟨n, hn⟩ : ∃ n, n = l.length := ⟨_, rfl⟩
  rw [← hn] at hl c0 c1 x1 x2 x3 HFIN q3
  have x1a : ∀ o, (w.alloc o).cell? ⟨g, n * 3, none⟩ = some (.int .i64 y1) := fun o => ((hal o).cell (p := ⟨g, n * 3, none⟩) hgl).trans x1
  unfold maxLen at q4
  clear hn hcut hB1 hal hfin hset q1 q2 e0 e1 h
  simp only at x1 x2 x3
  go_enter Try.func44, Try.ntmps44
  go_wp2_with (go_at_call 14; refine (heads_Len _ _ _ _).mono ?_; rintro e w1 ⟨rfl, rfl⟩)
  go_ret
  exact ⟨rfl, HFIN.out _⟩
set_option maxHeartbeats 2000000 in
theorem heap_Push (base B : Nat) (l : List Hd) (x : Hd) (w : World) (h : HAt base w B l) (hl : l.length ≤ 100000) (hh : HeapN hkey l l.length) :
    Calls Try.prog 16 #[ifH B, ifX x] w (HeapGot base B (l ++ [x]) w) := by
  have hbs : base ≤ w.heap.size := by have := h.1; have := h.lt; omega
  have C1 := Lib.hid (heads_Push base B l x w h (by omega) hbs)
  have hm1 := meth_push B w
  obtain ⟨n, hn⟩ : ∃ n, n = l.length := ⟨_, rfl⟩
  have HN := Lib.hid hn
  have HH := Lib.hid hh
  rw [← hn] at hl
  clear h hn hh
  go_enter Try.func16, Try.ntmps16
  go_wp2_with first
    | (go_at_call 21; refine (C3.out).mono ?_; rintro e w3 ⟨⟨v3, rfl⟩, l', hp, hh3, hat3, hm3⟩)
    | (go_at_call 14; refine (C2.out).mono ?_; rintro e w2 ⟨rfl, rfl⟩)
    | (go_at_call 45; refine (C1.out).mono ?_; rintro e w1 ⟨⟨v1, rfl⟩, hat1, hmild1⟩; obtain ⟨v2, hm2, C2⟩ := hat1.len_; have C3 := Lib.hid (heap_up base B n (l ++ [x]) w1 hat1 (by rw [HN.out]; simp) (by have := HN.out; simp; omega) (by rw [HN.out]; exact (HH.out).put x)); rw [List.length_append, List.length_singleton, ← HN.out] at C2; rw [show ((n + 1 : Nat) : Int) = (n : Int) + 1 by omega] at C2; have C2 := Lib.hid C2; have HAT := Lib.hid hat1; clear hat1)
  go_end0
  exact ⟨⟨_, rfl⟩, l', hp, hh3, hat3, hmild1.trans hm3⟩
/-- What Pop of a heap gives: the first one, and the heap of the others. -/
def PopGot (base B : Nat) (l : List Hd) (w : World) (e : Ending) (w' : World) : Prop := ∃ x l', e = .returned (ifX x) ∧ (x :: l').Perm l ∧ l[0]? = some x ∧ HeapN hkey l' l'.length ∧ HAt base w' B l' ∧ MildH base w w'
theorem pop_split {l l2 : List Hd} {m : Nat} (hm : m = l.length - 1) (hl : 0 < l.length) (hml : m < l.length) (hp : l2.Perm (swapL l 0 m hl hml)) (hk : l2[m]? = (swapL l 0 m hl hml)[m]?) (hh : HeapF hkey l2 m 0) :
    ∃ x l3, l2 = l3 ++ [x] ∧ l3.length = m ∧ l[0]? = some x ∧ (x :: l3).Perm l ∧ HeapN hkey l3 l3.length := by
  subst hm
  have hlen : l2.length = l.length := by rw [hp.length_eq, swapL_length]
  have hx : (swapL l 0 (l.length - 1) hl (by omega))[l.length - 1]? = some l[0] := by
    rw [List.getElem?_eq_getElem (by rw [swapL_length]; omega), swapL_at, if_pos rfl]
  rw [hx, List.getElem?_eq_getElem (by omega), Option.some.injEq] at hk
  have hsp : l2 = l2.take (l.length - 1) ++ [l[0]] := by
    have := List.take_succ_eq_append_getElem (l := l2) (i := l.length - 1) (by omega)
    rw [show l.length - 1 + 1 = l.length by omega, List.take_of_length_le (by omega), hk] at this
    exact this
  have h3 : (l2.take (l.length - 1)).length = l.length - 1 := by rw [List.length_take]; omega
  refine ⟨l[0], l2.take (l.length - 1), hsp, h3, List.getElem?_eq_getElem hl, ?_, ?_⟩
  · refine (List.perm_append_singleton _ _).symm.trans ?_
    rw [← hsp]
    exact hp.trans (swapL_perm hl (by omega))
  · have hn : HeapN hkey (l2.take (l.length - 1) ++ [l[0]]) (l2.take (l.length - 1)).length := by
      rw [← hsp, h3]
      exact hh.all
    exact hn.init
theorem pop_down {l : List Hd} {m : Nat} (hm : m = l.length - 1) (hl : 0 < l.length) (hml : m < l.length) (hh : HeapN hkey l l.length) : HeapDnF hkey (swapL l 0 m hl hml) 0 m 0 := by
  subst hm
  exact hh.popF hl
set_option maxHeartbeats 4000000 in
theorem heap_Pop (base B : Nat) (l : List Hd) (w : World) (h : HAt base w B l) (h0 : 0 < l.length) (hl : l.length ≤ 100000) (hh : HeapN hkey l l.length) :
    Calls Try.prog 15 #[ifH B] w (PopGot base B l w) := by
  obtain ⟨m, hm⟩ : ∃ m, m = l.length - 1 := ⟨_, rfl⟩
  have hml : m < l.length := by omega
  obtain ⟨v1, hm1, C1⟩ := h.len_
  obtain ⟨v2, hm2, C2⟩ := h.swaps h0 hml
  rw [show (l.length : Int) = (m : Int) + 1 by omega] at C1
  have hsl := swapL_length (l := l) h0 hml
  have hdn : HeapDnF hkey (swapL l 0 m h0 hml) 0 m 0 := pop_down hm h0 hml hh
  have hsplit := fun l2 => pop_split (l := l) (l2 := l2) hm h0 hml
  rw [show ((0 : Nat) : Int) = 0 from rfl] at C2
  have HC2 := Lib.hid C2
  have HC1 := Lib.hid C1
  have HSP := Lib.hid hsplit
  have HDN := Lib.hid hdn
  have HSL := Lib.hid hsl
  have HM := Lib.hid hm
  have hm3 : m ≤ 100000 := by omega
  clear hh h hsplit hdn hsl hm C1 C2
  have HL := Lib.hid hl
  clear hl
  go_enter Try.func15, Try.ntmps15
  go_wp2_with first
    | (go_at_call 44; refine (C4.out).mono ?_; rintro e w4 ⟨rfl, hat4, hmild4⟩)
    | (go_at_call 20; refine (C3.out).mono ?_; rintro e w3 ⟨⟨v3, rfl⟩, l2, hp, hf, hat3, hmild3, hsame⟩; obtain ⟨x, l3, e1, e2, e3, e4, e5⟩ := HSP.out l2 hp (hsame m (Nat.le_refl _)) hf; have C4 := Lib.hid (heads_Pop base B l3 x w3 (e1 ▸ hat3) (by have := HM.out; omega)); have hm5 := meth_pop B w3; have HX := Lib.hid (And.intro e3 (And.intro e4 e5)); clear e1 e2 e3 e4 e5 hp hf hsame hat3)
    | (go_at_call 43; refine (HC2.out).mono ?_; rintro e w2 ⟨⟨v4, rfl⟩, hat2, hmild2⟩; have C3 := heap_down base B 0 m 0 _ w2 hat2 (Nat.zero_le _) (by rw [HSL.out]; omega) (by rw [HSL.out]; have := HL.out; omega) HDN.out (Nat.zero_le _); rw [show ((0 : Nat) : Int) = 0 from rfl] at C3; have C3 := Lib.hid C3; clear hat2)
    | (go_at_call 14; refine (HC1.out).mono ?_; rintro e w1 ⟨rfl, rfl⟩)
  go_ret
  obtain ⟨e3, e4, e5⟩ := HX.out
  exact ⟨x, l3, rfl, e4, e3, e5, hat4, (hmild2.trans hmild3).trans hmild4⟩
end Go.Proofs.Ytpehcaidjlemiaa
