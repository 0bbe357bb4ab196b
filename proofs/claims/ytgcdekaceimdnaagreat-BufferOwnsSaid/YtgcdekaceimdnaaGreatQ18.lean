/- Texts laid together: EntB09, Own09, Same04, SameP05. -/
import Derived.Test.YtgcdekaceimdnaaGreatQ15
import Derived.Test.YtgcdekaceimdnaaGreatQ13
import Derived.Test.YtgcdekaceimdnaaGreatGoodE09
import Derived.Lib.AppendZeros
import Derived.Test.YtgcdekaceimdnaaGreatQ07
import Derived.BigQuiet
import Derived.Deep.QuietTactic
import Derived.Deep.RegionHeld3

/- What a buffer's Entries answers: all entries, in memory of the call's own. -/
namespace Go.Proofs.YtgcdekaceimdnaaGreat
open Go Go.RowKit
set_option linter.unusedVariables false

theorem en_oneCell {R : Option Addr → List Value → Prop} {l : List En} {cs : List Value} (h : NestC enS R l cs) : ∀ u ∈ cs, u.oneCell' = true := nest_oneCell h
set_option maxRecDepth 100000 in
theorem clone_en {base : Nat} {v : Value} {n : Nat} {cs : List Value} {w : World} (h : w.ownsRow base 37 3 v n cs) (hn : n ≤ 100000000) (h1 : ∀ u ∈ cs, u.oneCell' = true) :
    Calls Tryz.prog 42 #[v] w fun e w' => ∃ v', e = .returned v' ∧ w'.ownsRow w.heap.size 37 3 v' n cs ∧ Below w.heap.size w w' := by
  obtain ⟨i0, hi0, hz0, hz1, hz2⟩ := info_parts info_entry
  exact clone_row layCloneEn hi0 hz0 hz1 hz2 rfl (by decide) Tryz.sizeOf37 h (by unfold maxLen; omega) (by omega) h1
/-- Fields that lie below, behind a plain address. -/
def OldF (w : World) (B : Nat) (A : Option Addr) (xs : List Value) : Prop := Row w B A xs ∧ (A = none ∨ ∃ b o, A = some ⟨b, o, none⟩)
def EntRelB (l : List En) (N : Nat) (V : Value) (w : World) (x : Value) (wr : World) : Prop := ∃ (j : Nat) (cs : List Value), j ≤ l.length ∧ x = .int .i64 (j : Int) ∧ wr.ownsRow w.heap.size 37 3 V N cs ∧
  ERow (OldF wr w.heap.size) (RowF (fun k => w.heap.size ≤ k) wr) l j cs ∧ Below w.heap.size w wr

set_option maxHeartbeats 2000000 in
set_option maxRecDepth 100000 in
theorem buf_Entries {S : Nat → Prop} {w : World} {B : Nat} {l : List En} {up : Int} (h : BufAt S w B l up) (hn : l.length ≤ 1000) :
    Calls Tryz.prog 22 #[.pointer (some ⟨B, 0, none⟩)] w (GaveEn l w) := by
  obtain ⟨v, M, c, g, h⟩ := h
  have c0 := (four_cells h.cells).1
  obtain ⟨cs, o1, o2, o3⟩ := h.own
  have hcl := clone_en o1 (by omega) (en_oneCell o3)
  have HCL := Lib.hid hcl
  have HPO : Hid (NestC enS (OldF w w.heap.size) l cs) := Lib.hid (o3.imp fun _ _ h => ⟨RowP.row h.1 fun b hb => hb.lt, h.2⟩)
  have HGD := Lib.hid h.good
  obtain ⟨N, hN⟩ : ∃ N, N = l.length := ⟨_, rfl⟩
  rw [← hN] at HCL hn
  have HN := Lib.hid hN
  clear h o1 o2 o3 hcl hN
  go_enter Tryz.func22, Tryz.ntmps22
  go_wp2_with (first
    | (go_at_call 42; (with_reducible refine HCL.out.mono ?_); rintro e w1 ⟨V1, rfl, ho1, hb1⟩
       obtain ⟨A1, k1, rfl, hk1, hu1⟩ := owned_roomed ho1
       clear hu1
       have HST : Hid (EntRelB l N (.slice A1 N k1) w (.int .i64 ((0 : Nat) : Int)) w1) := Lib.hid (by
         exact ⟨0, cs, Nat.zero_le _, rfl, ho1, (ERow.of HPO.out).imp (fun _ _ h => ⟨Row.below h.1 hb1, h.2⟩) fun _ _ h => h, hb1⟩)
       clear ho1 hb1))
  go_loopw [13] (fun x wr => EntRelB l N (.slice A1 N k1) w x wr) (fun x _ => N - (intOf x).toNat)
  case atStart => exact HST.out
  case round =>
    obtain ⟨j, cs2, hj, rfl, hown, hrow, hbw⟩ := hrel
    by_cases hlt : j < N
    · have hjl : j < l.length := by rw [← HN.out]; exact hlt
      obtain ⟨g1, rfl⟩ : ∃ g1, A1 = some ⟨g1, 0, none⟩ := by
        rcases hown.2 with ⟨hv, h5⟩ | ⟨g', cap, cur, hv, _⟩
        · have := HN.out; omega
        · injection hv with e
          exact ⟨g', e⟩
      obtain ⟨e0, e9, A', c', e1, e2, e3, e4, e5⟩ := hrow.each j hjl
      have hgd := HGD.out _ (List.getElem_mem hjl)
      have hfl := hgd.len
      have hc0 : wr.cell? ⟨g1, j * 3, none⟩ = some (.int .i64 l[j].1) := by have := hown.cells (g := g1) rfl _ _ e0; simpa [Addr.add_lit] using this
      have hc1 : wr.cell? ⟨g1, j * 3 + 1, none⟩ = some (.slice A' l[j].2.1.length c') := by have := hown.cells (g := g1) rfl _ _ e1; simpa [Addr.add_lit] using this
      have hc2 : wr.cell? ⟨g1, j * 3 + 2, none⟩ = some (.int .i64 l[j].2.2) := by have := hown.cells (g := g1) rfl _ _ e9; simpa [Addr.add_lit] using this
      have hlt1 := hown.lt g1 rfl
      have hold := e5 (Nat.le_refl _)
      obtain ⟨csg, frg, hhg⟩ := owned_type hown rfl
      obtain ⟨w2, hw2⟩ : ∃ w2, w2 = wr.alloc (.cells #[.int .i64 l[j].1, .slice A' l[j].2.1.length c', .int .i64 l[j].2.2] 37) := ⟨_, rfl⟩
      have hb2 : Below wr.heap.size wr w2 := by rw [hw2]; exact (Below.refl _ _).alloc (Nat.le_refl _) _
      have hbs := hbw.size
      have hs2 : w2.heap.size = wr.heap.size + 1 := by rw [hw2]; simp
      have hCI := buf_clone l[j].1 A' l[j].2.1.length c' l[j].2.1 l[j].2.2 w2 rfl (FRow.more (FRow.below hold.1 (hb2.mono hbs)) (by omega)) hold.2 (by omega)
      have HAFT : Hid (∀ (w5 : World) (A5 : Option Addr) (c5 : Nat), OwnFd w2.heap.size w5 (.slice A5 l[j].2.1.length c5) l[j].2.1 → l[j].2.1.length ≤ c5 ∧ c5 ≤ maxLen → Below w2.heap.size w2 w5 →
          ((∃ u, w5.cell? ⟨g1, j * 3, none⟩ = some u) ∧ w5.frozen? ⟨g1, j * 3, none⟩ = false) ∧ ((∃ u, w5.cell? ⟨g1, j * 3 + 1, none⟩ = some u) ∧ w5.frozen? ⟨g1, j * 3 + 1, none⟩ = false) ∧ ((∃ u, w5.cell? ⟨g1, j * 3 + 2, none⟩ = some u) ∧ w5.frozen? ⟨g1, j * 3 + 2, none⟩ = false) ∧
          EntRelB l N (.slice (some ⟨g1, 0, none⟩) N k1) w (.int .i64 ((j : Int) + 1)) (((w5.setCell ⟨g1, j * 3, none⟩ (.int .i64 l[j].1)).setCell ⟨g1, j * 3 + 1, none⟩ (.slice A5 l[j].2.1.length c5)).setCell ⟨g1, j * 3 + 2, none⟩ (.int .i64 l[j].2.2))) := Lib.hid fun w5 A5 c5 ho5 hc5 hb5 => by
        have hb25 := hb2.trans (hb5.mono hb2.size)
        have hown5 := owned_below hown hb25
        have hs5 := hb5.size
        obtain ⟨w6, hw6⟩ : ∃ w6, w6 = ((w5.setCell ⟨g1, j * 3, none⟩ (.int .i64 l[j].1)).setCell ⟨g1, j * 3 + 1, none⟩ (.slice A5 l[j].2.1.length c5)).setCell ⟨g1, j * 3 + 2, none⟩ (.int .i64 l[j].2.2) := ⟨_, rfl⟩
        rw [← hw6]
        have hk6 : ∀ k, k ≠ g1 → w6.heap[k]? = w5.heap[k]? := fun k hk => by rw [hw6, set_ne (Ne.symm hk), set_ne (Ne.symm hk), set_ne (Ne.symm hk)]
        have hs6 : w6.heap.size = w5.heap.size := by rw [hw6]; simp
        have h6 : w6.os = w5.os ∧ w6.tape = w5.tape ∧ w6.output = w5.output := by rw [hw6]; exact ⟨rfl, rfl, rfl⟩
        have hkeep : ∀ k, k < wr.heap.size → k ≠ g1 → w6.heap[k]? = wr.heap[k]? := fun k h1 h2 => (hk6 k h2).trans (hb25.block k h1)
        have hne1 : ∀ {k : Nat} {u : World}, u.heap[g1]? = some (.cells csg 37 frg) → Of (fun k => w.heap.size ≤ k) 59 u k → k ≠ g1 := fun {k u} h1 ⟨_, cs', fr', hh, _⟩ e => by
          subst e
          rw [h1] at hh
          injection hh with hh
          injection hh with _ h2 _
          exact absurd h2 (by decide)
        have hg5 : w5.heap[g1]? = some (.cells csg 37 frg) := (hb25.block _ hlt1.2).trans hhg
        have hn5 : RowF (fun k => w.heap.size ≤ k) w5 A5 (flds l[j].2.1) := RowF.of_own ho5 fun k h1 _ => by omega
        have hn6 : RowF (fun k => w.heap.size ≤ k) w6 A5 (flds l[j].2.1) := hn5.keepO fun k hk => hk6 k (hne1 hg5 hk)
        have hrow6 : ERow (OldF w6 w.heap.size) (RowF (fun k => w.heap.size ≤ k) w6) l j cs2 := hrow.imp (fun A xs h => ⟨RowP.keep h.1 fun b hb => hkeep b (by omega) (by omega), h.2⟩) fun A xs h => h.keepO fun k hk => hkeep k hk.lt (hne1 hhg hk)
        refine ⟨owned_free hown5 (by omega), owned_free hown5 (by omega), owned_free hown5 (by omega), j + 1, _, hjl, by push_cast; rfl, ?_, hrow6.put hjl hc5 hn6, ⟨?_, ?_, ?_, ?_, fun k hk => ?_⟩⟩
        · rw [hw6]
          exact owned_set (owned_set (owned_set hown5))
        · exact h6.1.trans (hb25.os.trans hbw.os)
        · exact h6.2.1.trans (hb25.tape.trans hbw.tape)
        · exact h6.2.2.trans (hb25.output.trans hbw.output)
        · omega
        · rw [hkeep k (by omega) (by omega)]
          exact hbw.block k hk
      obtain ⟨dd, hdd⟩ : ∃ dd, dd = l[j].1 := ⟨_, rfl⟩
      obtain ⟨P, hP⟩ : ∃ P, P = l[j].2.1 := ⟨_, rfl⟩
      obtain ⟨sq, hsq⟩ : ∃ sq, sq = l[j].2.2 := ⟨_, rfl⟩
      rw [← hdd] at hc0 hw2 hCI HAFT
      rw [← hP] at hc1 hw2 hCI HAFT e2 hfl
      rw [← hsq] at hc2 hw2 hCI HAFT
      have HCI := Lib.hid hCI
      have HW2 := Lib.hid hw2
      have j0 : (0 : Int) ≤ j := by omega
      have j1 : (j : Int) < N := by omega
      clear hown hrow hbw hhg hold e0 e1 e3 e4 e5 e9 hCI hw2 hdd hP hsq hb2 hgd
      go_wp2_with (first
        | (go_at_call 30; rw [show wr.alloc _ = w2 from HW2.out.symm]; (with_reducible refine HCI.out.mono ?_); rintro e w5 ⟨A5, c5, rfl, hc5, ho5, hb5⟩
           obtain ⟨⟨⟨u5, hu5⟩, hf5⟩, ⟨⟨u6, hu6⟩, hf6⟩, ⟨⟨u7, hu7⟩, hf7⟩, hrel5⟩ := HAFT.out w5 A5 c5 ho5 hc5 hb5
           have HREL := Lib.hid hrel5
           clear ho5 hb5 hrel5))
      exact ⟨HREL.out, by simp [intOf]; omega⟩
    · have hjn : j = l.length := by have := HN.out; omega
      subst hjn
      have hfin : OwnES (fun k => w.heap.size ≤ k) wr (.slice A1 N k1) l := by
        rw [HN.out] at hown
        rw [HN.out]
        exact ⟨cs2, owned_low hown (Nat.zero_le _), fun k hk => (hown.lt k hk).1, hrow.all⟩
      have HFIN := Lib.hid hfin
      have HBW := Lib.hid hbw
      clear hfin hown hrow hbw
      go_wp2
      go_ret
      exact ⟨_, rfl, HFIN.out, HBW.out⟩
end Go.Proofs.YtgcdekaceimdnaaGreat

/- A buffer, lists of entries beside it, and memory of others that is written into: what stays. -/
set_option linter.unusedVariables false
namespace Go.Proofs.YtgcdekaceimdnaaGreat
open Go Go.RowKit

/-- append of a slice that lies in some row onto a row of the call's own, as an equation. -/
theorem run_append_row {P : Program} (w : World) (t ty : TypeId) (base : Nat) (e : TypeId) (i : TypeInfo) (z : Value) (size bytes : Nat) (ht : P.underlying t = some (.slice e)) (hi : P.info? e = some i) (hz : i.zero = some z)
    (hsize : i.size = size) (hby : i.bytes = bytes) (hzs : z.cells.size = size) (hsz : 0 < size)
    (v : Value) (n : Nat) (xs : List Value) (hown : w.ownsRow base e size v n xs)
    (B : Nat) (A : Option Addr) (m c : Nat) (news : List Value) (hl : news.length = m * size) (hr : Row w B A news) (hA : news = [] → A = none ∨ ∃ b o, A = some ⟨b, o, none⟩) (h1 : ∀ u ∈ news, u.oneCell' = true)
    (h63 : n + m ≤ maxLen) (hbytes : (n + m) * bytes ≤ 140737488355328) (hbase : base ≤ w.heap.size) :
    ∃ v' w', (Builtin.append_ #[t, t] ty #[v, .slice A m c]).run P w = .ok v' w' ∧ w'.ownsRow base e size v' (n + m) (xs ++ news) ∧ w.grownBy w' v.ownBlock := by
  have hcase : (A = none ∧ news = []) ∨ ∃ b o, A = some ⟨b, o, none⟩ := by
    by_cases hn : news = []
    · rcases hA hn with h | h
      · exact .inl ⟨h, hn⟩
      · exact .inr h
    · rcases hr with h | ⟨b, o, h, _⟩
      · exact absurd h hn
      · exact .inr ⟨b, o, h⟩
  rcases hcase with ⟨rfl, rfl⟩ | ⟨b, o, rfl⟩
  · have hm : m = 0 := by
      rcases Nat.eq_zero_or_pos m with h | h
      · exact h
      · have := Nat.mul_pos h hsz
        simp at hl
        omega
    subst hm
    exact ⟨v, w, append_no_cells (P := P) w base t ty e i size ht hi v n xs hown c, by simpa using hown, World.grownBy.refl _ _⟩
  · have hc : ∀ j u, news[j]? = some u → w.cell? ((⟨b, o, none⟩ : Addr).add j) = some u := fun j u hu => by
      rcases hr with h | ⟨b', o', h, _, hc⟩
      · rw [h] at hu; cases hu
      · cases h
        rw [Addr.add_lit]
        exact hc j u hu
    obtain ⟨v', w', r1, r2, r3, _⟩ := run_append_own_at (P := P) w base t ty e i z size bytes ht hi hz hsize hby hzs hsz v n xs hown ⟨b, o, none⟩ m c news hl hc h1 h63 hbytes hbase
    exact ⟨v', w', r1, r2, r3⟩

/-- append, whose run is known, as one step of a region that draws. -/
theorem step_append_run9 {P : Program} {ops : Array Oper} {o : Oper} {a : Act} {w : World} {K : Act → World → Prop} {Q : Exit → Act → World → Prop} {E : Prop} (hg : o.guard = none) (s x : Operand) (t : TypeId)
    (hop : o.op = Op.call { callee := Callee.builtin Builtin.append, args := #[s, x], argTypes := #[t, t] }) (vs vx : Value) (hs : a.eval s = vs) (hx : a.eval x = vx) (v' : Value) (w' : World)
    (hr : (Builtin.append_ #[t, t] o.type #[vs, vx]).run P w = .ok v' w') (hK : K (a.put o.dst v') w') : if Region.wanted o (yielded ops a.tmps) = true then Oper.wp P o a w K Q else E := by
  have hw : Region.wanted o (yielded ops a.tmps) = true := by simp [Region.wanted, hg]
  rw [if_pos hw]
  exact Lib.wp_append_run w s x t t hop vs vx hs hx v' w' hr hK
/-- What stands: the buffer at B has L; the entries G lie behind V, other ones behind A1, all of them beside it and below N0. -/
structure OwnAt (S : Nat → Prop) (B : Nat) (L : List En) (up : Int) (V : Value) (G : List En) (A1 : Option Addr) (one : List En) (N0 : Nat) (w wr : World) : Prop where
  buf : BufAt S wr B L up
  ge : ∀ k, S k → w.heap.size ≤ k
  own : OwnES (fun b => b < N0 ∧ ¬ S b) wr V G
  nest : NestP enS (fun b => b < N0 ∧ ¬ S b) wr A1 one
  lo : w.heap.size ≤ N0
  hi : N0 ≤ wr.heap.size
  bel : Below w.heap.size w wr
section
variable {S : Nat → Prop} {B : Nat} {L : List En} {up : Int} {V : Value} {G : List En} {A1 : Option Addr} {one : List En} {N0 : Nat} {w wr w' : World}
theorem OwnAt.below (h : OwnAt S B L up V G A1 one N0 w wr) (hb : Below wr.heap.size wr w') : OwnAt S B L up V G A1 one N0 w w' :=
  ⟨h.buf.below hb, h.ge, h.own.keeps fun k _ hk => hb.block k hk, h.nest.keep fun k hk => hb.block k (Nat.lt_of_lt_of_le hk.1 h.hi), h.lo, Nat.le_trans h.hi hb.size, h.bel.trans (hb.mono h.bel.size)⟩
theorem OwnAt.added (h : OwnAt S B L up V G A1 one N0 w wr) {S' : Nat → Prop} {L' : List En} {up' : Int} (hb : BufAt S' w' B L' up') (hS : ∀ k, S' k → S k ∨ wr.heap.size ≤ k) (ho : OnlyIn S wr w') : OwnAt S' B L' up' V G A1 one N0 w w' := by
  have hhi := h.hi
  have hp : ∀ k, (k < N0 ∧ ¬ S k) → (k < N0 ∧ ¬ S' k) := fun k hk => ⟨hk.1, fun hk' => (hS k hk').elim hk.2 fun hk' => by have := hk.1; omega⟩
  exact ⟨hb, fun k hk => (hS k hk).elim (h.ge k) fun hk => Nat.le_trans h.bel.size hk, (h.own.keeps fun k hk hk' => ho.block k hk' hk.2).imp hp, (h.nest.keep fun k hk => ho.block k (Nat.lt_of_lt_of_le hk.1 hhi) hk.2).imp hp, h.lo, Nat.le_trans hhi ho.size, h.bel.trans (ho.below h.ge h.bel.size)⟩
/-- A store into a block of another's. -/
theorem OwnAt.spoil (h : OwnAt S B L up V G A1 one N0 w wr) {b k : Nat} {u : Value} (hb : N0 ≤ b ∧ ¬ S b) : OwnAt S B L up V G A1 one N0 w (wr.setCell ⟨b, k, none⟩ u) := by
  have hk : ∀ j, j ≠ b → (wr.setCell ⟨b, k, none⟩ u).heap[j]? = wr.heap[j]? := fun j hj => set_ne (Ne.symm hj)
  have hne : ∀ j, j < N0 ∧ ¬ S j → j ≠ b := fun j hj e => by have := hj.1; omega
  exact ⟨h.buf.keep (fun j hj => hk j fun e => hb.2 (e ▸ hj)) (by simp), h.ge, h.own.keeps fun j hj _ => hk j (hne j hj), h.nest.keep fun j hj => hk j (hne j hj), h.lo, by simpa using h.hi, ⟨h.bel.os, h.bel.tape, h.bel.output, by simpa using h.bel.size, fun j hj => (hk j fun e => by have := h.lo; omega).trans (h.bel.block j hj)⟩⟩
end

/-- Room for m elements of z cells each, of a type, behind A, in a block of which p holds. -/
def Shell (p : Nat → Prop) (t : TypeId) (z : Nat) (w : World) (A : Option Addr) (m : Nat) : Prop := m = 0 ∨ ∃ b o cs, A = some ⟨b, o, none⟩ ∧ p b ∧ w.heap[b]? = some (.cells cs t (0, 0)) ∧ o + m * z ≤ cs.size
section
variable {p q : Nat → Prop} {t : TypeId} {z : Nat} {w w' : World} {A : Option Addr} {m : Nat}
theorem Shell.imp (h : Shell p t z w A m) (hpq : ∀ b, p b → q b) : Shell q t z w A m := Or.imp (fun h => h) (fun ⟨b, o, cs, h1, h2, h3⟩ => ⟨b, o, cs, h1, hpq b h2, h3⟩) h
theorem Shell.keep (h : Shell p t z w A m) (hk : ∀ b cs, p b → w.heap[b]? = some (.cells cs t (0, 0)) → w'.heap[b]? = w.heap[b]?) : Shell p t z w' A m := Or.imp (fun h => h) (fun ⟨b, o, cs, h1, h2, h3, h4⟩ => ⟨b, o, cs, h1, h2, (hk b cs h2 h3).trans h3, h4⟩) h
theorem Shell.below (h : Shell p t z w A m) (hb : Below w.heap.size w w') : Shell p t z w' A m := h.keep fun b cs _ hh => hb.block b (lt_of_block hh)
/-- .. a store into a block of that type, or of another one, leaves it. -/
theorem Shell.set (h : Shell p t z w A m) (b k : Nat) (u : Value) : Shell p t z (w.setCell ⟨b, k, none⟩ u) A m := by
  refine Or.imp (fun h => h) (fun ⟨b', o, cs, h1, h2, h3, h4⟩ => ?_) h
  by_cases e : b = b'
  · subst e
    exact ⟨b, o, _, h1, h2, set_at h3, by simpa using h4⟩
  · exact ⟨b', o, cs, h1, h2, (set_ne e).trans h3, h4⟩
theorem Shell.at_ (h : Shell p t z w A m) {j i : Nat} (hj : j < m) (hi : i < z) : ∃ b o, A = some ⟨b, o, none⟩ ∧ p b ∧ (∃ u, w.cell? ⟨b, o + j * z + i, none⟩ = some u) ∧ w.frozen? ⟨b, o + j * z + i, none⟩ = false ∧ ∃ cs, w.heap[b]? = some (.cells cs t (0, 0)) := by
  rcases h with h | ⟨b, o, cs, h1, h2, h3, h4⟩
  · omega
  · have hlt : o + j * z + i < cs.size := by
      have : (j + 1) * z ≤ m * z := Nat.mul_le_mul_right _ hj
      rw [Nat.add_mul, Nat.one_mul] at this
      omega
    exact ⟨b, o, h1, h2, ⟨cs[o + j * z + i], by simp [World.cell?, h3, hlt]⟩, by simp [World.frozen?, h3], cs, h3⟩
theorem Shell.of {S : Nat → Prop} {xs : List Value} (h : RowP (Of S t w) w A xs) (hl : xs.length = m * z) (hz : 0 < z) : Shell S t z w A m := by
  by_cases hm : m = 0
  · exact .inl hm
  · right
    have hp : 0 < m * z := Nat.mul_pos (by omega) hz
    rcases h with h0 | ⟨b, o, e, hb, hc⟩
    · rw [h0] at hl
      simp at hl
      omega
    · obtain ⟨hS, cs, fr, hh, rfl⟩ := hb
      obtain ⟨u, hu⟩ : ∃ u, xs[m * z - 1]? = some u := ⟨_, List.getElem?_eq_getElem (by omega)⟩
      have := hc _ _ hu
      refine ⟨b, o, cs, e, hS, hh, ?_⟩
      rcases Nat.lt_or_ge (o + (m * z - 1)) cs.size with h | h
      · omega
      · simp [World.cell?, hh, h] at this
end

/-- Entries that were told, their fields in memory of which p holds. -/
def ToldIn (p : Nat → Prop) (T n : Nat) (w : World) : Prop := (∃ cs, w.heap[T]? = some (.cells cs 37 (0, 0))) ∧ ∀ i, i < n → ∃ A m c, w.cell? ⟨T, i * 3 + 1, none⟩ = some (.slice A m c) ∧ m ≤ 1000 ∧ Shell p 59 2 w A m
/-- Postings that were told. -/
def PostIn (p : Nat → Prop) (T n : Nat) (w : World) : Prop := (∃ cs, w.heap[T]? = some (.cells cs 54 (0, 0))) ∧ ∀ i, i < n → ∃ A m c, w.cell? ⟨T, i * 2 + 1, none⟩ = some (.slice A m c) ∧ 0 < m ∧ m ≤ c ∧ Shell p 3 1 w A m
section
variable {p : Nat → Prop} {T n : Nat} {w w' : World}
theorem cell_far {T k b j : Nat} {u : Value} (h : b ≠ T) : (w.setCell ⟨b, j, none⟩ u).cell? ⟨T, k, none⟩ = w.cell? ⟨T, k, none⟩ := World.cell?_of_block (a := ⟨T, k, none⟩) (set_ne h)
theorem ToldIn.set (h : ToldIn p T n w) {b k : Nat} {u : Value} {cs : Array Value} (hb : w.heap[b]? = some (.cells cs 59 (0, 0))) : ToldIn p T n (w.setCell ⟨b, k, none⟩ u) := by
  obtain ⟨⟨ct, hT⟩, h2⟩ := h
  have hne : b ≠ T := fun e => by
    rw [e, hT] at hb
    injection hb with hb
    injection hb with _ h2 _
    exact absurd h2 (by decide)
  exact ⟨⟨ct, (set_ne hne).trans hT⟩, fun i hi => by
    obtain ⟨A, m, c, h3, h4, h5⟩ := h2 i hi
    exact ⟨A, m, c, (cell_far hne).trans h3, h4, h5.set b k u⟩⟩
theorem PostIn.set (h : PostIn p T n w) {b k : Nat} {u : Value} {cs : Array Value} (hb : w.heap[b]? = some (.cells cs 3 (0, 0))) : PostIn p T n (w.setCell ⟨b, k, none⟩ u) := by
  obtain ⟨⟨ct, hT⟩, h2⟩ := h
  have hne : b ≠ T := fun e => by
    rw [e, hT] at hb
    injection hb with hb
    injection hb with _ h2 _
    exact absurd h2 (by decide)
  exact ⟨⟨ct, (set_ne hne).trans hT⟩, fun i hi => by
    obtain ⟨A, m, c, h3, h4, h5, h6⟩ := h2 i hi
    exact ⟨A, m, c, (cell_far hne).trans h3, h4, h5, h6.set b k u⟩⟩
theorem ToldIn.of {S : Nat → Prop} {V : Value} {l : List En} (h : OwnES S w V l) (hp : ∀ b, S b → p b) (hf : ∀ q ∈ l, q.2.1.length ≤ 1000) (h0 : 0 < l.length) : ∃ T c, V = .slice (some ⟨T, 0, none⟩) l.length c ∧ ToldIn p T l.length w := by
  obtain ⟨b, c0, A, c, hV, _⟩ := h.at_ h0
  obtain ⟨cs, h1, _⟩ := id h
  rw [hV] at h1
  refine ⟨b, c0, hV, owned_type0 h1 rfl, fun i hi => ?_⟩
  obtain ⟨b', c0', A', c', hV', _, _, _, e1, _, _, _, hr⟩ := h.at_ hi
  rw [hV] at hV'
  injection hV' with e _ _
  cases e
  exact ⟨A', _, c', e1, hf _ (List.getElem_mem hi), (Shell.of hr.1 (flds_length _) (by decide)).imp hp⟩
theorem PostIn.of {S : Nat → Prop} {V : Value} {l : List Pn} (h : OwnPP S w V l) (hp : ∀ b, S b → p b) (hf : ∀ q ∈ l, 0 < q.2.length) (h0 : 0 < l.length) : ∃ T c, V = .slice (some ⟨T, 0, none⟩) l.length c ∧ PostIn p T l.length w := by
  obtain ⟨cs, h1, _, h3⟩ := h
  rcases h1.2 with ⟨hv, hn⟩ | ⟨g, cap, cur, hv, hg, hh, _⟩
  · omega
  · refine ⟨g, cap, hv, ⟨_, hh⟩, fun i hi => ?_⟩
    obtain ⟨_, A, c, e1, e2, _, e4⟩ := h3.at_ hi
    have e : l.getD i (0, []) = l[i] := by simp [hi]
    rw [e] at e1 e2 e4
    subst hv
    have := h1.cells (g := g) rfl _ _ e1
    rw [Addr.add_lit, Nat.zero_add] at this
    exact ⟨A, _, c, this, hf _ (List.getElem_mem hi), e2, (Shell.of e4 (by simp [ints]) (by decide)).imp hp⟩
end
end Go.Proofs.YtgcdekaceimdnaaGreat

/- What the document's Same answers of two lists of ints: whether they are the same; nothing turns but draws. -/
namespace Go.Proofs.YtgcdekaceimdnaaGreat
open Go Go.RowKit
set_option linter.unusedVariables false

set_option maxHeartbeats 1000000 in
set_option maxRecDepth 100000 in
theorem ref_Same (A C : Option Addr) (c d : Nat) (xs : List Int) (w : World) (hx : Row w w.heap.size A (ints xs)) (hy : Row w w.heap.size C (ints xs)) (hxl : xs.length ≤ 1073741824) :
    Calls Tryz.prog 53 #[.slice A xs.length c, .slice C xs.length d] w fun e w' => e = .returned (.bool true) ∧ Below w.heap.size w w' := by
  have HX := Lib.hid hx
  have HY := Lib.hid hy
  clear hx hy
  go_enter Tryz.func53, Tryz.ntmps53
  go_wp2
  go_loopw [5] (fun i wr => ∃ k : Nat, k ≤ xs.length ∧ i = .int .i64 k ∧ Below w.heap.size w wr) (fun i _ => xs.length - (intOf i).toNat)
  case atStart => exact ⟨0, Nat.zero_le _, rfl, Below.refl _ _⟩
  case round =>
    obtain ⟨k, hk, rfl, hbw⟩ := hrel
    by_cases hlt : k < xs.length
    · obtain ⟨b1, o1, e1, _, hc1⟩ := row_int (HX.out.below hbw) hlt
      obtain ⟨b2, o2, e2, _, hc2⟩ := row_int (HY.out.below hbw) hlt
      subst e1 e2
      obtain ⟨x, hx⟩ : ∃ x, x = xs[k] := ⟨_, rfl⟩
      rw [← hx] at hc1 hc2
      clear hx
      have hi0 : (0 : Int) ≤ k := by omega
      have hi1 : (k : Int) < xs.length := by omega
      go_wp2
      go_quiet (fail)
      go_wp2
      go_roundw
      case rel => exact ⟨k + 1, by omega, by go_num, hbw.trans ⟨rfl, rfl, rfl, Nat.le_refl _, fun _ _ => rfl⟩⟩
      case measure => simp [intOf]; omega
    · go_wp2
      go_ret
      exact ⟨rfl, hbw⟩
theorem ref_Same_at (A C : Option Addr) (n m c d : Nat) (xs : List Int) (w : World) (hn : xs.length = n) (hm : xs.length = m) (hx : Row w w.heap.size A (ints xs)) (hy : Row w w.heap.size C (ints xs)) (hxl : n ≤ 1073741824) :
    Calls Tryz.prog 53 #[.slice A n c, .slice C m d] w fun e w' => e = .returned (.bool true) ∧ Below w.heap.size w w' := by
  subst hn hm
  exact ref_Same A C c d xs w hx hy hxl
end Go.Proofs.YtgcdekaceimdnaaGreat

/- What the document's own Same of layer 5 answer. -/
namespace Go.Proofs.YtgcdekaceimdnaaGreat
open Go Go.RowKit
set_option linter.unusedVariables false

def SameRel05 (n : Nat) (w : World) (r i : Value) (wr : World) : Prop := r = .bool false ∧ ∃ k : Nat, k ≤ n ∧ i = .int .i64 (k : Int) ∧ Below w.heap.size w wr

set_option maxHeartbeats 2000000 in
set_option maxRecDepth 100000 in
theorem ref05_Same (A C : Option Addr) (n m c d : Nat) (l : List Po) (w : World) (hn : l.length = n) (hm : l.length = m) (ha : Posts w w.heap.size A l) (hb : Posts w w.heap.size C l) (hnx : n ≤ 1073741824) (hpl : ∀ p ∈ l, p.2.length ≤ 1073741824) :
    Calls Tryz.prog 34 #[.slice A n c, .slice C m d] w fun e w' => e = .returned (.bool true) ∧ Below w.heap.size w w' := by
  have hmn : m = n := by omega
  subst hmn
  clear hm
  have HN := Lib.hid hn
  have HA := Lib.hid ha
  have HB := Lib.hid hb
  have HPL := Lib.hid hpl
  clear ha hb hpl hn
  go_enter Tryz.func34, Tryz.ntmps34
  go_wp2
  go_loopw [4, 5] (fun r i wr => SameRel05 m w r i wr) (fun _ i _ => m - (intOf i).toNat)
  case atStart => exact ⟨rfl, 0, Nat.zero_le _, rfl, Below.refl _ _⟩
  case round =>
    obtain ⟨rfl, k, hk, rfl, hbw⟩ := hrel
    have hsz := hbw.size
    by_cases hlt : k < m
    · obtain ⟨b1, o1, e1, hb1, hc1, A1, c1, hd1, hl1, hx1, hr1⟩ := (HA.out.below hbw).at_ (k := k) (by rw [HN.out]; exact hlt)
      obtain ⟨b2, o2, e2, hb2, hc2, A2, c2, hd2, hl2, hx2, hr2⟩ := (HB.out.below hbw).at_ (k := k) (by rw [HN.out]; exact hlt)
      subst e1 e2
      have hlp := HPL.out (l.getD k (0, [])) (by rw [List.getD_eq_getElem?_getD, List.getElem?_eq_getElem (by rw [HN.out]; exact hlt)]; simp)
      obtain ⟨q, hq⟩ : ∃ q, q = l.getD k (0, []) := ⟨_, rfl⟩
      rw [← hq] at hc1 hd1 hl1 hr1 hc2 hd2 hl2 hr2 hlp
      obtain ⟨y, ps⟩ := q
      simp only at hc1 hd1 hl1 hr1 hc2 hd2 hl2 hr2 hlp
      have hi0 : (0 : Int) ≤ k := by omega
      have hi1 : (k : Int) < m := by omega
      have HR1 := Lib.hid hr1
      have HR2 := Lib.hid hr2
      clear hr1 hr2 hq
      obtain ⟨P, hP⟩ : ∃ P, P = ps.length := ⟨_, rfl⟩
      rw [← hP] at hd1 hd2 hl1 hl2 hlp
      have HPP := Lib.hid hP
      clear hP
      have SM : Hid (∀ w1, Below w.heap.size wr w1 → Calls Tryz.prog 53 #[.slice A1 P c1, .slice A2 P c2] w1 fun e w' => e = .returned (.bool true) ∧ Below w1.heap.size w1 w') := Lib.hid fun w1 h1 =>
        ref_Same_at A1 A2 P P c1 c2 ps w1 HPP.out.symm HPP.out.symm ((HR1.out.below h1).more (by have := h1.size; omega)) ((HR2.out.below h1).more (by have := h1.size; omega)) hlp
      go_wp2
      go_region_held3 (fun w' => w'.cell? ⟨b1, o1 + k * 2 + 1, none⟩ = some (.slice A1 P c1) ∧ w'.cell? ⟨b2, o2 + k * 2 + 1, none⟩ = some (.slice A2 P c2))
        (first | exact ⟨hd1, hd2⟩ | exact ⟨hd5, hd6⟩)
        (first
          | (go_at_call 53; refine (SM.out _ (Below.refl _ _).drew).mono ?_; rintro e w5 ⟨rfl, hb5⟩
             have hb6 := (Below.refl w.heap.size wr).drew.trans (hb5.mono (by show w.heap.size ≤ wr.heap.size; omega))
             have hd5 := (hb6.cell (p := ⟨b1, o1 + k * 2 + 1, none⟩) hb1).trans hd1
             have hd6 := (hb6.cell (p := ⟨b2, o2 + k * 2 + 1, none⟩) hb2).trans hd2
             have hc5 := (hb6.cell (p := ⟨b1, o1 + k * 2, none⟩) hb1).trans hc1
             have hc6 := (hb6.cell (p := ⟨b2, o2 + k * 2, none⟩) hb2).trans hc2
             have HB6 := Lib.hid hb6
             clear hb5 hb6))
      have HBW6 := Lib.hid (hbw.trans HB6.out)
      clear hc1 hc2 hd1 hd2
      go_wp2
      go_quiet (fail)
      go_wp2
      go_roundw
      case rel => exact ⟨rfl, k + 1, by omega, by go_num, HBW6.out.trans ⟨rfl, rfl, rfl, Nat.le_refl _, fun _ _ => rfl⟩⟩
      case measure => simp [intOf]; omega
    · go_wp2
      go_ret
      exact ⟨rfl, hbw⟩
end Go.Proofs.YtgcdekaceimdnaaGreat
