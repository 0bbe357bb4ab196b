/- Lists of things that have a list of fields in them, in memory: some cells, the fields' slice, some cells more. -/
import Derived.Test.YtgcdekaceimdnaaGreatQ06
set_option linter.unusedVariables false
namespace Go.Proofs.YtgcdekaceimdnaaGreat
open Go Go.RowKit

/-- A slice's cells lie in a block of which p holds. -/
def RowP (p : Nat → Prop) (w : World) (A : Option Addr) (xs : List Value) : Prop := xs = [] ∨ ∃ b off, A = some ⟨b, off, none⟩ ∧ p b ∧ ∀ j u, xs[j]? = some u → w.cell? ⟨b, off + j, none⟩ = some u
section
variable {p q : Nat → Prop} {w w' : World} {A : Option Addr} {xs : List Value}
theorem RowP.nil : RowP p w A [] := .inl rfl
theorem RowP.keep (h : RowP p w A xs) (hb : ∀ b, p b → w'.heap[b]? = w.heap[b]?) : RowP p w' A xs := by
  rcases h with h | ⟨b, off, e, hp, hc⟩
  · exact .inl h
  · refine .inr ⟨b, off, e, hp, fun j u hu => ?_⟩
    rw [World.cell?_of_block (a := ⟨b, off + j, none⟩) (hb b hp)]
    exact hc j u hu
theorem RowP.imp (h : RowP p w A xs) (hpq : ∀ b, p b → q b) : RowP q w A xs := by
  rcases h with h | ⟨b, off, e, hp, hc⟩
  · exact .inl h
  · exact .inr ⟨b, off, e, hpq b hp, hc⟩
theorem RowP.row {B : Nat} (h : RowP p w A xs) (hB : ∀ b, p b → b < B) : Row w B A xs := h.imp hB
theorem Row.toP {B : Nat} (h : Row w B A xs) : RowP (fun b => b < B) w A xs := h
end

/-- How a thing lies: cells ahead of its fields' slice, its fields, cells behind. -/
structure Shape (α : Type) where
  p : Nat
  r : Nat
  pre : α → List Value
  mid : α → List Fd
  post : α → List Value
  hp : ∀ q, (pre q).length = p
  hr : ∀ q, (post q).length = r
def Shape.size {α : Type} (s : Shape α) : Nat := s.p + 1 + s.r

section
variable {α : Type} {s : Shape α} {R R' : Option Addr → List Value → Prop}
/-- The cells of things; R says where their fields lie. -/
def NestC (s : Shape α) (R : Option Addr → List Value → Prop) : List α → List Value → Prop
  | [], cs => cs = []
  | q :: l, cs => ∃ A c cs', cs = s.pre q ++ (.slice A (s.mid q).length c :: (s.post q ++ cs')) ∧ (s.mid q).length ≤ c ∧ c ≤ maxLen ∧ R A (flds (s.mid q)) ∧ NestC s R l cs'
theorem NestC.len : ∀ {l : List α} {cs : List Value}, NestC s R l cs → cs.length = l.length * s.size
  | [], cs, h => by simp only [NestC] at h; subst h; simp
  | q :: l, cs, h => by
    obtain ⟨A, c, cs', rfl, _, _, _, h'⟩ := h
    have := NestC.len h'
    have := s.hp q
    have := s.hr q
    simp only [List.length_append, List.length_cons, Nat.add_mul, Nat.one_mul]
    unfold Shape.size at *
    omega
theorem NestC.imp : ∀ {l : List α} {cs : List Value}, NestC s R l cs → (∀ A xs, R A xs → R' A xs) → NestC s R' l cs
  | [], cs, h, _ => h
  | q :: l, cs, h, hi => by
    obtain ⟨A, c, cs', rfl, h1, h2, h3, h'⟩ := h
    exact ⟨A, c, cs', rfl, h1, h2, hi _ _ h3, NestC.imp h' hi⟩
theorem nest_skip {q : α} {A : Option Addr} {c : Nat} {cs' : List Value} {k : Nat} (i : Nat) : (s.pre q ++ (.slice A (s.mid q).length c :: (s.post q ++ cs')))[(k + 1) * s.size + i]? = cs'[k * s.size + i]? := by
  have hp := s.hp q
  have hr := s.hr q
  have e : (k + 1) * s.size + i = s.p + (1 + (s.r + (k * s.size + i))) := by rw [Nat.add_mul, Nat.one_mul]; unfold Shape.size; omega
  rw [e, List.getElem?_append_right (by omega), hp, Nat.add_sub_cancel_left, Nat.add_comm 1, List.getElem?_cons_succ, List.getElem?_append_right (by omega), hr, Nat.add_sub_cancel_left]
theorem NestC.at_ : ∀ {l : List α} {cs : List Value} {k : Nat}, NestC s R l cs → (hk : k < l.length) →
    ∃ A c, cs[k * s.size + s.p]? = some (.slice A (s.mid l[k]).length c) ∧ (s.mid l[k]).length ≤ c ∧ c ≤ maxLen ∧ R A (flds (s.mid l[k])) ∧
      (∀ i u, (s.pre l[k])[i]? = some u → cs[k * s.size + i]? = some u) ∧ (∀ i u, (s.post l[k])[i]? = some u → cs[k * s.size + s.p + 1 + i]? = some u)
  | [], _, k, _, h => by simp at h
  | q :: l, cs, 0, h, _ => by
    obtain ⟨A, c, cs', rfl, h1, h2, h3, h'⟩ := h
    have hp := s.hp q
    refine ⟨A, c, ?_, h1, h2, h3, fun i u hu => ?_, fun i u hu => ?_⟩
    · rw [List.getElem?_append_right (by omega)]
      simp [hp]
    · have : i < (s.pre q).length := by
        rcases Nat.lt_or_ge i (s.pre q).length with h | h
        · exact h
        · simp only [List.getElem_cons_zero] at hu
          rw [List.getElem?_eq_none h] at hu; cases hu
      rw [Nat.zero_mul, Nat.zero_add, List.getElem?_append_left this]
      exact hu
    · have : i < (s.post q).length := by
        rcases Nat.lt_or_ge i (s.post q).length with h | h
        · exact h
        · simp only [List.getElem_cons_zero] at hu
          rw [List.getElem?_eq_none h] at hu; cases hu
      rw [List.getElem?_append_right (by omega), show 0 * s.size + s.p + 1 + i - (s.pre q).length = i + 1 by omega, List.getElem?_cons_succ, List.getElem?_append_left this]
      exact hu
  | q :: l, cs, k + 1, h, hk => by
    obtain ⟨A, c, cs', rfl, h1, h2, h3, h'⟩ := h
    have hp := s.hp q
    have hr := s.hr q
    have skip := nest_skip (s := s) (q := q) (A := A) (c := c) (cs' := cs') (k := k)
    obtain ⟨A', c', g1, g2, g3, g4, g5, g6⟩ := NestC.at_ (k := k) h' (by simpa using hk)
    refine ⟨A', c', ?_, g2, g3, g4, fun i u hu => ?_, fun i u hu => ?_⟩
    · rw [skip]; exact g1
    · rw [skip]; exact g5 i u hu
    · rw [show (k + 1) * s.size + s.p + 1 + i = (k + 1) * s.size + (s.p + 1 + i) by omega, skip, show k * s.size + (s.p + 1 + i) = k * s.size + s.p + 1 + i by omega]
      exact g6 i u hu
theorem NestC.snoc : ∀ {l : List α} {cs : List Value} {A : Option Addr} {c : Nat} {q : α}, NestC s R l cs → (s.mid q).length ≤ c → c ≤ maxLen → R A (flds (s.mid q)) → NestC s R (l ++ [q]) (cs ++ (s.pre q ++ (.slice A (s.mid q).length c :: s.post q)))
  | [], cs, A, c, q, h, h1, h2, h3 => by
    simp only [NestC] at h
    subst h
    exact ⟨A, c, [], by simp, h1, h2, h3, rfl⟩
  | y :: l, cs, A, c, q, h, h1, h2, h3 => by
    obtain ⟨A', c', cs', rfl, g1, g2, g3, h'⟩ := h
    exact ⟨A', c', _, by simp, g1, g2, g3, NestC.snoc h' h1 h2 h3⟩
theorem NestC.append : ∀ {l m : List α} {cs ds : List Value}, NestC s R l cs → NestC s R m ds → NestC s R (l ++ m) (cs ++ ds)
  | [], m, cs, ds, h, h' => by
    simp only [NestC] at h
    subst h
    simpa using h'
  | y :: l, m, cs, ds, h, h' => by
    obtain ⟨A', c', cs', rfl, g1, g2, g3, h''⟩ := h
    exact ⟨A', c', cs' ++ ds, by simp, g1, g2, g3, NestC.append h'' h'⟩
theorem NestC.take : ∀ {l : List α} {cs : List Value} (k : Nat), NestC s R l cs → NestC s R (l.take k) (cs.take (k * s.size))
  | _, cs, 0, _ => by simp [NestC]
  | [], cs, k + 1, h => by simp only [NestC] at h; subst h; simp [NestC]
  | q :: l, cs, k + 1, h => by
    obtain ⟨A, c, cs', rfl, h1, h2, h3, h'⟩ := h
    have hp := s.hp q
    have hr := s.hr q
    refine ⟨A, c, cs'.take (k * s.size), ?_, h1, h2, h3, NestC.take k h'⟩
    have e : (k + 1) * s.size = s.p + (1 + (s.r + k * s.size)) := by rw [Nat.add_mul, Nat.one_mul]; unfold Shape.size; omega
    rw [e, List.take_append, List.take_of_length_le (by omega), hp, Nat.add_sub_cancel_left, Nat.add_comm 1, List.take_succ_cons, List.take_append, List.take_of_length_le (by omega), hr, Nat.add_sub_cancel_left]
theorem NestC.drop : ∀ {l : List α} {cs : List Value} (k : Nat), NestC s R l cs → NestC s R (l.drop k) (cs.drop (k * s.size))
  | l, cs, 0, h => by simpa using h
  | [], cs, k + 1, h => by simp only [NestC] at h; subst h; simp [NestC]
  | q :: l, cs, k + 1, h => by
    obtain ⟨A, c, cs', rfl, h1, h2, h3, h'⟩ := h
    rw [List.drop_succ_cons, show (s.pre q ++ (.slice A (s.mid q).length c :: (s.post q ++ cs'))).drop ((k + 1) * s.size) = cs'.drop (k * s.size) from List.ext_getElem? fun i => by rw [List.getElem?_drop, List.getElem?_drop, nest_skip]]
    exact NestC.drop k h'

/-- A list of things lies behind the address A, all of it in blocks of which p holds. -/
def NestP (s : Shape α) (p : Nat → Prop) (w : World) (A : Option Addr) (l : List α) : Prop := ∃ cs, NestC s (RowP p w) l cs ∧ RowP p w A cs
end
section
variable {α : Type} {s : Shape α} {p q : Nat → Prop} {w w' : World} {A : Option Addr} {l : List α}
theorem NestP.nil : NestP s p w A [] := ⟨[], rfl, .inl rfl⟩
theorem NestP.keep (h : NestP s p w A l) (hb : ∀ b, p b → w'.heap[b]? = w.heap[b]?) : NestP s p w' A l := by
  obtain ⟨cs, h1, h2⟩ := h
  exact ⟨cs, h1.imp fun _ _ h => h.keep hb, h2.keep hb⟩
theorem NestP.imp (h : NestP s p w A l) (hpq : ∀ b, p b → q b) : NestP s q w A l := by
  obtain ⟨cs, h1, h2⟩ := h
  exact ⟨cs, h1.imp fun _ _ h => h.imp hpq, h2.imp hpq⟩
theorem RowP.cut {xs : List Value} (h : RowP p w A xs) (k : Nat) : RowP p w A (xs.take k) := by
  rcases h with rfl | ⟨b, off, e, hp, hc⟩
  · exact .inl (by simp)
  · refine .inr ⟨b, off, e, hp, fun j u hu => hc j u ?_⟩
    rw [List.getElem?_take] at hu
    split at hu
    · exact hu
    · cases hu
theorem NestP.cut (h : NestP s p w A l) (k : Nat) : NestP s p w A (l.take k) := by
  obtain ⟨cs, h1, h2⟩ := h
  exact ⟨_, h1.take k, h2.cut _⟩
theorem NestP.drop {b off : Nat} (h : NestP s p w (some ⟨b, off, none⟩) l) (k : Nat) : NestP s p w (some ⟨b, off + k * s.size, none⟩) (l.drop k) := by
  obtain ⟨cs, h1, h2⟩ := h
  refine ⟨_, h1.drop k, ?_⟩
  rcases h2 with rfl | ⟨b', o', e, hb, hc⟩
  · exact .inl (by simp)
  · injection e with e
    injection e with e1 e2
    subst e1 e2
    refine .inr ⟨b, off + k * s.size, rfl, hb, fun j u hu => ?_⟩
    have := hc (k * s.size + j) u (by rw [← hu]; simp)
    rwa [← Nat.add_assoc] at this
theorem NestP.at_ (h : NestP s p w A l) {k : Nat} (hk : k < l.length) :
    ∃ b off A' c', A = some ⟨b, off, none⟩ ∧ p b ∧ w.cell? ⟨b, off + k * s.size + s.p, none⟩ = some (.slice A' (s.mid l[k]).length c') ∧ (s.mid l[k]).length ≤ c' ∧ c' ≤ maxLen ∧ RowP p w A' (flds (s.mid l[k])) ∧
      (∀ i u, (s.pre l[k])[i]? = some u → w.cell? ⟨b, off + k * s.size + i, none⟩ = some u) ∧ (∀ i u, (s.post l[k])[i]? = some u → w.cell? ⟨b, off + k * s.size + s.p + 1 + i, none⟩ = some u) := by
  obtain ⟨cs, h1, h2⟩ := h
  obtain ⟨A', c', g1, g2, g3, g4, g5, g6⟩ := h1.at_ hk
  rcases h2 with rfl | ⟨b, off, rfl, hb, hc⟩
  · simp at g1
  · refine ⟨b, off, A', c', rfl, hb, by have := hc _ _ g1; rwa [← Nat.add_assoc] at this, g2, g3, g4, fun i u hu => ?_, fun i u hu => ?_⟩
    · have := hc _ _ (g5 i u hu); rwa [← Nat.add_assoc] at this
    · have := hc _ _ (g6 i u hu)
      rwa [show off + (k * s.size + s.p + 1 + i) = off + k * s.size + s.p + 1 + i by omega] at this
/-- .. below block B. -/
abbrev Nest (s : Shape α) (w : World) (B : Nat) (A : Option Addr) (l : List α) : Prop := NestP s (fun b => b < B) w A l
theorem Nest.below {B : Nat} (h : Nest s w B A l) (hb : Below B w w') : Nest s w' B A l := h.keep fun b hb' => hb.block b hb'
theorem Nest.more {B B' : Nat} (h : Nest s w B A l) (hB : B ≤ B') : Nest s w B' A l := h.imp fun b hb => Nat.lt_of_lt_of_le hb hB
theorem Nest.later (h : Nest s w w.heap.size A l) (hb : Below w.heap.size w w') : Nest s w' w'.heap.size A l := Nest.more (Nest.below h hb) hb.size
end

def docS : Shape Dc := ⟨1, 0, fun q => [.int .i64 q.1], fun q => q.2, fun _ => [], fun _ => rfl, fun _ => rfl⟩
def enS : Shape En := ⟨1, 1, fun q => [.int .i64 q.1], fun q => q.2.1, fun q => [.int .i64 q.2.2], fun _ => rfl, fun _ => rfl⟩
theorem enS_at {p : Nat → Prop} {w : World} {A : Option Addr} {l : List En} (h : NestP enS p w A l) {k : Nat} (hk : k < l.length) :
    ∃ b off A' c', A = some ⟨b, off, none⟩ ∧ p b ∧ w.cell? ⟨b, off + k * 3, none⟩ = some (.int .i64 l[k].1) ∧ w.cell? ⟨b, off + k * 3 + 1, none⟩ = some (.slice A' l[k].2.1.length c') ∧ w.cell? ⟨b, off + k * 3 + 2, none⟩ = some (.int .i64 l[k].2.2) ∧
      l[k].2.1.length ≤ c' ∧ c' ≤ maxLen ∧ RowP p w A' (flds l[k].2.1) := by
  obtain ⟨b, off, A', c', e, hb, g1, g2, g3, g4, g5, g6⟩ := h.at_ hk
  exact ⟨b, off, A', c', e, hb, g5 0 _ rfl, g1, g6 0 _ rfl, g2, g3, g4⟩
theorem docS_at {p : Nat → Prop} {w : World} {A : Option Addr} {l : List Dc} (h : NestP docS p w A l) {k : Nat} (hk : k < l.length) :
    ∃ b off A' c', A = some ⟨b, off, none⟩ ∧ p b ∧ w.cell? ⟨b, off + k * 2, none⟩ = some (.int .i64 l[k].1) ∧ w.cell? ⟨b, off + k * 2 + 1, none⟩ = some (.slice A' l[k].2.length c') ∧ l[k].2.length ≤ c' ∧ c' ≤ maxLen ∧ RowP p w A' (flds l[k].2) := by
  obtain ⟨b, off, A', c', e, hb, g1, g2, g3, g4, g5, _⟩ := h.at_ hk
  exact ⟨b, off, A', c', e, hb, g5 0 _ rfl, g1, g2, g3, g4⟩

/-- A block that no list of entries of the call's own lies in: it is below base, or holds fields. -/
def SafeF (base : Nat) (w : World) (b : Nat) : Prop := b < w.heap.size ∧ (b < base ∨ ∃ cs fr, w.heap[b]? = some (.cells cs 59 fr))
theorem SafeF.below {base : Nat} {w w' : World} {b : Nat} (h : SafeF base w b) (hb : Below w.heap.size w w') : SafeF base w' b := ⟨Nat.lt_of_lt_of_le h.1 hb.size, h.2.imp id fun ⟨cs, fr, h'⟩ => ⟨cs, fr, (hb.block b h.1).trans h'⟩⟩
theorem SafeF.apart {base : Nat} {w : World} {b : Nat} {E : TypeId} {size n : Nat} {v : Value} {ys : List Value} (h : SafeF base w b) (hv : w.ownsRow base E size v n ys) (hE : E ≠ 59) : v.ownBlock ≠ some b := by
  rcases h.2 with hk | ⟨cs, fr, hk⟩
  · intro e
    have := (hv.lt b e).1
    omega
  · intro e
    rcases hv.2 with ⟨rfl, _⟩ | ⟨g, cap, cur, rfl, _, hh, _⟩
    · cases e
    · simp only [Value.ownBlock, Option.some.injEq] at e
      subst e
      rw [hh] at hk
      simp at hk
      exact hE hk.2.1
theorem SafeF.grown {base : Nat} {w w' : World} {b : Nat} {E : TypeId} {size n : Nat} {v : Value} {ys : List Value} (h : SafeF base w b) (hv : w.ownsRow base E size v n ys) (hE : E ≠ 59) (hg : w.grownBy w' v.ownBlock) : SafeF base w' b ∧ w'.heap[b]? = w.heap[b]? := by
  have hblk : w'.heap[b]? = w.heap[b]? := hg.block b h.1 fun e => h.apart hv hE e.symm
  exact ⟨⟨Nat.lt_of_lt_of_le h.1 hg.size, h.2.imp id fun ⟨cs, fr, h'⟩ => ⟨cs, fr, hblk.trans h'⟩⟩, hblk⟩
/-- Fields of the call's own, or from below, lie in such a block. -/
theorem RowP.of_old {base : Nat} {w : World} {A : Option Addr} {xs : List Value} (h : Row w base A xs) (hb : base ≤ w.heap.size) : RowP (SafeF base w) w A xs := RowP.imp h fun b hb' => ⟨by omega, .inl hb'⟩
theorem RowP.of_own {base base' : Nat} {w : World} {A : Option Addr} {n c : Nat} {l : List Fd} (h : w.ownsRow base' 59 2 (.slice A n c) n (flds l)) : RowP (SafeF base w) w A (flds l) := by
  rcases h.2 with ⟨hv, hn⟩ | ⟨g, cap, cur, hv, hg, hh, hnc, hcp, hcs, htake⟩
  · refine .inl (List.eq_nil_of_length_eq_zero ?_)
    rw [h.1, hn]
  · injection hv with h1 h2 h3
    subst h1
    have hrow := owned_row_of h
    rcases hrow with h0 | ⟨b, off, e, hb, hc⟩
    · exact .inl h0
    · injection e with e
      injection e with e1 e2
      subst e1 e2
      exact .inr ⟨g, 0, rfl, ⟨(Array.getElem?_eq_some_iff.1 hh).1, .inr ⟨_, _, hh⟩⟩, hc⟩

/-- A list of entries of the call's own. -/
def OwnEn (base : Nat) (w : World) (v : Value) (l : List En) : Prop := ∃ cs, w.ownsRow base 37 3 v l.length cs ∧ NestC enS (RowP (SafeF base w) w) l cs
section
variable {base : Nat} {w w' : World} {v v' : Value} {l : List En}
theorem OwnEn.nil : OwnEn base w (.slice none 0 0) [] := ⟨[], World.ownsRow_nil _ _ _ _, rfl⟩
theorem OwnEn.below (h : OwnEn base w v l) (hb : Below w.heap.size w w') : OwnEn base w' v l := by
  obtain ⟨cs, h1, h2⟩ := h
  exact ⟨cs, owned_below h1 hb, h2.imp fun _ _ h => (h.keep fun b hs => hb.block b hs.1).imp fun b hs => hs.below hb⟩
theorem OwnEn.nest (h : OwnEn base w v l) : ∃ A c, v = .slice A l.length c ∧ l.length ≤ c ∧ Nest enS w w.heap.size A l := by
  obtain ⟨cs, h1, h2⟩ := h
  obtain ⟨A, c, rfl, hc, hr⟩ := owned_row h1
  exact ⟨A, c, rfl, hc, cs, h2.imp fun _ _ h => h.imp fun b hs => hs.1, hr⟩
/-- One more behind them: the row has grown by three cells. -/
theorem OwnEn.push {cs : List Value} (h1 : w.ownsRow base 37 3 v l.length cs) (h2 : NestC enS (RowP (SafeF base w) w) l cs) {A : Option Addr} {c : Nat} {q : En} (hc : q.2.1.length ≤ c) (hcx : c ≤ maxLen) (hr : RowP (SafeF base w) w A (flds q.2.1))
    (hown : w'.ownsRow base 37 3 v' (l.length + 1) (cs ++ [.int .i64 q.1, .slice A q.2.1.length c, .int .i64 q.2.2])) (hg : w.grownBy w' v.ownBlock) : OwnEn base w' v' (l ++ [q]) := by
  have hE : 37 ≠ 59 := by decide
  have hk : ∀ {A : Option Addr} {xs : List Value}, RowP (SafeF base w) w A xs → RowP (SafeF base w') w' A xs := fun h => (h.keep fun b hs => (hs.grown h1 hE hg).2).imp fun b hs => (hs.grown h1 hE hg).1
  refine ⟨_, ?_, (h2.imp fun _ _ h => hk h).snoc (q := q) hc hcx (hk hr)⟩
  rw [List.length_append, List.length_singleton]
  exact hown
end
theorem info_entry : (Tryz.prog.info? 37).map (fun i => (i.zero, i.size, i.bytes)) = some (some (.agg #[.int .i64 0, .slice none 0 0, .int .i64 0]), 3, 40) := by kernel_rfl
end Go.Proofs.YtgcdekaceimdnaaGreat
