/- Lists of postings in memory: two cells each, the second one a slice of ints that lies in a row of its own. No program but the number of the type int. -/
import Derived.Test.YtfhjnblcnkjooaaPlain05
import Derived.Test.YtfhjnblcnkjooaaBytes04
import Derived.Test.YtfhjnblcnkjooaaVars
set_option linter.unusedVariables false
namespace Go.Proofs.Ytfhjnblcnkjooaa
open Go Go.RowKit

/-- The cells of postings; R says where the places lie. -/
def PoCells (R : Option Addr → List Value → Prop) : List Po → List Value → Prop
  | [], cs => cs = []
  | q :: r, cs => ∃ A c cs', cs = .int .i64 q.1 :: .slice A q.2.length c :: cs' ∧ q.2.length ≤ c ∧ c ≤ maxLen ∧ R A (ints q.2) ∧ PoCells R r cs'

section
variable {R R' : Option Addr → List Value → Prop}
theorem PoCells.len : ∀ {l : List Po} {cs : List Value}, PoCells R l cs → cs.length = l.length * 2
  | [], cs, h => by simp only [PoCells] at h; subst h; rfl
  | q :: r, cs, h => by
    obtain ⟨A, c, cs', rfl, _, _, _, h'⟩ := h
    have := PoCells.len h'
    simp only [List.length_cons, this]
    omega
theorem PoCells.imp : ∀ {l : List Po} {cs : List Value}, PoCells R l cs → (∀ A xs, R A xs → R' A xs) → PoCells R' l cs
  | [], cs, h, _ => h
  | q :: r, cs, h, hi => by
    obtain ⟨A, c, cs', rfl, h1, h2, h3, h'⟩ := h
    exact ⟨A, c, cs', rfl, h1, h2, hi _ _ h3, PoCells.imp h' hi⟩
theorem PoCells.at_ : ∀ {l : List Po} {cs : List Value} {k : Nat}, PoCells R l cs → k < l.length →
    cs[k * 2]? = some (.int .i64 (l.getD k (0, [])).1) ∧ ∃ A c, cs[k * 2 + 1]? = some (.slice A (l.getD k (0, [])).2.length c) ∧ (l.getD k (0, [])).2.length ≤ c ∧ c ≤ maxLen ∧ R A (ints (l.getD k (0, [])).2)
  | [], _, k, _, h => by simp at h
  | q :: r, cs, 0, h, _ => by
    obtain ⟨A, c, cs', rfl, h1, h2, h3, h'⟩ := h
    exact ⟨rfl, A, c, rfl, h1, h2, h3⟩
  | q :: r, cs, k + 1, h, hk => by
    obtain ⟨A, c, cs', rfl, h1, h2, h3, h'⟩ := h
    have := PoCells.at_ (k := k) h' (by simpa using hk)
    rw [show (k + 1) * 2 = k * 2 + 1 + 1 by omega, List.getD_cons_succ]
    simpa using this
theorem PoCells.snoc : ∀ {l : List Po} {cs : List Value} {A : Option Addr} {c : Nat} {d : Int} {ps : List Int}, PoCells R l cs → ps.length ≤ c → c ≤ maxLen → R A (ints ps) → PoCells R (l ++ [(d, ps)]) (cs ++ [.int .i64 d, .slice A ps.length c])
  | [], cs, A, c, d, ps, h, h1, h2, h3 => by
    simp only [PoCells] at h
    subst h
    exact ⟨A, c, [], rfl, h1, h2, h3, rfl⟩
  | q :: r, cs, A, c, d, ps, h, h1, h2, h3 => by
    obtain ⟨A', c', cs', rfl, g1, g2, g3, h'⟩ := h
    exact ⟨A', c', cs' ++ [.int .i64 d, .slice A ps.length c], rfl, g1, g2, g3, PoCells.snoc h' h1 h2 h3⟩
theorem PoCells.take : ∀ {l : List Po} {cs : List Value} (k : Nat), PoCells R l cs → PoCells R (l.take k) (cs.take (k * 2))
  | _, cs, 0, _ => by simp [PoCells]
  | [], cs, k + 1, h => by simp only [PoCells] at h; subst h; simp [PoCells]
  | q :: r, cs, k + 1, h => by
    obtain ⟨A, c, cs', rfl, h1, h2, h3, h'⟩ := h
    rw [List.take_succ_cons, show (k + 1) * 2 = k * 2 + 1 + 1 by omega, List.take_succ_cons, List.take_succ_cons]
    exact ⟨A, c, _, rfl, h1, h2, h3, PoCells.take k h'⟩
theorem PoCells.drop : ∀ {l : List Po} {cs : List Value} (k : Nat), PoCells R l cs → PoCells R (l.drop k) (cs.drop (k * 2))
  | l, cs, 0, h => by simpa using h
  | [], cs, k + 1, h => by simp only [PoCells] at h; subst h; simp [PoCells]
  | q :: r, cs, k + 1, h => by
    obtain ⟨A, c, cs', rfl, h1, h2, h3, h'⟩ := h
    rw [List.drop_succ_cons, show (k + 1) * 2 = k * 2 + 1 + 1 by omega, List.drop_succ_cons, List.drop_succ_cons]
    exact PoCells.drop k h'
end

/-- A list of postings lies behind the address A, all of it below block B. -/
def Posts (w : World) (B : Nat) (A : Option Addr) (l : List Po) : Prop := ∃ cs, PoCells (Row w B) l cs ∧ Row w B A cs
theorem Posts.nil {w : World} {B : Nat} {A : Option Addr} : Posts w B A [] := ⟨[], rfl, Row.nil⟩
theorem Posts.below {w w' : World} {B : Nat} {A : Option Addr} {l : List Po} (h : Posts w B A l) (hb : Below B w w') : Posts w' B A l := by
  obtain ⟨cs, h1, h2⟩ := h
  exact ⟨cs, h1.imp fun _ _ h => h.below hb, h2.below hb⟩
theorem Posts.more {w : World} {B B' : Nat} {A : Option Addr} {l : List Po} (h : Posts w B A l) (hB : B ≤ B') : Posts w B' A l := by
  obtain ⟨cs, h1, h2⟩ := h
  exact ⟨cs, h1.imp fun _ _ h => h.more hB, h2.more hB⟩
/-- .. in a later world, where nothing has turned. -/
theorem Posts.later {w w' : World} {A : Option Addr} {l : List Po} (h : Posts w w.heap.size A l) (hb : Below w.heap.size w w') : Posts w' w'.heap.size A l := (h.below hb).more hb.size
theorem Posts.cut {w : World} {B : Nat} {A : Option Addr} {l : List Po} (h : Posts w B A l) (k : Nat) : Posts w B A (l.take k) := by
  obtain ⟨cs, h1, h2⟩ := h
  exact ⟨_, h1.take k, h2.cut (k * 2)⟩
theorem Posts.at_ {w : World} {B : Nat} {A : Option Addr} {l : List Po} (h : Posts w B A l) {k : Nat} (hk : k < l.length) :
    ∃ b off, A = some ⟨b, off, none⟩ ∧ b < B ∧ w.cell? ⟨b, off + k * 2, none⟩ = some (.int .i64 (l.getD k (0, [])).1) ∧
      ∃ A' c', w.cell? ⟨b, off + k * 2 + 1, none⟩ = some (.slice A' (l.getD k (0, [])).2.length c') ∧ (l.getD k (0, [])).2.length ≤ c' ∧ c' ≤ maxLen ∧ Row w B A' (ints (l.getD k (0, [])).2) := by
  obtain ⟨cs, h1, h2⟩ := h
  obtain ⟨b, off, rfl, hb, hc⟩ := h2.at_ (by rw [h1.len]; omega)
  obtain ⟨g1, A', c', g2, g3, g4, g5⟩ := h1.at_ hk
  exact ⟨b, off, rfl, hb, hc _ _ g1, A', c', by have := hc _ _ g2; rwa [← Nat.add_assoc] at this, g3, g4, g5⟩
theorem Posts.drop {w : World} {B b off : Nat} {l : List Po} (h : Posts w B (some ⟨b, off, none⟩) l) (k : Nat) : Posts w B (some ⟨b, off + k * 2, none⟩) (l.drop k) := by
  obtain ⟨cs, h1, h2⟩ := h
  refine ⟨_, h1.drop k, ?_⟩
  rcases h2 with rfl | ⟨b', o', e, hb, hc⟩
  · exact .inl (by simp)
  · injection e with e
    injection e with e1 e2
    subst e1 e2
    refine .inr ⟨b, off + k * 2, rfl, hb, fun j u hu => ?_⟩
    have := hc (k * 2 + j) u (by rw [← hu]; simp)
    rwa [← Nat.add_assoc] at this

/-- A block that no list of the call's own lies in: it is below base, or holds ints. -/
def Safe (base : Nat) (w : World) (b : Nat) : Prop := b < w.heap.size ∧ (b < base ∨ ∃ cs fr, w.heap[b]? = some (.cells cs 3 fr))
def RowS (base : Nat) (w : World) (A : Option Addr) (xs : List Value) : Prop := xs = [] ∨ ∃ b off, A = some ⟨b, off, none⟩ ∧ Safe base w b ∧ ∀ j u, xs[j]? = some u → w.cell? ⟨b, off + j, none⟩ = some u
theorem RowS.row {base : Nat} {w : World} {A : Option Addr} {xs : List Value} (h : RowS base w A xs) : Row w w.heap.size A xs := by
  rcases h with rfl | ⟨b, off, rfl, hs, hc⟩
  · exact .inl rfl
  · exact .inr ⟨b, off, rfl, hs.1, hc⟩
theorem RowS.of_old {base : Nat} {w : World} {A : Option Addr} {xs : List Value} (h : Row w base A xs) (hb : base ≤ w.heap.size) : RowS base w A xs := by
  rcases h with rfl | ⟨b, off, rfl, hs, hc⟩
  · exact .inl rfl
  · exact .inr ⟨b, off, rfl, ⟨by omega, .inl hs⟩, hc⟩
theorem RowS.of_own {base base' : Nat} {w : World} {A : Option Addr} {n c : Nat} {xs : List Value} (h : w.ownsRow base' 3 1 (.slice A n c) n xs) : RowS base w A xs := by
  rcases h.2 with ⟨hv, hn⟩ | ⟨g, cap, cur, hv, hg, hh, hnc, hcp, hcs, htake⟩
  · refine .inl (List.eq_nil_of_length_eq_zero ?_)
    rw [h.1, hn]
  · injection hv with h1 h2 h3
    subst h1
    have hrow := owned_row_of h
    rcases hrow with rfl | ⟨b, off, e, hb, hc⟩
    · exact .inl rfl
    · injection e with e
      injection e with e1 e2
      subst e1 e2
      exact .inr ⟨g, 0, rfl, ⟨(Array.getElem?_eq_some_iff.1 hh).1, .inr ⟨_, _, hh⟩⟩, hc⟩
/-- It stays where a list of another kind, of the call's own, grows. -/
theorem RowS.grown {base : Nat} {w w' : World} {A : Option Addr} {xs ys : List Value} {E : TypeId} {size : Nat} {v : Value} {n : Nat} (h : RowS base w A xs) (hv : w.ownsRow base E size v n ys) (hE : E ≠ 3) (hg : w.grownBy w' v.ownBlock) : RowS base w' A xs := by
  rcases h with rfl | ⟨b, off, rfl, ⟨hs, hk⟩, hc⟩
  · exact .inl rfl
  · have hne : v.ownBlock ≠ some b := by
      rcases hk with hk | ⟨cs, fr, hk⟩
      · intro e
        have := (hv.lt b e).1
        omega
      · intro e
        rcases hv.2 with ⟨rfl, _⟩ | ⟨g, cap, cur, rfl, _, hh, _⟩
        · cases e
        · simp only [Value.ownBlock, Option.some.injEq] at e
          subst e
          rw [hh] at hk
          simp at hk
          exact hE hk.2.1
    have hblk : w'.heap[b]? = w.heap[b]? := hg.block b hs fun e => hne e.symm
    refine .inr ⟨b, off, rfl, ⟨Nat.lt_of_lt_of_le hs hg.size, hk.imp id fun ⟨cs, fr, h⟩ => ⟨cs, fr, hblk.trans h⟩⟩, fun j u hu => ?_⟩
    rw [World.cell?_of_block (a := ⟨b, off + j, none⟩) hblk]
    exact hc j u hu
theorem RowS.below {base : Nat} {w w' : World} {A : Option Addr} {xs : List Value} (h : RowS base w A xs) (hb : Below w.heap.size w w') : RowS base w' A xs := by
  rcases h with rfl | ⟨b, off, rfl, ⟨hs, hk⟩, hc⟩
  · exact .inl rfl
  · refine .inr ⟨b, off, rfl, ⟨Nat.lt_of_lt_of_le hs hb.size, hk.imp id fun ⟨cs, fr, h⟩ => ⟨cs, fr, (hb.block b hs).trans h⟩⟩, fun j u hu => ?_⟩
    rw [World.cell?_of_block (a := ⟨b, off + j, none⟩) (hb.block b hs)]
    exact hc j u hu

/-- A list of postings of the call's own: what it holds lies in blocks of their own. -/
def OwnPo (E : TypeId) (base : Nat) (w : World) (v : Value) (l : List Po) : Prop := ∃ cs, w.ownsRow base E 2 v l.length cs ∧ PoCells (RowS base w) l cs
section
variable {E : TypeId} {base : Nat} {w w' : World} {v v' : Value} {l : List Po}
theorem OwnPo.nil : OwnPo E base w (.slice none 0 0) [] := ⟨[], World.ownsRow_nil _ _ _ _, rfl⟩
theorem OwnPo.below (h : OwnPo E base w v l) (hb : Below w.heap.size w w') : OwnPo E base w' v l := by
  obtain ⟨cs, h1, h2⟩ := h
  exact ⟨cs, owned_below h1 hb, h2.imp fun _ _ h => h.below hb⟩
theorem OwnPo.posts (h : OwnPo E base w v l) : ∃ A c, v = .slice A l.length c ∧ l.length ≤ c ∧ Posts w w.heap.size A l := by
  obtain ⟨cs, h1, h2⟩ := h
  obtain ⟨A, c, rfl, hc, hr⟩ := owned_row h1
  exact ⟨A, c, rfl, hc, cs, h2.imp fun _ _ h => h.row, hr⟩
/-- One more behind them: the row has grown by two cells. -/
theorem OwnPo.push (hE : E ≠ 3) {cs : List Value} (h1 : w.ownsRow base E 2 v l.length cs) (h2 : PoCells (RowS base w) l cs) {A : Option Addr} {c : Nat} {d : Int} {ps : List Int} (hc : ps.length ≤ c) (hcx : c ≤ maxLen) (hr : RowS base w A (ints ps))
    (hown : w'.ownsRow base E 2 v' (l.length + 1) (cs ++ [.int .i64 d, .slice A ps.length c])) (hg : w.grownBy w' v.ownBlock) : OwnPo E base w' v' (l ++ [(d, ps)]) := by
  refine ⟨_, ?_, (h2.imp fun _ _ h => h.grown h1 hE hg).snoc hc hcx (hr.grown h1 hE hg)⟩
  rw [List.length_append, List.length_singleton]
  exact hown
end
end Go.Proofs.Ytfhjnblcnkjooaa
