/- What an order is while the document's Order of layer 11 makes it. -/
import Derived.Test.YtpehcaidjlemiaaPls11
import Derived.Test.YtpehcaidjlemiaaLol11
import Derived.Test.YtpehcaidjlemiaaInts
import Derived.Test.YtpehcaidjlemiaaRiseZ10
import Derived.Lib.Hide
import Derived.Laws.OwnMore
import Derived.Deep.AppendLies
import Derived.Deep.CutRange
set_option linter.unusedVariables false
namespace Go.Proofs.Ytpehcaidjlemiaa
open Go Go.RowKit

theorem info_pair : (Try.prog.info? 30).map (fun i => (i.zero, i.size, i.bytes)) = some (some (.agg #[.int .i64 0, .int .i64 0]), 2, 16) := by kernel_rfl
/-- An order and its error. -/
def GaveOrd (l : List (List Int)) (w : World) (e : Ending) (w' : World) : Prop := ∃ (err : Int) (o : List Pl) (A : Option Addr) (c : Nat), OrdIs l err o ∧ e = .returned (.tuple #[.slice A o.length c, .int .i64 err]) ∧ (o.length ≤ c ∧ c ≤ maxLen) ∧ Row w' w'.heap.size A (plc o) ∧ Below w.heap.size w w'
/-- As GaveOrd, of so many numbers that they can be counted. -/
def GaveOrdN (l : List (List Int)) (w : World) (e : Ending) (w' : World) : Prop := ∃ (err : Int) (o : List Pl) (A : Option Addr) (c : Nat), OrdIs l err o ∧ e = .returned (.tuple #[.slice A o.length c, .int .i64 err]) ∧ (o.length ≤ c ∧ c ≤ maxLen) ∧ Row w' w'.heap.size A (plc o) ∧ Below w.heap.size w w' ∧ o.length ≤ 1000000
theorem OrdIs.small {l : List (List Int)} {e : Int} {o : List Pl} (h : OrdIs l e o) (h1 : l.length ≤ 1000) (h2 : ∀ s ∈ l, s.length ≤ 1000) : o.Nodup ∧ ∀ p ∈ o, p.1 ≤ 1000 ∧ p.2 ≤ 1000 := by
  cases h with
  | bad _ => exact ⟨List.Pairwise.nil, fun p h => by simp at h⟩
  | twice _ _ => exact ⟨List.Pairwise.nil, fun p h => by simp at h⟩
  | ok _ h => exact ⟨h.nodup, fun p hp => by
      obtain ⟨hi, hk⟩ := inO_at.1 ((h.mem p).1 hp)
      have := h2 _ (List.getElem_mem hi)
      omega⟩
def natI (a : List Nat) : List Int := a.map fun (x : Nat) => (x : Int)
theorem natI_set (a : List Nat) (b v : Nat) : ints (natI (a.set b v)) = (ints (natI a)).set b (.int .i64 (v : Int)) := by simp [ints, natI, List.map_set]
theorem sum_set : ∀ (a : List Nat) (b : Nat), b < a.length → (a.set b (a.getD b 0 + 1)).sum = a.sum + 1
  | x :: a, 0, _ => by simp; omega
  | x :: a, b + 1, h => by
    have := sum_set a b (by simpa using h)
    simp at this ⊢
    omega
theorem sum_le11 : ∀ {l : List (List Int)} {a : List Nat}, a.length = l.length → (∀ i (hi : i < l.length), a.getD i 0 ≤ l[i].length) → a.sum ≤ (l.map List.length).sum
  | [], a, h, _ => by simp at h; subst h; simp
  | s :: l, [], h, _ => by simp at h
  | s :: l, x :: a, h, hle => by
    have h0 := hle 0 (by simp)
    have h1 := sum_le11 (l := l) (a := a) (by simpa using h) fun i hi => by
      have := hle (i + 1) (by simpa using hi)
      rw [List.getElem_cons_succ] at this
      simpa using this
    simp at h0 ⊢
    omega
theorem sum_bound {l : List (List Int)} {m : Nat} (hm : l.length = m) (hm2 : m ≤ 1000) (hl : ∀ s ∈ l, s.length ≤ 1000) : (l.map List.length).sum ≤ 1000000 := by
  have : ∀ l : List (List Int), (∀ s ∈ l, s.length ≤ 1000) → (l.map List.length).sum ≤ l.length * 1000 := by
    intro l
    induction l with
    | nil => intro _; simp
    | cons s l ih =>
      intro h
      have h1 := h s (List.mem_cons_self ..)
      have h2 := ih fun x hx => h x (List.mem_cons_of_mem _ hx)
      simp only [List.map_cons, List.sum_cons, List.length_cons]
      omega
  have := this l hl
  rw [hm] at this
  omega
def lenV : Value → Nat
  | .slice _ n _ => n
  | _ => 0
/-- So many lists rise. -/
def RefOrd1 (l : List (List Int)) (w : World) (r2 r3 i u : Value) (wr : World) : Prop := r2 = .slice none 0 0 ∧ r3 = .int .i64 0 ∧ ∃ k : Nat, k ≤ l.length ∧ i = .int .i64 (k : Int) ∧ (∀ j (hj : j < l.length), j < k → risesZ (-1) l[j] = true) ∧ Below w.heap.size w wr
/-- An order is being made. -/
structure OrdAt (l : List (List Int)) (w : World) (g m : Nat) (a : List Nat) (o : List Pl) (last : Int) (vo : Value) (wr : World) : Prop where
  mid : OrdMid l a o last
  cnt : o.length = a.sum
  out : wr.ownsRow w.heap.size 30 2 vo o.length (plc o)
  at_ : wr.ownsRow w.heap.size 3 1 (.slice (some ⟨g, 0, none⟩) m m) m (ints (natI a))
  below : Below w.heap.size w wr
theorem OrdAt.later {l : List (List Int)} {w : World} {g m : Nat} {a : List Nat} {o : List Pl} {last : Int} {vo : Value} {wr wx : World} (h : OrdAt l w g m a o last vo wr) (hb : Below wr.heap.size wr wx) : OrdAt l w g m a o last vo wx :=
  ⟨h.mid, h.cnt, owned_below h.out hb, owned_below h.at_ hb, h.below.trans (hb.mono h.below.size)⟩
def RefOrd2 (l : List (List Int)) (w : World) (g m : Nat) (r2 r3 v7 v8 : Value) (wr : World) : Prop := r2 = .slice none 0 0 ∧ r3 = .int .i64 0 ∧ ∃ (a : List Nat) (o : List Pl) (last : Int), v8 = .int .i64 last ∧ lenV v7 = o.length ∧ OrdAt l w g m a o last v7 wr
/-- The least of the first k lists' next numbers. -/
def BestK (l : List (List Int)) (a : List Nat) (k : Nat) (best : Int) : Prop :=
  (best = -1 ∧ ∀ j, j < k → ¬ InO l (j, a.getD j 0)) ∨ ∃ b : Nat, best = (b : Int) ∧ InO l (b, a.getD b 0) ∧ ∀ j, j < k → InO l (j, a.getD j 0) → valO l (b, a.getD b 0) ≤ valO l (j, a.getD j 0)
theorem BestK.skip {l : List (List Int)} {a : List Nat} {k : Nat} {best : Int} (h : BestK l a k best) (hn : ¬ InO l (k, a.getD k 0)) : BestK l a (k + 1) best := by
  rcases h with ⟨h1, h2⟩ | ⟨b, h1, h2, h3⟩
  · refine .inl ⟨h1, fun j hj => ?_⟩
    by_cases e : j = k
    · subst e; exact hn
    · exact h2 j (by omega)
  · refine .inr ⟨b, h1, h2, fun j hj hi => ?_⟩
    by_cases e : j = k
    · subst e; exact absurd hi hn
    · exact h3 j (by omega) hi
theorem BestK.first {l : List (List Int)} {a : List Nat} {k : Nat} (h : BestK l a k (-1)) (hn : InO l (k, a.getD k 0)) : BestK l a (k + 1) (k : Int) := by
  rcases h with ⟨_, h2⟩ | ⟨b, h1, _⟩
  · refine .inr ⟨k, rfl, hn, fun j hj hi => ?_⟩
    by_cases e : j = k
    · subst e; exact Int.le_refl _
    · exact absurd hi (h2 j (by omega))
  · omega
theorem BestK.take {l : List (List Int)} {a : List Nat} {k b : Nat} (h : BestK l a k (b : Int)) (hn : InO l (k, a.getD k 0)) (hlt : valO l (k, a.getD k 0) < valO l (b, a.getD b 0)) : BestK l a (k + 1) (k : Int) := by
  rcases h with ⟨h1, _⟩ | ⟨b', h1, h2, h3⟩
  · omega
  · have e : b' = b := by omega
    subst e
    refine .inr ⟨k, rfl, hn, fun j hj hi => ?_⟩
    by_cases e : j = k
    · subst e; exact Int.le_refl _
    · have := h3 j (by omega) hi; omega
theorem BestK.stay {l : List (List Int)} {a : List Nat} {k b : Nat} (h : BestK l a k (b : Int)) (hge : valO l (b, a.getD b 0) ≤ valO l (k, a.getD k 0)) : BestK l a (k + 1) (b : Int) := by
  rcases h with ⟨h1, _⟩ | ⟨b', h1, h2, h3⟩
  · omega
  · have e : b' = b := by omega
    subst e
    refine .inr ⟨b', rfl, h2, fun j hj hi => ?_⟩
    by_cases e : j = k
    · subst e; exact hge
    · exact h3 j (by omega) hi
def RefOrd3 (l : List (List Int)) (a : List Nat) (wq : World) (v9 i : Value) (wx : World) : Prop := ∃ (k : Nat) (best : Int), k ≤ l.length ∧ i = .int .i64 (k : Int) ∧ v9 = .int .i64 best ∧ BestK l a k best ∧ Below wq.heap.size wq wx
/-- The next number of a list, in memory. -/
theorem next_at {l : List (List Int)} {w wx : World} {g m : Nat} {a : List Nat} {o : List Pl} {last : Int} {vo : Value} (h : OrdAt l w g m a o last vo wx) {j : Nat} (hj : j < l.length) : wx.cell? ⟨g, j, none⟩ = some (.int .i64 (a.getD j 0 : Int)) := by
  have hc := h.at_.cells (g := g) rfl j (.int .i64 (a.getD j 0 : Int)) (by
    have : j < a.length := by rw [h.mid.len]; exact hj
    simp [ints, natI, List.getElem?_eq_getElem this, List.getD_eq_getElem?_getD])
  simpa [Addr.add_lit] using hc
end Go.Proofs.Ytpehcaidjlemiaa
