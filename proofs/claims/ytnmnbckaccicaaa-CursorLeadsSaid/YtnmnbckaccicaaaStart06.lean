/- What the statements of layer 6 begin with: good postings, their list. -/
import Derived.Test.YtnmnbckaccicaaaLives06
set_option linter.unusedVariables false
namespace Go.Proofs.Ytnmnbckaccicaaa
open Go Go.RowKit

/-- Postings such as may be, few and short. -/
structure GoodL (g : List Po) : Prop where
  len : g.length ≤ 40
  may : mayB' (-1) g = true
  places : ∀ q ∈ g, q.2.length ≤ 5
  bytes : (bytesP (-1) g).length ≤ 1000000

theorem good_l (l : List Po) : GoodL (goodP (-1) (l.take 40)) := by
  have h1 : (goodP (-1) (l.take 40)).length ≤ 40 := by rw [goodP_length, List.length_take]; omega
  obtain ⟨h2, h3⟩ := goodP_may (l.take 40) (-1) (by omega) (by rw [List.length_take]; omega)
  refine ⟨h1, h2, fun q hq => (h3 q hq).1, ?_⟩
  have h4 := bytesP_length (goodP (-1) (l.take 40)) (-1) (by omega) h2 (fun p hp => by have := (h3 p hp).1; omega)
  have h5 : totalP (goodP (-1) (l.take 40)) ≤ 40 * 5 := by
    have key : ∀ (q : List Po), (∀ x ∈ q, x.2.length ≤ 5) → totalP q ≤ q.length * 5 := by
      intro q
      induction q with
      | nil => intro _; simp [totalP]
      | cons a r ih => intro h; have := ih fun x hx => h x (by simp [hx]); have := h a (by simp); simp only [totalP, List.length_cons]; omega
    have := key _ fun q hq => (h3 q hq).1
    omega
  omega
theorem GoodL.placesC {g : List Po} (h : GoodL g) (i : Int) : (placesC g i).length ≤ 5 := by
  by_cases hi : i < 0 ∨ (g.length : Int) ≤ i
  · rw [placesC_none hi]; simp
  · obtain ⟨k, rfl⟩ := Int.eq_ofNat_of_zero_le (show 0 ≤ i by omega)
    rw [placesC_at (by omega)]
    refine h.places _ ?_
    rw [List.getD_eq_getElem?_getD, List.getElem?_eq_getElem (by omega)]
    simp

theorem inter_length : ∀ (a b : List Po), (interP a b).length ≤ a.length
  | [], _ => by rw [interP]; simp
  | _ :: _, [] => by rw [interP]; simp
  | p :: r, q :: s => by
    rw [interP]
    split
    · have := inter_length r s
      simp only [List.length_cons]
      omega
    · split
      · have := inter_length r (q :: s)
        simp only [List.length_cons]
        omega
      · exact inter_length (p :: r) s
termination_by a b => a.length + b.length

/-- What Good gives, as the statements of layer 6 want it. -/
def GaveGood (g : List Po) (w : World) (e : Ending) (w' : World) : Prop := ∃ A c, e = .returned (.slice A g.length c) ∧ g.length ≤ c ∧ c ≤ maxLen ∧ Posts w' w'.heap.size A g ∧ Below w.heap.size w w'
theorem good_gave (A : Option Addr) (n d : Nat) (l : List Po) (w : World) (hin : InPosts w A n d l) :
    ∃ g, GoodL g ∧ Calls Try.prog 8 #[.slice A n d, .int .i64 40] w (GaveGood g w) := by
  refine ⟨_, good_l l, ?_⟩
  refine (ref05_Good A n d l 40 w hin (by omega)).mono ?_
  rintro e w' ⟨v, rfl, ho, hb⟩
  obtain ⟨A5, c5, rfl, hc5, hx5, hp5⟩ := ho.room
  exact ⟨A5, c5, rfl, hc5, hx5, hp5, hb⟩
theorem make_good {g : List Po} (hg : GoodL g) (A : Option Addr) (n c : Nat) (w : World) (hn : g.length = n) (hc : n ≤ c) (hcx : c ≤ maxLen) (hpo : Posts w w.heap.size A g) :
    Calls Try.prog 9 #[.slice A n c] w (MadeList g w) :=
  posting_Make A n c g w hn hc hcx (by have := hg.len; omega) hpo (fun q hq => by have := hg.places q hq; omega) hg.may
end Go.Proofs.Ytnmnbckaccicaaa
