/- Lists of lists in memory. No program. -/
import Derived.Test.YtldcadpemnpbmaaVars
set_option linter.unusedVariables false
namespace Go.Proofs.Ytldcadpemnpbmaa
open Go Go.RowKit

theorem owned_roomy {w : World} {base : Nat} {e : TypeId} {size : Nat} {v : Value} {n : Nat} {xs : List Value} (h : w.ownsRow base e size v n xs) : ∃ A c, v = .slice A n c ∧ n ≤ c ∧ c ≤ maxLen ∧ Row w w.heap.size A xs := by
  obtain ⟨A, c, rfl, hc, hr⟩ := owned_row h
  refine ⟨A, c, rfl, hc, ?_, hr⟩
  rcases h.2 with ⟨hv, _⟩ | ⟨g, cap, cur, hv, _, _, _, hcp, _⟩
  · injection hv with _ _ e
    rw [e]
    exact Nat.zero_le _
  · injection hv with _ _ e
    rw [e]
    exact hcp
theorem owned_store {b : Nat} {e : TypeId} {size n : Nat} {v : Value} {xs : List Value} {w : World} (h : w.ownsRow b e size v n xs) {B i : Nat} (hB : v.ownBlock ≠ some B) (u : Value) : (w.setCell ⟨B, i, none⟩ u).ownsRow b e size v n xs :=
  owned_keep h fun g hg => Below.heap_setCell _ _ _ _ fun e => hB (by rw [hg, e])
section
variable {α : Type} {f : α → Value} {w w' : World} {B B' : Nat} {A : Option Addr} {l : List (List α)} {cs : List Value}
/-- The cells of lists, each of one cell a thing, below a block. -/
def LolC (f : α → Value) (w : World) (B : Nat) (l : List (List α)) (cs : List Value) : Prop := cs.length = l.length ∧ ∀ i (h : i < l.length), ∃ A c, cs[i]? = some (.slice A l[i].length c) ∧ (l[i].length ≤ c ∧ c ≤ maxLen) ∧ Row w B A (l[i].map f)
/-- Lists of lists, below a block. -/
def Lol (f : α → Value) (w : World) (B : Nat) (A : Option Addr) (l : List (List α)) : Prop := ∃ cs, LolC f w B l cs ∧ Row w B A cs
theorem LolC.below (h : LolC f w B l cs) (hb : Below B w w') : LolC f w' B l cs := ⟨h.1, fun i hi => by obtain ⟨A, c, h1, h2, h3⟩ := h.2 i hi; exact ⟨A, c, h1, h2, h3.below hb⟩⟩
theorem LolC.more (h : LolC f w B l cs) (hB : B ≤ B') : LolC f w B' l cs := ⟨h.1, fun i hi => by obtain ⟨A, c, h1, h2, h3⟩ := h.2 i hi; exact ⟨A, c, h1, h2, h3.more hB⟩⟩
theorem LolC.nil : LolC f w B [] [] := ⟨rfl, fun i h => by simp at h⟩
theorem LolC.snoc (h : LolC f w B l cs) {x : List α} {A : Option Addr} {c : Nat} (hc : x.length ≤ c ∧ c ≤ maxLen) (hx : Row w B A (x.map f)) : LolC f w B (l ++ [x]) (cs ++ [.slice A x.length c]) := by
  refine ⟨by simp [h.1], fun i hi => ?_⟩
  rw [List.length_append, List.length_singleton] at hi
  by_cases hil : i < l.length
  · obtain ⟨A', c', h1, h2, h3⟩ := h.2 i hil
    refine ⟨A', c', ?_, ?_, ?_⟩
    · rw [List.getElem?_append_left (by rw [h.1]; omega), List.getElem_append_left hil]; exact h1
    · rw [List.getElem_append_left hil]; exact h2
    · rw [List.getElem_append_left hil]; exact h3
  · have e : i = l.length := by omega
    subst e
    refine ⟨A, c, ?_, ?_, ?_⟩
    · rw [List.getElem?_append_right (by rw [h.1]; omega), h.1]; simp
    · simpa using hc
    · simpa using hx
theorem Lol.nil : Lol f w B A ([] : List (List α)) := ⟨[], LolC.nil, Row.nil⟩
theorem Lol.below (h : Lol f w B A l) (hb : Below B w w') : Lol f w' B A l := by obtain ⟨cs, h1, h2⟩ := h; exact ⟨cs, h1.below hb, h2.below hb⟩
theorem Lol.more (h : Lol f w B A l) (hB : B ≤ B') : Lol f w B' A l := by obtain ⟨cs, h1, h2⟩ := h; exact ⟨cs, h1.more hB, h2.more hB⟩
theorem Lol.later (h : Lol f w w.heap.size A l) (hb : Below w.heap.size w w') : Lol f w' w'.heap.size A l := (h.below hb).more hb.size
theorem Lol.at_ (h : Lol f w B A l) {i : Nat} (hi : i < l.length) : ∃ b off A' c', A = some ⟨b, off, none⟩ ∧ b < B ∧ w.cell? ⟨b, off + i, none⟩ = some (.slice A' l[i].length c') ∧ (l[i].length ≤ c' ∧ c' ≤ maxLen) ∧ Row w B A' (l[i].map f) := by
  obtain ⟨cs, h1, h2⟩ := h
  obtain ⟨A', c', g1, g2, g3⟩ := h1.2 i hi
  obtain ⟨b, off, rfl, hb, hc⟩ := h2.at_ (by rw [h1.1]; omega)
  exact ⟨b, off, A', c', rfl, hb, hc i _ g1, g2, g3⟩
end
end Go.Proofs.Ytldcadpemnpbmaa
