/- Two rows of lists of numbers that grow side by side: one of lists that lie elsewhere, one of lists of their own. -/
import Derived.Test.YtpehcaidjlemiaaLol11
import Derived.Test.YtpehcaidjlemiaaInts
set_option linter.unusedVariables false
namespace Go.Proofs.Ytpehcaidjlemiaa
open Go Go.RowKit

theorem info_intsl : (Try.prog.info? 23).map (fun i => (i.zero, i.size, i.bytes)) = some (some (.slice none 0 0), 1, 24) := by kernel_rfl
/-- Lists, each in a row of its own. -/
def LiC (base : Nat) (w : World) (L : List (List Int)) (ds : List Value) : Prop := ds.length = L.length ∧ ∀ i (h : i < L.length), ∃ u, ds[i]? = some u ∧ w.ownsRow base 3 1 u L[i].length (ints L[i])
structure TwoL (base : Nat) (L0 L1 : List (List Int)) (v5 v6 : Value) (w : World) : Prop where
  own : ∃ cs, LolC (Value.int .i64) w base L0 cs ∧ w.ownsRow base 23 1 v5 L0.length cs
  good : ∃ ds, LiC base w L1 ds ∧ w.ownsRow base 23 1 v6 L1.length ds
  apart : ∀ g, v5.ownBlock = some g → v6.ownBlock ≠ some g
section
variable {base : Nat} {w w' : World} {L L0 L1 : List (List Int)} {ds : List Value} {v5 v6 v' u : Value}
theorem LiC.imp (h : LiC base w L ds) (hi : ∀ u x, w.ownsRow base 3 1 u x.length (ints x) → w'.ownsRow base 3 1 u x.length (ints x)) : LiC base w' L ds := ⟨h.1, fun i hi2 => by obtain ⟨u, h1, h2⟩ := h.2 i hi2; exact ⟨u, h1, hi _ _ h2⟩⟩
theorem LiC.snoc (h : LiC base w L ds) {x : List Int} (hu : w.ownsRow base 3 1 u x.length (ints x)) : LiC base w (L ++ [x]) (ds ++ [u]) := by
  refine ⟨by simp [h.1], fun i hi => ?_⟩
  rw [List.length_append, List.length_singleton] at hi
  by_cases hil : i < L.length
  · obtain ⟨y, h1, h2⟩ := h.2 i hil
    refine ⟨y, ?_, ?_⟩
    · rw [List.getElem?_append_left (by rw [h.1]; omega)]; exact h1
    · rw [List.getElem_append_left hil]; exact h2
  · have e : i = L.length := by omega
    subst e
    refine ⟨u, ?_, ?_⟩
    · rw [List.getElem?_append_right (by rw [h.1]; omega), h.1]; simp
    · simpa using hu
theorem TwoL.nil : TwoL base [] [] (.slice none 0 0) (.slice none 0 0) w :=
  ⟨⟨[], LolC.nil, World.ownsRow_nil _ _ _ _⟩, ⟨[], ⟨rfl, fun i h => by simp at h⟩, World.ownsRow_nil _ _ _ _⟩, fun g h => by cases h⟩
theorem TwoL.below (h : TwoL base L0 L1 v5 v6 w) (hb : Below w.heap.size w w') (hB : base ≤ w.heap.size) : TwoL base L0 L1 v5 v6 w' := by
  obtain ⟨cs, h1, h2⟩ := h.own
  obtain ⟨ds, h3, h4⟩ := h.good
  exact ⟨⟨cs, h1.below (hb.mono hB), owned_below h2 hb⟩, ⟨ds, h3.imp fun _ _ h => owned_below h hb, owned_below h4 hb⟩, h.apart⟩
/-- The first row has grown. -/
theorem TwoL.push0 (h : TwoL base L0 L1 v5 v6 w) (hB : base ≤ w.heap.size) {x : List Int} {A : Option Addr} {c : Nat} {cs : List Value} (hcs : LolC (Value.int .i64) w base L0 cs) (hown : w.ownsRow base 23 1 v5 L0.length cs)
    (hc : x.length ≤ c ∧ c ≤ maxLen) (hx : Row w base A (ints x)) (hnew : w'.ownsRow base 23 1 v' (L0.length + 1) (cs ++ [.slice A x.length c])) (hg : w.grownBy w' v5.ownBlock) (hat : v'.ownBlock = v5.ownBlock ∨ v'.ownBlock = some w.heap.size) :
    TwoL base (L0 ++ [x]) L1 v' v6 w' := by
  obtain ⟨ds, h3, h4⟩ := h.good
  have hb : Below base w w' := (Below.refl _ w).grown hg hB fun q hq => (hown.lt q hq).1
  refine ⟨⟨_, (hcs.below hb).snoc hc (hx.below hb), by rw [List.length_append, List.length_singleton]; exact hnew⟩, ⟨ds, h3.imp fun u y hy => ?_, ?_⟩, fun g hv => ?_⟩
  · exact owned_keep hy fun q hq => hg.block q (hy.lt q hq).2 fun e => owned_apart2 hown hy (by decide) hq e.symm
  · exact owned_keep h4 fun q hq => hg.block q (h4.lt q hq).2 fun e => h.apart q e.symm hq
  · rcases hat with e | e
    · exact h.apart g (by rw [← e]; exact hv)
    · intro h6
      rw [e] at hv
      injection hv with hv
      have := (h4.lt g h6).2
      omega
/-- The second row has grown. -/
theorem TwoL.push1 (h : TwoL base L0 L1 v5 v6 w) (hB : base ≤ w.heap.size) {x : List Int} (hds : LiC base w L1 ds) (hown : w.ownsRow base 23 1 v6 L1.length ds) (hx : w.ownsRow base 3 1 u x.length (ints x))
    (hnew : w'.ownsRow base 23 1 v' (L1.length + 1) (ds ++ [u])) (hg : w.grownBy w' v6.ownBlock) (hat : v'.ownBlock = v6.ownBlock ∨ v'.ownBlock = some w.heap.size) :
    TwoL base L0 (L1 ++ [x]) v5 v' w' := by
  obtain ⟨cs, h1, h2⟩ := h.own
  have hb : Below base w w' := (Below.refl _ w).grown hg hB fun q hq => (hown.lt q hq).1
  have hk : ∀ u (y : List Int), w.ownsRow base 3 1 u y.length (ints y) → w'.ownsRow base 3 1 u y.length (ints y) := fun u y hy =>
    owned_keep hy fun q hq => hg.block q (hy.lt q hq).2 fun e => owned_apart2 hown hy (by decide) hq e.symm
  refine ⟨⟨cs, h1.below hb, ?_⟩, ⟨_, (hds.imp hk).snoc (hk _ _ hx), by rw [List.length_append, List.length_singleton]; exact hnew⟩, fun g hv h6 => ?_⟩
  · exact owned_keep h2 fun q hq => hg.block q (h2.lt q hq).2 fun e => h.apart q hq e.symm
  · rcases hat with e | e
    · exact h.apart g hv (by rw [← e]; exact h6)
    · rw [e] at h6
      injection h6 with h6
      have := (h2.lt g hv).2
      omega
theorem TwoL.lol0 (h : TwoL base L0 L1 v5 v6 w) (hB : base ≤ w.heap.size) : ∃ A c, v5 = .slice A L0.length c ∧ L0.length ≤ c ∧ c ≤ maxLen ∧ Lol (Value.int .i64) w w.heap.size A L0 := by
  obtain ⟨cs, h1, h2⟩ := h.own
  obtain ⟨A, c, rfl, hc, hm, hr⟩ := owned_roomy h2
  exact ⟨A, c, rfl, hc, hm, cs, h1.more hB, hr⟩
theorem TwoL.lol1 (h : TwoL base L0 L1 v5 v6 w) : ∃ A c, v6 = .slice A L1.length c ∧ L1.length ≤ c ∧ c ≤ maxLen ∧ Lol (Value.int .i64) w w.heap.size A L1 := by
  obtain ⟨ds, h1, h2⟩ := h.good
  obtain ⟨A, c, rfl, hc, hm, hr⟩ := owned_roomy h2
  refine ⟨A, c, rfl, hc, hm, ds, ⟨h1.1, fun i hi => ?_⟩, hr⟩
  obtain ⟨u, g1, g2⟩ := h1.2 i hi
  obtain ⟨A', c', rfl, k1, k2, k3⟩ := owned_roomy g2
  exact ⟨A', c', g1, ⟨k1, k2⟩, k3⟩
end
end Go.Proofs.Ytpehcaidjlemiaa
