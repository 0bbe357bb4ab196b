/- Places of lists in memory: a slice of arrays of two numbers. No program. -/
import Derived.Test.YtpehcaidjlemiaaPlaceO11
import Derived.Test.YtpehcaidjlemiaaBase
set_option linter.unusedVariables false
namespace Go.Proofs.Ytpehcaidjlemiaa
open Go Go.RowKit

def plc : List Pl → List Value
  | [] => []
  | p :: o => .int .i64 (p.1 : Int) :: .int .i64 (p.2 : Int) :: plc o
theorem plc_length : ∀ o : List Pl, (plc o).length = o.length * 2
  | [] => rfl
  | p :: o => by simp [plc, plc_length o]; omega
theorem plc_append : ∀ a b : List Pl, plc (a ++ b) = plc a ++ plc b
  | [], b => rfl
  | p :: a, b => by simp [plc, plc_append a b]
theorem plc_at : ∀ {o : List Pl} {k : Nat} (hk : k < o.length), (plc o)[k * 2]? = some (.int .i64 (o[k].1 : Int)) ∧ (plc o)[k * 2 + 1]? = some (.int .i64 (o[k].2 : Int))
  | [], k, hk => by simp at hk
  | p :: o, 0, hk => ⟨rfl, rfl⟩
  | p :: o, k + 1, hk => by
    have := plc_at (o := o) (k := k) (by simpa using hk)
    rw [show (k + 1) * 2 = k * 2 + 1 + 1 by omega]
    simpa [plc] using this
theorem row_plc {w : World} {B : Nat} {A : Option Addr} {o : List Pl} (h : Row w B A (plc o)) {k : Nat} (hk : k < o.length) :
    ∃ b off, A = some ⟨b, off, none⟩ ∧ b < B ∧ w.cell? ⟨b, off + k * 2, none⟩ = some (.int .i64 (o[k].1 : Int)) ∧ w.cell? ⟨b, off + k * 2 + 1, none⟩ = some (.int .i64 (o[k].2 : Int)) := by
  obtain ⟨b, off, rfl, hb, hc⟩ := h.at_ (by rw [plc_length]; omega)
  obtain ⟨h1, h2⟩ := plc_at hk
  exact ⟨b, off, rfl, hb, hc _ _ h1, by have := hc _ _ h2; rwa [← Nat.add_assoc] at this⟩
end Go.Proofs.Ytpehcaidjlemiaa
