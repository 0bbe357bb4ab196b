/- The library's own contract of sort.Search at this translation's numbers. -/
import Derived.Shelf.SlSorted.Search
import Derived.Test.YtebdnjfohahpgaaProg
namespace Go.Proofs.Ytebdnjfohahpgaa
open Go.Shelf Go.RowKit
def laySearch_ren : Go.Shelf.Ren := ⟨fun | 16 => 34 | n => n, fun | 3 => 3 | 4 => 4 | 35 => 65 | 38 => 68 | n => n, fun | n => n⟩
theorem laySearch : SlLaysO.n16 Try.prog laySearch_ren := {
  mixed := by kernel_rfl
  f16 := Try.func34.trans (congrArg some (by kernel_rfl))
  t3 := Try.underlying3
  a3 := Try.isAgg3
  z3 := Try.sizeOf3
  v3 := Try.zeroValue3
  t4 := Try.underlying4
  a4 := Try.isAgg4
  z4 := Try.sizeOf4
  v4 := Try.zeroValue4
  t35 := Try.underlying65
  a35 := Try.isAgg65
  z35 := Try.sizeOf65
  v35 := Try.zeroValue65
  t38 := Try.underlying68
  a38 := Try.isAgg68
  z38 := Try.sizeOf68
  v38 := Try.zeroValue68 }
open Go.Sort Go.Lib in
theorem sort_Search (g : Nat) (cb : Array Value) (n : Nat) (p : Nat → Bool) (w : World) (eg : ∀ args w, (callFunc g args).run Try.prog w = .ok (.enter g args) w) (hsz : n < 4611686018427387904)
    (hf : ∀ (W : World) (i : Nat), i < n → Below w.heap.size w W → Calls Try.prog g (#[.int .i64 i] ++ cb) W fun e w' => e = .returned (.bool (p i)) ∧ ∃ q, w' = W.drewN q)
    (hmono : ∀ a b, a ≤ b → b < n → p a = true → p b = true) :
    Calls Try.prog 34 #[.int .i64 n, .func (.func g) #[] cb] w fun e w' => e = .returned (.int .i64 ((List.range n).countP (fun i => !p i) : Nat)) ∧ Below w.heap.size w w' := by
  refine (Any.sort_Search laySearch g cb n p w eg hsz (fun m os i hi => (hf _ i hi (below_grown_sl w.heap.size w m os (Nat.le_refl _))).mono ?_) hmono).mono ?_
  · rintro e w' ⟨rfl, q, rfl⟩
    exact ⟨rfl, q, #[], by rw [grow_empty]⟩
  · rintro e w' ⟨rfl, q, os, rfl⟩
    exact ⟨rfl, below_grown_sl w.heap.size w q os (Nat.le_refl _)⟩
end Go.Proofs.Ytebdnjfohahpgaa
