/-
  No cell of these rows narrows 'for every input' (looked for: loops, veiled, ifaces, maps, wideKeys, modest, calm, conditions, laid).
  DERIVED. THE GIVEN ROWS OF THIS SEAT. 4 by the template 'for every input the law returns true; each argument reads behind the call as it read before'; 0 by the template 'total and deterministic' (their statements: YtmoomnpbiifedaaGreatTotals.lean).
  GIVEN WITH THE SEED: the statements are not yours to turn. If you find one false, say at which input.
  Laid BY PROGRAM, IN A SANDBOX (cutbox-rows.mjs): the forced cells as the released guide's own fill.sh prints them over the translation 91158baeef87c0b5… (all of the seat's roots in one cut). By AI agents, Wed Nov 11 2026. No macro, syntax, notation, axiom, sorry.
-/
import Derived.Test.YtmoomnpbiifedaaGreatChecked
import GoSem.Claim
import GoSem.ClaimJoined
import GoSem.ClaimMapViews
import Derived.JoinedTies
import Derived.KernelRfl
namespace Go.Proofs.YtmoomnpbiifedaaGreat
/- THE CELL 'sum', in the pinned program and in every row, IS THE sha256 OF THE DUMP (.gsa) THAT YtmoomnpbiifedaaGreatProg.lean LOADS. Nothing in Lean hashes anything: it is a label: what it is worth is what the hold of that sum in a sandbox is worth. -/
noncomputable def Tryz.pinned : Pinned := { name := "ytmoomnpbiifedaagreat", sum := "91158baeef87c0b5d0c55d1fbe250ef454375a0879eda78f2b6d927a7d82c1bd", checked := Tryz.checked }
namespace Rows
def none {H : Type} : Left H := { results := [], args := [] }

/-- 'concordancelaw10.SegmentMakes': WHATEVER THE INPUT: true; the input reads as it did. -/
def segmentMakesSpec : ChangeSpec := { name := "segmentMakes", fn := fun _ => fun
  | [d1, d2] => { results := [.lit (.bool true)], args := [d1, d2] }
  | _ => none }
def segmentMakesRow : OpenClaim := { program := "ytmoomnpbiifedaagreat", sum := "91158baeef87c0b5d0c55d1fbe250ef454375a0879eda78f2b6d927a7d82c1bd", func := "concordance/concordancelaw10.SegmentMakes", spec := "segmentMakes", inPlace := ["internal/abi.NoEscape"], unfollowed := true, recurses := true, plainKeys := false, apart := false }
def SegmentMakesSaid : Prop := segmentMakesRow.holds Tryz.pinned (OpenSpec.ofChange segmentMakesSpec)

/-- ITS FALSE NEIGHBOUR: 'it returns false'. Refute it at one input. -/
def segmentMakesWrong : ChangeSpec := { name := "segmentMakes", fn := fun _ => fun
  | [d1, d2] => { results := [.lit (.bool false)], args := [d1, d2] }
  | _ => none }
def SegmentMakesWrongFalsely : Prop := segmentMakesRow.holds Tryz.pinned (OpenSpec.ofChange segmentMakesWrong)

/-- 'concordancelaw10.SegmentBuilds': WHATEVER THE INPUT: true; the input reads as it did. -/
def segmentBuildsSpec : ChangeSpec := { name := "segmentBuilds", fn := fun _ => fun
  | [d1, d2, d3] => { results := [.lit (.bool true)], args := [d1, d2, d3] }
  | _ => none }
def segmentBuildsRow : OpenClaim := { program := "ytmoomnpbiifedaagreat", sum := "91158baeef87c0b5d0c55d1fbe250ef454375a0879eda78f2b6d927a7d82c1bd", func := "concordance/concordancelaw10.SegmentBuilds", spec := "segmentBuilds", inPlace := ["internal/abi.NoEscape"], unfollowed := true, recurses := true, plainKeys := false, apart := false }
def SegmentBuildsSaid : Prop := segmentBuildsRow.holds Tryz.pinned (OpenSpec.ofChange segmentBuildsSpec)

/-- ITS FALSE NEIGHBOUR: 'it returns false'. Refute it at one input. -/
def segmentBuildsWrong : ChangeSpec := { name := "segmentBuilds", fn := fun _ => fun
  | [d1, d2, d3] => { results := [.lit (.bool false)], args := [d1, d2, d3] }
  | _ => none }
def SegmentBuildsWrongFalsely : Prop := segmentBuildsRow.holds Tryz.pinned (OpenSpec.ofChange segmentBuildsWrong)

/-- 'concordancelaw10.SegmentSame': WHATEVER THE INPUT: true; the input reads as it did. -/
def segmentSameSpec : ChangeSpec := { name := "segmentSame", fn := fun _ => fun
  | [d1, d2] => { results := [.lit (.bool true)], args := [d1, d2] }
  | _ => none }
def segmentSameRow : OpenClaim := { program := "ytmoomnpbiifedaagreat", sum := "91158baeef87c0b5d0c55d1fbe250ef454375a0879eda78f2b6d927a7d82c1bd", func := "concordance/concordancelaw10.SegmentSame", spec := "segmentSame", inPlace := ["internal/abi.NoEscape"], unfollowed := true, recurses := true, plainKeys := false, apart := false }
def SegmentSameSaid : Prop := segmentSameRow.holds Tryz.pinned (OpenSpec.ofChange segmentSameSpec)

/-- ITS FALSE NEIGHBOUR: 'it returns false'. Refute it at one input. -/
def segmentSameWrong : ChangeSpec := { name := "segmentSame", fn := fun _ => fun
  | [d1, d2] => { results := [.lit (.bool false)], args := [d1, d2] }
  | _ => none }
def SegmentSameWrongFalsely : Prop := segmentSameRow.holds Tryz.pinned (OpenSpec.ofChange segmentSameWrong)

/-- 'concordancelaw10.SegmentAbove': WHATEVER THE INPUT: true; the input reads as it did. -/
def segmentAboveSpec : ChangeSpec := { name := "segmentAbove", fn := fun _ => fun
  | [d1, d2] => { results := [.lit (.bool true)], args := [d1, d2] }
  | _ => none }
def segmentAboveRow : OpenClaim := { program := "ytmoomnpbiifedaagreat", sum := "91158baeef87c0b5d0c55d1fbe250ef454375a0879eda78f2b6d927a7d82c1bd", func := "concordance/concordancelaw10.SegmentAbove", spec := "segmentAbove", inPlace := ["internal/abi.NoEscape"], unfollowed := true, recurses := true, plainKeys := false, apart := false }
def SegmentAboveSaid : Prop := segmentAboveRow.holds Tryz.pinned (OpenSpec.ofChange segmentAboveSpec)

/-- ITS FALSE NEIGHBOUR: 'it returns false'. Refute it at one input. -/
def segmentAboveWrong : ChangeSpec := { name := "segmentAbove", fn := fun _ => fun
  | [d1, d2] => { results := [.lit (.bool false)], args := [d1, d2] }
  | _ => none }
def SegmentAboveWrongFalsely : Prop := segmentAboveRow.holds Tryz.pinned (OpenSpec.ofChange segmentAboveWrong)

/- THE SECOND FORM. 'bulk': how many values and letters a reading holds, each counted each time it is reached (what is shared counts as often as it is met; a slice's spare places count too). A statement '..UptoSaid' is the law's where the arguments, and the package variables that the reading takes, are together of bulk at most 1048576: NARROWER than '..Said'. Prove '..Said' where nothing that the law and all that it calls make is longer than what came in: it says more and counts as full. Else prove '..UptoSaid'. A law counts once. -/
mutual
def uptoBulk {H : Type} : DataW H → Nat
  | .lit (.string bytes) => bytes.length + 1
  | .lit _ => 1
  | .nil => 1
  | .ptr d => uptoBulk d + 1
  | .slice elems spare => uptoBulkAll elems + uptoBulkAll spare + 1
  | .agg parts => uptoBulkAll parts + 1
  | .iface _ d => uptoBulk d + 1
  | .map entries => uptoBulkEntries entries + 1
  | .held _ => 1
def uptoBulkAll {H : Type} : List (DataW H) → Nat
  | [] => 0
  | d :: r => uptoBulk d + uptoBulkAll r
def uptoBulkEntries {H : Type} : List (Lit × DataW H) → Nat
  | [] => 0
  | x :: r => uptoBulkEntry x + uptoBulkEntries r
def uptoBulkEntry {H : Type} : Lit × DataW H → Nat
  | (.string bytes, d) => bytes.length + uptoBulk d + 1
  | (_, d) => uptoBulk d + 1
 end
def uptoSmall : (H : Type) → List (DataW H) → Bool := fun _ ds => decide (uptoBulkAll ds ≤ 1048576)
def OpenSpec.upto (s : _root_.Go.ChangeSpec) : _root_.Go.OpenSpec := { _root_.Go.OpenSpec.ofChange s with cond := some uptoSmall }

/-- 'concordancelaw10.SegmentMakes', WHERE WHAT IT READS IS OF BULK AT MOST 1048576: true; the input reads as it did. -/
def segmentMakesUptoRow : OpenClaim := { program := "ytmoomnpbiifedaagreat", sum := "91158baeef87c0b5d0c55d1fbe250ef454375a0879eda78f2b6d927a7d82c1bd", func := "concordance/concordancelaw10.SegmentMakes", spec := "segmentMakes", inPlace := ["internal/abi.NoEscape"], unfollowed := true, recurses := true, plainKeys := false, apart := false, narrowed := true }
def SegmentMakesUptoSaid : Prop := segmentMakesUptoRow.holds Tryz.pinned (OpenSpec.upto segmentMakesSpec)

/-- 'concordancelaw10.SegmentBuilds', WHERE WHAT IT READS IS OF BULK AT MOST 1048576: true; the input reads as it did. -/
def segmentBuildsUptoRow : OpenClaim := { program := "ytmoomnpbiifedaagreat", sum := "91158baeef87c0b5d0c55d1fbe250ef454375a0879eda78f2b6d927a7d82c1bd", func := "concordance/concordancelaw10.SegmentBuilds", spec := "segmentBuilds", inPlace := ["internal/abi.NoEscape"], unfollowed := true, recurses := true, plainKeys := false, apart := false, narrowed := true }
def SegmentBuildsUptoSaid : Prop := segmentBuildsUptoRow.holds Tryz.pinned (OpenSpec.upto segmentBuildsSpec)

/-- 'concordancelaw10.SegmentSame', WHERE WHAT IT READS IS OF BULK AT MOST 1048576: true; the input reads as it did. -/
def segmentSameUptoRow : OpenClaim := { program := "ytmoomnpbiifedaagreat", sum := "91158baeef87c0b5d0c55d1fbe250ef454375a0879eda78f2b6d927a7d82c1bd", func := "concordance/concordancelaw10.SegmentSame", spec := "segmentSame", inPlace := ["internal/abi.NoEscape"], unfollowed := true, recurses := true, plainKeys := false, apart := false, narrowed := true }
def SegmentSameUptoSaid : Prop := segmentSameUptoRow.holds Tryz.pinned (OpenSpec.upto segmentSameSpec)

/-- 'concordancelaw10.SegmentAbove', WHERE WHAT IT READS IS OF BULK AT MOST 1048576: true; the input reads as it did. -/
def segmentAboveUptoRow : OpenClaim := { program := "ytmoomnpbiifedaagreat", sum := "91158baeef87c0b5d0c55d1fbe250ef454375a0879eda78f2b6d927a7d82c1bd", func := "concordance/concordancelaw10.SegmentAbove", spec := "segmentAbove", inPlace := ["internal/abi.NoEscape"], unfollowed := true, recurses := true, plainKeys := false, apart := false, narrowed := true }
def SegmentAboveUptoSaid : Prop := segmentAboveUptoRow.holds Tryz.pinned (OpenSpec.upto segmentAboveSpec)

end Rows
end Go.Proofs.YtmoomnpbiifedaaGreat
