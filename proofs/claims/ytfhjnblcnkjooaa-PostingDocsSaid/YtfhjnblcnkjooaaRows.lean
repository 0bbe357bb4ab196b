/-
  No cell of these rows narrows 'for every input' (looked for: loops, veiled, ifaces, maps, wideKeys, modest, calm, conditions, laid).
  DERIVED. THE GIVEN ROWS OF THIS SEAT. 5 by the template 'for every input the law returns true; each argument reads behind the call as it read before'; 0 by the template 'total and deterministic' (their statements: YtfhjnblcnkjooaaTotals.lean).
  GIVEN WITH THE SEED: the statements are not yours to turn. If you find one false, say at which input.
  Laid BY PROGRAM, IN A SANDBOX (cutbox-rows.mjs): the forced cells as the released guide's own fill.sh prints them over the translation 4e946df9b8495d05… (all of the seat's roots in one cut). By AI agents, Wed Nov 11 2026. No macro, syntax, notation, axiom, sorry.
-/
import Derived.Test.YtfhjnblcnkjooaaChecked
import GoSem.Claim
import GoSem.ClaimJoined
import GoSem.ClaimMapViews
import Derived.JoinedTies
import Derived.KernelRfl
namespace Go.Proofs.Ytfhjnblcnkjooaa
/- THE CELL 'sum', in the pinned program and in every row, IS THE sha256 OF THE DUMP (.gsa) THAT YtfhjnblcnkjooaaProg.lean LOADS. Nothing in Lean hashes anything: it is a label: what it is worth is what the hold of that sum in a sandbox is worth. -/
noncomputable def Try.pinned : Pinned := { name := "ytfhjnblcnkjooaa", sum := "4e946df9b8495d05aa72255a585b3ba723d6c45e9f5439ae986485674eb50df1", checked := Try.checked }
namespace Rows
def none {H : Type} : Left H := { results := [], args := [] }

/-- 'concordancelaw05.PostingMakes': WHATEVER THE INPUT: true; the input reads as it did. -/
def postingMakesSpec : ChangeSpec := { name := "postingMakes", fn := fun _ => fun
  | [d] => { results := [.lit (.bool true)], args := [d] }
  | _ => none }
def postingMakesRow : OpenClaim := { program := "ytfhjnblcnkjooaa", sum := "4e946df9b8495d05aa72255a585b3ba723d6c45e9f5439ae986485674eb50df1", func := "concordance/concordancelaw05.PostingMakes", spec := "postingMakes", unfollowed := true, recurses := true, apart := false }
def PostingMakesSaid : Prop := postingMakesRow.holds Try.pinned (OpenSpec.ofChange postingMakesSpec)

/-- ITS FALSE NEIGHBOUR: 'it returns false'. Refute it at one input. -/
def postingMakesWrong : ChangeSpec := { name := "postingMakes", fn := fun _ => fun
  | [d] => { results := [.lit (.bool false)], args := [d] }
  | _ => none }
def PostingMakesWrongFalsely : Prop := postingMakesRow.holds Try.pinned (OpenSpec.ofChange postingMakesWrong)

/-- 'concordancelaw05.PostingReads': WHATEVER THE INPUT: true; the input reads as it did. -/
def postingReadsSpec : ChangeSpec := { name := "postingReads", fn := fun _ => fun
  | [d1, d2] => { results := [.lit (.bool true)], args := [d1, d2] }
  | _ => none }
def postingReadsRow : OpenClaim := { program := "ytfhjnblcnkjooaa", sum := "4e946df9b8495d05aa72255a585b3ba723d6c45e9f5439ae986485674eb50df1", func := "concordance/concordancelaw05.PostingReads", spec := "postingReads", unfollowed := true, recurses := true, apart := false }
def PostingReadsSaid : Prop := postingReadsRow.holds Try.pinned (OpenSpec.ofChange postingReadsSpec)

/-- ITS FALSE NEIGHBOUR: 'it returns false'. Refute it at one input. -/
def postingReadsWrong : ChangeSpec := { name := "postingReads", fn := fun _ => fun
  | [d1, d2] => { results := [.lit (.bool false)], args := [d1, d2] }
  | _ => none }
def PostingReadsWrongFalsely : Prop := postingReadsRow.holds Try.pinned (OpenSpec.ofChange postingReadsWrong)

/-- 'concordancelaw05.PostingRound': WHATEVER THE INPUT: true; the input reads as it did. -/
def postingRoundSpec : ChangeSpec := { name := "postingRound", fn := fun _ => fun
  | [d1, d2] => { results := [.lit (.bool true)], args := [d1, d2] }
  | _ => none }
def postingRoundRow : OpenClaim := { program := "ytfhjnblcnkjooaa", sum := "4e946df9b8495d05aa72255a585b3ba723d6c45e9f5439ae986485674eb50df1", func := "concordance/concordancelaw05.PostingRound", spec := "postingRound", unfollowed := true, recurses := true, apart := false }
def PostingRoundSaid : Prop := postingRoundRow.holds Try.pinned (OpenSpec.ofChange postingRoundSpec)

/-- ITS FALSE NEIGHBOUR: 'it returns false'. Refute it at one input. -/
def postingRoundWrong : ChangeSpec := { name := "postingRound", fn := fun _ => fun
  | [d1, d2] => { results := [.lit (.bool false)], args := [d1, d2] }
  | _ => none }
def PostingRoundWrongFalsely : Prop := postingRoundRow.holds Try.pinned (OpenSpec.ofChange postingRoundWrong)

/-- 'concordancelaw05.PostingDocs': WHATEVER THE INPUT: true; the input reads as it did. -/
def postingDocsSpec : ChangeSpec := { name := "postingDocs", fn := fun _ => fun
  | [d] => { results := [.lit (.bool true)], args := [d] }
  | _ => none }
def postingDocsRow : OpenClaim := { program := "ytfhjnblcnkjooaa", sum := "4e946df9b8495d05aa72255a585b3ba723d6c45e9f5439ae986485674eb50df1", func := "concordance/concordancelaw05.PostingDocs", spec := "postingDocs", unfollowed := true, recurses := true, apart := false }
def PostingDocsSaid : Prop := postingDocsRow.holds Try.pinned (OpenSpec.ofChange postingDocsSpec)

/-- ITS FALSE NEIGHBOUR: 'it returns false'. Refute it at one input. -/
def postingDocsWrong : ChangeSpec := { name := "postingDocs", fn := fun _ => fun
  | [d] => { results := [.lit (.bool false)], args := [d] }
  | _ => none }
def PostingDocsWrongFalsely : Prop := postingDocsRow.holds Try.pinned (OpenSpec.ofChange postingDocsWrong)

/-- 'concordancelaw05.PostingBlocks': WHATEVER THE INPUT: true; the input reads as it did. -/
def postingBlocksSpec : ChangeSpec := { name := "postingBlocks", fn := fun _ => fun
  | [d] => { results := [.lit (.bool true)], args := [d] }
  | _ => none }
def postingBlocksRow : OpenClaim := { program := "ytfhjnblcnkjooaa", sum := "4e946df9b8495d05aa72255a585b3ba723d6c45e9f5439ae986485674eb50df1", func := "concordance/concordancelaw05.PostingBlocks", spec := "postingBlocks", unfollowed := true, recurses := true, apart := false }
def PostingBlocksSaid : Prop := postingBlocksRow.holds Try.pinned (OpenSpec.ofChange postingBlocksSpec)

/-- ITS FALSE NEIGHBOUR: 'it returns false'. Refute it at one input. -/
def postingBlocksWrong : ChangeSpec := { name := "postingBlocks", fn := fun _ => fun
  | [d] => { results := [.lit (.bool false)], args := [d] }
  | _ => none }
def PostingBlocksWrongFalsely : Prop := postingBlocksRow.holds Try.pinned (OpenSpec.ofChange postingBlocksWrong)

/- THE SECOND FORM. 'bulk': how many values and letters a reading holds, each counted each time it is reached (what is shared counts as often as it is met; a slice's spare places count too). A statement '..UptoSaid' is the law's where the arguments, and the package variables that the reading takes, are together of bulk at most 1048576: NARROWER than '..Said'. Prove '..Said' where nothing that the law and all that it calls make is longer than what came in: it says more and counts as full. Else prove '..UptoSaid'. A law counts once. -/
mutual
def uptoBulk {H : Type} : DataW H → Nat
  | .lit (.string bytes) => bytes.length + 1
  | .lit _ => 1
  | .nil => 1
  | .ptr d => uptoBulk d + 1
  | .slice elems spare => uptoBulkAll elems + uptoBulkAll spare + 1
  | .agg parts => uptoBulkAll parts + 1
  | .iface _ d => uptoBulk d + 1
  | .map entries => uptoBulkEntries entries + 1
  | .held _ => 1
def uptoBulkAll {H : Type} : List (DataW H) → Nat
  | [] => 0
  | d :: r => uptoBulk d + uptoBulkAll r
def uptoBulkEntries {H : Type} : List (Lit × DataW H) → Nat
  | [] => 0
  | x :: r => uptoBulkEntry x + uptoBulkEntries r
def uptoBulkEntry {H : Type} : Lit × DataW H → Nat
  | (.string bytes, d) => bytes.length + uptoBulk d + 1
  | (_, d) => uptoBulk d + 1
 end
def uptoSmall : (H : Type) → List (DataW H) → Bool := fun _ ds => decide (uptoBulkAll ds ≤ 1048576)
def OpenSpec.upto (s : _root_.Go.ChangeSpec) : _root_.Go.OpenSpec := { _root_.Go.OpenSpec.ofChange s with cond := some uptoSmall }

/-- 'concordancelaw05.PostingMakes', WHERE WHAT IT READS IS OF BULK AT MOST 1048576: true; the input reads as it did. -/
def postingMakesUptoRow : OpenClaim := { program := "ytfhjnblcnkjooaa", sum := "4e946df9b8495d05aa72255a585b3ba723d6c45e9f5439ae986485674eb50df1", func := "concordance/concordancelaw05.PostingMakes", spec := "postingMakes", unfollowed := true, recurses := true, apart := false, narrowed := true }
def PostingMakesUptoSaid : Prop := postingMakesUptoRow.holds Try.pinned (OpenSpec.upto postingMakesSpec)

/-- 'concordancelaw05.PostingReads', WHERE WHAT IT READS IS OF BULK AT MOST 1048576: true; the input reads as it did. -/
def postingReadsUptoRow : OpenClaim := { program := "ytfhjnblcnkjooaa", sum := "4e946df9b8495d05aa72255a585b3ba723d6c45e9f5439ae986485674eb50df1", func := "concordance/concordancelaw05.PostingReads", spec := "postingReads", unfollowed := true, recurses := true, apart := false, narrowed := true }
def PostingReadsUptoSaid : Prop := postingReadsUptoRow.holds Try.pinned (OpenSpec.upto postingReadsSpec)

/-- 'concordancelaw05.PostingRound', WHERE WHAT IT READS IS OF BULK AT MOST 1048576: true; the input reads as it did. -/
def postingRoundUptoRow : OpenClaim := { program := "ytfhjnblcnkjooaa", sum := "4e946df9b8495d05aa72255a585b3ba723d6c45e9f5439ae986485674eb50df1", func := "concordance/concordancelaw05.PostingRound", spec := "postingRound", unfollowed := true, recurses := true, apart := false, narrowed := true }
def PostingRoundUptoSaid : Prop := postingRoundUptoRow.holds Try.pinned (OpenSpec.upto postingRoundSpec)

/-- 'concordancelaw05.PostingDocs', WHERE WHAT IT READS IS OF BULK AT MOST 1048576: true; the input reads as it did. -/
def postingDocsUptoRow : OpenClaim := { program := "ytfhjnblcnkjooaa", sum := "4e946df9b8495d05aa72255a585b3ba723d6c45e9f5439ae986485674eb50df1", func := "concordance/concordancelaw05.PostingDocs", spec := "postingDocs", unfollowed := true, recurses := true, apart := false, narrowed := true }
def PostingDocsUptoSaid : Prop := postingDocsUptoRow.holds Try.pinned (OpenSpec.upto postingDocsSpec)

/-- 'concordancelaw05.PostingBlocks', WHERE WHAT IT READS IS OF BULK AT MOST 1048576: true; the input reads as it did. -/
def postingBlocksUptoRow : OpenClaim := { program := "ytfhjnblcnkjooaa", sum := "4e946df9b8495d05aa72255a585b3ba723d6c45e9f5439ae986485674eb50df1", func := "concordance/concordancelaw05.PostingBlocks", spec := "postingBlocks", unfollowed := true, recurses := true, apart := false, narrowed := true }
def PostingBlocksUptoSaid : Prop := postingBlocksUptoRow.holds Try.pinned (OpenSpec.upto postingBlocksSpec)

end Rows
end Go.Proofs.Ytfhjnblcnkjooaa
