/-
  No cell of these rows narrows 'for every input' (looked for: loops, veiled, ifaces, maps, wideKeys, modest, calm, conditions, laid).
  DERIVED. THE GIVEN ROWS OF THIS SEAT. 5 by the template 'for every input the law returns true; each argument reads behind the call as it read before'; 0 by the template 'total and deterministic' (their statements: YtnmnbckaccicaaaTotals.lean).
  GIVEN WITH THE SEED: the statements are not yours to turn. If you find one false, say at which input.
  Laid BY PROGRAM, IN A SANDBOX (cutbox-rows.mjs): the forced cells as the released guide's own fill.sh prints them over the translation 53a87576689b7d57… (all of the seat's roots in one cut). By AI agents, Wed Nov 11 2026. No macro, syntax, notation, axiom, sorry.
-/
import Derived.Test.YtnmnbckaccicaaaChecked
import GoSem.Claim
import GoSem.ClaimJoined
import GoSem.ClaimMapViews
import Derived.JoinedTies
import Derived.KernelRfl
namespace Go.Proofs.Ytnmnbckaccicaaa
/- THE CELL 'sum', in the pinned program and in every row, IS THE sha256 OF THE DUMP (.gsa) THAT YtnmnbckaccicaaaProg.lean LOADS. Nothing in Lean hashes anything: it is a label: what it is worth is what the hold of that sum in a sandbox is worth. -/
noncomputable def Try.pinned : Pinned := { name := "ytnmnbckaccicaaa", sum := "53a87576689b7d570f51f206f09d55f1c4b55a21ba745a90130cd954a84530dc", checked := Try.checked }
namespace Rows
def none {H : Type} : Left H := { results := [], args := [] }

/-- 'concordancelaw06.CursorPlays': WHATEVER THE INPUT: true; the input reads as it did. -/
def cursorPlaysSpec : ChangeSpec := { name := "cursorPlays", fn := fun _ => fun
  | [d1, d2] => { results := [.lit (.bool true)], args := [d1, d2] }
  | _ => none }
def cursorPlaysRow : OpenClaim := { program := "ytnmnbckaccicaaa", sum := "53a87576689b7d570f51f206f09d55f1c4b55a21ba745a90130cd954a84530dc", func := "concordance/concordancelaw06.CursorPlays", spec := "cursorPlays", unfollowed := true, recurses := true, apart := false }
def CursorPlaysSaid : Prop := cursorPlaysRow.holds Try.pinned (OpenSpec.ofChange cursorPlaysSpec)

/-- ITS FALSE NEIGHBOUR: 'it returns false'. Refute it at one input. -/
def cursorPlaysWrong : ChangeSpec := { name := "cursorPlays", fn := fun _ => fun
  | [d1, d2] => { results := [.lit (.bool false)], args := [d1, d2] }
  | _ => none }
def CursorPlaysWrongFalsely : Prop := cursorPlaysRow.holds Try.pinned (OpenSpec.ofChange cursorPlaysWrong)

/-- 'concordancelaw06.CursorAll': WHATEVER THE INPUT: true; the input reads as it did. -/
def cursorAllSpec : ChangeSpec := { name := "cursorAll", fn := fun _ => fun
  | [d1, d2] => { results := [.lit (.bool true)], args := [d1, d2] }
  | _ => none }
def cursorAllRow : OpenClaim := { program := "ytnmnbckaccicaaa", sum := "53a87576689b7d570f51f206f09d55f1c4b55a21ba745a90130cd954a84530dc", func := "concordance/concordancelaw06.CursorAll", spec := "cursorAll", unfollowed := true, recurses := true, apart := false }
def CursorAllSaid : Prop := cursorAllRow.holds Try.pinned (OpenSpec.ofChange cursorAllSpec)

/-- ITS FALSE NEIGHBOUR: 'it returns false'. Refute it at one input. -/
def cursorAllWrong : ChangeSpec := { name := "cursorAll", fn := fun _ => fun
  | [d1, d2] => { results := [.lit (.bool false)], args := [d1, d2] }
  | _ => none }
def CursorAllWrongFalsely : Prop := cursorAllRow.holds Try.pinned (OpenSpec.ofChange cursorAllWrong)

/-- 'concordancelaw06.CursorBoth': WHATEVER THE INPUT: true; the input reads as it did. -/
def cursorBothSpec : ChangeSpec := { name := "cursorBoth", fn := fun _ => fun
  | [d1, d2] => { results := [.lit (.bool true)], args := [d1, d2] }
  | _ => none }
def cursorBothRow : OpenClaim := { program := "ytnmnbckaccicaaa", sum := "53a87576689b7d570f51f206f09d55f1c4b55a21ba745a90130cd954a84530dc", func := "concordance/concordancelaw06.CursorBoth", spec := "cursorBoth", unfollowed := true, recurses := true, apart := false }
def CursorBothSaid : Prop := cursorBothRow.holds Try.pinned (OpenSpec.ofChange cursorBothSpec)

/-- ITS FALSE NEIGHBOUR: 'it returns false'. Refute it at one input. -/
def cursorBothWrong : ChangeSpec := { name := "cursorBoth", fn := fun _ => fun
  | [d1, d2] => { results := [.lit (.bool false)], args := [d1, d2] }
  | _ => none }
def CursorBothWrongFalsely : Prop := cursorBothRow.holds Try.pinned (OpenSpec.ofChange cursorBothWrong)

/-- 'concordancelaw06.CursorLeads': WHATEVER THE INPUT: true; the input reads as it did. -/
def cursorLeadsSpec : ChangeSpec := { name := "cursorLeads", fn := fun _ => fun
  | [d1, d2] => { results := [.lit (.bool true)], args := [d1, d2] }
  | _ => none }
def cursorLeadsRow : OpenClaim := { program := "ytnmnbckaccicaaa", sum := "53a87576689b7d570f51f206f09d55f1c4b55a21ba745a90130cd954a84530dc", func := "concordance/concordancelaw06.CursorLeads", spec := "cursorLeads", unfollowed := true, recurses := true, apart := false }
def CursorLeadsSaid : Prop := cursorLeadsRow.holds Try.pinned (OpenSpec.ofChange cursorLeadsSpec)

/-- ITS FALSE NEIGHBOUR: 'it returns false'. Refute it at one input. -/
def cursorLeadsWrong : ChangeSpec := { name := "cursorLeads", fn := fun _ => fun
  | [d1, d2] => { results := [.lit (.bool false)], args := [d1, d2] }
  | _ => none }
def CursorLeadsWrongFalsely : Prop := cursorLeadsRow.holds Try.pinned (OpenSpec.ofChange cursorLeadsWrong)

/-- 'concordancelaw06.CursorAlike': WHATEVER THE INPUT: true; the input reads as it did. -/
def cursorAlikeSpec : ChangeSpec := { name := "cursorAlike", fn := fun _ => fun
  | [d1, d2] => { results := [.lit (.bool true)], args := [d1, d2] }
  | _ => none }
def cursorAlikeRow : OpenClaim := { program := "ytnmnbckaccicaaa", sum := "53a87576689b7d570f51f206f09d55f1c4b55a21ba745a90130cd954a84530dc", func := "concordance/concordancelaw06.CursorAlike", spec := "cursorAlike", unfollowed := true, recurses := true, apart := false }
def CursorAlikeSaid : Prop := cursorAlikeRow.holds Try.pinned (OpenSpec.ofChange cursorAlikeSpec)

/-- ITS FALSE NEIGHBOUR: 'it returns false'. Refute it at one input. -/
def cursorAlikeWrong : ChangeSpec := { name := "cursorAlike", fn := fun _ => fun
  | [d1, d2] => { results := [.lit (.bool false)], args := [d1, d2] }
  | _ => none }
def CursorAlikeWrongFalsely : Prop := cursorAlikeRow.holds Try.pinned (OpenSpec.ofChange cursorAlikeWrong)

/- THE SECOND FORM. 'bulk': how many values and letters a reading holds, each counted each time it is reached (what is shared counts as often as it is met; a slice's spare places count too). A statement '..UptoSaid' is the law's where the arguments, and the package variables that the reading takes, are together of bulk at most 1048576: NARROWER than '..Said'. Prove '..Said' where nothing that the law and all that it calls make is longer than what came in: it says more and counts as full. Else prove '..UptoSaid'. A law counts once. -/
mutual
def uptoBulk {H : Type} : DataW H → Nat
  | .lit (.string bytes) => bytes.length + 1
  | .lit _ => 1
  | .nil => 1
  | .ptr d => uptoBulk d + 1
  | .slice elems spare => uptoBulkAll elems + uptoBulkAll spare + 1
  | .agg parts => uptoBulkAll parts + 1
  | .iface _ d => uptoBulk d + 1
  | .map entries => uptoBulkEntries entries + 1
  | .held _ => 1
def uptoBulkAll {H : Type} : List (DataW H) → Nat
  | [] => 0
  | d :: r => uptoBulk d + uptoBulkAll r
def uptoBulkEntries {H : Type} : List (Lit × DataW H) → Nat
  | [] => 0
  | x :: r => uptoBulkEntry x + uptoBulkEntries r
def uptoBulkEntry {H : Type} : Lit × DataW H → Nat
  | (.string bytes, d) => bytes.length + uptoBulk d + 1
  | (_, d) => uptoBulk d + 1
 end
def uptoSmall : (H : Type) → List (DataW H) → Bool := fun _ ds => decide (uptoBulkAll ds ≤ 1048576)
def OpenSpec.upto (s : _root_.Go.ChangeSpec) : _root_.Go.OpenSpec := { _root_.Go.OpenSpec.ofChange s with cond := some uptoSmall }

/-- 'concordancelaw06.CursorPlays', WHERE WHAT IT READS IS OF BULK AT MOST 1048576: true; the input reads as it did. -/
def cursorPlaysUptoRow : OpenClaim := { program := "ytnmnbckaccicaaa", sum := "53a87576689b7d570f51f206f09d55f1c4b55a21ba745a90130cd954a84530dc", func := "concordance/concordancelaw06.CursorPlays", spec := "cursorPlays", unfollowed := true, recurses := true, apart := false, narrowed := true }
def CursorPlaysUptoSaid : Prop := cursorPlaysUptoRow.holds Try.pinned (OpenSpec.upto cursorPlaysSpec)

/-- 'concordancelaw06.CursorAll', WHERE WHAT IT READS IS OF BULK AT MOST 1048576: true; the input reads as it did. -/
def cursorAllUptoRow : OpenClaim := { program := "ytnmnbckaccicaaa", sum := "53a87576689b7d570f51f206f09d55f1c4b55a21ba745a90130cd954a84530dc", func := "concordance/concordancelaw06.CursorAll", spec := "cursorAll", unfollowed := true, recurses := true, apart := false, narrowed := true }
def CursorAllUptoSaid : Prop := cursorAllUptoRow.holds Try.pinned (OpenSpec.upto cursorAllSpec)

/-- 'concordancelaw06.CursorBoth', WHERE WHAT IT READS IS OF BULK AT MOST 1048576: true; the input reads as it did. -/
def cursorBothUptoRow : OpenClaim := { program := "ytnmnbckaccicaaa", sum := "53a87576689b7d570f51f206f09d55f1c4b55a21ba745a90130cd954a84530dc", func := "concordance/concordancelaw06.CursorBoth", spec := "cursorBoth", unfollowed := true, recurses := true, apart := false, narrowed := true }
def CursorBothUptoSaid : Prop := cursorBothUptoRow.holds Try.pinned (OpenSpec.upto cursorBothSpec)

/-- 'concordancelaw06.CursorLeads', WHERE WHAT IT READS IS OF BULK AT MOST 1048576: true; the input reads as it did. -/
def cursorLeadsUptoRow : OpenClaim := { program := "ytnmnbckaccicaaa", sum := "53a87576689b7d570f51f206f09d55f1c4b55a21ba745a90130cd954a84530dc", func := "concordance/concordancelaw06.CursorLeads", spec := "cursorLeads", unfollowed := true, recurses := true, apart := false, narrowed := true }
def CursorLeadsUptoSaid : Prop := cursorLeadsUptoRow.holds Try.pinned (OpenSpec.upto cursorLeadsSpec)

/-- 'concordancelaw06.CursorAlike', WHERE WHAT IT READS IS OF BULK AT MOST 1048576: true; the input reads as it did. -/
def cursorAlikeUptoRow : OpenClaim := { program := "ytnmnbckaccicaaa", sum := "53a87576689b7d570f51f206f09d55f1c4b55a21ba745a90130cd954a84530dc", func := "concordance/concordancelaw06.CursorAlike", spec := "cursorAlike", unfollowed := true, recurses := true, apart := false, narrowed := true }
def CursorAlikeUptoSaid : Prop := cursorAlikeUptoRow.holds Try.pinned (OpenSpec.upto cursorAlikeSpec)

end Rows
end Go.Proofs.Ytnmnbckaccicaaa
