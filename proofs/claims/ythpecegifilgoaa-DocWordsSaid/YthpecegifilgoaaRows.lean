/-
  No cell of these rows narrows 'for every input' (looked for: loops, veiled, ifaces, maps, wideKeys, modest, calm, conditions, laid).
  DERIVED. THE GIVEN ROWS OF THIS SEAT. 6 by the template 'for every input the law returns true; each argument reads behind the call as it read before'; 0 by the template 'total and deterministic' (their statements: YthpecegifilgoaaTotals.lean).
  GIVEN WITH THE SEED: the statements are not yours to turn. If you find one false, say at which input.
  Laid BY PROGRAM, IN A SANDBOX (cutbox-rows.mjs): the forced cells as the released guide's own fill.sh prints them over the translation db12002ca23fb7f0… (all of the seat's roots in one cut). By AI agents, Wed Nov 11 2026. No macro, syntax, notation, axiom, sorry.
-/
import Derived.Test.YthpecegifilgoaaChecked
import GoSem.Claim
import GoSem.ClaimJoined
import GoSem.ClaimMapViews
import Derived.JoinedTies
import Derived.KernelRfl
namespace Go.Proofs.Ythpecegifilgoaa
/- THE CELL 'sum', in the pinned program and in every row, IS THE sha256 OF THE DUMP (.gsa) THAT YthpecegifilgoaaProg.lean LOADS. Nothing in Lean hashes anything: it is a label: what it is worth is what the hold of that sum in a sandbox is worth. -/
noncomputable def Try.pinned : Pinned := { name := "ythpecegifilgoaa", sum := "db12002ca23fb7f0b3ffc102c80ff9882cd5c2cc32a7088074f48e1d0aa548ae", checked := Try.checked }
namespace Rows
def none {H : Type} : Left H := { results := [], args := [] }

/-- 'concordancelaw08.DocMay': WHATEVER THE INPUT: true; the input reads as it did. -/
def docMaySpec : ChangeSpec := { name := "docMay", fn := fun _ => fun
  | [d1, d2, d3] => { results := [.lit (.bool true)], args := [d1, d2, d3] }
  | _ => none }
def docMayRow : OpenClaim := { program := "ythpecegifilgoaa", sum := "db12002ca23fb7f0b3ffc102c80ff9882cd5c2cc32a7088074f48e1d0aa548ae", func := "concordance/concordancelaw08.DocMay", spec := "docMay", inPlace := ["internal/abi.NoEscape"], unfollowed := true, recurses := true, plainKeys := false, apart := false }
def DocMaySaid : Prop := docMayRow.holds Try.pinned (OpenSpec.ofChange docMaySpec)

/-- ITS FALSE NEIGHBOUR: 'it returns false'. Refute it at one input. -/
def docMayWrong : ChangeSpec := { name := "docMay", fn := fun _ => fun
  | [d1, d2, d3] => { results := [.lit (.bool false)], args := [d1, d2, d3] }
  | _ => none }
def DocMayWrongFalsely : Prop := docMayRow.holds Try.pinned (OpenSpec.ofChange docMayWrong)

/-- 'concordancelaw08.DocWords': WHATEVER THE INPUT: true; the input reads as it did. -/
def docWordsSpec : ChangeSpec := { name := "docWords", fn := fun _ => fun
  | [d1, d2] => { results := [.lit (.bool true)], args := [d1, d2] }
  | _ => none }
def docWordsRow : OpenClaim := { program := "ythpecegifilgoaa", sum := "db12002ca23fb7f0b3ffc102c80ff9882cd5c2cc32a7088074f48e1d0aa548ae", func := "concordance/concordancelaw08.DocWords", spec := "docWords", inPlace := ["internal/abi.NoEscape"], unfollowed := true, recurses := true, plainKeys := false, apart := false }
def DocWordsSaid : Prop := docWordsRow.holds Try.pinned (OpenSpec.ofChange docWordsSpec)

/-- ITS FALSE NEIGHBOUR: 'it returns false'. Refute it at one input. -/
def docWordsWrong : ChangeSpec := { name := "docWords", fn := fun _ => fun
  | [d1, d2] => { results := [.lit (.bool false)], args := [d1, d2] }
  | _ => none }
def DocWordsWrongFalsely : Prop := docWordsRow.holds Try.pinned (OpenSpec.ofChange docWordsWrong)

/-- 'concordancelaw08.DocInverts': WHATEVER THE INPUT: true; the input reads as it did. -/
def docInvertsSpec : ChangeSpec := { name := "docInverts", fn := fun _ => fun
  | [d] => { results := [.lit (.bool true)], args := [d] }
  | _ => none }
def docInvertsRow : OpenClaim := { program := "ythpecegifilgoaa", sum := "db12002ca23fb7f0b3ffc102c80ff9882cd5c2cc32a7088074f48e1d0aa548ae", func := "concordance/concordancelaw08.DocInverts", spec := "docInverts", inPlace := ["internal/abi.NoEscape"], unfollowed := true, recurses := true, plainKeys := false, apart := false }
def DocInvertsSaid : Prop := docInvertsRow.holds Try.pinned (OpenSpec.ofChange docInvertsSpec)

/-- ITS FALSE NEIGHBOUR: 'it returns false'. Refute it at one input. -/
def docInvertsWrong : ChangeSpec := { name := "docInverts", fn := fun _ => fun
  | [d] => { results := [.lit (.bool false)], args := [d] }
  | _ => none }
def DocInvertsWrongFalsely : Prop := docInvertsRow.holds Try.pinned (OpenSpec.ofChange docInvertsWrong)

/-- 'concordancelaw08.DocCounts': WHATEVER THE INPUT: true; the input reads as it did. -/
def docCountsSpec : ChangeSpec := { name := "docCounts", fn := fun _ => fun
  | [d1, d2, d3] => { results := [.lit (.bool true)], args := [d1, d2, d3] }
  | _ => none }
def docCountsRow : OpenClaim := { program := "ythpecegifilgoaa", sum := "db12002ca23fb7f0b3ffc102c80ff9882cd5c2cc32a7088074f48e1d0aa548ae", func := "concordance/concordancelaw08.DocCounts", spec := "docCounts", inPlace := ["internal/abi.NoEscape"], unfollowed := true, recurses := true, plainKeys := false, apart := false }
def DocCountsSaid : Prop := docCountsRow.holds Try.pinned (OpenSpec.ofChange docCountsSpec)

/-- ITS FALSE NEIGHBOUR: 'it returns false'. Refute it at one input. -/
def docCountsWrong : ChangeSpec := { name := "docCounts", fn := fun _ => fun
  | [d1, d2, d3] => { results := [.lit (.bool false)], args := [d1, d2, d3] }
  | _ => none }
def DocCountsWrongFalsely : Prop := docCountsRow.holds Try.pinned (OpenSpec.ofChange docCountsWrong)

/-- 'concordancelaw08.DocPhrases': WHATEVER THE INPUT: true; the input reads as it did. -/
def docPhrasesSpec : ChangeSpec := { name := "docPhrases", fn := fun _ => fun
  | [d1, d2, d3] => { results := [.lit (.bool true)], args := [d1, d2, d3] }
  | _ => none }
def docPhrasesRow : OpenClaim := { program := "ythpecegifilgoaa", sum := "db12002ca23fb7f0b3ffc102c80ff9882cd5c2cc32a7088074f48e1d0aa548ae", func := "concordance/concordancelaw08.DocPhrases", spec := "docPhrases", inPlace := ["internal/abi.NoEscape"], unfollowed := true, recurses := true, plainKeys := false, apart := false }
def DocPhrasesSaid : Prop := docPhrasesRow.holds Try.pinned (OpenSpec.ofChange docPhrasesSpec)

/-- ITS FALSE NEIGHBOUR: 'it returns false'. Refute it at one input. -/
def docPhrasesWrong : ChangeSpec := { name := "docPhrases", fn := fun _ => fun
  | [d1, d2, d3] => { results := [.lit (.bool false)], args := [d1, d2, d3] }
  | _ => none }
def DocPhrasesWrongFalsely : Prop := docPhrasesRow.holds Try.pinned (OpenSpec.ofChange docPhrasesWrong)

/-- 'concordancelaw08.DocFields': WHATEVER THE INPUT: true; the input reads as it did. -/
def docFieldsSpec : ChangeSpec := { name := "docFields", fn := fun _ => fun
  | [d1, d2] => { results := [.lit (.bool true)], args := [d1, d2] }
  | _ => none }
def docFieldsRow : OpenClaim := { program := "ythpecegifilgoaa", sum := "db12002ca23fb7f0b3ffc102c80ff9882cd5c2cc32a7088074f48e1d0aa548ae", func := "concordance/concordancelaw08.DocFields", spec := "docFields", inPlace := ["internal/abi.NoEscape"], unfollowed := true, recurses := true, plainKeys := false, apart := false }
def DocFieldsSaid : Prop := docFieldsRow.holds Try.pinned (OpenSpec.ofChange docFieldsSpec)

/-- ITS FALSE NEIGHBOUR: 'it returns false'. Refute it at one input. -/
def docFieldsWrong : ChangeSpec := { name := "docFields", fn := fun _ => fun
  | [d1, d2] => { results := [.lit (.bool false)], args := [d1, d2] }
  | _ => none }
def DocFieldsWrongFalsely : Prop := docFieldsRow.holds Try.pinned (OpenSpec.ofChange docFieldsWrong)

/- THE SECOND FORM. 'bulk': how many values and letters a reading holds, each counted each time it is reached (what is shared counts as often as it is met; a slice's spare places count too). A statement '..UptoSaid' is the law's where the arguments, and the package variables that the reading takes, are together of bulk at most 1048576: NARROWER than '..Said'. Prove '..Said' where nothing that the law and all that it calls make is longer than what came in: it says more and counts as full. Else prove '..UptoSaid'. A law counts once. -/
mutual
def uptoBulk {H : Type} : DataW H → Nat
  | .lit (.string bytes) => bytes.length + 1
  | .lit _ => 1
  | .nil => 1
  | .ptr d => uptoBulk d + 1
  | .slice elems spare => uptoBulkAll elems + uptoBulkAll spare + 1
  | .agg parts => uptoBulkAll parts + 1
  | .iface _ d => uptoBulk d + 1
  | .map entries => uptoBulkEntries entries + 1
  | .held _ => 1
def uptoBulkAll {H : Type} : List (DataW H) → Nat
  | [] => 0
  | d :: r => uptoBulk d + uptoBulkAll r
def uptoBulkEntries {H : Type} : List (Lit × DataW H) → Nat
  | [] => 0
  | x :: r => uptoBulkEntry x + uptoBulkEntries r
def uptoBulkEntry {H : Type} : Lit × DataW H → Nat
  | (.string bytes, d) => bytes.length + uptoBulk d + 1
  | (_, d) => uptoBulk d + 1
 end
def uptoSmall : (H : Type) → List (DataW H) → Bool := fun _ ds => decide (uptoBulkAll ds ≤ 1048576)
def OpenSpec.upto (s : _root_.Go.ChangeSpec) : _root_.Go.OpenSpec := { _root_.Go.OpenSpec.ofChange s with cond := some uptoSmall }

/-- 'concordancelaw08.DocMay', WHERE WHAT IT READS IS OF BULK AT MOST 1048576: true; the input reads as it did. -/
def docMayUptoRow : OpenClaim := { program := "ythpecegifilgoaa", sum := "db12002ca23fb7f0b3ffc102c80ff9882cd5c2cc32a7088074f48e1d0aa548ae", func := "concordance/concordancelaw08.DocMay", spec := "docMay", inPlace := ["internal/abi.NoEscape"], unfollowed := true, recurses := true, plainKeys := false, apart := false, narrowed := true }
def DocMayUptoSaid : Prop := docMayUptoRow.holds Try.pinned (OpenSpec.upto docMaySpec)

/-- 'concordancelaw08.DocWords', WHERE WHAT IT READS IS OF BULK AT MOST 1048576: true; the input reads as it did. -/
def docWordsUptoRow : OpenClaim := { program := "ythpecegifilgoaa", sum := "db12002ca23fb7f0b3ffc102c80ff9882cd5c2cc32a7088074f48e1d0aa548ae", func := "concordance/concordancelaw08.DocWords", spec := "docWords", inPlace := ["internal/abi.NoEscape"], unfollowed := true, recurses := true, plainKeys := false, apart := false, narrowed := true }
def DocWordsUptoSaid : Prop := docWordsUptoRow.holds Try.pinned (OpenSpec.upto docWordsSpec)

/-- 'concordancelaw08.DocInverts', WHERE WHAT IT READS IS OF BULK AT MOST 1048576: true; the input reads as it did. -/
def docInvertsUptoRow : OpenClaim := { program := "ythpecegifilgoaa", sum := "db12002ca23fb7f0b3ffc102c80ff9882cd5c2cc32a7088074f48e1d0aa548ae", func := "concordance/concordancelaw08.DocInverts", spec := "docInverts", inPlace := ["internal/abi.NoEscape"], unfollowed := true, recurses := true, plainKeys := false, apart := false, narrowed := true }
def DocInvertsUptoSaid : Prop := docInvertsUptoRow.holds Try.pinned (OpenSpec.upto docInvertsSpec)

/-- 'concordancelaw08.DocCounts', WHERE WHAT IT READS IS OF BULK AT MOST 1048576: true; the input reads as it did. -/
def docCountsUptoRow : OpenClaim := { program := "ythpecegifilgoaa", sum := "db12002ca23fb7f0b3ffc102c80ff9882cd5c2cc32a7088074f48e1d0aa548ae", func := "concordance/concordancelaw08.DocCounts", spec := "docCounts", inPlace := ["internal/abi.NoEscape"], unfollowed := true, recurses := true, plainKeys := false, apart := false, narrowed := true }
def DocCountsUptoSaid : Prop := docCountsUptoRow.holds Try.pinned (OpenSpec.upto docCountsSpec)

/-- 'concordancelaw08.DocPhrases', WHERE WHAT IT READS IS OF BULK AT MOST 1048576: true; the input reads as it did. -/
def docPhrasesUptoRow : OpenClaim := { program := "ythpecegifilgoaa", sum := "db12002ca23fb7f0b3ffc102c80ff9882cd5c2cc32a7088074f48e1d0aa548ae", func := "concordance/concordancelaw08.DocPhrases", spec := "docPhrases", inPlace := ["internal/abi.NoEscape"], unfollowed := true, recurses := true, plainKeys := false, apart := false, narrowed := true }
def DocPhrasesUptoSaid : Prop := docPhrasesUptoRow.holds Try.pinned (OpenSpec.upto docPhrasesSpec)

/-- 'concordancelaw08.DocFields', WHERE WHAT IT READS IS OF BULK AT MOST 1048576: true; the input reads as it did. -/
def docFieldsUptoRow : OpenClaim := { program := "ythpecegifilgoaa", sum := "db12002ca23fb7f0b3ffc102c80ff9882cd5c2cc32a7088074f48e1d0aa548ae", func := "concordance/concordancelaw08.DocFields", spec := "docFields", inPlace := ["internal/abi.NoEscape"], unfollowed := true, recurses := true, plainKeys := false, apart := false, narrowed := true }
def DocFieldsUptoSaid : Prop := docFieldsUptoRow.holds Try.pinned (OpenSpec.upto docFieldsSpec)

end Rows
end Go.Proofs.Ythpecegifilgoaa
