/-
  No cell of these rows narrows 'for every input' (looked for: loops, veiled, ifaces, maps, wideKeys, modest, calm, conditions, laid).
  DERIVED. THE GIVEN ROWS OF THIS SEAT. 4 by the template 'for every input the law returns true; each argument reads behind the call as it read before'; 0 by the template 'total and deterministic' (their statements: YtgcdekaceimdnaaGreatTotals.lean).
  GIVEN WITH THE SEED: the statements are not yours to turn. If you find one false, say at which input.
  Laid BY PROGRAM, IN A SANDBOX (cutbox-rows.mjs): the forced cells as the released guide's own fill.sh prints them over the translation ce55297670a9dc88… (all of the seat's roots in one cut). By AI agents, Wed Nov 11 2026. No macro, syntax, notation, axiom, sorry.
-/
import Derived.Test.YtgcdekaceimdnaaGreatChecked
import GoSem.Claim
import GoSem.ClaimJoined
import GoSem.ClaimMapViews
import Derived.JoinedTies
import Derived.KernelRfl
namespace Go.Proofs.YtgcdekaceimdnaaGreat
/- THE CELL 'sum', in the pinned program and in every row, IS THE sha256 OF THE DUMP (.gsa) THAT YtgcdekaceimdnaaGreatProg.lean LOADS. Nothing in Lean hashes anything: it is a label: what it is worth is what the hold of that sum in a sandbox is worth. -/
noncomputable def Tryz.pinned : Pinned := { name := "ytgcdekaceimdnaagreat", sum := "ce55297670a9dc884688550b6f5316c288ba65d3461b17f4b18c929371eac9fc", checked := Tryz.checked }
namespace Rows
def none {H : Type} : Left H := { results := [], args := [] }

/-- 'concordancelaw09.BufferPlays': WHATEVER THE INPUT: true; the input reads as it did. -/
def bufferPlaysSpec : ChangeSpec := { name := "bufferPlays", fn := fun _ => fun
  | [d1, d2] => { results := [.lit (.bool true)], args := [d1, d2] }
  | _ => none }
def bufferPlaysRow : OpenClaim := { program := "ytgcdekaceimdnaagreat", sum := "ce55297670a9dc884688550b6f5316c288ba65d3461b17f4b18c929371eac9fc", func := "concordance/concordancelaw09.BufferPlays", spec := "bufferPlays", inPlace := ["internal/abi.NoEscape"], unfollowed := true, recurses := true, plainKeys := false, apart := false }
def BufferPlaysSaid : Prop := bufferPlaysRow.holds Tryz.pinned (OpenSpec.ofChange bufferPlaysSpec)

/-- ITS FALSE NEIGHBOUR: 'it returns false'. Refute it at one input. -/
def bufferPlaysWrong : ChangeSpec := { name := "bufferPlays", fn := fun _ => fun
  | [d1, d2] => { results := [.lit (.bool false)], args := [d1, d2] }
  | _ => none }
def BufferPlaysWrongFalsely : Prop := bufferPlaysRow.holds Tryz.pinned (OpenSpec.ofChange bufferPlaysWrong)

/-- 'concordancelaw09.BufferTells': WHATEVER THE INPUT: true; the input reads as it did. -/
def bufferTellsSpec : ChangeSpec := { name := "bufferTells", fn := fun _ => fun
  | [d] => { results := [.lit (.bool true)], args := [d] }
  | _ => none }
def bufferTellsRow : OpenClaim := { program := "ytgcdekaceimdnaagreat", sum := "ce55297670a9dc884688550b6f5316c288ba65d3461b17f4b18c929371eac9fc", func := "concordance/concordancelaw09.BufferTells", spec := "bufferTells", inPlace := ["internal/abi.NoEscape"], unfollowed := true, recurses := true, plainKeys := false, apart := false }
def BufferTellsSaid : Prop := bufferTellsRow.holds Tryz.pinned (OpenSpec.ofChange bufferTellsSpec)

/-- ITS FALSE NEIGHBOUR: 'it returns false'. Refute it at one input. -/
def bufferTellsWrong : ChangeSpec := { name := "bufferTells", fn := fun _ => fun
  | [d] => { results := [.lit (.bool false)], args := [d] }
  | _ => none }
def BufferTellsWrongFalsely : Prop := bufferTellsRow.holds Tryz.pinned (OpenSpec.ofChange bufferTellsWrong)

/-- 'concordancelaw09.BufferOwns': WHATEVER THE INPUT: true; the input reads as it did. -/
def bufferOwnsSpec : ChangeSpec := { name := "bufferOwns", fn := fun _ => fun
  | [d] => { results := [.lit (.bool true)], args := [d] }
  | _ => none }
def bufferOwnsRow : OpenClaim := { program := "ytgcdekaceimdnaagreat", sum := "ce55297670a9dc884688550b6f5316c288ba65d3461b17f4b18c929371eac9fc", func := "concordance/concordancelaw09.BufferOwns", spec := "bufferOwns", inPlace := ["internal/abi.NoEscape"], unfollowed := true, recurses := true, plainKeys := false, apart := false }
def BufferOwnsSaid : Prop := bufferOwnsRow.holds Tryz.pinned (OpenSpec.ofChange bufferOwnsSpec)

/-- ITS FALSE NEIGHBOUR: 'it returns false'. Refute it at one input. -/
def bufferOwnsWrong : ChangeSpec := { name := "bufferOwns", fn := fun _ => fun
  | [d] => { results := [.lit (.bool false)], args := [d] }
  | _ => none }
def BufferOwnsWrongFalsely : Prop := bufferOwnsRow.holds Tryz.pinned (OpenSpec.ofChange bufferOwnsWrong)

/-- 'concordancelaw09.BufferSeals': WHATEVER THE INPUT: true; the input reads as it did. -/
def bufferSealsSpec : ChangeSpec := { name := "bufferSeals", fn := fun _ => fun
  | [d1, d2] => { results := [.lit (.bool true)], args := [d1, d2] }
  | _ => none }
def bufferSealsRow : OpenClaim := { program := "ytgcdekaceimdnaagreat", sum := "ce55297670a9dc884688550b6f5316c288ba65d3461b17f4b18c929371eac9fc", func := "concordance/concordancelaw09.BufferSeals", spec := "bufferSeals", inPlace := ["internal/abi.NoEscape"], unfollowed := true, recurses := true, plainKeys := false, apart := false }
def BufferSealsSaid : Prop := bufferSealsRow.holds Tryz.pinned (OpenSpec.ofChange bufferSealsSpec)

/-- ITS FALSE NEIGHBOUR: 'it returns false'. Refute it at one input. -/
def bufferSealsWrong : ChangeSpec := { name := "bufferSeals", fn := fun _ => fun
  | [d1, d2] => { results := [.lit (.bool false)], args := [d1, d2] }
  | _ => none }
def BufferSealsWrongFalsely : Prop := bufferSealsRow.holds Tryz.pinned (OpenSpec.ofChange bufferSealsWrong)

/- THE SECOND FORM. 'bulk': how many values and letters a reading holds, each counted each time it is reached (what is shared counts as often as it is met; a slice's spare places count too). A statement '..UptoSaid' is the law's where the arguments, and the package variables that the reading takes, are together of bulk at most 1048576: NARROWER than '..Said'. Prove '..Said' where nothing that the law and all that it calls make is longer than what came in: it says more and counts as full. Else prove '..UptoSaid'. A law counts once. -/
mutual
def uptoBulk {H : Type} : DataW H → Nat
  | .lit (.string bytes) => bytes.length + 1
  | .lit _ => 1
  | .nil => 1
  | .ptr d => uptoBulk d + 1
  | .slice elems spare => uptoBulkAll elems + uptoBulkAll spare + 1
  | .agg parts => uptoBulkAll parts + 1
  | .iface _ d => uptoBulk d + 1
  | .map entries => uptoBulkEntries entries + 1
  | .held _ => 1
def uptoBulkAll {H : Type} : List (DataW H) → Nat
  | [] => 0
  | d :: r => uptoBulk d + uptoBulkAll r
def uptoBulkEntries {H : Type} : List (Lit × DataW H) → Nat
  | [] => 0
  | x :: r => uptoBulkEntry x + uptoBulkEntries r
def uptoBulkEntry {H : Type} : Lit × DataW H → Nat
  | (.string bytes, d) => bytes.length + uptoBulk d + 1
  | (_, d) => uptoBulk d + 1
 end
def uptoSmall : (H : Type) → List (DataW H) → Bool := fun _ ds => decide (uptoBulkAll ds ≤ 1048576)
def OpenSpec.upto (s : _root_.Go.ChangeSpec) : _root_.Go.OpenSpec := { _root_.Go.OpenSpec.ofChange s with cond := some uptoSmall }

/-- 'concordancelaw09.BufferPlays', WHERE WHAT IT READS IS OF BULK AT MOST 1048576: true; the input reads as it did. -/
def bufferPlaysUptoRow : OpenClaim := { program := "ytgcdekaceimdnaagreat", sum := "ce55297670a9dc884688550b6f5316c288ba65d3461b17f4b18c929371eac9fc", func := "concordance/concordancelaw09.BufferPlays", spec := "bufferPlays", inPlace := ["internal/abi.NoEscape"], unfollowed := true, recurses := true, plainKeys := false, apart := false, narrowed := true }
def BufferPlaysUptoSaid : Prop := bufferPlaysUptoRow.holds Tryz.pinned (OpenSpec.upto bufferPlaysSpec)

/-- 'concordancelaw09.BufferTells', WHERE WHAT IT READS IS OF BULK AT MOST 1048576: true; the input reads as it did. -/
def bufferTellsUptoRow : OpenClaim := { program := "ytgcdekaceimdnaagreat", sum := "ce55297670a9dc884688550b6f5316c288ba65d3461b17f4b18c929371eac9fc", func := "concordance/concordancelaw09.BufferTells", spec := "bufferTells", inPlace := ["internal/abi.NoEscape"], unfollowed := true, recurses := true, plainKeys := false, apart := false, narrowed := true }
def BufferTellsUptoSaid : Prop := bufferTellsUptoRow.holds Tryz.pinned (OpenSpec.upto bufferTellsSpec)

/-- 'concordancelaw09.BufferOwns', WHERE WHAT IT READS IS OF BULK AT MOST 1048576: true; the input reads as it did. -/
def bufferOwnsUptoRow : OpenClaim := { program := "ytgcdekaceimdnaagreat", sum := "ce55297670a9dc884688550b6f5316c288ba65d3461b17f4b18c929371eac9fc", func := "concordance/concordancelaw09.BufferOwns", spec := "bufferOwns", inPlace := ["internal/abi.NoEscape"], unfollowed := true, recurses := true, plainKeys := false, apart := false, narrowed := true }
def BufferOwnsUptoSaid : Prop := bufferOwnsUptoRow.holds Tryz.pinned (OpenSpec.upto bufferOwnsSpec)

/-- 'concordancelaw09.BufferSeals', WHERE WHAT IT READS IS OF BULK AT MOST 1048576: true; the input reads as it did. -/
def bufferSealsUptoRow : OpenClaim := { program := "ytgcdekaceimdnaagreat", sum := "ce55297670a9dc884688550b6f5316c288ba65d3461b17f4b18c929371eac9fc", func := "concordance/concordancelaw09.BufferSeals", spec := "bufferSeals", inPlace := ["internal/abi.NoEscape"], unfollowed := true, recurses := true, plainKeys := false, apart := false, narrowed := true }
def BufferSealsUptoSaid : Prop := bufferSealsUptoRow.holds Tryz.pinned (OpenSpec.upto bufferSealsSpec)

end Rows
end Go.Proofs.YtgcdekaceimdnaaGreat
