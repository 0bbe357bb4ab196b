/-
  NARROWER THAN 'FOR EVERY INPUT', by the rows' own cells (each row's printed sentence says how): QueryTerms: loops, laid · MatchMatches: loops, laid · MatchRefuses: loops, laid · MatchAlike: loops, laid · MatchParts: loops, laid.
  DERIVED. THE GIVEN ROWS OF THIS SEAT. 5 by the template 'for every input the law returns true; each argument reads behind the call as it read before'; 0 by the template 'total and deterministic' (their statements: YtldcadpemnpbmaaGreatDoorTotals.lean).
  GIVEN WITH THE SEED: the statements are not yours to turn. If you find one false, say at which input.
  Laid BY PROGRAM, IN A SANDBOX (cutbox-rows.mjs): the forced cells as the released guide's own fill.sh prints them over the translation e22f652d11011c47… (all of the seat's roots in one cut). By AI agents, Wed Nov 11 2026. No macro, syntax, notation, axiom, sorry.
-/
import Derived.Test.YtldcadpemnpbmaaGreatDoorChecked
import GoSem.PinnedTables
import GoSem.Claim
import GoSem.ClaimJoined
import GoSem.ClaimMapViews
import Derived.JoinedTies
import Derived.KernelRfl
namespace Go.Proofs.YtldcadpemnpbmaaGreatDoor
/- THE CELL 'sum', in the pinned program and in every row, IS THE sha256 OF THE DUMP (.gsa) THAT YtldcadpemnpbmaaGreatDoorProg.lean LOADS. Nothing in Lean hashes anything: it is a label: what it is worth is what the hold of that sum in a sandbox is worth. -/
noncomputable def Tryz.pinned : Pinned := { name := "ytldcadpemnpbmaagreatdoor", sum := "e22f652d11011c4738b8241981d6dc151cd49123a07614b9216391534e3be19a", checked := Tryz.checked }
namespace Rows
def none {H : Type} : Left H := { results := [], args := [] }

/- WHAT THE LISTED PACKAGE-LEVEL VARIABLES READ AS WHEN THE CALL BEGINS. Each datum BY PROGRAM (the guide's laid-datum.mjs) off the statement by which the dump's own 'gosem.cut.vars' lays the variable. In a bare row this is a premise. The card (YtldcadpemnpbmaaGreatDoorCards.lean) ties it to the program's text. -/
def laid_unicode_utf8_acceptRanges {H : Type} : DataW H := .agg [.agg [.lit (.int .u8 128), .lit (.int .u8 191)], .agg [.lit (.int .u8 160), .lit (.int .u8 191)], .agg [.lit (.int .u8 128), .lit (.int .u8 159)], .agg [.lit (.int .u8 144), .lit (.int .u8 191)], .agg [.lit (.int .u8 128), .lit (.int .u8 143)], .agg [.lit (.int .u8 0), .lit (.int .u8 0)], .agg [.lit (.int .u8 0), .lit (.int .u8 0)], .agg [.lit (.int .u8 0), .lit (.int .u8 0)], .agg [.lit (.int .u8 0), .lit (.int .u8 0)], .agg [.lit (.int .u8 0), .lit (.int .u8 0)], .agg [.lit (.int .u8 0), .lit (.int .u8 0)], .agg [.lit (.int .u8 0), .lit (.int .u8 0)], .agg [.lit (.int .u8 0), .lit (.int .u8 0)], .agg [.lit (.int .u8 0), .lit (.int .u8 0)], .agg [.lit (.int .u8 0), .lit (.int .u8 0)], .agg [.lit (.int .u8 0), .lit (.int .u8 0)]]
def laid_concordance_query_names {H : Type} : DataW H := .agg [.lit (.string []), .lit (.string []), .lit (.string [97, 110, 100]), .lit (.string [111, 114]), .lit (.string [110, 111, 116])]
/-- One of Go's own tables, pinned by name: the form's constant. -/
def laid_unicode_utf8_first : DataW Unit := Go.Pinned.utf8First

/-- 'concordancelaw12.QueryTerms': WHATEVER THE INPUT: true; the input reads as it did. -/
def queryTermsSpec : ChangeSpec := { name := "queryTerms", fn := fun _ => fun
  | [d] => { results := [.lit (.bool true)], args := [d] }
  | _ => none }
def queryTermsRow : OpenClaim := { program := "ytldcadpemnpbmaagreatdoor", sum := "e22f652d11011c4738b8241981d6dc151cd49123a07614b9216391534e3be19a", func := "concordance/concordancelaw12.QueryTerms", spec := "queryTerms", inPlace := ["internal/abi.NoEscape", "internal/bytealg.MakeNoZero", "internal/reflectlite.ValueOf", "internal/reflectlite.Swapper", "(internal/reflectlite.Value).Len", "internal/bytealg.IndexByteString", "internal/bytealg.IndexString", "internal/bytealg.CountString"], unfollowed := true, recurses := true, named := ["concordance/query.names", "internal/bytealg.MaxLen", "unicode/utf8.first", "unicode/utf8.acceptRanges"], loops := true, plainKeys := false, apart := false, laid := [("unicode/utf8.acceptRanges", laid_unicode_utf8_acceptRanges), ("concordance/query.names", laid_concordance_query_names), ("unicode/utf8.first", laid_unicode_utf8_first)] }
def QueryTermsSaid : Prop := queryTermsRow.holds Tryz.pinned (OpenSpec.ofChange queryTermsSpec)

/-- ITS FALSE NEIGHBOUR: 'it returns false'. Refute it at one input. -/
def queryTermsWrong : ChangeSpec := { name := "queryTerms", fn := fun _ => fun
  | [d] => { results := [.lit (.bool false)], args := [d] }
  | _ => none }
def QueryTermsWrongFalsely : Prop := queryTermsRow.holds Tryz.pinned (OpenSpec.ofChange queryTermsWrong)

/-- 'concordancelaw13.MatchMatches': WHATEVER THE INPUT: true; the input reads as it did. -/
def matchMatchesSpec : ChangeSpec := { name := "matchMatches", fn := fun _ => fun
  | [d1, d2, d3] => { results := [.lit (.bool true)], args := [d1, d2, d3] }
  | _ => none }
def matchMatchesRow : OpenClaim := { program := "ytldcadpemnpbmaagreatdoor", sum := "e22f652d11011c4738b8241981d6dc151cd49123a07614b9216391534e3be19a", func := "concordance/concordancelaw13.MatchMatches", spec := "matchMatches", inPlace := ["internal/abi.NoEscape", "slices.overlaps[concordance/bits.word]", "internal/bytealg.MakeNoZero"], unfollowed := true, recurses := true, named := ["concordance/query.names"], loops := true, plainKeys := false, apart := false, laid := [("concordance/query.names", laid_concordance_query_names)] }
def MatchMatchesSaid : Prop := matchMatchesRow.holds Tryz.pinned (OpenSpec.ofChange matchMatchesSpec)

/-- ITS FALSE NEIGHBOUR: 'it returns false'. Refute it at one input. -/
def matchMatchesWrong : ChangeSpec := { name := "matchMatches", fn := fun _ => fun
  | [d1, d2, d3] => { results := [.lit (.bool false)], args := [d1, d2, d3] }
  | _ => none }
def MatchMatchesWrongFalsely : Prop := matchMatchesRow.holds Tryz.pinned (OpenSpec.ofChange matchMatchesWrong)

/-- 'concordancelaw13.MatchRefuses': WHATEVER THE INPUT: true; the input reads as it did. -/
def matchRefusesSpec : ChangeSpec := { name := "matchRefuses", fn := fun _ => fun
  | [d1, d2] => { results := [.lit (.bool true)], args := [d1, d2] }
  | _ => none }
def matchRefusesRow : OpenClaim := { program := "ytldcadpemnpbmaagreatdoor", sum := "e22f652d11011c4738b8241981d6dc151cd49123a07614b9216391534e3be19a", func := "concordance/concordancelaw13.MatchRefuses", spec := "matchRefuses", inPlace := ["internal/abi.NoEscape", "internal/bytealg.MakeNoZero"], unfollowed := true, recurses := true, named := ["concordance/query.names"], loops := true, plainKeys := false, apart := false, laid := [("concordance/query.names", laid_concordance_query_names)] }
def MatchRefusesSaid : Prop := matchRefusesRow.holds Tryz.pinned (OpenSpec.ofChange matchRefusesSpec)

/-- ITS FALSE NEIGHBOUR: 'it returns false'. Refute it at one input. -/
def matchRefusesWrong : ChangeSpec := { name := "matchRefuses", fn := fun _ => fun
  | [d1, d2] => { results := [.lit (.bool false)], args := [d1, d2] }
  | _ => none }
def MatchRefusesWrongFalsely : Prop := matchRefusesRow.holds Tryz.pinned (OpenSpec.ofChange matchRefusesWrong)

/-- 'concordancelaw13.MatchAlike': WHATEVER THE INPUT: true; the input reads as it did. -/
def matchAlikeSpec : ChangeSpec := { name := "matchAlike", fn := fun _ => fun
  | [d1, d2] => { results := [.lit (.bool true)], args := [d1, d2] }
  | _ => none }
def matchAlikeRow : OpenClaim := { program := "ytldcadpemnpbmaagreatdoor", sum := "e22f652d11011c4738b8241981d6dc151cd49123a07614b9216391534e3be19a", func := "concordance/concordancelaw13.MatchAlike", spec := "matchAlike", inPlace := ["internal/abi.NoEscape", "internal/bytealg.MakeNoZero"], unfollowed := true, recurses := true, named := ["concordance/query.names"], loops := true, plainKeys := false, apart := false, laid := [("concordance/query.names", laid_concordance_query_names)] }
def MatchAlikeSaid : Prop := matchAlikeRow.holds Tryz.pinned (OpenSpec.ofChange matchAlikeSpec)

/-- ITS FALSE NEIGHBOUR: 'it returns false'. Refute it at one input. -/
def matchAlikeWrong : ChangeSpec := { name := "matchAlike", fn := fun _ => fun
  | [d1, d2] => { results := [.lit (.bool false)], args := [d1, d2] }
  | _ => none }
def MatchAlikeWrongFalsely : Prop := matchAlikeRow.holds Tryz.pinned (OpenSpec.ofChange matchAlikeWrong)

/-- 'concordancelaw13.MatchParts': WHATEVER THE INPUT: true; the input reads as it did. -/
def matchPartsSpec : ChangeSpec := { name := "matchParts", fn := fun _ => fun
  | [d1, d2, d3] => { results := [.lit (.bool true)], args := [d1, d2, d3] }
  | _ => none }
def matchPartsRow : OpenClaim := { program := "ytldcadpemnpbmaagreatdoor", sum := "e22f652d11011c4738b8241981d6dc151cd49123a07614b9216391534e3be19a", func := "concordance/concordancelaw13.MatchParts", spec := "matchParts", inPlace := ["internal/abi.NoEscape", "internal/bytealg.MakeNoZero"], unfollowed := true, recurses := true, named := ["concordance/query.names"], loops := true, plainKeys := false, apart := false, laid := [("concordance/query.names", laid_concordance_query_names)] }
def MatchPartsSaid : Prop := matchPartsRow.holds Tryz.pinned (OpenSpec.ofChange matchPartsSpec)

/-- ITS FALSE NEIGHBOUR: 'it returns false'. Refute it at one input. -/
def matchPartsWrong : ChangeSpec := { name := "matchParts", fn := fun _ => fun
  | [d1, d2, d3] => { results := [.lit (.bool false)], args := [d1, d2, d3] }
  | _ => none }
def MatchPartsWrongFalsely : Prop := matchPartsRow.holds Tryz.pinned (OpenSpec.ofChange matchPartsWrong)

/- THE SECOND FORM. 'bulk': how many values and letters a reading holds, each counted each time it is reached (what is shared counts as often as it is met; a slice's spare places count too). A statement '..UptoSaid' is the law's where the arguments, and the package variables that the reading takes, are together of bulk at most 1048576: NARROWER than '..Said'. Prove '..Said' where nothing that the law and all that it calls make is longer than what came in: it says more and counts as full. Else prove '..UptoSaid'. A law counts once. -/
mutual
def uptoBulk {H : Type} : DataW H → Nat
  | .lit (.string bytes) => bytes.length + 1
  | .lit _ => 1
  | .nil => 1
  | .ptr d => uptoBulk d + 1
  | .slice elems spare => uptoBulkAll elems + uptoBulkAll spare + 1
  | .agg parts => uptoBulkAll parts + 1
  | .iface _ d => uptoBulk d + 1
  | .map entries => uptoBulkEntries entries + 1
  | .held _ => 1
def uptoBulkAll {H : Type} : List (DataW H) → Nat
  | [] => 0
  | d :: r => uptoBulk d + uptoBulkAll r
def uptoBulkEntries {H : Type} : List (Lit × DataW H) → Nat
  | [] => 0
  | x :: r => uptoBulkEntry x + uptoBulkEntries r
def uptoBulkEntry {H : Type} : Lit × DataW H → Nat
  | (.string bytes, d) => bytes.length + uptoBulk d + 1
  | (_, d) => uptoBulk d + 1
 end
def uptoSmall : (H : Type) → List (DataW H) → Bool := fun _ ds => decide (uptoBulkAll ds ≤ 1048576)
def OpenSpec.upto (s : _root_.Go.ChangeSpec) : _root_.Go.OpenSpec := { _root_.Go.OpenSpec.ofChange s with cond := some uptoSmall }

/-- 'concordancelaw12.QueryTerms', WHERE WHAT IT READS IS OF BULK AT MOST 1048576: true; the input reads as it did. -/
def queryTermsUptoRow : OpenClaim := { program := "ytldcadpemnpbmaagreatdoor", sum := "e22f652d11011c4738b8241981d6dc151cd49123a07614b9216391534e3be19a", func := "concordance/concordancelaw12.QueryTerms", spec := "queryTerms", inPlace := ["internal/abi.NoEscape", "internal/bytealg.MakeNoZero", "internal/reflectlite.ValueOf", "internal/reflectlite.Swapper", "(internal/reflectlite.Value).Len", "internal/bytealg.IndexByteString", "internal/bytealg.IndexString", "internal/bytealg.CountString"], unfollowed := true, recurses := true, named := ["concordance/query.names", "internal/bytealg.MaxLen", "unicode/utf8.first", "unicode/utf8.acceptRanges"], loops := true, plainKeys := false, apart := false, laid := [("unicode/utf8.acceptRanges", laid_unicode_utf8_acceptRanges), ("concordance/query.names", laid_concordance_query_names), ("unicode/utf8.first", laid_unicode_utf8_first)], narrowed := true }
def QueryTermsUptoSaid : Prop := queryTermsUptoRow.holds Tryz.pinned (OpenSpec.upto queryTermsSpec)

/-- 'concordancelaw13.MatchMatches', WHERE WHAT IT READS IS OF BULK AT MOST 1048576: true; the input reads as it did. -/
def matchMatchesUptoRow : OpenClaim := { program := "ytldcadpemnpbmaagreatdoor", sum := "e22f652d11011c4738b8241981d6dc151cd49123a07614b9216391534e3be19a", func := "concordance/concordancelaw13.MatchMatches", spec := "matchMatches", inPlace := ["internal/abi.NoEscape", "slices.overlaps[concordance/bits.word]", "internal/bytealg.MakeNoZero"], unfollowed := true, recurses := true, named := ["concordance/query.names"], loops := true, plainKeys := false, apart := false, laid := [("concordance/query.names", laid_concordance_query_names)], narrowed := true }
def MatchMatchesUptoSaid : Prop := matchMatchesUptoRow.holds Tryz.pinned (OpenSpec.upto matchMatchesSpec)

/-- 'concordancelaw13.MatchRefuses', WHERE WHAT IT READS IS OF BULK AT MOST 1048576: true; the input reads as it did. -/
def matchRefusesUptoRow : OpenClaim := { program := "ytldcadpemnpbmaagreatdoor", sum := "e22f652d11011c4738b8241981d6dc151cd49123a07614b9216391534e3be19a", func := "concordance/concordancelaw13.MatchRefuses", spec := "matchRefuses", inPlace := ["internal/abi.NoEscape", "internal/bytealg.MakeNoZero"], unfollowed := true, recurses := true, named := ["concordance/query.names"], loops := true, plainKeys := false, apart := false, laid := [("concordance/query.names", laid_concordance_query_names)], narrowed := true }
def MatchRefusesUptoSaid : Prop := matchRefusesUptoRow.holds Tryz.pinned (OpenSpec.upto matchRefusesSpec)

/-- 'concordancelaw13.MatchAlike', WHERE WHAT IT READS IS OF BULK AT MOST 1048576: true; the input reads as it did. -/
def matchAlikeUptoRow : OpenClaim := { program := "ytldcadpemnpbmaagreatdoor", sum := "e22f652d11011c4738b8241981d6dc151cd49123a07614b9216391534e3be19a", func := "concordance/concordancelaw13.MatchAlike", spec := "matchAlike", inPlace := ["internal/abi.NoEscape", "internal/bytealg.MakeNoZero"], unfollowed := true, recurses := true, named := ["concordance/query.names"], loops := true, plainKeys := false, apart := false, laid := [("concordance/query.names", laid_concordance_query_names)], narrowed := true }
def MatchAlikeUptoSaid : Prop := matchAlikeUptoRow.holds Tryz.pinned (OpenSpec.upto matchAlikeSpec)

/-- 'concordancelaw13.MatchParts', WHERE WHAT IT READS IS OF BULK AT MOST 1048576: true; the input reads as it did. -/
def matchPartsUptoRow : OpenClaim := { program := "ytldcadpemnpbmaagreatdoor", sum := "e22f652d11011c4738b8241981d6dc151cd49123a07614b9216391534e3be19a", func := "concordance/concordancelaw13.MatchParts", spec := "matchParts", inPlace := ["internal/abi.NoEscape", "internal/bytealg.MakeNoZero"], unfollowed := true, recurses := true, named := ["concordance/query.names"], loops := true, plainKeys := false, apart := false, laid := [("concordance/query.names", laid_concordance_query_names)], narrowed := true }
def MatchPartsUptoSaid : Prop := matchPartsUptoRow.holds Tryz.pinned (OpenSpec.upto matchPartsSpec)

end Rows
end Go.Proofs.YtldcadpemnpbmaaGreatDoor
