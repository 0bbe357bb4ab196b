/-
  NARROWER THAN 'FOR EVERY INPUT', by the rows' own cells (each row's printed sentence says how): QueryMay: loops, laid · QueryPrints: loops, laid · QueryParses: loops, laid · QueryTerms: loops, laid · QueryFits: loops, laid · QueryNots: loops, laid · QuerySame: loops, laid · QueryKids: loops, laid · QueryDeep: laid.
  DERIVED. THE GIVEN ROWS OF THIS SEAT. 9 by the template 'for every input the law returns true; each argument reads behind the call as it read before'; 0 by the template 'total and deterministic' (their statements: YtolfkhflbjnakaaGreatDoorTotals.lean).
  GIVEN WITH THE SEED: the statements are not yours to turn. If you find one false, say at which input.
  Laid BY PROGRAM, IN A SANDBOX (cutbox-rows.mjs): the forced cells as the released guide's own fill.sh prints them over the translation 8f5e9507f0c620a5… (all of the seat's roots in one cut). By AI agents, Wed Nov 11 2026. No macro, syntax, notation, axiom, sorry.
-/
import Derived.Test.YtolfkhflbjnakaaGreatDoorChecked
import GoSem.PinnedTables
import GoSem.Claim
import GoSem.ClaimJoined
import GoSem.ClaimMapViews
import Derived.JoinedTies
import Derived.KernelRfl
namespace Go.Proofs.YtolfkhflbjnakaaGreatDoor
/- THE CELL 'sum', in the pinned program and in every row, IS THE sha256 OF THE DUMP (.gsa) THAT YtolfkhflbjnakaaGreatDoorProg.lean LOADS. Nothing in Lean hashes anything: it is a label: what it is worth is what the hold of that sum in a sandbox is worth. -/
noncomputable def Tryz.pinned : Pinned := { name := "ytolfkhflbjnakaagreatdoor", sum := "8f5e9507f0c620a54d1ad15799ec29526654b18ea54d953fbe88489d73da07ad", checked := Tryz.checked }
namespace Rows
def none {H : Type} : Left H := { results := [], args := [] }

/- WHAT THE LISTED PACKAGE-LEVEL VARIABLES READ AS WHEN THE CALL BEGINS. Each datum BY PROGRAM (the guide's laid-datum.mjs) off the statement by which the dump's own 'gosem.cut.vars' lays the variable. In a bare row this is a premise. The card (YtolfkhflbjnakaaGreatDoorCards.lean) ties it to the program's text. -/
def laid_unicode_utf8_acceptRanges {H : Type} : DataW H := .agg [.agg [.lit (.int .u8 128), .lit (.int .u8 191)], .agg [.lit (.int .u8 160), .lit (.int .u8 191)], .agg [.lit (.int .u8 128), .lit (.int .u8 159)], .agg [.lit (.int .u8 144), .lit (.int .u8 191)], .agg [.lit (.int .u8 128), .lit (.int .u8 143)], .agg [.lit (.int .u8 0), .lit (.int .u8 0)], .agg [.lit (.int .u8 0), .lit (.int .u8 0)], .agg [.lit (.int .u8 0), .lit (.int .u8 0)], .agg [.lit (.int .u8 0), .lit (.int .u8 0)], .agg [.lit (.int .u8 0), .lit (.int .u8 0)], .agg [.lit (.int .u8 0), .lit (.int .u8 0)], .agg [.lit (.int .u8 0), .lit (.int .u8 0)], .agg [.lit (.int .u8 0), .lit (.int .u8 0)], .agg [.lit (.int .u8 0), .lit (.int .u8 0)], .agg [.lit (.int .u8 0), .lit (.int .u8 0)], .agg [.lit (.int .u8 0), .lit (.int .u8 0)]]
def laid_concordance_query_names {H : Type} : DataW H := .agg [.lit (.string []), .lit (.string []), .lit (.string [97, 110, 100]), .lit (.string [111, 114]), .lit (.string [110, 111, 116])]
/-- One of Go's own tables, pinned by name: the form's constant. -/
def laid_unicode_utf8_first : DataW Unit := Go.Pinned.utf8First

/-- 'concordancelaw12.QueryMay': WHATEVER THE INPUT: true; the input reads as it did. -/
def queryMaySpec : ChangeSpec := { name := "queryMay", fn := fun _ => fun
  | [d] => { results := [.lit (.bool true)], args := [d] }
  | _ => none }
def queryMayRow : OpenClaim := { program := "ytolfkhflbjnakaagreatdoor", sum := "8f5e9507f0c620a54d1ad15799ec29526654b18ea54d953fbe88489d73da07ad", func := "concordance/concordancelaw12.QueryMay", spec := "queryMay", inPlace := ["internal/abi.NoEscape", "internal/bytealg.MakeNoZero", "internal/bytealg.IndexByteString", "internal/bytealg.IndexString", "internal/bytealg.CountString"], unfollowed := true, recurses := true, named := ["concordance/query.names", "internal/bytealg.MaxLen", "unicode/utf8.first", "unicode/utf8.acceptRanges"], loops := true, plainKeys := false, apart := false, laid := [("unicode/utf8.acceptRanges", laid_unicode_utf8_acceptRanges), ("concordance/query.names", laid_concordance_query_names), ("unicode/utf8.first", laid_unicode_utf8_first)] }
def QueryMaySaid : Prop := queryMayRow.holds Tryz.pinned (OpenSpec.ofChange queryMaySpec)

/-- ITS FALSE NEIGHBOUR: 'it returns false'. Refute it at one input. -/
def queryMayWrong : ChangeSpec := { name := "queryMay", fn := fun _ => fun
  | [d] => { results := [.lit (.bool false)], args := [d] }
  | _ => none }
def QueryMayWrongFalsely : Prop := queryMayRow.holds Tryz.pinned (OpenSpec.ofChange queryMayWrong)

/-- 'concordancelaw12.QueryPrints': WHATEVER THE INPUT: true; the input reads as it did. -/
def queryPrintsSpec : ChangeSpec := { name := "queryPrints", fn := fun _ => fun
  | [d] => { results := [.lit (.bool true)], args := [d] }
  | _ => none }
def queryPrintsRow : OpenClaim := { program := "ytolfkhflbjnakaagreatdoor", sum := "8f5e9507f0c620a54d1ad15799ec29526654b18ea54d953fbe88489d73da07ad", func := "concordance/concordancelaw12.QueryPrints", spec := "queryPrints", inPlace := ["internal/abi.NoEscape", "internal/bytealg.MakeNoZero", "internal/bytealg.IndexByteString", "internal/bytealg.IndexString", "internal/bytealg.CountString"], unfollowed := true, recurses := true, named := ["concordance/query.names", "internal/bytealg.MaxLen", "unicode/utf8.first", "unicode/utf8.acceptRanges"], loops := true, plainKeys := false, apart := false, laid := [("unicode/utf8.acceptRanges", laid_unicode_utf8_acceptRanges), ("concordance/query.names", laid_concordance_query_names), ("unicode/utf8.first", laid_unicode_utf8_first)] }
def QueryPrintsSaid : Prop := queryPrintsRow.holds Tryz.pinned (OpenSpec.ofChange queryPrintsSpec)

/-- ITS FALSE NEIGHBOUR: 'it returns false'. Refute it at one input. -/
def queryPrintsWrong : ChangeSpec := { name := "queryPrints", fn := fun _ => fun
  | [d] => { results := [.lit (.bool false)], args := [d] }
  | _ => none }
def QueryPrintsWrongFalsely : Prop := queryPrintsRow.holds Tryz.pinned (OpenSpec.ofChange queryPrintsWrong)

/-- 'concordancelaw12.QueryParses': WHATEVER THE INPUT: true; the input reads as it did. -/
def queryParsesSpec : ChangeSpec := { name := "queryParses", fn := fun _ => fun
  | [d1, d2, d3, d4] => { results := [.lit (.bool true)], args := [d1, d2, d3, d4] }
  | _ => none }
def queryParsesRow : OpenClaim := { program := "ytolfkhflbjnakaagreatdoor", sum := "8f5e9507f0c620a54d1ad15799ec29526654b18ea54d953fbe88489d73da07ad", func := "concordance/concordancelaw12.QueryParses", spec := "queryParses", inPlace := ["internal/bytealg.IndexByteString", "internal/bytealg.IndexString", "internal/bytealg.CountString", "internal/abi.NoEscape", "internal/bytealg.MakeNoZero"], unfollowed := true, recurses := true, named := ["internal/bytealg.MaxLen", "concordance/query.names", "unicode/utf8.first", "unicode/utf8.acceptRanges"], loops := true, plainKeys := false, apart := false, laid := [("unicode/utf8.acceptRanges", laid_unicode_utf8_acceptRanges), ("concordance/query.names", laid_concordance_query_names), ("unicode/utf8.first", laid_unicode_utf8_first)] }
def QueryParsesSaid : Prop := queryParsesRow.holds Tryz.pinned (OpenSpec.ofChange queryParsesSpec)

/-- ITS FALSE NEIGHBOUR: 'it returns false'. Refute it at one input. -/
def queryParsesWrong : ChangeSpec := { name := "queryParses", fn := fun _ => fun
  | [d1, d2, d3, d4] => { results := [.lit (.bool false)], args := [d1, d2, d3, d4] }
  | _ => none }
def QueryParsesWrongFalsely : Prop := queryParsesRow.holds Tryz.pinned (OpenSpec.ofChange queryParsesWrong)

/-- 'concordancelaw12.QueryTerms': WHATEVER THE INPUT: true; the input reads as it did. -/
def queryTermsSpec : ChangeSpec := { name := "queryTerms", fn := fun _ => fun
  | [d] => { results := [.lit (.bool true)], args := [d] }
  | _ => none }
def queryTermsRow : OpenClaim := { program := "ytolfkhflbjnakaagreatdoor", sum := "8f5e9507f0c620a54d1ad15799ec29526654b18ea54d953fbe88489d73da07ad", func := "concordance/concordancelaw12.QueryTerms", spec := "queryTerms", inPlace := ["internal/abi.NoEscape", "internal/bytealg.MakeNoZero", "internal/reflectlite.ValueOf", "internal/reflectlite.Swapper", "(internal/reflectlite.Value).Len", "internal/bytealg.IndexByteString", "internal/bytealg.IndexString", "internal/bytealg.CountString"], unfollowed := true, recurses := true, named := ["concordance/query.names", "internal/bytealg.MaxLen", "unicode/utf8.first", "unicode/utf8.acceptRanges"], loops := true, plainKeys := false, apart := false, laid := [("unicode/utf8.acceptRanges", laid_unicode_utf8_acceptRanges), ("concordance/query.names", laid_concordance_query_names), ("unicode/utf8.first", laid_unicode_utf8_first)] }
def QueryTermsSaid : Prop := queryTermsRow.holds Tryz.pinned (OpenSpec.ofChange queryTermsSpec)

/-- ITS FALSE NEIGHBOUR: 'it returns false'. Refute it at one input. -/
def queryTermsWrong : ChangeSpec := { name := "queryTerms", fn := fun _ => fun
  | [d] => { results := [.lit (.bool false)], args := [d] }
  | _ => none }
def QueryTermsWrongFalsely : Prop := queryTermsRow.holds Tryz.pinned (OpenSpec.ofChange queryTermsWrong)

/-- 'concordancelaw12.QueryFits': WHATEVER THE INPUT: true; the input reads as it did. -/
def queryFitsSpec : ChangeSpec := { name := "queryFits", fn := fun _ => fun
  | [d1, d2] => { results := [.lit (.bool true)], args := [d1, d2] }
  | _ => none }
def queryFitsRow : OpenClaim := { program := "ytolfkhflbjnakaagreatdoor", sum := "8f5e9507f0c620a54d1ad15799ec29526654b18ea54d953fbe88489d73da07ad", func := "concordance/concordancelaw12.QueryFits", spec := "queryFits", inPlace := ["internal/abi.NoEscape", "internal/bytealg.MakeNoZero", "internal/bytealg.IndexByteString", "internal/bytealg.IndexString", "internal/bytealg.CountString"], unfollowed := true, recurses := true, named := ["concordance/query.names", "internal/bytealg.MaxLen", "unicode/utf8.first", "unicode/utf8.acceptRanges"], loops := true, plainKeys := false, apart := false, laid := [("unicode/utf8.acceptRanges", laid_unicode_utf8_acceptRanges), ("concordance/query.names", laid_concordance_query_names), ("unicode/utf8.first", laid_unicode_utf8_first)] }
def QueryFitsSaid : Prop := queryFitsRow.holds Tryz.pinned (OpenSpec.ofChange queryFitsSpec)

/-- ITS FALSE NEIGHBOUR: 'it returns false'. Refute it at one input. -/
def queryFitsWrong : ChangeSpec := { name := "queryFits", fn := fun _ => fun
  | [d1, d2] => { results := [.lit (.bool false)], args := [d1, d2] }
  | _ => none }
def QueryFitsWrongFalsely : Prop := queryFitsRow.holds Tryz.pinned (OpenSpec.ofChange queryFitsWrong)

/-- 'concordancelaw12.QueryNots': WHATEVER THE INPUT: true; the input reads as it did. -/
def queryNotsSpec : ChangeSpec := { name := "queryNots", fn := fun _ => fun
  | [d1, d2, d3] => { results := [.lit (.bool true)], args := [d1, d2, d3] }
  | _ => none }
def queryNotsRow : OpenClaim := { program := "ytolfkhflbjnakaagreatdoor", sum := "8f5e9507f0c620a54d1ad15799ec29526654b18ea54d953fbe88489d73da07ad", func := "concordance/concordancelaw12.QueryNots", spec := "queryNots", inPlace := ["internal/abi.NoEscape", "internal/bytealg.MakeNoZero", "internal/bytealg.IndexByteString", "internal/bytealg.IndexString", "internal/bytealg.CountString"], unfollowed := true, recurses := true, named := ["concordance/query.names", "internal/bytealg.MaxLen", "unicode/utf8.first", "unicode/utf8.acceptRanges"], loops := true, plainKeys := false, apart := false, laid := [("unicode/utf8.acceptRanges", laid_unicode_utf8_acceptRanges), ("concordance/query.names", laid_concordance_query_names), ("unicode/utf8.first", laid_unicode_utf8_first)] }
def QueryNotsSaid : Prop := queryNotsRow.holds Tryz.pinned (OpenSpec.ofChange queryNotsSpec)

/-- ITS FALSE NEIGHBOUR: 'it returns false'. Refute it at one input. -/
def queryNotsWrong : ChangeSpec := { name := "queryNots", fn := fun _ => fun
  | [d1, d2, d3] => { results := [.lit (.bool false)], args := [d1, d2, d3] }
  | _ => none }
def QueryNotsWrongFalsely : Prop := queryNotsRow.holds Tryz.pinned (OpenSpec.ofChange queryNotsWrong)

/-- 'concordancelaw12.QuerySame': WHATEVER THE INPUT: true; the input reads as it did. -/
def querySameSpec : ChangeSpec := { name := "querySame", fn := fun _ => fun
  | [d1, d2] => { results := [.lit (.bool true)], args := [d1, d2] }
  | _ => none }
def querySameRow : OpenClaim := { program := "ytolfkhflbjnakaagreatdoor", sum := "8f5e9507f0c620a54d1ad15799ec29526654b18ea54d953fbe88489d73da07ad", func := "concordance/concordancelaw12.QuerySame", spec := "querySame", inPlace := ["internal/bytealg.IndexByteString", "internal/bytealg.IndexString", "internal/bytealg.CountString", "internal/abi.NoEscape", "internal/bytealg.MakeNoZero"], unfollowed := true, recurses := true, named := ["internal/bytealg.MaxLen", "concordance/query.names", "unicode/utf8.first", "unicode/utf8.acceptRanges"], loops := true, plainKeys := false, apart := false, laid := [("unicode/utf8.acceptRanges", laid_unicode_utf8_acceptRanges), ("concordance/query.names", laid_concordance_query_names), ("unicode/utf8.first", laid_unicode_utf8_first)] }
def QuerySameSaid : Prop := querySameRow.holds Tryz.pinned (OpenSpec.ofChange querySameSpec)

/-- ITS FALSE NEIGHBOUR: 'it returns false'. Refute it at one input. -/
def querySameWrong : ChangeSpec := { name := "querySame", fn := fun _ => fun
  | [d1, d2] => { results := [.lit (.bool false)], args := [d1, d2] }
  | _ => none }
def QuerySameWrongFalsely : Prop := querySameRow.holds Tryz.pinned (OpenSpec.ofChange querySameWrong)

/-- 'concordancelaw12.QueryKids': WHATEVER THE INPUT: true; the input reads as it did. -/
def queryKidsSpec : ChangeSpec := { name := "queryKids", fn := fun _ => fun
  | [d1, d2] => { results := [.lit (.bool true)], args := [d1, d2] }
  | _ => none }
def queryKidsRow : OpenClaim := { program := "ytolfkhflbjnakaagreatdoor", sum := "8f5e9507f0c620a54d1ad15799ec29526654b18ea54d953fbe88489d73da07ad", func := "concordance/concordancelaw12.QueryKids", spec := "queryKids", inPlace := ["internal/bytealg.IndexByteString", "internal/bytealg.IndexString", "internal/bytealg.CountString", "internal/abi.NoEscape", "internal/bytealg.MakeNoZero"], unfollowed := true, recurses := true, named := ["internal/bytealg.MaxLen", "concordance/query.names", "unicode/utf8.first", "unicode/utf8.acceptRanges"], loops := true, plainKeys := false, apart := false, laid := [("unicode/utf8.acceptRanges", laid_unicode_utf8_acceptRanges), ("concordance/query.names", laid_concordance_query_names), ("unicode/utf8.first", laid_unicode_utf8_first)] }
def QueryKidsSaid : Prop := queryKidsRow.holds Tryz.pinned (OpenSpec.ofChange queryKidsSpec)

/-- ITS FALSE NEIGHBOUR: 'it returns false'. Refute it at one input. -/
def queryKidsWrong : ChangeSpec := { name := "queryKids", fn := fun _ => fun
  | [d1, d2] => { results := [.lit (.bool false)], args := [d1, d2] }
  | _ => none }
def QueryKidsWrongFalsely : Prop := queryKidsRow.holds Tryz.pinned (OpenSpec.ofChange queryKidsWrong)

/-- 'concordancelaw12.QueryDeep': WHATEVER THE INPUT: true; the input reads as it did. -/
def queryDeepSpec : ChangeSpec := { name := "queryDeep", fn := fun _ => fun
  | [d1, d2] => { results := [.lit (.bool true)], args := [d1, d2] }
  | _ => none }
def queryDeepRow : OpenClaim := { program := "ytolfkhflbjnakaagreatdoor", sum := "8f5e9507f0c620a54d1ad15799ec29526654b18ea54d953fbe88489d73da07ad", func := "concordance/concordancelaw12.QueryDeep", spec := "queryDeep", inPlace := ["internal/abi.NoEscape", "internal/bytealg.MakeNoZero", "internal/bytealg.IndexByteString", "internal/bytealg.IndexString", "internal/bytealg.CountString"], unfollowed := true, recurses := true, named := ["concordance/query.names", "internal/bytealg.MaxLen", "unicode/utf8.first", "unicode/utf8.acceptRanges"], plainKeys := false, apart := false, laid := [("unicode/utf8.acceptRanges", laid_unicode_utf8_acceptRanges), ("concordance/query.names", laid_concordance_query_names), ("unicode/utf8.first", laid_unicode_utf8_first)] }
def QueryDeepSaid : Prop := queryDeepRow.holds Tryz.pinned (OpenSpec.ofChange queryDeepSpec)

/-- ITS FALSE NEIGHBOUR: 'it returns false'. Refute it at one input. -/
def queryDeepWrong : ChangeSpec := { name := "queryDeep", fn := fun _ => fun
  | [d1, d2] => { results := [.lit (.bool false)], args := [d1, d2] }
  | _ => none }
def QueryDeepWrongFalsely : Prop := queryDeepRow.holds Tryz.pinned (OpenSpec.ofChange queryDeepWrong)

/- THE SECOND FORM. 'bulk': how many values and letters a reading holds, each counted each time it is reached (what is shared counts as often as it is met; a slice's spare places count too). A statement '..UptoSaid' is the law's where the arguments, and the package variables that the reading takes, are together of bulk at most 1048576: NARROWER than '..Said'. Prove '..Said' where nothing that the law and all that it calls make is longer than what came in: it says more and counts as full. Else prove '..UptoSaid'. A law counts once. -/
mutual
def uptoBulk {H : Type} : DataW H → Nat
  | .lit (.string bytes) => bytes.length + 1
  | .lit _ => 1
  | .nil => 1
  | .ptr d => uptoBulk d + 1
  | .slice elems spare => uptoBulkAll elems + uptoBulkAll spare + 1
  | .agg parts => uptoBulkAll parts + 1
  | .iface _ d => uptoBulk d + 1
  | .map entries => uptoBulkEntries entries + 1
  | .held _ => 1
def uptoBulkAll {H : Type} : List (DataW H) → Nat
  | [] => 0
  | d :: r => uptoBulk d + uptoBulkAll r
def uptoBulkEntries {H : Type} : List (Lit × DataW H) → Nat
  | [] => 0
  | x :: r => uptoBulkEntry x + uptoBulkEntries r
def uptoBulkEntry {H : Type} : Lit × DataW H → Nat
  | (.string bytes, d) => bytes.length + uptoBulk d + 1
  | (_, d) => uptoBulk d + 1
 end
def uptoSmall : (H : Type) → List (DataW H) → Bool := fun _ ds => decide (uptoBulkAll ds ≤ 1048576)
def OpenSpec.upto (s : _root_.Go.ChangeSpec) : _root_.Go.OpenSpec := { _root_.Go.OpenSpec.ofChange s with cond := some uptoSmall }

/-- 'concordancelaw12.QueryMay', WHERE WHAT IT READS IS OF BULK AT MOST 1048576: true; the input reads as it did. -/
def queryMayUptoRow : OpenClaim := { program := "ytolfkhflbjnakaagreatdoor", sum := "8f5e9507f0c620a54d1ad15799ec29526654b18ea54d953fbe88489d73da07ad", func := "concordance/concordancelaw12.QueryMay", spec := "queryMay", inPlace := ["internal/abi.NoEscape", "internal/bytealg.MakeNoZero", "internal/bytealg.IndexByteString", "internal/bytealg.IndexString", "internal/bytealg.CountString"], unfollowed := true, recurses := true, named := ["concordance/query.names", "internal/bytealg.MaxLen", "unicode/utf8.first", "unicode/utf8.acceptRanges"], loops := true, plainKeys := false, apart := false, laid := [("unicode/utf8.acceptRanges", laid_unicode_utf8_acceptRanges), ("concordance/query.names", laid_concordance_query_names), ("unicode/utf8.first", laid_unicode_utf8_first)], narrowed := true }
def QueryMayUptoSaid : Prop := queryMayUptoRow.holds Tryz.pinned (OpenSpec.upto queryMaySpec)

/-- 'concordancelaw12.QueryPrints', WHERE WHAT IT READS IS OF BULK AT MOST 1048576: true; the input reads as it did. -/
def queryPrintsUptoRow : OpenClaim := { program := "ytolfkhflbjnakaagreatdoor", sum := "8f5e9507f0c620a54d1ad15799ec29526654b18ea54d953fbe88489d73da07ad", func := "concordance/concordancelaw12.QueryPrints", spec := "queryPrints", inPlace := ["internal/abi.NoEscape", "internal/bytealg.MakeNoZero", "internal/bytealg.IndexByteString", "internal/bytealg.IndexString", "internal/bytealg.CountString"], unfollowed := true, recurses := true, named := ["concordance/query.names", "internal/bytealg.MaxLen", "unicode/utf8.first", "unicode/utf8.acceptRanges"], loops := true, plainKeys := false, apart := false, laid := [("unicode/utf8.acceptRanges", laid_unicode_utf8_acceptRanges), ("concordance/query.names", laid_concordance_query_names), ("unicode/utf8.first", laid_unicode_utf8_first)], narrowed := true }
def QueryPrintsUptoSaid : Prop := queryPrintsUptoRow.holds Tryz.pinned (OpenSpec.upto queryPrintsSpec)

/-- 'concordancelaw12.QueryParses', WHERE WHAT IT READS IS OF BULK AT MOST 1048576: true; the input reads as it did. -/
def queryParsesUptoRow : OpenClaim := { program := "ytolfkhflbjnakaagreatdoor", sum := "8f5e9507f0c620a54d1ad15799ec29526654b18ea54d953fbe88489d73da07ad", func := "concordance/concordancelaw12.QueryParses", spec := "queryParses", inPlace := ["internal/bytealg.IndexByteString", "internal/bytealg.IndexString", "internal/bytealg.CountString", "internal/abi.NoEscape", "internal/bytealg.MakeNoZero"], unfollowed := true, recurses := true, named := ["internal/bytealg.MaxLen", "concordance/query.names", "unicode/utf8.first", "unicode/utf8.acceptRanges"], loops := true, plainKeys := false, apart := false, laid := [("unicode/utf8.acceptRanges", laid_unicode_utf8_acceptRanges), ("concordance/query.names", laid_concordance_query_names), ("unicode/utf8.first", laid_unicode_utf8_first)], narrowed := true }
def QueryParsesUptoSaid : Prop := queryParsesUptoRow.holds Tryz.pinned (OpenSpec.upto queryParsesSpec)

/-- 'concordancelaw12.QueryTerms', WHERE WHAT IT READS IS OF BULK AT MOST 1048576: true; the input reads as it did. -/
def queryTermsUptoRow : OpenClaim := { program := "ytolfkhflbjnakaagreatdoor", sum := "8f5e9507f0c620a54d1ad15799ec29526654b18ea54d953fbe88489d73da07ad", func := "concordance/concordancelaw12.QueryTerms", spec := "queryTerms", inPlace := ["internal/abi.NoEscape", "internal/bytealg.MakeNoZero", "internal/reflectlite.ValueOf", "internal/reflectlite.Swapper", "(internal/reflectlite.Value).Len", "internal/bytealg.IndexByteString", "internal/bytealg.IndexString", "internal/bytealg.CountString"], unfollowed := true, recurses := true, named := ["concordance/query.names", "internal/bytealg.MaxLen", "unicode/utf8.first", "unicode/utf8.acceptRanges"], loops := true, plainKeys := false, apart := false, laid := [("unicode/utf8.acceptRanges", laid_unicode_utf8_acceptRanges), ("concordance/query.names", laid_concordance_query_names), ("unicode/utf8.first", laid_unicode_utf8_first)], narrowed := true }
def QueryTermsUptoSaid : Prop := queryTermsUptoRow.holds Tryz.pinned (OpenSpec.upto queryTermsSpec)

/-- 'concordancelaw12.QueryFits', WHERE WHAT IT READS IS OF BULK AT MOST 1048576: true; the input reads as it did. -/
def queryFitsUptoRow : OpenClaim := { program := "ytolfkhflbjnakaagreatdoor", sum := "8f5e9507f0c620a54d1ad15799ec29526654b18ea54d953fbe88489d73da07ad", func := "concordance/concordancelaw12.QueryFits", spec := "queryFits", inPlace := ["internal/abi.NoEscape", "internal/bytealg.MakeNoZero", "internal/bytealg.IndexByteString", "internal/bytealg.IndexString", "internal/bytealg.CountString"], unfollowed := true, recurses := true, named := ["concordance/query.names", "internal/bytealg.MaxLen", "unicode/utf8.first", "unicode/utf8.acceptRanges"], loops := true, plainKeys := false, apart := false, laid := [("unicode/utf8.acceptRanges", laid_unicode_utf8_acceptRanges), ("concordance/query.names", laid_concordance_query_names), ("unicode/utf8.first", laid_unicode_utf8_first)], narrowed := true }
def QueryFitsUptoSaid : Prop := queryFitsUptoRow.holds Tryz.pinned (OpenSpec.upto queryFitsSpec)

/-- 'concordancelaw12.QueryNots', WHERE WHAT IT READS IS OF BULK AT MOST 1048576: true; the input reads as it did. -/
def queryNotsUptoRow : OpenClaim := { program := "ytolfkhflbjnakaagreatdoor", sum := "8f5e9507f0c620a54d1ad15799ec29526654b18ea54d953fbe88489d73da07ad", func := "concordance/concordancelaw12.QueryNots", spec := "queryNots", inPlace := ["internal/abi.NoEscape", "internal/bytealg.MakeNoZero", "internal/bytealg.IndexByteString", "internal/bytealg.IndexString", "internal/bytealg.CountString"], unfollowed := true, recurses := true, named := ["concordance/query.names", "internal/bytealg.MaxLen", "unicode/utf8.first", "unicode/utf8.acceptRanges"], loops := true, plainKeys := false, apart := false, laid := [("unicode/utf8.acceptRanges", laid_unicode_utf8_acceptRanges), ("concordance/query.names", laid_concordance_query_names), ("unicode/utf8.first", laid_unicode_utf8_first)], narrowed := true }
def QueryNotsUptoSaid : Prop := queryNotsUptoRow.holds Tryz.pinned (OpenSpec.upto queryNotsSpec)

/-- 'concordancelaw12.QuerySame', WHERE WHAT IT READS IS OF BULK AT MOST 1048576: true; the input reads as it did. -/
def querySameUptoRow : OpenClaim := { program := "ytolfkhflbjnakaagreatdoor", sum := "8f5e9507f0c620a54d1ad15799ec29526654b18ea54d953fbe88489d73da07ad", func := "concordance/concordancelaw12.QuerySame", spec := "querySame", inPlace := ["internal/bytealg.IndexByteString", "internal/bytealg.IndexString", "internal/bytealg.CountString", "internal/abi.NoEscape", "internal/bytealg.MakeNoZero"], unfollowed := true, recurses := true, named := ["internal/bytealg.MaxLen", "concordance/query.names", "unicode/utf8.first", "unicode/utf8.acceptRanges"], loops := true, plainKeys := false, apart := false, laid := [("unicode/utf8.acceptRanges", laid_unicode_utf8_acceptRanges), ("concordance/query.names", laid_concordance_query_names), ("unicode/utf8.first", laid_unicode_utf8_first)], narrowed := true }
def QuerySameUptoSaid : Prop := querySameUptoRow.holds Tryz.pinned (OpenSpec.upto querySameSpec)

/-- 'concordancelaw12.QueryKids', WHERE WHAT IT READS IS OF BULK AT MOST 1048576: true; the input reads as it did. -/
def queryKidsUptoRow : OpenClaim := { program := "ytolfkhflbjnakaagreatdoor", sum := "8f5e9507f0c620a54d1ad15799ec29526654b18ea54d953fbe88489d73da07ad", func := "concordance/concordancelaw12.QueryKids", spec := "queryKids", inPlace := ["internal/bytealg.IndexByteString", "internal/bytealg.IndexString", "internal/bytealg.CountString", "internal/abi.NoEscape", "internal/bytealg.MakeNoZero"], unfollowed := true, recurses := true, named := ["internal/bytealg.MaxLen", "concordance/query.names", "unicode/utf8.first", "unicode/utf8.acceptRanges"], loops := true, plainKeys := false, apart := false, laid := [("unicode/utf8.acceptRanges", laid_unicode_utf8_acceptRanges), ("concordance/query.names", laid_concordance_query_names), ("unicode/utf8.first", laid_unicode_utf8_first)], narrowed := true }
def QueryKidsUptoSaid : Prop := queryKidsUptoRow.holds Tryz.pinned (OpenSpec.upto queryKidsSpec)

/-- 'concordancelaw12.QueryDeep', WHERE WHAT IT READS IS OF BULK AT MOST 1048576: true; the input reads as it did. -/
def queryDeepUptoRow : OpenClaim := { program := "ytolfkhflbjnakaagreatdoor", sum := "8f5e9507f0c620a54d1ad15799ec29526654b18ea54d953fbe88489d73da07ad", func := "concordance/concordancelaw12.QueryDeep", spec := "queryDeep", inPlace := ["internal/abi.NoEscape", "internal/bytealg.MakeNoZero", "internal/bytealg.IndexByteString", "internal/bytealg.IndexString", "internal/bytealg.CountString"], unfollowed := true, recurses := true, named := ["concordance/query.names", "internal/bytealg.MaxLen", "unicode/utf8.first", "unicode/utf8.acceptRanges"], plainKeys := false, apart := false, laid := [("unicode/utf8.acceptRanges", laid_unicode_utf8_acceptRanges), ("concordance/query.names", laid_concordance_query_names), ("unicode/utf8.first", laid_unicode_utf8_first)], narrowed := true }
def QueryDeepUptoSaid : Prop := queryDeepUptoRow.holds Tryz.pinned (OpenSpec.upto queryDeepSpec)

end Rows
end Go.Proofs.YtolfkhflbjnakaaGreatDoor
