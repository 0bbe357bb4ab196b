/-
  DERIVED. GIVEN WITH THE SEED: THE CARDS: each row of YtolfkhflbjnakaaGreatDoorRows.lean that lists a variable, with what it lists TIED to the program's text (the seventh form; the later family's looks); each row that meets fmt, with fmt's text TOLD by the authors' own Lean function (tested against real Go, not proved from fmt's source: count such statements apart). THE CARD IS WHAT COUNTS. Prove the row's statement (the work); the ties are given (YtolfkhflbjnakaaGreatDoorTie.lean); close each card by the builder's one call (the guide's Derived/Test/ToyasCard.lean, 'card_holds'). Laid BY PROGRAM, IN A SANDBOX (cutbox-door.mjs). By AI agents, Wed Nov 11 2026. No macro, syntax, notation, axiom, sorry.
-/
import Derived.Test.YtolfkhflbjnakaaGreatDoorRows
import GoSem.ClaimSeven
namespace Go.Proofs.YtolfkhflbjnakaaGreatDoor
namespace Rows

/-- THE TIED CARD OF 'concordancelaw12.QueryMay'. -/
def queryMayCard : Claim7 := { stood := { row := queryMayRow, standIns := [], harness := (true, "059693a79dbd9200026941552e7b9b366212092cbdbe9f4a49ed0c5dd98de852"), looks := false }, kinds := [], alts := [], laidByText := true, laidKinds := [.data, .data, .pinned], laidTests := true, laidLooks := .later }
def QueryMayCardSaid : Prop := Claim7.holds Tryz.pinned (.plain (OpenSpec.ofChange queryMaySpec)) queryMayCard

/-- THE TIED CARD OF 'concordancelaw12.QueryPrints'. -/
def queryPrintsCard : Claim7 := { stood := { row := queryPrintsRow, standIns := [], harness := (true, "059693a79dbd9200026941552e7b9b366212092cbdbe9f4a49ed0c5dd98de852"), looks := false }, kinds := [], alts := [], laidByText := true, laidKinds := [.data, .data, .pinned], laidTests := true, laidLooks := .later }
def QueryPrintsCardSaid : Prop := Claim7.holds Tryz.pinned (.plain (OpenSpec.ofChange queryPrintsSpec)) queryPrintsCard

/-- THE TIED CARD OF 'concordancelaw12.QueryParses'. -/
def queryParsesCard : Claim7 := { stood := { row := queryParsesRow, standIns := [], harness := (true, "059693a79dbd9200026941552e7b9b366212092cbdbe9f4a49ed0c5dd98de852"), looks := false }, kinds := [], alts := [], laidByText := true, laidKinds := [.data, .data, .pinned], laidTests := true, laidLooks := .later }
def QueryParsesCardSaid : Prop := Claim7.holds Tryz.pinned (.plain (OpenSpec.ofChange queryParsesSpec)) queryParsesCard

/-- THE TIED CARD OF 'concordancelaw12.QueryTerms'. -/
def queryTermsCard : Claim7 := { stood := { row := queryTermsRow, standIns := [], harness := (true, "059693a79dbd9200026941552e7b9b366212092cbdbe9f4a49ed0c5dd98de852"), looks := false }, kinds := [], alts := [], laidByText := true, laidKinds := [.data, .data, .pinned], laidTests := true, laidLooks := .later }
def QueryTermsCardSaid : Prop := Claim7.holds Tryz.pinned (.plain (OpenSpec.ofChange queryTermsSpec)) queryTermsCard

/-- THE TIED CARD OF 'concordancelaw12.QueryFits'. -/
def queryFitsCard : Claim7 := { stood := { row := queryFitsRow, standIns := [], harness := (true, "059693a79dbd9200026941552e7b9b366212092cbdbe9f4a49ed0c5dd98de852"), looks := false }, kinds := [], alts := [], laidByText := true, laidKinds := [.data, .data, .pinned], laidTests := true, laidLooks := .later }
def QueryFitsCardSaid : Prop := Claim7.holds Tryz.pinned (.plain (OpenSpec.ofChange queryFitsSpec)) queryFitsCard

/-- THE TIED CARD OF 'concordancelaw12.QueryNots'. -/
def queryNotsCard : Claim7 := { stood := { row := queryNotsRow, standIns := [], harness := (true, "059693a79dbd9200026941552e7b9b366212092cbdbe9f4a49ed0c5dd98de852"), looks := false }, kinds := [], alts := [], laidByText := true, laidKinds := [.data, .data, .pinned], laidTests := true, laidLooks := .later }
def QueryNotsCardSaid : Prop := Claim7.holds Tryz.pinned (.plain (OpenSpec.ofChange queryNotsSpec)) queryNotsCard

/-- THE TIED CARD OF 'concordancelaw12.QuerySame'. -/
def querySameCard : Claim7 := { stood := { row := querySameRow, standIns := [], harness := (true, "059693a79dbd9200026941552e7b9b366212092cbdbe9f4a49ed0c5dd98de852"), looks := false }, kinds := [], alts := [], laidByText := true, laidKinds := [.data, .data, .pinned], laidTests := true, laidLooks := .later }
def QuerySameCardSaid : Prop := Claim7.holds Tryz.pinned (.plain (OpenSpec.ofChange querySameSpec)) querySameCard

/-- THE TIED CARD OF 'concordancelaw12.QueryKids'. -/
def queryKidsCard : Claim7 := { stood := { row := queryKidsRow, standIns := [], harness := (true, "059693a79dbd9200026941552e7b9b366212092cbdbe9f4a49ed0c5dd98de852"), looks := false }, kinds := [], alts := [], laidByText := true, laidKinds := [.data, .data, .pinned], laidTests := true, laidLooks := .later }
def QueryKidsCardSaid : Prop := Claim7.holds Tryz.pinned (.plain (OpenSpec.ofChange queryKidsSpec)) queryKidsCard

/-- THE TIED CARD OF 'concordancelaw12.QueryDeep'. -/
def queryDeepCard : Claim7 := { stood := { row := queryDeepRow, standIns := [], harness := (true, "059693a79dbd9200026941552e7b9b366212092cbdbe9f4a49ed0c5dd98de852"), looks := false }, kinds := [], alts := [], laidByText := true, laidKinds := [.data, .data, .pinned], laidTests := true, laidLooks := .later }
def QueryDeepCardSaid : Prop := Claim7.holds Tryz.pinned (.plain (OpenSpec.ofChange queryDeepSpec)) queryDeepCard

/-- THE SECOND FORM's CARD OF 'concordancelaw12.QueryMay'. -/
def queryMayUptoCard : Claim7 := { stood := { row := queryMayUptoRow, standIns := [], harness := (true, "059693a79dbd9200026941552e7b9b366212092cbdbe9f4a49ed0c5dd98de852"), looks := false }, kinds := [], alts := [], laidByText := true, laidKinds := [.data, .data, .pinned], laidTests := true, laidLooks := .later }
def QueryMayUptoCardSaid : Prop := Claim7.holds Tryz.pinned (.plain (OpenSpec.upto queryMaySpec)) queryMayUptoCard

/-- THE SECOND FORM's CARD OF 'concordancelaw12.QueryPrints'. -/
def queryPrintsUptoCard : Claim7 := { stood := { row := queryPrintsUptoRow, standIns := [], harness := (true, "059693a79dbd9200026941552e7b9b366212092cbdbe9f4a49ed0c5dd98de852"), looks := false }, kinds := [], alts := [], laidByText := true, laidKinds := [.data, .data, .pinned], laidTests := true, laidLooks := .later }
def QueryPrintsUptoCardSaid : Prop := Claim7.holds Tryz.pinned (.plain (OpenSpec.upto queryPrintsSpec)) queryPrintsUptoCard

/-- THE SECOND FORM's CARD OF 'concordancelaw12.QueryParses'. -/
def queryParsesUptoCard : Claim7 := { stood := { row := queryParsesUptoRow, standIns := [], harness := (true, "059693a79dbd9200026941552e7b9b366212092cbdbe9f4a49ed0c5dd98de852"), looks := false }, kinds := [], alts := [], laidByText := true, laidKinds := [.data, .data, .pinned], laidTests := true, laidLooks := .later }
def QueryParsesUptoCardSaid : Prop := Claim7.holds Tryz.pinned (.plain (OpenSpec.upto queryParsesSpec)) queryParsesUptoCard

/-- THE SECOND FORM's CARD OF 'concordancelaw12.QueryTerms'. -/
def queryTermsUptoCard : Claim7 := { stood := { row := queryTermsUptoRow, standIns := [], harness := (true, "059693a79dbd9200026941552e7b9b366212092cbdbe9f4a49ed0c5dd98de852"), looks := false }, kinds := [], alts := [], laidByText := true, laidKinds := [.data, .data, .pinned], laidTests := true, laidLooks := .later }
def QueryTermsUptoCardSaid : Prop := Claim7.holds Tryz.pinned (.plain (OpenSpec.upto queryTermsSpec)) queryTermsUptoCard

/-- THE SECOND FORM's CARD OF 'concordancelaw12.QueryFits'. -/
def queryFitsUptoCard : Claim7 := { stood := { row := queryFitsUptoRow, standIns := [], harness := (true, "059693a79dbd9200026941552e7b9b366212092cbdbe9f4a49ed0c5dd98de852"), looks := false }, kinds := [], alts := [], laidByText := true, laidKinds := [.data, .data, .pinned], laidTests := true, laidLooks := .later }
def QueryFitsUptoCardSaid : Prop := Claim7.holds Tryz.pinned (.plain (OpenSpec.upto queryFitsSpec)) queryFitsUptoCard

/-- THE SECOND FORM's CARD OF 'concordancelaw12.QueryNots'. -/
def queryNotsUptoCard : Claim7 := { stood := { row := queryNotsUptoRow, standIns := [], harness := (true, "059693a79dbd9200026941552e7b9b366212092cbdbe9f4a49ed0c5dd98de852"), looks := false }, kinds := [], alts := [], laidByText := true, laidKinds := [.data, .data, .pinned], laidTests := true, laidLooks := .later }
def QueryNotsUptoCardSaid : Prop := Claim7.holds Tryz.pinned (.plain (OpenSpec.upto queryNotsSpec)) queryNotsUptoCard

/-- THE SECOND FORM's CARD OF 'concordancelaw12.QuerySame'. -/
def querySameUptoCard : Claim7 := { stood := { row := querySameUptoRow, standIns := [], harness := (true, "059693a79dbd9200026941552e7b9b366212092cbdbe9f4a49ed0c5dd98de852"), looks := false }, kinds := [], alts := [], laidByText := true, laidKinds := [.data, .data, .pinned], laidTests := true, laidLooks := .later }
def QuerySameUptoCardSaid : Prop := Claim7.holds Tryz.pinned (.plain (OpenSpec.upto querySameSpec)) querySameUptoCard

/-- THE SECOND FORM's CARD OF 'concordancelaw12.QueryKids'. -/
def queryKidsUptoCard : Claim7 := { stood := { row := queryKidsUptoRow, standIns := [], harness := (true, "059693a79dbd9200026941552e7b9b366212092cbdbe9f4a49ed0c5dd98de852"), looks := false }, kinds := [], alts := [], laidByText := true, laidKinds := [.data, .data, .pinned], laidTests := true, laidLooks := .later }
def QueryKidsUptoCardSaid : Prop := Claim7.holds Tryz.pinned (.plain (OpenSpec.upto queryKidsSpec)) queryKidsUptoCard

/-- THE SECOND FORM's CARD OF 'concordancelaw12.QueryDeep'. -/
def queryDeepUptoCard : Claim7 := { stood := { row := queryDeepUptoRow, standIns := [], harness := (true, "059693a79dbd9200026941552e7b9b366212092cbdbe9f4a49ed0c5dd98de852"), looks := false }, kinds := [], alts := [], laidByText := true, laidKinds := [.data, .data, .pinned], laidTests := true, laidLooks := .later }
def QueryDeepUptoCardSaid : Prop := Claim7.holds Tryz.pinned (.plain (OpenSpec.upto queryDeepSpec)) queryDeepUptoCard
end Rows
end Go.Proofs.YtolfkhflbjnakaaGreatDoor
