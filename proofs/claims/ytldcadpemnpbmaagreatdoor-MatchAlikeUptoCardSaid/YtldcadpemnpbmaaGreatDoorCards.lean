/-
  DERIVED. GIVEN WITH THE SEED: THE CARDS: each row of YtldcadpemnpbmaaGreatDoorRows.lean that lists a variable, with what it lists TIED to the program's text (the seventh form; the later family's looks); each row that meets fmt, with fmt's text TOLD by the authors' own Lean function (tested against real Go, not proved from fmt's source: count such statements apart). THE CARD IS WHAT COUNTS. Prove the row's statement (the work); the ties are given (YtldcadpemnpbmaaGreatDoorTie.lean); close each card by the builder's one call (the guide's Derived/Test/ToyasCard.lean, 'card_holds'). Laid BY PROGRAM, IN A SANDBOX (cutbox-door.mjs). By AI agents, Wed Nov 11 2026. No macro, syntax, notation, axiom, sorry.
-/
import Derived.Test.YtldcadpemnpbmaaGreatDoorRows
import GoSem.ClaimSeven
namespace Go.Proofs.YtldcadpemnpbmaaGreatDoor
namespace Rows

/-- THE TIED CARD OF 'concordancelaw12.QueryTerms'. -/
def queryTermsCard : Claim7 := { stood := { row := queryTermsRow, standIns := [], harness := (true, "536884ead562b104decbf7c26e2acce155eb3e2f354302bd8c14058db2c10f18"), looks := false }, kinds := [], alts := [], laidByText := true, laidKinds := [.data, .data, .pinned], laidTests := true, laidLooks := .later }
def QueryTermsCardSaid : Prop := Claim7.holds Tryz.pinned (.plain (OpenSpec.ofChange queryTermsSpec)) queryTermsCard

/-- THE TIED CARD OF 'concordancelaw13.MatchMatches'. -/
def matchMatchesCard : Claim7 := { stood := { row := matchMatchesRow, standIns := [], harness := (true, "536884ead562b104decbf7c26e2acce155eb3e2f354302bd8c14058db2c10f18"), looks := false }, kinds := [], alts := [], laidByText := true, laidKinds := [.data], laidTests := true, laidLooks := .later }
def MatchMatchesCardSaid : Prop := Claim7.holds Tryz.pinned (.plain (OpenSpec.ofChange matchMatchesSpec)) matchMatchesCard

/-- THE TIED CARD OF 'concordancelaw13.MatchRefuses'. -/
def matchRefusesCard : Claim7 := { stood := { row := matchRefusesRow, standIns := [], harness := (true, "536884ead562b104decbf7c26e2acce155eb3e2f354302bd8c14058db2c10f18"), looks := false }, kinds := [], alts := [], laidByText := true, laidKinds := [.data], laidTests := true, laidLooks := .later }
def MatchRefusesCardSaid : Prop := Claim7.holds Tryz.pinned (.plain (OpenSpec.ofChange matchRefusesSpec)) matchRefusesCard

/-- THE TIED CARD OF 'concordancelaw13.MatchAlike'. -/
def matchAlikeCard : Claim7 := { stood := { row := matchAlikeRow, standIns := [], harness := (true, "536884ead562b104decbf7c26e2acce155eb3e2f354302bd8c14058db2c10f18"), looks := false }, kinds := [], alts := [], laidByText := true, laidKinds := [.data], laidTests := true, laidLooks := .later }
def MatchAlikeCardSaid : Prop := Claim7.holds Tryz.pinned (.plain (OpenSpec.ofChange matchAlikeSpec)) matchAlikeCard

/-- THE TIED CARD OF 'concordancelaw13.MatchParts'. -/
def matchPartsCard : Claim7 := { stood := { row := matchPartsRow, standIns := [], harness := (true, "536884ead562b104decbf7c26e2acce155eb3e2f354302bd8c14058db2c10f18"), looks := false }, kinds := [], alts := [], laidByText := true, laidKinds := [.data], laidTests := true, laidLooks := .later }
def MatchPartsCardSaid : Prop := Claim7.holds Tryz.pinned (.plain (OpenSpec.ofChange matchPartsSpec)) matchPartsCard

/-- THE SECOND FORM's CARD OF 'concordancelaw12.QueryTerms'. -/
def queryTermsUptoCard : Claim7 := { stood := { row := queryTermsUptoRow, standIns := [], harness := (true, "536884ead562b104decbf7c26e2acce155eb3e2f354302bd8c14058db2c10f18"), looks := false }, kinds := [], alts := [], laidByText := true, laidKinds := [.data, .data, .pinned], laidTests := true, laidLooks := .later }
def QueryTermsUptoCardSaid : Prop := Claim7.holds Tryz.pinned (.plain (OpenSpec.upto queryTermsSpec)) queryTermsUptoCard

/-- THE SECOND FORM's CARD OF 'concordancelaw13.MatchMatches'. -/
def matchMatchesUptoCard : Claim7 := { stood := { row := matchMatchesUptoRow, standIns := [], harness := (true, "536884ead562b104decbf7c26e2acce155eb3e2f354302bd8c14058db2c10f18"), looks := false }, kinds := [], alts := [], laidByText := true, laidKinds := [.data], laidTests := true, laidLooks := .later }
def MatchMatchesUptoCardSaid : Prop := Claim7.holds Tryz.pinned (.plain (OpenSpec.upto matchMatchesSpec)) matchMatchesUptoCard

/-- THE SECOND FORM's CARD OF 'concordancelaw13.MatchRefuses'. -/
def matchRefusesUptoCard : Claim7 := { stood := { row := matchRefusesUptoRow, standIns := [], harness := (true, "536884ead562b104decbf7c26e2acce155eb3e2f354302bd8c14058db2c10f18"), looks := false }, kinds := [], alts := [], laidByText := true, laidKinds := [.data], laidTests := true, laidLooks := .later }
def MatchRefusesUptoCardSaid : Prop := Claim7.holds Tryz.pinned (.plain (OpenSpec.upto matchRefusesSpec)) matchRefusesUptoCard

/-- THE SECOND FORM's CARD OF 'concordancelaw13.MatchAlike'. -/
def matchAlikeUptoCard : Claim7 := { stood := { row := matchAlikeUptoRow, standIns := [], harness := (true, "536884ead562b104decbf7c26e2acce155eb3e2f354302bd8c14058db2c10f18"), looks := false }, kinds := [], alts := [], laidByText := true, laidKinds := [.data], laidTests := true, laidLooks := .later }
def MatchAlikeUptoCardSaid : Prop := Claim7.holds Tryz.pinned (.plain (OpenSpec.upto matchAlikeSpec)) matchAlikeUptoCard

/-- THE SECOND FORM's CARD OF 'concordancelaw13.MatchParts'. -/
def matchPartsUptoCard : Claim7 := { stood := { row := matchPartsUptoRow, standIns := [], harness := (true, "536884ead562b104decbf7c26e2acce155eb3e2f354302bd8c14058db2c10f18"), looks := false }, kinds := [], alts := [], laidByText := true, laidKinds := [.data], laidTests := true, laidLooks := .later }
def MatchPartsUptoCardSaid : Prop := Claim7.holds Tryz.pinned (.plain (OpenSpec.upto matchPartsSpec)) matchPartsUptoCard
end Rows
end Go.Proofs.YtldcadpemnpbmaaGreatDoor
