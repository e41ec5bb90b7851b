/-
  DERIVED. GIVEN WITH THE SEED: THE CARDS: each row of YtlkmpkofgaceiaaGreatDoorRows.lean that lists a variable, with what it lists TIED to the program's text (the seventh form; the later family's looks); each row that meets fmt, with fmt's text TOLD by the authors' own Lean function (tested against real Go, not proved from fmt's source: count such statements apart). THE CARD IS WHAT COUNTS. Prove the row's statement (the work); the ties are given (YtlkmpkofgaceiaaGreatDoorTie.lean); close each card by the builder's one call (the guide's Derived/Test/ToyasCard.lean, 'card_holds'). Laid BY PROGRAM, IN A SANDBOX (cutbox-door.mjs). By AI agents, Wed Nov 11 2026. No macro, syntax, notation, axiom, sorry.
-/
import Derived.Test.YtlkmpkofgaceiaaGreatDoorRows
import GoSem.ClaimSeven
namespace Go.Proofs.YtlkmpkofgaceiaaGreatDoor
namespace Rows

/-- THE TIED CARD OF 'parallaxlaw13.ParserTells'. -/
def parserTellsCard : Claim7 := { stood := { row := parserTellsRow, standIns := [], harness := (true, "d8402ce9e531a6ad7be8ed658359ae9e02ad44ea8a0d343980b7d1a3b4d55825"), looks := false }, kinds := [], alts := [], laidByText := true, laidKinds := [.data, .pinned], laidTests := true, laidLooks := .later }
def ParserTellsCardSaid : Prop := Claim7.holds Tryz.pinned (.plain (OpenSpec.ofChange parserTellsSpec)) parserTellsCard

/-- THE TIED CARD OF 'parallaxlaw13.ParserReads'. -/
def parserReadsCard : Claim7 := { stood := { row := parserReadsRow, standIns := [], harness := (true, "d8402ce9e531a6ad7be8ed658359ae9e02ad44ea8a0d343980b7d1a3b4d55825"), looks := false }, kinds := [], alts := [], laidByText := true, laidKinds := [.data, .pinned], laidTests := true, laidLooks := .later }
def ParserReadsCardSaid : Prop := Claim7.holds Tryz.pinned (.plain (OpenSpec.ofChange parserReadsSpec)) parserReadsCard

/-- THE TIED CARD OF 'parallaxlaw13.ParserForms'. -/
def parserFormsCard : Claim7 := { stood := { row := parserFormsRow, standIns := [], harness := (true, "d8402ce9e531a6ad7be8ed658359ae9e02ad44ea8a0d343980b7d1a3b4d55825"), looks := false }, kinds := [], alts := [], laidByText := true, laidKinds := [.data, .pinned], laidTests := true, laidLooks := .later }
def ParserFormsCardSaid : Prop := Claim7.holds Tryz.pinned (.plain (OpenSpec.ofChange parserFormsSpec)) parserFormsCard

/-- THE TIED CARD OF 'parallaxlaw13.ParserBodies'. -/
def parserBodiesCard : Claim7 := { stood := { row := parserBodiesRow, standIns := [], harness := (true, "d8402ce9e531a6ad7be8ed658359ae9e02ad44ea8a0d343980b7d1a3b4d55825"), looks := false }, kinds := [], alts := [], laidByText := true, laidKinds := [.data, .pinned], laidTests := true, laidLooks := .later }
def ParserBodiesCardSaid : Prop := Claim7.holds Tryz.pinned (.plain (OpenSpec.ofChange parserBodiesSpec)) parserBodiesCard

/-- THE TIED CARD OF 'parallaxlaw13.ParserLong'. -/
def parserLongCard : Claim7 := { stood := { row := parserLongRow, standIns := [], harness := (true, "d8402ce9e531a6ad7be8ed658359ae9e02ad44ea8a0d343980b7d1a3b4d55825"), looks := false }, kinds := [], alts := [], laidByText := true, laidKinds := [.data, .pinned], laidTests := true, laidLooks := .later }
def ParserLongCardSaid : Prop := Claim7.holds Tryz.pinned (.plain (OpenSpec.ofChange parserLongSpec)) parserLongCard

/-- THE TIED CARD OF 'parallaxlaw14.FilterTells'. -/
def filterTellsCard : Claim7 := { stood := { row := filterTellsRow, standIns := [], harness := (true, "d8402ce9e531a6ad7be8ed658359ae9e02ad44ea8a0d343980b7d1a3b4d55825"), looks := false }, kinds := [], alts := [], laidByText := true, laidKinds := [.data, .pinned], laidTests := true, laidLooks := .later }
def FilterTellsCardSaid : Prop := Claim7.holds Tryz.pinned (.plain (OpenSpec.ofChange filterTellsSpec)) filterTellsCard

/-- THE TIED CARD OF 'parallaxlaw14.FilterPasses'. -/
def filterPassesCard : Claim7 := { stood := { row := filterPassesRow, standIns := [], harness := (true, "d8402ce9e531a6ad7be8ed658359ae9e02ad44ea8a0d343980b7d1a3b4d55825"), looks := false }, kinds := [], alts := [], laidByText := true, laidKinds := [.data, .pinned], laidTests := true, laidLooks := .later }
def FilterPassesCardSaid : Prop := Claim7.holds Tryz.pinned (.plain (OpenSpec.ofChange filterPassesSpec)) filterPassesCard

/-- THE TIED CARD OF 'parallaxlaw14.FilterClauses'. -/
def filterClausesCard : Claim7 := { stood := { row := filterClausesRow, standIns := [], harness := (true, "d8402ce9e531a6ad7be8ed658359ae9e02ad44ea8a0d343980b7d1a3b4d55825"), looks := false }, kinds := [], alts := [], laidByText := true, laidKinds := [.data, .pinned], laidTests := true, laidLooks := .later }
def FilterClausesCardSaid : Prop := Claim7.holds Tryz.pinned (.plain (OpenSpec.ofChange filterClausesSpec)) filterClausesCard

/-- THE TIED CARD OF 'parallaxlaw15.WitnessShows'. -/
def witnessShowsCard : Claim7 := { stood := { row := witnessShowsRow, standIns := [], harness := (true, "d8402ce9e531a6ad7be8ed658359ae9e02ad44ea8a0d343980b7d1a3b4d55825"), looks := false }, kinds := [], alts := [], laidByText := true, laidKinds := [.data, .pinned], laidTests := true, laidLooks := .later }
def WitnessShowsCardSaid : Prop := Claim7.holds Tryz.pinned (.plain (OpenSpec.ofChange witnessShowsSpec)) witnessShowsCard

/-- THE TIED CARD OF 'parallaxlaw15.WitnessParts'. -/
def witnessPartsCard : Claim7 := { stood := { row := witnessPartsRow, standIns := [], harness := (true, "d8402ce9e531a6ad7be8ed658359ae9e02ad44ea8a0d343980b7d1a3b4d55825"), looks := false }, kinds := [], alts := [], laidByText := true, laidKinds := [.data, .pinned], laidTests := true, laidLooks := .later }
def WitnessPartsCardSaid : Prop := Claim7.holds Tryz.pinned (.plain (OpenSpec.ofChange witnessPartsSpec)) witnessPartsCard

/-- THE SECOND FORM's CARD OF 'parallaxlaw13.ParserTells'. -/
def parserTellsUptoCard : Claim7 := { stood := { row := parserTellsUptoRow, standIns := [], harness := (true, "d8402ce9e531a6ad7be8ed658359ae9e02ad44ea8a0d343980b7d1a3b4d55825"), looks := false }, kinds := [], alts := [], laidByText := true, laidKinds := [.data, .pinned], laidTests := true, laidLooks := .later }
def ParserTellsUptoCardSaid : Prop := Claim7.holds Tryz.pinned (.plain (OpenSpec.upto parserTellsSpec)) parserTellsUptoCard

/-- THE SECOND FORM's CARD OF 'parallaxlaw13.ParserReads'. -/
def parserReadsUptoCard : Claim7 := { stood := { row := parserReadsUptoRow, standIns := [], harness := (true, "d8402ce9e531a6ad7be8ed658359ae9e02ad44ea8a0d343980b7d1a3b4d55825"), looks := false }, kinds := [], alts := [], laidByText := true, laidKinds := [.data, .pinned], laidTests := true, laidLooks := .later }
def ParserReadsUptoCardSaid : Prop := Claim7.holds Tryz.pinned (.plain (OpenSpec.upto parserReadsSpec)) parserReadsUptoCard

/-- THE SECOND FORM's CARD OF 'parallaxlaw13.ParserForms'. -/
def parserFormsUptoCard : Claim7 := { stood := { row := parserFormsUptoRow, standIns := [], harness := (true, "d8402ce9e531a6ad7be8ed658359ae9e02ad44ea8a0d343980b7d1a3b4d55825"), looks := false }, kinds := [], alts := [], laidByText := true, laidKinds := [.data, .pinned], laidTests := true, laidLooks := .later }
def ParserFormsUptoCardSaid : Prop := Claim7.holds Tryz.pinned (.plain (OpenSpec.upto parserFormsSpec)) parserFormsUptoCard

/-- THE SECOND FORM's CARD OF 'parallaxlaw13.ParserBodies'. -/
def parserBodiesUptoCard : Claim7 := { stood := { row := parserBodiesUptoRow, standIns := [], harness := (true, "d8402ce9e531a6ad7be8ed658359ae9e02ad44ea8a0d343980b7d1a3b4d55825"), looks := false }, kinds := [], alts := [], laidByText := true, laidKinds := [.data, .pinned], laidTests := true, laidLooks := .later }
def ParserBodiesUptoCardSaid : Prop := Claim7.holds Tryz.pinned (.plain (OpenSpec.upto parserBodiesSpec)) parserBodiesUptoCard

/-- THE SECOND FORM's CARD OF 'parallaxlaw13.ParserLong'. -/
def parserLongUptoCard : Claim7 := { stood := { row := parserLongUptoRow, standIns := [], harness := (true, "d8402ce9e531a6ad7be8ed658359ae9e02ad44ea8a0d343980b7d1a3b4d55825"), looks := false }, kinds := [], alts := [], laidByText := true, laidKinds := [.data, .pinned], laidTests := true, laidLooks := .later }
def ParserLongUptoCardSaid : Prop := Claim7.holds Tryz.pinned (.plain (OpenSpec.upto parserLongSpec)) parserLongUptoCard

/-- THE SECOND FORM's CARD OF 'parallaxlaw14.FilterTells'. -/
def filterTellsUptoCard : Claim7 := { stood := { row := filterTellsUptoRow, standIns := [], harness := (true, "d8402ce9e531a6ad7be8ed658359ae9e02ad44ea8a0d343980b7d1a3b4d55825"), looks := false }, kinds := [], alts := [], laidByText := true, laidKinds := [.data, .pinned], laidTests := true, laidLooks := .later }
def FilterTellsUptoCardSaid : Prop := Claim7.holds Tryz.pinned (.plain (OpenSpec.upto filterTellsSpec)) filterTellsUptoCard

/-- THE SECOND FORM's CARD OF 'parallaxlaw14.FilterPasses'. -/
def filterPassesUptoCard : Claim7 := { stood := { row := filterPassesUptoRow, standIns := [], harness := (true, "d8402ce9e531a6ad7be8ed658359ae9e02ad44ea8a0d343980b7d1a3b4d55825"), looks := false }, kinds := [], alts := [], laidByText := true, laidKinds := [.data, .pinned], laidTests := true, laidLooks := .later }
def FilterPassesUptoCardSaid : Prop := Claim7.holds Tryz.pinned (.plain (OpenSpec.upto filterPassesSpec)) filterPassesUptoCard

/-- THE SECOND FORM's CARD OF 'parallaxlaw14.FilterClauses'. -/
def filterClausesUptoCard : Claim7 := { stood := { row := filterClausesUptoRow, standIns := [], harness := (true, "d8402ce9e531a6ad7be8ed658359ae9e02ad44ea8a0d343980b7d1a3b4d55825"), looks := false }, kinds := [], alts := [], laidByText := true, laidKinds := [.data, .pinned], laidTests := true, laidLooks := .later }
def FilterClausesUptoCardSaid : Prop := Claim7.holds Tryz.pinned (.plain (OpenSpec.upto filterClausesSpec)) filterClausesUptoCard

/-- THE SECOND FORM's CARD OF 'parallaxlaw15.WitnessShows'. -/
def witnessShowsUptoCard : Claim7 := { stood := { row := witnessShowsUptoRow, standIns := [], harness := (true, "d8402ce9e531a6ad7be8ed658359ae9e02ad44ea8a0d343980b7d1a3b4d55825"), looks := false }, kinds := [], alts := [], laidByText := true, laidKinds := [.data, .pinned], laidTests := true, laidLooks := .later }
def WitnessShowsUptoCardSaid : Prop := Claim7.holds Tryz.pinned (.plain (OpenSpec.upto witnessShowsSpec)) witnessShowsUptoCard

/-- THE SECOND FORM's CARD OF 'parallaxlaw15.WitnessParts'. -/
def witnessPartsUptoCard : Claim7 := { stood := { row := witnessPartsUptoRow, standIns := [], harness := (true, "d8402ce9e531a6ad7be8ed658359ae9e02ad44ea8a0d343980b7d1a3b4d55825"), looks := false }, kinds := [], alts := [], laidByText := true, laidKinds := [.data, .pinned], laidTests := true, laidLooks := .later }
def WitnessPartsUptoCardSaid : Prop := Claim7.holds Tryz.pinned (.plain (OpenSpec.upto witnessPartsSpec)) witnessPartsUptoCard
end Rows
end Go.Proofs.YtlkmpkofgaceiaaGreatDoor
