/-
  DERIVED. GIVEN WITH THE SEED: THE CARDS: each row of YtdfabddnpgjepaaGreatDoorRows.lean that lists a variable, with what it lists TIED to the program's text (the seventh form; the later family's looks); each row that meets fmt, with fmt's text TOLD by the authors' own Lean function (tested against real Go, not proved from fmt's source: count such statements apart). THE CARD IS WHAT COUNTS. Prove the row's statement (the work); the ties are given (YtdfabddnpgjepaaGreatDoorTie.lean); close each card by the builder's one call (the guide's Derived/Test/ToyasCard.lean, 'card_holds'). Laid BY PROGRAM, IN A SANDBOX (cutbox-door.mjs). By AI agents, Wed Nov 11 2026. No macro, syntax, notation, axiom, sorry.
-/
import Derived.Test.YtdfabddnpgjepaaGreatDoorRows
import GoSem.ClaimSeven
namespace Go.Proofs.YtdfabddnpgjepaaGreatDoor
namespace Rows

/-- THE TIED CARD OF 'parallaxlaw13.ParserTells'. -/
def parserTellsCard : Claim7 := { stood := { row := parserTellsRow, standIns := [], harness := (true, "b63e84d3e62373e09f56f028215201d976607585ee19ef6d4203380cd153c1a6"), looks := false }, kinds := [], alts := [], laidByText := true, laidKinds := [.data, .pinned], laidTests := true, laidLooks := .later }
def ParserTellsCardSaid : Prop := Claim7.holds Tryz.pinned (.plain (OpenSpec.ofChange parserTellsSpec)) parserTellsCard

/-- THE TIED CARD OF 'parallaxlaw14.FilterTells'. -/
def filterTellsCard : Claim7 := { stood := { row := filterTellsRow, standIns := [], harness := (true, "b63e84d3e62373e09f56f028215201d976607585ee19ef6d4203380cd153c1a6"), looks := false }, kinds := [], alts := [], laidByText := true, laidKinds := [.data, .pinned], laidTests := true, laidLooks := .later }
def FilterTellsCardSaid : Prop := Claim7.holds Tryz.pinned (.plain (OpenSpec.ofChange filterTellsSpec)) filterTellsCard

/-- THE TIED CARD OF 'parallaxlaw15.WitnessShows'. -/
def witnessShowsCard : Claim7 := { stood := { row := witnessShowsRow, standIns := [], harness := (true, "b63e84d3e62373e09f56f028215201d976607585ee19ef6d4203380cd153c1a6"), looks := false }, kinds := [], alts := [], laidByText := true, laidKinds := [.data, .pinned], laidTests := true, laidLooks := .later }
def WitnessShowsCardSaid : Prop := Claim7.holds Tryz.pinned (.plain (OpenSpec.ofChange witnessShowsSpec)) witnessShowsCard

/-- THE TIED CARD OF 'parallaxlaw15.WitnessParts'. -/
def witnessPartsCard : Claim7 := { stood := { row := witnessPartsRow, standIns := [], harness := (true, "b63e84d3e62373e09f56f028215201d976607585ee19ef6d4203380cd153c1a6"), looks := false }, kinds := [], alts := [], laidByText := true, laidKinds := [.data, .pinned], laidTests := true, laidLooks := .later }
def WitnessPartsCardSaid : Prop := Claim7.holds Tryz.pinned (.plain (OpenSpec.ofChange witnessPartsSpec)) witnessPartsCard

/-- THE TIED CARD OF 'parallaxlaw17.CanonTells'. -/
def canonTellsCard : Claim7 := { stood := { row := canonTellsRow, standIns := [], harness := (true, "b63e84d3e62373e09f56f028215201d976607585ee19ef6d4203380cd153c1a6"), looks := false }, kinds := [], alts := [], laidByText := true, laidKinds := [.data, .pinned], laidTests := true, laidLooks := .later }
def CanonTellsCardSaid : Prop := Claim7.holds Tryz.pinned (.plain (OpenSpec.ofChange canonTellsSpec)) canonTellsCard

/-- THE TIED CARD OF 'parallaxlaw17.CanonOne'. -/
def canonOneCard : Claim7 := { stood := { row := canonOneRow, standIns := [], harness := (true, "b63e84d3e62373e09f56f028215201d976607585ee19ef6d4203380cd153c1a6"), looks := false }, kinds := [], alts := [], laidByText := true, laidKinds := [.data, .pinned], laidTests := true, laidLooks := .later }
def CanonOneCardSaid : Prop := Claim7.holds Tryz.pinned (.plain (OpenSpec.ofChange canonOneSpec)) canonOneCard

/-- THE TIED CARD OF 'parallaxlaw17.CanonAgain'. -/
def canonAgainCard : Claim7 := { stood := { row := canonAgainRow, standIns := [], harness := (true, "b63e84d3e62373e09f56f028215201d976607585ee19ef6d4203380cd153c1a6"), looks := false }, kinds := [], alts := [], laidByText := true, laidKinds := [.data, .pinned], laidTests := true, laidLooks := .later }
def CanonAgainCardSaid : Prop := Claim7.holds Tryz.pinned (.plain (OpenSpec.ofChange canonAgainSpec)) canonAgainCard

/-- THE SECOND FORM's CARD OF 'parallaxlaw13.ParserTells'. -/
def parserTellsUptoCard : Claim7 := { stood := { row := parserTellsUptoRow, standIns := [], harness := (true, "b63e84d3e62373e09f56f028215201d976607585ee19ef6d4203380cd153c1a6"), looks := false }, kinds := [], alts := [], laidByText := true, laidKinds := [.data, .pinned], laidTests := true, laidLooks := .later }
def ParserTellsUptoCardSaid : Prop := Claim7.holds Tryz.pinned (.plain (OpenSpec.upto parserTellsSpec)) parserTellsUptoCard

/-- THE SECOND FORM's CARD OF 'parallaxlaw14.FilterTells'. -/
def filterTellsUptoCard : Claim7 := { stood := { row := filterTellsUptoRow, standIns := [], harness := (true, "b63e84d3e62373e09f56f028215201d976607585ee19ef6d4203380cd153c1a6"), looks := false }, kinds := [], alts := [], laidByText := true, laidKinds := [.data, .pinned], laidTests := true, laidLooks := .later }
def FilterTellsUptoCardSaid : Prop := Claim7.holds Tryz.pinned (.plain (OpenSpec.upto filterTellsSpec)) filterTellsUptoCard

/-- THE SECOND FORM's CARD OF 'parallaxlaw15.WitnessShows'. -/
def witnessShowsUptoCard : Claim7 := { stood := { row := witnessShowsUptoRow, standIns := [], harness := (true, "b63e84d3e62373e09f56f028215201d976607585ee19ef6d4203380cd153c1a6"), looks := false }, kinds := [], alts := [], laidByText := true, laidKinds := [.data, .pinned], laidTests := true, laidLooks := .later }
def WitnessShowsUptoCardSaid : Prop := Claim7.holds Tryz.pinned (.plain (OpenSpec.upto witnessShowsSpec)) witnessShowsUptoCard

/-- THE SECOND FORM's CARD OF 'parallaxlaw15.WitnessParts'. -/
def witnessPartsUptoCard : Claim7 := { stood := { row := witnessPartsUptoRow, standIns := [], harness := (true, "b63e84d3e62373e09f56f028215201d976607585ee19ef6d4203380cd153c1a6"), looks := false }, kinds := [], alts := [], laidByText := true, laidKinds := [.data, .pinned], laidTests := true, laidLooks := .later }
def WitnessPartsUptoCardSaid : Prop := Claim7.holds Tryz.pinned (.plain (OpenSpec.upto witnessPartsSpec)) witnessPartsUptoCard

/-- THE SECOND FORM's CARD OF 'parallaxlaw17.CanonTells'. -/
def canonTellsUptoCard : Claim7 := { stood := { row := canonTellsUptoRow, standIns := [], harness := (true, "b63e84d3e62373e09f56f028215201d976607585ee19ef6d4203380cd153c1a6"), looks := false }, kinds := [], alts := [], laidByText := true, laidKinds := [.data, .pinned], laidTests := true, laidLooks := .later }
def CanonTellsUptoCardSaid : Prop := Claim7.holds Tryz.pinned (.plain (OpenSpec.upto canonTellsSpec)) canonTellsUptoCard

/-- THE SECOND FORM's CARD OF 'parallaxlaw17.CanonOne'. -/
def canonOneUptoCard : Claim7 := { stood := { row := canonOneUptoRow, standIns := [], harness := (true, "b63e84d3e62373e09f56f028215201d976607585ee19ef6d4203380cd153c1a6"), looks := false }, kinds := [], alts := [], laidByText := true, laidKinds := [.data, .pinned], laidTests := true, laidLooks := .later }
def CanonOneUptoCardSaid : Prop := Claim7.holds Tryz.pinned (.plain (OpenSpec.upto canonOneSpec)) canonOneUptoCard

/-- THE SECOND FORM's CARD OF 'parallaxlaw17.CanonAgain'. -/
def canonAgainUptoCard : Claim7 := { stood := { row := canonAgainUptoRow, standIns := [], harness := (true, "b63e84d3e62373e09f56f028215201d976607585ee19ef6d4203380cd153c1a6"), looks := false }, kinds := [], alts := [], laidByText := true, laidKinds := [.data, .pinned], laidTests := true, laidLooks := .later }
def CanonAgainUptoCardSaid : Prop := Claim7.holds Tryz.pinned (.plain (OpenSpec.upto canonAgainSpec)) canonAgainUptoCard
end Rows
end Go.Proofs.YtdfabddnpgjepaaGreatDoor
