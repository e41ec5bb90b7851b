/-
  NARROWER THAN 'FOR EVERY INPUT', by the rows' own cells (each row's printed sentence says how): ParserTells: laid · ParserReads: laid · ParserForms: laid · ParserBodies: laid · ParserLong: laid · FilterTells: laid · FilterPasses: laid · FilterClauses: laid · WitnessShows: laid · WitnessParts: laid.
  DERIVED. THE GIVEN ROWS OF THIS SEAT. 10 by the template 'for every input the law returns true; each argument reads behind the call as it read before'; 0 by the template 'total and deterministic' (their statements: YtlkmpkofgaceiaaGreatDoorTotals.lean).
  GIVEN WITH THE SEED: the statements are not yours to turn. If you find one false, say at which input.
  Laid BY PROGRAM, IN A SANDBOX (cutbox-rows.mjs): the forced cells as the released guide's own fill.sh prints them over the translation 37f2f1e1d331f36a… (all of the seat's roots in one cut). By AI agents, Wed Nov 11 2026. No macro, syntax, notation, axiom, sorry.
-/
import Derived.Test.YtlkmpkofgaceiaaGreatDoorChecked
import GoSem.PinnedTables
import GoSem.Claim
import GoSem.ClaimJoined
import GoSem.ClaimMapViews
import Derived.JoinedTies
import Derived.KernelRfl
namespace Go.Proofs.YtlkmpkofgaceiaaGreatDoor
/- THE CELL 'sum', in the pinned program and in every row, IS THE sha256 OF THE DUMP (.gsa) THAT YtlkmpkofgaceiaaGreatDoorProg.lean LOADS. Nothing in Lean hashes anything: it is a label: what it is worth is what the hold of that sum in a sandbox is worth. -/
noncomputable def Tryz.pinned : Pinned := { name := "ytlkmpkofgaceiaagreatdoor", sum := "37f2f1e1d331f36a28c9951c8739772f4989bfeaec33a03256b0830f5bf2f082", checked := Tryz.checked }
namespace Rows
def none {H : Type} : Left H := { results := [], args := [] }

/- WHAT THE LISTED PACKAGE-LEVEL VARIABLES READ AS WHEN THE CALL BEGINS. Each datum BY PROGRAM (the guide's laid-datum.mjs) off the statement by which the dump's own 'gosem.cut.vars' lays the variable. In a bare row this is a premise. The card (YtlkmpkofgaceiaaGreatDoorCards.lean) ties it to the program's text. -/
def laid_unicode_utf8_acceptRanges {H : Type} : DataW H := .agg [.agg [.lit (.int .u8 128), .lit (.int .u8 191)], .agg [.lit (.int .u8 160), .lit (.int .u8 191)], .agg [.lit (.int .u8 128), .lit (.int .u8 159)], .agg [.lit (.int .u8 144), .lit (.int .u8 191)], .agg [.lit (.int .u8 128), .lit (.int .u8 143)], .agg [.lit (.int .u8 0), .lit (.int .u8 0)], .agg [.lit (.int .u8 0), .lit (.int .u8 0)], .agg [.lit (.int .u8 0), .lit (.int .u8 0)], .agg [.lit (.int .u8 0), .lit (.int .u8 0)], .agg [.lit (.int .u8 0), .lit (.int .u8 0)], .agg [.lit (.int .u8 0), .lit (.int .u8 0)], .agg [.lit (.int .u8 0), .lit (.int .u8 0)], .agg [.lit (.int .u8 0), .lit (.int .u8 0)], .agg [.lit (.int .u8 0), .lit (.int .u8 0)], .agg [.lit (.int .u8 0), .lit (.int .u8 0)], .agg [.lit (.int .u8 0), .lit (.int .u8 0)]]
/-- One of Go's own tables, pinned by name: the form's constant. -/
def laid_unicode_utf8_first : DataW Unit := Go.Pinned.utf8First

/-- 'parallaxlaw13.ParserTells': WHATEVER THE INPUT: true; the input reads as it did. -/
def parserTellsSpec : ChangeSpec := { name := "parserTells", fn := fun _ => fun
  | [d1, d2, d3, d4, d5, d6, d7, d8] => { results := [.lit (.bool true)], args := [d1, d2, d3, d4, d5, d6, d7, d8] }
  | _ => none }
def parserTellsRow : OpenClaim := { program := "ytlkmpkofgaceiaagreatdoor", sum := "37f2f1e1d331f36a28c9951c8739772f4989bfeaec33a03256b0830f5bf2f082", func := "parallax/parallaxlaw13.ParserTells", spec := "parserTells", inPlace := ["internal/bytealg.CountString", "internal/bytealg.IndexByteString", "internal/bytealg.IndexString"], unfollowed := true, recurses := true, named := ["unicode/utf8.first", "unicode/utf8.acceptRanges", "internal/bytealg.MaxLen"], apart := false, laid := [("unicode/utf8.acceptRanges", laid_unicode_utf8_acceptRanges), ("unicode/utf8.first", laid_unicode_utf8_first)] }
def ParserTellsSaid : Prop := parserTellsRow.holds Tryz.pinned (OpenSpec.ofChange parserTellsSpec)

/-- ITS FALSE NEIGHBOUR: 'it returns false'. Refute it at one input. -/
def parserTellsWrong : ChangeSpec := { name := "parserTells", fn := fun _ => fun
  | [d1, d2, d3, d4, d5, d6, d7, d8] => { results := [.lit (.bool false)], args := [d1, d2, d3, d4, d5, d6, d7, d8] }
  | _ => none }
def ParserTellsWrongFalsely : Prop := parserTellsRow.holds Tryz.pinned (OpenSpec.ofChange parserTellsWrong)

/-- 'parallaxlaw13.ParserReads': WHATEVER THE INPUT: true; the input reads as it did. -/
def parserReadsSpec : ChangeSpec := { name := "parserReads", fn := fun _ => fun
  | [d1, d2, d3, d4] => { results := [.lit (.bool true)], args := [d1, d2, d3, d4] }
  | _ => none }
def parserReadsRow : OpenClaim := { program := "ytlkmpkofgaceiaagreatdoor", sum := "37f2f1e1d331f36a28c9951c8739772f4989bfeaec33a03256b0830f5bf2f082", func := "parallax/parallaxlaw13.ParserReads", spec := "parserReads", inPlace := ["internal/bytealg.CountString", "internal/bytealg.IndexByteString", "internal/bytealg.IndexString"], unfollowed := true, recurses := true, named := ["unicode/utf8.first", "unicode/utf8.acceptRanges", "internal/bytealg.MaxLen"], apart := false, laid := [("unicode/utf8.acceptRanges", laid_unicode_utf8_acceptRanges), ("unicode/utf8.first", laid_unicode_utf8_first)] }
def ParserReadsSaid : Prop := parserReadsRow.holds Tryz.pinned (OpenSpec.ofChange parserReadsSpec)

/-- ITS FALSE NEIGHBOUR: 'it returns false'. Refute it at one input. -/
def parserReadsWrong : ChangeSpec := { name := "parserReads", fn := fun _ => fun
  | [d1, d2, d3, d4] => { results := [.lit (.bool false)], args := [d1, d2, d3, d4] }
  | _ => none }
def ParserReadsWrongFalsely : Prop := parserReadsRow.holds Tryz.pinned (OpenSpec.ofChange parserReadsWrong)

/-- 'parallaxlaw13.ParserForms': WHATEVER THE INPUT: true; the input reads as it did. -/
def parserFormsSpec : ChangeSpec := { name := "parserForms", fn := fun _ => fun
  | [d1, d2, d3] => { results := [.lit (.bool true)], args := [d1, d2, d3] }
  | _ => none }
def parserFormsRow : OpenClaim := { program := "ytlkmpkofgaceiaagreatdoor", sum := "37f2f1e1d331f36a28c9951c8739772f4989bfeaec33a03256b0830f5bf2f082", func := "parallax/parallaxlaw13.ParserForms", spec := "parserForms", inPlace := ["internal/bytealg.CountString", "internal/bytealg.IndexByteString", "internal/bytealg.IndexString"], unfollowed := true, recurses := true, named := ["unicode/utf8.first", "unicode/utf8.acceptRanges", "internal/bytealg.MaxLen"], apart := false, laid := [("unicode/utf8.acceptRanges", laid_unicode_utf8_acceptRanges), ("unicode/utf8.first", laid_unicode_utf8_first)] }
def ParserFormsSaid : Prop := parserFormsRow.holds Tryz.pinned (OpenSpec.ofChange parserFormsSpec)

/-- ITS FALSE NEIGHBOUR: 'it returns false'. Refute it at one input. -/
def parserFormsWrong : ChangeSpec := { name := "parserForms", fn := fun _ => fun
  | [d1, d2, d3] => { results := [.lit (.bool false)], args := [d1, d2, d3] }
  | _ => none }
def ParserFormsWrongFalsely : Prop := parserFormsRow.holds Tryz.pinned (OpenSpec.ofChange parserFormsWrong)

/-- 'parallaxlaw13.ParserBodies': WHATEVER THE INPUT: true; the input reads as it did. -/
def parserBodiesSpec : ChangeSpec := { name := "parserBodies", fn := fun _ => fun
  | [d1, d2, d3] => { results := [.lit (.bool true)], args := [d1, d2, d3] }
  | _ => none }
def parserBodiesRow : OpenClaim := { program := "ytlkmpkofgaceiaagreatdoor", sum := "37f2f1e1d331f36a28c9951c8739772f4989bfeaec33a03256b0830f5bf2f082", func := "parallax/parallaxlaw13.ParserBodies", spec := "parserBodies", inPlace := ["internal/bytealg.CountString", "internal/bytealg.IndexByteString", "internal/bytealg.IndexString"], unfollowed := true, recurses := true, named := ["unicode/utf8.first", "unicode/utf8.acceptRanges", "internal/bytealg.MaxLen"], apart := false, laid := [("unicode/utf8.acceptRanges", laid_unicode_utf8_acceptRanges), ("unicode/utf8.first", laid_unicode_utf8_first)] }
def ParserBodiesSaid : Prop := parserBodiesRow.holds Tryz.pinned (OpenSpec.ofChange parserBodiesSpec)

/-- ITS FALSE NEIGHBOUR: 'it returns false'. Refute it at one input. -/
def parserBodiesWrong : ChangeSpec := { name := "parserBodies", fn := fun _ => fun
  | [d1, d2, d3] => { results := [.lit (.bool false)], args := [d1, d2, d3] }
  | _ => none }
def ParserBodiesWrongFalsely : Prop := parserBodiesRow.holds Tryz.pinned (OpenSpec.ofChange parserBodiesWrong)

/-- 'parallaxlaw13.ParserLong': WHATEVER THE INPUT: true; the input reads as it did. -/
def parserLongSpec : ChangeSpec := { name := "parserLong", fn := fun _ => fun
  | [d1, d2, d3, d4] => { results := [.lit (.bool true)], args := [d1, d2, d3, d4] }
  | _ => none }
def parserLongRow : OpenClaim := { program := "ytlkmpkofgaceiaagreatdoor", sum := "37f2f1e1d331f36a28c9951c8739772f4989bfeaec33a03256b0830f5bf2f082", func := "parallax/parallaxlaw13.ParserLong", spec := "parserLong", inPlace := ["internal/bytealg.CountString", "internal/bytealg.IndexByteString", "internal/bytealg.IndexString"], unfollowed := true, recurses := true, named := ["unicode/utf8.first", "unicode/utf8.acceptRanges", "internal/bytealg.MaxLen"], apart := false, laid := [("unicode/utf8.acceptRanges", laid_unicode_utf8_acceptRanges), ("unicode/utf8.first", laid_unicode_utf8_first)] }
def ParserLongSaid : Prop := parserLongRow.holds Tryz.pinned (OpenSpec.ofChange parserLongSpec)

/-- ITS FALSE NEIGHBOUR: 'it returns false'. Refute it at one input. -/
def parserLongWrong : ChangeSpec := { name := "parserLong", fn := fun _ => fun
  | [d1, d2, d3, d4] => { results := [.lit (.bool false)], args := [d1, d2, d3, d4] }
  | _ => none }
def ParserLongWrongFalsely : Prop := parserLongRow.holds Tryz.pinned (OpenSpec.ofChange parserLongWrong)

/-- 'parallaxlaw14.FilterTells': WHATEVER THE INPUT: true; the input reads as it did. -/
def filterTellsSpec : ChangeSpec := { name := "filterTells", fn := fun _ => fun
  | [d1, d2, d3, d4, d5, d6] => { results := [.lit (.bool true)], args := [d1, d2, d3, d4, d5, d6] }
  | _ => none }
def filterTellsRow : OpenClaim := { program := "ytlkmpkofgaceiaagreatdoor", sum := "37f2f1e1d331f36a28c9951c8739772f4989bfeaec33a03256b0830f5bf2f082", func := "parallax/parallaxlaw14.FilterTells", spec := "filterTells", inPlace := ["internal/bytealg.CountString", "internal/bytealg.IndexByteString", "internal/bytealg.IndexString"], unfollowed := true, recurses := true, named := ["unicode/utf8.first", "unicode/utf8.acceptRanges", "internal/bytealg.MaxLen"], apart := false, laid := [("unicode/utf8.acceptRanges", laid_unicode_utf8_acceptRanges), ("unicode/utf8.first", laid_unicode_utf8_first)] }
def FilterTellsSaid : Prop := filterTellsRow.holds Tryz.pinned (OpenSpec.ofChange filterTellsSpec)

/-- ITS FALSE NEIGHBOUR: 'it returns false'. Refute it at one input. -/
def filterTellsWrong : ChangeSpec := { name := "filterTells", fn := fun _ => fun
  | [d1, d2, d3, d4, d5, d6] => { results := [.lit (.bool false)], args := [d1, d2, d3, d4, d5, d6] }
  | _ => none }
def FilterTellsWrongFalsely : Prop := filterTellsRow.holds Tryz.pinned (OpenSpec.ofChange filterTellsWrong)

/-- 'parallaxlaw14.FilterPasses': WHATEVER THE INPUT: true; the input reads as it did. -/
def filterPassesSpec : ChangeSpec := { name := "filterPasses", fn := fun _ => fun
  | [d1, d2, d3] => { results := [.lit (.bool true)], args := [d1, d2, d3] }
  | _ => none }
def filterPassesRow : OpenClaim := { program := "ytlkmpkofgaceiaagreatdoor", sum := "37f2f1e1d331f36a28c9951c8739772f4989bfeaec33a03256b0830f5bf2f082", func := "parallax/parallaxlaw14.FilterPasses", spec := "filterPasses", inPlace := ["internal/bytealg.CountString", "internal/bytealg.IndexByteString", "internal/bytealg.IndexString"], unfollowed := true, recurses := true, named := ["unicode/utf8.first", "unicode/utf8.acceptRanges", "internal/bytealg.MaxLen"], apart := false, laid := [("unicode/utf8.acceptRanges", laid_unicode_utf8_acceptRanges), ("unicode/utf8.first", laid_unicode_utf8_first)] }
def FilterPassesSaid : Prop := filterPassesRow.holds Tryz.pinned (OpenSpec.ofChange filterPassesSpec)

/-- ITS FALSE NEIGHBOUR: 'it returns false'. Refute it at one input. -/
def filterPassesWrong : ChangeSpec := { name := "filterPasses", fn := fun _ => fun
  | [d1, d2, d3] => { results := [.lit (.bool false)], args := [d1, d2, d3] }
  | _ => none }
def FilterPassesWrongFalsely : Prop := filterPassesRow.holds Tryz.pinned (OpenSpec.ofChange filterPassesWrong)

/-- 'parallaxlaw14.FilterClauses': WHATEVER THE INPUT: true; the input reads as it did. -/
def filterClausesSpec : ChangeSpec := { name := "filterClauses", fn := fun _ => fun
  | [d1, d2, d3] => { results := [.lit (.bool true)], args := [d1, d2, d3] }
  | _ => none }
def filterClausesRow : OpenClaim := { program := "ytlkmpkofgaceiaagreatdoor", sum := "37f2f1e1d331f36a28c9951c8739772f4989bfeaec33a03256b0830f5bf2f082", func := "parallax/parallaxlaw14.FilterClauses", spec := "filterClauses", inPlace := ["internal/bytealg.CountString", "internal/bytealg.IndexByteString", "internal/bytealg.IndexString"], unfollowed := true, recurses := true, named := ["unicode/utf8.first", "unicode/utf8.acceptRanges", "internal/bytealg.MaxLen"], apart := false, laid := [("unicode/utf8.acceptRanges", laid_unicode_utf8_acceptRanges), ("unicode/utf8.first", laid_unicode_utf8_first)] }
def FilterClausesSaid : Prop := filterClausesRow.holds Tryz.pinned (OpenSpec.ofChange filterClausesSpec)

/-- ITS FALSE NEIGHBOUR: 'it returns false'. Refute it at one input. -/
def filterClausesWrong : ChangeSpec := { name := "filterClauses", fn := fun _ => fun
  | [d1, d2, d3] => { results := [.lit (.bool false)], args := [d1, d2, d3] }
  | _ => none }
def FilterClausesWrongFalsely : Prop := filterClausesRow.holds Tryz.pinned (OpenSpec.ofChange filterClausesWrong)

/-- 'parallaxlaw15.WitnessShows': WHATEVER THE INPUT: true; the input reads as it did. -/
def witnessShowsSpec : ChangeSpec := { name := "witnessShows", fn := fun _ => fun
  | [d1, d2, d3, d4] => { results := [.lit (.bool true)], args := [d1, d2, d3, d4] }
  | _ => none }
def witnessShowsRow : OpenClaim := { program := "ytlkmpkofgaceiaagreatdoor", sum := "37f2f1e1d331f36a28c9951c8739772f4989bfeaec33a03256b0830f5bf2f082", func := "parallax/parallaxlaw15.WitnessShows", spec := "witnessShows", inPlace := ["internal/abi.NoEscape", "internal/bytealg.CountString", "internal/bytealg.IndexByteString", "internal/bytealg.IndexString"], unfollowed := true, recurses := true, named := ["unicode/utf8.first", "unicode/utf8.acceptRanges", "internal/bytealg.MaxLen"], apart := false, laid := [("unicode/utf8.acceptRanges", laid_unicode_utf8_acceptRanges), ("unicode/utf8.first", laid_unicode_utf8_first)] }
def WitnessShowsSaid : Prop := witnessShowsRow.holds Tryz.pinned (OpenSpec.ofChange witnessShowsSpec)

/-- ITS FALSE NEIGHBOUR: 'it returns false'. Refute it at one input. -/
def witnessShowsWrong : ChangeSpec := { name := "witnessShows", fn := fun _ => fun
  | [d1, d2, d3, d4] => { results := [.lit (.bool false)], args := [d1, d2, d3, d4] }
  | _ => none }
def WitnessShowsWrongFalsely : Prop := witnessShowsRow.holds Tryz.pinned (OpenSpec.ofChange witnessShowsWrong)

/-- 'parallaxlaw15.WitnessParts': WHATEVER THE INPUT: true; the input reads as it did. -/
def witnessPartsSpec : ChangeSpec := { name := "witnessParts", fn := fun _ => fun
  | [d1, d2, d3, d4, d5] => { results := [.lit (.bool true)], args := [d1, d2, d3, d4, d5] }
  | _ => none }
def witnessPartsRow : OpenClaim := { program := "ytlkmpkofgaceiaagreatdoor", sum := "37f2f1e1d331f36a28c9951c8739772f4989bfeaec33a03256b0830f5bf2f082", func := "parallax/parallaxlaw15.WitnessParts", spec := "witnessParts", inPlace := ["internal/abi.NoEscape", "internal/bytealg.CountString", "internal/bytealg.IndexByteString", "internal/bytealg.IndexString"], unfollowed := true, recurses := true, named := ["unicode/utf8.first", "unicode/utf8.acceptRanges", "internal/bytealg.MaxLen"], apart := false, laid := [("unicode/utf8.acceptRanges", laid_unicode_utf8_acceptRanges), ("unicode/utf8.first", laid_unicode_utf8_first)] }
def WitnessPartsSaid : Prop := witnessPartsRow.holds Tryz.pinned (OpenSpec.ofChange witnessPartsSpec)

/-- ITS FALSE NEIGHBOUR: 'it returns false'. Refute it at one input. -/
def witnessPartsWrong : ChangeSpec := { name := "witnessParts", fn := fun _ => fun
  | [d1, d2, d3, d4, d5] => { results := [.lit (.bool false)], args := [d1, d2, d3, d4, d5] }
  | _ => none }
def WitnessPartsWrongFalsely : Prop := witnessPartsRow.holds Tryz.pinned (OpenSpec.ofChange witnessPartsWrong)

/- THE SECOND FORM. 'bulk': how many values and letters a reading holds, each counted each time it is reached (what is shared counts as often as it is met; a slice's spare places count too). A statement '..UptoSaid' is the law's where the arguments, and the package variables that the reading takes, are together of bulk at most 1048576: NARROWER than '..Said'. Prove '..Said' where nothing that the law and all that it calls make is longer than what came in: it says more and counts as full. Else prove '..UptoSaid'. A law counts once. -/
mutual
def uptoBulk {H : Type} : DataW H → Nat
  | .lit (.string bytes) => bytes.length + 1
  | .lit _ => 1
  | .nil => 1
  | .ptr d => uptoBulk d + 1
  | .slice elems spare => uptoBulkAll elems + uptoBulkAll spare + 1
  | .agg parts => uptoBulkAll parts + 1
  | .iface _ d => uptoBulk d + 1
  | .map entries => uptoBulkEntries entries + 1
  | .held _ => 1
def uptoBulkAll {H : Type} : List (DataW H) → Nat
  | [] => 0
  | d :: r => uptoBulk d + uptoBulkAll r
def uptoBulkEntries {H : Type} : List (Lit × DataW H) → Nat
  | [] => 0
  | x :: r => uptoBulkEntry x + uptoBulkEntries r
def uptoBulkEntry {H : Type} : Lit × DataW H → Nat
  | (.string bytes, d) => bytes.length + uptoBulk d + 1
  | (_, d) => uptoBulk d + 1
 end
def uptoSmall : (H : Type) → List (DataW H) → Bool := fun _ ds => decide (uptoBulkAll ds ≤ 1048576)
def OpenSpec.upto (s : _root_.Go.ChangeSpec) : _root_.Go.OpenSpec := { _root_.Go.OpenSpec.ofChange s with cond := some uptoSmall }

/-- 'parallaxlaw13.ParserTells', WHERE WHAT IT READS IS OF BULK AT MOST 1048576: true; the input reads as it did. -/
def parserTellsUptoRow : OpenClaim := { program := "ytlkmpkofgaceiaagreatdoor", sum := "37f2f1e1d331f36a28c9951c8739772f4989bfeaec33a03256b0830f5bf2f082", func := "parallax/parallaxlaw13.ParserTells", spec := "parserTells", inPlace := ["internal/bytealg.CountString", "internal/bytealg.IndexByteString", "internal/bytealg.IndexString"], unfollowed := true, recurses := true, named := ["unicode/utf8.first", "unicode/utf8.acceptRanges", "internal/bytealg.MaxLen"], apart := false, laid := [("unicode/utf8.acceptRanges", laid_unicode_utf8_acceptRanges), ("unicode/utf8.first", laid_unicode_utf8_first)], narrowed := true }
def ParserTellsUptoSaid : Prop := parserTellsUptoRow.holds Tryz.pinned (OpenSpec.upto parserTellsSpec)

/-- 'parallaxlaw13.ParserReads', WHERE WHAT IT READS IS OF BULK AT MOST 1048576: true; the input reads as it did. -/
def parserReadsUptoRow : OpenClaim := { program := "ytlkmpkofgaceiaagreatdoor", sum := "37f2f1e1d331f36a28c9951c8739772f4989bfeaec33a03256b0830f5bf2f082", func := "parallax/parallaxlaw13.ParserReads", spec := "parserReads", inPlace := ["internal/bytealg.CountString", "internal/bytealg.IndexByteString", "internal/bytealg.IndexString"], unfollowed := true, recurses := true, named := ["unicode/utf8.first", "unicode/utf8.acceptRanges", "internal/bytealg.MaxLen"], apart := false, laid := [("unicode/utf8.acceptRanges", laid_unicode_utf8_acceptRanges), ("unicode/utf8.first", laid_unicode_utf8_first)], narrowed := true }
def ParserReadsUptoSaid : Prop := parserReadsUptoRow.holds Tryz.pinned (OpenSpec.upto parserReadsSpec)

/-- 'parallaxlaw13.ParserForms', WHERE WHAT IT READS IS OF BULK AT MOST 1048576: true; the input reads as it did. -/
def parserFormsUptoRow : OpenClaim := { program := "ytlkmpkofgaceiaagreatdoor", sum := "37f2f1e1d331f36a28c9951c8739772f4989bfeaec33a03256b0830f5bf2f082", func := "parallax/parallaxlaw13.ParserForms", spec := "parserForms", inPlace := ["internal/bytealg.CountString", "internal/bytealg.IndexByteString", "internal/bytealg.IndexString"], unfollowed := true, recurses := true, named := ["unicode/utf8.first", "unicode/utf8.acceptRanges", "internal/bytealg.MaxLen"], apart := false, laid := [("unicode/utf8.acceptRanges", laid_unicode_utf8_acceptRanges), ("unicode/utf8.first", laid_unicode_utf8_first)], narrowed := true }
def ParserFormsUptoSaid : Prop := parserFormsUptoRow.holds Tryz.pinned (OpenSpec.upto parserFormsSpec)

/-- 'parallaxlaw13.ParserBodies', WHERE WHAT IT READS IS OF BULK AT MOST 1048576: true; the input reads as it did. -/
def parserBodiesUptoRow : OpenClaim := { program := "ytlkmpkofgaceiaagreatdoor", sum := "37f2f1e1d331f36a28c9951c8739772f4989bfeaec33a03256b0830f5bf2f082", func := "parallax/parallaxlaw13.ParserBodies", spec := "parserBodies", inPlace := ["internal/bytealg.CountString", "internal/bytealg.IndexByteString", "internal/bytealg.IndexString"], unfollowed := true, recurses := true, named := ["unicode/utf8.first", "unicode/utf8.acceptRanges", "internal/bytealg.MaxLen"], apart := false, laid := [("unicode/utf8.acceptRanges", laid_unicode_utf8_acceptRanges), ("unicode/utf8.first", laid_unicode_utf8_first)], narrowed := true }
def ParserBodiesUptoSaid : Prop := parserBodiesUptoRow.holds Tryz.pinned (OpenSpec.upto parserBodiesSpec)

/-- 'parallaxlaw13.ParserLong', WHERE WHAT IT READS IS OF BULK AT MOST 1048576: true; the input reads as it did. -/
def parserLongUptoRow : OpenClaim := { program := "ytlkmpkofgaceiaagreatdoor", sum := "37f2f1e1d331f36a28c9951c8739772f4989bfeaec33a03256b0830f5bf2f082", func := "parallax/parallaxlaw13.ParserLong", spec := "parserLong", inPlace := ["internal/bytealg.CountString", "internal/bytealg.IndexByteString", "internal/bytealg.IndexString"], unfollowed := true, recurses := true, named := ["unicode/utf8.first", "unicode/utf8.acceptRanges", "internal/bytealg.MaxLen"], apart := false, laid := [("unicode/utf8.acceptRanges", laid_unicode_utf8_acceptRanges), ("unicode/utf8.first", laid_unicode_utf8_first)], narrowed := true }
def ParserLongUptoSaid : Prop := parserLongUptoRow.holds Tryz.pinned (OpenSpec.upto parserLongSpec)

/-- 'parallaxlaw14.FilterTells', WHERE WHAT IT READS IS OF BULK AT MOST 1048576: true; the input reads as it did. -/
def filterTellsUptoRow : OpenClaim := { program := "ytlkmpkofgaceiaagreatdoor", sum := "37f2f1e1d331f36a28c9951c8739772f4989bfeaec33a03256b0830f5bf2f082", func := "parallax/parallaxlaw14.FilterTells", spec := "filterTells", inPlace := ["internal/bytealg.CountString", "internal/bytealg.IndexByteString", "internal/bytealg.IndexString"], unfollowed := true, recurses := true, named := ["unicode/utf8.first", "unicode/utf8.acceptRanges", "internal/bytealg.MaxLen"], apart := false, laid := [("unicode/utf8.acceptRanges", laid_unicode_utf8_acceptRanges), ("unicode/utf8.first", laid_unicode_utf8_first)], narrowed := true }
def FilterTellsUptoSaid : Prop := filterTellsUptoRow.holds Tryz.pinned (OpenSpec.upto filterTellsSpec)

/-- 'parallaxlaw14.FilterPasses', WHERE WHAT IT READS IS OF BULK AT MOST 1048576: true; the input reads as it did. -/
def filterPassesUptoRow : OpenClaim := { program := "ytlkmpkofgaceiaagreatdoor", sum := "37f2f1e1d331f36a28c9951c8739772f4989bfeaec33a03256b0830f5bf2f082", func := "parallax/parallaxlaw14.FilterPasses", spec := "filterPasses", inPlace := ["internal/bytealg.CountString", "internal/bytealg.IndexByteString", "internal/bytealg.IndexString"], unfollowed := true, recurses := true, named := ["unicode/utf8.first", "unicode/utf8.acceptRanges", "internal/bytealg.MaxLen"], apart := false, laid := [("unicode/utf8.acceptRanges", laid_unicode_utf8_acceptRanges), ("unicode/utf8.first", laid_unicode_utf8_first)], narrowed := true }
def FilterPassesUptoSaid : Prop := filterPassesUptoRow.holds Tryz.pinned (OpenSpec.upto filterPassesSpec)

/-- 'parallaxlaw14.FilterClauses', WHERE WHAT IT READS IS OF BULK AT MOST 1048576: true; the input reads as it did. -/
def filterClausesUptoRow : OpenClaim := { program := "ytlkmpkofgaceiaagreatdoor", sum := "37f2f1e1d331f36a28c9951c8739772f4989bfeaec33a03256b0830f5bf2f082", func := "parallax/parallaxlaw14.FilterClauses", spec := "filterClauses", inPlace := ["internal/bytealg.CountString", "internal/bytealg.IndexByteString", "internal/bytealg.IndexString"], unfollowed := true, recurses := true, named := ["unicode/utf8.first", "unicode/utf8.acceptRanges", "internal/bytealg.MaxLen"], apart := false, laid := [("unicode/utf8.acceptRanges", laid_unicode_utf8_acceptRanges), ("unicode/utf8.first", laid_unicode_utf8_first)], narrowed := true }
def FilterClausesUptoSaid : Prop := filterClausesUptoRow.holds Tryz.pinned (OpenSpec.upto filterClausesSpec)

/-- 'parallaxlaw15.WitnessShows', WHERE WHAT IT READS IS OF BULK AT MOST 1048576: true; the input reads as it did. -/
def witnessShowsUptoRow : OpenClaim := { program := "ytlkmpkofgaceiaagreatdoor", sum := "37f2f1e1d331f36a28c9951c8739772f4989bfeaec33a03256b0830f5bf2f082", func := "parallax/parallaxlaw15.WitnessShows", spec := "witnessShows", inPlace := ["internal/abi.NoEscape", "internal/bytealg.CountString", "internal/bytealg.IndexByteString", "internal/bytealg.IndexString"], unfollowed := true, recurses := true, named := ["unicode/utf8.first", "unicode/utf8.acceptRanges", "internal/bytealg.MaxLen"], apart := false, laid := [("unicode/utf8.acceptRanges", laid_unicode_utf8_acceptRanges), ("unicode/utf8.first", laid_unicode_utf8_first)], narrowed := true }
def WitnessShowsUptoSaid : Prop := witnessShowsUptoRow.holds Tryz.pinned (OpenSpec.upto witnessShowsSpec)

/-- 'parallaxlaw15.WitnessParts', WHERE WHAT IT READS IS OF BULK AT MOST 1048576: true; the input reads as it did. -/
def witnessPartsUptoRow : OpenClaim := { program := "ytlkmpkofgaceiaagreatdoor", sum := "37f2f1e1d331f36a28c9951c8739772f4989bfeaec33a03256b0830f5bf2f082", func := "parallax/parallaxlaw15.WitnessParts", spec := "witnessParts", inPlace := ["internal/abi.NoEscape", "internal/bytealg.CountString", "internal/bytealg.IndexByteString", "internal/bytealg.IndexString"], unfollowed := true, recurses := true, named := ["unicode/utf8.first", "unicode/utf8.acceptRanges", "internal/bytealg.MaxLen"], apart := false, laid := [("unicode/utf8.acceptRanges", laid_unicode_utf8_acceptRanges), ("unicode/utf8.first", laid_unicode_utf8_first)], narrowed := true }
def WitnessPartsUptoSaid : Prop := witnessPartsUptoRow.holds Tryz.pinned (OpenSpec.upto witnessPartsSpec)

end Rows
end Go.Proofs.YtlkmpkofgaceiaaGreatDoor
