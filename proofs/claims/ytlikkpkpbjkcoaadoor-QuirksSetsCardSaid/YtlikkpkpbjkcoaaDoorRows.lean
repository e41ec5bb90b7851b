/-
  NARROWER THAN 'FOR EVERY INPUT', by the rows' own cells (each row's printed sentence says how): QuirksTell: laid · QuirksNames: laid · QuirksSets: laid · QuirksNeed: laid.
  DERIVED. THE GIVEN ROWS OF THIS SEAT. 4 by the template 'for every input the law returns true; each argument reads behind the call as it read before'; 0 by the template 'total and deterministic' (their statements: YtlikkpkpbjkcoaaDoorTotals.lean).
  GIVEN WITH THE SEED: the statements are not yours to turn. If you find one false, say at which input.
  Laid BY PROGRAM, IN A SANDBOX (cutbox-rows.mjs): the forced cells as the released guide's own fill.sh prints them over the translation dfd6ea31018fa538… (all of the seat's roots in one cut). By AI agents, Wed Nov 11 2026. No macro, syntax, notation, axiom, sorry.
-/
import Derived.Test.YtlikkpkpbjkcoaaDoorChecked
import GoSem.Claim
import GoSem.ClaimJoined
import GoSem.ClaimMapViews
import Derived.JoinedTies
import Derived.KernelRfl
namespace Go.Proofs.YtlikkpkpbjkcoaaDoor
/- THE CELL 'sum', in the pinned program and in every row, IS THE sha256 OF THE DUMP (.gsa) THAT YtlikkpkpbjkcoaaDoorProg.lean LOADS. Nothing in Lean hashes anything: it is a label: what it is worth is what the hold of that sum in a sandbox is worth. -/
noncomputable def Tryd.pinned : Pinned := { name := "ytlikkpkpbjkcoaadoor", sum := "dfd6ea31018fa538305a1ad131a37ee3550e508f16cfeb36cb02ec7266006703", checked := Tryd.checked }
namespace Rows
def none {H : Type} : Left H := { results := [], args := [] }

/- WHAT THE LISTED PACKAGE-LEVEL VARIABLES READ AS WHEN THE CALL BEGINS. Each datum BY PROGRAM (the guide's laid-datum.mjs) off the statement by which the dump's own 'gosem.cut.vars' lays the variable. In a bare row this is a premise. The card (YtlikkpkpbjkcoaaDoorCards.lean) ties it to the program's text. -/
def laid_parallax_quirks_names {H : Type} : DataW H := .agg [.lit (.string [101, 109, 112, 116, 121]), .lit (.string [98, 97, 114, 101, 108, 102]), .lit (.string [98, 97, 114, 101, 99, 114]), .lit (.string [98, 108, 97, 110, 107, 115]), .lit (.string [109, 105, 110, 111, 114]), .lit (.string [97, 110, 121, 99, 97, 115, 101]), .lit (.string [110, 111, 118, 101, 114, 115, 105, 111, 110]), .lit (.string [115, 112, 97, 99, 101, 115]), .lit (.string [99, 111, 110, 116, 114, 111, 108, 115]), .lit (.string [99, 111, 108, 111, 110, 115, 112, 97, 99, 101]), .lit (.string [110, 97, 109, 101, 98, 121, 116, 101, 115]), .lit (.string [110, 111, 99, 111, 108, 111, 110]), .lit (.string [110, 111, 110, 97, 109, 101]), .lit (.string [102, 111, 108, 100]), .lit (.string [118, 97, 108, 117, 101, 98, 121, 116, 101, 115]), .lit (.string [110, 111, 104, 111, 115, 116]), .lit (.string [109, 97, 110, 121, 104, 111, 115, 116, 115]), .lit (.string [116, 101, 98, 108, 97, 110, 107, 115]), .lit (.string [116, 101, 108, 105, 115, 116]), .lit (.string [116, 101, 105, 103, 110, 111, 114, 101]), .lit (.string [116, 101, 111, 108, 100]), .lit (.string [116, 101, 119, 105, 110, 115]), .lit (.string [99, 108, 119, 105, 110, 115]), .lit (.string [99, 108, 112, 108, 117, 115]), .lit (.string [99, 108, 99, 111, 109, 109, 97]), .lit (.string [99, 108, 102, 105, 114, 115, 116]), .lit (.string [99, 108, 108, 97, 115, 116]), .lit (.string [99, 104, 117, 110, 107, 104, 101, 120]), .lit (.string [99, 104, 117, 110, 107, 98, 108, 97, 110, 107, 115]), .lit (.string [99, 104, 117, 110, 107, 101, 110, 100])]

/-- 'parallaxlaw5.QuirksTell': WHATEVER THE INPUT: true; the input reads as it did. -/
def quirksTellSpec : ChangeSpec := { name := "quirksTell", fn := fun _ => fun
  | [d1, d2, d3, d4, d5, d6] => { results := [.lit (.bool true)], args := [d1, d2, d3, d4, d5, d6] }
  | _ => none }
def quirksTellRow : OpenClaim := { program := "ytlikkpkpbjkcoaadoor", sum := "dfd6ea31018fa538305a1ad131a37ee3550e508f16cfeb36cb02ec7266006703", func := "parallax/parallaxlaw5.QuirksTell", spec := "quirksTell", named := ["parallax/quirks.names"], apart := false, laid := [("parallax/quirks.names", laid_parallax_quirks_names)] }
def QuirksTellSaid : Prop := quirksTellRow.holds Tryd.pinned (OpenSpec.ofChange quirksTellSpec)

/-- ITS FALSE NEIGHBOUR: 'it returns false'. Refute it at one input. -/
def quirksTellWrong : ChangeSpec := { name := "quirksTell", fn := fun _ => fun
  | [d1, d2, d3, d4, d5, d6] => { results := [.lit (.bool false)], args := [d1, d2, d3, d4, d5, d6] }
  | _ => none }
def QuirksTellWrongFalsely : Prop := quirksTellRow.holds Tryd.pinned (OpenSpec.ofChange quirksTellWrong)

/-- 'parallaxlaw5.QuirksNames': WHATEVER THE INPUT: true; the input reads as it did. -/
def quirksNamesSpec : ChangeSpec := { name := "quirksNames", fn := fun _ => fun
  | [d1, d2, d3, d4] => { results := [.lit (.bool true)], args := [d1, d2, d3, d4] }
  | _ => none }
def quirksNamesRow : OpenClaim := { program := "ytlikkpkpbjkcoaadoor", sum := "dfd6ea31018fa538305a1ad131a37ee3550e508f16cfeb36cb02ec7266006703", func := "parallax/parallaxlaw5.QuirksNames", spec := "quirksNames", named := ["parallax/quirks.names"], apart := false, laid := [("parallax/quirks.names", laid_parallax_quirks_names)] }
def QuirksNamesSaid : Prop := quirksNamesRow.holds Tryd.pinned (OpenSpec.ofChange quirksNamesSpec)

/-- ITS FALSE NEIGHBOUR: 'it returns false'. Refute it at one input. -/
def quirksNamesWrong : ChangeSpec := { name := "quirksNames", fn := fun _ => fun
  | [d1, d2, d3, d4] => { results := [.lit (.bool false)], args := [d1, d2, d3, d4] }
  | _ => none }
def QuirksNamesWrongFalsely : Prop := quirksNamesRow.holds Tryd.pinned (OpenSpec.ofChange quirksNamesWrong)

/-- 'parallaxlaw5.QuirksSets': WHATEVER THE INPUT: true; the input reads as it did. -/
def quirksSetsSpec : ChangeSpec := { name := "quirksSets", fn := fun _ => fun
  | [d1, d2, d3] => { results := [.lit (.bool true)], args := [d1, d2, d3] }
  | _ => none }
def quirksSetsRow : OpenClaim := { program := "ytlikkpkpbjkcoaadoor", sum := "dfd6ea31018fa538305a1ad131a37ee3550e508f16cfeb36cb02ec7266006703", func := "parallax/parallaxlaw5.QuirksSets", spec := "quirksSets", named := ["parallax/quirks.names"], apart := false, laid := [("parallax/quirks.names", laid_parallax_quirks_names)] }
def QuirksSetsSaid : Prop := quirksSetsRow.holds Tryd.pinned (OpenSpec.ofChange quirksSetsSpec)

/-- ITS FALSE NEIGHBOUR: 'it returns false'. Refute it at one input. -/
def quirksSetsWrong : ChangeSpec := { name := "quirksSets", fn := fun _ => fun
  | [d1, d2, d3] => { results := [.lit (.bool false)], args := [d1, d2, d3] }
  | _ => none }
def QuirksSetsWrongFalsely : Prop := quirksSetsRow.holds Tryd.pinned (OpenSpec.ofChange quirksSetsWrong)

/-- 'parallaxlaw5.QuirksNeed': WHATEVER THE INPUT: true; the input reads as it did. -/
def quirksNeedSpec : ChangeSpec := { name := "quirksNeed", fn := fun _ => fun
  | [d1, d2, d3, d4] => { results := [.lit (.bool true)], args := [d1, d2, d3, d4] }
  | _ => none }
def quirksNeedRow : OpenClaim := { program := "ytlikkpkpbjkcoaadoor", sum := "dfd6ea31018fa538305a1ad131a37ee3550e508f16cfeb36cb02ec7266006703", func := "parallax/parallaxlaw5.QuirksNeed", spec := "quirksNeed", named := ["parallax/quirks.names"], apart := false, laid := [("parallax/quirks.names", laid_parallax_quirks_names)] }
def QuirksNeedSaid : Prop := quirksNeedRow.holds Tryd.pinned (OpenSpec.ofChange quirksNeedSpec)

/-- ITS FALSE NEIGHBOUR: 'it returns false'. Refute it at one input. -/
def quirksNeedWrong : ChangeSpec := { name := "quirksNeed", fn := fun _ => fun
  | [d1, d2, d3, d4] => { results := [.lit (.bool false)], args := [d1, d2, d3, d4] }
  | _ => none }
def QuirksNeedWrongFalsely : Prop := quirksNeedRow.holds Tryd.pinned (OpenSpec.ofChange quirksNeedWrong)

/- THE SECOND FORM. 'bulk': how many values and letters a reading holds, each counted each time it is reached (what is shared counts as often as it is met; a slice's spare places count too). A statement '..UptoSaid' is the law's where the arguments, and the package variables that the reading takes, are together of bulk at most 1048576: NARROWER than '..Said'. Prove '..Said' where nothing that the law and all that it calls make is longer than what came in: it says more and counts as full. Else prove '..UptoSaid'. A law counts once. -/
mutual
def uptoBulk {H : Type} : DataW H → Nat
  | .lit (.string bytes) => bytes.length + 1
  | .lit _ => 1
  | .nil => 1
  | .ptr d => uptoBulk d + 1
  | .slice elems spare => uptoBulkAll elems + uptoBulkAll spare + 1
  | .agg parts => uptoBulkAll parts + 1
  | .iface _ d => uptoBulk d + 1
  | .map entries => uptoBulkEntries entries + 1
  | .held _ => 1
def uptoBulkAll {H : Type} : List (DataW H) → Nat
  | [] => 0
  | d :: r => uptoBulk d + uptoBulkAll r
def uptoBulkEntries {H : Type} : List (Lit × DataW H) → Nat
  | [] => 0
  | x :: r => uptoBulkEntry x + uptoBulkEntries r
def uptoBulkEntry {H : Type} : Lit × DataW H → Nat
  | (.string bytes, d) => bytes.length + uptoBulk d + 1
  | (_, d) => uptoBulk d + 1
 end
def uptoSmall : (H : Type) → List (DataW H) → Bool := fun _ ds => decide (uptoBulkAll ds ≤ 1048576)
def OpenSpec.upto (s : _root_.Go.ChangeSpec) : _root_.Go.OpenSpec := { _root_.Go.OpenSpec.ofChange s with cond := some uptoSmall }

/-- 'parallaxlaw5.QuirksTell', WHERE WHAT IT READS IS OF BULK AT MOST 1048576: true; the input reads as it did. -/
def quirksTellUptoRow : OpenClaim := { program := "ytlikkpkpbjkcoaadoor", sum := "dfd6ea31018fa538305a1ad131a37ee3550e508f16cfeb36cb02ec7266006703", func := "parallax/parallaxlaw5.QuirksTell", spec := "quirksTell", named := ["parallax/quirks.names"], apart := false, laid := [("parallax/quirks.names", laid_parallax_quirks_names)], narrowed := true }
def QuirksTellUptoSaid : Prop := quirksTellUptoRow.holds Tryd.pinned (OpenSpec.upto quirksTellSpec)

/-- 'parallaxlaw5.QuirksNames', WHERE WHAT IT READS IS OF BULK AT MOST 1048576: true; the input reads as it did. -/
def quirksNamesUptoRow : OpenClaim := { program := "ytlikkpkpbjkcoaadoor", sum := "dfd6ea31018fa538305a1ad131a37ee3550e508f16cfeb36cb02ec7266006703", func := "parallax/parallaxlaw5.QuirksNames", spec := "quirksNames", named := ["parallax/quirks.names"], apart := false, laid := [("parallax/quirks.names", laid_parallax_quirks_names)], narrowed := true }
def QuirksNamesUptoSaid : Prop := quirksNamesUptoRow.holds Tryd.pinned (OpenSpec.upto quirksNamesSpec)

/-- 'parallaxlaw5.QuirksSets', WHERE WHAT IT READS IS OF BULK AT MOST 1048576: true; the input reads as it did. -/
def quirksSetsUptoRow : OpenClaim := { program := "ytlikkpkpbjkcoaadoor", sum := "dfd6ea31018fa538305a1ad131a37ee3550e508f16cfeb36cb02ec7266006703", func := "parallax/parallaxlaw5.QuirksSets", spec := "quirksSets", named := ["parallax/quirks.names"], apart := false, laid := [("parallax/quirks.names", laid_parallax_quirks_names)], narrowed := true }
def QuirksSetsUptoSaid : Prop := quirksSetsUptoRow.holds Tryd.pinned (OpenSpec.upto quirksSetsSpec)

/-- 'parallaxlaw5.QuirksNeed', WHERE WHAT IT READS IS OF BULK AT MOST 1048576: true; the input reads as it did. -/
def quirksNeedUptoRow : OpenClaim := { program := "ytlikkpkpbjkcoaadoor", sum := "dfd6ea31018fa538305a1ad131a37ee3550e508f16cfeb36cb02ec7266006703", func := "parallax/parallaxlaw5.QuirksNeed", spec := "quirksNeed", named := ["parallax/quirks.names"], apart := false, laid := [("parallax/quirks.names", laid_parallax_quirks_names)], narrowed := true }
def QuirksNeedUptoSaid : Prop := quirksNeedUptoRow.holds Tryd.pinned (OpenSpec.upto quirksNeedSpec)

end Rows
end Go.Proofs.YtlikkpkpbjkcoaaDoor
