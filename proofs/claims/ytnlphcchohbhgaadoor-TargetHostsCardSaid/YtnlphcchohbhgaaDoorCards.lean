/-
  DERIVED. GIVEN WITH THE SEED: THE CARDS: each row of YtnlphcchohbhgaaDoorRows.lean that lists a variable, with what it lists TIED to the program's text (the seventh form; the later family's looks); each row that meets fmt, with fmt's text TOLD by the authors' own Lean function (tested against real Go, not proved from fmt's source: count such statements apart). THE CARD IS WHAT COUNTS. Prove the row's statement (the work); the ties are given (YtnlphcchohbhgaaDoorTie.lean); close each card by the builder's one call (the guide's Derived/Test/ToyasCard.lean, 'card_holds'). Laid BY PROGRAM, IN A SANDBOX (cutbox-door.mjs). By AI agents, Wed Nov 11 2026. No macro, syntax, notation, axiom, sorry.
-/
import Derived.Test.YtnlphcchohbhgaaDoorRows
import GoSem.ClaimSeven
namespace Go.Proofs.YtnlphcchohbhgaaDoor
namespace Rows

/-- THE TIED CARD OF 'parallaxlaw7.TargetTells'. -/
def targetTellsCard : Claim7 := { stood := { row := targetTellsRow, standIns := [], harness := (true, "6f8d63e150a5fae3530ac1b32b5e85ff26f0529c6f4c473e234c4a194edcd834"), looks := false }, kinds := [], alts := [], laidByText := true, laidKinds := [.data, .pinned], laidTests := true, laidLooks := .later }
def TargetTellsCardSaid : Prop := Claim7.holds Tryd.pinned (.plain (OpenSpec.ofChange targetTellsSpec)) targetTellsCard

/-- THE TIED CARD OF 'parallaxlaw7.TargetBack'. -/
def targetBackCard : Claim7 := { stood := { row := targetBackRow, standIns := [], harness := (true, "6f8d63e150a5fae3530ac1b32b5e85ff26f0529c6f4c473e234c4a194edcd834"), looks := false }, kinds := [], alts := [], laidByText := true, laidKinds := [.data, .pinned], laidTests := true, laidLooks := .later }
def TargetBackCardSaid : Prop := Claim7.holds Tryd.pinned (.plain (OpenSpec.ofChange targetBackSpec)) targetBackCard

/-- THE TIED CARD OF 'parallaxlaw7.TargetHosts'. -/
def targetHostsCard : Claim7 := { stood := { row := targetHostsRow, standIns := [], harness := (true, "6f8d63e150a5fae3530ac1b32b5e85ff26f0529c6f4c473e234c4a194edcd834"), looks := false }, kinds := [], alts := [], laidByText := true, laidKinds := [.data, .pinned], laidTests := true, laidLooks := .later }
def TargetHostsCardSaid : Prop := Claim7.holds Tryd.pinned (.plain (OpenSpec.ofChange targetHostsSpec)) targetHostsCard

/-- THE TIED CARD OF 'parallaxlaw7.TargetForms'. -/
def targetFormsCard : Claim7 := { stood := { row := targetFormsRow, standIns := [], harness := (true, "6f8d63e150a5fae3530ac1b32b5e85ff26f0529c6f4c473e234c4a194edcd834"), looks := false }, kinds := [], alts := [], laidByText := true, laidKinds := [.data, .pinned], laidTests := true, laidLooks := .later }
def TargetFormsCardSaid : Prop := Claim7.holds Tryd.pinned (.plain (OpenSpec.ofChange targetFormsSpec)) targetFormsCard

/-- THE SECOND FORM's CARD OF 'parallaxlaw7.TargetTells'. -/
def targetTellsUptoCard : Claim7 := { stood := { row := targetTellsUptoRow, standIns := [], harness := (true, "6f8d63e150a5fae3530ac1b32b5e85ff26f0529c6f4c473e234c4a194edcd834"), looks := false }, kinds := [], alts := [], laidByText := true, laidKinds := [.data, .pinned], laidTests := true, laidLooks := .later }
def TargetTellsUptoCardSaid : Prop := Claim7.holds Tryd.pinned (.plain (OpenSpec.upto targetTellsSpec)) targetTellsUptoCard

/-- THE SECOND FORM's CARD OF 'parallaxlaw7.TargetBack'. -/
def targetBackUptoCard : Claim7 := { stood := { row := targetBackUptoRow, standIns := [], harness := (true, "6f8d63e150a5fae3530ac1b32b5e85ff26f0529c6f4c473e234c4a194edcd834"), looks := false }, kinds := [], alts := [], laidByText := true, laidKinds := [.data, .pinned], laidTests := true, laidLooks := .later }
def TargetBackUptoCardSaid : Prop := Claim7.holds Tryd.pinned (.plain (OpenSpec.upto targetBackSpec)) targetBackUptoCard

/-- THE SECOND FORM's CARD OF 'parallaxlaw7.TargetHosts'. -/
def targetHostsUptoCard : Claim7 := { stood := { row := targetHostsUptoRow, standIns := [], harness := (true, "6f8d63e150a5fae3530ac1b32b5e85ff26f0529c6f4c473e234c4a194edcd834"), looks := false }, kinds := [], alts := [], laidByText := true, laidKinds := [.data, .pinned], laidTests := true, laidLooks := .later }
def TargetHostsUptoCardSaid : Prop := Claim7.holds Tryd.pinned (.plain (OpenSpec.upto targetHostsSpec)) targetHostsUptoCard

/-- THE SECOND FORM's CARD OF 'parallaxlaw7.TargetForms'. -/
def targetFormsUptoCard : Claim7 := { stood := { row := targetFormsUptoRow, standIns := [], harness := (true, "6f8d63e150a5fae3530ac1b32b5e85ff26f0529c6f4c473e234c4a194edcd834"), looks := false }, kinds := [], alts := [], laidByText := true, laidKinds := [.data, .pinned], laidTests := true, laidLooks := .later }
def TargetFormsUptoCardSaid : Prop := Claim7.holds Tryd.pinned (.plain (OpenSpec.upto targetFormsSpec)) targetFormsUptoCard
end Rows
end Go.Proofs.YtnlphcchohbhgaaDoor
