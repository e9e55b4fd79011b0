/-
  DERIVED. GIVEN WITH THE SEED: THE CARDS: each row of YtnodaoelijjhiaaDoorRows.lean that lists a variable, with what it lists TIED to the program's text (the seventh form; the later family's looks); each row that meets fmt, with fmt's text TOLD by the authors' own Lean function (tested against real Go, not proved from fmt's source: count such statements apart). THE CARD IS WHAT COUNTS. Prove the row's statement (the work); the ties are given (YtnodaoelijjhiaaDoorTie.lean); close each card by the builder's one call (the guide's Derived/Test/ToyasCard.lean, 'card_holds'). Laid BY PROGRAM, IN A SANDBOX (cutbox-door.mjs). By AI agents, Wed Nov 11 2026. No macro, syntax, notation, axiom, sorry.
-/
import Derived.Test.YtnodaoelijjhiaaDoorRows
import GoSem.ClaimSeven
namespace Go.Proofs.YtnodaoelijjhiaaDoor
namespace Rows

/-- THE TIED CARD OF 'breccialaw04.BlockKinds'. -/
def blockKindsCard : Claim7 := { stood := { row := blockKindsRow, standIns := [], harness := (true, "88a7cfa191d72bab2c10f5dbd61fc7f3d2a308223cfc2e8f8bc85d54a2f1f46b"), looks := false }, kinds := [], alts := [], laidByText := true, laidKinds := [.data], laidTests := true, laidLooks := .later }
def BlockKindsCardSaid : Prop := Claim7.holds Tryd.pinned (.plain (OpenSpec.ofChange blockKindsSpec)) blockKindsCard

/-- THE TIED CARD OF 'breccialaw04.BlockNames'. -/
def blockNamesCard : Claim7 := { stood := { row := blockNamesRow, standIns := [], harness := (true, "88a7cfa191d72bab2c10f5dbd61fc7f3d2a308223cfc2e8f8bc85d54a2f1f46b"), looks := false }, kinds := [], alts := [], laidByText := true, laidKinds := [.data], laidTests := true, laidLooks := .later }
def BlockNamesCardSaid : Prop := Claim7.holds Tryd.pinned (.plain (OpenSpec.ofChange blockNamesSpec)) blockNamesCard

/-- THE TIED CARD OF 'breccialaw04.BlockWaters'. -/
def blockWatersCard : Claim7 := { stood := { row := blockWatersRow, standIns := [], harness := (true, "88a7cfa191d72bab2c10f5dbd61fc7f3d2a308223cfc2e8f8bc85d54a2f1f46b"), looks := false }, kinds := [], alts := [], laidByText := true, laidKinds := [.data], laidTests := true, laidLooks := .later }
def BlockWatersCardSaid : Prop := Claim7.holds Tryd.pinned (.plain (OpenSpec.ofChange blockWatersSpec)) blockWatersCard

/-- THE TIED CARD OF 'breccialaw04.BlockWords'. -/
def blockWordsCard : Claim7 := { stood := { row := blockWordsRow, standIns := [], harness := (true, "88a7cfa191d72bab2c10f5dbd61fc7f3d2a308223cfc2e8f8bc85d54a2f1f46b"), looks := false }, kinds := [], alts := [], laidByText := true, laidKinds := [.data], laidTests := true, laidLooks := .later }
def BlockWordsCardSaid : Prop := Claim7.holds Tryd.pinned (.plain (OpenSpec.ofChange blockWordsSpec)) blockWordsCard

/-- THE SECOND FORM's CARD OF 'breccialaw04.BlockKinds'. -/
def blockKindsUptoCard : Claim7 := { stood := { row := blockKindsUptoRow, standIns := [], harness := (true, "88a7cfa191d72bab2c10f5dbd61fc7f3d2a308223cfc2e8f8bc85d54a2f1f46b"), looks := false }, kinds := [], alts := [], laidByText := true, laidKinds := [.data], laidTests := true, laidLooks := .later }
def BlockKindsUptoCardSaid : Prop := Claim7.holds Tryd.pinned (.plain (OpenSpec.upto blockKindsSpec)) blockKindsUptoCard

/-- THE SECOND FORM's CARD OF 'breccialaw04.BlockNames'. -/
def blockNamesUptoCard : Claim7 := { stood := { row := blockNamesUptoRow, standIns := [], harness := (true, "88a7cfa191d72bab2c10f5dbd61fc7f3d2a308223cfc2e8f8bc85d54a2f1f46b"), looks := false }, kinds := [], alts := [], laidByText := true, laidKinds := [.data], laidTests := true, laidLooks := .later }
def BlockNamesUptoCardSaid : Prop := Claim7.holds Tryd.pinned (.plain (OpenSpec.upto blockNamesSpec)) blockNamesUptoCard

/-- THE SECOND FORM's CARD OF 'breccialaw04.BlockWaters'. -/
def blockWatersUptoCard : Claim7 := { stood := { row := blockWatersUptoRow, standIns := [], harness := (true, "88a7cfa191d72bab2c10f5dbd61fc7f3d2a308223cfc2e8f8bc85d54a2f1f46b"), looks := false }, kinds := [], alts := [], laidByText := true, laidKinds := [.data], laidTests := true, laidLooks := .later }
def BlockWatersUptoCardSaid : Prop := Claim7.holds Tryd.pinned (.plain (OpenSpec.upto blockWatersSpec)) blockWatersUptoCard

/-- THE SECOND FORM's CARD OF 'breccialaw04.BlockWords'. -/
def blockWordsUptoCard : Claim7 := { stood := { row := blockWordsUptoRow, standIns := [], harness := (true, "88a7cfa191d72bab2c10f5dbd61fc7f3d2a308223cfc2e8f8bc85d54a2f1f46b"), looks := false }, kinds := [], alts := [], laidByText := true, laidKinds := [.data], laidTests := true, laidLooks := .later }
def BlockWordsUptoCardSaid : Prop := Claim7.holds Tryd.pinned (.plain (OpenSpec.upto blockWordsSpec)) blockWordsUptoCard
end Rows
end Go.Proofs.YtnodaoelijjhiaaDoor
