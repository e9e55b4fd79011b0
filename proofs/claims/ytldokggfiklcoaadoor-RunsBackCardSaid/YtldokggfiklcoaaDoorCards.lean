/-
  DERIVED. GIVEN WITH THE SEED: THE CARDS: each row of YtldokggfiklcoaaDoorRows.lean that lists a variable, with what it lists TIED to the program's text (the seventh form; the later family's looks); each row that meets fmt, with fmt's text TOLD by the authors' own Lean function (tested against real Go, not proved from fmt's source: count such statements apart). THE CARD IS WHAT COUNTS. Prove the row's statement (the work); the ties are given (YtldokggfiklcoaaDoorTie.lean); close each card by the builder's one call (the guide's Derived/Test/ToyasCard.lean, 'card_holds'). Laid BY PROGRAM, IN A SANDBOX (cutbox-door.mjs). By AI agents, Wed Nov 11 2026. No macro, syntax, notation, axiom, sorry.
-/
import Derived.Test.YtldokggfiklcoaaDoorRows
import GoSem.ClaimSeven
namespace Go.Proofs.YtldokggfiklcoaaDoor
namespace Rows

/-- THE TIED CARD OF 'breccialaw05.RunsMay'. -/
def runsMayCard : Claim7 := { stood := { row := runsMayRow, standIns := [], harness := (true, "3878beec1bc020a892e1ae6c807bab0ed3608e519b43b681effa9ccb2b5363c1"), looks := false }, kinds := [], alts := [], laidByText := true, laidKinds := [.data], laidTests := true, laidLooks := .later }
def RunsMayCardSaid : Prop := Claim7.holds Tryd.pinned (.plain (OpenSpec.ofChange runsMaySpec)) runsMayCard

/-- THE TIED CARD OF 'breccialaw05.RunsCells'. -/
def runsCellsCard : Claim7 := { stood := { row := runsCellsRow, standIns := [], harness := (true, "3878beec1bc020a892e1ae6c807bab0ed3608e519b43b681effa9ccb2b5363c1"), looks := false }, kinds := [], alts := [], laidByText := true, laidKinds := [.data], laidTests := true, laidLooks := .later }
def RunsCellsCardSaid : Prop := Claim7.holds Tryd.pinned (.plain (OpenSpec.ofChange runsCellsSpec)) runsCellsCard

/-- THE TIED CARD OF 'breccialaw05.RunsSet'. -/
def runsSetCard : Claim7 := { stood := { row := runsSetRow, standIns := [], harness := (true, "3878beec1bc020a892e1ae6c807bab0ed3608e519b43b681effa9ccb2b5363c1"), looks := false }, kinds := [], alts := [], laidByText := true, laidKinds := [.data], laidTests := true, laidLooks := .later }
def RunsSetCardSaid : Prop := Claim7.holds Tryd.pinned (.plain (OpenSpec.ofChange runsSetSpec)) runsSetCard

/-- THE TIED CARD OF 'breccialaw05.RunsFill'. -/
def runsFillCard : Claim7 := { stood := { row := runsFillRow, standIns := [], harness := (true, "3878beec1bc020a892e1ae6c807bab0ed3608e519b43b681effa9ccb2b5363c1"), looks := false }, kinds := [], alts := [], laidByText := true, laidKinds := [.data], laidTests := true, laidLooks := .later }
def RunsFillCardSaid : Prop := Claim7.holds Tryd.pinned (.plain (OpenSpec.ofChange runsFillSpec)) runsFillCard

/-- THE TIED CARD OF 'breccialaw05.RunsMake'. -/
def runsMakeCard : Claim7 := { stood := { row := runsMakeRow, standIns := [], harness := (true, "3878beec1bc020a892e1ae6c807bab0ed3608e519b43b681effa9ccb2b5363c1"), looks := false }, kinds := [], alts := [], laidByText := true, laidKinds := [.data], laidTests := true, laidLooks := .later }
def RunsMakeCardSaid : Prop := Claim7.holds Tryd.pinned (.plain (OpenSpec.ofChange runsMakeSpec)) runsMakeCard

/-- THE TIED CARD OF 'breccialaw05.RunsTwo'. -/
def runsTwoCard : Claim7 := { stood := { row := runsTwoRow, standIns := [], harness := (true, "3878beec1bc020a892e1ae6c807bab0ed3608e519b43b681effa9ccb2b5363c1"), looks := false }, kinds := [], alts := [], laidByText := true, laidKinds := [.data], laidTests := true, laidLooks := .later }
def RunsTwoCardSaid : Prop := Claim7.holds Tryd.pinned (.plain (OpenSpec.ofChange runsTwoSpec)) runsTwoCard

/-- THE TIED CARD OF 'breccialaw05.RunsBack'. -/
def runsBackCard : Claim7 := { stood := { row := runsBackRow, standIns := [], harness := (true, "3878beec1bc020a892e1ae6c807bab0ed3608e519b43b681effa9ccb2b5363c1"), looks := false }, kinds := [], alts := [], laidByText := true, laidKinds := [.data], laidTests := true, laidLooks := .later }
def RunsBackCardSaid : Prop := Claim7.holds Tryd.pinned (.plain (OpenSpec.ofChange runsBackSpec)) runsBackCard

/-- THE SECOND FORM's CARD OF 'breccialaw05.RunsMay'. -/
def runsMayUptoCard : Claim7 := { stood := { row := runsMayUptoRow, standIns := [], harness := (true, "3878beec1bc020a892e1ae6c807bab0ed3608e519b43b681effa9ccb2b5363c1"), looks := false }, kinds := [], alts := [], laidByText := true, laidKinds := [.data], laidTests := true, laidLooks := .later }
def RunsMayUptoCardSaid : Prop := Claim7.holds Tryd.pinned (.plain (OpenSpec.upto runsMaySpec)) runsMayUptoCard

/-- THE SECOND FORM's CARD OF 'breccialaw05.RunsCells'. -/
def runsCellsUptoCard : Claim7 := { stood := { row := runsCellsUptoRow, standIns := [], harness := (true, "3878beec1bc020a892e1ae6c807bab0ed3608e519b43b681effa9ccb2b5363c1"), looks := false }, kinds := [], alts := [], laidByText := true, laidKinds := [.data], laidTests := true, laidLooks := .later }
def RunsCellsUptoCardSaid : Prop := Claim7.holds Tryd.pinned (.plain (OpenSpec.upto runsCellsSpec)) runsCellsUptoCard

/-- THE SECOND FORM's CARD OF 'breccialaw05.RunsSet'. -/
def runsSetUptoCard : Claim7 := { stood := { row := runsSetUptoRow, standIns := [], harness := (true, "3878beec1bc020a892e1ae6c807bab0ed3608e519b43b681effa9ccb2b5363c1"), looks := false }, kinds := [], alts := [], laidByText := true, laidKinds := [.data], laidTests := true, laidLooks := .later }
def RunsSetUptoCardSaid : Prop := Claim7.holds Tryd.pinned (.plain (OpenSpec.upto runsSetSpec)) runsSetUptoCard

/-- THE SECOND FORM's CARD OF 'breccialaw05.RunsFill'. -/
def runsFillUptoCard : Claim7 := { stood := { row := runsFillUptoRow, standIns := [], harness := (true, "3878beec1bc020a892e1ae6c807bab0ed3608e519b43b681effa9ccb2b5363c1"), looks := false }, kinds := [], alts := [], laidByText := true, laidKinds := [.data], laidTests := true, laidLooks := .later }
def RunsFillUptoCardSaid : Prop := Claim7.holds Tryd.pinned (.plain (OpenSpec.upto runsFillSpec)) runsFillUptoCard

/-- THE SECOND FORM's CARD OF 'breccialaw05.RunsMake'. -/
def runsMakeUptoCard : Claim7 := { stood := { row := runsMakeUptoRow, standIns := [], harness := (true, "3878beec1bc020a892e1ae6c807bab0ed3608e519b43b681effa9ccb2b5363c1"), looks := false }, kinds := [], alts := [], laidByText := true, laidKinds := [.data], laidTests := true, laidLooks := .later }
def RunsMakeUptoCardSaid : Prop := Claim7.holds Tryd.pinned (.plain (OpenSpec.upto runsMakeSpec)) runsMakeUptoCard

/-- THE SECOND FORM's CARD OF 'breccialaw05.RunsTwo'. -/
def runsTwoUptoCard : Claim7 := { stood := { row := runsTwoUptoRow, standIns := [], harness := (true, "3878beec1bc020a892e1ae6c807bab0ed3608e519b43b681effa9ccb2b5363c1"), looks := false }, kinds := [], alts := [], laidByText := true, laidKinds := [.data], laidTests := true, laidLooks := .later }
def RunsTwoUptoCardSaid : Prop := Claim7.holds Tryd.pinned (.plain (OpenSpec.upto runsTwoSpec)) runsTwoUptoCard

/-- THE SECOND FORM's CARD OF 'breccialaw05.RunsBack'. -/
def runsBackUptoCard : Claim7 := { stood := { row := runsBackUptoRow, standIns := [], harness := (true, "3878beec1bc020a892e1ae6c807bab0ed3608e519b43b681effa9ccb2b5363c1"), looks := false }, kinds := [], alts := [], laidByText := true, laidKinds := [.data], laidTests := true, laidLooks := .later }
def RunsBackUptoCardSaid : Prop := Claim7.holds Tryd.pinned (.plain (OpenSpec.upto runsBackSpec)) runsBackUptoCard
end Rows
end Go.Proofs.YtldokggfiklcoaaDoor
