/-
  NARROWER THAN 'FOR EVERY INPUT', by the rows' own cells (each row's printed sentence says how): RunsMay: laid · RunsCells: laid · RunsSet: laid · RunsFill: laid · RunsMake: laid · RunsTwo: laid · RunsBack: laid.
  DERIVED. THE GIVEN ROWS OF THIS SEAT. 7 by the template 'for every input the law returns true; each argument reads behind the call as it read before'; 0 by the template 'total and deterministic' (their statements: YtldokggfiklcoaaDoorTotals.lean).
  GIVEN WITH THE SEED: the statements are not yours to turn. If you find one false, say at which input.
  Laid BY PROGRAM, IN A SANDBOX (cutbox-rows.mjs): the forced cells as the released guide's own fill.sh prints them over the translation e0a204b38b86410a… (all of the seat's roots in one cut). By AI agents, Wed Nov 11 2026. No macro, syntax, notation, axiom, sorry.
-/
import Derived.Test.YtldokggfiklcoaaDoorChecked
import GoSem.Claim
import GoSem.ClaimJoined
import GoSem.ClaimMapViews
import Derived.JoinedTies
import Derived.KernelRfl
namespace Go.Proofs.YtldokggfiklcoaaDoor
/- THE CELL 'sum', in the pinned program and in every row, IS THE sha256 OF THE DUMP (.gsa) THAT YtldokggfiklcoaaDoorProg.lean LOADS. Nothing in Lean hashes anything: it is a label: what it is worth is what the hold of that sum in a sandbox is worth. -/
noncomputable def Tryd.pinned : Pinned := { name := "ytldokggfiklcoaadoor", sum := "e0a204b38b86410a847924a2ed7965ff5a8779742cb856086044a5087e8dbf21", checked := Tryd.checked }
namespace Rows
def none {H : Type} : Left H := { results := [], args := [] }

/- WHAT THE LISTED PACKAGE-LEVEL VARIABLES READ AS WHEN THE CALL BEGINS. Each datum BY PROGRAM (the guide's laid-datum.mjs) off the statement by which the dump's own 'gosem.cut.vars' lays the variable. In a bare row this is a premise. The card (YtldokggfiklcoaaDoorCards.lean) ties it to the program's text. -/
def laid_breccia_block_names {H : Type} : DataW H := .agg [.lit (.string [97, 105, 114]), .lit (.string [115, 116, 111, 110, 101]), .lit (.string [100, 105, 114, 116]), .lit (.string [115, 97, 110, 100]), .lit (.string [108, 97, 100, 100, 101, 114]), .lit (.string [103, 108, 97, 115, 115]), .lit (.string []), .lit (.string []), .lit (.string [119, 97, 116, 101, 114, 48]), .lit (.string [119, 97, 116, 101, 114, 49]), .lit (.string [119, 97, 116, 101, 114, 50]), .lit (.string [119, 97, 116, 101, 114, 51]), .lit (.string [119, 97, 116, 101, 114, 52]), .lit (.string [119, 97, 116, 101, 114, 53]), .lit (.string [119, 97, 116, 101, 114, 54]), .lit (.string [119, 97, 116, 101, 114, 55])]

/-- 'breccialaw05.RunsMay': WHATEVER THE INPUT: true; the input reads as it did. -/
def runsMaySpec : ChangeSpec := { name := "runsMay", fn := fun _ => fun
  | [d1, d2, d3, d4] => { results := [.lit (.bool true)], args := [d1, d2, d3, d4] }
  | _ => none }
def runsMayRow : OpenClaim := { program := "ytldokggfiklcoaadoor", sum := "e0a204b38b86410a847924a2ed7965ff5a8779742cb856086044a5087e8dbf21", func := "breccia/breccialaw05.RunsMay", spec := "runsMay", named := ["breccia/block.names"], apart := false, laid := [("breccia/block.names", laid_breccia_block_names)] }
def RunsMaySaid : Prop := runsMayRow.holds Tryd.pinned (OpenSpec.ofChange runsMaySpec)

/-- ITS FALSE NEIGHBOUR: 'it returns false'. Refute it at one input. -/
def runsMayWrong : ChangeSpec := { name := "runsMay", fn := fun _ => fun
  | [d1, d2, d3, d4] => { results := [.lit (.bool false)], args := [d1, d2, d3, d4] }
  | _ => none }
def RunsMayWrongFalsely : Prop := runsMayRow.holds Tryd.pinned (OpenSpec.ofChange runsMayWrong)

/-- 'breccialaw05.RunsCells': WHATEVER THE INPUT: true; the input reads as it did. -/
def runsCellsSpec : ChangeSpec := { name := "runsCells", fn := fun _ => fun
  | [d1, d2] => { results := [.lit (.bool true)], args := [d1, d2] }
  | _ => none }
def runsCellsRow : OpenClaim := { program := "ytldokggfiklcoaadoor", sum := "e0a204b38b86410a847924a2ed7965ff5a8779742cb856086044a5087e8dbf21", func := "breccia/breccialaw05.RunsCells", spec := "runsCells", unfollowed := true, recurses := true, named := ["breccia/block.names"], apart := false, laid := [("breccia/block.names", laid_breccia_block_names)] }
def RunsCellsSaid : Prop := runsCellsRow.holds Tryd.pinned (OpenSpec.ofChange runsCellsSpec)

/-- ITS FALSE NEIGHBOUR: 'it returns false'. Refute it at one input. -/
def runsCellsWrong : ChangeSpec := { name := "runsCells", fn := fun _ => fun
  | [d1, d2] => { results := [.lit (.bool false)], args := [d1, d2] }
  | _ => none }
def RunsCellsWrongFalsely : Prop := runsCellsRow.holds Tryd.pinned (OpenSpec.ofChange runsCellsWrong)

/-- 'breccialaw05.RunsSet': WHATEVER THE INPUT: true; the input reads as it did. -/
def runsSetSpec : ChangeSpec := { name := "runsSet", fn := fun _ => fun
  | [d1, d2, d3] => { results := [.lit (.bool true)], args := [d1, d2, d3] }
  | _ => none }
def runsSetRow : OpenClaim := { program := "ytldokggfiklcoaadoor", sum := "e0a204b38b86410a847924a2ed7965ff5a8779742cb856086044a5087e8dbf21", func := "breccia/breccialaw05.RunsSet", spec := "runsSet", named := ["breccia/block.names"], apart := false, laid := [("breccia/block.names", laid_breccia_block_names)] }
def RunsSetSaid : Prop := runsSetRow.holds Tryd.pinned (OpenSpec.ofChange runsSetSpec)

/-- ITS FALSE NEIGHBOUR: 'it returns false'. Refute it at one input. -/
def runsSetWrong : ChangeSpec := { name := "runsSet", fn := fun _ => fun
  | [d1, d2, d3] => { results := [.lit (.bool false)], args := [d1, d2, d3] }
  | _ => none }
def RunsSetWrongFalsely : Prop := runsSetRow.holds Tryd.pinned (OpenSpec.ofChange runsSetWrong)

/-- 'breccialaw05.RunsFill': WHATEVER THE INPUT: true; the input reads as it did. -/
def runsFillSpec : ChangeSpec := { name := "runsFill", fn := fun _ => fun
  | [d1, d2, d3, d4] => { results := [.lit (.bool true)], args := [d1, d2, d3, d4] }
  | _ => none }
def runsFillRow : OpenClaim := { program := "ytldokggfiklcoaadoor", sum := "e0a204b38b86410a847924a2ed7965ff5a8779742cb856086044a5087e8dbf21", func := "breccia/breccialaw05.RunsFill", spec := "runsFill", named := ["breccia/block.names"], apart := false, laid := [("breccia/block.names", laid_breccia_block_names)] }
def RunsFillSaid : Prop := runsFillRow.holds Tryd.pinned (OpenSpec.ofChange runsFillSpec)

/-- ITS FALSE NEIGHBOUR: 'it returns false'. Refute it at one input. -/
def runsFillWrong : ChangeSpec := { name := "runsFill", fn := fun _ => fun
  | [d1, d2, d3, d4] => { results := [.lit (.bool false)], args := [d1, d2, d3, d4] }
  | _ => none }
def RunsFillWrongFalsely : Prop := runsFillRow.holds Tryd.pinned (OpenSpec.ofChange runsFillWrong)

/-- 'breccialaw05.RunsMake': WHATEVER THE INPUT: true; the input reads as it did. -/
def runsMakeSpec : ChangeSpec := { name := "runsMake", fn := fun _ => fun
  | [d1, d2] => { results := [.lit (.bool true)], args := [d1, d2] }
  | _ => none }
def runsMakeRow : OpenClaim := { program := "ytldokggfiklcoaadoor", sum := "e0a204b38b86410a847924a2ed7965ff5a8779742cb856086044a5087e8dbf21", func := "breccia/breccialaw05.RunsMake", spec := "runsMake", named := ["breccia/block.names"], apart := false, laid := [("breccia/block.names", laid_breccia_block_names)] }
def RunsMakeSaid : Prop := runsMakeRow.holds Tryd.pinned (OpenSpec.ofChange runsMakeSpec)

/-- ITS FALSE NEIGHBOUR: 'it returns false'. Refute it at one input. -/
def runsMakeWrong : ChangeSpec := { name := "runsMake", fn := fun _ => fun
  | [d1, d2] => { results := [.lit (.bool false)], args := [d1, d2] }
  | _ => none }
def RunsMakeWrongFalsely : Prop := runsMakeRow.holds Tryd.pinned (OpenSpec.ofChange runsMakeWrong)

/-- 'breccialaw05.RunsTwo': WHATEVER THE INPUT: true; the input reads as it did. -/
def runsTwoSpec : ChangeSpec := { name := "runsTwo", fn := fun _ => fun
  | [d1, d2, d3, d4, d5] => { results := [.lit (.bool true)], args := [d1, d2, d3, d4, d5] }
  | _ => none }
def runsTwoRow : OpenClaim := { program := "ytldokggfiklcoaadoor", sum := "e0a204b38b86410a847924a2ed7965ff5a8779742cb856086044a5087e8dbf21", func := "breccia/breccialaw05.RunsTwo", spec := "runsTwo", named := ["breccia/block.names"], apart := false, laid := [("breccia/block.names", laid_breccia_block_names)] }
def RunsTwoSaid : Prop := runsTwoRow.holds Tryd.pinned (OpenSpec.ofChange runsTwoSpec)

/-- ITS FALSE NEIGHBOUR: 'it returns false'. Refute it at one input. -/
def runsTwoWrong : ChangeSpec := { name := "runsTwo", fn := fun _ => fun
  | [d1, d2, d3, d4, d5] => { results := [.lit (.bool false)], args := [d1, d2, d3, d4, d5] }
  | _ => none }
def RunsTwoWrongFalsely : Prop := runsTwoRow.holds Tryd.pinned (OpenSpec.ofChange runsTwoWrong)

/-- 'breccialaw05.RunsBack': WHATEVER THE INPUT: true; the input reads as it did. -/
def runsBackSpec : ChangeSpec := { name := "runsBack", fn := fun _ => fun
  | [d1, d2, d3] => { results := [.lit (.bool true)], args := [d1, d2, d3] }
  | _ => none }
def runsBackRow : OpenClaim := { program := "ytldokggfiklcoaadoor", sum := "e0a204b38b86410a847924a2ed7965ff5a8779742cb856086044a5087e8dbf21", func := "breccia/breccialaw05.RunsBack", spec := "runsBack", named := ["breccia/block.names"], apart := false, laid := [("breccia/block.names", laid_breccia_block_names)] }
def RunsBackSaid : Prop := runsBackRow.holds Tryd.pinned (OpenSpec.ofChange runsBackSpec)

/-- ITS FALSE NEIGHBOUR: 'it returns false'. Refute it at one input. -/
def runsBackWrong : ChangeSpec := { name := "runsBack", fn := fun _ => fun
  | [d1, d2, d3] => { results := [.lit (.bool false)], args := [d1, d2, d3] }
  | _ => none }
def RunsBackWrongFalsely : Prop := runsBackRow.holds Tryd.pinned (OpenSpec.ofChange runsBackWrong)

/- THE SECOND FORM. 'bulk': how many values and letters a reading holds, each counted each time it is reached (what is shared counts as often as it is met; a slice's spare places count too). A statement '..UptoSaid' is the law's where the arguments, and the package variables that the reading takes, are together of bulk at most 1048576: NARROWER than '..Said'. Prove '..Said' where nothing that the law and all that it calls make is longer than what came in: it says more and counts as full. Else prove '..UptoSaid'. A law counts once. -/
mutual
def uptoBulk {H : Type} : DataW H → Nat
  | .lit (.string bytes) => bytes.length + 1
  | .lit _ => 1
  | .nil => 1
  | .ptr d => uptoBulk d + 1
  | .slice elems spare => uptoBulkAll elems + uptoBulkAll spare + 1
  | .agg parts => uptoBulkAll parts + 1
  | .iface _ d => uptoBulk d + 1
  | .map entries => uptoBulkEntries entries + 1
  | .held _ => 1
def uptoBulkAll {H : Type} : List (DataW H) → Nat
  | [] => 0
  | d :: r => uptoBulk d + uptoBulkAll r
def uptoBulkEntries {H : Type} : List (Lit × DataW H) → Nat
  | [] => 0
  | x :: r => uptoBulkEntry x + uptoBulkEntries r
def uptoBulkEntry {H : Type} : Lit × DataW H → Nat
  | (.string bytes, d) => bytes.length + uptoBulk d + 1
  | (_, d) => uptoBulk d + 1
 end
def uptoSmall : (H : Type) → List (DataW H) → Bool := fun _ ds => decide (uptoBulkAll ds ≤ 1048576)
def OpenSpec.upto (s : _root_.Go.ChangeSpec) : _root_.Go.OpenSpec := { _root_.Go.OpenSpec.ofChange s with cond := some uptoSmall }

/-- 'breccialaw05.RunsMay', WHERE WHAT IT READS IS OF BULK AT MOST 1048576: true; the input reads as it did. -/
def runsMayUptoRow : OpenClaim := { program := "ytldokggfiklcoaadoor", sum := "e0a204b38b86410a847924a2ed7965ff5a8779742cb856086044a5087e8dbf21", func := "breccia/breccialaw05.RunsMay", spec := "runsMay", named := ["breccia/block.names"], apart := false, laid := [("breccia/block.names", laid_breccia_block_names)], narrowed := true }
def RunsMayUptoSaid : Prop := runsMayUptoRow.holds Tryd.pinned (OpenSpec.upto runsMaySpec)

/-- 'breccialaw05.RunsCells', WHERE WHAT IT READS IS OF BULK AT MOST 1048576: true; the input reads as it did. -/
def runsCellsUptoRow : OpenClaim := { program := "ytldokggfiklcoaadoor", sum := "e0a204b38b86410a847924a2ed7965ff5a8779742cb856086044a5087e8dbf21", func := "breccia/breccialaw05.RunsCells", spec := "runsCells", unfollowed := true, recurses := true, named := ["breccia/block.names"], apart := false, laid := [("breccia/block.names", laid_breccia_block_names)], narrowed := true }
def RunsCellsUptoSaid : Prop := runsCellsUptoRow.holds Tryd.pinned (OpenSpec.upto runsCellsSpec)

/-- 'breccialaw05.RunsSet', WHERE WHAT IT READS IS OF BULK AT MOST 1048576: true; the input reads as it did. -/
def runsSetUptoRow : OpenClaim := { program := "ytldokggfiklcoaadoor", sum := "e0a204b38b86410a847924a2ed7965ff5a8779742cb856086044a5087e8dbf21", func := "breccia/breccialaw05.RunsSet", spec := "runsSet", named := ["breccia/block.names"], apart := false, laid := [("breccia/block.names", laid_breccia_block_names)], narrowed := true }
def RunsSetUptoSaid : Prop := runsSetUptoRow.holds Tryd.pinned (OpenSpec.upto runsSetSpec)

/-- 'breccialaw05.RunsFill', WHERE WHAT IT READS IS OF BULK AT MOST 1048576: true; the input reads as it did. -/
def runsFillUptoRow : OpenClaim := { program := "ytldokggfiklcoaadoor", sum := "e0a204b38b86410a847924a2ed7965ff5a8779742cb856086044a5087e8dbf21", func := "breccia/breccialaw05.RunsFill", spec := "runsFill", named := ["breccia/block.names"], apart := false, laid := [("breccia/block.names", laid_breccia_block_names)], narrowed := true }
def RunsFillUptoSaid : Prop := runsFillUptoRow.holds Tryd.pinned (OpenSpec.upto runsFillSpec)

/-- 'breccialaw05.RunsMake', WHERE WHAT IT READS IS OF BULK AT MOST 1048576: true; the input reads as it did. -/
def runsMakeUptoRow : OpenClaim := { program := "ytldokggfiklcoaadoor", sum := "e0a204b38b86410a847924a2ed7965ff5a8779742cb856086044a5087e8dbf21", func := "breccia/breccialaw05.RunsMake", spec := "runsMake", named := ["breccia/block.names"], apart := false, laid := [("breccia/block.names", laid_breccia_block_names)], narrowed := true }
def RunsMakeUptoSaid : Prop := runsMakeUptoRow.holds Tryd.pinned (OpenSpec.upto runsMakeSpec)

/-- 'breccialaw05.RunsTwo', WHERE WHAT IT READS IS OF BULK AT MOST 1048576: true; the input reads as it did. -/
def runsTwoUptoRow : OpenClaim := { program := "ytldokggfiklcoaadoor", sum := "e0a204b38b86410a847924a2ed7965ff5a8779742cb856086044a5087e8dbf21", func := "breccia/breccialaw05.RunsTwo", spec := "runsTwo", named := ["breccia/block.names"], apart := false, laid := [("breccia/block.names", laid_breccia_block_names)], narrowed := true }
def RunsTwoUptoSaid : Prop := runsTwoUptoRow.holds Tryd.pinned (OpenSpec.upto runsTwoSpec)

/-- 'breccialaw05.RunsBack', WHERE WHAT IT READS IS OF BULK AT MOST 1048576: true; the input reads as it did. -/
def runsBackUptoRow : OpenClaim := { program := "ytldokggfiklcoaadoor", sum := "e0a204b38b86410a847924a2ed7965ff5a8779742cb856086044a5087e8dbf21", func := "breccia/breccialaw05.RunsBack", spec := "runsBack", named := ["breccia/block.names"], apart := false, laid := [("breccia/block.names", laid_breccia_block_names)], narrowed := true }
def RunsBackUptoSaid : Prop := runsBackUptoRow.holds Tryd.pinned (OpenSpec.upto runsBackSpec)

end Rows
end Go.Proofs.YtldokggfiklcoaaDoor
