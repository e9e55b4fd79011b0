/-
  NARROWER THAN 'FOR EVERY INPUT', by the rows' own cells (each row's printed sentence says how): BlockKinds: laid · BlockNames: laid · BlockWaters: laid · BlockWords: laid.
  DERIVED. THE GIVEN ROWS OF THIS SEAT. 4 by the template 'for every input the law returns true; each argument reads behind the call as it read before'; 0 by the template 'total and deterministic' (their statements: YtnodaoelijjhiaaDoorTotals.lean).
  GIVEN WITH THE SEED: the statements are not yours to turn. If you find one false, say at which input.
  Laid BY PROGRAM, IN A SANDBOX (cutbox-rows.mjs): the forced cells as the released guide's own fill.sh prints them over the translation af145f7310d3c0d2… (all of the seat's roots in one cut). By AI agents, Wed Nov 11 2026. No macro, syntax, notation, axiom, sorry.
-/
import Derived.Test.YtnodaoelijjhiaaDoorChecked
import GoSem.Claim
import GoSem.ClaimJoined
import GoSem.ClaimMapViews
import Derived.JoinedTies
import Derived.KernelRfl
namespace Go.Proofs.YtnodaoelijjhiaaDoor
/- THE CELL 'sum', in the pinned program and in every row, IS THE sha256 OF THE DUMP (.gsa) THAT YtnodaoelijjhiaaDoorProg.lean LOADS. Nothing in Lean hashes anything: it is a label: what it is worth is what the hold of that sum in a sandbox is worth. -/
noncomputable def Tryd.pinned : Pinned := { name := "ytnodaoelijjhiaadoor", sum := "af145f7310d3c0d27b55cc18d5e139e0a0b884bdd6425d6d0be196a15e1dee66", checked := Tryd.checked }
namespace Rows
def none {H : Type} : Left H := { results := [], args := [] }

/- WHAT THE LISTED PACKAGE-LEVEL VARIABLES READ AS WHEN THE CALL BEGINS. Each datum BY PROGRAM (the guide's laid-datum.mjs) off the statement by which the dump's own 'gosem.cut.vars' lays the variable. In a bare row this is a premise. The card (YtnodaoelijjhiaaDoorCards.lean) ties it to the program's text. -/
def laid_breccia_block_names {H : Type} : DataW H := .agg [.lit (.string [97, 105, 114]), .lit (.string [115, 116, 111, 110, 101]), .lit (.string [100, 105, 114, 116]), .lit (.string [115, 97, 110, 100]), .lit (.string [108, 97, 100, 100, 101, 114]), .lit (.string [103, 108, 97, 115, 115]), .lit (.string []), .lit (.string []), .lit (.string [119, 97, 116, 101, 114, 48]), .lit (.string [119, 97, 116, 101, 114, 49]), .lit (.string [119, 97, 116, 101, 114, 50]), .lit (.string [119, 97, 116, 101, 114, 51]), .lit (.string [119, 97, 116, 101, 114, 52]), .lit (.string [119, 97, 116, 101, 114, 53]), .lit (.string [119, 97, 116, 101, 114, 54]), .lit (.string [119, 97, 116, 101, 114, 55])]

/-- 'breccialaw04.BlockKinds': WHATEVER THE INPUT: true; the input reads as it did. -/
def blockKindsSpec : ChangeSpec := { name := "blockKinds", fn := fun _ => fun
  | [d] => { results := [.lit (.bool true)], args := [d] }
  | _ => none }
def blockKindsRow : OpenClaim := { program := "ytnodaoelijjhiaadoor", sum := "af145f7310d3c0d27b55cc18d5e139e0a0b884bdd6425d6d0be196a15e1dee66", func := "breccia/breccialaw04.BlockKinds", spec := "blockKinds", named := ["breccia/block.names"], apart := false, laid := [("breccia/block.names", laid_breccia_block_names)] }
def BlockKindsSaid : Prop := blockKindsRow.holds Tryd.pinned (OpenSpec.ofChange blockKindsSpec)

/-- ITS FALSE NEIGHBOUR: 'it returns false'. Refute it at one input. -/
def blockKindsWrong : ChangeSpec := { name := "blockKinds", fn := fun _ => fun
  | [d] => { results := [.lit (.bool false)], args := [d] }
  | _ => none }
def BlockKindsWrongFalsely : Prop := blockKindsRow.holds Tryd.pinned (OpenSpec.ofChange blockKindsWrong)

/-- 'breccialaw04.BlockNames': WHATEVER THE INPUT: true; the input reads as it did. -/
def blockNamesSpec : ChangeSpec := { name := "blockNames", fn := fun _ => fun
  | [d1, d2] => { results := [.lit (.bool true)], args := [d1, d2] }
  | _ => none }
def blockNamesRow : OpenClaim := { program := "ytnodaoelijjhiaadoor", sum := "af145f7310d3c0d27b55cc18d5e139e0a0b884bdd6425d6d0be196a15e1dee66", func := "breccia/breccialaw04.BlockNames", spec := "blockNames", named := ["breccia/block.names"], apart := false, laid := [("breccia/block.names", laid_breccia_block_names)] }
def BlockNamesSaid : Prop := blockNamesRow.holds Tryd.pinned (OpenSpec.ofChange blockNamesSpec)

/-- ITS FALSE NEIGHBOUR: 'it returns false'. Refute it at one input. -/
def blockNamesWrong : ChangeSpec := { name := "blockNames", fn := fun _ => fun
  | [d1, d2] => { results := [.lit (.bool false)], args := [d1, d2] }
  | _ => none }
def BlockNamesWrongFalsely : Prop := blockNamesRow.holds Tryd.pinned (OpenSpec.ofChange blockNamesWrong)

/-- 'breccialaw04.BlockWaters': WHATEVER THE INPUT: true; the input reads as it did. -/
def blockWatersSpec : ChangeSpec := { name := "blockWaters", fn := fun _ => fun
  | [d] => { results := [.lit (.bool true)], args := [d] }
  | _ => none }
def blockWatersRow : OpenClaim := { program := "ytnodaoelijjhiaadoor", sum := "af145f7310d3c0d27b55cc18d5e139e0a0b884bdd6425d6d0be196a15e1dee66", func := "breccia/breccialaw04.BlockWaters", spec := "blockWaters", named := ["breccia/block.names"], apart := false, laid := [("breccia/block.names", laid_breccia_block_names)] }
def BlockWatersSaid : Prop := blockWatersRow.holds Tryd.pinned (OpenSpec.ofChange blockWatersSpec)

/-- ITS FALSE NEIGHBOUR: 'it returns false'. Refute it at one input. -/
def blockWatersWrong : ChangeSpec := { name := "blockWaters", fn := fun _ => fun
  | [d] => { results := [.lit (.bool false)], args := [d] }
  | _ => none }
def BlockWatersWrongFalsely : Prop := blockWatersRow.holds Tryd.pinned (OpenSpec.ofChange blockWatersWrong)

/-- 'breccialaw04.BlockWords': WHATEVER THE INPUT: true; the input reads as it did. -/
def blockWordsSpec : ChangeSpec := { name := "blockWords", fn := fun _ => fun
  | [d1, d2] => { results := [.lit (.bool true)], args := [d1, d2] }
  | _ => none }
def blockWordsRow : OpenClaim := { program := "ytnodaoelijjhiaadoor", sum := "af145f7310d3c0d27b55cc18d5e139e0a0b884bdd6425d6d0be196a15e1dee66", func := "breccia/breccialaw04.BlockWords", spec := "blockWords", named := ["breccia/block.names"], apart := false, laid := [("breccia/block.names", laid_breccia_block_names)] }
def BlockWordsSaid : Prop := blockWordsRow.holds Tryd.pinned (OpenSpec.ofChange blockWordsSpec)

/-- ITS FALSE NEIGHBOUR: 'it returns false'. Refute it at one input. -/
def blockWordsWrong : ChangeSpec := { name := "blockWords", fn := fun _ => fun
  | [d1, d2] => { results := [.lit (.bool false)], args := [d1, d2] }
  | _ => none }
def BlockWordsWrongFalsely : Prop := blockWordsRow.holds Tryd.pinned (OpenSpec.ofChange blockWordsWrong)

/- THE SECOND FORM. 'bulk': how many values and letters a reading holds, each counted each time it is reached (what is shared counts as often as it is met; a slice's spare places count too). A statement '..UptoSaid' is the law's where the arguments, and the package variables that the reading takes, are together of bulk at most 1048576: NARROWER than '..Said'. Prove '..Said' where nothing that the law and all that it calls make is longer than what came in: it says more and counts as full. Else prove '..UptoSaid'. A law counts once. -/
mutual
def uptoBulk {H : Type} : DataW H → Nat
  | .lit (.string bytes) => bytes.length + 1
  | .lit _ => 1
  | .nil => 1
  | .ptr d => uptoBulk d + 1
  | .slice elems spare => uptoBulkAll elems + uptoBulkAll spare + 1
  | .agg parts => uptoBulkAll parts + 1
  | .iface _ d => uptoBulk d + 1
  | .map entries => uptoBulkEntries entries + 1
  | .held _ => 1
def uptoBulkAll {H : Type} : List (DataW H) → Nat
  | [] => 0
  | d :: r => uptoBulk d + uptoBulkAll r
def uptoBulkEntries {H : Type} : List (Lit × DataW H) → Nat
  | [] => 0
  | x :: r => uptoBulkEntry x + uptoBulkEntries r
def uptoBulkEntry {H : Type} : Lit × DataW H → Nat
  | (.string bytes, d) => bytes.length + uptoBulk d + 1
  | (_, d) => uptoBulk d + 1
 end
def uptoSmall : (H : Type) → List (DataW H) → Bool := fun _ ds => decide (uptoBulkAll ds ≤ 1048576)
def OpenSpec.upto (s : _root_.Go.ChangeSpec) : _root_.Go.OpenSpec := { _root_.Go.OpenSpec.ofChange s with cond := some uptoSmall }

/-- 'breccialaw04.BlockKinds', WHERE WHAT IT READS IS OF BULK AT MOST 1048576: true; the input reads as it did. -/
def blockKindsUptoRow : OpenClaim := { program := "ytnodaoelijjhiaadoor", sum := "af145f7310d3c0d27b55cc18d5e139e0a0b884bdd6425d6d0be196a15e1dee66", func := "breccia/breccialaw04.BlockKinds", spec := "blockKinds", named := ["breccia/block.names"], apart := false, laid := [("breccia/block.names", laid_breccia_block_names)], narrowed := true }
def BlockKindsUptoSaid : Prop := blockKindsUptoRow.holds Tryd.pinned (OpenSpec.upto blockKindsSpec)

/-- 'breccialaw04.BlockNames', WHERE WHAT IT READS IS OF BULK AT MOST 1048576: true; the input reads as it did. -/
def blockNamesUptoRow : OpenClaim := { program := "ytnodaoelijjhiaadoor", sum := "af145f7310d3c0d27b55cc18d5e139e0a0b884bdd6425d6d0be196a15e1dee66", func := "breccia/breccialaw04.BlockNames", spec := "blockNames", named := ["breccia/block.names"], apart := false, laid := [("breccia/block.names", laid_breccia_block_names)], narrowed := true }
def BlockNamesUptoSaid : Prop := blockNamesUptoRow.holds Tryd.pinned (OpenSpec.upto blockNamesSpec)

/-- 'breccialaw04.BlockWaters', WHERE WHAT IT READS IS OF BULK AT MOST 1048576: true; the input reads as it did. -/
def blockWatersUptoRow : OpenClaim := { program := "ytnodaoelijjhiaadoor", sum := "af145f7310d3c0d27b55cc18d5e139e0a0b884bdd6425d6d0be196a15e1dee66", func := "breccia/breccialaw04.BlockWaters", spec := "blockWaters", named := ["breccia/block.names"], apart := false, laid := [("breccia/block.names", laid_breccia_block_names)], narrowed := true }
def BlockWatersUptoSaid : Prop := blockWatersUptoRow.holds Tryd.pinned (OpenSpec.upto blockWatersSpec)

/-- 'breccialaw04.BlockWords', WHERE WHAT IT READS IS OF BULK AT MOST 1048576: true; the input reads as it did. -/
def blockWordsUptoRow : OpenClaim := { program := "ytnodaoelijjhiaadoor", sum := "af145f7310d3c0d27b55cc18d5e139e0a0b884bdd6425d6d0be196a15e1dee66", func := "breccia/breccialaw04.BlockWords", spec := "blockWords", named := ["breccia/block.names"], apart := false, laid := [("breccia/block.names", laid_breccia_block_names)], narrowed := true }
def BlockWordsUptoSaid : Prop := blockWordsUptoRow.holds Tryd.pinned (OpenSpec.upto blockWordsSpec)

end Rows
end Go.Proofs.YtnodaoelijjhiaaDoor
