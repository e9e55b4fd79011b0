/-
  NARROWER THAN 'FOR EVERY INPUT', by the rows' own cells (each row's printed sentence says how): CodeWrites: laid · CodeRound: laid · CodeReads: laid · CodeAgain: laid · CodeNumbers: laid · CodeSizes: laid.
  DERIVED. THE GIVEN ROWS OF THIS SEAT. 6 by the template 'for every input the law returns true; each argument reads behind the call as it read before'; 0 by the template 'total and deterministic' (their statements: YtafmekojdaeliaaDoorTotals.lean).
  GIVEN WITH THE SEED: the statements are not yours to turn. If you find one false, say at which input.
  Laid BY PROGRAM, IN A SANDBOX (cutbox-rows.mjs): the forced cells as the released guide's own fill.sh prints them over the translation 4d7584c14d3579fe… (all of the seat's roots in one cut). By AI agents, Wed Nov 11 2026. No macro, syntax, notation, axiom, sorry.
-/
import Derived.Test.YtafmekojdaeliaaDoorChecked
import GoSem.Claim
import GoSem.ClaimJoined
import GoSem.ClaimMapViews
import Derived.JoinedTies
import Derived.KernelRfl
namespace Go.Proofs.YtafmekojdaeliaaDoor
/- THE CELL 'sum', in the pinned program and in every row, IS THE sha256 OF THE DUMP (.gsa) THAT YtafmekojdaeliaaDoorProg.lean LOADS. Nothing in Lean hashes anything: it is a label: what it is worth is what the hold of that sum in a sandbox is worth. -/
noncomputable def Tryd.pinned : Pinned := { name := "ytafmekojdaeliaadoor", sum := "4d7584c14d3579fe7f94e787d677edf6afe5d68c0f232d7c2007af5b6382fbaf", checked := Tryd.checked }
namespace Rows
def none {H : Type} : Left H := { results := [], args := [] }

/- WHAT THE LISTED PACKAGE-LEVEL VARIABLES READ AS WHEN THE CALL BEGINS. Each datum BY PROGRAM (the guide's laid-datum.mjs) off the statement by which the dump's own 'gosem.cut.vars' lays the variable. In a bare row this is a premise. The card (YtafmekojdaeliaaDoorCards.lean) ties it to the program's text. -/
def laid_breccia_block_names {H : Type} : DataW H := .agg [.lit (.string [97, 105, 114]), .lit (.string [115, 116, 111, 110, 101]), .lit (.string [100, 105, 114, 116]), .lit (.string [115, 97, 110, 100]), .lit (.string [108, 97, 100, 100, 101, 114]), .lit (.string [103, 108, 97, 115, 115]), .lit (.string []), .lit (.string []), .lit (.string [119, 97, 116, 101, 114, 48]), .lit (.string [119, 97, 116, 101, 114, 49]), .lit (.string [119, 97, 116, 101, 114, 50]), .lit (.string [119, 97, 116, 101, 114, 51]), .lit (.string [119, 97, 116, 101, 114, 52]), .lit (.string [119, 97, 116, 101, 114, 53]), .lit (.string [119, 97, 116, 101, 114, 54]), .lit (.string [119, 97, 116, 101, 114, 55])]

/-- 'breccialaw06.CodeWrites': WHATEVER THE INPUT: true; the input reads as it did. -/
def codeWritesSpec : ChangeSpec := { name := "codeWrites", fn := fun _ => fun
  | [d] => { results := [.lit (.bool true)], args := [d] }
  | _ => none }
def codeWritesRow : OpenClaim := { program := "ytafmekojdaeliaadoor", sum := "4d7584c14d3579fe7f94e787d677edf6afe5d68c0f232d7c2007af5b6382fbaf", func := "breccia/breccialaw06.CodeWrites", spec := "codeWrites", named := ["breccia/block.names"], apart := false, laid := [("breccia/block.names", laid_breccia_block_names)] }
def CodeWritesSaid : Prop := codeWritesRow.holds Tryd.pinned (OpenSpec.ofChange codeWritesSpec)

/-- ITS FALSE NEIGHBOUR: 'it returns false'. Refute it at one input. -/
def codeWritesWrong : ChangeSpec := { name := "codeWrites", fn := fun _ => fun
  | [d] => { results := [.lit (.bool false)], args := [d] }
  | _ => none }
def CodeWritesWrongFalsely : Prop := codeWritesRow.holds Tryd.pinned (OpenSpec.ofChange codeWritesWrong)

/-- 'breccialaw06.CodeRound': WHATEVER THE INPUT: true; the input reads as it did. -/
def codeRoundSpec : ChangeSpec := { name := "codeRound", fn := fun _ => fun
  | [d1, d2, d3] => { results := [.lit (.bool true)], args := [d1, d2, d3] }
  | _ => none }
def codeRoundRow : OpenClaim := { program := "ytafmekojdaeliaadoor", sum := "4d7584c14d3579fe7f94e787d677edf6afe5d68c0f232d7c2007af5b6382fbaf", func := "breccia/breccialaw06.CodeRound", spec := "codeRound", named := ["breccia/block.names"], apart := false, laid := [("breccia/block.names", laid_breccia_block_names)] }
def CodeRoundSaid : Prop := codeRoundRow.holds Tryd.pinned (OpenSpec.ofChange codeRoundSpec)

/-- ITS FALSE NEIGHBOUR: 'it returns false'. Refute it at one input. -/
def codeRoundWrong : ChangeSpec := { name := "codeRound", fn := fun _ => fun
  | [d1, d2, d3] => { results := [.lit (.bool false)], args := [d1, d2, d3] }
  | _ => none }
def CodeRoundWrongFalsely : Prop := codeRoundRow.holds Tryd.pinned (OpenSpec.ofChange codeRoundWrong)

/-- 'breccialaw06.CodeReads': WHATEVER THE INPUT: true; the input reads as it did. -/
def codeReadsSpec : ChangeSpec := { name := "codeReads", fn := fun _ => fun
  | [d1, d2, d3, d4, d5] => { results := [.lit (.bool true)], args := [d1, d2, d3, d4, d5] }
  | _ => none }
def codeReadsRow : OpenClaim := { program := "ytafmekojdaeliaadoor", sum := "4d7584c14d3579fe7f94e787d677edf6afe5d68c0f232d7c2007af5b6382fbaf", func := "breccia/breccialaw06.CodeReads", spec := "codeReads", named := ["breccia/block.names"], apart := false, laid := [("breccia/block.names", laid_breccia_block_names)] }
def CodeReadsSaid : Prop := codeReadsRow.holds Tryd.pinned (OpenSpec.ofChange codeReadsSpec)

/-- ITS FALSE NEIGHBOUR: 'it returns false'. Refute it at one input. -/
def codeReadsWrong : ChangeSpec := { name := "codeReads", fn := fun _ => fun
  | [d1, d2, d3, d4, d5] => { results := [.lit (.bool false)], args := [d1, d2, d3, d4, d5] }
  | _ => none }
def CodeReadsWrongFalsely : Prop := codeReadsRow.holds Tryd.pinned (OpenSpec.ofChange codeReadsWrong)

/-- 'breccialaw06.CodeAgain': WHATEVER THE INPUT: true; the input reads as it did. -/
def codeAgainSpec : ChangeSpec := { name := "codeAgain", fn := fun _ => fun
  | [d1, d2] => { results := [.lit (.bool true)], args := [d1, d2] }
  | _ => none }
def codeAgainRow : OpenClaim := { program := "ytafmekojdaeliaadoor", sum := "4d7584c14d3579fe7f94e787d677edf6afe5d68c0f232d7c2007af5b6382fbaf", func := "breccia/breccialaw06.CodeAgain", spec := "codeAgain", named := ["breccia/block.names"], apart := false, laid := [("breccia/block.names", laid_breccia_block_names)] }
def CodeAgainSaid : Prop := codeAgainRow.holds Tryd.pinned (OpenSpec.ofChange codeAgainSpec)

/-- ITS FALSE NEIGHBOUR: 'it returns false'. Refute it at one input. -/
def codeAgainWrong : ChangeSpec := { name := "codeAgain", fn := fun _ => fun
  | [d1, d2] => { results := [.lit (.bool false)], args := [d1, d2] }
  | _ => none }
def CodeAgainWrongFalsely : Prop := codeAgainRow.holds Tryd.pinned (OpenSpec.ofChange codeAgainWrong)

/-- 'breccialaw06.CodeNumbers': WHATEVER THE INPUT: true; the input reads as it did. -/
def codeNumbersSpec : ChangeSpec := { name := "codeNumbers", fn := fun _ => fun
  | [d1, d2] => { results := [.lit (.bool true)], args := [d1, d2] }
  | _ => none }
def codeNumbersRow : OpenClaim := { program := "ytafmekojdaeliaadoor", sum := "4d7584c14d3579fe7f94e787d677edf6afe5d68c0f232d7c2007af5b6382fbaf", func := "breccia/breccialaw06.CodeNumbers", spec := "codeNumbers", named := ["breccia/block.names"], apart := false, laid := [("breccia/block.names", laid_breccia_block_names)] }
def CodeNumbersSaid : Prop := codeNumbersRow.holds Tryd.pinned (OpenSpec.ofChange codeNumbersSpec)

/-- ITS FALSE NEIGHBOUR: 'it returns false'. Refute it at one input. -/
def codeNumbersWrong : ChangeSpec := { name := "codeNumbers", fn := fun _ => fun
  | [d1, d2] => { results := [.lit (.bool false)], args := [d1, d2] }
  | _ => none }
def CodeNumbersWrongFalsely : Prop := codeNumbersRow.holds Tryd.pinned (OpenSpec.ofChange codeNumbersWrong)

/-- 'breccialaw06.CodeSizes': WHATEVER THE INPUT: true; the input reads as it did. -/
def codeSizesSpec : ChangeSpec := { name := "codeSizes", fn := fun _ => fun
  | [d1, d2] => { results := [.lit (.bool true)], args := [d1, d2] }
  | _ => none }
def codeSizesRow : OpenClaim := { program := "ytafmekojdaeliaadoor", sum := "4d7584c14d3579fe7f94e787d677edf6afe5d68c0f232d7c2007af5b6382fbaf", func := "breccia/breccialaw06.CodeSizes", spec := "codeSizes", named := ["breccia/block.names"], apart := false, laid := [("breccia/block.names", laid_breccia_block_names)] }
def CodeSizesSaid : Prop := codeSizesRow.holds Tryd.pinned (OpenSpec.ofChange codeSizesSpec)

/-- ITS FALSE NEIGHBOUR: 'it returns false'. Refute it at one input. -/
def codeSizesWrong : ChangeSpec := { name := "codeSizes", fn := fun _ => fun
  | [d1, d2] => { results := [.lit (.bool false)], args := [d1, d2] }
  | _ => none }
def CodeSizesWrongFalsely : Prop := codeSizesRow.holds Tryd.pinned (OpenSpec.ofChange codeSizesWrong)

/- THE SECOND FORM. 'bulk': how many values and letters a reading holds, each counted each time it is reached (what is shared counts as often as it is met; a slice's spare places count too). A statement '..UptoSaid' is the law's where the arguments, and the package variables that the reading takes, are together of bulk at most 1048576: NARROWER than '..Said'. Prove '..Said' where nothing that the law and all that it calls make is longer than what came in: it says more and counts as full. Else prove '..UptoSaid'. A law counts once. -/
mutual
def uptoBulk {H : Type} : DataW H → Nat
  | .lit (.string bytes) => bytes.length + 1
  | .lit _ => 1
  | .nil => 1
  | .ptr d => uptoBulk d + 1
  | .slice elems spare => uptoBulkAll elems + uptoBulkAll spare + 1
  | .agg parts => uptoBulkAll parts + 1
  | .iface _ d => uptoBulk d + 1
  | .map entries => uptoBulkEntries entries + 1
  | .held _ => 1
def uptoBulkAll {H : Type} : List (DataW H) → Nat
  | [] => 0
  | d :: r => uptoBulk d + uptoBulkAll r
def uptoBulkEntries {H : Type} : List (Lit × DataW H) → Nat
  | [] => 0
  | x :: r => uptoBulkEntry x + uptoBulkEntries r
def uptoBulkEntry {H : Type} : Lit × DataW H → Nat
  | (.string bytes, d) => bytes.length + uptoBulk d + 1
  | (_, d) => uptoBulk d + 1
 end
def uptoSmall : (H : Type) → List (DataW H) → Bool := fun _ ds => decide (uptoBulkAll ds ≤ 1048576)
def OpenSpec.upto (s : _root_.Go.ChangeSpec) : _root_.Go.OpenSpec := { _root_.Go.OpenSpec.ofChange s with cond := some uptoSmall }

/-- 'breccialaw06.CodeWrites', WHERE WHAT IT READS IS OF BULK AT MOST 1048576: true; the input reads as it did. -/
def codeWritesUptoRow : OpenClaim := { program := "ytafmekojdaeliaadoor", sum := "4d7584c14d3579fe7f94e787d677edf6afe5d68c0f232d7c2007af5b6382fbaf", func := "breccia/breccialaw06.CodeWrites", spec := "codeWrites", named := ["breccia/block.names"], apart := false, laid := [("breccia/block.names", laid_breccia_block_names)], narrowed := true }
def CodeWritesUptoSaid : Prop := codeWritesUptoRow.holds Tryd.pinned (OpenSpec.upto codeWritesSpec)

/-- 'breccialaw06.CodeRound', WHERE WHAT IT READS IS OF BULK AT MOST 1048576: true; the input reads as it did. -/
def codeRoundUptoRow : OpenClaim := { program := "ytafmekojdaeliaadoor", sum := "4d7584c14d3579fe7f94e787d677edf6afe5d68c0f232d7c2007af5b6382fbaf", func := "breccia/breccialaw06.CodeRound", spec := "codeRound", named := ["breccia/block.names"], apart := false, laid := [("breccia/block.names", laid_breccia_block_names)], narrowed := true }
def CodeRoundUptoSaid : Prop := codeRoundUptoRow.holds Tryd.pinned (OpenSpec.upto codeRoundSpec)

/-- 'breccialaw06.CodeReads', WHERE WHAT IT READS IS OF BULK AT MOST 1048576: true; the input reads as it did. -/
def codeReadsUptoRow : OpenClaim := { program := "ytafmekojdaeliaadoor", sum := "4d7584c14d3579fe7f94e787d677edf6afe5d68c0f232d7c2007af5b6382fbaf", func := "breccia/breccialaw06.CodeReads", spec := "codeReads", named := ["breccia/block.names"], apart := false, laid := [("breccia/block.names", laid_breccia_block_names)], narrowed := true }
def CodeReadsUptoSaid : Prop := codeReadsUptoRow.holds Tryd.pinned (OpenSpec.upto codeReadsSpec)

/-- 'breccialaw06.CodeAgain', WHERE WHAT IT READS IS OF BULK AT MOST 1048576: true; the input reads as it did. -/
def codeAgainUptoRow : OpenClaim := { program := "ytafmekojdaeliaadoor", sum := "4d7584c14d3579fe7f94e787d677edf6afe5d68c0f232d7c2007af5b6382fbaf", func := "breccia/breccialaw06.CodeAgain", spec := "codeAgain", named := ["breccia/block.names"], apart := false, laid := [("breccia/block.names", laid_breccia_block_names)], narrowed := true }
def CodeAgainUptoSaid : Prop := codeAgainUptoRow.holds Tryd.pinned (OpenSpec.upto codeAgainSpec)

/-- 'breccialaw06.CodeNumbers', WHERE WHAT IT READS IS OF BULK AT MOST 1048576: true; the input reads as it did. -/
def codeNumbersUptoRow : OpenClaim := { program := "ytafmekojdaeliaadoor", sum := "4d7584c14d3579fe7f94e787d677edf6afe5d68c0f232d7c2007af5b6382fbaf", func := "breccia/breccialaw06.CodeNumbers", spec := "codeNumbers", named := ["breccia/block.names"], apart := false, laid := [("breccia/block.names", laid_breccia_block_names)], narrowed := true }
def CodeNumbersUptoSaid : Prop := codeNumbersUptoRow.holds Tryd.pinned (OpenSpec.upto codeNumbersSpec)

/-- 'breccialaw06.CodeSizes', WHERE WHAT IT READS IS OF BULK AT MOST 1048576: true; the input reads as it did. -/
def codeSizesUptoRow : OpenClaim := { program := "ytafmekojdaeliaadoor", sum := "4d7584c14d3579fe7f94e787d677edf6afe5d68c0f232d7c2007af5b6382fbaf", func := "breccia/breccialaw06.CodeSizes", spec := "codeSizes", named := ["breccia/block.names"], apart := false, laid := [("breccia/block.names", laid_breccia_block_names)], narrowed := true }
def CodeSizesUptoSaid : Prop := codeSizesUptoRow.holds Tryd.pinned (OpenSpec.upto codeSizesSpec)

end Rows
end Go.Proofs.YtafmekojdaeliaaDoor
