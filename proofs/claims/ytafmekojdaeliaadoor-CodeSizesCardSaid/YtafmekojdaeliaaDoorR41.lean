/- Contracts of layer 4's reference (blocks): Parse. -/
import Derived.Test.YtafmekojdaeliaaDoorR40
set_option linter.unusedVariables false
set_option linter.unusedSimpArgs false
namespace Go.Proofs.YtafmekojdaeliaaDoor
open Go.ChangeShapes Go.WideShapes Go.ChangeAt Go.RowKit
/-- Is it that block's name? -/
def isB (s : ByteArray) (k : Nat) : Bool := mayB k && ((nameF k).toList == s.toList)
def parseF (s : ByteArray) : Option Nat := (List.range 16).find? (isB s)
def parseV (s : ByteArray) : Value := match parseF s with | some k => .tuple #[.int .i64 k, .bool true] | none => .tuple #[.int .i64 0, .bool false]
theorem parse_some {s : ByteArray} {k : Nat} (h : isB s k = true) (hk : k < 16) (hb : ∀ j, j < k → isB s j = false) : parseV s = .tuple #[.int .i64 k, .bool true] := by
  have : parseF s = some k := by
    unfold parseF
    rw [List.find?_range_eq_some]
    exact ⟨h, List.mem_range.2 hk, fun j hj => by simp [hb j hj]⟩
  unfold parseV
  rw [this]
theorem parse_none {s : ByteArray} (hb : ∀ j, j < 16 → isB s j = false) : parseV s = .tuple #[.int .i64 0, .bool false] := by
  have : parseF s = none := by
    unfold parseF
    rw [List.find?_range_eq_none]
    exact fun j hj => by simp [hb j hj]
  unfold parseV
  rw [this]
