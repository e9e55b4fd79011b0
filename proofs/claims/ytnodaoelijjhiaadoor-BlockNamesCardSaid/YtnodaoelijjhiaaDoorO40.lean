/- What comes in, opened: a text. -/
import Derived.Test.YtnodaoelijjhiaaDoorO02
import Derived.ChangeMaps5
set_option linter.unusedVariables false
namespace Go.Proofs.YtnodaoelijjhiaaDoor
open Go.ChangeShapes Go.WideShapes Go.ChangeAt Go.RowKit Go.Deep
section
variable {H : Type} {enc : TypeId × Value → H} {w : World} {base : Nat} {spare : Nat → Bool} {held : Bool} {r : Reach} {b0 : Nat}
theorem open_str {v : Value} {d : DataW H} {p : List MemPlace} (hv : Value.okWide Tryd.prog w r b0 9 v) (h : DataW.Trod enc Tryd.prog w base spare held 9 v d p) : ∃ a : ByteArray, v = .string a ∧ a.size ≤ maxLen := by
  obtain ⟨a, rfl, _, _, h1⟩ := Go.ChangeMaps.open_string Tryd.underlying9 hv h
  exact ⟨a, rfl, h1⟩
end
end Go.Proofs.YtnodaoelijjhiaaDoor
