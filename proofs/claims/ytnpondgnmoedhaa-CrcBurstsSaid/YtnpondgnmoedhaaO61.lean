/- What comes in, opened: two bytes in a row. -/
import Derived.Test.YtnpondgnmoedhaaO60
import Derived.OpenShut
set_option linter.unusedVariables false
set_option linter.unusedSimpArgs false
namespace Go.Proofs.Ytnpondgnmoedhaa
open Go.ChangeShapes Go.WideShapes Go.ChangeAt Go.RowKit Go.Deep
section
variable {H : Type} {enc : TypeId × Value → H} {w : World} {r : Reach} {b0 base : Nat} {spare : Nat → Bool} {held : Bool}
theorem two_cells : Try.prog.cellsOf 28 = 2 := by kernel_rfl
theorem open_two {v : Value} {d : DataW H} {p : List MemPlace} (hv : Value.okWide Try.prog w r b0 28 v) (h : DataW.Trod enc Try.prog w base spare held 28 v d p) :
    ∃ a : Run, v = .agg #[.int .u8 a.1, .int .u8 a.2] ∧ (0 ≤ a.1 ∧ a.1 ≤ 255) ∧ 0 ≤ a.2 ∧ a.2 ≤ 255 := by
  obtain ⟨cs, rfl, hsz, _⟩ : ∃ cs, v = .agg cs ∧ cs.size = Try.prog.cellsOf 28 ∧ Row.okWide Try.prog w r b0 28 cs := by
    simpa [Value.okWide, Try.underlying28] using hv
  rw [two_cells] at hsz
  obtain ⟨l⟩ := cs
  match l, hsz with
  | [c0, c1], _ =>
    obtain ⟨fuel, hf⟩ := h
    obtain ⟨xs, m, _, _, _, hl, hel⟩ := DataW.trod_array Try.underlying28 hf
    have g0 := hel 0 (by omega)
    have g1 := hel 1 (by omega)
    rw [one_byte, List.getElem?_eq_getElem (by omega)] at g0 g1
    obtain ⟨a, ea, wa⟩ := byte_trod g0
    obtain ⟨b, eb, wb⟩ := byte_trod g1
    simp [Value.cells] at ea eb
    subst ea eb
    exact ⟨(a, b), rfl, wa, wb⟩
end
end Go.Proofs.Ytnpondgnmoedhaa
