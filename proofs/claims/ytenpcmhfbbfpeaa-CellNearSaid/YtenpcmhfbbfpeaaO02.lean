/- What comes in, opened: whole numbers, ways, boxes. -/
import Derived.Test.YtenpcmhfbbfpeaaRows
import Derived.WalkKit
import Derived.ProofKit
import Derived.OpenShut
import Derived.Carry
import Derived.Deep.Strs
set_option linter.unusedVariables false
namespace Go.Proofs.Ytenpcmhfbbfpeaa
open Go.ChangeShapes Go.WideShapes Go.ChangeAt Go.RowKit Go.Deep
theorem laidOut : laidOutB Try.prog = true := by kernel_rfl
section
variable {H : Type} {enc : TypeId × Value → H} {w : World} {base : Nat} {spare : Nat → Bool} {held : Bool} {r : Reach} {b0 : Nat}
theorem wf_i64 {n : Int} (h : (Lit.int .i64 n).wf = true) : -9223372036854775808 ≤ n ∧ n ≤ 9223372036854775807 := by
  have h1 : IntKind.i64.min = -9223372036854775808 := rfl
  have h2 : IntKind.i64.max = 9223372036854775807 := rfl
  simp only [Lit.wf, Bool.and_eq_true, decide_eq_true_eq] at h
  omega
theorem int_trod {n : Nat} {cs : List Value} {x : DataW H × List MemPlace} (h : DataW.trod enc Try.prog w base spare held n 3 cs = some x) :
    ∃ a : Int, cs = [.int .i64 a] ∧ -9223372036854775808 ≤ a ∧ a ≤ 9223372036854775807 := by
  obtain ⟨a, e, _, wf⟩ := DataW.trod_int Try.underlying3 h
  exact ⟨a, e, wf_i64 wf⟩
theorem open_num {v : Value} {d : DataW H} {p : List MemPlace} (hv : Value.okWide Try.prog w r b0 3 v) (h : DataW.Trod enc Try.prog w base spare held 3 v d p) :
    ∃ a : Int, v = .int .i64 a ∧ -9223372036854775808 ≤ a ∧ a ≤ 9223372036854775807 := by
  obtain ⟨a, rfl, _, _, wf⟩ := open_int Try.underlying3 hv h
  exact ⟨a, rfl, wf_i64 wf⟩
structure V3 where
  x : Int
  y : Int
  z : Int
abbrev V3.val (a : V3) : Value := .agg #[.int .i64 a.x, .int .i64 a.y, .int .i64 a.z]
abbrev V3.wf (a : V3) : Prop := (-9223372036854775808 ≤ a.x ∧ a.x ≤ 9223372036854775807) ∧ (-9223372036854775808 ≤ a.y ∧ a.y ≤ 9223372036854775807) ∧ (-9223372036854775808 ≤ a.z ∧ a.z ≤ 9223372036854775807)
theorem three_trod {t : TypeId} {f0 f1 f2 : Field} {n : Nat} {cs : List Value} {x : DataW H × List MemPlace} (hs : Try.prog.underlying t = some (.struct #[f0, f1, f2])) (hC : Try.prog.cellsOf t = 3)
    (t0 : f0.type = 3) (t1 : f1.type = 3) (t2 : f2.type = 3) (o0 : f0.offset = 0) (o1 : f1.offset = 1) (o2 : f2.offset = 2) (h1 : Try.prog.cellsOf 3 = 1)
    (h : DataW.trod enc Try.prog w base spare held n t cs = some x) : ∃ a : V3, cs = [.int .i64 a.x, .int .i64 a.y, .int .i64 a.z] ∧ a.wf := by
  obtain ⟨y0, y1, y2, m, _, hl, g0, g1, g2⟩ := trod_struct3 hs h
  rw [hC] at hl
  rw [t0, o0, h1] at g0
  rw [t1, o1, h1] at g1
  rw [t2, o2, h1] at g2
  match cs, hl with
  | [c0, c1, c2], _ =>
    obtain ⟨a, ea, wa⟩ := int_trod g0
    obtain ⟨b, eb, wb⟩ := int_trod g1
    obtain ⟨c, ec, wc⟩ := int_trod g2
    simp at ea eb ec
    subst ea eb ec
    exact ⟨⟨a, b, c⟩, rfl, wa, wb, wc⟩
theorem one_int : Try.prog.cellsOf 3 = 1 := by kernel_rfl
theorem vec_cells : Try.prog.cellsOf 27 = 3 := by kernel_rfl
theorem vec_trod {n : Nat} {cs : List Value} {x : DataW H × List MemPlace} (h : DataW.trod enc Try.prog w base spare held n 27 cs = some x) :
    ∃ a : V3, cs = [.int .i64 a.x, .int .i64 a.y, .int .i64 a.z] ∧ a.wf :=
  three_trod Try.underlying27 vec_cells rfl rfl rfl rfl rfl rfl one_int h
theorem open_vec {v : Value} {d : DataW H} {p : List MemPlace} (hv : Value.okWide Try.prog w r b0 27 v) (h : DataW.Trod enc Try.prog w base spare held 27 v d p) : ∃ a : V3, v = a.val ∧ a.wf := by
  obtain ⟨cs, rfl, hsz⟩ := okWide_struct Try.underlying27 hv
  obtain ⟨fuel, hf⟩ := h
  obtain ⟨a, e, wa⟩ := vec_trod hf
  exact ⟨a, by rw [V3.val]; congr 1; cases cs; simpa [Value.cells] using e, wa⟩
structure V6 where
  lo : V3
  hi : V3
abbrev V6.val (a : V6) : Value := .agg #[.int .i64 a.lo.x, .int .i64 a.lo.y, .int .i64 a.lo.z, .int .i64 a.hi.x, .int .i64 a.hi.y, .int .i64 a.hi.z]
abbrev V6.wf (a : V6) : Prop := a.lo.wf ∧ a.hi.wf
theorem box_cells : Try.prog.cellsOf 31 = 6 := by kernel_rfl
theorem box_trod {n : Nat} {cs : List Value} {x : DataW H × List MemPlace} (h : DataW.trod enc Try.prog w base spare held n 31 cs = some x) :
    ∃ a : V6, cs = [.int .i64 a.lo.x, .int .i64 a.lo.y, .int .i64 a.lo.z, .int .i64 a.hi.x, .int .i64 a.hi.y, .int .i64 a.hi.z] ∧ a.wf := by
  obtain ⟨y0, y1, m, _, hl, g0, g1⟩ := trod_struct2 Try.underlying31 h
  rw [box_cells] at hl
  simp only [vec_cells] at g0 g1
  obtain ⟨a, ea, wa⟩ := vec_trod g0
  obtain ⟨b, eb, wb⟩ := vec_trod g1
  match cs, hl with
  | [c0, c1, c2, c3, c4, c5], _ =>
    simp at ea eb
    obtain ⟨rfl, rfl, rfl⟩ := ea
    obtain ⟨rfl, rfl, rfl⟩ := eb
    exact ⟨⟨a, b⟩, rfl, wa, wb⟩
theorem open_box {v : Value} {d : DataW H} {p : List MemPlace} (hv : Value.okWide Try.prog w r b0 31 v) (h : DataW.Trod enc Try.prog w base spare held 31 v d p) : ∃ a : V6, v = a.val ∧ a.wf := by
  obtain ⟨cs, rfl, hsz⟩ := okWide_struct Try.underlying31 hv
  obtain ⟨fuel, hf⟩ := h
  obtain ⟨a, e, wa⟩ := box_trod hf
  exact ⟨a, by rw [V6.val]; congr 1; cases cs; simpa [Value.cells] using e, wa⟩
theorem cell_cells : Try.prog.cellsOf 28 = 3 := by kernel_rfl
theorem cell_trod {n : Nat} {cs : List Value} {x : DataW H × List MemPlace} (h : DataW.trod enc Try.prog w base spare held n 28 cs = some x) :
    ∃ a : V3, cs = [.int .i64 a.x, .int .i64 a.y, .int .i64 a.z] ∧ a.wf :=
  three_trod Try.underlying28 cell_cells rfl rfl rfl rfl rfl rfl one_int h
theorem open_cell {v : Value} {d : DataW H} {p : List MemPlace} (hv : Value.okWide Try.prog w r b0 28 v) (h : DataW.Trod enc Try.prog w base spare held 28 v d p) : ∃ a : V3, v = a.val ∧ a.wf := by
  obtain ⟨cs, rfl, hsz⟩ := okWide_struct Try.underlying28 hv
  obtain ⟨fuel, hf⟩ := h
  obtain ⟨a, e, wa⟩ := cell_trod hf
  exact ⟨a, by rw [V3.val]; congr 1; cases cs; simpa [Value.cells] using e, wa⟩
structure V2 where
  x : Int
  z : Int
abbrev V2.val (a : V2) : Value := .agg #[.int .i64 a.x, .int .i64 a.z]
abbrev V2.wf (a : V2) : Prop := (-9223372036854775808 ≤ a.x ∧ a.x ≤ 9223372036854775807) ∧ (-9223372036854775808 ≤ a.z ∧ a.z ≤ 9223372036854775807)
theorem pos_cells : Try.prog.cellsOf 38 = 2 := by kernel_rfl
theorem pos_trod {n : Nat} {cs : List Value} {x : DataW H × List MemPlace} (h : DataW.trod enc Try.prog w base spare held n 38 cs = some x) :
    ∃ a : V2, cs = [.int .i64 a.x, .int .i64 a.z] ∧ a.wf := by
  obtain ⟨y0, y1, m, _, hl, g0, g1⟩ := trod_struct2 Try.underlying38 h
  rw [pos_cells] at hl
  simp only [one_int] at g0 g1
  obtain ⟨a, ea, wa⟩ := int_trod g0
  obtain ⟨b, eb, wb⟩ := int_trod g1
  match cs, hl with
  | [c0, c1], _ =>
    simp at ea eb
    subst ea eb
    exact ⟨⟨a, b⟩, rfl, wa, wb⟩
theorem open_pos {v : Value} {d : DataW H} {p : List MemPlace} (hv : Value.okWide Try.prog w r b0 38 v) (h : DataW.Trod enc Try.prog w base spare held 38 v d p) : ∃ a : V2, v = a.val ∧ a.wf := by
  obtain ⟨cs, rfl, hsz⟩ := okWide_struct Try.underlying38 hv
  obtain ⟨fuel, hf⟩ := h
  obtain ⟨a, e, wa⟩ := pos_trod hf
  exact ⟨a, by rw [V2.val]; congr 1; cases cs; simpa [Value.cells] using e, wa⟩
end
end Go.Proofs.Ytenpcmhfbbfpeaa
