/- Plain words of layer 2: ways, boxes, where they lie. -/
import Derived.Test.YtkephcmjigfepaaM01
import Derived.Test.YtkephcmjigfepaaS01
set_option linter.unusedVariables false
namespace Go.Proofs.Ytkephcmjigfepaa
open Go Go.RowKit
abbrev vecV (x y z : Int) : Value := .agg #[.int .i64 x, .int .i64 y, .int .i64 z]
abbrev boxV (x y z x' y' z' : Int) : Value := .agg #[.int .i64 x, .int .i64 y, .int .i64 z, .int .i64 x', .int .i64 y', .int .i64 z']
/-- The number of an axis. -/
def axisF (x y z i : Int) : Int := if i = 0 then x else if i = 1 then y else if i = 2 then z else 0
/-- Three whole numbers lie side by side, in every later world. -/
structure At3 (w : World) (b o : Nat) (x y z : Int) : Prop where
  lt : b < w.heap.size
  c0 : w.cell? ⟨b, o, none⟩ = some (.int .i64 x)
  c1 : w.cell? ⟨b, o + 1, none⟩ = some (.int .i64 y)
  c2 : w.cell? ⟨b, o + 2, none⟩ = some (.int .i64 z)
theorem At3.keep {w W : World} {b o : Nat} {x y z : Int} (h : At3 w b o x y z) (hb : Below w.heap.size w W) : At3 W b o x y z :=
  ⟨Nat.lt_of_lt_of_le h.1 hb.size, keepc hb h.1 h.2, keepc hb h.1 h.3, keepc hb h.1 h.4⟩
theorem At3.all {w : World} {b o : Nat} {x y z : Int} (h : At3 w b o x y z) :
    (∀ W, Below w.heap.size w W → W.cell? ⟨b, o, none⟩ = some (.int .i64 x)) ∧ (∀ W, Below w.heap.size w W → W.cell? ⟨b, o + 1, none⟩ = some (.int .i64 y)) ∧ (∀ W, Below w.heap.size w W → W.cell? ⟨b, o + 2, none⟩ = some (.int .i64 z)) :=
  ⟨fun _ hb => keepc hb h.1 h.2, fun _ hb => keepc hb h.1 h.3, fun _ hb => keepc hb h.1 h.4⟩
theorem ax0 (x y z : Int) : axisF x y z 0 = x := rfl
theorem ax1 (x y z : Int) : axisF x y z 1 = y := rfl
theorem ax2 (x y z : Int) : axisF x y z 2 = z := rfl
def eq3B (x y z x' y' z' : Int) : Bool := decide (x = x' ∧ y = y' ∧ z = z')
theorem eq3_self (x y z : Int) : eq3B x y z x y z = true := by simp [eq3B]
theorem cut_in {a : Int} (h : -140737488355328 ≤ a) (h1 : a ≤ 140737488355328) : cut a = a := by unfold cut; omega
theorem eq3_symm (x y z u v t : Int) : eq3B x y z u v t = eq3B u v t x y z := by unfold eq3B; rw [Bool.eq_iff_iff]; simp; omega
theorem vec_eq {x y z u v t : Int} (h0 : x = u) (h1 : y = v) (h2 : z = t) : vecV x y z = vecV u v t := by rw [h0, h1, h2]
theorem box_eq {x y z u v t x' y' z' u' v' t' : Int} (h0 : x = u) (h1 : y = v) (h2 : z = t) (h3 : x' = u') (h4 : y' = v') (h5 : z' = t') : boxV x y z x' y' z' = boxV u v t u' v' t' := by rw [h0, h1, h2, h3, h4, h5]
theorem near_cut {a : Int} (h : -105553116266496 ≤ a ∧ a ≤ 105553116266496) : cut a = a := cut_in (by omega) (by omega)
def aroundF (n m : Int) : Int := (if n < 0 then -(n + 1) else n) % m
theorem around_bd (n m : Int) (hm : 1 ≤ m) : 0 ≤ aroundF n m ∧ aroundF n m < m := ⟨Int.emod_nonneg _ (by omega), Int.emod_lt_of_pos _ (by omega)⟩
def smallF (n : Int) : Int := aroundF n 70368744177665 - 35184372088832
abbrev i64 (n : Int) : Prop := -9223372036854775808 ≤ n ∧ n ≤ 9223372036854775807
theorem small_bd (n : Int) : -35184372088832 ≤ smallF n ∧ smallF n ≤ 35184372088832 := by
  have := around_bd n 70368744177665 (by omega); unfold smallF; omega
/-- A box lies at o. -/
structure BoxAt (w : World) (b o : Nat) (x y z x' y' z' : Int) : Prop where
  lt : b < w.heap.size
  c0 : w.cell? ⟨b, o, none⟩ = some (.int .i64 x)
  c1 : w.cell? ⟨b, o + 1, none⟩ = some (.int .i64 y)
  c2 : w.cell? ⟨b, o + 2, none⟩ = some (.int .i64 z)
  c3 : w.cell? ⟨b, o + 3, none⟩ = some (.int .i64 x')
  c4 : w.cell? ⟨b, o + 4, none⟩ = some (.int .i64 y')
  c5 : w.cell? ⟨b, o + 5, none⟩ = some (.int .i64 z')
theorem BoxAt.keep {w W : World} {b o : Nat} {x y z x' y' z' : Int} (h : BoxAt w b o x y z x' y' z') (hb : Below w.heap.size w W) : BoxAt W b o x y z x' y' z' :=
  ⟨Nat.lt_of_lt_of_le h.lt hb.size, keepc hb h.lt h.c0, keepc hb h.lt h.c1, keepc hb h.lt h.c2, keepc hb h.lt h.c3, keepc hb h.lt h.c4, keepc hb h.lt h.c5⟩
end Go.Proofs.Ytkephcmjigfepaa
