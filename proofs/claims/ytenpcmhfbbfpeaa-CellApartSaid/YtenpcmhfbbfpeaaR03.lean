/- Contracts of layer 2's reference, and of what its statements call. -/
import Derived.Test.YtenpcmhfbbfpeaaR02
set_option linter.unusedVariables false
namespace Go.Proofs.Ytenpcmhfbbfpeaa
open Go.ChangeShapes Go.WideShapes Go.ChangeAt Go.RowKit
attribute [local go_sem ↓] Go.wp_at_zero Go.wp_at_succ
theorem r2_has (x y z x' y' z' u v t : Int) (w : World) : Calls Try.prog 21 #[boxV x y z x' y' z', vecV u v t] w fun e w' =>
    e = .returned (.bool ((decide (x ≤ u) && decide (u < x')) && (decide (y ≤ v) && decide (v < y')) && (decide (z ≤ t) && decide (t < z')))) ∧ Below w.heap.size w w' := by
  go_enter Try.func21, Try.ntmps21
  go_wp2
  all_goals
    go_ret
    exact ⟨ret_bool (by first | (simp [*]; done) | (rw [Bool.eq_iff_iff]; simp [*]; omega)), by (repeat (first | with_reducible assumption | with_reducible exact Below.refl _ _ | with_reducible refine Below.drew ?_ | with_reducible refine below_drewN ?_ _ | with_reducible refine al ?_ _ | (with_reducible refine sc ?_ ?_; (focus (first | omega | (simp; done) | (simp; omega)))) | (with_reducible refine chain ?_ (by assumption))))⟩
