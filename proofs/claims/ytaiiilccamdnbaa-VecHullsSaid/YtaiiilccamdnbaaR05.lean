/- Contracts of what the statements of layer 2 call themselves. -/
import Derived.Test.YtaiiilccamdnbaaR02
set_option linter.unusedVariables false
namespace Go.Proofs.Ytaiiilccamdnbaa
open Go.ChangeShapes Go.WideShapes Go.ChangeAt Go.RowKit
attribute [local go_sem ↓] Go.wp_at_zero Go.wp_at_succ
set_option maxHeartbeats 1000000 in
theorem r_inside (x y z x' y' z' u v t u' v' t' i n : Int) (w : World) : Calls Try.prog 38 #[boxV x y z x' y' z', boxV u v t u' v' t', .int .i64 i, .int .i64 n] w fun e w' =>
    e = .returned (.bool ((decide (axisF x y z i < n) && decide (n < axisF x' y' z' i)) || (decide (axisF u v t i < n) && decide (n < axisF u' v' t' i)))) ∧ Below w.heap.size w w' := by
  go_enter Try.func38, Try.ntmps38
  go_wp2_with fail
  (refine (r2_axis _ _ _ _ _).mono ?_; rintro e w1 ⟨rfl, hb1⟩)
  obtain ⟨hc1, hf1⟩ := bcell hb1
  have z0 : w.heap.size < w1.heap.size := size_lt (by first | (simp; done) | (simp; omega) | omega) hb1
  have z1 : w.heap.size + 1 < w1.heap.size := size_lt (by first | (simp; done) | (simp; omega) | omega) hb1
  have k : Below w.heap.size w w1 := by (repeat (first | with_reducible assumption | with_reducible exact Below.refl _ _ | with_reducible refine Below.drew ?_ | with_reducible refine below_drewN ?_ _ | with_reducible refine al ?_ _ | (with_reducible refine sc ?_ ?_; (focus (first | omega | (simp; done) | (simp; omega)))) | (with_reducible refine chain ?_ (by assumption))))
  go_wp2_with (go_at_call 22; refine (r2_axis _ _ _ _ _).mono ?_; rintro e w' ⟨rfl, hb2⟩; obtain ⟨hc2, hf2⟩ := bcell hb2; have z0 := size_lt z0 hb2; have z1 := size_lt z1 hb2; have k := chain k hb2)
  all_goals
    go_ret
    exact ⟨ret_bool (by first | (simp [*]; done) | (rw [Bool.eq_iff_iff]; simp [*]; omega)), by (repeat (first | with_reducible assumption | with_reducible exact Below.refl _ _ | with_reducible refine Below.drew ?_ | with_reducible refine below_drewN ?_ _ | with_reducible refine al ?_ _ | (with_reducible refine sc ?_ ?_; (focus (first | omega | (simp; done) | (simp; omega)))) | (with_reducible refine chain ?_ (by assumption))))⟩
theorem l2_lives (w : World) : Calls Try.prog 19 #[] w fun e w' => e = .returned (.bool true) ∧ Below w.heap.size w w' := by
  go_enter Try.func19, Try.ntmps19
  go_wp2_with fail
  (refine (v_overlap _ _ _ _ _ _ _ _ _ _ _ _ _).mono ?_; rintro e w1 ⟨rfl, hb1⟩)
  obtain ⟨hc1, hf1⟩ := bcell hb1
  have z0 : w.heap.size < w1.heap.size := size_lt (by first | (simp; done) | (simp; omega) | omega) hb1
  have k : Below w.heap.size w w1 := by (repeat (first | with_reducible assumption | with_reducible exact Below.refl _ _ | with_reducible refine Below.drew ?_ | with_reducible refine below_drewN ?_ _ | with_reducible refine al ?_ _ | (with_reducible refine sc ?_ ?_; (focus (first | omega | (simp; done) | (simp; omega)))) | (with_reducible refine chain ?_ (by assumption))))
  go_wp2_with fail
  (refine (v_overlap _ _ _ _ _ _ _ _ _ _ _ _ _).mono ?_; rintro e w2 ⟨rfl, hb2⟩)
  go_wp2
  go_ret
  exact ⟨rfl, chain k hb2⟩
end Go.Proofs.Ytaiiilccamdnbaa
