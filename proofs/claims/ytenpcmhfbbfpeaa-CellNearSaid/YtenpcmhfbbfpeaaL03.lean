/- What the statements of layer 3 call themselves. -/
import Derived.Test.YtenpcmhfbbfpeaaE03
import Derived.Test.YtenpcmhfbbfpeaaQ02
set_option linter.unusedVariables false
namespace Go.Proofs.Ytenpcmhfbbfpeaa
open Go.ChangeShapes Go.WideShapes Go.ChangeAt Go.RowKit
theorem l3_low (n : Int) (w : World) : Calls Try.prog 14 #[.int .i64 n] w fun e w' => e = .returned (.int .i64 (if n < 0 then 1 else 0)) ∧ w = w' := by
  by_cases h : n < 0
  · rw [if_pos h]
    go_enter Try.func14, Try.ntmps14
    go_wp2
    go_ret
    exact ⟨rfl, rfl⟩
  · rw [if_neg h]
    go_enter Try.func14, Try.ntmps14
    go_wp2
    go_ret
    exact ⟨rfl, rfl⟩
theorem l3_lives (w : World) : Calls Try.prog 13 #[] w fun e w' => e = .returned (.bool true) ∧ Below w.heap.size w w' := by
  have ci := fun k => c3_index (-1) 0 (-1) (by decide) (by decide) (by decide) (by decide) k
  rw [show idxF (-1) 0 (-1) = 255 from rfl] at ci
  have cc := fun k => to_v (c3_chunk (-1) 0 (-1) (by decide) (by decide) k) (show posV (-1 / 16) (-1 / 16) = posV (-1) (-1) from rfl)
  have CI := Lib.hid ci
  have CC := Lib.hid cc
  clear ci cc
  go_enter Try.func13, Try.ntmps13
  go_wp2_with fail
  (refine (CI.out _).mono ?_; rintro e w1 ⟨rfl, hb1⟩)
  have k1 : Below w.heap.size w w1 := by (repeat (first | with_reducible assumption | with_reducible exact Below.refl _ _ | with_reducible refine Below.drew ?_ | with_reducible refine below_drewN ?_ _ | with_reducible refine al ?_ _ | (with_reducible refine sc ?_ ?_; (focus (first | omega | (simp; done) | (simp; omega)))) | (with_reducible refine chain ?_ (by assumption))))
  go_wp2_with fail
  (refine (CC.out _).mono ?_; rintro e w2 ⟨rfl, hb2⟩)
  have k2 : Below w.heap.size w w2 := by (repeat (first | with_reducible assumption | with_reducible exact Below.refl _ _ | with_reducible refine Below.drew ?_ | with_reducible refine below_drewN ?_ _ | with_reducible refine al ?_ _ | (with_reducible refine sc ?_ ?_; (focus (first | omega | (simp; done) | (simp; omega)))) | (with_reducible refine chain ?_ (by assumption))))
  go_wp2
  go_ret
  exact ⟨rfl, by (repeat (first | with_reducible assumption | with_reducible exact Below.refl _ _ | with_reducible refine Below.drew ?_ | with_reducible refine below_drewN ?_ _ | with_reducible refine al ?_ _ | (with_reducible refine sc ?_ ?_; (focus (first | omega | (simp; done) | (simp; omega)))) | (with_reducible refine chain ?_ (by assumption))))⟩
end Go.Proofs.Ytenpcmhfbbfpeaa
