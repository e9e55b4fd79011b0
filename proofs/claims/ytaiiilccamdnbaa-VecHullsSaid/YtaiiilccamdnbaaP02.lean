/- Contracts of layer 2 for what may be. -/
import Derived.Test.YtaiiilccamdnbaaR03
import Derived.Test.YtaiiilccamdnbaaR04
import Derived.Test.YtaiiilccamdnbaaR05
set_option linter.unusedVariables false
namespace Go.Proofs.Ytaiiilccamdnbaa
open Go.ChangeShapes Go.WideShapes Go.ChangeAt Go.RowKit
theorem cut_in {a : Int} (h : -140737488355328 ≤ a) (h1 : a ≤ 140737488355328) : cut a = a := by unfold cut; omega
theorem eq3_symm (x y z u v t : Int) : eq3B x y z u v t = eq3B u v t x y z := by unfold eq3B; rw [Bool.eq_iff_iff]; simp; omega
theorem vec_eq {x y z u v t : Int} (h0 : x = u) (h1 : y = v) (h2 : z = t) : vecV x y z = vecV u v t := by rw [h0, h1, h2]
theorem box_eq {x y z u v t x' y' z' u' v' t' : Int} (h0 : x = u) (h1 : y = v) (h2 : z = t) (h3 : x' = u') (h4 : y' = v') (h5 : z' = t') : boxV x y z x' y' z' = boxV u v t u' v' t' := by rw [h0, h1, h2, h3, h4, h5]
theorem to_v {P : Program} {f : FuncId} {args : Array Value} {u : World} {R R' : Value} (h : Calls P f args u fun e u' => e = .returned R ∧ Below u.heap.size u u') (hr : R = R') :
    Calls P f args u fun e u' => e = .returned R' ∧ Below u.heap.size u u' := hr ▸ h
theorem near_cut {a : Int} (h : -105553116266496 ≤ a ∧ a ≤ 105553116266496) : cut a = a := cut_in (by omega) (by omega)
theorem v_may_yes (x y z x' y' z' : Int) (h : cut x = x ∧ cut y = y ∧ cut z = z ∧ cut x' = x' ∧ cut y' = y' ∧ cut z' = z' ∧ x ≤ x' ∧ y ≤ y' ∧ z ≤ z') (w : World) : Calls Try.prog 26 #[boxV x y z x' y' z'] w fun e w' => e = .returned (.bool true) ∧ Below w.heap.size w w' := by
  refine (v_may x y z x' y' z' w).mono ?_
  rintro e w' ⟨rfl, hb⟩
  obtain ⟨h1, h2, h3, h4, h5, h6, h7, h8, h9⟩ := h
  exact ⟨ret_bool (by rw [h1, h2, h3, h4, h5, h6, eq3_self, eq3_self]; simp [h7, h8, h9]), hb⟩
theorem v_overlap_swap (x y z x' y' z' u v t u' v' t' : Int) (w : World) : Calls Try.prog 28 #[boxV u v t u' v' t', boxV x y z x' y' z'] w fun e w' =>
    e = .returned (.bool ((decide (x < u') && decide (u < x')) && (decide (y < v') && decide (v < y')) && (decide (z < t') && decide (t < z')))) ∧ Below w.heap.size w w' :=
  to_v (v_overlap u v t u' v' t' x y z x' y' z' w) (congrArg Value.bool (by rw [Bool.eq_iff_iff]; simp; omega))
theorem r2_may_as (x y z x' y' z' : Int) (w : World) : Calls Try.prog 27 #[boxV x y z x' y' z'] w fun e w' =>
    e = .returned (.bool (eq3B x y z (cut x) (cut y) (cut z) && eq3B x' y' z' (cut x') (cut y') (cut z') && (decide (x ≤ x') && decide (y ≤ y') && decide (z ≤ z')))) ∧ Below w.heap.size w w' := by
  refine (r2_may x y z x' y' z' w).mono ?_
  rintro e w' ⟨rfl, hb⟩
  exact ⟨ret_bool (by rw [eq3_symm x y z, eq3_symm x' y' z']), hb⟩
theorem v_stand_as (x y z n m : Int) (h0 : -9223372036854775808 ≤ n) (h1 : n ≤ 9223372036854775807) (h2 : -9223372036854775808 ≤ m) (h3 : m ≤ 9223372036854775807) (w : World) : Calls Try.prog 36 #[vecV x y z, .int .i64 n, .int .i64 m] w fun e w' =>
    e = .returned (boxV (cut (cut x - cut (max n 0 / 2))) (cut y) (cut (cut z - cut (max n 0 / 2))) (cut (cut x + cut (max n 0 / 2))) (cut (cut y + cut (max m 0))) (cut (cut z + cut (max n 0 / 2)))) ∧ Below w.heap.size w w' := by
  refine (v_stand x y z n m h0 h1 h2 h3 w).mono ?_
  rintro e w' ⟨rfl, hb⟩
  refine ⟨?_, hb⟩
  rw [show cut (cut y - cut 0) = cut y by rw [show cut 0 = 0 by decide +kernel, Int.sub_zero, cut_cut]]
end Go.Proofs.Ytaiiilccamdnbaa
