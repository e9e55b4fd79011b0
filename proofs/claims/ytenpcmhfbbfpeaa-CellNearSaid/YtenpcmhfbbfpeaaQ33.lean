/- How two arrays, of cells and of chunks' places, are compared: an array with itself. -/
import Derived.Test.YtenpcmhfbbfpeaaR30
import Derived.ChangeKeysEq
set_option linter.unusedVariables false
set_option linter.unusedSimpArgs false
namespace Go.Proofs.Ytenpcmhfbbfpeaa
open Go.ChangeShapes Go.WideShapes Go.ChangeAt Go.RowKit
theorem eqItems_self {P : Program} {w : World} {d c : Nat} {e : TypeId} {xs : Array Value} : ∀ (is : List Nat), (∀ i ∈ is, ∃ a, (part e xs (i * c)).run P w = .ok a w ∧ (Op.equalIn d e a a).run P w = .ok true w) →
    (Op.eqItems d e c xs xs is).run P w = .ok true w
  | [], _ => by simp [Op.eqItems]
  | i :: is, h => by
    obtain ⟨a, h1, h2⟩ := h i (List.mem_cons_self ..)
    simp only [Op.eqItems, Sem.run_bind, h1, h2, Result.andThen_ok]
    simpa using eqItems_self is (fun j hj => h j (List.mem_cons_of_mem _ hj))
theorem ne_array_self {P : Program} {w : World} {t e : TypeId} {n : Nat} {i : TypeInfo} {xs : Array Value} (hu : P.underlying t = some (.array n e)) (hi : P.info? e = some i)
    (h : ∀ j ∈ List.range n, ∃ a, (part e xs (j * P.cellsOf e)).run P w = .ok a w ∧ (Op.equalIn 9999 e a a).run P w = .ok true w) : (binOp .neq t (.agg xs) (.agg xs)).run P w = .ok (.bool false) w := by
  rw [run_neq_struct, show (10000 : Nat) = 9999 + 1 from rfl, run_equalIn_array w 9999 xs xs hu hi, eqItems_self _ h]
  rfl
theorem eq3c_in (x y z : Int) (w : World) : (Op.equalIn 9999 28 (.agg #[.int .i64 x, .int .i64 y, .int .i64 z]) (.agg #[.int .i64 x, .int .i64 y, .int .i64 z])).run Try.prog w = .ok true w := by simp [go_sem]
theorem ne6_self (x0 y0 z0 x1 y1 z1 x2 y2 z2 x3 y3 z3 x4 y4 z4 x5 y5 z5 : Int) (w : World) :
    (binOp .neq 45 (.agg #[.int .i64 x0, .int .i64 y0, .int .i64 z0, .int .i64 x1, .int .i64 y1, .int .i64 z1, .int .i64 x2, .int .i64 y2, .int .i64 z2, .int .i64 x3, .int .i64 y3, .int .i64 z3, .int .i64 x4, .int .i64 y4, .int .i64 z4, .int .i64 x5, .int .i64 y5, .int .i64 z5])
      (.agg #[.int .i64 x0, .int .i64 y0, .int .i64 z0, .int .i64 x1, .int .i64 y1, .int .i64 z1, .int .i64 x2, .int .i64 y2, .int .i64 z2, .int .i64 x3, .int .i64 y3, .int .i64 z3, .int .i64 x4, .int .i64 y4, .int .i64 z4, .int .i64 x5, .int .i64 y5, .int .i64 z5])).run Try.prog w = .ok (.bool false) w := by
  obtain ⟨i, hi⟩ : ∃ i, Try.prog.info? 28 = some i := Option.isSome_iff_exists.1 (by kernel_rfl)
  refine ne_array_self Try.underlying45 hi fun j hj => ?_
  have hc : Try.prog.cellsOf 28 = 3 := by kernel_rfl
  rw [hc]
  rcases (show j = 0 ∨ j = 1 ∨ j = 2 ∨ j = 3 ∨ j = 4 ∨ j = 5 by have := List.mem_range.1 hj; omega) with rfl | rfl | rfl | rfl | rfl | rfl
  · exact ⟨_, by kernel_rfl, eq3c_in x0 y0 z0 w⟩
  · exact ⟨_, by kernel_rfl, eq3c_in x1 y1 z1 w⟩
  · exact ⟨_, by kernel_rfl, eq3c_in x2 y2 z2 w⟩
  · exact ⟨_, by kernel_rfl, eq3c_in x3 y3 z3 w⟩
  · exact ⟨_, by kernel_rfl, eq3c_in x4 y4 z4 w⟩
  · exact ⟨_, by kernel_rfl, eq3c_in x5 y5 z5 w⟩
theorem eq2p_in (x z : Int) (w : World) : (Op.equalIn 9999 38 (.agg #[.int .i64 x, .int .i64 z]) (.agg #[.int .i64 x, .int .i64 z])).run Try.prog w = .ok true w := by simp [go_sem]
theorem ne5_self (x0 z0 x1 z1 x2 z2 x3 z3 x4 z4 : Int) (w : World) :
    (binOp .neq 47 (.agg #[.int .i64 x0, .int .i64 z0, .int .i64 x1, .int .i64 z1, .int .i64 x2, .int .i64 z2, .int .i64 x3, .int .i64 z3, .int .i64 x4, .int .i64 z4])
      (.agg #[.int .i64 x0, .int .i64 z0, .int .i64 x1, .int .i64 z1, .int .i64 x2, .int .i64 z2, .int .i64 x3, .int .i64 z3, .int .i64 x4, .int .i64 z4])).run Try.prog w = .ok (.bool false) w := by
  obtain ⟨i, hi⟩ : ∃ i, Try.prog.info? 38 = some i := Option.isSome_iff_exists.1 (by kernel_rfl)
  refine ne_array_self Try.underlying47 hi fun j hj => ?_
  have hc : Try.prog.cellsOf 38 = 2 := by kernel_rfl
  rw [hc]
  rcases (show j = 0 ∨ j = 1 ∨ j = 2 ∨ j = 3 ∨ j = 4 by have := List.mem_range.1 hj; omega) with rfl | rfl | rfl | rfl | rfl
  · exact ⟨_, by kernel_rfl, eq2p_in x0 z0 w⟩
  · exact ⟨_, by kernel_rfl, eq2p_in x1 z1 w⟩
  · exact ⟨_, by kernel_rfl, eq2p_in x2 z2 w⟩
  · exact ⟨_, by kernel_rfl, eq2p_in x3 z3 w⟩
  · exact ⟨_, by kernel_rfl, eq2p_in x4 z4 w⟩
end Go.Proofs.Ytenpcmhfbbfpeaa
