/- Operations on whole arrays, as one step. No program. -/
import Derived.Test.YtnpondgnmoedhaaS03
import Derived.Laws.StructEq
set_option linter.unusedVariables false
namespace Go.Proofs.Ytnpondgnmoedhaa
open Go Go.RowKit
theorem exec_load_row {P : Program} {o : Oper} {a : Act} {u : World} (T : TypeId) (x : Operand) (ho : o.op = .load T x) {b : Nat} (hx : a.eval x = .pointer (some ⟨b, 0, none⟩)) {cs : Array Value} {t : TypeId} (hg : RowAt u b cs t) {d : TypeDesc}
    (hu : P.underlying T = some d) (hd : (match d with | .struct _ | .array _ _ => true | _ => false) = true) (hi : (P.info? T).map (·.size) = some cs.size) : (execOp a.eval o).run P u = .ok (.value (.agg cs)) u := by
  unfold execOp
  simp only [ho, hx, Instr.loadAt, Instr.sureAddr, Sem.run_bind, Sem.run_pure, Result.andThen_ok, run_loadVar_row u b t T cs (0, 0) d hg hu hd hi]
theorem exec_neq_self {P : Program} {o : Oper} {a : Act} {u : World} (T : TypeId) (x y : Operand) {r : TypeId} (ho : o.op = .binOp .neq T x y r) {cs : Array Value} (hx : a.eval x = .agg cs) (hy : a.eval y = .agg cs)
    (hm : P.eqGuardType P.depth T = false) (h : (binOp .neq T (.agg cs) (.agg cs)).run P u = .ok (.bool false) u) : (execOp a.eval o).run P u = .ok (.value (.bool false)) u := by
  unfold execOp
  simp only [ho, hx, hy, Sem.run_bind, run_eqGuard_agg u .neq T x y cs cs hm, h, Result.andThen_ok, Sem.run_pure]
end Go.Proofs.Ytnpondgnmoedhaa
