/- For every place and every cell the law CellOf of layer 3 answers true: the cell of a place, and its box. Conditions: none: every input. -/
import Derived.Test.YtenpcmhfbbfpeaaRows
import Derived.Test.YtenpcmhfbbfpeaaO02
import Derived.Test.YtenpcmhfbbfpeaaL03
import Derived.Test.YtenpcmhfbbfpeaaR33
import Derived.Test.YtenpcmhfbbfpeaaR03
import Derived.Test.YtenpcmhfbbfpeaaS03
import Derived.WalkKit
import Derived.ProofKit
import Derived.OpenShut
import Derived.Below
import Derived.Carry
namespace Go.Proofs.Ytenpcmhfbbfpeaa.cellOf
open Go.Proofs.Ytenpcmhfbbfpeaa Go.ChangeShapes Go.WideShapes Go.ChangeAt Go.RowKit
set_option linter.unusedVariables false
set_option linter.unusedSimpArgs false
attribute [local go_sem ↓] Go.wp_at_zero Go.wp_at_succ
set_option maxHeartbeats 8000000 in
theorem walk (a0 : V3) (w0 : a0.wf) (a1 : V3) (w1 : a1.wf) (w : World) :
    Calls Try.prog 4 #[a0.val, a1.val] w fun e w' => e = .returned (.bool true) ∧ Below w.heap.size w w' := by
  obtain ⟨x, y, z⟩ := a0
  obtain ⟨u, v, t⟩ := a1
  have co := fun k => c3_of x y z k
  have ro := fun k => r3_of x y z k
  have rc := fun k => r2_cut x y z k
  have cbc := fun k => c3_box u v t k
  have rbc := fun k => r3_box u v t k
  have cc := fun k => c3_cut u v t k
  have rcc := fun k => r3_cut u v t k
  unfold cbox at cbc rbc
  generalize cellC u = U at *
  generalize topF U = tU at *
  generalize U * 65536 = mU at *
  generalize cellC v = V at *
  generalize topF V = tV at *
  generalize V * 65536 = mV at *
  generalize cellC t = T at *
  generalize topF T = tT at *
  generalize T * 65536 = mT at *
  have bP := cut_bd x
  generalize cut x = P at *
  have bA : -2147483648 ≤ P / 65536 ∧ P / 65536 ≤ 2147483648 := by omega
  have eA : decide (P / 65536 * 65536 ≤ P) = true := by simp; omega
  have fA : decide (P < topF (P / 65536)) = !(P == 140737488355328) := by
    rw [Bool.eq_iff_iff]; simp; unfold topF cut; omega
  have bQ := cut_bd y
  generalize cut y = Q at *
  have bB : -2147483648 ≤ Q / 65536 ∧ Q / 65536 ≤ 2147483648 := by omega
  have eB : decide (Q / 65536 * 65536 ≤ Q) = true := by simp; omega
  have fB : decide (Q < topF (Q / 65536)) = !(Q == 140737488355328) := by
    rw [Bool.eq_iff_iff]; simp; unfold topF cut; omega
  have bR := cut_bd z
  generalize cut z = R at *
  have bC : -2147483648 ≤ R / 65536 ∧ R / 65536 ≤ 2147483648 := by omega
  have eC : decide (R / 65536 * 65536 ≤ R) = true := by simp; omega
  have fC : decide (R < topF (R / 65536)) = !(R == 140737488355328) := by
    rw [Bool.eq_iff_iff]; simp; unfold topF cut; omega
  have hs := fun k => r2_has (P / 65536 * 65536) (Q / 65536 * 65536) (R / 65536 * 65536) (topF (P / 65536)) (topF (Q / 65536)) (topF (R / 65536)) P Q R k
  rw [eA, eB, eC, fA, fB, fC] at hs
  have cb := fun k => c3_box (P / 65536) (Q / 65536) (R / 65536) k
  have rb := fun k => r3_box (P / 65536) (Q / 65536) (R / 65536) k
  rw [cellC_in bA.1 bA.2, cellC_in bB.1 bB.2, cellC_in bC.1 bC.2] at cb rb
  unfold cbox at cb rb
  clear eA eB eC fA fB fC bA bB bC bP bQ bR
  generalize P / 65536 = A at *
  generalize topF A = tA at *
  generalize A * 65536 = mA at *
  generalize Q / 65536 = B at *
  generalize topF B = tB at *
  generalize B * 65536 = mB at *
  generalize R / 65536 = C at *
  generalize topF C = tC at *
  generalize C * 65536 = mC at *
  obtain ⟨hb, hhb⟩ : ∃ hb, (true && !P == 140737488355328 && (true && !Q == 140737488355328) && (true && !R == 140737488355328)) = hb := ⟨_, rfl⟩
  rw [hhb] at hs
  have ways : ((P == 140737488355328) = true ∧ hb = false) ∨ ((P == 140737488355328) = false ∧ (Q == 140737488355328) = true ∧ hb = false) ∨ ((P == 140737488355328) = false ∧ (Q == 140737488355328) = false ∧ (R == 140737488355328) = true ∧ hb = false) ∨ ((P == 140737488355328) = false ∧ (Q == 140737488355328) = false ∧ (R == 140737488355328) = false ∧ hb = true) := by
    rw [← hhb]
    cases (P == 140737488355328) <;> cases (Q == 140737488355328) <;> cases (R == 140737488355328) <;> simp
  clear hhb
  have Hco := Lib.hid co
  have Hro := Lib.hid ro
  have Hrc := Lib.hid rc
  have Hcbc := Lib.hid cbc
  have Hrbc := Lib.hid rbc
  have Hcc := Lib.hid cc
  have Hrcc := Lib.hid rcc
  have Hhs := Lib.hid hs
  have Hcb := Lib.hid cb
  have Hrb := Lib.hid rb
  clear co ro rc cbc rbc cc rcc hs cb rb
  rcases ways with ⟨t0, rfl⟩ | ⟨t0, t1, rfl⟩ | ⟨t0, t1, t2, rfl⟩ | ⟨t0, t1, t2, rfl⟩
  all_goals
    go_enter Try.func4, Try.ntmps4
    go_wp2_with fail
    have rb : RowAt (w.alloc (.cells #[.int .i64 x, .int .i64 y, .int .i64 z] 27)) (w.heap.size) #[.int .i64 x, .int .i64 y, .int .i64 z] 27 := RowAt.make _ _ _ (by simp)
    have rb : RowAt ((w.alloc (.cells #[.int .i64 x, .int .i64 y, .int .i64 z] 27)).alloc (.cells #[.int .i64 u, .int .i64 v, .int .i64 t] 28)) (w.heap.size) #[.int .i64 x, .int .i64 y, .int .i64 z] 27 := rb.alloc _
    have rc : RowAt ((w.alloc (.cells #[.int .i64 x, .int .i64 y, .int .i64 z] 27)).alloc (.cells #[.int .i64 u, .int .i64 v, .int .i64 t] 28)) (w.heap.size + 1) #[.int .i64 u, .int .i64 v, .int .i64 t] 28 := RowAt.make _ _ _ (by simp)
    have kw : Below w.heap.size w ((w.alloc (.cells #[.int .i64 x, .int .i64 y, .int .i64 z] 27)).alloc (.cells #[.int .i64 u, .int .i64 v, .int .i64 t] 28)) := by (repeat (first | with_reducible assumption | with_reducible exact Below.refl _ _ | with_reducible refine Below.drew ?_ | with_reducible refine below_drewN ?_ _ | with_reducible refine al ?_ _ | (with_reducible refine sc ?_ ?_; (focus (first | omega | (simp; done) | (simp; omega)))) | (with_reducible refine chain ?_ (by assumption))))
    generalize ((w.alloc (.cells #[.int .i64 x, .int .i64 y, .int .i64 z] 27)).alloc (.cells #[.int .i64 u, .int .i64 v, .int .i64 t] 28)) = W1 at *
    have cb : ∀ j, W1.cell? ⟨w.heap.size, j, none⟩ = (#[.int .i64 x, .int .i64 y, .int .i64 z] : Array Value)[j]? := rb.cell
    have fb : ∀ j, W1.frozen? ⟨w.heap.size, j, none⟩ = false := rb.frozen
    have zb : w.heap.size < W1.heap.size := rb.lt
    have cc : ∀ j, W1.cell? ⟨w.heap.size + 1, j, none⟩ = (#[.int .i64 u, .int .i64 v, .int .i64 t] : Array Value)[j]? := rc.cell
    have fc : ∀ j, W1.frozen? ⟨w.heap.size + 1, j, none⟩ = false := rc.frozen
    have zc : w.heap.size + 1 < W1.heap.size := rc.lt
    (refine (Hco.out _).mono ?_; rintro e W2 ⟨rfl, hW2⟩)
    clear cb fb zb cc fc zc
    replace rb := rb.keep hW2
    replace rc := rc.keep hW2
    replace kw := kw.trans (hW2.mono kw.size)
    have cb : ∀ j, W2.cell? ⟨w.heap.size, j, none⟩ = (#[.int .i64 x, .int .i64 y, .int .i64 z] : Array Value)[j]? := rb.cell
    have fb : ∀ j, W2.frozen? ⟨w.heap.size, j, none⟩ = false := rb.frozen
    have zb : w.heap.size < W2.heap.size := rb.lt
    have cc : ∀ j, W2.cell? ⟨w.heap.size + 1, j, none⟩ = (#[.int .i64 u, .int .i64 v, .int .i64 t] : Array Value)[j]? := rc.cell
    have fc : ∀ j, W2.frozen? ⟨w.heap.size + 1, j, none⟩ = false := rc.frozen
    have zc : w.heap.size + 1 < W2.heap.size := rc.lt
    clear hW2
    go_wp2_with fail
    have yob : w.heap.size < W2.heap.size := by omega
    have yoc : w.heap.size + 1 < W2.heap.size := by omega
    replace kw : Below w.heap.size w (W2.alloc (.cells #[.int .i64 A, .int .i64 B, .int .i64 C] 28)) := by (repeat (first | with_reducible assumption | with_reducible exact Below.refl _ _ | with_reducible refine Below.drew ?_ | with_reducible refine below_drewN ?_ _ | with_reducible refine al ?_ _ | (with_reducible refine sc ?_ ?_; (focus (first | omega | (simp; done) | (simp; omega)))) | (with_reducible refine chain ?_ (by assumption))))
    replace rb : RowAt (W2.alloc (.cells #[.int .i64 A, .int .i64 B, .int .i64 C] 28)) (w.heap.size) #[.int .i64 x, .int .i64 y, .int .i64 z] 27 := (rb.alloc _)
    replace rc : RowAt (W2.alloc (.cells #[.int .i64 A, .int .i64 B, .int .i64 C] 28)) (w.heap.size + 1) #[.int .i64 u, .int .i64 v, .int .i64 t] 28 := (rc.alloc _)
    have ro : RowAt (W2.alloc (.cells #[.int .i64 A, .int .i64 B, .int .i64 C] 28)) (W2.heap.size) #[.int .i64 A, .int .i64 B, .int .i64 C] 28 := (RowAt.make _ _ _ (by first | rfl | (simp [World.setCell]; done)))
    clear cb fb zb cc fc zc
    generalize (W2.alloc (.cells #[.int .i64 A, .int .i64 B, .int .i64 C] 28)) = W3 at *
    have cb : ∀ j, W3.cell? ⟨w.heap.size, j, none⟩ = (#[.int .i64 x, .int .i64 y, .int .i64 z] : Array Value)[j]? := rb.cell
    have fb : ∀ j, W3.frozen? ⟨w.heap.size, j, none⟩ = false := rb.frozen
    have zb : w.heap.size < W3.heap.size := rb.lt
    have cc : ∀ j, W3.cell? ⟨w.heap.size + 1, j, none⟩ = (#[.int .i64 u, .int .i64 v, .int .i64 t] : Array Value)[j]? := rc.cell
    have fc : ∀ j, W3.frozen? ⟨w.heap.size + 1, j, none⟩ = false := rc.frozen
    have zc : w.heap.size + 1 < W3.heap.size := rc.lt
    have co : ∀ j, W3.cell? ⟨W2.heap.size, j, none⟩ = (#[.int .i64 A, .int .i64 B, .int .i64 C] : Array Value)[j]? := ro.cell
    have fo : ∀ j, W3.frozen? ⟨W2.heap.size, j, none⟩ = false := ro.frozen
    have zo : W2.heap.size < W3.heap.size := ro.lt
    (refine (Hcb.out _).mono ?_; rintro e W4 ⟨rfl, hW4⟩)
    clear cb fb zb cc fc zc co fo zo
    replace rb := rb.keep hW4
    replace rc := rc.keep hW4
    replace ro := ro.keep hW4
    replace kw := kw.trans (hW4.mono kw.size)
    have cb : ∀ j, W4.cell? ⟨w.heap.size, j, none⟩ = (#[.int .i64 x, .int .i64 y, .int .i64 z] : Array Value)[j]? := rb.cell
    have fb : ∀ j, W4.frozen? ⟨w.heap.size, j, none⟩ = false := rb.frozen
    have zb : w.heap.size < W4.heap.size := rb.lt
    have cc : ∀ j, W4.cell? ⟨w.heap.size + 1, j, none⟩ = (#[.int .i64 u, .int .i64 v, .int .i64 t] : Array Value)[j]? := rc.cell
    have fc : ∀ j, W4.frozen? ⟨w.heap.size + 1, j, none⟩ = false := rc.frozen
    have zc : w.heap.size + 1 < W4.heap.size := rc.lt
    have co : ∀ j, W4.cell? ⟨W2.heap.size, j, none⟩ = (#[.int .i64 A, .int .i64 B, .int .i64 C] : Array Value)[j]? := ro.cell
    have fo : ∀ j, W4.frozen? ⟨W2.heap.size, j, none⟩ = false := ro.frozen
    have zo : W2.heap.size < W4.heap.size := ro.lt
    clear hW4
    go_wp2_with fail
    have ypb : w.heap.size < W4.heap.size := by omega
    have ypc : w.heap.size + 1 < W4.heap.size := by omega
    have ypo : W2.heap.size < W4.heap.size := by omega
    replace kw : Below w.heap.size w (W4.alloc (.cells #[.int .i64 mA, .int .i64 mB, .int .i64 mC, .int .i64 tA, .int .i64 tB, .int .i64 tC] 31)) := by (repeat (first | with_reducible assumption | with_reducible exact Below.refl _ _ | with_reducible refine Below.drew ?_ | with_reducible refine below_drewN ?_ _ | with_reducible refine al ?_ _ | (with_reducible refine sc ?_ ?_; (focus (first | omega | (simp; done) | (simp; omega)))) | (with_reducible refine chain ?_ (by assumption))))
    replace rb : RowAt (W4.alloc (.cells #[.int .i64 mA, .int .i64 mB, .int .i64 mC, .int .i64 tA, .int .i64 tB, .int .i64 tC] 31)) (w.heap.size) #[.int .i64 x, .int .i64 y, .int .i64 z] 27 := (rb.alloc _)
    replace rc : RowAt (W4.alloc (.cells #[.int .i64 mA, .int .i64 mB, .int .i64 mC, .int .i64 tA, .int .i64 tB, .int .i64 tC] 31)) (w.heap.size + 1) #[.int .i64 u, .int .i64 v, .int .i64 t] 28 := (rc.alloc _)
    replace ro : RowAt (W4.alloc (.cells #[.int .i64 mA, .int .i64 mB, .int .i64 mC, .int .i64 tA, .int .i64 tB, .int .i64 tC] 31)) (W2.heap.size) #[.int .i64 A, .int .i64 B, .int .i64 C] 28 := (ro.alloc _)
    have rp : RowAt (W4.alloc (.cells #[.int .i64 mA, .int .i64 mB, .int .i64 mC, .int .i64 tA, .int .i64 tB, .int .i64 tC] 31)) (W4.heap.size) #[.int .i64 mA, .int .i64 mB, .int .i64 mC, .int .i64 tA, .int .i64 tB, .int .i64 tC] 31 := (RowAt.make _ _ _ (by first | rfl | (simp [World.setCell]; done)))
    clear cb fb zb cc fc zc co fo zo
    generalize (W4.alloc (.cells #[.int .i64 mA, .int .i64 mB, .int .i64 mC, .int .i64 tA, .int .i64 tB, .int .i64 tC] 31)) = W5 at *
    have cb : ∀ j, W5.cell? ⟨w.heap.size, j, none⟩ = (#[.int .i64 x, .int .i64 y, .int .i64 z] : Array Value)[j]? := rb.cell
    have fb : ∀ j, W5.frozen? ⟨w.heap.size, j, none⟩ = false := rb.frozen
    have zb : w.heap.size < W5.heap.size := rb.lt
    have cc : ∀ j, W5.cell? ⟨w.heap.size + 1, j, none⟩ = (#[.int .i64 u, .int .i64 v, .int .i64 t] : Array Value)[j]? := rc.cell
    have fc : ∀ j, W5.frozen? ⟨w.heap.size + 1, j, none⟩ = false := rc.frozen
    have zc : w.heap.size + 1 < W5.heap.size := rc.lt
    have co : ∀ j, W5.cell? ⟨W2.heap.size, j, none⟩ = (#[.int .i64 A, .int .i64 B, .int .i64 C] : Array Value)[j]? := ro.cell
    have fo : ∀ j, W5.frozen? ⟨W2.heap.size, j, none⟩ = false := ro.frozen
    have zo : W2.heap.size < W5.heap.size := ro.lt
    have cp : ∀ j, W5.cell? ⟨W4.heap.size, j, none⟩ = (#[.int .i64 mA, .int .i64 mB, .int .i64 mC, .int .i64 tA, .int .i64 tB, .int .i64 tC] : Array Value)[j]? := rp.cell
    have fp : ∀ j, W5.frozen? ⟨W4.heap.size, j, none⟩ = false := rp.frozen
    have zp : W4.heap.size < W5.heap.size := rp.lt
    (refine (Hrc.out _).mono ?_; rintro e W6 ⟨rfl, hW6⟩)
    clear cb fb zb cc fc zc co fo zo cp fp zp
    replace rb := rb.keep hW6
    replace rc := rc.keep hW6
    replace ro := ro.keep hW6
    replace rp := rp.keep hW6
    replace kw := kw.trans (hW6.mono kw.size)
    have cb : ∀ j, W6.cell? ⟨w.heap.size, j, none⟩ = (#[.int .i64 x, .int .i64 y, .int .i64 z] : Array Value)[j]? := rb.cell
    have fb : ∀ j, W6.frozen? ⟨w.heap.size, j, none⟩ = false := rb.frozen
    have zb : w.heap.size < W6.heap.size := rb.lt
    have cc : ∀ j, W6.cell? ⟨w.heap.size + 1, j, none⟩ = (#[.int .i64 u, .int .i64 v, .int .i64 t] : Array Value)[j]? := rc.cell
    have fc : ∀ j, W6.frozen? ⟨w.heap.size + 1, j, none⟩ = false := rc.frozen
    have zc : w.heap.size + 1 < W6.heap.size := rc.lt
    have co : ∀ j, W6.cell? ⟨W2.heap.size, j, none⟩ = (#[.int .i64 A, .int .i64 B, .int .i64 C] : Array Value)[j]? := ro.cell
    have fo : ∀ j, W6.frozen? ⟨W2.heap.size, j, none⟩ = false := ro.frozen
    have zo : W2.heap.size < W6.heap.size := ro.lt
    have cp : ∀ j, W6.cell? ⟨W4.heap.size, j, none⟩ = (#[.int .i64 mA, .int .i64 mB, .int .i64 mC, .int .i64 tA, .int .i64 tB, .int .i64 tC] : Array Value)[j]? := rp.cell
    have fp : ∀ j, W6.frozen? ⟨W4.heap.size, j, none⟩ = false := rp.frozen
    have zp : W4.heap.size < W6.heap.size := rp.lt
    clear hW6
    go_wp2_with fail
    have yqb : w.heap.size < W6.heap.size := by omega
    have yqc : w.heap.size + 1 < W6.heap.size := by omega
    have yqo : W2.heap.size < W6.heap.size := by omega
    have yqp : W4.heap.size < W6.heap.size := by omega
    replace kw : Below w.heap.size w (W6.alloc (.cells #[.int .i64 P, .int .i64 Q, .int .i64 R] 27)) := by (repeat (first | with_reducible assumption | with_reducible exact Below.refl _ _ | with_reducible refine Below.drew ?_ | with_reducible refine below_drewN ?_ _ | with_reducible refine al ?_ _ | (with_reducible refine sc ?_ ?_; (focus (first | omega | (simp; done) | (simp; omega)))) | (with_reducible refine chain ?_ (by assumption))))
    replace rb : RowAt (W6.alloc (.cells #[.int .i64 P, .int .i64 Q, .int .i64 R] 27)) (w.heap.size) #[.int .i64 x, .int .i64 y, .int .i64 z] 27 := (rb.alloc _)
    replace rc : RowAt (W6.alloc (.cells #[.int .i64 P, .int .i64 Q, .int .i64 R] 27)) (w.heap.size + 1) #[.int .i64 u, .int .i64 v, .int .i64 t] 28 := (rc.alloc _)
    replace ro : RowAt (W6.alloc (.cells #[.int .i64 P, .int .i64 Q, .int .i64 R] 27)) (W2.heap.size) #[.int .i64 A, .int .i64 B, .int .i64 C] 28 := (ro.alloc _)
    replace rp : RowAt (W6.alloc (.cells #[.int .i64 P, .int .i64 Q, .int .i64 R] 27)) (W4.heap.size) #[.int .i64 mA, .int .i64 mB, .int .i64 mC, .int .i64 tA, .int .i64 tB, .int .i64 tC] 31 := (rp.alloc _)
    have rq : RowAt (W6.alloc (.cells #[.int .i64 P, .int .i64 Q, .int .i64 R] 27)) (W6.heap.size) #[.int .i64 P, .int .i64 Q, .int .i64 R] 27 := (RowAt.make _ _ _ (by first | rfl | (simp [World.setCell]; done)))
    clear cb fb zb cc fc zc co fo zo cp fp zp
    generalize (W6.alloc (.cells #[.int .i64 P, .int .i64 Q, .int .i64 R] 27)) = W7 at *
    have cb : ∀ j, W7.cell? ⟨w.heap.size, j, none⟩ = (#[.int .i64 x, .int .i64 y, .int .i64 z] : Array Value)[j]? := rb.cell
    have fb : ∀ j, W7.frozen? ⟨w.heap.size, j, none⟩ = false := rb.frozen
    have zb : w.heap.size < W7.heap.size := rb.lt
    have cc : ∀ j, W7.cell? ⟨w.heap.size + 1, j, none⟩ = (#[.int .i64 u, .int .i64 v, .int .i64 t] : Array Value)[j]? := rc.cell
    have fc : ∀ j, W7.frozen? ⟨w.heap.size + 1, j, none⟩ = false := rc.frozen
    have zc : w.heap.size + 1 < W7.heap.size := rc.lt
    have co : ∀ j, W7.cell? ⟨W2.heap.size, j, none⟩ = (#[.int .i64 A, .int .i64 B, .int .i64 C] : Array Value)[j]? := ro.cell
    have fo : ∀ j, W7.frozen? ⟨W2.heap.size, j, none⟩ = false := ro.frozen
    have zo : W2.heap.size < W7.heap.size := ro.lt
    have cp : ∀ j, W7.cell? ⟨W4.heap.size, j, none⟩ = (#[.int .i64 mA, .int .i64 mB, .int .i64 mC, .int .i64 tA, .int .i64 tB, .int .i64 tC] : Array Value)[j]? := rp.cell
    have fp : ∀ j, W7.frozen? ⟨W4.heap.size, j, none⟩ = false := rp.frozen
    have zp : W4.heap.size < W7.heap.size := rp.lt
    have cq : ∀ j, W7.cell? ⟨W6.heap.size, j, none⟩ = (#[.int .i64 P, .int .i64 Q, .int .i64 R] : Array Value)[j]? := rq.cell
    have fq : ∀ j, W7.frozen? ⟨W6.heap.size, j, none⟩ = false := rq.frozen
    have zq : W6.heap.size < W7.heap.size := rq.lt
    refine region_below 34 (by kernel_rfl) (by kernel_rfl) ?_
    simp only [List.take_succ_cons, List.take_zero, List.drop_succ_cons, List.drop_zero]
    repeat (first | (refine' InText.skip (by rfl) ?_; simp only [Act.put, List.setIfInBounds_toArray, List.set_cons_zero, List.set_cons_succ]) | (refine' InText.val (by rfl) (fun wr hr => ?_) ?_; rotate_left 1; (focus (obtain ⟨hrc, hrf⟩ := bcell hr; (go_simp <;> with_reducible rfl); done)); simp only [Act.put, List.setIfInBounds_toArray, List.set_cons_zero, List.set_cons_succ]) | (refine' InText.call (by rfl) (fun wr hr => ?_) (fun wr hr => ?_) ?_; rotate_left 3; (focus ((go_simp <;> (first | with_reducible rfl | exact ⟨rfl, rfl⟩)); done)); (focus (first | with_reducible exact Hro.out _ | with_reducible exact Hrb.out _ | with_reducible exact Hhs.out _ | with_reducible exact Hcbc.out _ | with_reducible exact Hrbc.out _ | with_reducible exact Hcc.out _ | with_reducible exact Hrcc.out _ | with_reducible exact l3_lives _)); simp only [Act.put, List.setIfInBounds_toArray, List.set_cons_zero, List.set_cons_succ]))
    refine fun wr hr => ?_
    obtain ⟨hrc, hrf⟩ := bcell hr
    go_wp2
    go_ret
    exact ⟨rfl, by (repeat (first | with_reducible assumption | with_reducible exact Below.refl _ _ | with_reducible refine Below.drew ?_ | with_reducible refine below_drewN ?_ _ | with_reducible refine al ?_ _ | (with_reducible refine sc ?_ ?_; (focus (first | omega | (simp; done) | (simp; omega)))) | (with_reducible refine chain ?_ (by assumption))))⟩
theorem own : ownKnob Try.prog.godebug = none := by kernel_rfl
set_option maxRecDepth 100000 in
theorem lifted (os : Os) (started : os.Started) (H : Type) (enc : TypeId × Value → H) :
    ReturnsInHanded {} Try.checked os 4 .any (Rows.cellOfSpec.pre6 enc Try.prog Try.f4 Rows.cellOfRow.domain false) (Rows.cellOfSpec.post enc Try.prog Try.f4 false true false false) := by
  refine returnsInHanded_of_change (C := Try.checked) own started (by kernel_rfl) Try.func4
    (ChangeSpec.witness6 (enc := enc) (C := Try.checked) false ⟨#[], #[.agg #[.int .i64 0, .int .i64 0, .int .i64 0], .agg #[.int .i64 0, .int .i64 0, .int .i64 0]], []⟩ 8 (by kernel_rfl) (by kernel_rfl) (by kernel_rfl) (by kernel_rfl)) ?_
  intro W base args ds gs before hval0 hW hcnd _
  have hval : ∀ (j : Nat) t v, Try.f4.params[j]? = some t → args[j]? = some v → Value.okWide Try.prog W .any base t v := hval0
  have hW' := hW
  obtain ⟨p, q, hA0, hV, rfl, hfz, hnd⟩ := hW
  have hA : DataW.TrodAll enc Try.prog W 0 (fun _ => true) true Try.f4.params.toList args.toList ds p := hA0
  rw [Try.params4] at hA hval
  obtain ⟨v0, vs0, d0, ds0, p0, q0, hargs, rfl, rfl, h0, r0⟩ := trodAll_cons hA
  obtain ⟨v1, vs1, d1, ds1, p1, q1, rfl, rfl, rfl, h1, r1⟩ := trodAll_cons r0
  obtain ⟨rfl, rfl, rfl⟩ := trodAll_nil r1
  obtain rfl : args = #[v0, v1] := by cases args; simp_all
  obtain ⟨rfl, rfl⟩ := trodVars_none hV
  simp only [List.append_nil] at hW'
  have hlt : ∀ x ∈ p0 ++ (p1 ++ ([])), x.block < W.heap.size := fun x hx => hW'.lt x (by simpa using hx)
  have hlt0 : ∀ x ∈ p0, x.block < W.heap.size := fun x hx => hlt x (List.mem_append.2 (.inl hx))
  have hlt1 : ∀ x ∈ p1, x.block < W.heap.size := fun x hx => hlt x (List.mem_append.2 (.inr (List.mem_append.2 (.inl hx))))
  have k0 := h0
  have k1 := h1
  obtain ⟨a0, rfl, w0⟩ := open_vec (hval 0 27 v0 rfl rfl) h0
  obtain ⟨a1, rfl, w1⟩ := open_cell (hval 1 28 v1 rfl rfl) h1
  clear hA0 hval0
  refine (walk a0 w0 a1 w1 W).mono fun e W' ⟨he, hg⟩ => ?_
  subst he
  exact ⟨_, rfl, _, _, _, [], _, [], hW', (trodAll_cons_mk (shut_bool Try.underlying4 _) trodAll_mk0), (trodAll_cons_mk (Below.trod laidOut (by kernel_rfl) (of_decide_eq_true (by kernel_rfl)) k0 hg hlt0) (trodAll_cons_mk (Below.trod laidOut (by kernel_rfl) (of_decide_eq_true (by kernel_rfl)) k1 hg hlt1) trodAll_mk0)), rfl, hg.frame _, fun h => by cases h⟩
theorem over : Rows.cellOfRow.holds Try.pinned (OpenSpec.ofChange Rows.cellOfSpec) :=
  OpenClaim.holds_of_wide 4 Try.f4 rfl rfl rfl rfl rfl rfl rfl ⟨rfl, rfl, rfl, rfl, rfl⟩ rfl rfl rfl rfl rfl (by kernel_rfl) Try.func4 (by kernel_rfl)
    (of_decide_eq_true (by kernel_rfl)) (by unfold Func.isWrapper; first | (rw [if_pos (by decide +kernel)]; kernel_rfl) | (rw [if_neg (by decide +kernel)]; exact ⟨rfl, rfl⟩))
    (fun os started H enc _ => lifted os started H enc)
theorem proved : Rows.CellOfSaid := over
#print axioms proved
end Go.Proofs.Ytenpcmhfbbfpeaa.cellOf
