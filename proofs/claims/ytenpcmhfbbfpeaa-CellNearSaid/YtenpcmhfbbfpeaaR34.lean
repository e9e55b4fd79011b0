/- Contracts of layer 3's reference (cells): Near. -/
import Derived.Test.YtenpcmhfbbfpeaaN03
set_option linter.unusedVariables false
set_option linter.unusedSimpArgs false
namespace Go.Proofs.Ytenpcmhfbbfpeaa
open Go.ChangeShapes Go.WideShapes Go.ChangeAt Go.RowKit
set_option maxHeartbeats 8000000 in
theorem r3_near (x y z : Int) (w : World) : Calls Try.prog 32 #[vecV x y z] w fun e w' => e = .returned (nearV (cellC x) (cellC y) (cellC z)) ∧ Below w.heap.size w w' := by
  have i45 : (Try.prog.info? 45).map (·.size) = some 18 := by kernel_rfl
  have bX := cellC_bd x
  have bY := cellC_bd y
  have bZ := cellC_bd z
  have cc := fun k => r3_cut x y z k
  generalize cellC x = X at *
  generalize cellC y = Y at *
  generalize cellC z = Z at *
  have n0 := fun k => to_v (r3_cut (X + -1) (Y) (Z) k) (vec_eq (u := cellC (X - 1)) (v := Y) (t := Z) (by rw [show X + -1 = X - 1 by omega]) (cellC_in (by omega) (by omega)) (cellC_in (by omega) (by omega)))
  have n1 := fun k => to_v (r3_cut (X + 1) (Y) (Z) k) (vec_eq (u := cellC (X + 1)) (v := Y) (t := Z) rfl (cellC_in (by omega) (by omega)) (cellC_in (by omega) (by omega)))
  have n2 := fun k => to_v (r3_cut (X) (Y + -1) (Z) k) (vec_eq (u := X) (v := cellC (Y - 1)) (t := Z) (cellC_in (by omega) (by omega)) (by rw [show Y + -1 = Y - 1 by omega]) (cellC_in (by omega) (by omega)))
  have n3 := fun k => to_v (r3_cut (X) (Y + 1) (Z) k) (vec_eq (u := X) (v := cellC (Y + 1)) (t := Z) (cellC_in (by omega) (by omega)) rfl (cellC_in (by omega) (by omega)))
  have n4 := fun k => to_v (r3_cut (X) (Y) (Z + -1) k) (vec_eq (u := X) (v := Y) (t := cellC (Z - 1)) (cellC_in (by omega) (by omega)) (cellC_in (by omega) (by omega)) (by rw [show Z + -1 = Z - 1 by omega]))
  have n5 := fun k => to_v (r3_cut (X) (Y) (Z + 1) k) (vec_eq (u := X) (v := Y) (t := cellC (Z + 1)) (cellC_in (by omega) (by omega)) (cellC_in (by omega) (by omega)) rfl)
  unfold nearV
  generalize cellC (X - 1) = Xm at *
  generalize cellC (X + 1) = Xp at *
  generalize cellC (Y - 1) = Ym at *
  generalize cellC (Y + 1) = Yp at *
  generalize cellC (Z - 1) = Zm at *
  generalize cellC (Z + 1) = Zp at *
  have N0 := Lib.hid n0
  have N1 := Lib.hid n1
  have N2 := Lib.hid n2
  have N3 := Lib.hid n3
  have N4 := Lib.hid n4
  have N5 := Lib.hid n5
  have CC := Lib.hid cc
  clear cc n0 n1 n2 n3 n4 n5
  go_enter Try.func32, Try.ntmps32
  go_wp2_with fail
  have rb : RowAt (w.alloc (.cells #[.int .i64 x, .int .i64 y, .int .i64 z] 28)) (w.heap.size) #[.int .i64 x, .int .i64 y, .int .i64 z] 28 := RowAt.make _ _ _ (by simp)
  have rb : RowAt ((w.alloc (.cells #[.int .i64 x, .int .i64 y, .int .i64 z] 28)).alloc (.cells #[.int .i64 0, .int .i64 0, .int .i64 0, .int .i64 0, .int .i64 0, .int .i64 0, .int .i64 0, .int .i64 0, .int .i64 0, .int .i64 0, .int .i64 0, .int .i64 0, .int .i64 0, .int .i64 0, .int .i64 0, .int .i64 0, .int .i64 0, .int .i64 0] 45)) (w.heap.size) #[.int .i64 x, .int .i64 y, .int .i64 z] 28 := rb.alloc _
  have rr : RowAt ((w.alloc (.cells #[.int .i64 x, .int .i64 y, .int .i64 z] 28)).alloc (.cells #[.int .i64 0, .int .i64 0, .int .i64 0, .int .i64 0, .int .i64 0, .int .i64 0, .int .i64 0, .int .i64 0, .int .i64 0, .int .i64 0, .int .i64 0, .int .i64 0, .int .i64 0, .int .i64 0, .int .i64 0, .int .i64 0, .int .i64 0, .int .i64 0] 45)) (w.heap.size + 1) #[.int .i64 0, .int .i64 0, .int .i64 0, .int .i64 0, .int .i64 0, .int .i64 0, .int .i64 0, .int .i64 0, .int .i64 0, .int .i64 0, .int .i64 0, .int .i64 0, .int .i64 0, .int .i64 0, .int .i64 0, .int .i64 0, .int .i64 0, .int .i64 0] 45 := RowAt.make _ _ _ (by simp)
  have rb : RowAt (((w.alloc (.cells #[.int .i64 x, .int .i64 y, .int .i64 z] 28)).alloc (.cells #[.int .i64 0, .int .i64 0, .int .i64 0, .int .i64 0, .int .i64 0, .int .i64 0, .int .i64 0, .int .i64 0, .int .i64 0, .int .i64 0, .int .i64 0, .int .i64 0, .int .i64 0, .int .i64 0, .int .i64 0, .int .i64 0, .int .i64 0, .int .i64 0] 45)).alloc (.cells #[.int .i64 0, .int .i64 0, .int .i64 0, .int .i64 0, .int .i64 0, .int .i64 0, .int .i64 0, .int .i64 0, .int .i64 0, .int .i64 0, .int .i64 0, .int .i64 0, .int .i64 0, .int .i64 0, .int .i64 0, .int .i64 0, .int .i64 0, .int .i64 0] 45)) (w.heap.size) #[.int .i64 x, .int .i64 y, .int .i64 z] 28 := rb.alloc _
  have rr : RowAt (((w.alloc (.cells #[.int .i64 x, .int .i64 y, .int .i64 z] 28)).alloc (.cells #[.int .i64 0, .int .i64 0, .int .i64 0, .int .i64 0, .int .i64 0, .int .i64 0, .int .i64 0, .int .i64 0, .int .i64 0, .int .i64 0, .int .i64 0, .int .i64 0, .int .i64 0, .int .i64 0, .int .i64 0, .int .i64 0, .int .i64 0, .int .i64 0] 45)).alloc (.cells #[.int .i64 0, .int .i64 0, .int .i64 0, .int .i64 0, .int .i64 0, .int .i64 0, .int .i64 0, .int .i64 0, .int .i64 0, .int .i64 0, .int .i64 0, .int .i64 0, .int .i64 0, .int .i64 0, .int .i64 0, .int .i64 0, .int .i64 0, .int .i64 0] 45)) (w.heap.size + 1) #[.int .i64 0, .int .i64 0, .int .i64 0, .int .i64 0, .int .i64 0, .int .i64 0, .int .i64 0, .int .i64 0, .int .i64 0, .int .i64 0, .int .i64 0, .int .i64 0, .int .i64 0, .int .i64 0, .int .i64 0, .int .i64 0, .int .i64 0, .int .i64 0] 45 := rr.alloc _
  have ro : RowAt (((w.alloc (.cells #[.int .i64 x, .int .i64 y, .int .i64 z] 28)).alloc (.cells #[.int .i64 0, .int .i64 0, .int .i64 0, .int .i64 0, .int .i64 0, .int .i64 0, .int .i64 0, .int .i64 0, .int .i64 0, .int .i64 0, .int .i64 0, .int .i64 0, .int .i64 0, .int .i64 0, .int .i64 0, .int .i64 0, .int .i64 0, .int .i64 0] 45)).alloc (.cells #[.int .i64 0, .int .i64 0, .int .i64 0, .int .i64 0, .int .i64 0, .int .i64 0, .int .i64 0, .int .i64 0, .int .i64 0, .int .i64 0, .int .i64 0, .int .i64 0, .int .i64 0, .int .i64 0, .int .i64 0, .int .i64 0, .int .i64 0, .int .i64 0] 45)) (w.heap.size + 1 + 1) #[.int .i64 0, .int .i64 0, .int .i64 0, .int .i64 0, .int .i64 0, .int .i64 0, .int .i64 0, .int .i64 0, .int .i64 0, .int .i64 0, .int .i64 0, .int .i64 0, .int .i64 0, .int .i64 0, .int .i64 0, .int .i64 0, .int .i64 0, .int .i64 0] 45 := RowAt.make _ _ _ (by simp)
  have kw : Below w.heap.size w (((w.alloc (.cells #[.int .i64 x, .int .i64 y, .int .i64 z] 28)).alloc (.cells #[.int .i64 0, .int .i64 0, .int .i64 0, .int .i64 0, .int .i64 0, .int .i64 0, .int .i64 0, .int .i64 0, .int .i64 0, .int .i64 0, .int .i64 0, .int .i64 0, .int .i64 0, .int .i64 0, .int .i64 0, .int .i64 0, .int .i64 0, .int .i64 0] 45)).alloc (.cells #[.int .i64 0, .int .i64 0, .int .i64 0, .int .i64 0, .int .i64 0, .int .i64 0, .int .i64 0, .int .i64 0, .int .i64 0, .int .i64 0, .int .i64 0, .int .i64 0, .int .i64 0, .int .i64 0, .int .i64 0, .int .i64 0, .int .i64 0, .int .i64 0] 45)) := by (repeat (first | with_reducible assumption | with_reducible exact Below.refl _ _ | with_reducible refine Below.drew ?_ | with_reducible refine below_drewN ?_ _ | with_reducible refine al ?_ _ | (with_reducible refine sc ?_ ?_; (focus (first | omega | (simp; done) | (simp; omega)))) | (with_reducible refine chain ?_ (by assumption))))
  generalize (((w.alloc (.cells #[.int .i64 x, .int .i64 y, .int .i64 z] 28)).alloc (.cells #[.int .i64 0, .int .i64 0, .int .i64 0, .int .i64 0, .int .i64 0, .int .i64 0, .int .i64 0, .int .i64 0, .int .i64 0, .int .i64 0, .int .i64 0, .int .i64 0, .int .i64 0, .int .i64 0, .int .i64 0, .int .i64 0, .int .i64 0, .int .i64 0] 45)).alloc (.cells #[.int .i64 0, .int .i64 0, .int .i64 0, .int .i64 0, .int .i64 0, .int .i64 0, .int .i64 0, .int .i64 0, .int .i64 0, .int .i64 0, .int .i64 0, .int .i64 0, .int .i64 0, .int .i64 0, .int .i64 0, .int .i64 0, .int .i64 0, .int .i64 0] 45)) = W1 at *
  have cb : ∀ j, W1.cell? ⟨w.heap.size, j, none⟩ = (#[.int .i64 x, .int .i64 y, .int .i64 z] : Array Value)[j]? := rb.cell
  have fb : ∀ j, W1.frozen? ⟨w.heap.size, j, none⟩ = false := rb.frozen
  have zb : w.heap.size < W1.heap.size := rb.lt
  have cr : ∀ j, W1.cell? ⟨w.heap.size + 1, j, none⟩ = (#[.int .i64 0, .int .i64 0, .int .i64 0, .int .i64 0, .int .i64 0, .int .i64 0, .int .i64 0, .int .i64 0, .int .i64 0, .int .i64 0, .int .i64 0, .int .i64 0, .int .i64 0, .int .i64 0, .int .i64 0, .int .i64 0, .int .i64 0, .int .i64 0] : Array Value)[j]? := rr.cell
  have fr : ∀ j, W1.frozen? ⟨w.heap.size + 1, j, none⟩ = false := rr.frozen
  have zr : w.heap.size + 1 < W1.heap.size := rr.lt
  have co : ∀ j, W1.cell? ⟨w.heap.size + 1 + 1, j, none⟩ = (#[.int .i64 0, .int .i64 0, .int .i64 0, .int .i64 0, .int .i64 0, .int .i64 0, .int .i64 0, .int .i64 0, .int .i64 0, .int .i64 0, .int .i64 0, .int .i64 0, .int .i64 0, .int .i64 0, .int .i64 0, .int .i64 0, .int .i64 0, .int .i64 0] : Array Value)[j]? := ro.cell
  have fo : ∀ j, W1.frozen? ⟨w.heap.size + 1 + 1, j, none⟩ = false := ro.frozen
  have zo : w.heap.size + 1 + 1 < W1.heap.size := ro.lt
  refine wp_loop_rounds 7 ?_
  rw [rounds_succ]
  go_wp2_with fail
  (refine (CC.out _).mono ?_; rintro e p0 ⟨rfl, hp⟩)
  go_wp2_with fail
  (refine (N0.out _).mono ?_; rintro e q0 ⟨rfl, hq⟩)
  have hh : Below W1.heap.size W1 q0 := by
    refine chain ?_ hq
    refine chain hp ?_
    (repeat (first | with_reducible assumption | with_reducible exact Below.refl _ _ | with_reducible refine Below.drew ?_ | with_reducible refine below_drewN ?_ _ | with_reducible refine al ?_ _ | (with_reducible refine sc ?_ ?_; (focus (first | omega | (simp; done) | (simp; omega)))) | (with_reducible refine chain ?_ (by assumption))))
  clear cb fb zb cr fr zr co fo zo
  replace rb := rb.keep hh
  replace rr := rr.keep hh
  replace ro := ro.keep hh
  replace kw := kw.trans (hh.mono kw.size)
  have cb : ∀ j, q0.cell? ⟨w.heap.size, j, none⟩ = (#[.int .i64 x, .int .i64 y, .int .i64 z] : Array Value)[j]? := rb.cell
  have fb : ∀ j, q0.frozen? ⟨w.heap.size, j, none⟩ = false := rb.frozen
  have zb : w.heap.size < q0.heap.size := rb.lt
  have cr : ∀ j, q0.cell? ⟨w.heap.size + 1, j, none⟩ = (#[.int .i64 0, .int .i64 0, .int .i64 0, .int .i64 0, .int .i64 0, .int .i64 0, .int .i64 0, .int .i64 0, .int .i64 0, .int .i64 0, .int .i64 0, .int .i64 0, .int .i64 0, .int .i64 0, .int .i64 0, .int .i64 0, .int .i64 0, .int .i64 0] : Array Value)[j]? := rr.cell
  have fr : ∀ j, q0.frozen? ⟨w.heap.size + 1, j, none⟩ = false := rr.frozen
  have zr : w.heap.size + 1 < q0.heap.size := rr.lt
  have co : ∀ j, q0.cell? ⟨w.heap.size + 1 + 1, j, none⟩ = (#[.int .i64 0, .int .i64 0, .int .i64 0, .int .i64 0, .int .i64 0, .int .i64 0, .int .i64 0, .int .i64 0, .int .i64 0, .int .i64 0, .int .i64 0, .int .i64 0, .int .i64 0, .int .i64 0, .int .i64 0, .int .i64 0, .int .i64 0, .int .i64 0] : Array Value)[j]? := ro.cell
  have fo : ∀ j, q0.frozen? ⟨w.heap.size + 1 + 1, j, none⟩ = false := ro.frozen
  have zo : w.heap.size + 1 + 1 < q0.heap.size := ro.lt
  clear hh hp hq
  go_wp2_with fail
  replace kw : Below w.heap.size w (((q0.setCell ⟨w.heap.size + 1 + 1, 0, none⟩ (.int .i64 Xm)).setCell ⟨w.heap.size + 1 + 1, 1, none⟩ (.int .i64 Y)).setCell ⟨w.heap.size + 1 + 1, 2, none⟩ (.int .i64 Z)) := by (repeat (first | with_reducible assumption | with_reducible exact Below.refl _ _ | with_reducible refine Below.drew ?_ | with_reducible refine below_drewN ?_ _ | with_reducible refine al ?_ _ | (with_reducible refine sc ?_ ?_; (focus (first | omega | (simp; done) | (simp; omega)))) | (with_reducible refine chain ?_ (by assumption))))
  replace rb : RowAt (((q0.setCell ⟨w.heap.size + 1 + 1, 0, none⟩ (.int .i64 Xm)).setCell ⟨w.heap.size + 1 + 1, 1, none⟩ (.int .i64 Y)).setCell ⟨w.heap.size + 1 + 1, 2, none⟩ (.int .i64 Z)) (w.heap.size) #[.int .i64 x, .int .i64 y, .int .i64 z] 28 := (((rb.other (p := ⟨w.heap.size + 1 + 1, 0, none⟩) (by first | omega | (simp; done) | (simp; omega)) (.int .i64 Xm)).other (p := ⟨w.heap.size + 1 + 1, 1, none⟩) (by first | omega | (simp; done) | (simp; omega)) (.int .i64 Y)).other (p := ⟨w.heap.size + 1 + 1, 2, none⟩) (by first | omega | (simp; done) | (simp; omega)) (.int .i64 Z))
  replace rr : RowAt (((q0.setCell ⟨w.heap.size + 1 + 1, 0, none⟩ (.int .i64 Xm)).setCell ⟨w.heap.size + 1 + 1, 1, none⟩ (.int .i64 Y)).setCell ⟨w.heap.size + 1 + 1, 2, none⟩ (.int .i64 Z)) (w.heap.size + 1) #[.int .i64 0, .int .i64 0, .int .i64 0, .int .i64 0, .int .i64 0, .int .i64 0, .int .i64 0, .int .i64 0, .int .i64 0, .int .i64 0, .int .i64 0, .int .i64 0, .int .i64 0, .int .i64 0, .int .i64 0, .int .i64 0, .int .i64 0, .int .i64 0] 45 := (((rr.other (p := ⟨w.heap.size + 1 + 1, 0, none⟩) (by first | omega | (simp; done) | (simp; omega)) (.int .i64 Xm)).other (p := ⟨w.heap.size + 1 + 1, 1, none⟩) (by first | omega | (simp; done) | (simp; omega)) (.int .i64 Y)).other (p := ⟨w.heap.size + 1 + 1, 2, none⟩) (by first | omega | (simp; done) | (simp; omega)) (.int .i64 Z))
  replace ro : RowAt (((q0.setCell ⟨w.heap.size + 1 + 1, 0, none⟩ (.int .i64 Xm)).setCell ⟨w.heap.size + 1 + 1, 1, none⟩ (.int .i64 Y)).setCell ⟨w.heap.size + 1 + 1, 2, none⟩ (.int .i64 Z)) (w.heap.size + 1 + 1) #[.int .i64 Xm, .int .i64 Y, .int .i64 Z, .int .i64 0, .int .i64 0, .int .i64 0, .int .i64 0, .int .i64 0, .int .i64 0, .int .i64 0, .int .i64 0, .int .i64 0, .int .i64 0, .int .i64 0, .int .i64 0, .int .i64 0, .int .i64 0, .int .i64 0] 45 := (((ro.set 0 (.int .i64 Xm)).set 1 (.int .i64 Y)).set 2 (.int .i64 Z))
  clear cb fb zb cr fr zr co fo zo
  generalize (((q0.setCell ⟨w.heap.size + 1 + 1, 0, none⟩ (.int .i64 Xm)).setCell ⟨w.heap.size + 1 + 1, 1, none⟩ (.int .i64 Y)).setCell ⟨w.heap.size + 1 + 1, 2, none⟩ (.int .i64 Z)) = W2 at *
  have cb : ∀ j, W2.cell? ⟨w.heap.size, j, none⟩ = (#[.int .i64 x, .int .i64 y, .int .i64 z] : Array Value)[j]? := rb.cell
  have fb : ∀ j, W2.frozen? ⟨w.heap.size, j, none⟩ = false := rb.frozen
  have zb : w.heap.size < W2.heap.size := rb.lt
  have cr : ∀ j, W2.cell? ⟨w.heap.size + 1, j, none⟩ = (#[.int .i64 0, .int .i64 0, .int .i64 0, .int .i64 0, .int .i64 0, .int .i64 0, .int .i64 0, .int .i64 0, .int .i64 0, .int .i64 0, .int .i64 0, .int .i64 0, .int .i64 0, .int .i64 0, .int .i64 0, .int .i64 0, .int .i64 0, .int .i64 0] : Array Value)[j]? := rr.cell
  have fr : ∀ j, W2.frozen? ⟨w.heap.size + 1, j, none⟩ = false := rr.frozen
  have zr : w.heap.size + 1 < W2.heap.size := rr.lt
  have co : ∀ j, W2.cell? ⟨w.heap.size + 1 + 1, j, none⟩ = (#[.int .i64 Xm, .int .i64 Y, .int .i64 Z, .int .i64 0, .int .i64 0, .int .i64 0, .int .i64 0, .int .i64 0, .int .i64 0, .int .i64 0, .int .i64 0, .int .i64 0, .int .i64 0, .int .i64 0, .int .i64 0, .int .i64 0, .int .i64 0, .int .i64 0] : Array Value)[j]? := ro.cell
  have fo : ∀ j, W2.frozen? ⟨w.heap.size + 1 + 1, j, none⟩ = false := ro.frozen
  have zo : w.heap.size + 1 + 1 < W2.heap.size := ro.lt
  rw [rounds_succ]
  go_wp2_with fail
  (refine (CC.out _).mono ?_; rintro e p1 ⟨rfl, hp⟩)
  go_wp2_with fail
  (refine (N1.out _).mono ?_; rintro e q1 ⟨rfl, hq⟩)
  have hh : Below W2.heap.size W2 q1 := by
    refine chain ?_ hq
    refine chain hp ?_
    (repeat (first | with_reducible assumption | with_reducible exact Below.refl _ _ | with_reducible refine Below.drew ?_ | with_reducible refine below_drewN ?_ _ | with_reducible refine al ?_ _ | (with_reducible refine sc ?_ ?_; (focus (first | omega | (simp; done) | (simp; omega)))) | (with_reducible refine chain ?_ (by assumption))))
  clear cb fb zb cr fr zr co fo zo
  replace rb := rb.keep hh
  replace rr := rr.keep hh
  replace ro := ro.keep hh
  replace kw := kw.trans (hh.mono kw.size)
  have cb : ∀ j, q1.cell? ⟨w.heap.size, j, none⟩ = (#[.int .i64 x, .int .i64 y, .int .i64 z] : Array Value)[j]? := rb.cell
  have fb : ∀ j, q1.frozen? ⟨w.heap.size, j, none⟩ = false := rb.frozen
  have zb : w.heap.size < q1.heap.size := rb.lt
  have cr : ∀ j, q1.cell? ⟨w.heap.size + 1, j, none⟩ = (#[.int .i64 0, .int .i64 0, .int .i64 0, .int .i64 0, .int .i64 0, .int .i64 0, .int .i64 0, .int .i64 0, .int .i64 0, .int .i64 0, .int .i64 0, .int .i64 0, .int .i64 0, .int .i64 0, .int .i64 0, .int .i64 0, .int .i64 0, .int .i64 0] : Array Value)[j]? := rr.cell
  have fr : ∀ j, q1.frozen? ⟨w.heap.size + 1, j, none⟩ = false := rr.frozen
  have zr : w.heap.size + 1 < q1.heap.size := rr.lt
  have co : ∀ j, q1.cell? ⟨w.heap.size + 1 + 1, j, none⟩ = (#[.int .i64 Xm, .int .i64 Y, .int .i64 Z, .int .i64 0, .int .i64 0, .int .i64 0, .int .i64 0, .int .i64 0, .int .i64 0, .int .i64 0, .int .i64 0, .int .i64 0, .int .i64 0, .int .i64 0, .int .i64 0, .int .i64 0, .int .i64 0, .int .i64 0] : Array Value)[j]? := ro.cell
  have fo : ∀ j, q1.frozen? ⟨w.heap.size + 1 + 1, j, none⟩ = false := ro.frozen
  have zo : w.heap.size + 1 + 1 < q1.heap.size := ro.lt
  clear hh hp hq
  go_wp2_with fail
  replace kw : Below w.heap.size w (((q1.setCell ⟨w.heap.size + 1 + 1, 3, none⟩ (.int .i64 Xp)).setCell ⟨w.heap.size + 1 + 1, 4, none⟩ (.int .i64 Y)).setCell ⟨w.heap.size + 1 + 1, 5, none⟩ (.int .i64 Z)) := by (repeat (first | with_reducible assumption | with_reducible exact Below.refl _ _ | with_reducible refine Below.drew ?_ | with_reducible refine below_drewN ?_ _ | with_reducible refine al ?_ _ | (with_reducible refine sc ?_ ?_; (focus (first | omega | (simp; done) | (simp; omega)))) | (with_reducible refine chain ?_ (by assumption))))
  replace rb : RowAt (((q1.setCell ⟨w.heap.size + 1 + 1, 3, none⟩ (.int .i64 Xp)).setCell ⟨w.heap.size + 1 + 1, 4, none⟩ (.int .i64 Y)).setCell ⟨w.heap.size + 1 + 1, 5, none⟩ (.int .i64 Z)) (w.heap.size) #[.int .i64 x, .int .i64 y, .int .i64 z] 28 := (((rb.other (p := ⟨w.heap.size + 1 + 1, 3, none⟩) (by first | omega | (simp; done) | (simp; omega)) (.int .i64 Xp)).other (p := ⟨w.heap.size + 1 + 1, 4, none⟩) (by first | omega | (simp; done) | (simp; omega)) (.int .i64 Y)).other (p := ⟨w.heap.size + 1 + 1, 5, none⟩) (by first | omega | (simp; done) | (simp; omega)) (.int .i64 Z))
  replace rr : RowAt (((q1.setCell ⟨w.heap.size + 1 + 1, 3, none⟩ (.int .i64 Xp)).setCell ⟨w.heap.size + 1 + 1, 4, none⟩ (.int .i64 Y)).setCell ⟨w.heap.size + 1 + 1, 5, none⟩ (.int .i64 Z)) (w.heap.size + 1) #[.int .i64 0, .int .i64 0, .int .i64 0, .int .i64 0, .int .i64 0, .int .i64 0, .int .i64 0, .int .i64 0, .int .i64 0, .int .i64 0, .int .i64 0, .int .i64 0, .int .i64 0, .int .i64 0, .int .i64 0, .int .i64 0, .int .i64 0, .int .i64 0] 45 := (((rr.other (p := ⟨w.heap.size + 1 + 1, 3, none⟩) (by first | omega | (simp; done) | (simp; omega)) (.int .i64 Xp)).other (p := ⟨w.heap.size + 1 + 1, 4, none⟩) (by first | omega | (simp; done) | (simp; omega)) (.int .i64 Y)).other (p := ⟨w.heap.size + 1 + 1, 5, none⟩) (by first | omega | (simp; done) | (simp; omega)) (.int .i64 Z))
  replace ro : RowAt (((q1.setCell ⟨w.heap.size + 1 + 1, 3, none⟩ (.int .i64 Xp)).setCell ⟨w.heap.size + 1 + 1, 4, none⟩ (.int .i64 Y)).setCell ⟨w.heap.size + 1 + 1, 5, none⟩ (.int .i64 Z)) (w.heap.size + 1 + 1) #[.int .i64 Xm, .int .i64 Y, .int .i64 Z, .int .i64 Xp, .int .i64 Y, .int .i64 Z, .int .i64 0, .int .i64 0, .int .i64 0, .int .i64 0, .int .i64 0, .int .i64 0, .int .i64 0, .int .i64 0, .int .i64 0, .int .i64 0, .int .i64 0, .int .i64 0] 45 := (((ro.set 3 (.int .i64 Xp)).set 4 (.int .i64 Y)).set 5 (.int .i64 Z))
  clear cb fb zb cr fr zr co fo zo
  generalize (((q1.setCell ⟨w.heap.size + 1 + 1, 3, none⟩ (.int .i64 Xp)).setCell ⟨w.heap.size + 1 + 1, 4, none⟩ (.int .i64 Y)).setCell ⟨w.heap.size + 1 + 1, 5, none⟩ (.int .i64 Z)) = W3 at *
  have cb : ∀ j, W3.cell? ⟨w.heap.size, j, none⟩ = (#[.int .i64 x, .int .i64 y, .int .i64 z] : Array Value)[j]? := rb.cell
  have fb : ∀ j, W3.frozen? ⟨w.heap.size, j, none⟩ = false := rb.frozen
  have zb : w.heap.size < W3.heap.size := rb.lt
  have cr : ∀ j, W3.cell? ⟨w.heap.size + 1, j, none⟩ = (#[.int .i64 0, .int .i64 0, .int .i64 0, .int .i64 0, .int .i64 0, .int .i64 0, .int .i64 0, .int .i64 0, .int .i64 0, .int .i64 0, .int .i64 0, .int .i64 0, .int .i64 0, .int .i64 0, .int .i64 0, .int .i64 0, .int .i64 0, .int .i64 0] : Array Value)[j]? := rr.cell
  have fr : ∀ j, W3.frozen? ⟨w.heap.size + 1, j, none⟩ = false := rr.frozen
  have zr : w.heap.size + 1 < W3.heap.size := rr.lt
  have co : ∀ j, W3.cell? ⟨w.heap.size + 1 + 1, j, none⟩ = (#[.int .i64 Xm, .int .i64 Y, .int .i64 Z, .int .i64 Xp, .int .i64 Y, .int .i64 Z, .int .i64 0, .int .i64 0, .int .i64 0, .int .i64 0, .int .i64 0, .int .i64 0, .int .i64 0, .int .i64 0, .int .i64 0, .int .i64 0, .int .i64 0, .int .i64 0] : Array Value)[j]? := ro.cell
  have fo : ∀ j, W3.frozen? ⟨w.heap.size + 1 + 1, j, none⟩ = false := ro.frozen
  have zo : w.heap.size + 1 + 1 < W3.heap.size := ro.lt
  rw [rounds_succ]
  go_wp2_with fail
  (refine (CC.out _).mono ?_; rintro e p2 ⟨rfl, hp⟩)
  go_wp2_with fail
  (refine (N2.out _).mono ?_; rintro e q2 ⟨rfl, hq⟩)
  have hh : Below W3.heap.size W3 q2 := by
    refine chain ?_ hq
    refine chain hp ?_
    (repeat (first | with_reducible assumption | with_reducible exact Below.refl _ _ | with_reducible refine Below.drew ?_ | with_reducible refine below_drewN ?_ _ | with_reducible refine al ?_ _ | (with_reducible refine sc ?_ ?_; (focus (first | omega | (simp; done) | (simp; omega)))) | (with_reducible refine chain ?_ (by assumption))))
  clear cb fb zb cr fr zr co fo zo
  replace rb := rb.keep hh
  replace rr := rr.keep hh
  replace ro := ro.keep hh
  replace kw := kw.trans (hh.mono kw.size)
  have cb : ∀ j, q2.cell? ⟨w.heap.size, j, none⟩ = (#[.int .i64 x, .int .i64 y, .int .i64 z] : Array Value)[j]? := rb.cell
  have fb : ∀ j, q2.frozen? ⟨w.heap.size, j, none⟩ = false := rb.frozen
  have zb : w.heap.size < q2.heap.size := rb.lt
  have cr : ∀ j, q2.cell? ⟨w.heap.size + 1, j, none⟩ = (#[.int .i64 0, .int .i64 0, .int .i64 0, .int .i64 0, .int .i64 0, .int .i64 0, .int .i64 0, .int .i64 0, .int .i64 0, .int .i64 0, .int .i64 0, .int .i64 0, .int .i64 0, .int .i64 0, .int .i64 0, .int .i64 0, .int .i64 0, .int .i64 0] : Array Value)[j]? := rr.cell
  have fr : ∀ j, q2.frozen? ⟨w.heap.size + 1, j, none⟩ = false := rr.frozen
  have zr : w.heap.size + 1 < q2.heap.size := rr.lt
  have co : ∀ j, q2.cell? ⟨w.heap.size + 1 + 1, j, none⟩ = (#[.int .i64 Xm, .int .i64 Y, .int .i64 Z, .int .i64 Xp, .int .i64 Y, .int .i64 Z, .int .i64 0, .int .i64 0, .int .i64 0, .int .i64 0, .int .i64 0, .int .i64 0, .int .i64 0, .int .i64 0, .int .i64 0, .int .i64 0, .int .i64 0, .int .i64 0] : Array Value)[j]? := ro.cell
  have fo : ∀ j, q2.frozen? ⟨w.heap.size + 1 + 1, j, none⟩ = false := ro.frozen
  have zo : w.heap.size + 1 + 1 < q2.heap.size := ro.lt
  clear hh hp hq
  go_wp2_with fail
  replace kw : Below w.heap.size w (((q2.setCell ⟨w.heap.size + 1 + 1, 6, none⟩ (.int .i64 X)).setCell ⟨w.heap.size + 1 + 1, 7, none⟩ (.int .i64 Ym)).setCell ⟨w.heap.size + 1 + 1, 8, none⟩ (.int .i64 Z)) := by (repeat (first | with_reducible assumption | with_reducible exact Below.refl _ _ | with_reducible refine Below.drew ?_ | with_reducible refine below_drewN ?_ _ | with_reducible refine al ?_ _ | (with_reducible refine sc ?_ ?_; (focus (first | omega | (simp; done) | (simp; omega)))) | (with_reducible refine chain ?_ (by assumption))))
  replace rb : RowAt (((q2.setCell ⟨w.heap.size + 1 + 1, 6, none⟩ (.int .i64 X)).setCell ⟨w.heap.size + 1 + 1, 7, none⟩ (.int .i64 Ym)).setCell ⟨w.heap.size + 1 + 1, 8, none⟩ (.int .i64 Z)) (w.heap.size) #[.int .i64 x, .int .i64 y, .int .i64 z] 28 := (((rb.other (p := ⟨w.heap.size + 1 + 1, 6, none⟩) (by first | omega | (simp; done) | (simp; omega)) (.int .i64 X)).other (p := ⟨w.heap.size + 1 + 1, 7, none⟩) (by first | omega | (simp; done) | (simp; omega)) (.int .i64 Ym)).other (p := ⟨w.heap.size + 1 + 1, 8, none⟩) (by first | omega | (simp; done) | (simp; omega)) (.int .i64 Z))
  replace rr : RowAt (((q2.setCell ⟨w.heap.size + 1 + 1, 6, none⟩ (.int .i64 X)).setCell ⟨w.heap.size + 1 + 1, 7, none⟩ (.int .i64 Ym)).setCell ⟨w.heap.size + 1 + 1, 8, none⟩ (.int .i64 Z)) (w.heap.size + 1) #[.int .i64 0, .int .i64 0, .int .i64 0, .int .i64 0, .int .i64 0, .int .i64 0, .int .i64 0, .int .i64 0, .int .i64 0, .int .i64 0, .int .i64 0, .int .i64 0, .int .i64 0, .int .i64 0, .int .i64 0, .int .i64 0, .int .i64 0, .int .i64 0] 45 := (((rr.other (p := ⟨w.heap.size + 1 + 1, 6, none⟩) (by first | omega | (simp; done) | (simp; omega)) (.int .i64 X)).other (p := ⟨w.heap.size + 1 + 1, 7, none⟩) (by first | omega | (simp; done) | (simp; omega)) (.int .i64 Ym)).other (p := ⟨w.heap.size + 1 + 1, 8, none⟩) (by first | omega | (simp; done) | (simp; omega)) (.int .i64 Z))
  replace ro : RowAt (((q2.setCell ⟨w.heap.size + 1 + 1, 6, none⟩ (.int .i64 X)).setCell ⟨w.heap.size + 1 + 1, 7, none⟩ (.int .i64 Ym)).setCell ⟨w.heap.size + 1 + 1, 8, none⟩ (.int .i64 Z)) (w.heap.size + 1 + 1) #[.int .i64 Xm, .int .i64 Y, .int .i64 Z, .int .i64 Xp, .int .i64 Y, .int .i64 Z, .int .i64 X, .int .i64 Ym, .int .i64 Z, .int .i64 0, .int .i64 0, .int .i64 0, .int .i64 0, .int .i64 0, .int .i64 0, .int .i64 0, .int .i64 0, .int .i64 0] 45 := (((ro.set 6 (.int .i64 X)).set 7 (.int .i64 Ym)).set 8 (.int .i64 Z))
  clear cb fb zb cr fr zr co fo zo
  generalize (((q2.setCell ⟨w.heap.size + 1 + 1, 6, none⟩ (.int .i64 X)).setCell ⟨w.heap.size + 1 + 1, 7, none⟩ (.int .i64 Ym)).setCell ⟨w.heap.size + 1 + 1, 8, none⟩ (.int .i64 Z)) = W4 at *
  have cb : ∀ j, W4.cell? ⟨w.heap.size, j, none⟩ = (#[.int .i64 x, .int .i64 y, .int .i64 z] : Array Value)[j]? := rb.cell
  have fb : ∀ j, W4.frozen? ⟨w.heap.size, j, none⟩ = false := rb.frozen
  have zb : w.heap.size < W4.heap.size := rb.lt
  have cr : ∀ j, W4.cell? ⟨w.heap.size + 1, j, none⟩ = (#[.int .i64 0, .int .i64 0, .int .i64 0, .int .i64 0, .int .i64 0, .int .i64 0, .int .i64 0, .int .i64 0, .int .i64 0, .int .i64 0, .int .i64 0, .int .i64 0, .int .i64 0, .int .i64 0, .int .i64 0, .int .i64 0, .int .i64 0, .int .i64 0] : Array Value)[j]? := rr.cell
  have fr : ∀ j, W4.frozen? ⟨w.heap.size + 1, j, none⟩ = false := rr.frozen
  have zr : w.heap.size + 1 < W4.heap.size := rr.lt
  have co : ∀ j, W4.cell? ⟨w.heap.size + 1 + 1, j, none⟩ = (#[.int .i64 Xm, .int .i64 Y, .int .i64 Z, .int .i64 Xp, .int .i64 Y, .int .i64 Z, .int .i64 X, .int .i64 Ym, .int .i64 Z, .int .i64 0, .int .i64 0, .int .i64 0, .int .i64 0, .int .i64 0, .int .i64 0, .int .i64 0, .int .i64 0, .int .i64 0] : Array Value)[j]? := ro.cell
  have fo : ∀ j, W4.frozen? ⟨w.heap.size + 1 + 1, j, none⟩ = false := ro.frozen
  have zo : w.heap.size + 1 + 1 < W4.heap.size := ro.lt
  rw [rounds_succ]
  go_wp2_with fail
  (refine (CC.out _).mono ?_; rintro e p3 ⟨rfl, hp⟩)
  go_wp2_with fail
  (refine (N3.out _).mono ?_; rintro e q3 ⟨rfl, hq⟩)
  have hh : Below W4.heap.size W4 q3 := by
    refine chain ?_ hq
    refine chain hp ?_
    (repeat (first | with_reducible assumption | with_reducible exact Below.refl _ _ | with_reducible refine Below.drew ?_ | with_reducible refine below_drewN ?_ _ | with_reducible refine al ?_ _ | (with_reducible refine sc ?_ ?_; (focus (first | omega | (simp; done) | (simp; omega)))) | (with_reducible refine chain ?_ (by assumption))))
  clear cb fb zb cr fr zr co fo zo
  replace rb := rb.keep hh
  replace rr := rr.keep hh
  replace ro := ro.keep hh
  replace kw := kw.trans (hh.mono kw.size)
  have cb : ∀ j, q3.cell? ⟨w.heap.size, j, none⟩ = (#[.int .i64 x, .int .i64 y, .int .i64 z] : Array Value)[j]? := rb.cell
  have fb : ∀ j, q3.frozen? ⟨w.heap.size, j, none⟩ = false := rb.frozen
  have zb : w.heap.size < q3.heap.size := rb.lt
  have cr : ∀ j, q3.cell? ⟨w.heap.size + 1, j, none⟩ = (#[.int .i64 0, .int .i64 0, .int .i64 0, .int .i64 0, .int .i64 0, .int .i64 0, .int .i64 0, .int .i64 0, .int .i64 0, .int .i64 0, .int .i64 0, .int .i64 0, .int .i64 0, .int .i64 0, .int .i64 0, .int .i64 0, .int .i64 0, .int .i64 0] : Array Value)[j]? := rr.cell
  have fr : ∀ j, q3.frozen? ⟨w.heap.size + 1, j, none⟩ = false := rr.frozen
  have zr : w.heap.size + 1 < q3.heap.size := rr.lt
  have co : ∀ j, q3.cell? ⟨w.heap.size + 1 + 1, j, none⟩ = (#[.int .i64 Xm, .int .i64 Y, .int .i64 Z, .int .i64 Xp, .int .i64 Y, .int .i64 Z, .int .i64 X, .int .i64 Ym, .int .i64 Z, .int .i64 0, .int .i64 0, .int .i64 0, .int .i64 0, .int .i64 0, .int .i64 0, .int .i64 0, .int .i64 0, .int .i64 0] : Array Value)[j]? := ro.cell
  have fo : ∀ j, q3.frozen? ⟨w.heap.size + 1 + 1, j, none⟩ = false := ro.frozen
  have zo : w.heap.size + 1 + 1 < q3.heap.size := ro.lt
  clear hh hp hq
  go_wp2_with fail
  replace kw : Below w.heap.size w (((q3.setCell ⟨w.heap.size + 1 + 1, 9, none⟩ (.int .i64 X)).setCell ⟨w.heap.size + 1 + 1, 10, none⟩ (.int .i64 Yp)).setCell ⟨w.heap.size + 1 + 1, 11, none⟩ (.int .i64 Z)) := by (repeat (first | with_reducible assumption | with_reducible exact Below.refl _ _ | with_reducible refine Below.drew ?_ | with_reducible refine below_drewN ?_ _ | with_reducible refine al ?_ _ | (with_reducible refine sc ?_ ?_; (focus (first | omega | (simp; done) | (simp; omega)))) | (with_reducible refine chain ?_ (by assumption))))
  replace rb : RowAt (((q3.setCell ⟨w.heap.size + 1 + 1, 9, none⟩ (.int .i64 X)).setCell ⟨w.heap.size + 1 + 1, 10, none⟩ (.int .i64 Yp)).setCell ⟨w.heap.size + 1 + 1, 11, none⟩ (.int .i64 Z)) (w.heap.size) #[.int .i64 x, .int .i64 y, .int .i64 z] 28 := (((rb.other (p := ⟨w.heap.size + 1 + 1, 9, none⟩) (by first | omega | (simp; done) | (simp; omega)) (.int .i64 X)).other (p := ⟨w.heap.size + 1 + 1, 10, none⟩) (by first | omega | (simp; done) | (simp; omega)) (.int .i64 Yp)).other (p := ⟨w.heap.size + 1 + 1, 11, none⟩) (by first | omega | (simp; done) | (simp; omega)) (.int .i64 Z))
  replace rr : RowAt (((q3.setCell ⟨w.heap.size + 1 + 1, 9, none⟩ (.int .i64 X)).setCell ⟨w.heap.size + 1 + 1, 10, none⟩ (.int .i64 Yp)).setCell ⟨w.heap.size + 1 + 1, 11, none⟩ (.int .i64 Z)) (w.heap.size + 1) #[.int .i64 0, .int .i64 0, .int .i64 0, .int .i64 0, .int .i64 0, .int .i64 0, .int .i64 0, .int .i64 0, .int .i64 0, .int .i64 0, .int .i64 0, .int .i64 0, .int .i64 0, .int .i64 0, .int .i64 0, .int .i64 0, .int .i64 0, .int .i64 0] 45 := (((rr.other (p := ⟨w.heap.size + 1 + 1, 9, none⟩) (by first | omega | (simp; done) | (simp; omega)) (.int .i64 X)).other (p := ⟨w.heap.size + 1 + 1, 10, none⟩) (by first | omega | (simp; done) | (simp; omega)) (.int .i64 Yp)).other (p := ⟨w.heap.size + 1 + 1, 11, none⟩) (by first | omega | (simp; done) | (simp; omega)) (.int .i64 Z))
  replace ro : RowAt (((q3.setCell ⟨w.heap.size + 1 + 1, 9, none⟩ (.int .i64 X)).setCell ⟨w.heap.size + 1 + 1, 10, none⟩ (.int .i64 Yp)).setCell ⟨w.heap.size + 1 + 1, 11, none⟩ (.int .i64 Z)) (w.heap.size + 1 + 1) #[.int .i64 Xm, .int .i64 Y, .int .i64 Z, .int .i64 Xp, .int .i64 Y, .int .i64 Z, .int .i64 X, .int .i64 Ym, .int .i64 Z, .int .i64 X, .int .i64 Yp, .int .i64 Z, .int .i64 0, .int .i64 0, .int .i64 0, .int .i64 0, .int .i64 0, .int .i64 0] 45 := (((ro.set 9 (.int .i64 X)).set 10 (.int .i64 Yp)).set 11 (.int .i64 Z))
  clear cb fb zb cr fr zr co fo zo
  generalize (((q3.setCell ⟨w.heap.size + 1 + 1, 9, none⟩ (.int .i64 X)).setCell ⟨w.heap.size + 1 + 1, 10, none⟩ (.int .i64 Yp)).setCell ⟨w.heap.size + 1 + 1, 11, none⟩ (.int .i64 Z)) = W5 at *
  have cb : ∀ j, W5.cell? ⟨w.heap.size, j, none⟩ = (#[.int .i64 x, .int .i64 y, .int .i64 z] : Array Value)[j]? := rb.cell
  have fb : ∀ j, W5.frozen? ⟨w.heap.size, j, none⟩ = false := rb.frozen
  have zb : w.heap.size < W5.heap.size := rb.lt
  have cr : ∀ j, W5.cell? ⟨w.heap.size + 1, j, none⟩ = (#[.int .i64 0, .int .i64 0, .int .i64 0, .int .i64 0, .int .i64 0, .int .i64 0, .int .i64 0, .int .i64 0, .int .i64 0, .int .i64 0, .int .i64 0, .int .i64 0, .int .i64 0, .int .i64 0, .int .i64 0, .int .i64 0, .int .i64 0, .int .i64 0] : Array Value)[j]? := rr.cell
  have fr : ∀ j, W5.frozen? ⟨w.heap.size + 1, j, none⟩ = false := rr.frozen
  have zr : w.heap.size + 1 < W5.heap.size := rr.lt
  have co : ∀ j, W5.cell? ⟨w.heap.size + 1 + 1, j, none⟩ = (#[.int .i64 Xm, .int .i64 Y, .int .i64 Z, .int .i64 Xp, .int .i64 Y, .int .i64 Z, .int .i64 X, .int .i64 Ym, .int .i64 Z, .int .i64 X, .int .i64 Yp, .int .i64 Z, .int .i64 0, .int .i64 0, .int .i64 0, .int .i64 0, .int .i64 0, .int .i64 0] : Array Value)[j]? := ro.cell
  have fo : ∀ j, W5.frozen? ⟨w.heap.size + 1 + 1, j, none⟩ = false := ro.frozen
  have zo : w.heap.size + 1 + 1 < W5.heap.size := ro.lt
  rw [rounds_succ]
  go_wp2_with fail
  (refine (CC.out _).mono ?_; rintro e p4 ⟨rfl, hp⟩)
  go_wp2_with fail
  (refine (N4.out _).mono ?_; rintro e q4 ⟨rfl, hq⟩)
  have hh : Below W5.heap.size W5 q4 := by
    refine chain ?_ hq
    refine chain hp ?_
    (repeat (first | with_reducible assumption | with_reducible exact Below.refl _ _ | with_reducible refine Below.drew ?_ | with_reducible refine below_drewN ?_ _ | with_reducible refine al ?_ _ | (with_reducible refine sc ?_ ?_; (focus (first | omega | (simp; done) | (simp; omega)))) | (with_reducible refine chain ?_ (by assumption))))
  clear cb fb zb cr fr zr co fo zo
  replace rb := rb.keep hh
  replace rr := rr.keep hh
  replace ro := ro.keep hh
  replace kw := kw.trans (hh.mono kw.size)
  have cb : ∀ j, q4.cell? ⟨w.heap.size, j, none⟩ = (#[.int .i64 x, .int .i64 y, .int .i64 z] : Array Value)[j]? := rb.cell
  have fb : ∀ j, q4.frozen? ⟨w.heap.size, j, none⟩ = false := rb.frozen
  have zb : w.heap.size < q4.heap.size := rb.lt
  have cr : ∀ j, q4.cell? ⟨w.heap.size + 1, j, none⟩ = (#[.int .i64 0, .int .i64 0, .int .i64 0, .int .i64 0, .int .i64 0, .int .i64 0, .int .i64 0, .int .i64 0, .int .i64 0, .int .i64 0, .int .i64 0, .int .i64 0, .int .i64 0, .int .i64 0, .int .i64 0, .int .i64 0, .int .i64 0, .int .i64 0] : Array Value)[j]? := rr.cell
  have fr : ∀ j, q4.frozen? ⟨w.heap.size + 1, j, none⟩ = false := rr.frozen
  have zr : w.heap.size + 1 < q4.heap.size := rr.lt
  have co : ∀ j, q4.cell? ⟨w.heap.size + 1 + 1, j, none⟩ = (#[.int .i64 Xm, .int .i64 Y, .int .i64 Z, .int .i64 Xp, .int .i64 Y, .int .i64 Z, .int .i64 X, .int .i64 Ym, .int .i64 Z, .int .i64 X, .int .i64 Yp, .int .i64 Z, .int .i64 0, .int .i64 0, .int .i64 0, .int .i64 0, .int .i64 0, .int .i64 0] : Array Value)[j]? := ro.cell
  have fo : ∀ j, q4.frozen? ⟨w.heap.size + 1 + 1, j, none⟩ = false := ro.frozen
  have zo : w.heap.size + 1 + 1 < q4.heap.size := ro.lt
  clear hh hp hq
  go_wp2_with fail
  replace kw : Below w.heap.size w (((q4.setCell ⟨w.heap.size + 1 + 1, 12, none⟩ (.int .i64 X)).setCell ⟨w.heap.size + 1 + 1, 13, none⟩ (.int .i64 Y)).setCell ⟨w.heap.size + 1 + 1, 14, none⟩ (.int .i64 Zm)) := by (repeat (first | with_reducible assumption | with_reducible exact Below.refl _ _ | with_reducible refine Below.drew ?_ | with_reducible refine below_drewN ?_ _ | with_reducible refine al ?_ _ | (with_reducible refine sc ?_ ?_; (focus (first | omega | (simp; done) | (simp; omega)))) | (with_reducible refine chain ?_ (by assumption))))
  replace rb : RowAt (((q4.setCell ⟨w.heap.size + 1 + 1, 12, none⟩ (.int .i64 X)).setCell ⟨w.heap.size + 1 + 1, 13, none⟩ (.int .i64 Y)).setCell ⟨w.heap.size + 1 + 1, 14, none⟩ (.int .i64 Zm)) (w.heap.size) #[.int .i64 x, .int .i64 y, .int .i64 z] 28 := (((rb.other (p := ⟨w.heap.size + 1 + 1, 12, none⟩) (by first | omega | (simp; done) | (simp; omega)) (.int .i64 X)).other (p := ⟨w.heap.size + 1 + 1, 13, none⟩) (by first | omega | (simp; done) | (simp; omega)) (.int .i64 Y)).other (p := ⟨w.heap.size + 1 + 1, 14, none⟩) (by first | omega | (simp; done) | (simp; omega)) (.int .i64 Zm))
  replace rr : RowAt (((q4.setCell ⟨w.heap.size + 1 + 1, 12, none⟩ (.int .i64 X)).setCell ⟨w.heap.size + 1 + 1, 13, none⟩ (.int .i64 Y)).setCell ⟨w.heap.size + 1 + 1, 14, none⟩ (.int .i64 Zm)) (w.heap.size + 1) #[.int .i64 0, .int .i64 0, .int .i64 0, .int .i64 0, .int .i64 0, .int .i64 0, .int .i64 0, .int .i64 0, .int .i64 0, .int .i64 0, .int .i64 0, .int .i64 0, .int .i64 0, .int .i64 0, .int .i64 0, .int .i64 0, .int .i64 0, .int .i64 0] 45 := (((rr.other (p := ⟨w.heap.size + 1 + 1, 12, none⟩) (by first | omega | (simp; done) | (simp; omega)) (.int .i64 X)).other (p := ⟨w.heap.size + 1 + 1, 13, none⟩) (by first | omega | (simp; done) | (simp; omega)) (.int .i64 Y)).other (p := ⟨w.heap.size + 1 + 1, 14, none⟩) (by first | omega | (simp; done) | (simp; omega)) (.int .i64 Zm))
  replace ro : RowAt (((q4.setCell ⟨w.heap.size + 1 + 1, 12, none⟩ (.int .i64 X)).setCell ⟨w.heap.size + 1 + 1, 13, none⟩ (.int .i64 Y)).setCell ⟨w.heap.size + 1 + 1, 14, none⟩ (.int .i64 Zm)) (w.heap.size + 1 + 1) #[.int .i64 Xm, .int .i64 Y, .int .i64 Z, .int .i64 Xp, .int .i64 Y, .int .i64 Z, .int .i64 X, .int .i64 Ym, .int .i64 Z, .int .i64 X, .int .i64 Yp, .int .i64 Z, .int .i64 X, .int .i64 Y, .int .i64 Zm, .int .i64 0, .int .i64 0, .int .i64 0] 45 := (((ro.set 12 (.int .i64 X)).set 13 (.int .i64 Y)).set 14 (.int .i64 Zm))
  clear cb fb zb cr fr zr co fo zo
  generalize (((q4.setCell ⟨w.heap.size + 1 + 1, 12, none⟩ (.int .i64 X)).setCell ⟨w.heap.size + 1 + 1, 13, none⟩ (.int .i64 Y)).setCell ⟨w.heap.size + 1 + 1, 14, none⟩ (.int .i64 Zm)) = W6 at *
  have cb : ∀ j, W6.cell? ⟨w.heap.size, j, none⟩ = (#[.int .i64 x, .int .i64 y, .int .i64 z] : Array Value)[j]? := rb.cell
  have fb : ∀ j, W6.frozen? ⟨w.heap.size, j, none⟩ = false := rb.frozen
  have zb : w.heap.size < W6.heap.size := rb.lt
  have cr : ∀ j, W6.cell? ⟨w.heap.size + 1, j, none⟩ = (#[.int .i64 0, .int .i64 0, .int .i64 0, .int .i64 0, .int .i64 0, .int .i64 0, .int .i64 0, .int .i64 0, .int .i64 0, .int .i64 0, .int .i64 0, .int .i64 0, .int .i64 0, .int .i64 0, .int .i64 0, .int .i64 0, .int .i64 0, .int .i64 0] : Array Value)[j]? := rr.cell
  have fr : ∀ j, W6.frozen? ⟨w.heap.size + 1, j, none⟩ = false := rr.frozen
  have zr : w.heap.size + 1 < W6.heap.size := rr.lt
  have co : ∀ j, W6.cell? ⟨w.heap.size + 1 + 1, j, none⟩ = (#[.int .i64 Xm, .int .i64 Y, .int .i64 Z, .int .i64 Xp, .int .i64 Y, .int .i64 Z, .int .i64 X, .int .i64 Ym, .int .i64 Z, .int .i64 X, .int .i64 Yp, .int .i64 Z, .int .i64 X, .int .i64 Y, .int .i64 Zm, .int .i64 0, .int .i64 0, .int .i64 0] : Array Value)[j]? := ro.cell
  have fo : ∀ j, W6.frozen? ⟨w.heap.size + 1 + 1, j, none⟩ = false := ro.frozen
  have zo : w.heap.size + 1 + 1 < W6.heap.size := ro.lt
  rw [rounds_succ]
  go_wp2_with fail
  (refine (CC.out _).mono ?_; rintro e p5 ⟨rfl, hp⟩)
  go_wp2_with fail
  (refine (N5.out _).mono ?_; rintro e q5 ⟨rfl, hq⟩)
  have hh : Below W6.heap.size W6 q5 := by
    refine chain ?_ hq
    refine chain hp ?_
    (repeat (first | with_reducible assumption | with_reducible exact Below.refl _ _ | with_reducible refine Below.drew ?_ | with_reducible refine below_drewN ?_ _ | with_reducible refine al ?_ _ | (with_reducible refine sc ?_ ?_; (focus (first | omega | (simp; done) | (simp; omega)))) | (with_reducible refine chain ?_ (by assumption))))
  clear cb fb zb cr fr zr co fo zo
  replace rb := rb.keep hh
  replace rr := rr.keep hh
  replace ro := ro.keep hh
  replace kw := kw.trans (hh.mono kw.size)
  have cb : ∀ j, q5.cell? ⟨w.heap.size, j, none⟩ = (#[.int .i64 x, .int .i64 y, .int .i64 z] : Array Value)[j]? := rb.cell
  have fb : ∀ j, q5.frozen? ⟨w.heap.size, j, none⟩ = false := rb.frozen
  have zb : w.heap.size < q5.heap.size := rb.lt
  have cr : ∀ j, q5.cell? ⟨w.heap.size + 1, j, none⟩ = (#[.int .i64 0, .int .i64 0, .int .i64 0, .int .i64 0, .int .i64 0, .int .i64 0, .int .i64 0, .int .i64 0, .int .i64 0, .int .i64 0, .int .i64 0, .int .i64 0, .int .i64 0, .int .i64 0, .int .i64 0, .int .i64 0, .int .i64 0, .int .i64 0] : Array Value)[j]? := rr.cell
  have fr : ∀ j, q5.frozen? ⟨w.heap.size + 1, j, none⟩ = false := rr.frozen
  have zr : w.heap.size + 1 < q5.heap.size := rr.lt
  have co : ∀ j, q5.cell? ⟨w.heap.size + 1 + 1, j, none⟩ = (#[.int .i64 Xm, .int .i64 Y, .int .i64 Z, .int .i64 Xp, .int .i64 Y, .int .i64 Z, .int .i64 X, .int .i64 Ym, .int .i64 Z, .int .i64 X, .int .i64 Yp, .int .i64 Z, .int .i64 X, .int .i64 Y, .int .i64 Zm, .int .i64 0, .int .i64 0, .int .i64 0] : Array Value)[j]? := ro.cell
  have fo : ∀ j, q5.frozen? ⟨w.heap.size + 1 + 1, j, none⟩ = false := ro.frozen
  have zo : w.heap.size + 1 + 1 < q5.heap.size := ro.lt
  clear hh hp hq
  go_wp2_with fail
  replace kw : Below w.heap.size w (((q5.setCell ⟨w.heap.size + 1 + 1, 15, none⟩ (.int .i64 X)).setCell ⟨w.heap.size + 1 + 1, 16, none⟩ (.int .i64 Y)).setCell ⟨w.heap.size + 1 + 1, 17, none⟩ (.int .i64 Zp)) := by (repeat (first | with_reducible assumption | with_reducible exact Below.refl _ _ | with_reducible refine Below.drew ?_ | with_reducible refine below_drewN ?_ _ | with_reducible refine al ?_ _ | (with_reducible refine sc ?_ ?_; (focus (first | omega | (simp; done) | (simp; omega)))) | (with_reducible refine chain ?_ (by assumption))))
  replace rb : RowAt (((q5.setCell ⟨w.heap.size + 1 + 1, 15, none⟩ (.int .i64 X)).setCell ⟨w.heap.size + 1 + 1, 16, none⟩ (.int .i64 Y)).setCell ⟨w.heap.size + 1 + 1, 17, none⟩ (.int .i64 Zp)) (w.heap.size) #[.int .i64 x, .int .i64 y, .int .i64 z] 28 := (((rb.other (p := ⟨w.heap.size + 1 + 1, 15, none⟩) (by first | omega | (simp; done) | (simp; omega)) (.int .i64 X)).other (p := ⟨w.heap.size + 1 + 1, 16, none⟩) (by first | omega | (simp; done) | (simp; omega)) (.int .i64 Y)).other (p := ⟨w.heap.size + 1 + 1, 17, none⟩) (by first | omega | (simp; done) | (simp; omega)) (.int .i64 Zp))
  replace rr : RowAt (((q5.setCell ⟨w.heap.size + 1 + 1, 15, none⟩ (.int .i64 X)).setCell ⟨w.heap.size + 1 + 1, 16, none⟩ (.int .i64 Y)).setCell ⟨w.heap.size + 1 + 1, 17, none⟩ (.int .i64 Zp)) (w.heap.size + 1) #[.int .i64 0, .int .i64 0, .int .i64 0, .int .i64 0, .int .i64 0, .int .i64 0, .int .i64 0, .int .i64 0, .int .i64 0, .int .i64 0, .int .i64 0, .int .i64 0, .int .i64 0, .int .i64 0, .int .i64 0, .int .i64 0, .int .i64 0, .int .i64 0] 45 := (((rr.other (p := ⟨w.heap.size + 1 + 1, 15, none⟩) (by first | omega | (simp; done) | (simp; omega)) (.int .i64 X)).other (p := ⟨w.heap.size + 1 + 1, 16, none⟩) (by first | omega | (simp; done) | (simp; omega)) (.int .i64 Y)).other (p := ⟨w.heap.size + 1 + 1, 17, none⟩) (by first | omega | (simp; done) | (simp; omega)) (.int .i64 Zp))
  replace ro : RowAt (((q5.setCell ⟨w.heap.size + 1 + 1, 15, none⟩ (.int .i64 X)).setCell ⟨w.heap.size + 1 + 1, 16, none⟩ (.int .i64 Y)).setCell ⟨w.heap.size + 1 + 1, 17, none⟩ (.int .i64 Zp)) (w.heap.size + 1 + 1) #[.int .i64 Xm, .int .i64 Y, .int .i64 Z, .int .i64 Xp, .int .i64 Y, .int .i64 Z, .int .i64 X, .int .i64 Ym, .int .i64 Z, .int .i64 X, .int .i64 Yp, .int .i64 Z, .int .i64 X, .int .i64 Y, .int .i64 Zm, .int .i64 X, .int .i64 Y, .int .i64 Zp] 45 := (((ro.set 15 (.int .i64 X)).set 16 (.int .i64 Y)).set 17 (.int .i64 Zp))
  clear cb fb zb cr fr zr co fo zo
  generalize (((q5.setCell ⟨w.heap.size + 1 + 1, 15, none⟩ (.int .i64 X)).setCell ⟨w.heap.size + 1 + 1, 16, none⟩ (.int .i64 Y)).setCell ⟨w.heap.size + 1 + 1, 17, none⟩ (.int .i64 Zp)) = W7 at *
  have cb : ∀ j, W7.cell? ⟨w.heap.size, j, none⟩ = (#[.int .i64 x, .int .i64 y, .int .i64 z] : Array Value)[j]? := rb.cell
  have fb : ∀ j, W7.frozen? ⟨w.heap.size, j, none⟩ = false := rb.frozen
  have zb : w.heap.size < W7.heap.size := rb.lt
  have cr : ∀ j, W7.cell? ⟨w.heap.size + 1, j, none⟩ = (#[.int .i64 0, .int .i64 0, .int .i64 0, .int .i64 0, .int .i64 0, .int .i64 0, .int .i64 0, .int .i64 0, .int .i64 0, .int .i64 0, .int .i64 0, .int .i64 0, .int .i64 0, .int .i64 0, .int .i64 0, .int .i64 0, .int .i64 0, .int .i64 0] : Array Value)[j]? := rr.cell
  have fr : ∀ j, W7.frozen? ⟨w.heap.size + 1, j, none⟩ = false := rr.frozen
  have zr : w.heap.size + 1 < W7.heap.size := rr.lt
  have co : ∀ j, W7.cell? ⟨w.heap.size + 1 + 1, j, none⟩ = (#[.int .i64 Xm, .int .i64 Y, .int .i64 Z, .int .i64 Xp, .int .i64 Y, .int .i64 Z, .int .i64 X, .int .i64 Ym, .int .i64 Z, .int .i64 X, .int .i64 Yp, .int .i64 Z, .int .i64 X, .int .i64 Y, .int .i64 Zm, .int .i64 X, .int .i64 Y, .int .i64 Zp] : Array Value)[j]? := ro.cell
  have fo : ∀ j, W7.frozen? ⟨w.heap.size + 1 + 1, j, none⟩ = false := ro.frozen
  have zo : w.heap.size + 1 + 1 < W7.heap.size := ro.lt
  clear CC N0 N1 N2 N3 N4 N5
  rw [rounds_succ]
  go_wp2_with (first | refine wpList_load_row rfl 45 _ rfl (w.heap.size + 1 + 1) rfl _ _ _ _ ro Try.underlying45 rfl i45 ?_ | refine wpList_store_row rfl 45 _ _ rfl (w.heap.size + 1) #[.int .i64 Xm, .int .i64 Y, .int .i64 Z, .int .i64 Xp, .int .i64 Y, .int .i64 Z, .int .i64 X, .int .i64 Ym, .int .i64 Z, .int .i64 X, .int .i64 Yp, .int .i64 Z, .int .i64 X, .int .i64 Y, .int .i64 Zm, .int .i64 X, .int .i64 Y, .int .i64 Zp] rfl rfl _ _ rr i45 rfl (by simp [Value.oneCell']) ?_)
  refine bodyPost_ret (v := .agg #[.int .i64 Xm, .int .i64 Y, .int .i64 Z, .int .i64 Xp, .int .i64 Y, .int .i64 Z, .int .i64 X, .int .i64 Ym, .int .i64 Z, .int .i64 X, .int .i64 Yp, .int .i64 Z, .int .i64 X, .int .i64 Y, .int .i64 Zm, .int .i64 X, .int .i64 Y, .int .i64 Zp]) (results_cell_row rfl _ _ (w.heap.size + 1) _ _ _ _ rfl (rr.row _) Try.underlying45 rfl i45) rfl ⟨rfl, below_setRow kw (by omega) _⟩
end Go.Proofs.Ytenpcmhfbbfpeaa
