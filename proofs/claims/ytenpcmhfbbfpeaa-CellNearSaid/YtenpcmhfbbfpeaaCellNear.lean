/- For every cell and every chunk the law CellNear of layer 3 answers true: neighbours, of cells and of chunks, each one step away, and back. Conditions: none: every input. -/
import Derived.Test.YtenpcmhfbbfpeaaRows
import Derived.Test.YtenpcmhfbbfpeaaO02
import Derived.Test.YtenpcmhfbbfpeaaL03
import Derived.Test.YtenpcmhfbbfpeaaR31
import Derived.Test.YtenpcmhfbbfpeaaR34
import Derived.Test.YtenpcmhfbbfpeaaN03
import Derived.Test.YtenpcmhfbbfpeaaR04
import Derived.Test.YtenpcmhfbbfpeaaQ32
import Derived.Test.YtenpcmhfbbfpeaaQ33
import Derived.Test.YtenpcmhfbbfpeaaS03
import Derived.Test.YtenpcmhfbbfpeaaS04
import Derived.WalkKit
import Derived.ProofKit
import Derived.OpenShut
import Derived.Below
import Derived.Carry
namespace Go.Proofs.Ytenpcmhfbbfpeaa.cellNear
open Go.Proofs.Ytenpcmhfbbfpeaa Go.ChangeShapes Go.WideShapes Go.ChangeAt Go.RowKit
set_option linter.unusedVariables false
set_option linter.unusedSimpArgs false
attribute [local go_sem ↓] Go.wp_at_zero Go.wp_at_succ
theorem near_m (X : Int) (hX : -2147483648 ≤ X ∧ X ≤ 2147483648) : IntKind.i64.wrap (cellC (X - 1) - X) = cellC (X - 1) - X ∧ IntKind.i64.wrap (X - cellC (X - 1)) = X - cellC (X - 1) ∧
    ∃ v, max (cellC (X - 1) - X) (X - cellC (X - 1)) = v ∧ ((v = 0 ∨ v = 1) ∧ (v = 1 → cellC (cellC (X - 1) + 1) = X)) ∧ IntKind.i64.wrap v = v := by
  have b : cellC (X - 1) = X - 1 ∨ (cellC (X - 1) = X ∧ X = -2147483648) := by unfold cellC; omega
  have c : cellC (X - 1) = X - 1 → cellC (cellC (X - 1) + 1) = X := fun h => by rw [h]; unfold cellC; omega
  generalize cellC (X - 1) = m at *
  refine ⟨IntWalk.i64_in _ (by omega), IntWalk.i64_in _ (by omega), _, rfl, ⟨by omega, fun h => c (by omega)⟩, IntWalk.i64_in _ (by omega)⟩
theorem near_p (X : Int) (hX : -2147483648 ≤ X ∧ X ≤ 2147483648) : IntKind.i64.wrap (cellC (X + 1) - X) = cellC (X + 1) - X ∧ IntKind.i64.wrap (X - cellC (X + 1)) = X - cellC (X + 1) ∧
    ∃ v, max (cellC (X + 1) - X) (X - cellC (X + 1)) = v ∧ ((v = 0 ∨ v = 1) ∧ (v = 1 → cellC (cellC (X + 1) - 1) = X)) ∧ IntKind.i64.wrap v = v := by
  have b : cellC (X + 1) = X + 1 ∨ (cellC (X + 1) = X ∧ X = 2147483648) := by unfold cellC; omega
  have c : cellC (X + 1) = X + 1 → cellC (cellC (X + 1) - 1) = X := fun h => by rw [h]; unfold cellC; omega
  generalize cellC (X + 1) = m at *
  refine ⟨IntWalk.i64_in _ (by omega), IntWalk.i64_in _ (by omega), _, rfl, ⟨by omega, fun h => c (by omega)⟩, IntWalk.i64_in _ (by omega)⟩
set_option maxRecDepth 20000 in
set_option maxHeartbeats 32000000 in
theorem walk (a0 : V3) (w0 : a0.wf) (a1 : V2) (w1 : a1.wf) (w : World) :
    Calls Try.prog 6 #[a0.val, a1.val] w fun e w' => e = .returned (.bool true) ∧ Below w.heap.size w w' := by
  obtain ⟨x, y, z⟩ := a0
  obtain ⟨p, q⟩ := a1
  obtain ⟨wp, wq⟩ := w1
  have i45 : (Try.prog.info? 45).map (·.size) = some 18 := by kernel_rfl
  have bX := cellC_bd x
  have bY := cellC_bd y
  have bZ := cellC_bd z
  have cc := fun k => r3_cut x y z k
  have nr := fun k => c3_near x y z k
  have rn := fun k => r3_near x y z k
  generalize cellC x = X at *
  generalize cellC y = Y at *
  generalize cellC z = Z at *
  have kp := fun k => r_around p 268435457 wp.1 wp.2 (by omega) (by omega) k
  have kq := fun k => r_around q 268435457 wq.1 wq.2 (by omega) (by omega) k
  have bp := around_bd p 268435457 (by omega)
  have bq := around_bd q 268435457 (by omega)
  generalize aroundF p 268435457 = P at *
  generalize aroundF q 268435457 = Q at *
  obtain ⟨U, hU⟩ : ∃ U, P - 134217728 = U := ⟨_, rfl⟩
  obtain ⟨V, hV⟩ : ∃ V, Q - 134217728 = V := ⟨_, rfl⟩
  have bU : -134217728 ≤ U ∧ U ≤ 134217728 := by omega
  have bV : -134217728 ≤ V ∧ V ≤ 134217728 := by omega
  have wU : IntKind.i64.wrap (P - 134217728) = U := by rw [IntWalk.i64_in _ (by omega)]; exact hU
  have wV : IntKind.i64.wrap (Q - 134217728) = V := by rw [IntWalk.i64_in _ (by omega)]; exact hV
  have cs := fun k => c3_beside U V bU bV k
  have rs := fun k => r3_beside U V bU bV k
  unfold besideV at cs
  obtain ⟨w0a, w0b, v0, hv0, z0, wv0⟩ := near_m X bX
  obtain ⟨w1a, w1b, v1, hv1, z1, wv1⟩ := near_p X bX
  obtain ⟨w2a, w2b, v2, hv2, z2, wv2⟩ := near_m Y bY
  obtain ⟨w3a, w3b, v3, hv3, z3, wv3⟩ := near_p Y bY
  obtain ⟨w4a, w4b, v4, hv4, z4, wv4⟩ := near_m Z bZ
  obtain ⟨w5a, w5b, v5, hv5, z5, wv5⟩ := near_p Z bZ
  have bXm := cellC_bd (X - 1)
  have bXp := cellC_bd (X + 1)
  have bYm := cellC_bd (Y - 1)
  have bYp := cellC_bd (Y + 1)
  have bZm := cellC_bd (Z - 1)
  have bZp := cellC_bd (Z + 1)
  have m0 := fun k => c3_near (cellC (X - 1)) (Y) (Z) k
  rw [cellC_in (n := cellC (X - 1)) bXm.1 bXm.2, cellC_in (n := Y) bY.1 bY.2, cellC_in (n := Z) bZ.1 bZ.2] at m0
  have m1 := fun k => c3_near (cellC (X + 1)) (Y) (Z) k
  rw [cellC_in (n := cellC (X + 1)) bXp.1 bXp.2, cellC_in (n := Y) bY.1 bY.2, cellC_in (n := Z) bZ.1 bZ.2] at m1
  have m2 := fun k => c3_near (X) (cellC (Y - 1)) (Z) k
  rw [cellC_in (n := X) bX.1 bX.2, cellC_in (n := cellC (Y - 1)) bYm.1 bYm.2, cellC_in (n := Z) bZ.1 bZ.2] at m2
  have m3 := fun k => c3_near (X) (cellC (Y + 1)) (Z) k
  rw [cellC_in (n := X) bX.1 bX.2, cellC_in (n := cellC (Y + 1)) bYp.1 bYp.2, cellC_in (n := Z) bZ.1 bZ.2] at m3
  have m4 := fun k => c3_near (X) (Y) (cellC (Z - 1)) k
  rw [cellC_in (n := X) bX.1 bX.2, cellC_in (n := Y) bY.1 bY.2, cellC_in (n := cellC (Z - 1)) bZm.1 bZm.2] at m4
  have m5 := fun k => c3_near (X) (Y) (cellC (Z + 1)) k
  rw [cellC_in (n := X) bX.1 bX.2, cellC_in (n := Y) bY.1 bY.2, cellC_in (n := cellC (Z + 1)) bZp.1 bZp.2] at m5
  unfold nearV at nr rn m0 m1 m2 m3 m4 m5
  generalize cellC (X - 1) = Xm at *
  generalize cellC (X + 1) = Xp at *
  generalize cellC (Y - 1) = Ym at *
  generalize cellC (Y + 1) = Yp at *
  generalize cellC (Z - 1) = Zm at *
  generalize cellC (Z + 1) = Zp at *
  generalize cellC (Xm + 1) = B0 at *
  generalize cellC (Xp - 1) = B1 at *
  generalize cellC (Ym + 1) = B2 at *
  generalize cellC (Yp - 1) = B3 at *
  generalize cellC (Zm + 1) = B4 at *
  generalize cellC (Zp - 1) = B5 at *
  generalize cellC (Xm - 1) = OXmm at *
  generalize cellC (Xp + 1) = OXpp at *
  generalize cellC (Ym - 1) = OYmm at *
  generalize cellC (Yp + 1) = OYpp at *
  generalize cellC (Zm - 1) = OZmm at *
  generalize cellC (Zp + 1) = OZpp at *
  clear hU hV bU bV bp bq bX bY bZ wp wq w0 bXm bXp bYm bYp bZm bZp
  have Z0 := Lib.hid z0
  have Z1 := Lib.hid z1
  have Z2 := Lib.hid z2
  have Z3 := Lib.hid z3
  have Z4 := Lib.hid z4
  have Z5 := Lib.hid z5
  clear z0 z1 z2 z3 z4 z5
  have Hcc := Lib.hid cc
  have Hnr := Lib.hid nr
  have Hrn := Lib.hid rn
  have Hkp := Lib.hid kp
  have Hkq := Lib.hid kq
  have Hcs := Lib.hid cs
  have Hrs := Lib.hid rs
  have Hm0 := Lib.hid m0
  have Hm1 := Lib.hid m1
  have Hm2 := Lib.hid m2
  have Hm3 := Lib.hid m3
  have Hm4 := Lib.hid m4
  have Hm5 := Lib.hid m5
  clear cc nr rn kp kq cs rs m0 m1 m2 m3 m4 m5
  have q3 := ne3c_run
  have q4 := eq3_self
  have u0 : IntKind.i64.wrap 0 = 0 := rfl
  have u1 : IntKind.i64.wrap 1 = 1 := rfl
  have u2 : IntKind.i64.wrap 2 = 2 := rfl
  have u3 : IntKind.i64.wrap 3 = 3 := rfl
  have u4 : IntKind.i64.wrap 4 = 4 := rfl
  have u5 : IntKind.i64.wrap 5 = 5 := rfl
  have u6 : IntKind.i64.wrap 6 = 6 := rfl
  have u7 : IntKind.i64.wrap 7 = 7 := rfl
  go_enter Try.func6, Try.ntmps6
  go_wp2_with fail
  have rb : RowAt (w.alloc (.cells #[.int .i64 x, .int .i64 y, .int .i64 z] 28)) (w.heap.size) #[.int .i64 x, .int .i64 y, .int .i64 z] 28 := RowAt.make _ _ _ (by simp)
  have rb : RowAt ((w.alloc (.cells #[.int .i64 x, .int .i64 y, .int .i64 z] 28)).alloc (.cells #[.int .i64 p, .int .i64 q] 38)) (w.heap.size) #[.int .i64 x, .int .i64 y, .int .i64 z] 28 := rb.alloc _
  have rc : RowAt ((w.alloc (.cells #[.int .i64 x, .int .i64 y, .int .i64 z] 28)).alloc (.cells #[.int .i64 p, .int .i64 q] 38)) (w.heap.size + 1) #[.int .i64 p, .int .i64 q] 38 := RowAt.make _ _ _ (by simp)
  have kw : Below w.heap.size w ((w.alloc (.cells #[.int .i64 x, .int .i64 y, .int .i64 z] 28)).alloc (.cells #[.int .i64 p, .int .i64 q] 38)) := by (repeat (first | with_reducible assumption | with_reducible exact Below.refl _ _ | with_reducible refine Below.drew ?_ | with_reducible refine below_drewN ?_ _ | with_reducible refine al ?_ _ | (with_reducible refine sc ?_ ?_; (focus (first | omega | (simp; done) | (simp; omega)))) | (with_reducible refine chain ?_ (by assumption))))
  generalize ((w.alloc (.cells #[.int .i64 x, .int .i64 y, .int .i64 z] 28)).alloc (.cells #[.int .i64 p, .int .i64 q] 38)) = W1 at *
  have cb : ∀ j, W1.cell? ⟨w.heap.size, j, none⟩ = (#[.int .i64 x, .int .i64 y, .int .i64 z] : Array Value)[j]? := rb.cell
  have fb : ∀ j, W1.frozen? ⟨w.heap.size, j, none⟩ = false := rb.frozen
  have zb : w.heap.size < W1.heap.size := rb.lt
  have cc : ∀ j, W1.cell? ⟨w.heap.size + 1, j, none⟩ = (#[.int .i64 p, .int .i64 q] : Array Value)[j]? := rc.cell
  have fc : ∀ j, W1.frozen? ⟨w.heap.size + 1, j, none⟩ = false := rc.frozen
  have zc : w.heap.size + 1 < W1.heap.size := rc.lt
  (refine (Hnr.out _).mono ?_; rintro e W2 ⟨rfl, hW2⟩)
  clear cb fb zb cc fc zc
  replace rb := rb.keep hW2
  replace rc := rc.keep hW2
  replace kw := kw.trans (hW2.mono kw.size)
  have cb : ∀ j, W2.cell? ⟨w.heap.size, j, none⟩ = (#[.int .i64 x, .int .i64 y, .int .i64 z] : Array Value)[j]? := rb.cell
  have fb : ∀ j, W2.frozen? ⟨w.heap.size, j, none⟩ = false := rb.frozen
  have zb : w.heap.size < W2.heap.size := rb.lt
  have cc : ∀ j, W2.cell? ⟨w.heap.size + 1, j, none⟩ = (#[.int .i64 p, .int .i64 q] : Array Value)[j]? := rc.cell
  have fc : ∀ j, W2.frozen? ⟨w.heap.size + 1, j, none⟩ = false := rc.frozen
  have zc : w.heap.size + 1 < W2.heap.size := rc.lt
  clear hW2
  have rnew : RowAt (W2.alloc (.cells #[.int .i64 0, .int .i64 0, .int .i64 0, .int .i64 0, .int .i64 0, .int .i64 0, .int .i64 0, .int .i64 0, .int .i64 0, .int .i64 0, .int .i64 0, .int .i64 0, .int .i64 0, .int .i64 0, .int .i64 0, .int .i64 0, .int .i64 0, .int .i64 0] 45)) W2.heap.size #[.int .i64 0, .int .i64 0, .int .i64 0, .int .i64 0, .int .i64 0, .int .i64 0, .int .i64 0, .int .i64 0, .int .i64 0, .int .i64 0, .int .i64 0, .int .i64 0, .int .i64 0, .int .i64 0, .int .i64 0, .int .i64 0, .int .i64 0, .int .i64 0] 45 := RowAt.new _ _ _
  go_upto_region 2 with (refine wpList_store_row rfl 45 _ _ rfl W2.heap.size #[.int .i64 Xm, .int .i64 Y, .int .i64 Z, .int .i64 Xp, .int .i64 Y, .int .i64 Z, .int .i64 X, .int .i64 Ym, .int .i64 Z, .int .i64 X, .int .i64 Yp, .int .i64 Z, .int .i64 X, .int .i64 Y, .int .i64 Zm, .int .i64 X, .int .i64 Y, .int .i64 Zp] rfl rfl _ _ rnew i45 rfl (by simp [Value.oneCell']) ?_)
  have ylb : w.heap.size < W2.heap.size := zb
  have ylc : w.heap.size + 1 < W2.heap.size := zc
  replace kw : Below w.heap.size w ((W2.alloc (.cells #[.int .i64 0, .int .i64 0, .int .i64 0, .int .i64 0, .int .i64 0, .int .i64 0, .int .i64 0, .int .i64 0, .int .i64 0, .int .i64 0, .int .i64 0, .int .i64 0, .int .i64 0, .int .i64 0, .int .i64 0, .int .i64 0, .int .i64 0, .int .i64 0] 45)).setRow W2.heap.size #[.int .i64 Xm, .int .i64 Y, .int .i64 Z, .int .i64 Xp, .int .i64 Y, .int .i64 Z, .int .i64 X, .int .i64 Ym, .int .i64 Z, .int .i64 X, .int .i64 Yp, .int .i64 Z, .int .i64 X, .int .i64 Y, .int .i64 Zm, .int .i64 X, .int .i64 Y, .int .i64 Zp]) := below_setRow (al kw _) kw.size _
  replace rb : RowAt ((W2.alloc (.cells #[.int .i64 0, .int .i64 0, .int .i64 0, .int .i64 0, .int .i64 0, .int .i64 0, .int .i64 0, .int .i64 0, .int .i64 0, .int .i64 0, .int .i64 0, .int .i64 0, .int .i64 0, .int .i64 0, .int .i64 0, .int .i64 0, .int .i64 0, .int .i64 0] 45)).setRow W2.heap.size #[.int .i64 Xm, .int .i64 Y, .int .i64 Z, .int .i64 Xp, .int .i64 Y, .int .i64 Z, .int .i64 X, .int .i64 Ym, .int .i64 Z, .int .i64 X, .int .i64 Yp, .int .i64 Z, .int .i64 X, .int .i64 Y, .int .i64 Zm, .int .i64 X, .int .i64 Y, .int .i64 Zp]) (w.heap.size) #[.int .i64 x, .int .i64 y, .int .i64 z] 28 := (rb.alloc _).row_other (Nat.ne_of_lt ylb) _
  replace rc : RowAt ((W2.alloc (.cells #[.int .i64 0, .int .i64 0, .int .i64 0, .int .i64 0, .int .i64 0, .int .i64 0, .int .i64 0, .int .i64 0, .int .i64 0, .int .i64 0, .int .i64 0, .int .i64 0, .int .i64 0, .int .i64 0, .int .i64 0, .int .i64 0, .int .i64 0, .int .i64 0] 45)).setRow W2.heap.size #[.int .i64 Xm, .int .i64 Y, .int .i64 Z, .int .i64 Xp, .int .i64 Y, .int .i64 Z, .int .i64 X, .int .i64 Ym, .int .i64 Z, .int .i64 X, .int .i64 Yp, .int .i64 Z, .int .i64 X, .int .i64 Y, .int .i64 Zm, .int .i64 X, .int .i64 Y, .int .i64 Zp]) (w.heap.size + 1) #[.int .i64 p, .int .i64 q] 38 := (rc.alloc _).row_other (Nat.ne_of_lt ylc) _
  clear cb fb zb cc fc zc
  have rl : RowAt ((W2.alloc (.cells #[.int .i64 0, .int .i64 0, .int .i64 0, .int .i64 0, .int .i64 0, .int .i64 0, .int .i64 0, .int .i64 0, .int .i64 0, .int .i64 0, .int .i64 0, .int .i64 0, .int .i64 0, .int .i64 0, .int .i64 0, .int .i64 0, .int .i64 0, .int .i64 0] 45)).setRow W2.heap.size #[.int .i64 Xm, .int .i64 Y, .int .i64 Z, .int .i64 Xp, .int .i64 Y, .int .i64 Z, .int .i64 X, .int .i64 Ym, .int .i64 Z, .int .i64 X, .int .i64 Yp, .int .i64 Z, .int .i64 X, .int .i64 Y, .int .i64 Zm, .int .i64 X, .int .i64 Y, .int .i64 Zp]) (W2.heap.size) #[.int .i64 Xm, .int .i64 Y, .int .i64 Z, .int .i64 Xp, .int .i64 Y, .int .i64 Z, .int .i64 X, .int .i64 Ym, .int .i64 Z, .int .i64 X, .int .i64 Yp, .int .i64 Z, .int .i64 X, .int .i64 Y, .int .i64 Zm, .int .i64 X, .int .i64 Y, .int .i64 Zp] 45 := rnew.row _
  clear rnew
  generalize ((W2.alloc (.cells #[.int .i64 0, .int .i64 0, .int .i64 0, .int .i64 0, .int .i64 0, .int .i64 0, .int .i64 0, .int .i64 0, .int .i64 0, .int .i64 0, .int .i64 0, .int .i64 0, .int .i64 0, .int .i64 0, .int .i64 0, .int .i64 0, .int .i64 0, .int .i64 0] 45)).setRow W2.heap.size #[.int .i64 Xm, .int .i64 Y, .int .i64 Z, .int .i64 Xp, .int .i64 Y, .int .i64 Z, .int .i64 X, .int .i64 Ym, .int .i64 Z, .int .i64 X, .int .i64 Yp, .int .i64 Z, .int .i64 X, .int .i64 Y, .int .i64 Zm, .int .i64 X, .int .i64 Y, .int .i64 Zp]) = W3 at *
  have cb : ∀ j, W3.cell? ⟨w.heap.size, j, none⟩ = (#[.int .i64 x, .int .i64 y, .int .i64 z] : Array Value)[j]? := rb.cell
  have fb : ∀ j, W3.frozen? ⟨w.heap.size, j, none⟩ = false := rb.frozen
  have zb : w.heap.size < W3.heap.size := rb.lt
  have cc : ∀ j, W3.cell? ⟨w.heap.size + 1, j, none⟩ = (#[.int .i64 p, .int .i64 q] : Array Value)[j]? := rc.cell
  have fc : ∀ j, W3.frozen? ⟨w.heap.size + 1, j, none⟩ = false := rc.frozen
  have zc : w.heap.size + 1 < W3.heap.size := rc.lt
  have cl : ∀ j, W3.cell? ⟨W2.heap.size, j, none⟩ = (#[.int .i64 Xm, .int .i64 Y, .int .i64 Z, .int .i64 Xp, .int .i64 Y, .int .i64 Z, .int .i64 X, .int .i64 Ym, .int .i64 Z, .int .i64 X, .int .i64 Yp, .int .i64 Z, .int .i64 X, .int .i64 Y, .int .i64 Zm, .int .i64 X, .int .i64 Y, .int .i64 Zp] : Array Value)[j]? := rl.cell
  have fl : ∀ j, W3.frozen? ⟨W2.heap.size, j, none⟩ = false := rl.frozen
  have zl : W2.heap.size < W3.heap.size := rl.lt
  refine region_alloc 9 6 (.cells #[.int .i64 0, .int .i64 0] 38) _ _ (by kernel_rfl) (by kernel_rfl) rfl (fun _ _ => by go_simp) ?_
  simp only [List.take_succ_cons, List.take_zero]
  repeat (first | (refine' InText.skip (by rfl) ?_; simp only [Act.put, List.setIfInBounds_toArray, List.set_cons_zero, List.set_cons_succ]) | (refine' InText.val (by rfl) (fun wr hr => ?_) ?_; rotate_left 1; (focus (obtain ⟨hrc, hrf⟩ := bcell hr; (go_simp <;> with_reducible rfl); done)); simp only [Act.put, List.setIfInBounds_toArray, List.set_cons_zero, List.set_cons_succ]) | (refine' InText.call (by rfl) (fun wr hr => ?_) (fun wr hr => ?_) ?_; rotate_left 3; (focus ((go_simp <;> (first | with_reducible rfl | exact ⟨rfl, rfl⟩)); done)); (focus (first | with_reducible exact pureB (Hkp.out _) | with_reducible exact pureB (Hkq.out _))); simp only [Act.put, List.setIfInBounds_toArray, List.set_cons_zero, List.set_cons_succ]))
  refine fun wv1 wr1 hv1 hr1 => ?_
  simp only [Act.put, List.setIfInBounds_toArray, List.set_cons_zero, List.set_cons_succ]
  have yob : w.heap.size < wv1.heap.size := (rb.keep hv1).lt
  have yoc : w.heap.size + 1 < wv1.heap.size := (rc.keep hv1).lt
  have yol : W2.heap.size < wv1.heap.size := (rl.keep hv1).lt
  clear cb fb zb cc fc zc cl fl zl
  replace rb := ((rb.keep hv1).alloc _).keep hr1
  replace rc := ((rc.keep hv1).alloc _).keep hr1
  replace rl := ((rl.keep hv1).alloc _).keep hr1
  have ro : RowAt wr1 (wv1.heap.size) #[.int .i64 0, .int .i64 0] 38 := (RowAt.new wv1 _ _).keep hr1
  replace kw : Below w.heap.size w wr1 := kw.trans ((chain (al hv1 _) hr1).mono kw.size)
  clear hv1 hr1
  have cb : ∀ j, wr1.cell? ⟨w.heap.size, j, none⟩ = (#[.int .i64 x, .int .i64 y, .int .i64 z] : Array Value)[j]? := rb.cell
  have fb : ∀ j, wr1.frozen? ⟨w.heap.size, j, none⟩ = false := rb.frozen
  have zb : w.heap.size < wr1.heap.size := rb.lt
  have cc : ∀ j, wr1.cell? ⟨w.heap.size + 1, j, none⟩ = (#[.int .i64 p, .int .i64 q] : Array Value)[j]? := rc.cell
  have fc : ∀ j, wr1.frozen? ⟨w.heap.size + 1, j, none⟩ = false := rc.frozen
  have zc : w.heap.size + 1 < wr1.heap.size := rc.lt
  have cl : ∀ j, wr1.cell? ⟨W2.heap.size, j, none⟩ = (#[.int .i64 Xm, .int .i64 Y, .int .i64 Z, .int .i64 Xp, .int .i64 Y, .int .i64 Z, .int .i64 X, .int .i64 Ym, .int .i64 Z, .int .i64 X, .int .i64 Yp, .int .i64 Z, .int .i64 X, .int .i64 Y, .int .i64 Zm, .int .i64 X, .int .i64 Y, .int .i64 Zp] : Array Value)[j]? := rl.cell
  have fl : ∀ j, wr1.frozen? ⟨W2.heap.size, j, none⟩ = false := rl.frozen
  have zl : W2.heap.size < wr1.heap.size := rl.lt
  have co : ∀ j, wr1.cell? ⟨wv1.heap.size, j, none⟩ = (#[.int .i64 0, .int .i64 0] : Array Value)[j]? := ro.cell
  have fo : ∀ j, wr1.frozen? ⟨wv1.heap.size, j, none⟩ = false := ro.frozen
  have zo : wv1.heap.size < wr1.heap.size := ro.lt
  go_wp2_with fail
  replace kw : Below w.heap.size w ((wr1.setCell ⟨wv1.heap.size, 0, none⟩ (.int .i64 U)).setCell ⟨wv1.heap.size, 1, none⟩ (.int .i64 V)) := by (repeat (first | with_reducible assumption | with_reducible exact Below.refl _ _ | with_reducible refine Below.drew ?_ | with_reducible refine below_drewN ?_ _ | with_reducible refine al ?_ _ | (with_reducible refine sc ?_ ?_; (focus (first | omega | (simp; done) | (simp; omega)))) | (with_reducible refine chain ?_ (by assumption))))
  replace rb : RowAt ((wr1.setCell ⟨wv1.heap.size, 0, none⟩ (.int .i64 U)).setCell ⟨wv1.heap.size, 1, none⟩ (.int .i64 V)) (w.heap.size) #[.int .i64 x, .int .i64 y, .int .i64 z] 28 := ((rb.other (p := ⟨wv1.heap.size, 0, none⟩) (by first | omega | (simp; done) | (simp; omega)) (.int .i64 U)).other (p := ⟨wv1.heap.size, 1, none⟩) (by first | omega | (simp; done) | (simp; omega)) (.int .i64 V))
  replace rc : RowAt ((wr1.setCell ⟨wv1.heap.size, 0, none⟩ (.int .i64 U)).setCell ⟨wv1.heap.size, 1, none⟩ (.int .i64 V)) (w.heap.size + 1) #[.int .i64 p, .int .i64 q] 38 := ((rc.other (p := ⟨wv1.heap.size, 0, none⟩) (by first | omega | (simp; done) | (simp; omega)) (.int .i64 U)).other (p := ⟨wv1.heap.size, 1, none⟩) (by first | omega | (simp; done) | (simp; omega)) (.int .i64 V))
  replace rl : RowAt ((wr1.setCell ⟨wv1.heap.size, 0, none⟩ (.int .i64 U)).setCell ⟨wv1.heap.size, 1, none⟩ (.int .i64 V)) (W2.heap.size) #[.int .i64 Xm, .int .i64 Y, .int .i64 Z, .int .i64 Xp, .int .i64 Y, .int .i64 Z, .int .i64 X, .int .i64 Ym, .int .i64 Z, .int .i64 X, .int .i64 Yp, .int .i64 Z, .int .i64 X, .int .i64 Y, .int .i64 Zm, .int .i64 X, .int .i64 Y, .int .i64 Zp] 45 := ((rl.other (p := ⟨wv1.heap.size, 0, none⟩) (by first | omega | (simp; done) | (simp; omega)) (.int .i64 U)).other (p := ⟨wv1.heap.size, 1, none⟩) (by first | omega | (simp; done) | (simp; omega)) (.int .i64 V))
  replace ro : RowAt ((wr1.setCell ⟨wv1.heap.size, 0, none⟩ (.int .i64 U)).setCell ⟨wv1.heap.size, 1, none⟩ (.int .i64 V)) (wv1.heap.size) #[.int .i64 U, .int .i64 V] 38 := ((ro.set 0 (.int .i64 U)).set 1 (.int .i64 V))
  clear cb fb zb cc fc zc cl fl zl co fo zo
  generalize ((wr1.setCell ⟨wv1.heap.size, 0, none⟩ (.int .i64 U)).setCell ⟨wv1.heap.size, 1, none⟩ (.int .i64 V)) = W4 at *
  have cb : ∀ j, W4.cell? ⟨w.heap.size, j, none⟩ = (#[.int .i64 x, .int .i64 y, .int .i64 z] : Array Value)[j]? := rb.cell
  have fb : ∀ j, W4.frozen? ⟨w.heap.size, j, none⟩ = false := rb.frozen
  have zb : w.heap.size < W4.heap.size := rb.lt
  have cc : ∀ j, W4.cell? ⟨w.heap.size + 1, j, none⟩ = (#[.int .i64 p, .int .i64 q] : Array Value)[j]? := rc.cell
  have fc : ∀ j, W4.frozen? ⟨w.heap.size + 1, j, none⟩ = false := rc.frozen
  have zc : w.heap.size + 1 < W4.heap.size := rc.lt
  have cl : ∀ j, W4.cell? ⟨W2.heap.size, j, none⟩ = (#[.int .i64 Xm, .int .i64 Y, .int .i64 Z, .int .i64 Xp, .int .i64 Y, .int .i64 Z, .int .i64 X, .int .i64 Ym, .int .i64 Z, .int .i64 X, .int .i64 Yp, .int .i64 Z, .int .i64 X, .int .i64 Y, .int .i64 Zm, .int .i64 X, .int .i64 Y, .int .i64 Zp] : Array Value)[j]? := rl.cell
  have fl : ∀ j, W4.frozen? ⟨W2.heap.size, j, none⟩ = false := rl.frozen
  have zl : W2.heap.size < W4.heap.size := rl.lt
  have co : ∀ j, W4.cell? ⟨wv1.heap.size, j, none⟩ = (#[.int .i64 U, .int .i64 V] : Array Value)[j]? := ro.cell
  have fo : ∀ j, W4.frozen? ⟨wv1.heap.size, j, none⟩ = false := ro.frozen
  have zo : wv1.heap.size < W4.heap.size := ro.lt
  refine region_below 10 (by kernel_rfl) (by kernel_rfl) ?_
  simp only [List.take_succ_cons, List.take_zero, List.drop_succ_cons, List.drop_zero]
  repeat (first | (refine' InText.skip (by rfl) ?_; simp only [Act.put, List.setIfInBounds_toArray, List.set_cons_zero, List.set_cons_succ]) | (refine' InText.val (by rfl) (fun wr hr => exec_load_row 45 (.tmp 5) rfl rfl (rl.keep hr) Try.underlying45 rfl i45) ?_; simp only [Act.put, List.setIfInBounds_toArray, List.set_cons_zero, List.set_cons_succ]) | (refine' InText.val (by rfl) (fun wr hr => exec_neq_self 45 (.tmp 22) (.tmp 24) rfl rfl rfl Try.eqGuardType45 (ne6_self _ _ _ _ _ _ _ _ _ _ _ _ _ _ _ _ _ _ wr)) ?_; simp only [Act.put, List.setIfInBounds_toArray, List.set_cons_zero, List.set_cons_succ]) | (refine' InText.val (by rfl) (fun wr hr => exec_neq_self 47 (.tmp 28) (.tmp 30) rfl rfl rfl Try.eqGuardType47 (ne5_self _ _ _ _ _ _ _ _ _ _ wr)) ?_; simp only [Act.put, List.setIfInBounds_toArray, List.set_cons_zero, List.set_cons_succ]) | (refine' InText.val (by rfl) (fun wr hr => ?_) ?_; rotate_left 1; (focus (obtain ⟨hrc, hrf⟩ := bcell hr; (go_simp <;> with_reducible rfl); done)); simp only [Act.put, List.setIfInBounds_toArray, List.set_cons_zero, List.set_cons_succ]) | (refine' InText.call (by rfl) (fun wr hr => ?_) (fun wr hr => ?_) ?_; rotate_left 3; (focus ((go_simp <;> (first | with_reducible rfl | exact ⟨rfl, rfl⟩)); done)); (focus (first | with_reducible exact Hrn.out _ | with_reducible exact Hcs.out _ | with_reducible exact Hrs.out _)); simp only [Act.put, List.setIfInBounds_toArray, List.set_cons_zero, List.set_cons_succ]))
  refine fun wrs hrs => ?_
  obtain ⟨hrcs, hrfs⟩ := bcell hrs
  clear cb fb zb cc fc zc cl fl zl co fo zo
  replace rb := rb.keep hrs
  replace rc := rc.keep hrs
  replace rl := rl.keep hrs
  replace ro := ro.keep hrs
  replace kw := kw.trans (hrs.mono kw.size)
  have cb : ∀ j, wrs.cell? ⟨w.heap.size, j, none⟩ = (#[.int .i64 x, .int .i64 y, .int .i64 z] : Array Value)[j]? := rb.cell
  have fb : ∀ j, wrs.frozen? ⟨w.heap.size, j, none⟩ = false := rb.frozen
  have zb : w.heap.size < wrs.heap.size := rb.lt
  have cc : ∀ j, wrs.cell? ⟨w.heap.size + 1, j, none⟩ = (#[.int .i64 p, .int .i64 q] : Array Value)[j]? := rc.cell
  have fc : ∀ j, wrs.frozen? ⟨w.heap.size + 1, j, none⟩ = false := rc.frozen
  have zc : w.heap.size + 1 < wrs.heap.size := rc.lt
  have cl : ∀ j, wrs.cell? ⟨W2.heap.size, j, none⟩ = (#[.int .i64 Xm, .int .i64 Y, .int .i64 Z, .int .i64 Xp, .int .i64 Y, .int .i64 Z, .int .i64 X, .int .i64 Ym, .int .i64 Z, .int .i64 X, .int .i64 Yp, .int .i64 Z, .int .i64 X, .int .i64 Y, .int .i64 Zm, .int .i64 X, .int .i64 Y, .int .i64 Zp] : Array Value)[j]? := rl.cell
  have fl : ∀ j, wrs.frozen? ⟨W2.heap.size, j, none⟩ = false := rl.frozen
  have zl : W2.heap.size < wrs.heap.size := rl.lt
  have co : ∀ j, wrs.cell? ⟨wv1.heap.size, j, none⟩ = (#[.int .i64 U, .int .i64 V] : Array Value)[j]? := ro.cell
  have fo : ∀ j, wrs.frozen? ⟨wv1.heap.size, j, none⟩ = false := ro.frozen
  have zo : wv1.heap.size < wrs.heap.size := ro.lt
  clear hrs hrcs hrfs
  go_wp2_with fail
  (refine (Hcc.out _).mono ?_; rintro e W5 ⟨rfl, hW5⟩)
  clear cb fb zb cc fc zc cl fl zl co fo zo
  replace rb := rb.keep hW5
  replace rc := rc.keep hW5
  replace rl := rl.keep hW5
  replace ro := ro.keep hW5
  replace kw := kw.trans (hW5.mono kw.size)
  have cb : ∀ j, W5.cell? ⟨w.heap.size, j, none⟩ = (#[.int .i64 x, .int .i64 y, .int .i64 z] : Array Value)[j]? := rb.cell
  have fb : ∀ j, W5.frozen? ⟨w.heap.size, j, none⟩ = false := rb.frozen
  have zb : w.heap.size < W5.heap.size := rb.lt
  have cc : ∀ j, W5.cell? ⟨w.heap.size + 1, j, none⟩ = (#[.int .i64 p, .int .i64 q] : Array Value)[j]? := rc.cell
  have fc : ∀ j, W5.frozen? ⟨w.heap.size + 1, j, none⟩ = false := rc.frozen
  have zc : w.heap.size + 1 < W5.heap.size := rc.lt
  have cl : ∀ j, W5.cell? ⟨W2.heap.size, j, none⟩ = (#[.int .i64 Xm, .int .i64 Y, .int .i64 Z, .int .i64 Xp, .int .i64 Y, .int .i64 Z, .int .i64 X, .int .i64 Ym, .int .i64 Z, .int .i64 X, .int .i64 Yp, .int .i64 Z, .int .i64 X, .int .i64 Y, .int .i64 Zm, .int .i64 X, .int .i64 Y, .int .i64 Zp] : Array Value)[j]? := rl.cell
  have fl : ∀ j, W5.frozen? ⟨W2.heap.size, j, none⟩ = false := rl.frozen
  have zl : W2.heap.size < W5.heap.size := rl.lt
  have co : ∀ j, W5.cell? ⟨wv1.heap.size, j, none⟩ = (#[.int .i64 U, .int .i64 V] : Array Value)[j]? := ro.cell
  have fo : ∀ j, W5.frozen? ⟨wv1.heap.size, j, none⟩ = false := ro.frozen
  have zo : wv1.heap.size < W5.heap.size := ro.lt
  clear hW5
  go_upto_region 6 with (fail)
  have ydb : w.heap.size < W5.heap.size := by omega
  have ydc : w.heap.size + 1 < W5.heap.size := by omega
  have ydl : W2.heap.size < W5.heap.size := by omega
  have ydo : wv1.heap.size < W5.heap.size := by omega
  replace kw : Below w.heap.size w (W5.alloc (.cells #[.int .i64 X, .int .i64 Y, .int .i64 Z] 28)) := by (repeat (first | with_reducible assumption | with_reducible exact Below.refl _ _ | with_reducible refine Below.drew ?_ | with_reducible refine below_drewN ?_ _ | with_reducible refine al ?_ _ | (with_reducible refine sc ?_ ?_; (focus (first | omega | (simp; done) | (simp; omega)))) | (with_reducible refine chain ?_ (by assumption))))
  replace rb : RowAt (W5.alloc (.cells #[.int .i64 X, .int .i64 Y, .int .i64 Z] 28)) (w.heap.size) #[.int .i64 x, .int .i64 y, .int .i64 z] 28 := (rb.alloc _)
  replace rc : RowAt (W5.alloc (.cells #[.int .i64 X, .int .i64 Y, .int .i64 Z] 28)) (w.heap.size + 1) #[.int .i64 p, .int .i64 q] 38 := (rc.alloc _)
  replace rl : RowAt (W5.alloc (.cells #[.int .i64 X, .int .i64 Y, .int .i64 Z] 28)) (W2.heap.size) #[.int .i64 Xm, .int .i64 Y, .int .i64 Z, .int .i64 Xp, .int .i64 Y, .int .i64 Z, .int .i64 X, .int .i64 Ym, .int .i64 Z, .int .i64 X, .int .i64 Yp, .int .i64 Z, .int .i64 X, .int .i64 Y, .int .i64 Zm, .int .i64 X, .int .i64 Y, .int .i64 Zp] 45 := (rl.alloc _)
  replace ro : RowAt (W5.alloc (.cells #[.int .i64 X, .int .i64 Y, .int .i64 Z] 28)) (wv1.heap.size) #[.int .i64 U, .int .i64 V] 38 := (ro.alloc _)
  have rd : RowAt (W5.alloc (.cells #[.int .i64 X, .int .i64 Y, .int .i64 Z] 28)) (W5.heap.size) #[.int .i64 X, .int .i64 Y, .int .i64 Z] 28 := (RowAt.make _ _ _ (by first | rfl | (simp [World.setCell]; done)))
  clear cb fb zb cc fc zc cl fl zl co fo zo
  generalize (W5.alloc (.cells #[.int .i64 X, .int .i64 Y, .int .i64 Z] 28)) = W6 at *
  have cb : ∀ j, W6.cell? ⟨w.heap.size, j, none⟩ = (#[.int .i64 x, .int .i64 y, .int .i64 z] : Array Value)[j]? := rb.cell
  have fb : ∀ j, W6.frozen? ⟨w.heap.size, j, none⟩ = false := rb.frozen
  have zb : w.heap.size < W6.heap.size := rb.lt
  have cc : ∀ j, W6.cell? ⟨w.heap.size + 1, j, none⟩ = (#[.int .i64 p, .int .i64 q] : Array Value)[j]? := rc.cell
  have fc : ∀ j, W6.frozen? ⟨w.heap.size + 1, j, none⟩ = false := rc.frozen
  have zc : w.heap.size + 1 < W6.heap.size := rc.lt
  have cl : ∀ j, W6.cell? ⟨W2.heap.size, j, none⟩ = (#[.int .i64 Xm, .int .i64 Y, .int .i64 Z, .int .i64 Xp, .int .i64 Y, .int .i64 Z, .int .i64 X, .int .i64 Ym, .int .i64 Z, .int .i64 X, .int .i64 Yp, .int .i64 Z, .int .i64 X, .int .i64 Y, .int .i64 Zm, .int .i64 X, .int .i64 Y, .int .i64 Zp] : Array Value)[j]? := rl.cell
  have fl : ∀ j, W6.frozen? ⟨W2.heap.size, j, none⟩ = false := rl.frozen
  have zl : W2.heap.size < W6.heap.size := rl.lt
  have co : ∀ j, W6.cell? ⟨wv1.heap.size, j, none⟩ = (#[.int .i64 U, .int .i64 V] : Array Value)[j]? := ro.cell
  have fo : ∀ j, W6.frozen? ⟨wv1.heap.size, j, none⟩ = false := ro.frozen
  have zo : wv1.heap.size < W6.heap.size := ro.lt
  have cd : ∀ j, W6.cell? ⟨W5.heap.size, j, none⟩ = (#[.int .i64 X, .int .i64 Y, .int .i64 Z] : Array Value)[j]? := rd.cell
  have fd : ∀ j, W6.frozen? ⟨W5.heap.size, j, none⟩ = false := rd.frozen
  have zd : W5.heap.size < W6.heap.size := rd.lt
  go_wp2_with fail
  go_loopw [8] (fun i wr => ∃ k : Nat, k ≤ 6 ∧ i = .int .i64 k ∧ Below w.heap.size w wr ∧ RowAt wr (w.heap.size) #[.int .i64 x, .int .i64 y, .int .i64 z] 28 ∧ RowAt wr (W2.heap.size) #[.int .i64 Xm, .int .i64 Y, .int .i64 Z, .int .i64 Xp, .int .i64 Y, .int .i64 Z, .int .i64 X, .int .i64 Ym, .int .i64 Z, .int .i64 X, .int .i64 Yp, .int .i64 Z, .int .i64 X, .int .i64 Y, .int .i64 Zm, .int .i64 X, .int .i64 Y, .int .i64 Zp] 45 ∧ RowAt wr (W5.heap.size) #[.int .i64 X, .int .i64 Y, .int .i64 Z] 28) (fun i _ => 6 - (intOf i).toNat)
  case atStart =>
    exact ⟨0, by omega, rfl, kw, rb, rl, rd⟩
  case round =>
    clear kw rb rc rl ro rd cb fb zb cc fc zc cl fl zl co fo zo cd fd zd
    obtain ⟨k, hk, rfl, kw, rb, rl, rd⟩ := hrel
    by_cases hlt : k < 6
    · rcases (show k = 0 ∨ k = 1 ∨ k = 2 ∨ k = 3 ∨ k = 4 ∨ k = 5 by omega) with rfl | rfl | rfl | rfl | rfl | rfl
      · have cb : ∀ j, wr.cell? ⟨w.heap.size, j, none⟩ = (#[.int .i64 x, .int .i64 y, .int .i64 z] : Array Value)[j]? := rb.cell
        have fb : ∀ j, wr.frozen? ⟨w.heap.size, j, none⟩ = false := rb.frozen
        have zb : w.heap.size < wr.heap.size := rb.lt
        have cl : ∀ j, wr.cell? ⟨W2.heap.size, j, none⟩ = (#[.int .i64 Xm, .int .i64 Y, .int .i64 Z, .int .i64 Xp, .int .i64 Y, .int .i64 Z, .int .i64 X, .int .i64 Ym, .int .i64 Z, .int .i64 X, .int .i64 Yp, .int .i64 Z, .int .i64 X, .int .i64 Y, .int .i64 Zm, .int .i64 X, .int .i64 Y, .int .i64 Zp] : Array Value)[j]? := rl.cell
        have fl : ∀ j, wr.frozen? ⟨W2.heap.size, j, none⟩ = false := rl.frozen
        have zl : W2.heap.size < wr.heap.size := rl.lt
        have cd : ∀ j, wr.cell? ⟨W5.heap.size, j, none⟩ = (#[.int .i64 X, .int .i64 Y, .int .i64 Z] : Array Value)[j]? := rd.cell
        have fd : ∀ j, wr.frozen? ⟨W5.heap.size, j, none⟩ = false := rd.frozen
        have zd : W5.heap.size < wr.heap.size := rd.lt
        go_wp2_with fail
        (refine (Hm0.out _).mono ?_; rintro e W21 ⟨rfl, hW21⟩)
        clear cb fb zb cl fl zl cd fd zd
        replace rb := rb.keep hW21
        replace rl := rl.keep hW21
        replace rd := rd.keep hW21
        replace kw := kw.trans (hW21.mono kw.size)
        have cb : ∀ j, W21.cell? ⟨w.heap.size, j, none⟩ = (#[.int .i64 x, .int .i64 y, .int .i64 z] : Array Value)[j]? := rb.cell
        have fb : ∀ j, W21.frozen? ⟨w.heap.size, j, none⟩ = false := rb.frozen
        have zb : w.heap.size < W21.heap.size := rb.lt
        have cl : ∀ j, W21.cell? ⟨W2.heap.size, j, none⟩ = (#[.int .i64 Xm, .int .i64 Y, .int .i64 Z, .int .i64 Xp, .int .i64 Y, .int .i64 Z, .int .i64 X, .int .i64 Ym, .int .i64 Z, .int .i64 X, .int .i64 Yp, .int .i64 Z, .int .i64 X, .int .i64 Y, .int .i64 Zm, .int .i64 X, .int .i64 Y, .int .i64 Zp] : Array Value)[j]? := rl.cell
        have fl : ∀ j, W21.frozen? ⟨W2.heap.size, j, none⟩ = false := rl.frozen
        have zl : W2.heap.size < W21.heap.size := rl.lt
        have cd : ∀ j, W21.cell? ⟨W5.heap.size, j, none⟩ = (#[.int .i64 X, .int .i64 Y, .int .i64 Z] : Array Value)[j]? := rd.cell
        have fd : ∀ j, W21.frozen? ⟨W5.heap.size, j, none⟩ = false := rd.frozen
        have zd : W5.heap.size < W21.heap.size := rd.lt
        clear hW21
        have rnew : RowAt (W21.alloc (.cells #[.int .i64 0, .int .i64 0, .int .i64 0, .int .i64 0, .int .i64 0, .int .i64 0, .int .i64 0, .int .i64 0, .int .i64 0, .int .i64 0, .int .i64 0, .int .i64 0, .int .i64 0, .int .i64 0, .int .i64 0, .int .i64 0, .int .i64 0, .int .i64 0] 45)) W21.heap.size #[.int .i64 0, .int .i64 0, .int .i64 0, .int .i64 0, .int .i64 0, .int .i64 0, .int .i64 0, .int .i64 0, .int .i64 0, .int .i64 0, .int .i64 0, .int .i64 0, .int .i64 0, .int .i64 0, .int .i64 0, .int .i64 0, .int .i64 0, .int .i64 0] 45 := RowAt.new _ _ _
        go_upto_region 10 with (refine wpList_store_row rfl 45 _ _ rfl W21.heap.size #[.int .i64 OXmm, .int .i64 Y, .int .i64 Z, .int .i64 B0, .int .i64 Y, .int .i64 Z, .int .i64 Xm, .int .i64 Ym, .int .i64 Z, .int .i64 Xm, .int .i64 Yp, .int .i64 Z, .int .i64 Xm, .int .i64 Y, .int .i64 Zm, .int .i64 Xm, .int .i64 Y, .int .i64 Zp] rfl rfl _ _ rnew i45 rfl (by simp [Value.oneCell']) ?_)
        have ynb : w.heap.size < W21.heap.size := zb
        have ynl : W2.heap.size < W21.heap.size := zl
        have ynd : W5.heap.size < W21.heap.size := zd
        replace kw : Below w.heap.size w ((W21.alloc (.cells #[.int .i64 0, .int .i64 0, .int .i64 0, .int .i64 0, .int .i64 0, .int .i64 0, .int .i64 0, .int .i64 0, .int .i64 0, .int .i64 0, .int .i64 0, .int .i64 0, .int .i64 0, .int .i64 0, .int .i64 0, .int .i64 0, .int .i64 0, .int .i64 0] 45)).setRow W21.heap.size #[.int .i64 OXmm, .int .i64 Y, .int .i64 Z, .int .i64 B0, .int .i64 Y, .int .i64 Z, .int .i64 Xm, .int .i64 Ym, .int .i64 Z, .int .i64 Xm, .int .i64 Yp, .int .i64 Z, .int .i64 Xm, .int .i64 Y, .int .i64 Zm, .int .i64 Xm, .int .i64 Y, .int .i64 Zp]) := below_setRow (al kw _) kw.size _
        replace rb : RowAt ((W21.alloc (.cells #[.int .i64 0, .int .i64 0, .int .i64 0, .int .i64 0, .int .i64 0, .int .i64 0, .int .i64 0, .int .i64 0, .int .i64 0, .int .i64 0, .int .i64 0, .int .i64 0, .int .i64 0, .int .i64 0, .int .i64 0, .int .i64 0, .int .i64 0, .int .i64 0] 45)).setRow W21.heap.size #[.int .i64 OXmm, .int .i64 Y, .int .i64 Z, .int .i64 B0, .int .i64 Y, .int .i64 Z, .int .i64 Xm, .int .i64 Ym, .int .i64 Z, .int .i64 Xm, .int .i64 Yp, .int .i64 Z, .int .i64 Xm, .int .i64 Y, .int .i64 Zm, .int .i64 Xm, .int .i64 Y, .int .i64 Zp]) (w.heap.size) #[.int .i64 x, .int .i64 y, .int .i64 z] 28 := (rb.alloc _).row_other (Nat.ne_of_lt ynb) _
        replace rl : RowAt ((W21.alloc (.cells #[.int .i64 0, .int .i64 0, .int .i64 0, .int .i64 0, .int .i64 0, .int .i64 0, .int .i64 0, .int .i64 0, .int .i64 0, .int .i64 0, .int .i64 0, .int .i64 0, .int .i64 0, .int .i64 0, .int .i64 0, .int .i64 0, .int .i64 0, .int .i64 0] 45)).setRow W21.heap.size #[.int .i64 OXmm, .int .i64 Y, .int .i64 Z, .int .i64 B0, .int .i64 Y, .int .i64 Z, .int .i64 Xm, .int .i64 Ym, .int .i64 Z, .int .i64 Xm, .int .i64 Yp, .int .i64 Z, .int .i64 Xm, .int .i64 Y, .int .i64 Zm, .int .i64 Xm, .int .i64 Y, .int .i64 Zp]) (W2.heap.size) #[.int .i64 Xm, .int .i64 Y, .int .i64 Z, .int .i64 Xp, .int .i64 Y, .int .i64 Z, .int .i64 X, .int .i64 Ym, .int .i64 Z, .int .i64 X, .int .i64 Yp, .int .i64 Z, .int .i64 X, .int .i64 Y, .int .i64 Zm, .int .i64 X, .int .i64 Y, .int .i64 Zp] 45 := (rl.alloc _).row_other (Nat.ne_of_lt ynl) _
        replace rd : RowAt ((W21.alloc (.cells #[.int .i64 0, .int .i64 0, .int .i64 0, .int .i64 0, .int .i64 0, .int .i64 0, .int .i64 0, .int .i64 0, .int .i64 0, .int .i64 0, .int .i64 0, .int .i64 0, .int .i64 0, .int .i64 0, .int .i64 0, .int .i64 0, .int .i64 0, .int .i64 0] 45)).setRow W21.heap.size #[.int .i64 OXmm, .int .i64 Y, .int .i64 Z, .int .i64 B0, .int .i64 Y, .int .i64 Z, .int .i64 Xm, .int .i64 Ym, .int .i64 Z, .int .i64 Xm, .int .i64 Yp, .int .i64 Z, .int .i64 Xm, .int .i64 Y, .int .i64 Zm, .int .i64 Xm, .int .i64 Y, .int .i64 Zp]) (W5.heap.size) #[.int .i64 X, .int .i64 Y, .int .i64 Z] 28 := (rd.alloc _).row_other (Nat.ne_of_lt ynd) _
        clear cb fb zb cl fl zl cd fd zd
        have rn : RowAt ((W21.alloc (.cells #[.int .i64 0, .int .i64 0, .int .i64 0, .int .i64 0, .int .i64 0, .int .i64 0, .int .i64 0, .int .i64 0, .int .i64 0, .int .i64 0, .int .i64 0, .int .i64 0, .int .i64 0, .int .i64 0, .int .i64 0, .int .i64 0, .int .i64 0, .int .i64 0] 45)).setRow W21.heap.size #[.int .i64 OXmm, .int .i64 Y, .int .i64 Z, .int .i64 B0, .int .i64 Y, .int .i64 Z, .int .i64 Xm, .int .i64 Ym, .int .i64 Z, .int .i64 Xm, .int .i64 Yp, .int .i64 Z, .int .i64 Xm, .int .i64 Y, .int .i64 Zm, .int .i64 Xm, .int .i64 Y, .int .i64 Zp]) (W21.heap.size) #[.int .i64 OXmm, .int .i64 Y, .int .i64 Z, .int .i64 B0, .int .i64 Y, .int .i64 Z, .int .i64 Xm, .int .i64 Ym, .int .i64 Z, .int .i64 Xm, .int .i64 Yp, .int .i64 Z, .int .i64 Xm, .int .i64 Y, .int .i64 Zm, .int .i64 Xm, .int .i64 Y, .int .i64 Zp] 45 := rnew.row _
        clear rnew
        generalize ((W21.alloc (.cells #[.int .i64 0, .int .i64 0, .int .i64 0, .int .i64 0, .int .i64 0, .int .i64 0, .int .i64 0, .int .i64 0, .int .i64 0, .int .i64 0, .int .i64 0, .int .i64 0, .int .i64 0, .int .i64 0, .int .i64 0, .int .i64 0, .int .i64 0, .int .i64 0] 45)).setRow W21.heap.size #[.int .i64 OXmm, .int .i64 Y, .int .i64 Z, .int .i64 B0, .int .i64 Y, .int .i64 Z, .int .i64 Xm, .int .i64 Ym, .int .i64 Z, .int .i64 Xm, .int .i64 Yp, .int .i64 Z, .int .i64 Xm, .int .i64 Y, .int .i64 Zm, .int .i64 Xm, .int .i64 Y, .int .i64 Zp]) = W22 at *
        have cb : ∀ j, W22.cell? ⟨w.heap.size, j, none⟩ = (#[.int .i64 x, .int .i64 y, .int .i64 z] : Array Value)[j]? := rb.cell
        have fb : ∀ j, W22.frozen? ⟨w.heap.size, j, none⟩ = false := rb.frozen
        have zb : w.heap.size < W22.heap.size := rb.lt
        have cl : ∀ j, W22.cell? ⟨W2.heap.size, j, none⟩ = (#[.int .i64 Xm, .int .i64 Y, .int .i64 Z, .int .i64 Xp, .int .i64 Y, .int .i64 Z, .int .i64 X, .int .i64 Ym, .int .i64 Z, .int .i64 X, .int .i64 Yp, .int .i64 Z, .int .i64 X, .int .i64 Y, .int .i64 Zm, .int .i64 X, .int .i64 Y, .int .i64 Zp] : Array Value)[j]? := rl.cell
        have fl : ∀ j, W22.frozen? ⟨W2.heap.size, j, none⟩ = false := rl.frozen
        have zl : W2.heap.size < W22.heap.size := rl.lt
        have cd : ∀ j, W22.cell? ⟨W5.heap.size, j, none⟩ = (#[.int .i64 X, .int .i64 Y, .int .i64 Z] : Array Value)[j]? := rd.cell
        have fd : ∀ j, W22.frozen? ⟨W5.heap.size, j, none⟩ = false := rd.frozen
        have zd : W5.heap.size < W22.heap.size := rd.lt
        have cn : ∀ j, W22.cell? ⟨W21.heap.size, j, none⟩ = (#[.int .i64 OXmm, .int .i64 Y, .int .i64 Z, .int .i64 B0, .int .i64 Y, .int .i64 Z, .int .i64 Xm, .int .i64 Ym, .int .i64 Z, .int .i64 Xm, .int .i64 Yp, .int .i64 Z, .int .i64 Xm, .int .i64 Y, .int .i64 Zm, .int .i64 Xm, .int .i64 Y, .int .i64 Zp] : Array Value)[j]? := rn.cell
        have fn : ∀ j, W22.frozen? ⟨W21.heap.size, j, none⟩ = false := rn.frozen
        have zn : W21.heap.size < W22.heap.size := rn.lt
        refine region_below 47 (by kernel_rfl) (by kernel_rfl) ?_
        simp only [List.take_succ_cons, List.take_zero, List.drop_succ_cons, List.drop_zero]
        repeat (first | (refine' InText.skip (by rfl) ?_; simp only [Act.put, List.setIfInBounds_toArray, List.set_cons_zero, List.set_cons_succ]) | (refine' InText.val (by rfl) (fun wr hr => ?_) ?_; rotate_left 1; (focus (obtain ⟨hrc, hrf⟩ := bcell hr; (go_simp <;> with_reducible rfl); done)); simp only [Act.put, List.setIfInBounds_toArray, List.set_cons_zero, List.set_cons_succ]))
        refine fun wra hra => ?_
        obtain ⟨hrca, hrfa⟩ := bcell hra
        clear cb fb zb cl fl zl cd fd zd cn fn zn
        replace rb := rb.keep hra
        replace rl := rl.keep hra
        replace rd := rd.keep hra
        replace rn := rn.keep hra
        replace kw := kw.trans (hra.mono kw.size)
        have cb : ∀ j, wra.cell? ⟨w.heap.size, j, none⟩ = (#[.int .i64 x, .int .i64 y, .int .i64 z] : Array Value)[j]? := rb.cell
        have fb : ∀ j, wra.frozen? ⟨w.heap.size, j, none⟩ = false := rb.frozen
        have zb : w.heap.size < wra.heap.size := rb.lt
        have cl : ∀ j, wra.cell? ⟨W2.heap.size, j, none⟩ = (#[.int .i64 Xm, .int .i64 Y, .int .i64 Z, .int .i64 Xp, .int .i64 Y, .int .i64 Z, .int .i64 X, .int .i64 Ym, .int .i64 Z, .int .i64 X, .int .i64 Yp, .int .i64 Z, .int .i64 X, .int .i64 Y, .int .i64 Zm, .int .i64 X, .int .i64 Y, .int .i64 Zp] : Array Value)[j]? := rl.cell
        have fl : ∀ j, wra.frozen? ⟨W2.heap.size, j, none⟩ = false := rl.frozen
        have zl : W2.heap.size < wra.heap.size := rl.lt
        have cd : ∀ j, wra.cell? ⟨W5.heap.size, j, none⟩ = (#[.int .i64 X, .int .i64 Y, .int .i64 Z] : Array Value)[j]? := rd.cell
        have fd : ∀ j, wra.frozen? ⟨W5.heap.size, j, none⟩ = false := rd.frozen
        have zd : W5.heap.size < wra.heap.size := rd.lt
        have cn : ∀ j, wra.cell? ⟨W21.heap.size, j, none⟩ = (#[.int .i64 OXmm, .int .i64 Y, .int .i64 Z, .int .i64 B0, .int .i64 Y, .int .i64 Z, .int .i64 Xm, .int .i64 Ym, .int .i64 Z, .int .i64 Xm, .int .i64 Yp, .int .i64 Z, .int .i64 Xm, .int .i64 Y, .int .i64 Zm, .int .i64 Xm, .int .i64 Y, .int .i64 Zp] : Array Value)[j]? := rn.cell
        have fn : ∀ j, wra.frozen? ⟨W21.heap.size, j, none⟩ = false := rn.frozen
        have zn : W21.heap.size < wra.heap.size := rn.lt
        clear hra hrca hrfa
        go_upto_region 11 with (fail)
        obtain ⟨e0, e1⟩ := Z0.out
        rcases e0 with e0 | e0
        · subst e0
          clear e1
          refine region_below 17 (by kernel_rfl) (by kernel_rfl) ?_
          simp only [List.take_succ_cons, List.take_zero, List.drop_succ_cons, List.drop_zero]
          repeat (first | (refine' InText.skip (by rfl) ?_; simp only [Act.put, List.setIfInBounds_toArray, List.set_cons_zero, List.set_cons_succ]) | (refine' InText.val (by rfl) (fun wr hr => ?_) ?_; rotate_left 1; (focus (obtain ⟨hrc, hrf⟩ := bcell hr; (go_simp <;> with_reducible rfl); done)); simp only [Act.put, List.setIfInBounds_toArray, List.set_cons_zero, List.set_cons_succ]))
          refine fun wrc hrc => ?_
          obtain ⟨hrcc, hrfc⟩ := bcell hrc
          clear cb fb zb cl fl zl cd fd zd cn fn zn
          replace rb := rb.keep hrc
          replace rl := rl.keep hrc
          replace rd := rd.keep hrc
          replace rn := rn.keep hrc
          replace kw := kw.trans (hrc.mono kw.size)
          have cb : ∀ j, wrc.cell? ⟨w.heap.size, j, none⟩ = (#[.int .i64 x, .int .i64 y, .int .i64 z] : Array Value)[j]? := rb.cell
          have fb : ∀ j, wrc.frozen? ⟨w.heap.size, j, none⟩ = false := rb.frozen
          have zb : w.heap.size < wrc.heap.size := rb.lt
          have cl : ∀ j, wrc.cell? ⟨W2.heap.size, j, none⟩ = (#[.int .i64 Xm, .int .i64 Y, .int .i64 Z, .int .i64 Xp, .int .i64 Y, .int .i64 Z, .int .i64 X, .int .i64 Ym, .int .i64 Z, .int .i64 X, .int .i64 Yp, .int .i64 Z, .int .i64 X, .int .i64 Y, .int .i64 Zm, .int .i64 X, .int .i64 Y, .int .i64 Zp] : Array Value)[j]? := rl.cell
          have fl : ∀ j, wrc.frozen? ⟨W2.heap.size, j, none⟩ = false := rl.frozen
          have zl : W2.heap.size < wrc.heap.size := rl.lt
          have cd : ∀ j, wrc.cell? ⟨W5.heap.size, j, none⟩ = (#[.int .i64 X, .int .i64 Y, .int .i64 Z] : Array Value)[j]? := rd.cell
          have fd : ∀ j, wrc.frozen? ⟨W5.heap.size, j, none⟩ = false := rd.frozen
          have zd : W5.heap.size < wrc.heap.size := rd.lt
          have cn : ∀ j, wrc.cell? ⟨W21.heap.size, j, none⟩ = (#[.int .i64 OXmm, .int .i64 Y, .int .i64 Z, .int .i64 B0, .int .i64 Y, .int .i64 Z, .int .i64 Xm, .int .i64 Ym, .int .i64 Z, .int .i64 Xm, .int .i64 Yp, .int .i64 Z, .int .i64 Xm, .int .i64 Y, .int .i64 Zm, .int .i64 Xm, .int .i64 Y, .int .i64 Zp] : Array Value)[j]? := rn.cell
          have fn : ∀ j, wrc.frozen? ⟨W21.heap.size, j, none⟩ = false := rn.frozen
          have zn : W21.heap.size < wrc.heap.size := rn.lt
          clear hrc hrcc hrfc
          go_wp2_with fail
          go_roundw
          case rel =>
            exact ⟨1, by omega, by go_num, by (repeat (first | with_reducible assumption | with_reducible exact Below.refl _ _ | with_reducible refine Below.drew ?_ | with_reducible refine below_drewN ?_ _ | with_reducible refine al ?_ _ | (with_reducible refine sc ?_ ?_; (focus (first | omega | (simp; done) | (simp; omega)))) | (with_reducible refine chain ?_ (by assumption)))), rb, rl, rd⟩
          case measure => simp [intOf]
        · have e2 := e1 e0
          clear e1
          subst e0
          refine region_below 17 (by kernel_rfl) (by kernel_rfl) ?_
          simp only [List.take_succ_cons, List.take_zero, List.drop_succ_cons, List.drop_zero]
          repeat (first | (refine' InText.skip (by rfl) ?_; simp only [Act.put, List.setIfInBounds_toArray, List.set_cons_zero, List.set_cons_succ]) | (refine' InText.val (by rfl) (fun wr hr => ?_) ?_; rotate_left 1; (focus (obtain ⟨hrc, hrf⟩ := bcell hr; (go_simp <;> with_reducible rfl); done)); simp only [Act.put, List.setIfInBounds_toArray, List.set_cons_zero, List.set_cons_succ]))
          refine fun wrc hrc => ?_
          obtain ⟨hrcc, hrfc⟩ := bcell hrc
          clear cb fb zb cl fl zl cd fd zd cn fn zn
          replace rb := rb.keep hrc
          replace rl := rl.keep hrc
          replace rd := rd.keep hrc
          replace rn := rn.keep hrc
          replace kw := kw.trans (hrc.mono kw.size)
          have cb : ∀ j, wrc.cell? ⟨w.heap.size, j, none⟩ = (#[.int .i64 x, .int .i64 y, .int .i64 z] : Array Value)[j]? := rb.cell
          have fb : ∀ j, wrc.frozen? ⟨w.heap.size, j, none⟩ = false := rb.frozen
          have zb : w.heap.size < wrc.heap.size := rb.lt
          have cl : ∀ j, wrc.cell? ⟨W2.heap.size, j, none⟩ = (#[.int .i64 Xm, .int .i64 Y, .int .i64 Z, .int .i64 Xp, .int .i64 Y, .int .i64 Z, .int .i64 X, .int .i64 Ym, .int .i64 Z, .int .i64 X, .int .i64 Yp, .int .i64 Z, .int .i64 X, .int .i64 Y, .int .i64 Zm, .int .i64 X, .int .i64 Y, .int .i64 Zp] : Array Value)[j]? := rl.cell
          have fl : ∀ j, wrc.frozen? ⟨W2.heap.size, j, none⟩ = false := rl.frozen
          have zl : W2.heap.size < wrc.heap.size := rl.lt
          have cd : ∀ j, wrc.cell? ⟨W5.heap.size, j, none⟩ = (#[.int .i64 X, .int .i64 Y, .int .i64 Z] : Array Value)[j]? := rd.cell
          have fd : ∀ j, wrc.frozen? ⟨W5.heap.size, j, none⟩ = false := rd.frozen
          have zd : W5.heap.size < wrc.heap.size := rd.lt
          have cn : ∀ j, wrc.cell? ⟨W21.heap.size, j, none⟩ = (#[.int .i64 OXmm, .int .i64 Y, .int .i64 Z, .int .i64 B0, .int .i64 Y, .int .i64 Z, .int .i64 Xm, .int .i64 Ym, .int .i64 Z, .int .i64 Xm, .int .i64 Yp, .int .i64 Z, .int .i64 Xm, .int .i64 Y, .int .i64 Zm, .int .i64 Xm, .int .i64 Y, .int .i64 Zp] : Array Value)[j]? := rn.cell
          have fn : ∀ j, wrc.frozen? ⟨W21.heap.size, j, none⟩ = false := rn.frozen
          have zn : W21.heap.size < wrc.heap.size := rn.lt
          clear hrc hrcc hrfc
          go_wp2_with fail
          go_roundw
          case rel =>
            exact ⟨1, by omega, by go_num, by (repeat (first | with_reducible assumption | with_reducible exact Below.refl _ _ | with_reducible refine Below.drew ?_ | with_reducible refine below_drewN ?_ _ | with_reducible refine al ?_ _ | (with_reducible refine sc ?_ ?_; (focus (first | omega | (simp; done) | (simp; omega)))) | (with_reducible refine chain ?_ (by assumption)))), rb, rl, rd⟩
          case measure => simp [intOf]
      · have cb : ∀ j, wr.cell? ⟨w.heap.size, j, none⟩ = (#[.int .i64 x, .int .i64 y, .int .i64 z] : Array Value)[j]? := rb.cell
        have fb : ∀ j, wr.frozen? ⟨w.heap.size, j, none⟩ = false := rb.frozen
        have zb : w.heap.size < wr.heap.size := rb.lt
        have cl : ∀ j, wr.cell? ⟨W2.heap.size, j, none⟩ = (#[.int .i64 Xm, .int .i64 Y, .int .i64 Z, .int .i64 Xp, .int .i64 Y, .int .i64 Z, .int .i64 X, .int .i64 Ym, .int .i64 Z, .int .i64 X, .int .i64 Yp, .int .i64 Z, .int .i64 X, .int .i64 Y, .int .i64 Zm, .int .i64 X, .int .i64 Y, .int .i64 Zp] : Array Value)[j]? := rl.cell
        have fl : ∀ j, wr.frozen? ⟨W2.heap.size, j, none⟩ = false := rl.frozen
        have zl : W2.heap.size < wr.heap.size := rl.lt
        have cd : ∀ j, wr.cell? ⟨W5.heap.size, j, none⟩ = (#[.int .i64 X, .int .i64 Y, .int .i64 Z] : Array Value)[j]? := rd.cell
        have fd : ∀ j, wr.frozen? ⟨W5.heap.size, j, none⟩ = false := rd.frozen
        have zd : W5.heap.size < wr.heap.size := rd.lt
        go_wp2_with fail
        (refine (Hm1.out _).mono ?_; rintro e W21 ⟨rfl, hW21⟩)
        clear cb fb zb cl fl zl cd fd zd
        replace rb := rb.keep hW21
        replace rl := rl.keep hW21
        replace rd := rd.keep hW21
        replace kw := kw.trans (hW21.mono kw.size)
        have cb : ∀ j, W21.cell? ⟨w.heap.size, j, none⟩ = (#[.int .i64 x, .int .i64 y, .int .i64 z] : Array Value)[j]? := rb.cell
        have fb : ∀ j, W21.frozen? ⟨w.heap.size, j, none⟩ = false := rb.frozen
        have zb : w.heap.size < W21.heap.size := rb.lt
        have cl : ∀ j, W21.cell? ⟨W2.heap.size, j, none⟩ = (#[.int .i64 Xm, .int .i64 Y, .int .i64 Z, .int .i64 Xp, .int .i64 Y, .int .i64 Z, .int .i64 X, .int .i64 Ym, .int .i64 Z, .int .i64 X, .int .i64 Yp, .int .i64 Z, .int .i64 X, .int .i64 Y, .int .i64 Zm, .int .i64 X, .int .i64 Y, .int .i64 Zp] : Array Value)[j]? := rl.cell
        have fl : ∀ j, W21.frozen? ⟨W2.heap.size, j, none⟩ = false := rl.frozen
        have zl : W2.heap.size < W21.heap.size := rl.lt
        have cd : ∀ j, W21.cell? ⟨W5.heap.size, j, none⟩ = (#[.int .i64 X, .int .i64 Y, .int .i64 Z] : Array Value)[j]? := rd.cell
        have fd : ∀ j, W21.frozen? ⟨W5.heap.size, j, none⟩ = false := rd.frozen
        have zd : W5.heap.size < W21.heap.size := rd.lt
        clear hW21
        have rnew : RowAt (W21.alloc (.cells #[.int .i64 0, .int .i64 0, .int .i64 0, .int .i64 0, .int .i64 0, .int .i64 0, .int .i64 0, .int .i64 0, .int .i64 0, .int .i64 0, .int .i64 0, .int .i64 0, .int .i64 0, .int .i64 0, .int .i64 0, .int .i64 0, .int .i64 0, .int .i64 0] 45)) W21.heap.size #[.int .i64 0, .int .i64 0, .int .i64 0, .int .i64 0, .int .i64 0, .int .i64 0, .int .i64 0, .int .i64 0, .int .i64 0, .int .i64 0, .int .i64 0, .int .i64 0, .int .i64 0, .int .i64 0, .int .i64 0, .int .i64 0, .int .i64 0, .int .i64 0] 45 := RowAt.new _ _ _
        go_upto_region 10 with (refine wpList_store_row rfl 45 _ _ rfl W21.heap.size #[.int .i64 B1, .int .i64 Y, .int .i64 Z, .int .i64 OXpp, .int .i64 Y, .int .i64 Z, .int .i64 Xp, .int .i64 Ym, .int .i64 Z, .int .i64 Xp, .int .i64 Yp, .int .i64 Z, .int .i64 Xp, .int .i64 Y, .int .i64 Zm, .int .i64 Xp, .int .i64 Y, .int .i64 Zp] rfl rfl _ _ rnew i45 rfl (by simp [Value.oneCell']) ?_)
        have ynb : w.heap.size < W21.heap.size := zb
        have ynl : W2.heap.size < W21.heap.size := zl
        have ynd : W5.heap.size < W21.heap.size := zd
        replace kw : Below w.heap.size w ((W21.alloc (.cells #[.int .i64 0, .int .i64 0, .int .i64 0, .int .i64 0, .int .i64 0, .int .i64 0, .int .i64 0, .int .i64 0, .int .i64 0, .int .i64 0, .int .i64 0, .int .i64 0, .int .i64 0, .int .i64 0, .int .i64 0, .int .i64 0, .int .i64 0, .int .i64 0] 45)).setRow W21.heap.size #[.int .i64 B1, .int .i64 Y, .int .i64 Z, .int .i64 OXpp, .int .i64 Y, .int .i64 Z, .int .i64 Xp, .int .i64 Ym, .int .i64 Z, .int .i64 Xp, .int .i64 Yp, .int .i64 Z, .int .i64 Xp, .int .i64 Y, .int .i64 Zm, .int .i64 Xp, .int .i64 Y, .int .i64 Zp]) := below_setRow (al kw _) kw.size _
        replace rb : RowAt ((W21.alloc (.cells #[.int .i64 0, .int .i64 0, .int .i64 0, .int .i64 0, .int .i64 0, .int .i64 0, .int .i64 0, .int .i64 0, .int .i64 0, .int .i64 0, .int .i64 0, .int .i64 0, .int .i64 0, .int .i64 0, .int .i64 0, .int .i64 0, .int .i64 0, .int .i64 0] 45)).setRow W21.heap.size #[.int .i64 B1, .int .i64 Y, .int .i64 Z, .int .i64 OXpp, .int .i64 Y, .int .i64 Z, .int .i64 Xp, .int .i64 Ym, .int .i64 Z, .int .i64 Xp, .int .i64 Yp, .int .i64 Z, .int .i64 Xp, .int .i64 Y, .int .i64 Zm, .int .i64 Xp, .int .i64 Y, .int .i64 Zp]) (w.heap.size) #[.int .i64 x, .int .i64 y, .int .i64 z] 28 := (rb.alloc _).row_other (Nat.ne_of_lt ynb) _
        replace rl : RowAt ((W21.alloc (.cells #[.int .i64 0, .int .i64 0, .int .i64 0, .int .i64 0, .int .i64 0, .int .i64 0, .int .i64 0, .int .i64 0, .int .i64 0, .int .i64 0, .int .i64 0, .int .i64 0, .int .i64 0, .int .i64 0, .int .i64 0, .int .i64 0, .int .i64 0, .int .i64 0] 45)).setRow W21.heap.size #[.int .i64 B1, .int .i64 Y, .int .i64 Z, .int .i64 OXpp, .int .i64 Y, .int .i64 Z, .int .i64 Xp, .int .i64 Ym, .int .i64 Z, .int .i64 Xp, .int .i64 Yp, .int .i64 Z, .int .i64 Xp, .int .i64 Y, .int .i64 Zm, .int .i64 Xp, .int .i64 Y, .int .i64 Zp]) (W2.heap.size) #[.int .i64 Xm, .int .i64 Y, .int .i64 Z, .int .i64 Xp, .int .i64 Y, .int .i64 Z, .int .i64 X, .int .i64 Ym, .int .i64 Z, .int .i64 X, .int .i64 Yp, .int .i64 Z, .int .i64 X, .int .i64 Y, .int .i64 Zm, .int .i64 X, .int .i64 Y, .int .i64 Zp] 45 := (rl.alloc _).row_other (Nat.ne_of_lt ynl) _
        replace rd : RowAt ((W21.alloc (.cells #[.int .i64 0, .int .i64 0, .int .i64 0, .int .i64 0, .int .i64 0, .int .i64 0, .int .i64 0, .int .i64 0, .int .i64 0, .int .i64 0, .int .i64 0, .int .i64 0, .int .i64 0, .int .i64 0, .int .i64 0, .int .i64 0, .int .i64 0, .int .i64 0] 45)).setRow W21.heap.size #[.int .i64 B1, .int .i64 Y, .int .i64 Z, .int .i64 OXpp, .int .i64 Y, .int .i64 Z, .int .i64 Xp, .int .i64 Ym, .int .i64 Z, .int .i64 Xp, .int .i64 Yp, .int .i64 Z, .int .i64 Xp, .int .i64 Y, .int .i64 Zm, .int .i64 Xp, .int .i64 Y, .int .i64 Zp]) (W5.heap.size) #[.int .i64 X, .int .i64 Y, .int .i64 Z] 28 := (rd.alloc _).row_other (Nat.ne_of_lt ynd) _
        clear cb fb zb cl fl zl cd fd zd
        have rn : RowAt ((W21.alloc (.cells #[.int .i64 0, .int .i64 0, .int .i64 0, .int .i64 0, .int .i64 0, .int .i64 0, .int .i64 0, .int .i64 0, .int .i64 0, .int .i64 0, .int .i64 0, .int .i64 0, .int .i64 0, .int .i64 0, .int .i64 0, .int .i64 0, .int .i64 0, .int .i64 0] 45)).setRow W21.heap.size #[.int .i64 B1, .int .i64 Y, .int .i64 Z, .int .i64 OXpp, .int .i64 Y, .int .i64 Z, .int .i64 Xp, .int .i64 Ym, .int .i64 Z, .int .i64 Xp, .int .i64 Yp, .int .i64 Z, .int .i64 Xp, .int .i64 Y, .int .i64 Zm, .int .i64 Xp, .int .i64 Y, .int .i64 Zp]) (W21.heap.size) #[.int .i64 B1, .int .i64 Y, .int .i64 Z, .int .i64 OXpp, .int .i64 Y, .int .i64 Z, .int .i64 Xp, .int .i64 Ym, .int .i64 Z, .int .i64 Xp, .int .i64 Yp, .int .i64 Z, .int .i64 Xp, .int .i64 Y, .int .i64 Zm, .int .i64 Xp, .int .i64 Y, .int .i64 Zp] 45 := rnew.row _
        clear rnew
        generalize ((W21.alloc (.cells #[.int .i64 0, .int .i64 0, .int .i64 0, .int .i64 0, .int .i64 0, .int .i64 0, .int .i64 0, .int .i64 0, .int .i64 0, .int .i64 0, .int .i64 0, .int .i64 0, .int .i64 0, .int .i64 0, .int .i64 0, .int .i64 0, .int .i64 0, .int .i64 0] 45)).setRow W21.heap.size #[.int .i64 B1, .int .i64 Y, .int .i64 Z, .int .i64 OXpp, .int .i64 Y, .int .i64 Z, .int .i64 Xp, .int .i64 Ym, .int .i64 Z, .int .i64 Xp, .int .i64 Yp, .int .i64 Z, .int .i64 Xp, .int .i64 Y, .int .i64 Zm, .int .i64 Xp, .int .i64 Y, .int .i64 Zp]) = W22 at *
        have cb : ∀ j, W22.cell? ⟨w.heap.size, j, none⟩ = (#[.int .i64 x, .int .i64 y, .int .i64 z] : Array Value)[j]? := rb.cell
        have fb : ∀ j, W22.frozen? ⟨w.heap.size, j, none⟩ = false := rb.frozen
        have zb : w.heap.size < W22.heap.size := rb.lt
        have cl : ∀ j, W22.cell? ⟨W2.heap.size, j, none⟩ = (#[.int .i64 Xm, .int .i64 Y, .int .i64 Z, .int .i64 Xp, .int .i64 Y, .int .i64 Z, .int .i64 X, .int .i64 Ym, .int .i64 Z, .int .i64 X, .int .i64 Yp, .int .i64 Z, .int .i64 X, .int .i64 Y, .int .i64 Zm, .int .i64 X, .int .i64 Y, .int .i64 Zp] : Array Value)[j]? := rl.cell
        have fl : ∀ j, W22.frozen? ⟨W2.heap.size, j, none⟩ = false := rl.frozen
        have zl : W2.heap.size < W22.heap.size := rl.lt
        have cd : ∀ j, W22.cell? ⟨W5.heap.size, j, none⟩ = (#[.int .i64 X, .int .i64 Y, .int .i64 Z] : Array Value)[j]? := rd.cell
        have fd : ∀ j, W22.frozen? ⟨W5.heap.size, j, none⟩ = false := rd.frozen
        have zd : W5.heap.size < W22.heap.size := rd.lt
        have cn : ∀ j, W22.cell? ⟨W21.heap.size, j, none⟩ = (#[.int .i64 B1, .int .i64 Y, .int .i64 Z, .int .i64 OXpp, .int .i64 Y, .int .i64 Z, .int .i64 Xp, .int .i64 Ym, .int .i64 Z, .int .i64 Xp, .int .i64 Yp, .int .i64 Z, .int .i64 Xp, .int .i64 Y, .int .i64 Zm, .int .i64 Xp, .int .i64 Y, .int .i64 Zp] : Array Value)[j]? := rn.cell
        have fn : ∀ j, W22.frozen? ⟨W21.heap.size, j, none⟩ = false := rn.frozen
        have zn : W21.heap.size < W22.heap.size := rn.lt
        refine region_below 47 (by kernel_rfl) (by kernel_rfl) ?_
        simp only [List.take_succ_cons, List.take_zero, List.drop_succ_cons, List.drop_zero]
        repeat (first | (refine' InText.skip (by rfl) ?_; simp only [Act.put, List.setIfInBounds_toArray, List.set_cons_zero, List.set_cons_succ]) | (refine' InText.val (by rfl) (fun wr hr => ?_) ?_; rotate_left 1; (focus (obtain ⟨hrc, hrf⟩ := bcell hr; (go_simp <;> with_reducible rfl); done)); simp only [Act.put, List.setIfInBounds_toArray, List.set_cons_zero, List.set_cons_succ]))
        refine fun wra hra => ?_
        obtain ⟨hrca, hrfa⟩ := bcell hra
        clear cb fb zb cl fl zl cd fd zd cn fn zn
        replace rb := rb.keep hra
        replace rl := rl.keep hra
        replace rd := rd.keep hra
        replace rn := rn.keep hra
        replace kw := kw.trans (hra.mono kw.size)
        have cb : ∀ j, wra.cell? ⟨w.heap.size, j, none⟩ = (#[.int .i64 x, .int .i64 y, .int .i64 z] : Array Value)[j]? := rb.cell
        have fb : ∀ j, wra.frozen? ⟨w.heap.size, j, none⟩ = false := rb.frozen
        have zb : w.heap.size < wra.heap.size := rb.lt
        have cl : ∀ j, wra.cell? ⟨W2.heap.size, j, none⟩ = (#[.int .i64 Xm, .int .i64 Y, .int .i64 Z, .int .i64 Xp, .int .i64 Y, .int .i64 Z, .int .i64 X, .int .i64 Ym, .int .i64 Z, .int .i64 X, .int .i64 Yp, .int .i64 Z, .int .i64 X, .int .i64 Y, .int .i64 Zm, .int .i64 X, .int .i64 Y, .int .i64 Zp] : Array Value)[j]? := rl.cell
        have fl : ∀ j, wra.frozen? ⟨W2.heap.size, j, none⟩ = false := rl.frozen
        have zl : W2.heap.size < wra.heap.size := rl.lt
        have cd : ∀ j, wra.cell? ⟨W5.heap.size, j, none⟩ = (#[.int .i64 X, .int .i64 Y, .int .i64 Z] : Array Value)[j]? := rd.cell
        have fd : ∀ j, wra.frozen? ⟨W5.heap.size, j, none⟩ = false := rd.frozen
        have zd : W5.heap.size < wra.heap.size := rd.lt
        have cn : ∀ j, wra.cell? ⟨W21.heap.size, j, none⟩ = (#[.int .i64 B1, .int .i64 Y, .int .i64 Z, .int .i64 OXpp, .int .i64 Y, .int .i64 Z, .int .i64 Xp, .int .i64 Ym, .int .i64 Z, .int .i64 Xp, .int .i64 Yp, .int .i64 Z, .int .i64 Xp, .int .i64 Y, .int .i64 Zm, .int .i64 Xp, .int .i64 Y, .int .i64 Zp] : Array Value)[j]? := rn.cell
        have fn : ∀ j, wra.frozen? ⟨W21.heap.size, j, none⟩ = false := rn.frozen
        have zn : W21.heap.size < wra.heap.size := rn.lt
        clear hra hrca hrfa
        go_upto_region 11 with (fail)
        obtain ⟨e0, e1⟩ := Z1.out
        rcases e0 with e0 | e0
        · subst e0
          clear e1
          refine region_below 17 (by kernel_rfl) (by kernel_rfl) ?_
          simp only [List.take_succ_cons, List.take_zero, List.drop_succ_cons, List.drop_zero]
          repeat (first | (refine' InText.skip (by rfl) ?_; simp only [Act.put, List.setIfInBounds_toArray, List.set_cons_zero, List.set_cons_succ]) | (refine' InText.val (by rfl) (fun wr hr => ?_) ?_; rotate_left 1; (focus (obtain ⟨hrc, hrf⟩ := bcell hr; (go_simp <;> with_reducible rfl); done)); simp only [Act.put, List.setIfInBounds_toArray, List.set_cons_zero, List.set_cons_succ]))
          refine fun wrc hrc => ?_
          obtain ⟨hrcc, hrfc⟩ := bcell hrc
          clear cb fb zb cl fl zl cd fd zd cn fn zn
          replace rb := rb.keep hrc
          replace rl := rl.keep hrc
          replace rd := rd.keep hrc
          replace rn := rn.keep hrc
          replace kw := kw.trans (hrc.mono kw.size)
          have cb : ∀ j, wrc.cell? ⟨w.heap.size, j, none⟩ = (#[.int .i64 x, .int .i64 y, .int .i64 z] : Array Value)[j]? := rb.cell
          have fb : ∀ j, wrc.frozen? ⟨w.heap.size, j, none⟩ = false := rb.frozen
          have zb : w.heap.size < wrc.heap.size := rb.lt
          have cl : ∀ j, wrc.cell? ⟨W2.heap.size, j, none⟩ = (#[.int .i64 Xm, .int .i64 Y, .int .i64 Z, .int .i64 Xp, .int .i64 Y, .int .i64 Z, .int .i64 X, .int .i64 Ym, .int .i64 Z, .int .i64 X, .int .i64 Yp, .int .i64 Z, .int .i64 X, .int .i64 Y, .int .i64 Zm, .int .i64 X, .int .i64 Y, .int .i64 Zp] : Array Value)[j]? := rl.cell
          have fl : ∀ j, wrc.frozen? ⟨W2.heap.size, j, none⟩ = false := rl.frozen
          have zl : W2.heap.size < wrc.heap.size := rl.lt
          have cd : ∀ j, wrc.cell? ⟨W5.heap.size, j, none⟩ = (#[.int .i64 X, .int .i64 Y, .int .i64 Z] : Array Value)[j]? := rd.cell
          have fd : ∀ j, wrc.frozen? ⟨W5.heap.size, j, none⟩ = false := rd.frozen
          have zd : W5.heap.size < wrc.heap.size := rd.lt
          have cn : ∀ j, wrc.cell? ⟨W21.heap.size, j, none⟩ = (#[.int .i64 B1, .int .i64 Y, .int .i64 Z, .int .i64 OXpp, .int .i64 Y, .int .i64 Z, .int .i64 Xp, .int .i64 Ym, .int .i64 Z, .int .i64 Xp, .int .i64 Yp, .int .i64 Z, .int .i64 Xp, .int .i64 Y, .int .i64 Zm, .int .i64 Xp, .int .i64 Y, .int .i64 Zp] : Array Value)[j]? := rn.cell
          have fn : ∀ j, wrc.frozen? ⟨W21.heap.size, j, none⟩ = false := rn.frozen
          have zn : W21.heap.size < wrc.heap.size := rn.lt
          clear hrc hrcc hrfc
          go_wp2_with fail
          go_roundw
          case rel =>
            exact ⟨2, by omega, by go_num, by (repeat (first | with_reducible assumption | with_reducible exact Below.refl _ _ | with_reducible refine Below.drew ?_ | with_reducible refine below_drewN ?_ _ | with_reducible refine al ?_ _ | (with_reducible refine sc ?_ ?_; (focus (first | omega | (simp; done) | (simp; omega)))) | (with_reducible refine chain ?_ (by assumption)))), rb, rl, rd⟩
          case measure => simp [intOf]
        · have e2 := e1 e0
          clear e1
          subst e0
          refine region_below 17 (by kernel_rfl) (by kernel_rfl) ?_
          simp only [List.take_succ_cons, List.take_zero, List.drop_succ_cons, List.drop_zero]
          repeat (first | (refine' InText.skip (by rfl) ?_; simp only [Act.put, List.setIfInBounds_toArray, List.set_cons_zero, List.set_cons_succ]) | (refine' InText.val (by rfl) (fun wr hr => ?_) ?_; rotate_left 1; (focus (obtain ⟨hrc, hrf⟩ := bcell hr; (go_simp <;> with_reducible rfl); done)); simp only [Act.put, List.setIfInBounds_toArray, List.set_cons_zero, List.set_cons_succ]))
          refine fun wrc hrc => ?_
          obtain ⟨hrcc, hrfc⟩ := bcell hrc
          clear cb fb zb cl fl zl cd fd zd cn fn zn
          replace rb := rb.keep hrc
          replace rl := rl.keep hrc
          replace rd := rd.keep hrc
          replace rn := rn.keep hrc
          replace kw := kw.trans (hrc.mono kw.size)
          have cb : ∀ j, wrc.cell? ⟨w.heap.size, j, none⟩ = (#[.int .i64 x, .int .i64 y, .int .i64 z] : Array Value)[j]? := rb.cell
          have fb : ∀ j, wrc.frozen? ⟨w.heap.size, j, none⟩ = false := rb.frozen
          have zb : w.heap.size < wrc.heap.size := rb.lt
          have cl : ∀ j, wrc.cell? ⟨W2.heap.size, j, none⟩ = (#[.int .i64 Xm, .int .i64 Y, .int .i64 Z, .int .i64 Xp, .int .i64 Y, .int .i64 Z, .int .i64 X, .int .i64 Ym, .int .i64 Z, .int .i64 X, .int .i64 Yp, .int .i64 Z, .int .i64 X, .int .i64 Y, .int .i64 Zm, .int .i64 X, .int .i64 Y, .int .i64 Zp] : Array Value)[j]? := rl.cell
          have fl : ∀ j, wrc.frozen? ⟨W2.heap.size, j, none⟩ = false := rl.frozen
          have zl : W2.heap.size < wrc.heap.size := rl.lt
          have cd : ∀ j, wrc.cell? ⟨W5.heap.size, j, none⟩ = (#[.int .i64 X, .int .i64 Y, .int .i64 Z] : Array Value)[j]? := rd.cell
          have fd : ∀ j, wrc.frozen? ⟨W5.heap.size, j, none⟩ = false := rd.frozen
          have zd : W5.heap.size < wrc.heap.size := rd.lt
          have cn : ∀ j, wrc.cell? ⟨W21.heap.size, j, none⟩ = (#[.int .i64 B1, .int .i64 Y, .int .i64 Z, .int .i64 OXpp, .int .i64 Y, .int .i64 Z, .int .i64 Xp, .int .i64 Ym, .int .i64 Z, .int .i64 Xp, .int .i64 Yp, .int .i64 Z, .int .i64 Xp, .int .i64 Y, .int .i64 Zm, .int .i64 Xp, .int .i64 Y, .int .i64 Zp] : Array Value)[j]? := rn.cell
          have fn : ∀ j, wrc.frozen? ⟨W21.heap.size, j, none⟩ = false := rn.frozen
          have zn : W21.heap.size < wrc.heap.size := rn.lt
          clear hrc hrcc hrfc
          go_wp2_with fail
          go_roundw
          case rel =>
            exact ⟨2, by omega, by go_num, by (repeat (first | with_reducible assumption | with_reducible exact Below.refl _ _ | with_reducible refine Below.drew ?_ | with_reducible refine below_drewN ?_ _ | with_reducible refine al ?_ _ | (with_reducible refine sc ?_ ?_; (focus (first | omega | (simp; done) | (simp; omega)))) | (with_reducible refine chain ?_ (by assumption)))), rb, rl, rd⟩
          case measure => simp [intOf]
      · have cb : ∀ j, wr.cell? ⟨w.heap.size, j, none⟩ = (#[.int .i64 x, .int .i64 y, .int .i64 z] : Array Value)[j]? := rb.cell
        have fb : ∀ j, wr.frozen? ⟨w.heap.size, j, none⟩ = false := rb.frozen
        have zb : w.heap.size < wr.heap.size := rb.lt
        have cl : ∀ j, wr.cell? ⟨W2.heap.size, j, none⟩ = (#[.int .i64 Xm, .int .i64 Y, .int .i64 Z, .int .i64 Xp, .int .i64 Y, .int .i64 Z, .int .i64 X, .int .i64 Ym, .int .i64 Z, .int .i64 X, .int .i64 Yp, .int .i64 Z, .int .i64 X, .int .i64 Y, .int .i64 Zm, .int .i64 X, .int .i64 Y, .int .i64 Zp] : Array Value)[j]? := rl.cell
        have fl : ∀ j, wr.frozen? ⟨W2.heap.size, j, none⟩ = false := rl.frozen
        have zl : W2.heap.size < wr.heap.size := rl.lt
        have cd : ∀ j, wr.cell? ⟨W5.heap.size, j, none⟩ = (#[.int .i64 X, .int .i64 Y, .int .i64 Z] : Array Value)[j]? := rd.cell
        have fd : ∀ j, wr.frozen? ⟨W5.heap.size, j, none⟩ = false := rd.frozen
        have zd : W5.heap.size < wr.heap.size := rd.lt
        go_wp2_with fail
        (refine (Hm2.out _).mono ?_; rintro e W21 ⟨rfl, hW21⟩)
        clear cb fb zb cl fl zl cd fd zd
        replace rb := rb.keep hW21
        replace rl := rl.keep hW21
        replace rd := rd.keep hW21
        replace kw := kw.trans (hW21.mono kw.size)
        have cb : ∀ j, W21.cell? ⟨w.heap.size, j, none⟩ = (#[.int .i64 x, .int .i64 y, .int .i64 z] : Array Value)[j]? := rb.cell
        have fb : ∀ j, W21.frozen? ⟨w.heap.size, j, none⟩ = false := rb.frozen
        have zb : w.heap.size < W21.heap.size := rb.lt
        have cl : ∀ j, W21.cell? ⟨W2.heap.size, j, none⟩ = (#[.int .i64 Xm, .int .i64 Y, .int .i64 Z, .int .i64 Xp, .int .i64 Y, .int .i64 Z, .int .i64 X, .int .i64 Ym, .int .i64 Z, .int .i64 X, .int .i64 Yp, .int .i64 Z, .int .i64 X, .int .i64 Y, .int .i64 Zm, .int .i64 X, .int .i64 Y, .int .i64 Zp] : Array Value)[j]? := rl.cell
        have fl : ∀ j, W21.frozen? ⟨W2.heap.size, j, none⟩ = false := rl.frozen
        have zl : W2.heap.size < W21.heap.size := rl.lt
        have cd : ∀ j, W21.cell? ⟨W5.heap.size, j, none⟩ = (#[.int .i64 X, .int .i64 Y, .int .i64 Z] : Array Value)[j]? := rd.cell
        have fd : ∀ j, W21.frozen? ⟨W5.heap.size, j, none⟩ = false := rd.frozen
        have zd : W5.heap.size < W21.heap.size := rd.lt
        clear hW21
        have rnew : RowAt (W21.alloc (.cells #[.int .i64 0, .int .i64 0, .int .i64 0, .int .i64 0, .int .i64 0, .int .i64 0, .int .i64 0, .int .i64 0, .int .i64 0, .int .i64 0, .int .i64 0, .int .i64 0, .int .i64 0, .int .i64 0, .int .i64 0, .int .i64 0, .int .i64 0, .int .i64 0] 45)) W21.heap.size #[.int .i64 0, .int .i64 0, .int .i64 0, .int .i64 0, .int .i64 0, .int .i64 0, .int .i64 0, .int .i64 0, .int .i64 0, .int .i64 0, .int .i64 0, .int .i64 0, .int .i64 0, .int .i64 0, .int .i64 0, .int .i64 0, .int .i64 0, .int .i64 0] 45 := RowAt.new _ _ _
        go_upto_region 10 with (refine wpList_store_row rfl 45 _ _ rfl W21.heap.size #[.int .i64 Xm, .int .i64 Ym, .int .i64 Z, .int .i64 Xp, .int .i64 Ym, .int .i64 Z, .int .i64 X, .int .i64 OYmm, .int .i64 Z, .int .i64 X, .int .i64 B2, .int .i64 Z, .int .i64 X, .int .i64 Ym, .int .i64 Zm, .int .i64 X, .int .i64 Ym, .int .i64 Zp] rfl rfl _ _ rnew i45 rfl (by simp [Value.oneCell']) ?_)
        have ynb : w.heap.size < W21.heap.size := zb
        have ynl : W2.heap.size < W21.heap.size := zl
        have ynd : W5.heap.size < W21.heap.size := zd
        replace kw : Below w.heap.size w ((W21.alloc (.cells #[.int .i64 0, .int .i64 0, .int .i64 0, .int .i64 0, .int .i64 0, .int .i64 0, .int .i64 0, .int .i64 0, .int .i64 0, .int .i64 0, .int .i64 0, .int .i64 0, .int .i64 0, .int .i64 0, .int .i64 0, .int .i64 0, .int .i64 0, .int .i64 0] 45)).setRow W21.heap.size #[.int .i64 Xm, .int .i64 Ym, .int .i64 Z, .int .i64 Xp, .int .i64 Ym, .int .i64 Z, .int .i64 X, .int .i64 OYmm, .int .i64 Z, .int .i64 X, .int .i64 B2, .int .i64 Z, .int .i64 X, .int .i64 Ym, .int .i64 Zm, .int .i64 X, .int .i64 Ym, .int .i64 Zp]) := below_setRow (al kw _) kw.size _
        replace rb : RowAt ((W21.alloc (.cells #[.int .i64 0, .int .i64 0, .int .i64 0, .int .i64 0, .int .i64 0, .int .i64 0, .int .i64 0, .int .i64 0, .int .i64 0, .int .i64 0, .int .i64 0, .int .i64 0, .int .i64 0, .int .i64 0, .int .i64 0, .int .i64 0, .int .i64 0, .int .i64 0] 45)).setRow W21.heap.size #[.int .i64 Xm, .int .i64 Ym, .int .i64 Z, .int .i64 Xp, .int .i64 Ym, .int .i64 Z, .int .i64 X, .int .i64 OYmm, .int .i64 Z, .int .i64 X, .int .i64 B2, .int .i64 Z, .int .i64 X, .int .i64 Ym, .int .i64 Zm, .int .i64 X, .int .i64 Ym, .int .i64 Zp]) (w.heap.size) #[.int .i64 x, .int .i64 y, .int .i64 z] 28 := (rb.alloc _).row_other (Nat.ne_of_lt ynb) _
        replace rl : RowAt ((W21.alloc (.cells #[.int .i64 0, .int .i64 0, .int .i64 0, .int .i64 0, .int .i64 0, .int .i64 0, .int .i64 0, .int .i64 0, .int .i64 0, .int .i64 0, .int .i64 0, .int .i64 0, .int .i64 0, .int .i64 0, .int .i64 0, .int .i64 0, .int .i64 0, .int .i64 0] 45)).setRow W21.heap.size #[.int .i64 Xm, .int .i64 Ym, .int .i64 Z, .int .i64 Xp, .int .i64 Ym, .int .i64 Z, .int .i64 X, .int .i64 OYmm, .int .i64 Z, .int .i64 X, .int .i64 B2, .int .i64 Z, .int .i64 X, .int .i64 Ym, .int .i64 Zm, .int .i64 X, .int .i64 Ym, .int .i64 Zp]) (W2.heap.size) #[.int .i64 Xm, .int .i64 Y, .int .i64 Z, .int .i64 Xp, .int .i64 Y, .int .i64 Z, .int .i64 X, .int .i64 Ym, .int .i64 Z, .int .i64 X, .int .i64 Yp, .int .i64 Z, .int .i64 X, .int .i64 Y, .int .i64 Zm, .int .i64 X, .int .i64 Y, .int .i64 Zp] 45 := (rl.alloc _).row_other (Nat.ne_of_lt ynl) _
        replace rd : RowAt ((W21.alloc (.cells #[.int .i64 0, .int .i64 0, .int .i64 0, .int .i64 0, .int .i64 0, .int .i64 0, .int .i64 0, .int .i64 0, .int .i64 0, .int .i64 0, .int .i64 0, .int .i64 0, .int .i64 0, .int .i64 0, .int .i64 0, .int .i64 0, .int .i64 0, .int .i64 0] 45)).setRow W21.heap.size #[.int .i64 Xm, .int .i64 Ym, .int .i64 Z, .int .i64 Xp, .int .i64 Ym, .int .i64 Z, .int .i64 X, .int .i64 OYmm, .int .i64 Z, .int .i64 X, .int .i64 B2, .int .i64 Z, .int .i64 X, .int .i64 Ym, .int .i64 Zm, .int .i64 X, .int .i64 Ym, .int .i64 Zp]) (W5.heap.size) #[.int .i64 X, .int .i64 Y, .int .i64 Z] 28 := (rd.alloc _).row_other (Nat.ne_of_lt ynd) _
        clear cb fb zb cl fl zl cd fd zd
        have rn : RowAt ((W21.alloc (.cells #[.int .i64 0, .int .i64 0, .int .i64 0, .int .i64 0, .int .i64 0, .int .i64 0, .int .i64 0, .int .i64 0, .int .i64 0, .int .i64 0, .int .i64 0, .int .i64 0, .int .i64 0, .int .i64 0, .int .i64 0, .int .i64 0, .int .i64 0, .int .i64 0] 45)).setRow W21.heap.size #[.int .i64 Xm, .int .i64 Ym, .int .i64 Z, .int .i64 Xp, .int .i64 Ym, .int .i64 Z, .int .i64 X, .int .i64 OYmm, .int .i64 Z, .int .i64 X, .int .i64 B2, .int .i64 Z, .int .i64 X, .int .i64 Ym, .int .i64 Zm, .int .i64 X, .int .i64 Ym, .int .i64 Zp]) (W21.heap.size) #[.int .i64 Xm, .int .i64 Ym, .int .i64 Z, .int .i64 Xp, .int .i64 Ym, .int .i64 Z, .int .i64 X, .int .i64 OYmm, .int .i64 Z, .int .i64 X, .int .i64 B2, .int .i64 Z, .int .i64 X, .int .i64 Ym, .int .i64 Zm, .int .i64 X, .int .i64 Ym, .int .i64 Zp] 45 := rnew.row _
        clear rnew
        generalize ((W21.alloc (.cells #[.int .i64 0, .int .i64 0, .int .i64 0, .int .i64 0, .int .i64 0, .int .i64 0, .int .i64 0, .int .i64 0, .int .i64 0, .int .i64 0, .int .i64 0, .int .i64 0, .int .i64 0, .int .i64 0, .int .i64 0, .int .i64 0, .int .i64 0, .int .i64 0] 45)).setRow W21.heap.size #[.int .i64 Xm, .int .i64 Ym, .int .i64 Z, .int .i64 Xp, .int .i64 Ym, .int .i64 Z, .int .i64 X, .int .i64 OYmm, .int .i64 Z, .int .i64 X, .int .i64 B2, .int .i64 Z, .int .i64 X, .int .i64 Ym, .int .i64 Zm, .int .i64 X, .int .i64 Ym, .int .i64 Zp]) = W22 at *
        have cb : ∀ j, W22.cell? ⟨w.heap.size, j, none⟩ = (#[.int .i64 x, .int .i64 y, .int .i64 z] : Array Value)[j]? := rb.cell
        have fb : ∀ j, W22.frozen? ⟨w.heap.size, j, none⟩ = false := rb.frozen
        have zb : w.heap.size < W22.heap.size := rb.lt
        have cl : ∀ j, W22.cell? ⟨W2.heap.size, j, none⟩ = (#[.int .i64 Xm, .int .i64 Y, .int .i64 Z, .int .i64 Xp, .int .i64 Y, .int .i64 Z, .int .i64 X, .int .i64 Ym, .int .i64 Z, .int .i64 X, .int .i64 Yp, .int .i64 Z, .int .i64 X, .int .i64 Y, .int .i64 Zm, .int .i64 X, .int .i64 Y, .int .i64 Zp] : Array Value)[j]? := rl.cell
        have fl : ∀ j, W22.frozen? ⟨W2.heap.size, j, none⟩ = false := rl.frozen
        have zl : W2.heap.size < W22.heap.size := rl.lt
        have cd : ∀ j, W22.cell? ⟨W5.heap.size, j, none⟩ = (#[.int .i64 X, .int .i64 Y, .int .i64 Z] : Array Value)[j]? := rd.cell
        have fd : ∀ j, W22.frozen? ⟨W5.heap.size, j, none⟩ = false := rd.frozen
        have zd : W5.heap.size < W22.heap.size := rd.lt
        have cn : ∀ j, W22.cell? ⟨W21.heap.size, j, none⟩ = (#[.int .i64 Xm, .int .i64 Ym, .int .i64 Z, .int .i64 Xp, .int .i64 Ym, .int .i64 Z, .int .i64 X, .int .i64 OYmm, .int .i64 Z, .int .i64 X, .int .i64 B2, .int .i64 Z, .int .i64 X, .int .i64 Ym, .int .i64 Zm, .int .i64 X, .int .i64 Ym, .int .i64 Zp] : Array Value)[j]? := rn.cell
        have fn : ∀ j, W22.frozen? ⟨W21.heap.size, j, none⟩ = false := rn.frozen
        have zn : W21.heap.size < W22.heap.size := rn.lt
        refine region_below 47 (by kernel_rfl) (by kernel_rfl) ?_
        simp only [List.take_succ_cons, List.take_zero, List.drop_succ_cons, List.drop_zero]
        repeat (first | (refine' InText.skip (by rfl) ?_; simp only [Act.put, List.setIfInBounds_toArray, List.set_cons_zero, List.set_cons_succ]) | (refine' InText.val (by rfl) (fun wr hr => ?_) ?_; rotate_left 1; (focus (obtain ⟨hrc, hrf⟩ := bcell hr; (go_simp <;> with_reducible rfl); done)); simp only [Act.put, List.setIfInBounds_toArray, List.set_cons_zero, List.set_cons_succ]))
        refine fun wra hra => ?_
        obtain ⟨hrca, hrfa⟩ := bcell hra
        clear cb fb zb cl fl zl cd fd zd cn fn zn
        replace rb := rb.keep hra
        replace rl := rl.keep hra
        replace rd := rd.keep hra
        replace rn := rn.keep hra
        replace kw := kw.trans (hra.mono kw.size)
        have cb : ∀ j, wra.cell? ⟨w.heap.size, j, none⟩ = (#[.int .i64 x, .int .i64 y, .int .i64 z] : Array Value)[j]? := rb.cell
        have fb : ∀ j, wra.frozen? ⟨w.heap.size, j, none⟩ = false := rb.frozen
        have zb : w.heap.size < wra.heap.size := rb.lt
        have cl : ∀ j, wra.cell? ⟨W2.heap.size, j, none⟩ = (#[.int .i64 Xm, .int .i64 Y, .int .i64 Z, .int .i64 Xp, .int .i64 Y, .int .i64 Z, .int .i64 X, .int .i64 Ym, .int .i64 Z, .int .i64 X, .int .i64 Yp, .int .i64 Z, .int .i64 X, .int .i64 Y, .int .i64 Zm, .int .i64 X, .int .i64 Y, .int .i64 Zp] : Array Value)[j]? := rl.cell
        have fl : ∀ j, wra.frozen? ⟨W2.heap.size, j, none⟩ = false := rl.frozen
        have zl : W2.heap.size < wra.heap.size := rl.lt
        have cd : ∀ j, wra.cell? ⟨W5.heap.size, j, none⟩ = (#[.int .i64 X, .int .i64 Y, .int .i64 Z] : Array Value)[j]? := rd.cell
        have fd : ∀ j, wra.frozen? ⟨W5.heap.size, j, none⟩ = false := rd.frozen
        have zd : W5.heap.size < wra.heap.size := rd.lt
        have cn : ∀ j, wra.cell? ⟨W21.heap.size, j, none⟩ = (#[.int .i64 Xm, .int .i64 Ym, .int .i64 Z, .int .i64 Xp, .int .i64 Ym, .int .i64 Z, .int .i64 X, .int .i64 OYmm, .int .i64 Z, .int .i64 X, .int .i64 B2, .int .i64 Z, .int .i64 X, .int .i64 Ym, .int .i64 Zm, .int .i64 X, .int .i64 Ym, .int .i64 Zp] : Array Value)[j]? := rn.cell
        have fn : ∀ j, wra.frozen? ⟨W21.heap.size, j, none⟩ = false := rn.frozen
        have zn : W21.heap.size < wra.heap.size := rn.lt
        clear hra hrca hrfa
        go_upto_region 11 with (fail)
        obtain ⟨e0, e1⟩ := Z2.out
        rcases e0 with e0 | e0
        · subst e0
          clear e1
          refine region_below 17 (by kernel_rfl) (by kernel_rfl) ?_
          simp only [List.take_succ_cons, List.take_zero, List.drop_succ_cons, List.drop_zero]
          repeat (first | (refine' InText.skip (by rfl) ?_; simp only [Act.put, List.setIfInBounds_toArray, List.set_cons_zero, List.set_cons_succ]) | (refine' InText.val (by rfl) (fun wr hr => ?_) ?_; rotate_left 1; (focus (obtain ⟨hrc, hrf⟩ := bcell hr; (go_simp <;> with_reducible rfl); done)); simp only [Act.put, List.setIfInBounds_toArray, List.set_cons_zero, List.set_cons_succ]))
          refine fun wrc hrc => ?_
          obtain ⟨hrcc, hrfc⟩ := bcell hrc
          clear cb fb zb cl fl zl cd fd zd cn fn zn
          replace rb := rb.keep hrc
          replace rl := rl.keep hrc
          replace rd := rd.keep hrc
          replace rn := rn.keep hrc
          replace kw := kw.trans (hrc.mono kw.size)
          have cb : ∀ j, wrc.cell? ⟨w.heap.size, j, none⟩ = (#[.int .i64 x, .int .i64 y, .int .i64 z] : Array Value)[j]? := rb.cell
          have fb : ∀ j, wrc.frozen? ⟨w.heap.size, j, none⟩ = false := rb.frozen
          have zb : w.heap.size < wrc.heap.size := rb.lt
          have cl : ∀ j, wrc.cell? ⟨W2.heap.size, j, none⟩ = (#[.int .i64 Xm, .int .i64 Y, .int .i64 Z, .int .i64 Xp, .int .i64 Y, .int .i64 Z, .int .i64 X, .int .i64 Ym, .int .i64 Z, .int .i64 X, .int .i64 Yp, .int .i64 Z, .int .i64 X, .int .i64 Y, .int .i64 Zm, .int .i64 X, .int .i64 Y, .int .i64 Zp] : Array Value)[j]? := rl.cell
          have fl : ∀ j, wrc.frozen? ⟨W2.heap.size, j, none⟩ = false := rl.frozen
          have zl : W2.heap.size < wrc.heap.size := rl.lt
          have cd : ∀ j, wrc.cell? ⟨W5.heap.size, j, none⟩ = (#[.int .i64 X, .int .i64 Y, .int .i64 Z] : Array Value)[j]? := rd.cell
          have fd : ∀ j, wrc.frozen? ⟨W5.heap.size, j, none⟩ = false := rd.frozen
          have zd : W5.heap.size < wrc.heap.size := rd.lt
          have cn : ∀ j, wrc.cell? ⟨W21.heap.size, j, none⟩ = (#[.int .i64 Xm, .int .i64 Ym, .int .i64 Z, .int .i64 Xp, .int .i64 Ym, .int .i64 Z, .int .i64 X, .int .i64 OYmm, .int .i64 Z, .int .i64 X, .int .i64 B2, .int .i64 Z, .int .i64 X, .int .i64 Ym, .int .i64 Zm, .int .i64 X, .int .i64 Ym, .int .i64 Zp] : Array Value)[j]? := rn.cell
          have fn : ∀ j, wrc.frozen? ⟨W21.heap.size, j, none⟩ = false := rn.frozen
          have zn : W21.heap.size < wrc.heap.size := rn.lt
          clear hrc hrcc hrfc
          go_wp2_with fail
          go_roundw
          case rel =>
            exact ⟨3, by omega, by go_num, by (repeat (first | with_reducible assumption | with_reducible exact Below.refl _ _ | with_reducible refine Below.drew ?_ | with_reducible refine below_drewN ?_ _ | with_reducible refine al ?_ _ | (with_reducible refine sc ?_ ?_; (focus (first | omega | (simp; done) | (simp; omega)))) | (with_reducible refine chain ?_ (by assumption)))), rb, rl, rd⟩
          case measure => simp [intOf]
        · have e2 := e1 e0
          clear e1
          subst e0
          refine region_below 17 (by kernel_rfl) (by kernel_rfl) ?_
          simp only [List.take_succ_cons, List.take_zero, List.drop_succ_cons, List.drop_zero]
          repeat (first | (refine' InText.skip (by rfl) ?_; simp only [Act.put, List.setIfInBounds_toArray, List.set_cons_zero, List.set_cons_succ]) | (refine' InText.val (by rfl) (fun wr hr => ?_) ?_; rotate_left 1; (focus (obtain ⟨hrc, hrf⟩ := bcell hr; (go_simp <;> with_reducible rfl); done)); simp only [Act.put, List.setIfInBounds_toArray, List.set_cons_zero, List.set_cons_succ]))
          refine fun wrc hrc => ?_
          obtain ⟨hrcc, hrfc⟩ := bcell hrc
          clear cb fb zb cl fl zl cd fd zd cn fn zn
          replace rb := rb.keep hrc
          replace rl := rl.keep hrc
          replace rd := rd.keep hrc
          replace rn := rn.keep hrc
          replace kw := kw.trans (hrc.mono kw.size)
          have cb : ∀ j, wrc.cell? ⟨w.heap.size, j, none⟩ = (#[.int .i64 x, .int .i64 y, .int .i64 z] : Array Value)[j]? := rb.cell
          have fb : ∀ j, wrc.frozen? ⟨w.heap.size, j, none⟩ = false := rb.frozen
          have zb : w.heap.size < wrc.heap.size := rb.lt
          have cl : ∀ j, wrc.cell? ⟨W2.heap.size, j, none⟩ = (#[.int .i64 Xm, .int .i64 Y, .int .i64 Z, .int .i64 Xp, .int .i64 Y, .int .i64 Z, .int .i64 X, .int .i64 Ym, .int .i64 Z, .int .i64 X, .int .i64 Yp, .int .i64 Z, .int .i64 X, .int .i64 Y, .int .i64 Zm, .int .i64 X, .int .i64 Y, .int .i64 Zp] : Array Value)[j]? := rl.cell
          have fl : ∀ j, wrc.frozen? ⟨W2.heap.size, j, none⟩ = false := rl.frozen
          have zl : W2.heap.size < wrc.heap.size := rl.lt
          have cd : ∀ j, wrc.cell? ⟨W5.heap.size, j, none⟩ = (#[.int .i64 X, .int .i64 Y, .int .i64 Z] : Array Value)[j]? := rd.cell
          have fd : ∀ j, wrc.frozen? ⟨W5.heap.size, j, none⟩ = false := rd.frozen
          have zd : W5.heap.size < wrc.heap.size := rd.lt
          have cn : ∀ j, wrc.cell? ⟨W21.heap.size, j, none⟩ = (#[.int .i64 Xm, .int .i64 Ym, .int .i64 Z, .int .i64 Xp, .int .i64 Ym, .int .i64 Z, .int .i64 X, .int .i64 OYmm, .int .i64 Z, .int .i64 X, .int .i64 B2, .int .i64 Z, .int .i64 X, .int .i64 Ym, .int .i64 Zm, .int .i64 X, .int .i64 Ym, .int .i64 Zp] : Array Value)[j]? := rn.cell
          have fn : ∀ j, wrc.frozen? ⟨W21.heap.size, j, none⟩ = false := rn.frozen
          have zn : W21.heap.size < wrc.heap.size := rn.lt
          clear hrc hrcc hrfc
          go_wp2_with fail
          go_roundw
          case rel =>
            exact ⟨3, by omega, by go_num, by (repeat (first | with_reducible assumption | with_reducible exact Below.refl _ _ | with_reducible refine Below.drew ?_ | with_reducible refine below_drewN ?_ _ | with_reducible refine al ?_ _ | (with_reducible refine sc ?_ ?_; (focus (first | omega | (simp; done) | (simp; omega)))) | (with_reducible refine chain ?_ (by assumption)))), rb, rl, rd⟩
          case measure => simp [intOf]
      · have cb : ∀ j, wr.cell? ⟨w.heap.size, j, none⟩ = (#[.int .i64 x, .int .i64 y, .int .i64 z] : Array Value)[j]? := rb.cell
        have fb : ∀ j, wr.frozen? ⟨w.heap.size, j, none⟩ = false := rb.frozen
        have zb : w.heap.size < wr.heap.size := rb.lt
        have cl : ∀ j, wr.cell? ⟨W2.heap.size, j, none⟩ = (#[.int .i64 Xm, .int .i64 Y, .int .i64 Z, .int .i64 Xp, .int .i64 Y, .int .i64 Z, .int .i64 X, .int .i64 Ym, .int .i64 Z, .int .i64 X, .int .i64 Yp, .int .i64 Z, .int .i64 X, .int .i64 Y, .int .i64 Zm, .int .i64 X, .int .i64 Y, .int .i64 Zp] : Array Value)[j]? := rl.cell
        have fl : ∀ j, wr.frozen? ⟨W2.heap.size, j, none⟩ = false := rl.frozen
        have zl : W2.heap.size < wr.heap.size := rl.lt
        have cd : ∀ j, wr.cell? ⟨W5.heap.size, j, none⟩ = (#[.int .i64 X, .int .i64 Y, .int .i64 Z] : Array Value)[j]? := rd.cell
        have fd : ∀ j, wr.frozen? ⟨W5.heap.size, j, none⟩ = false := rd.frozen
        have zd : W5.heap.size < wr.heap.size := rd.lt
        go_wp2_with fail
        (refine (Hm3.out _).mono ?_; rintro e W21 ⟨rfl, hW21⟩)
        clear cb fb zb cl fl zl cd fd zd
        replace rb := rb.keep hW21
        replace rl := rl.keep hW21
        replace rd := rd.keep hW21
        replace kw := kw.trans (hW21.mono kw.size)
        have cb : ∀ j, W21.cell? ⟨w.heap.size, j, none⟩ = (#[.int .i64 x, .int .i64 y, .int .i64 z] : Array Value)[j]? := rb.cell
        have fb : ∀ j, W21.frozen? ⟨w.heap.size, j, none⟩ = false := rb.frozen
        have zb : w.heap.size < W21.heap.size := rb.lt
        have cl : ∀ j, W21.cell? ⟨W2.heap.size, j, none⟩ = (#[.int .i64 Xm, .int .i64 Y, .int .i64 Z, .int .i64 Xp, .int .i64 Y, .int .i64 Z, .int .i64 X, .int .i64 Ym, .int .i64 Z, .int .i64 X, .int .i64 Yp, .int .i64 Z, .int .i64 X, .int .i64 Y, .int .i64 Zm, .int .i64 X, .int .i64 Y, .int .i64 Zp] : Array Value)[j]? := rl.cell
        have fl : ∀ j, W21.frozen? ⟨W2.heap.size, j, none⟩ = false := rl.frozen
        have zl : W2.heap.size < W21.heap.size := rl.lt
        have cd : ∀ j, W21.cell? ⟨W5.heap.size, j, none⟩ = (#[.int .i64 X, .int .i64 Y, .int .i64 Z] : Array Value)[j]? := rd.cell
        have fd : ∀ j, W21.frozen? ⟨W5.heap.size, j, none⟩ = false := rd.frozen
        have zd : W5.heap.size < W21.heap.size := rd.lt
        clear hW21
        have rnew : RowAt (W21.alloc (.cells #[.int .i64 0, .int .i64 0, .int .i64 0, .int .i64 0, .int .i64 0, .int .i64 0, .int .i64 0, .int .i64 0, .int .i64 0, .int .i64 0, .int .i64 0, .int .i64 0, .int .i64 0, .int .i64 0, .int .i64 0, .int .i64 0, .int .i64 0, .int .i64 0] 45)) W21.heap.size #[.int .i64 0, .int .i64 0, .int .i64 0, .int .i64 0, .int .i64 0, .int .i64 0, .int .i64 0, .int .i64 0, .int .i64 0, .int .i64 0, .int .i64 0, .int .i64 0, .int .i64 0, .int .i64 0, .int .i64 0, .int .i64 0, .int .i64 0, .int .i64 0] 45 := RowAt.new _ _ _
        go_upto_region 10 with (refine wpList_store_row rfl 45 _ _ rfl W21.heap.size #[.int .i64 Xm, .int .i64 Yp, .int .i64 Z, .int .i64 Xp, .int .i64 Yp, .int .i64 Z, .int .i64 X, .int .i64 B3, .int .i64 Z, .int .i64 X, .int .i64 OYpp, .int .i64 Z, .int .i64 X, .int .i64 Yp, .int .i64 Zm, .int .i64 X, .int .i64 Yp, .int .i64 Zp] rfl rfl _ _ rnew i45 rfl (by simp [Value.oneCell']) ?_)
        have ynb : w.heap.size < W21.heap.size := zb
        have ynl : W2.heap.size < W21.heap.size := zl
        have ynd : W5.heap.size < W21.heap.size := zd
        replace kw : Below w.heap.size w ((W21.alloc (.cells #[.int .i64 0, .int .i64 0, .int .i64 0, .int .i64 0, .int .i64 0, .int .i64 0, .int .i64 0, .int .i64 0, .int .i64 0, .int .i64 0, .int .i64 0, .int .i64 0, .int .i64 0, .int .i64 0, .int .i64 0, .int .i64 0, .int .i64 0, .int .i64 0] 45)).setRow W21.heap.size #[.int .i64 Xm, .int .i64 Yp, .int .i64 Z, .int .i64 Xp, .int .i64 Yp, .int .i64 Z, .int .i64 X, .int .i64 B3, .int .i64 Z, .int .i64 X, .int .i64 OYpp, .int .i64 Z, .int .i64 X, .int .i64 Yp, .int .i64 Zm, .int .i64 X, .int .i64 Yp, .int .i64 Zp]) := below_setRow (al kw _) kw.size _
        replace rb : RowAt ((W21.alloc (.cells #[.int .i64 0, .int .i64 0, .int .i64 0, .int .i64 0, .int .i64 0, .int .i64 0, .int .i64 0, .int .i64 0, .int .i64 0, .int .i64 0, .int .i64 0, .int .i64 0, .int .i64 0, .int .i64 0, .int .i64 0, .int .i64 0, .int .i64 0, .int .i64 0] 45)).setRow W21.heap.size #[.int .i64 Xm, .int .i64 Yp, .int .i64 Z, .int .i64 Xp, .int .i64 Yp, .int .i64 Z, .int .i64 X, .int .i64 B3, .int .i64 Z, .int .i64 X, .int .i64 OYpp, .int .i64 Z, .int .i64 X, .int .i64 Yp, .int .i64 Zm, .int .i64 X, .int .i64 Yp, .int .i64 Zp]) (w.heap.size) #[.int .i64 x, .int .i64 y, .int .i64 z] 28 := (rb.alloc _).row_other (Nat.ne_of_lt ynb) _
        replace rl : RowAt ((W21.alloc (.cells #[.int .i64 0, .int .i64 0, .int .i64 0, .int .i64 0, .int .i64 0, .int .i64 0, .int .i64 0, .int .i64 0, .int .i64 0, .int .i64 0, .int .i64 0, .int .i64 0, .int .i64 0, .int .i64 0, .int .i64 0, .int .i64 0, .int .i64 0, .int .i64 0] 45)).setRow W21.heap.size #[.int .i64 Xm, .int .i64 Yp, .int .i64 Z, .int .i64 Xp, .int .i64 Yp, .int .i64 Z, .int .i64 X, .int .i64 B3, .int .i64 Z, .int .i64 X, .int .i64 OYpp, .int .i64 Z, .int .i64 X, .int .i64 Yp, .int .i64 Zm, .int .i64 X, .int .i64 Yp, .int .i64 Zp]) (W2.heap.size) #[.int .i64 Xm, .int .i64 Y, .int .i64 Z, .int .i64 Xp, .int .i64 Y, .int .i64 Z, .int .i64 X, .int .i64 Ym, .int .i64 Z, .int .i64 X, .int .i64 Yp, .int .i64 Z, .int .i64 X, .int .i64 Y, .int .i64 Zm, .int .i64 X, .int .i64 Y, .int .i64 Zp] 45 := (rl.alloc _).row_other (Nat.ne_of_lt ynl) _
        replace rd : RowAt ((W21.alloc (.cells #[.int .i64 0, .int .i64 0, .int .i64 0, .int .i64 0, .int .i64 0, .int .i64 0, .int .i64 0, .int .i64 0, .int .i64 0, .int .i64 0, .int .i64 0, .int .i64 0, .int .i64 0, .int .i64 0, .int .i64 0, .int .i64 0, .int .i64 0, .int .i64 0] 45)).setRow W21.heap.size #[.int .i64 Xm, .int .i64 Yp, .int .i64 Z, .int .i64 Xp, .int .i64 Yp, .int .i64 Z, .int .i64 X, .int .i64 B3, .int .i64 Z, .int .i64 X, .int .i64 OYpp, .int .i64 Z, .int .i64 X, .int .i64 Yp, .int .i64 Zm, .int .i64 X, .int .i64 Yp, .int .i64 Zp]) (W5.heap.size) #[.int .i64 X, .int .i64 Y, .int .i64 Z] 28 := (rd.alloc _).row_other (Nat.ne_of_lt ynd) _
        clear cb fb zb cl fl zl cd fd zd
        have rn : RowAt ((W21.alloc (.cells #[.int .i64 0, .int .i64 0, .int .i64 0, .int .i64 0, .int .i64 0, .int .i64 0, .int .i64 0, .int .i64 0, .int .i64 0, .int .i64 0, .int .i64 0, .int .i64 0, .int .i64 0, .int .i64 0, .int .i64 0, .int .i64 0, .int .i64 0, .int .i64 0] 45)).setRow W21.heap.size #[.int .i64 Xm, .int .i64 Yp, .int .i64 Z, .int .i64 Xp, .int .i64 Yp, .int .i64 Z, .int .i64 X, .int .i64 B3, .int .i64 Z, .int .i64 X, .int .i64 OYpp, .int .i64 Z, .int .i64 X, .int .i64 Yp, .int .i64 Zm, .int .i64 X, .int .i64 Yp, .int .i64 Zp]) (W21.heap.size) #[.int .i64 Xm, .int .i64 Yp, .int .i64 Z, .int .i64 Xp, .int .i64 Yp, .int .i64 Z, .int .i64 X, .int .i64 B3, .int .i64 Z, .int .i64 X, .int .i64 OYpp, .int .i64 Z, .int .i64 X, .int .i64 Yp, .int .i64 Zm, .int .i64 X, .int .i64 Yp, .int .i64 Zp] 45 := rnew.row _
        clear rnew
        generalize ((W21.alloc (.cells #[.int .i64 0, .int .i64 0, .int .i64 0, .int .i64 0, .int .i64 0, .int .i64 0, .int .i64 0, .int .i64 0, .int .i64 0, .int .i64 0, .int .i64 0, .int .i64 0, .int .i64 0, .int .i64 0, .int .i64 0, .int .i64 0, .int .i64 0, .int .i64 0] 45)).setRow W21.heap.size #[.int .i64 Xm, .int .i64 Yp, .int .i64 Z, .int .i64 Xp, .int .i64 Yp, .int .i64 Z, .int .i64 X, .int .i64 B3, .int .i64 Z, .int .i64 X, .int .i64 OYpp, .int .i64 Z, .int .i64 X, .int .i64 Yp, .int .i64 Zm, .int .i64 X, .int .i64 Yp, .int .i64 Zp]) = W22 at *
        have cb : ∀ j, W22.cell? ⟨w.heap.size, j, none⟩ = (#[.int .i64 x, .int .i64 y, .int .i64 z] : Array Value)[j]? := rb.cell
        have fb : ∀ j, W22.frozen? ⟨w.heap.size, j, none⟩ = false := rb.frozen
        have zb : w.heap.size < W22.heap.size := rb.lt
        have cl : ∀ j, W22.cell? ⟨W2.heap.size, j, none⟩ = (#[.int .i64 Xm, .int .i64 Y, .int .i64 Z, .int .i64 Xp, .int .i64 Y, .int .i64 Z, .int .i64 X, .int .i64 Ym, .int .i64 Z, .int .i64 X, .int .i64 Yp, .int .i64 Z, .int .i64 X, .int .i64 Y, .int .i64 Zm, .int .i64 X, .int .i64 Y, .int .i64 Zp] : Array Value)[j]? := rl.cell
        have fl : ∀ j, W22.frozen? ⟨W2.heap.size, j, none⟩ = false := rl.frozen
        have zl : W2.heap.size < W22.heap.size := rl.lt
        have cd : ∀ j, W22.cell? ⟨W5.heap.size, j, none⟩ = (#[.int .i64 X, .int .i64 Y, .int .i64 Z] : Array Value)[j]? := rd.cell
        have fd : ∀ j, W22.frozen? ⟨W5.heap.size, j, none⟩ = false := rd.frozen
        have zd : W5.heap.size < W22.heap.size := rd.lt
        have cn : ∀ j, W22.cell? ⟨W21.heap.size, j, none⟩ = (#[.int .i64 Xm, .int .i64 Yp, .int .i64 Z, .int .i64 Xp, .int .i64 Yp, .int .i64 Z, .int .i64 X, .int .i64 B3, .int .i64 Z, .int .i64 X, .int .i64 OYpp, .int .i64 Z, .int .i64 X, .int .i64 Yp, .int .i64 Zm, .int .i64 X, .int .i64 Yp, .int .i64 Zp] : Array Value)[j]? := rn.cell
        have fn : ∀ j, W22.frozen? ⟨W21.heap.size, j, none⟩ = false := rn.frozen
        have zn : W21.heap.size < W22.heap.size := rn.lt
        refine region_below 47 (by kernel_rfl) (by kernel_rfl) ?_
        simp only [List.take_succ_cons, List.take_zero, List.drop_succ_cons, List.drop_zero]
        repeat (first | (refine' InText.skip (by rfl) ?_; simp only [Act.put, List.setIfInBounds_toArray, List.set_cons_zero, List.set_cons_succ]) | (refine' InText.val (by rfl) (fun wr hr => ?_) ?_; rotate_left 1; (focus (obtain ⟨hrc, hrf⟩ := bcell hr; (go_simp <;> with_reducible rfl); done)); simp only [Act.put, List.setIfInBounds_toArray, List.set_cons_zero, List.set_cons_succ]))
        refine fun wra hra => ?_
        obtain ⟨hrca, hrfa⟩ := bcell hra
        clear cb fb zb cl fl zl cd fd zd cn fn zn
        replace rb := rb.keep hra
        replace rl := rl.keep hra
        replace rd := rd.keep hra
        replace rn := rn.keep hra
        replace kw := kw.trans (hra.mono kw.size)
        have cb : ∀ j, wra.cell? ⟨w.heap.size, j, none⟩ = (#[.int .i64 x, .int .i64 y, .int .i64 z] : Array Value)[j]? := rb.cell
        have fb : ∀ j, wra.frozen? ⟨w.heap.size, j, none⟩ = false := rb.frozen
        have zb : w.heap.size < wra.heap.size := rb.lt
        have cl : ∀ j, wra.cell? ⟨W2.heap.size, j, none⟩ = (#[.int .i64 Xm, .int .i64 Y, .int .i64 Z, .int .i64 Xp, .int .i64 Y, .int .i64 Z, .int .i64 X, .int .i64 Ym, .int .i64 Z, .int .i64 X, .int .i64 Yp, .int .i64 Z, .int .i64 X, .int .i64 Y, .int .i64 Zm, .int .i64 X, .int .i64 Y, .int .i64 Zp] : Array Value)[j]? := rl.cell
        have fl : ∀ j, wra.frozen? ⟨W2.heap.size, j, none⟩ = false := rl.frozen
        have zl : W2.heap.size < wra.heap.size := rl.lt
        have cd : ∀ j, wra.cell? ⟨W5.heap.size, j, none⟩ = (#[.int .i64 X, .int .i64 Y, .int .i64 Z] : Array Value)[j]? := rd.cell
        have fd : ∀ j, wra.frozen? ⟨W5.heap.size, j, none⟩ = false := rd.frozen
        have zd : W5.heap.size < wra.heap.size := rd.lt
        have cn : ∀ j, wra.cell? ⟨W21.heap.size, j, none⟩ = (#[.int .i64 Xm, .int .i64 Yp, .int .i64 Z, .int .i64 Xp, .int .i64 Yp, .int .i64 Z, .int .i64 X, .int .i64 B3, .int .i64 Z, .int .i64 X, .int .i64 OYpp, .int .i64 Z, .int .i64 X, .int .i64 Yp, .int .i64 Zm, .int .i64 X, .int .i64 Yp, .int .i64 Zp] : Array Value)[j]? := rn.cell
        have fn : ∀ j, wra.frozen? ⟨W21.heap.size, j, none⟩ = false := rn.frozen
        have zn : W21.heap.size < wra.heap.size := rn.lt
        clear hra hrca hrfa
        go_upto_region 11 with (fail)
        obtain ⟨e0, e1⟩ := Z3.out
        rcases e0 with e0 | e0
        · subst e0
          clear e1
          refine region_below 17 (by kernel_rfl) (by kernel_rfl) ?_
          simp only [List.take_succ_cons, List.take_zero, List.drop_succ_cons, List.drop_zero]
          repeat (first | (refine' InText.skip (by rfl) ?_; simp only [Act.put, List.setIfInBounds_toArray, List.set_cons_zero, List.set_cons_succ]) | (refine' InText.val (by rfl) (fun wr hr => ?_) ?_; rotate_left 1; (focus (obtain ⟨hrc, hrf⟩ := bcell hr; (go_simp <;> with_reducible rfl); done)); simp only [Act.put, List.setIfInBounds_toArray, List.set_cons_zero, List.set_cons_succ]))
          refine fun wrc hrc => ?_
          obtain ⟨hrcc, hrfc⟩ := bcell hrc
          clear cb fb zb cl fl zl cd fd zd cn fn zn
          replace rb := rb.keep hrc
          replace rl := rl.keep hrc
          replace rd := rd.keep hrc
          replace rn := rn.keep hrc
          replace kw := kw.trans (hrc.mono kw.size)
          have cb : ∀ j, wrc.cell? ⟨w.heap.size, j, none⟩ = (#[.int .i64 x, .int .i64 y, .int .i64 z] : Array Value)[j]? := rb.cell
          have fb : ∀ j, wrc.frozen? ⟨w.heap.size, j, none⟩ = false := rb.frozen
          have zb : w.heap.size < wrc.heap.size := rb.lt
          have cl : ∀ j, wrc.cell? ⟨W2.heap.size, j, none⟩ = (#[.int .i64 Xm, .int .i64 Y, .int .i64 Z, .int .i64 Xp, .int .i64 Y, .int .i64 Z, .int .i64 X, .int .i64 Ym, .int .i64 Z, .int .i64 X, .int .i64 Yp, .int .i64 Z, .int .i64 X, .int .i64 Y, .int .i64 Zm, .int .i64 X, .int .i64 Y, .int .i64 Zp] : Array Value)[j]? := rl.cell
          have fl : ∀ j, wrc.frozen? ⟨W2.heap.size, j, none⟩ = false := rl.frozen
          have zl : W2.heap.size < wrc.heap.size := rl.lt
          have cd : ∀ j, wrc.cell? ⟨W5.heap.size, j, none⟩ = (#[.int .i64 X, .int .i64 Y, .int .i64 Z] : Array Value)[j]? := rd.cell
          have fd : ∀ j, wrc.frozen? ⟨W5.heap.size, j, none⟩ = false := rd.frozen
          have zd : W5.heap.size < wrc.heap.size := rd.lt
          have cn : ∀ j, wrc.cell? ⟨W21.heap.size, j, none⟩ = (#[.int .i64 Xm, .int .i64 Yp, .int .i64 Z, .int .i64 Xp, .int .i64 Yp, .int .i64 Z, .int .i64 X, .int .i64 B3, .int .i64 Z, .int .i64 X, .int .i64 OYpp, .int .i64 Z, .int .i64 X, .int .i64 Yp, .int .i64 Zm, .int .i64 X, .int .i64 Yp, .int .i64 Zp] : Array Value)[j]? := rn.cell
          have fn : ∀ j, wrc.frozen? ⟨W21.heap.size, j, none⟩ = false := rn.frozen
          have zn : W21.heap.size < wrc.heap.size := rn.lt
          clear hrc hrcc hrfc
          go_wp2_with fail
          go_roundw
          case rel =>
            exact ⟨4, by omega, by go_num, by (repeat (first | with_reducible assumption | with_reducible exact Below.refl _ _ | with_reducible refine Below.drew ?_ | with_reducible refine below_drewN ?_ _ | with_reducible refine al ?_ _ | (with_reducible refine sc ?_ ?_; (focus (first | omega | (simp; done) | (simp; omega)))) | (with_reducible refine chain ?_ (by assumption)))), rb, rl, rd⟩
          case measure => simp [intOf]
        · have e2 := e1 e0
          clear e1
          subst e0
          refine region_below 17 (by kernel_rfl) (by kernel_rfl) ?_
          simp only [List.take_succ_cons, List.take_zero, List.drop_succ_cons, List.drop_zero]
          repeat (first | (refine' InText.skip (by rfl) ?_; simp only [Act.put, List.setIfInBounds_toArray, List.set_cons_zero, List.set_cons_succ]) | (refine' InText.val (by rfl) (fun wr hr => ?_) ?_; rotate_left 1; (focus (obtain ⟨hrc, hrf⟩ := bcell hr; (go_simp <;> with_reducible rfl); done)); simp only [Act.put, List.setIfInBounds_toArray, List.set_cons_zero, List.set_cons_succ]))
          refine fun wrc hrc => ?_
          obtain ⟨hrcc, hrfc⟩ := bcell hrc
          clear cb fb zb cl fl zl cd fd zd cn fn zn
          replace rb := rb.keep hrc
          replace rl := rl.keep hrc
          replace rd := rd.keep hrc
          replace rn := rn.keep hrc
          replace kw := kw.trans (hrc.mono kw.size)
          have cb : ∀ j, wrc.cell? ⟨w.heap.size, j, none⟩ = (#[.int .i64 x, .int .i64 y, .int .i64 z] : Array Value)[j]? := rb.cell
          have fb : ∀ j, wrc.frozen? ⟨w.heap.size, j, none⟩ = false := rb.frozen
          have zb : w.heap.size < wrc.heap.size := rb.lt
          have cl : ∀ j, wrc.cell? ⟨W2.heap.size, j, none⟩ = (#[.int .i64 Xm, .int .i64 Y, .int .i64 Z, .int .i64 Xp, .int .i64 Y, .int .i64 Z, .int .i64 X, .int .i64 Ym, .int .i64 Z, .int .i64 X, .int .i64 Yp, .int .i64 Z, .int .i64 X, .int .i64 Y, .int .i64 Zm, .int .i64 X, .int .i64 Y, .int .i64 Zp] : Array Value)[j]? := rl.cell
          have fl : ∀ j, wrc.frozen? ⟨W2.heap.size, j, none⟩ = false := rl.frozen
          have zl : W2.heap.size < wrc.heap.size := rl.lt
          have cd : ∀ j, wrc.cell? ⟨W5.heap.size, j, none⟩ = (#[.int .i64 X, .int .i64 Y, .int .i64 Z] : Array Value)[j]? := rd.cell
          have fd : ∀ j, wrc.frozen? ⟨W5.heap.size, j, none⟩ = false := rd.frozen
          have zd : W5.heap.size < wrc.heap.size := rd.lt
          have cn : ∀ j, wrc.cell? ⟨W21.heap.size, j, none⟩ = (#[.int .i64 Xm, .int .i64 Yp, .int .i64 Z, .int .i64 Xp, .int .i64 Yp, .int .i64 Z, .int .i64 X, .int .i64 B3, .int .i64 Z, .int .i64 X, .int .i64 OYpp, .int .i64 Z, .int .i64 X, .int .i64 Yp, .int .i64 Zm, .int .i64 X, .int .i64 Yp, .int .i64 Zp] : Array Value)[j]? := rn.cell
          have fn : ∀ j, wrc.frozen? ⟨W21.heap.size, j, none⟩ = false := rn.frozen
          have zn : W21.heap.size < wrc.heap.size := rn.lt
          clear hrc hrcc hrfc
          go_wp2_with fail
          go_roundw
          case rel =>
            exact ⟨4, by omega, by go_num, by (repeat (first | with_reducible assumption | with_reducible exact Below.refl _ _ | with_reducible refine Below.drew ?_ | with_reducible refine below_drewN ?_ _ | with_reducible refine al ?_ _ | (with_reducible refine sc ?_ ?_; (focus (first | omega | (simp; done) | (simp; omega)))) | (with_reducible refine chain ?_ (by assumption)))), rb, rl, rd⟩
          case measure => simp [intOf]
      · have cb : ∀ j, wr.cell? ⟨w.heap.size, j, none⟩ = (#[.int .i64 x, .int .i64 y, .int .i64 z] : Array Value)[j]? := rb.cell
        have fb : ∀ j, wr.frozen? ⟨w.heap.size, j, none⟩ = false := rb.frozen
        have zb : w.heap.size < wr.heap.size := rb.lt
        have cl : ∀ j, wr.cell? ⟨W2.heap.size, j, none⟩ = (#[.int .i64 Xm, .int .i64 Y, .int .i64 Z, .int .i64 Xp, .int .i64 Y, .int .i64 Z, .int .i64 X, .int .i64 Ym, .int .i64 Z, .int .i64 X, .int .i64 Yp, .int .i64 Z, .int .i64 X, .int .i64 Y, .int .i64 Zm, .int .i64 X, .int .i64 Y, .int .i64 Zp] : Array Value)[j]? := rl.cell
        have fl : ∀ j, wr.frozen? ⟨W2.heap.size, j, none⟩ = false := rl.frozen
        have zl : W2.heap.size < wr.heap.size := rl.lt
        have cd : ∀ j, wr.cell? ⟨W5.heap.size, j, none⟩ = (#[.int .i64 X, .int .i64 Y, .int .i64 Z] : Array Value)[j]? := rd.cell
        have fd : ∀ j, wr.frozen? ⟨W5.heap.size, j, none⟩ = false := rd.frozen
        have zd : W5.heap.size < wr.heap.size := rd.lt
        go_wp2_with fail
        (refine (Hm4.out _).mono ?_; rintro e W21 ⟨rfl, hW21⟩)
        clear cb fb zb cl fl zl cd fd zd
        replace rb := rb.keep hW21
        replace rl := rl.keep hW21
        replace rd := rd.keep hW21
        replace kw := kw.trans (hW21.mono kw.size)
        have cb : ∀ j, W21.cell? ⟨w.heap.size, j, none⟩ = (#[.int .i64 x, .int .i64 y, .int .i64 z] : Array Value)[j]? := rb.cell
        have fb : ∀ j, W21.frozen? ⟨w.heap.size, j, none⟩ = false := rb.frozen
        have zb : w.heap.size < W21.heap.size := rb.lt
        have cl : ∀ j, W21.cell? ⟨W2.heap.size, j, none⟩ = (#[.int .i64 Xm, .int .i64 Y, .int .i64 Z, .int .i64 Xp, .int .i64 Y, .int .i64 Z, .int .i64 X, .int .i64 Ym, .int .i64 Z, .int .i64 X, .int .i64 Yp, .int .i64 Z, .int .i64 X, .int .i64 Y, .int .i64 Zm, .int .i64 X, .int .i64 Y, .int .i64 Zp] : Array Value)[j]? := rl.cell
        have fl : ∀ j, W21.frozen? ⟨W2.heap.size, j, none⟩ = false := rl.frozen
        have zl : W2.heap.size < W21.heap.size := rl.lt
        have cd : ∀ j, W21.cell? ⟨W5.heap.size, j, none⟩ = (#[.int .i64 X, .int .i64 Y, .int .i64 Z] : Array Value)[j]? := rd.cell
        have fd : ∀ j, W21.frozen? ⟨W5.heap.size, j, none⟩ = false := rd.frozen
        have zd : W5.heap.size < W21.heap.size := rd.lt
        clear hW21
        have rnew : RowAt (W21.alloc (.cells #[.int .i64 0, .int .i64 0, .int .i64 0, .int .i64 0, .int .i64 0, .int .i64 0, .int .i64 0, .int .i64 0, .int .i64 0, .int .i64 0, .int .i64 0, .int .i64 0, .int .i64 0, .int .i64 0, .int .i64 0, .int .i64 0, .int .i64 0, .int .i64 0] 45)) W21.heap.size #[.int .i64 0, .int .i64 0, .int .i64 0, .int .i64 0, .int .i64 0, .int .i64 0, .int .i64 0, .int .i64 0, .int .i64 0, .int .i64 0, .int .i64 0, .int .i64 0, .int .i64 0, .int .i64 0, .int .i64 0, .int .i64 0, .int .i64 0, .int .i64 0] 45 := RowAt.new _ _ _
        go_upto_region 10 with (refine wpList_store_row rfl 45 _ _ rfl W21.heap.size #[.int .i64 Xm, .int .i64 Y, .int .i64 Zm, .int .i64 Xp, .int .i64 Y, .int .i64 Zm, .int .i64 X, .int .i64 Ym, .int .i64 Zm, .int .i64 X, .int .i64 Yp, .int .i64 Zm, .int .i64 X, .int .i64 Y, .int .i64 OZmm, .int .i64 X, .int .i64 Y, .int .i64 B4] rfl rfl _ _ rnew i45 rfl (by simp [Value.oneCell']) ?_)
        have ynb : w.heap.size < W21.heap.size := zb
        have ynl : W2.heap.size < W21.heap.size := zl
        have ynd : W5.heap.size < W21.heap.size := zd
        replace kw : Below w.heap.size w ((W21.alloc (.cells #[.int .i64 0, .int .i64 0, .int .i64 0, .int .i64 0, .int .i64 0, .int .i64 0, .int .i64 0, .int .i64 0, .int .i64 0, .int .i64 0, .int .i64 0, .int .i64 0, .int .i64 0, .int .i64 0, .int .i64 0, .int .i64 0, .int .i64 0, .int .i64 0] 45)).setRow W21.heap.size #[.int .i64 Xm, .int .i64 Y, .int .i64 Zm, .int .i64 Xp, .int .i64 Y, .int .i64 Zm, .int .i64 X, .int .i64 Ym, .int .i64 Zm, .int .i64 X, .int .i64 Yp, .int .i64 Zm, .int .i64 X, .int .i64 Y, .int .i64 OZmm, .int .i64 X, .int .i64 Y, .int .i64 B4]) := below_setRow (al kw _) kw.size _
        replace rb : RowAt ((W21.alloc (.cells #[.int .i64 0, .int .i64 0, .int .i64 0, .int .i64 0, .int .i64 0, .int .i64 0, .int .i64 0, .int .i64 0, .int .i64 0, .int .i64 0, .int .i64 0, .int .i64 0, .int .i64 0, .int .i64 0, .int .i64 0, .int .i64 0, .int .i64 0, .int .i64 0] 45)).setRow W21.heap.size #[.int .i64 Xm, .int .i64 Y, .int .i64 Zm, .int .i64 Xp, .int .i64 Y, .int .i64 Zm, .int .i64 X, .int .i64 Ym, .int .i64 Zm, .int .i64 X, .int .i64 Yp, .int .i64 Zm, .int .i64 X, .int .i64 Y, .int .i64 OZmm, .int .i64 X, .int .i64 Y, .int .i64 B4]) (w.heap.size) #[.int .i64 x, .int .i64 y, .int .i64 z] 28 := (rb.alloc _).row_other (Nat.ne_of_lt ynb) _
        replace rl : RowAt ((W21.alloc (.cells #[.int .i64 0, .int .i64 0, .int .i64 0, .int .i64 0, .int .i64 0, .int .i64 0, .int .i64 0, .int .i64 0, .int .i64 0, .int .i64 0, .int .i64 0, .int .i64 0, .int .i64 0, .int .i64 0, .int .i64 0, .int .i64 0, .int .i64 0, .int .i64 0] 45)).setRow W21.heap.size #[.int .i64 Xm, .int .i64 Y, .int .i64 Zm, .int .i64 Xp, .int .i64 Y, .int .i64 Zm, .int .i64 X, .int .i64 Ym, .int .i64 Zm, .int .i64 X, .int .i64 Yp, .int .i64 Zm, .int .i64 X, .int .i64 Y, .int .i64 OZmm, .int .i64 X, .int .i64 Y, .int .i64 B4]) (W2.heap.size) #[.int .i64 Xm, .int .i64 Y, .int .i64 Z, .int .i64 Xp, .int .i64 Y, .int .i64 Z, .int .i64 X, .int .i64 Ym, .int .i64 Z, .int .i64 X, .int .i64 Yp, .int .i64 Z, .int .i64 X, .int .i64 Y, .int .i64 Zm, .int .i64 X, .int .i64 Y, .int .i64 Zp] 45 := (rl.alloc _).row_other (Nat.ne_of_lt ynl) _
        replace rd : RowAt ((W21.alloc (.cells #[.int .i64 0, .int .i64 0, .int .i64 0, .int .i64 0, .int .i64 0, .int .i64 0, .int .i64 0, .int .i64 0, .int .i64 0, .int .i64 0, .int .i64 0, .int .i64 0, .int .i64 0, .int .i64 0, .int .i64 0, .int .i64 0, .int .i64 0, .int .i64 0] 45)).setRow W21.heap.size #[.int .i64 Xm, .int .i64 Y, .int .i64 Zm, .int .i64 Xp, .int .i64 Y, .int .i64 Zm, .int .i64 X, .int .i64 Ym, .int .i64 Zm, .int .i64 X, .int .i64 Yp, .int .i64 Zm, .int .i64 X, .int .i64 Y, .int .i64 OZmm, .int .i64 X, .int .i64 Y, .int .i64 B4]) (W5.heap.size) #[.int .i64 X, .int .i64 Y, .int .i64 Z] 28 := (rd.alloc _).row_other (Nat.ne_of_lt ynd) _
        clear cb fb zb cl fl zl cd fd zd
        have rn : RowAt ((W21.alloc (.cells #[.int .i64 0, .int .i64 0, .int .i64 0, .int .i64 0, .int .i64 0, .int .i64 0, .int .i64 0, .int .i64 0, .int .i64 0, .int .i64 0, .int .i64 0, .int .i64 0, .int .i64 0, .int .i64 0, .int .i64 0, .int .i64 0, .int .i64 0, .int .i64 0] 45)).setRow W21.heap.size #[.int .i64 Xm, .int .i64 Y, .int .i64 Zm, .int .i64 Xp, .int .i64 Y, .int .i64 Zm, .int .i64 X, .int .i64 Ym, .int .i64 Zm, .int .i64 X, .int .i64 Yp, .int .i64 Zm, .int .i64 X, .int .i64 Y, .int .i64 OZmm, .int .i64 X, .int .i64 Y, .int .i64 B4]) (W21.heap.size) #[.int .i64 Xm, .int .i64 Y, .int .i64 Zm, .int .i64 Xp, .int .i64 Y, .int .i64 Zm, .int .i64 X, .int .i64 Ym, .int .i64 Zm, .int .i64 X, .int .i64 Yp, .int .i64 Zm, .int .i64 X, .int .i64 Y, .int .i64 OZmm, .int .i64 X, .int .i64 Y, .int .i64 B4] 45 := rnew.row _
        clear rnew
        generalize ((W21.alloc (.cells #[.int .i64 0, .int .i64 0, .int .i64 0, .int .i64 0, .int .i64 0, .int .i64 0, .int .i64 0, .int .i64 0, .int .i64 0, .int .i64 0, .int .i64 0, .int .i64 0, .int .i64 0, .int .i64 0, .int .i64 0, .int .i64 0, .int .i64 0, .int .i64 0] 45)).setRow W21.heap.size #[.int .i64 Xm, .int .i64 Y, .int .i64 Zm, .int .i64 Xp, .int .i64 Y, .int .i64 Zm, .int .i64 X, .int .i64 Ym, .int .i64 Zm, .int .i64 X, .int .i64 Yp, .int .i64 Zm, .int .i64 X, .int .i64 Y, .int .i64 OZmm, .int .i64 X, .int .i64 Y, .int .i64 B4]) = W22 at *
        have cb : ∀ j, W22.cell? ⟨w.heap.size, j, none⟩ = (#[.int .i64 x, .int .i64 y, .int .i64 z] : Array Value)[j]? := rb.cell
        have fb : ∀ j, W22.frozen? ⟨w.heap.size, j, none⟩ = false := rb.frozen
        have zb : w.heap.size < W22.heap.size := rb.lt
        have cl : ∀ j, W22.cell? ⟨W2.heap.size, j, none⟩ = (#[.int .i64 Xm, .int .i64 Y, .int .i64 Z, .int .i64 Xp, .int .i64 Y, .int .i64 Z, .int .i64 X, .int .i64 Ym, .int .i64 Z, .int .i64 X, .int .i64 Yp, .int .i64 Z, .int .i64 X, .int .i64 Y, .int .i64 Zm, .int .i64 X, .int .i64 Y, .int .i64 Zp] : Array Value)[j]? := rl.cell
        have fl : ∀ j, W22.frozen? ⟨W2.heap.size, j, none⟩ = false := rl.frozen
        have zl : W2.heap.size < W22.heap.size := rl.lt
        have cd : ∀ j, W22.cell? ⟨W5.heap.size, j, none⟩ = (#[.int .i64 X, .int .i64 Y, .int .i64 Z] : Array Value)[j]? := rd.cell
        have fd : ∀ j, W22.frozen? ⟨W5.heap.size, j, none⟩ = false := rd.frozen
        have zd : W5.heap.size < W22.heap.size := rd.lt
        have cn : ∀ j, W22.cell? ⟨W21.heap.size, j, none⟩ = (#[.int .i64 Xm, .int .i64 Y, .int .i64 Zm, .int .i64 Xp, .int .i64 Y, .int .i64 Zm, .int .i64 X, .int .i64 Ym, .int .i64 Zm, .int .i64 X, .int .i64 Yp, .int .i64 Zm, .int .i64 X, .int .i64 Y, .int .i64 OZmm, .int .i64 X, .int .i64 Y, .int .i64 B4] : Array Value)[j]? := rn.cell
        have fn : ∀ j, W22.frozen? ⟨W21.heap.size, j, none⟩ = false := rn.frozen
        have zn : W21.heap.size < W22.heap.size := rn.lt
        refine region_below 47 (by kernel_rfl) (by kernel_rfl) ?_
        simp only [List.take_succ_cons, List.take_zero, List.drop_succ_cons, List.drop_zero]
        repeat (first | (refine' InText.skip (by rfl) ?_; simp only [Act.put, List.setIfInBounds_toArray, List.set_cons_zero, List.set_cons_succ]) | (refine' InText.val (by rfl) (fun wr hr => ?_) ?_; rotate_left 1; (focus (obtain ⟨hrc, hrf⟩ := bcell hr; (go_simp <;> with_reducible rfl); done)); simp only [Act.put, List.setIfInBounds_toArray, List.set_cons_zero, List.set_cons_succ]))
        refine fun wra hra => ?_
        obtain ⟨hrca, hrfa⟩ := bcell hra
        clear cb fb zb cl fl zl cd fd zd cn fn zn
        replace rb := rb.keep hra
        replace rl := rl.keep hra
        replace rd := rd.keep hra
        replace rn := rn.keep hra
        replace kw := kw.trans (hra.mono kw.size)
        have cb : ∀ j, wra.cell? ⟨w.heap.size, j, none⟩ = (#[.int .i64 x, .int .i64 y, .int .i64 z] : Array Value)[j]? := rb.cell
        have fb : ∀ j, wra.frozen? ⟨w.heap.size, j, none⟩ = false := rb.frozen
        have zb : w.heap.size < wra.heap.size := rb.lt
        have cl : ∀ j, wra.cell? ⟨W2.heap.size, j, none⟩ = (#[.int .i64 Xm, .int .i64 Y, .int .i64 Z, .int .i64 Xp, .int .i64 Y, .int .i64 Z, .int .i64 X, .int .i64 Ym, .int .i64 Z, .int .i64 X, .int .i64 Yp, .int .i64 Z, .int .i64 X, .int .i64 Y, .int .i64 Zm, .int .i64 X, .int .i64 Y, .int .i64 Zp] : Array Value)[j]? := rl.cell
        have fl : ∀ j, wra.frozen? ⟨W2.heap.size, j, none⟩ = false := rl.frozen
        have zl : W2.heap.size < wra.heap.size := rl.lt
        have cd : ∀ j, wra.cell? ⟨W5.heap.size, j, none⟩ = (#[.int .i64 X, .int .i64 Y, .int .i64 Z] : Array Value)[j]? := rd.cell
        have fd : ∀ j, wra.frozen? ⟨W5.heap.size, j, none⟩ = false := rd.frozen
        have zd : W5.heap.size < wra.heap.size := rd.lt
        have cn : ∀ j, wra.cell? ⟨W21.heap.size, j, none⟩ = (#[.int .i64 Xm, .int .i64 Y, .int .i64 Zm, .int .i64 Xp, .int .i64 Y, .int .i64 Zm, .int .i64 X, .int .i64 Ym, .int .i64 Zm, .int .i64 X, .int .i64 Yp, .int .i64 Zm, .int .i64 X, .int .i64 Y, .int .i64 OZmm, .int .i64 X, .int .i64 Y, .int .i64 B4] : Array Value)[j]? := rn.cell
        have fn : ∀ j, wra.frozen? ⟨W21.heap.size, j, none⟩ = false := rn.frozen
        have zn : W21.heap.size < wra.heap.size := rn.lt
        clear hra hrca hrfa
        go_upto_region 11 with (fail)
        obtain ⟨e0, e1⟩ := Z4.out
        rcases e0 with e0 | e0
        · subst e0
          clear e1
          refine region_below 17 (by kernel_rfl) (by kernel_rfl) ?_
          simp only [List.take_succ_cons, List.take_zero, List.drop_succ_cons, List.drop_zero]
          repeat (first | (refine' InText.skip (by rfl) ?_; simp only [Act.put, List.setIfInBounds_toArray, List.set_cons_zero, List.set_cons_succ]) | (refine' InText.val (by rfl) (fun wr hr => ?_) ?_; rotate_left 1; (focus (obtain ⟨hrc, hrf⟩ := bcell hr; (go_simp <;> with_reducible rfl); done)); simp only [Act.put, List.setIfInBounds_toArray, List.set_cons_zero, List.set_cons_succ]))
          refine fun wrc hrc => ?_
          obtain ⟨hrcc, hrfc⟩ := bcell hrc
          clear cb fb zb cl fl zl cd fd zd cn fn zn
          replace rb := rb.keep hrc
          replace rl := rl.keep hrc
          replace rd := rd.keep hrc
          replace rn := rn.keep hrc
          replace kw := kw.trans (hrc.mono kw.size)
          have cb : ∀ j, wrc.cell? ⟨w.heap.size, j, none⟩ = (#[.int .i64 x, .int .i64 y, .int .i64 z] : Array Value)[j]? := rb.cell
          have fb : ∀ j, wrc.frozen? ⟨w.heap.size, j, none⟩ = false := rb.frozen
          have zb : w.heap.size < wrc.heap.size := rb.lt
          have cl : ∀ j, wrc.cell? ⟨W2.heap.size, j, none⟩ = (#[.int .i64 Xm, .int .i64 Y, .int .i64 Z, .int .i64 Xp, .int .i64 Y, .int .i64 Z, .int .i64 X, .int .i64 Ym, .int .i64 Z, .int .i64 X, .int .i64 Yp, .int .i64 Z, .int .i64 X, .int .i64 Y, .int .i64 Zm, .int .i64 X, .int .i64 Y, .int .i64 Zp] : Array Value)[j]? := rl.cell
          have fl : ∀ j, wrc.frozen? ⟨W2.heap.size, j, none⟩ = false := rl.frozen
          have zl : W2.heap.size < wrc.heap.size := rl.lt
          have cd : ∀ j, wrc.cell? ⟨W5.heap.size, j, none⟩ = (#[.int .i64 X, .int .i64 Y, .int .i64 Z] : Array Value)[j]? := rd.cell
          have fd : ∀ j, wrc.frozen? ⟨W5.heap.size, j, none⟩ = false := rd.frozen
          have zd : W5.heap.size < wrc.heap.size := rd.lt
          have cn : ∀ j, wrc.cell? ⟨W21.heap.size, j, none⟩ = (#[.int .i64 Xm, .int .i64 Y, .int .i64 Zm, .int .i64 Xp, .int .i64 Y, .int .i64 Zm, .int .i64 X, .int .i64 Ym, .int .i64 Zm, .int .i64 X, .int .i64 Yp, .int .i64 Zm, .int .i64 X, .int .i64 Y, .int .i64 OZmm, .int .i64 X, .int .i64 Y, .int .i64 B4] : Array Value)[j]? := rn.cell
          have fn : ∀ j, wrc.frozen? ⟨W21.heap.size, j, none⟩ = false := rn.frozen
          have zn : W21.heap.size < wrc.heap.size := rn.lt
          clear hrc hrcc hrfc
          go_wp2_with fail
          go_roundw
          case rel =>
            exact ⟨5, by omega, by go_num, by (repeat (first | with_reducible assumption | with_reducible exact Below.refl _ _ | with_reducible refine Below.drew ?_ | with_reducible refine below_drewN ?_ _ | with_reducible refine al ?_ _ | (with_reducible refine sc ?_ ?_; (focus (first | omega | (simp; done) | (simp; omega)))) | (with_reducible refine chain ?_ (by assumption)))), rb, rl, rd⟩
          case measure => simp [intOf]
        · have e2 := e1 e0
          clear e1
          subst e0
          refine region_below 17 (by kernel_rfl) (by kernel_rfl) ?_
          simp only [List.take_succ_cons, List.take_zero, List.drop_succ_cons, List.drop_zero]
          repeat (first | (refine' InText.skip (by rfl) ?_; simp only [Act.put, List.setIfInBounds_toArray, List.set_cons_zero, List.set_cons_succ]) | (refine' InText.val (by rfl) (fun wr hr => ?_) ?_; rotate_left 1; (focus (obtain ⟨hrc, hrf⟩ := bcell hr; (go_simp <;> with_reducible rfl); done)); simp only [Act.put, List.setIfInBounds_toArray, List.set_cons_zero, List.set_cons_succ]))
          refine fun wrc hrc => ?_
          obtain ⟨hrcc, hrfc⟩ := bcell hrc
          clear cb fb zb cl fl zl cd fd zd cn fn zn
          replace rb := rb.keep hrc
          replace rl := rl.keep hrc
          replace rd := rd.keep hrc
          replace rn := rn.keep hrc
          replace kw := kw.trans (hrc.mono kw.size)
          have cb : ∀ j, wrc.cell? ⟨w.heap.size, j, none⟩ = (#[.int .i64 x, .int .i64 y, .int .i64 z] : Array Value)[j]? := rb.cell
          have fb : ∀ j, wrc.frozen? ⟨w.heap.size, j, none⟩ = false := rb.frozen
          have zb : w.heap.size < wrc.heap.size := rb.lt
          have cl : ∀ j, wrc.cell? ⟨W2.heap.size, j, none⟩ = (#[.int .i64 Xm, .int .i64 Y, .int .i64 Z, .int .i64 Xp, .int .i64 Y, .int .i64 Z, .int .i64 X, .int .i64 Ym, .int .i64 Z, .int .i64 X, .int .i64 Yp, .int .i64 Z, .int .i64 X, .int .i64 Y, .int .i64 Zm, .int .i64 X, .int .i64 Y, .int .i64 Zp] : Array Value)[j]? := rl.cell
          have fl : ∀ j, wrc.frozen? ⟨W2.heap.size, j, none⟩ = false := rl.frozen
          have zl : W2.heap.size < wrc.heap.size := rl.lt
          have cd : ∀ j, wrc.cell? ⟨W5.heap.size, j, none⟩ = (#[.int .i64 X, .int .i64 Y, .int .i64 Z] : Array Value)[j]? := rd.cell
          have fd : ∀ j, wrc.frozen? ⟨W5.heap.size, j, none⟩ = false := rd.frozen
          have zd : W5.heap.size < wrc.heap.size := rd.lt
          have cn : ∀ j, wrc.cell? ⟨W21.heap.size, j, none⟩ = (#[.int .i64 Xm, .int .i64 Y, .int .i64 Zm, .int .i64 Xp, .int .i64 Y, .int .i64 Zm, .int .i64 X, .int .i64 Ym, .int .i64 Zm, .int .i64 X, .int .i64 Yp, .int .i64 Zm, .int .i64 X, .int .i64 Y, .int .i64 OZmm, .int .i64 X, .int .i64 Y, .int .i64 B4] : Array Value)[j]? := rn.cell
          have fn : ∀ j, wrc.frozen? ⟨W21.heap.size, j, none⟩ = false := rn.frozen
          have zn : W21.heap.size < wrc.heap.size := rn.lt
          clear hrc hrcc hrfc
          go_wp2_with fail
          go_roundw
          case rel =>
            exact ⟨5, by omega, by go_num, by (repeat (first | with_reducible assumption | with_reducible exact Below.refl _ _ | with_reducible refine Below.drew ?_ | with_reducible refine below_drewN ?_ _ | with_reducible refine al ?_ _ | (with_reducible refine sc ?_ ?_; (focus (first | omega | (simp; done) | (simp; omega)))) | (with_reducible refine chain ?_ (by assumption)))), rb, rl, rd⟩
          case measure => simp [intOf]
      · have cb : ∀ j, wr.cell? ⟨w.heap.size, j, none⟩ = (#[.int .i64 x, .int .i64 y, .int .i64 z] : Array Value)[j]? := rb.cell
        have fb : ∀ j, wr.frozen? ⟨w.heap.size, j, none⟩ = false := rb.frozen
        have zb : w.heap.size < wr.heap.size := rb.lt
        have cl : ∀ j, wr.cell? ⟨W2.heap.size, j, none⟩ = (#[.int .i64 Xm, .int .i64 Y, .int .i64 Z, .int .i64 Xp, .int .i64 Y, .int .i64 Z, .int .i64 X, .int .i64 Ym, .int .i64 Z, .int .i64 X, .int .i64 Yp, .int .i64 Z, .int .i64 X, .int .i64 Y, .int .i64 Zm, .int .i64 X, .int .i64 Y, .int .i64 Zp] : Array Value)[j]? := rl.cell
        have fl : ∀ j, wr.frozen? ⟨W2.heap.size, j, none⟩ = false := rl.frozen
        have zl : W2.heap.size < wr.heap.size := rl.lt
        have cd : ∀ j, wr.cell? ⟨W5.heap.size, j, none⟩ = (#[.int .i64 X, .int .i64 Y, .int .i64 Z] : Array Value)[j]? := rd.cell
        have fd : ∀ j, wr.frozen? ⟨W5.heap.size, j, none⟩ = false := rd.frozen
        have zd : W5.heap.size < wr.heap.size := rd.lt
        go_wp2_with fail
        (refine (Hm5.out _).mono ?_; rintro e W21 ⟨rfl, hW21⟩)
        clear cb fb zb cl fl zl cd fd zd
        replace rb := rb.keep hW21
        replace rl := rl.keep hW21
        replace rd := rd.keep hW21
        replace kw := kw.trans (hW21.mono kw.size)
        have cb : ∀ j, W21.cell? ⟨w.heap.size, j, none⟩ = (#[.int .i64 x, .int .i64 y, .int .i64 z] : Array Value)[j]? := rb.cell
        have fb : ∀ j, W21.frozen? ⟨w.heap.size, j, none⟩ = false := rb.frozen
        have zb : w.heap.size < W21.heap.size := rb.lt
        have cl : ∀ j, W21.cell? ⟨W2.heap.size, j, none⟩ = (#[.int .i64 Xm, .int .i64 Y, .int .i64 Z, .int .i64 Xp, .int .i64 Y, .int .i64 Z, .int .i64 X, .int .i64 Ym, .int .i64 Z, .int .i64 X, .int .i64 Yp, .int .i64 Z, .int .i64 X, .int .i64 Y, .int .i64 Zm, .int .i64 X, .int .i64 Y, .int .i64 Zp] : Array Value)[j]? := rl.cell
        have fl : ∀ j, W21.frozen? ⟨W2.heap.size, j, none⟩ = false := rl.frozen
        have zl : W2.heap.size < W21.heap.size := rl.lt
        have cd : ∀ j, W21.cell? ⟨W5.heap.size, j, none⟩ = (#[.int .i64 X, .int .i64 Y, .int .i64 Z] : Array Value)[j]? := rd.cell
        have fd : ∀ j, W21.frozen? ⟨W5.heap.size, j, none⟩ = false := rd.frozen
        have zd : W5.heap.size < W21.heap.size := rd.lt
        clear hW21
        have rnew : RowAt (W21.alloc (.cells #[.int .i64 0, .int .i64 0, .int .i64 0, .int .i64 0, .int .i64 0, .int .i64 0, .int .i64 0, .int .i64 0, .int .i64 0, .int .i64 0, .int .i64 0, .int .i64 0, .int .i64 0, .int .i64 0, .int .i64 0, .int .i64 0, .int .i64 0, .int .i64 0] 45)) W21.heap.size #[.int .i64 0, .int .i64 0, .int .i64 0, .int .i64 0, .int .i64 0, .int .i64 0, .int .i64 0, .int .i64 0, .int .i64 0, .int .i64 0, .int .i64 0, .int .i64 0, .int .i64 0, .int .i64 0, .int .i64 0, .int .i64 0, .int .i64 0, .int .i64 0] 45 := RowAt.new _ _ _
        go_upto_region 10 with (refine wpList_store_row rfl 45 _ _ rfl W21.heap.size #[.int .i64 Xm, .int .i64 Y, .int .i64 Zp, .int .i64 Xp, .int .i64 Y, .int .i64 Zp, .int .i64 X, .int .i64 Ym, .int .i64 Zp, .int .i64 X, .int .i64 Yp, .int .i64 Zp, .int .i64 X, .int .i64 Y, .int .i64 B5, .int .i64 X, .int .i64 Y, .int .i64 OZpp] rfl rfl _ _ rnew i45 rfl (by simp [Value.oneCell']) ?_)
        have ynb : w.heap.size < W21.heap.size := zb
        have ynl : W2.heap.size < W21.heap.size := zl
        have ynd : W5.heap.size < W21.heap.size := zd
        replace kw : Below w.heap.size w ((W21.alloc (.cells #[.int .i64 0, .int .i64 0, .int .i64 0, .int .i64 0, .int .i64 0, .int .i64 0, .int .i64 0, .int .i64 0, .int .i64 0, .int .i64 0, .int .i64 0, .int .i64 0, .int .i64 0, .int .i64 0, .int .i64 0, .int .i64 0, .int .i64 0, .int .i64 0] 45)).setRow W21.heap.size #[.int .i64 Xm, .int .i64 Y, .int .i64 Zp, .int .i64 Xp, .int .i64 Y, .int .i64 Zp, .int .i64 X, .int .i64 Ym, .int .i64 Zp, .int .i64 X, .int .i64 Yp, .int .i64 Zp, .int .i64 X, .int .i64 Y, .int .i64 B5, .int .i64 X, .int .i64 Y, .int .i64 OZpp]) := below_setRow (al kw _) kw.size _
        replace rb : RowAt ((W21.alloc (.cells #[.int .i64 0, .int .i64 0, .int .i64 0, .int .i64 0, .int .i64 0, .int .i64 0, .int .i64 0, .int .i64 0, .int .i64 0, .int .i64 0, .int .i64 0, .int .i64 0, .int .i64 0, .int .i64 0, .int .i64 0, .int .i64 0, .int .i64 0, .int .i64 0] 45)).setRow W21.heap.size #[.int .i64 Xm, .int .i64 Y, .int .i64 Zp, .int .i64 Xp, .int .i64 Y, .int .i64 Zp, .int .i64 X, .int .i64 Ym, .int .i64 Zp, .int .i64 X, .int .i64 Yp, .int .i64 Zp, .int .i64 X, .int .i64 Y, .int .i64 B5, .int .i64 X, .int .i64 Y, .int .i64 OZpp]) (w.heap.size) #[.int .i64 x, .int .i64 y, .int .i64 z] 28 := (rb.alloc _).row_other (Nat.ne_of_lt ynb) _
        replace rl : RowAt ((W21.alloc (.cells #[.int .i64 0, .int .i64 0, .int .i64 0, .int .i64 0, .int .i64 0, .int .i64 0, .int .i64 0, .int .i64 0, .int .i64 0, .int .i64 0, .int .i64 0, .int .i64 0, .int .i64 0, .int .i64 0, .int .i64 0, .int .i64 0, .int .i64 0, .int .i64 0] 45)).setRow W21.heap.size #[.int .i64 Xm, .int .i64 Y, .int .i64 Zp, .int .i64 Xp, .int .i64 Y, .int .i64 Zp, .int .i64 X, .int .i64 Ym, .int .i64 Zp, .int .i64 X, .int .i64 Yp, .int .i64 Zp, .int .i64 X, .int .i64 Y, .int .i64 B5, .int .i64 X, .int .i64 Y, .int .i64 OZpp]) (W2.heap.size) #[.int .i64 Xm, .int .i64 Y, .int .i64 Z, .int .i64 Xp, .int .i64 Y, .int .i64 Z, .int .i64 X, .int .i64 Ym, .int .i64 Z, .int .i64 X, .int .i64 Yp, .int .i64 Z, .int .i64 X, .int .i64 Y, .int .i64 Zm, .int .i64 X, .int .i64 Y, .int .i64 Zp] 45 := (rl.alloc _).row_other (Nat.ne_of_lt ynl) _
        replace rd : RowAt ((W21.alloc (.cells #[.int .i64 0, .int .i64 0, .int .i64 0, .int .i64 0, .int .i64 0, .int .i64 0, .int .i64 0, .int .i64 0, .int .i64 0, .int .i64 0, .int .i64 0, .int .i64 0, .int .i64 0, .int .i64 0, .int .i64 0, .int .i64 0, .int .i64 0, .int .i64 0] 45)).setRow W21.heap.size #[.int .i64 Xm, .int .i64 Y, .int .i64 Zp, .int .i64 Xp, .int .i64 Y, .int .i64 Zp, .int .i64 X, .int .i64 Ym, .int .i64 Zp, .int .i64 X, .int .i64 Yp, .int .i64 Zp, .int .i64 X, .int .i64 Y, .int .i64 B5, .int .i64 X, .int .i64 Y, .int .i64 OZpp]) (W5.heap.size) #[.int .i64 X, .int .i64 Y, .int .i64 Z] 28 := (rd.alloc _).row_other (Nat.ne_of_lt ynd) _
        clear cb fb zb cl fl zl cd fd zd
        have rn : RowAt ((W21.alloc (.cells #[.int .i64 0, .int .i64 0, .int .i64 0, .int .i64 0, .int .i64 0, .int .i64 0, .int .i64 0, .int .i64 0, .int .i64 0, .int .i64 0, .int .i64 0, .int .i64 0, .int .i64 0, .int .i64 0, .int .i64 0, .int .i64 0, .int .i64 0, .int .i64 0] 45)).setRow W21.heap.size #[.int .i64 Xm, .int .i64 Y, .int .i64 Zp, .int .i64 Xp, .int .i64 Y, .int .i64 Zp, .int .i64 X, .int .i64 Ym, .int .i64 Zp, .int .i64 X, .int .i64 Yp, .int .i64 Zp, .int .i64 X, .int .i64 Y, .int .i64 B5, .int .i64 X, .int .i64 Y, .int .i64 OZpp]) (W21.heap.size) #[.int .i64 Xm, .int .i64 Y, .int .i64 Zp, .int .i64 Xp, .int .i64 Y, .int .i64 Zp, .int .i64 X, .int .i64 Ym, .int .i64 Zp, .int .i64 X, .int .i64 Yp, .int .i64 Zp, .int .i64 X, .int .i64 Y, .int .i64 B5, .int .i64 X, .int .i64 Y, .int .i64 OZpp] 45 := rnew.row _
        clear rnew
        generalize ((W21.alloc (.cells #[.int .i64 0, .int .i64 0, .int .i64 0, .int .i64 0, .int .i64 0, .int .i64 0, .int .i64 0, .int .i64 0, .int .i64 0, .int .i64 0, .int .i64 0, .int .i64 0, .int .i64 0, .int .i64 0, .int .i64 0, .int .i64 0, .int .i64 0, .int .i64 0] 45)).setRow W21.heap.size #[.int .i64 Xm, .int .i64 Y, .int .i64 Zp, .int .i64 Xp, .int .i64 Y, .int .i64 Zp, .int .i64 X, .int .i64 Ym, .int .i64 Zp, .int .i64 X, .int .i64 Yp, .int .i64 Zp, .int .i64 X, .int .i64 Y, .int .i64 B5, .int .i64 X, .int .i64 Y, .int .i64 OZpp]) = W22 at *
        have cb : ∀ j, W22.cell? ⟨w.heap.size, j, none⟩ = (#[.int .i64 x, .int .i64 y, .int .i64 z] : Array Value)[j]? := rb.cell
        have fb : ∀ j, W22.frozen? ⟨w.heap.size, j, none⟩ = false := rb.frozen
        have zb : w.heap.size < W22.heap.size := rb.lt
        have cl : ∀ j, W22.cell? ⟨W2.heap.size, j, none⟩ = (#[.int .i64 Xm, .int .i64 Y, .int .i64 Z, .int .i64 Xp, .int .i64 Y, .int .i64 Z, .int .i64 X, .int .i64 Ym, .int .i64 Z, .int .i64 X, .int .i64 Yp, .int .i64 Z, .int .i64 X, .int .i64 Y, .int .i64 Zm, .int .i64 X, .int .i64 Y, .int .i64 Zp] : Array Value)[j]? := rl.cell
        have fl : ∀ j, W22.frozen? ⟨W2.heap.size, j, none⟩ = false := rl.frozen
        have zl : W2.heap.size < W22.heap.size := rl.lt
        have cd : ∀ j, W22.cell? ⟨W5.heap.size, j, none⟩ = (#[.int .i64 X, .int .i64 Y, .int .i64 Z] : Array Value)[j]? := rd.cell
        have fd : ∀ j, W22.frozen? ⟨W5.heap.size, j, none⟩ = false := rd.frozen
        have zd : W5.heap.size < W22.heap.size := rd.lt
        have cn : ∀ j, W22.cell? ⟨W21.heap.size, j, none⟩ = (#[.int .i64 Xm, .int .i64 Y, .int .i64 Zp, .int .i64 Xp, .int .i64 Y, .int .i64 Zp, .int .i64 X, .int .i64 Ym, .int .i64 Zp, .int .i64 X, .int .i64 Yp, .int .i64 Zp, .int .i64 X, .int .i64 Y, .int .i64 B5, .int .i64 X, .int .i64 Y, .int .i64 OZpp] : Array Value)[j]? := rn.cell
        have fn : ∀ j, W22.frozen? ⟨W21.heap.size, j, none⟩ = false := rn.frozen
        have zn : W21.heap.size < W22.heap.size := rn.lt
        refine region_below 47 (by kernel_rfl) (by kernel_rfl) ?_
        simp only [List.take_succ_cons, List.take_zero, List.drop_succ_cons, List.drop_zero]
        repeat (first | (refine' InText.skip (by rfl) ?_; simp only [Act.put, List.setIfInBounds_toArray, List.set_cons_zero, List.set_cons_succ]) | (refine' InText.val (by rfl) (fun wr hr => ?_) ?_; rotate_left 1; (focus (obtain ⟨hrc, hrf⟩ := bcell hr; (go_simp <;> with_reducible rfl); done)); simp only [Act.put, List.setIfInBounds_toArray, List.set_cons_zero, List.set_cons_succ]))
        refine fun wra hra => ?_
        obtain ⟨hrca, hrfa⟩ := bcell hra
        clear cb fb zb cl fl zl cd fd zd cn fn zn
        replace rb := rb.keep hra
        replace rl := rl.keep hra
        replace rd := rd.keep hra
        replace rn := rn.keep hra
        replace kw := kw.trans (hra.mono kw.size)
        have cb : ∀ j, wra.cell? ⟨w.heap.size, j, none⟩ = (#[.int .i64 x, .int .i64 y, .int .i64 z] : Array Value)[j]? := rb.cell
        have fb : ∀ j, wra.frozen? ⟨w.heap.size, j, none⟩ = false := rb.frozen
        have zb : w.heap.size < wra.heap.size := rb.lt
        have cl : ∀ j, wra.cell? ⟨W2.heap.size, j, none⟩ = (#[.int .i64 Xm, .int .i64 Y, .int .i64 Z, .int .i64 Xp, .int .i64 Y, .int .i64 Z, .int .i64 X, .int .i64 Ym, .int .i64 Z, .int .i64 X, .int .i64 Yp, .int .i64 Z, .int .i64 X, .int .i64 Y, .int .i64 Zm, .int .i64 X, .int .i64 Y, .int .i64 Zp] : Array Value)[j]? := rl.cell
        have fl : ∀ j, wra.frozen? ⟨W2.heap.size, j, none⟩ = false := rl.frozen
        have zl : W2.heap.size < wra.heap.size := rl.lt
        have cd : ∀ j, wra.cell? ⟨W5.heap.size, j, none⟩ = (#[.int .i64 X, .int .i64 Y, .int .i64 Z] : Array Value)[j]? := rd.cell
        have fd : ∀ j, wra.frozen? ⟨W5.heap.size, j, none⟩ = false := rd.frozen
        have zd : W5.heap.size < wra.heap.size := rd.lt
        have cn : ∀ j, wra.cell? ⟨W21.heap.size, j, none⟩ = (#[.int .i64 Xm, .int .i64 Y, .int .i64 Zp, .int .i64 Xp, .int .i64 Y, .int .i64 Zp, .int .i64 X, .int .i64 Ym, .int .i64 Zp, .int .i64 X, .int .i64 Yp, .int .i64 Zp, .int .i64 X, .int .i64 Y, .int .i64 B5, .int .i64 X, .int .i64 Y, .int .i64 OZpp] : Array Value)[j]? := rn.cell
        have fn : ∀ j, wra.frozen? ⟨W21.heap.size, j, none⟩ = false := rn.frozen
        have zn : W21.heap.size < wra.heap.size := rn.lt
        clear hra hrca hrfa
        go_upto_region 11 with (fail)
        obtain ⟨e0, e1⟩ := Z5.out
        rcases e0 with e0 | e0
        · subst e0
          clear e1
          refine region_below 17 (by kernel_rfl) (by kernel_rfl) ?_
          simp only [List.take_succ_cons, List.take_zero, List.drop_succ_cons, List.drop_zero]
          repeat (first | (refine' InText.skip (by rfl) ?_; simp only [Act.put, List.setIfInBounds_toArray, List.set_cons_zero, List.set_cons_succ]) | (refine' InText.val (by rfl) (fun wr hr => ?_) ?_; rotate_left 1; (focus (obtain ⟨hrc, hrf⟩ := bcell hr; (go_simp <;> with_reducible rfl); done)); simp only [Act.put, List.setIfInBounds_toArray, List.set_cons_zero, List.set_cons_succ]))
          refine fun wrc hrc => ?_
          obtain ⟨hrcc, hrfc⟩ := bcell hrc
          clear cb fb zb cl fl zl cd fd zd cn fn zn
          replace rb := rb.keep hrc
          replace rl := rl.keep hrc
          replace rd := rd.keep hrc
          replace rn := rn.keep hrc
          replace kw := kw.trans (hrc.mono kw.size)
          have cb : ∀ j, wrc.cell? ⟨w.heap.size, j, none⟩ = (#[.int .i64 x, .int .i64 y, .int .i64 z] : Array Value)[j]? := rb.cell
          have fb : ∀ j, wrc.frozen? ⟨w.heap.size, j, none⟩ = false := rb.frozen
          have zb : w.heap.size < wrc.heap.size := rb.lt
          have cl : ∀ j, wrc.cell? ⟨W2.heap.size, j, none⟩ = (#[.int .i64 Xm, .int .i64 Y, .int .i64 Z, .int .i64 Xp, .int .i64 Y, .int .i64 Z, .int .i64 X, .int .i64 Ym, .int .i64 Z, .int .i64 X, .int .i64 Yp, .int .i64 Z, .int .i64 X, .int .i64 Y, .int .i64 Zm, .int .i64 X, .int .i64 Y, .int .i64 Zp] : Array Value)[j]? := rl.cell
          have fl : ∀ j, wrc.frozen? ⟨W2.heap.size, j, none⟩ = false := rl.frozen
          have zl : W2.heap.size < wrc.heap.size := rl.lt
          have cd : ∀ j, wrc.cell? ⟨W5.heap.size, j, none⟩ = (#[.int .i64 X, .int .i64 Y, .int .i64 Z] : Array Value)[j]? := rd.cell
          have fd : ∀ j, wrc.frozen? ⟨W5.heap.size, j, none⟩ = false := rd.frozen
          have zd : W5.heap.size < wrc.heap.size := rd.lt
          have cn : ∀ j, wrc.cell? ⟨W21.heap.size, j, none⟩ = (#[.int .i64 Xm, .int .i64 Y, .int .i64 Zp, .int .i64 Xp, .int .i64 Y, .int .i64 Zp, .int .i64 X, .int .i64 Ym, .int .i64 Zp, .int .i64 X, .int .i64 Yp, .int .i64 Zp, .int .i64 X, .int .i64 Y, .int .i64 B5, .int .i64 X, .int .i64 Y, .int .i64 OZpp] : Array Value)[j]? := rn.cell
          have fn : ∀ j, wrc.frozen? ⟨W21.heap.size, j, none⟩ = false := rn.frozen
          have zn : W21.heap.size < wrc.heap.size := rn.lt
          clear hrc hrcc hrfc
          go_wp2_with fail
          go_roundw
          case rel =>
            exact ⟨6, by omega, by go_num, by (repeat (first | with_reducible assumption | with_reducible exact Below.refl _ _ | with_reducible refine Below.drew ?_ | with_reducible refine below_drewN ?_ _ | with_reducible refine al ?_ _ | (with_reducible refine sc ?_ ?_; (focus (first | omega | (simp; done) | (simp; omega)))) | (with_reducible refine chain ?_ (by assumption)))), rb, rl, rd⟩
          case measure => simp [intOf]
        · have e2 := e1 e0
          clear e1
          subst e0
          refine region_below 17 (by kernel_rfl) (by kernel_rfl) ?_
          simp only [List.take_succ_cons, List.take_zero, List.drop_succ_cons, List.drop_zero]
          repeat (first | (refine' InText.skip (by rfl) ?_; simp only [Act.put, List.setIfInBounds_toArray, List.set_cons_zero, List.set_cons_succ]) | (refine' InText.val (by rfl) (fun wr hr => ?_) ?_; rotate_left 1; (focus (obtain ⟨hrc, hrf⟩ := bcell hr; (go_simp <;> with_reducible rfl); done)); simp only [Act.put, List.setIfInBounds_toArray, List.set_cons_zero, List.set_cons_succ]))
          refine fun wrc hrc => ?_
          obtain ⟨hrcc, hrfc⟩ := bcell hrc
          clear cb fb zb cl fl zl cd fd zd cn fn zn
          replace rb := rb.keep hrc
          replace rl := rl.keep hrc
          replace rd := rd.keep hrc
          replace rn := rn.keep hrc
          replace kw := kw.trans (hrc.mono kw.size)
          have cb : ∀ j, wrc.cell? ⟨w.heap.size, j, none⟩ = (#[.int .i64 x, .int .i64 y, .int .i64 z] : Array Value)[j]? := rb.cell
          have fb : ∀ j, wrc.frozen? ⟨w.heap.size, j, none⟩ = false := rb.frozen
          have zb : w.heap.size < wrc.heap.size := rb.lt
          have cl : ∀ j, wrc.cell? ⟨W2.heap.size, j, none⟩ = (#[.int .i64 Xm, .int .i64 Y, .int .i64 Z, .int .i64 Xp, .int .i64 Y, .int .i64 Z, .int .i64 X, .int .i64 Ym, .int .i64 Z, .int .i64 X, .int .i64 Yp, .int .i64 Z, .int .i64 X, .int .i64 Y, .int .i64 Zm, .int .i64 X, .int .i64 Y, .int .i64 Zp] : Array Value)[j]? := rl.cell
          have fl : ∀ j, wrc.frozen? ⟨W2.heap.size, j, none⟩ = false := rl.frozen
          have zl : W2.heap.size < wrc.heap.size := rl.lt
          have cd : ∀ j, wrc.cell? ⟨W5.heap.size, j, none⟩ = (#[.int .i64 X, .int .i64 Y, .int .i64 Z] : Array Value)[j]? := rd.cell
          have fd : ∀ j, wrc.frozen? ⟨W5.heap.size, j, none⟩ = false := rd.frozen
          have zd : W5.heap.size < wrc.heap.size := rd.lt
          have cn : ∀ j, wrc.cell? ⟨W21.heap.size, j, none⟩ = (#[.int .i64 Xm, .int .i64 Y, .int .i64 Zp, .int .i64 Xp, .int .i64 Y, .int .i64 Zp, .int .i64 X, .int .i64 Ym, .int .i64 Zp, .int .i64 X, .int .i64 Yp, .int .i64 Zp, .int .i64 X, .int .i64 Y, .int .i64 B5, .int .i64 X, .int .i64 Y, .int .i64 OZpp] : Array Value)[j]? := rn.cell
          have fn : ∀ j, wrc.frozen? ⟨W21.heap.size, j, none⟩ = false := rn.frozen
          have zn : W21.heap.size < wrc.heap.size := rn.lt
          clear hrc hrcc hrfc
          go_wp2_with fail
          go_roundw
          case rel =>
            exact ⟨6, by omega, by go_num, by (repeat (first | with_reducible assumption | with_reducible exact Below.refl _ _ | with_reducible refine Below.drew ?_ | with_reducible refine below_drewN ?_ _ | with_reducible refine al ?_ _ | (with_reducible refine sc ?_ ?_; (focus (first | omega | (simp; done) | (simp; omega)))) | (with_reducible refine chain ?_ (by assumption)))), rb, rl, rd⟩
          case measure => simp [intOf]
    · obtain rfl : k = 6 := by omega
      have cb : ∀ j, wr.cell? ⟨w.heap.size, j, none⟩ = (#[.int .i64 x, .int .i64 y, .int .i64 z] : Array Value)[j]? := rb.cell
      have fb : ∀ j, wr.frozen? ⟨w.heap.size, j, none⟩ = false := rb.frozen
      have zb : w.heap.size < wr.heap.size := rb.lt
      have cl : ∀ j, wr.cell? ⟨W2.heap.size, j, none⟩ = (#[.int .i64 Xm, .int .i64 Y, .int .i64 Z, .int .i64 Xp, .int .i64 Y, .int .i64 Z, .int .i64 X, .int .i64 Ym, .int .i64 Z, .int .i64 X, .int .i64 Yp, .int .i64 Z, .int .i64 X, .int .i64 Y, .int .i64 Zm, .int .i64 X, .int .i64 Y, .int .i64 Zp] : Array Value)[j]? := rl.cell
      have fl : ∀ j, wr.frozen? ⟨W2.heap.size, j, none⟩ = false := rl.frozen
      have zl : W2.heap.size < wr.heap.size := rl.lt
      have cd : ∀ j, wr.cell? ⟨W5.heap.size, j, none⟩ = (#[.int .i64 X, .int .i64 Y, .int .i64 Z] : Array Value)[j]? := rd.cell
      have fd : ∀ j, wr.frozen? ⟨W5.heap.size, j, none⟩ = false := rd.frozen
      have zd : W5.heap.size < wr.heap.size := rd.lt
      go_wp2_with fail
      (refine (l3_lives _).mono ?_; rintro e u1 ⟨rfl, hu1⟩)
      go_wp2
      go_ret
      exact ⟨rfl, by (repeat (first | with_reducible assumption | with_reducible exact Below.refl _ _ | with_reducible refine Below.drew ?_ | with_reducible refine below_drewN ?_ _ | with_reducible refine al ?_ _ | (with_reducible refine sc ?_ ?_; (focus (first | omega | (simp; done) | (simp; omega)))) | (with_reducible refine chain ?_ (by assumption))))⟩
theorem own : ownKnob Try.prog.godebug = none := by kernel_rfl
set_option maxRecDepth 100000 in
theorem lifted (os : Os) (started : os.Started) (H : Type) (enc : TypeId × Value → H) :
    ReturnsInHanded {} Try.checked os 6 .any (Rows.cellNearSpec.pre6 enc Try.prog Try.f6 Rows.cellNearRow.domain false) (Rows.cellNearSpec.post enc Try.prog Try.f6 false true false false) := by
  refine returnsInHanded_of_change (C := Try.checked) own started (by kernel_rfl) Try.func6
    (ChangeSpec.witness6 (enc := enc) (C := Try.checked) false ⟨#[], #[.agg #[.int .i64 0, .int .i64 0, .int .i64 0], .agg #[.int .i64 0, .int .i64 0]], []⟩ 8 (by kernel_rfl) (by kernel_rfl) (by kernel_rfl) (by kernel_rfl)) ?_
  intro W base args ds gs before hval0 hW hcnd _
  have hval : ∀ (j : Nat) t v, Try.f6.params[j]? = some t → args[j]? = some v → Value.okWide Try.prog W .any base t v := hval0
  have hW' := hW
  obtain ⟨p, q, hA0, hV, rfl, hfz, hnd⟩ := hW
  have hA : DataW.TrodAll enc Try.prog W 0 (fun _ => true) true Try.f6.params.toList args.toList ds p := hA0
  rw [Try.params6] at hA hval
  obtain ⟨v0, vs0, d0, ds0, p0, q0, hargs, rfl, rfl, h0, r0⟩ := trodAll_cons hA
  obtain ⟨v1, vs1, d1, ds1, p1, q1, rfl, rfl, rfl, h1, r1⟩ := trodAll_cons r0
  obtain ⟨rfl, rfl, rfl⟩ := trodAll_nil r1
  obtain rfl : args = #[v0, v1] := by cases args; simp_all
  obtain ⟨rfl, rfl⟩ := trodVars_none hV
  simp only [List.append_nil] at hW'
  have hlt : ∀ x ∈ p0 ++ (p1 ++ ([])), x.block < W.heap.size := fun x hx => hW'.lt x (by simpa using hx)
  have hlt0 : ∀ x ∈ p0, x.block < W.heap.size := fun x hx => hlt x (List.mem_append.2 (.inl hx))
  have hlt1 : ∀ x ∈ p1, x.block < W.heap.size := fun x hx => hlt x (List.mem_append.2 (.inr (List.mem_append.2 (.inl hx))))
  have k0 := h0
  have k1 := h1
  obtain ⟨a0, rfl, w0⟩ := open_cell (hval 0 28 v0 rfl rfl) h0
  obtain ⟨a1, rfl, w1⟩ := open_pos (hval 1 38 v1 rfl rfl) h1
  clear hA0 hval0
  refine (walk a0 w0 a1 w1 W).mono fun e W' ⟨he, hg⟩ => ?_
  subst he
  exact ⟨_, rfl, _, _, _, [], _, [], hW', (trodAll_cons_mk (shut_bool Try.underlying4 _) trodAll_mk0), (trodAll_cons_mk (Below.trod laidOut (by kernel_rfl) (of_decide_eq_true (by kernel_rfl)) k0 hg hlt0) (trodAll_cons_mk (Below.trod laidOut (by kernel_rfl) (of_decide_eq_true (by kernel_rfl)) k1 hg hlt1) trodAll_mk0)), rfl, hg.frame _, fun h => by cases h⟩
theorem over : Rows.cellNearRow.holds Try.pinned (OpenSpec.ofChange Rows.cellNearSpec) :=
  OpenClaim.holds_of_wide 6 Try.f6 rfl rfl rfl rfl rfl rfl rfl ⟨rfl, rfl, rfl, rfl, rfl⟩ rfl rfl rfl rfl rfl (by kernel_rfl) Try.func6 (by kernel_rfl)
    (of_decide_eq_true (by kernel_rfl)) (by unfold Func.isWrapper; first | (rw [if_pos (by decide +kernel)]; kernel_rfl) | (rw [if_neg (by decide +kernel)]; exact ⟨rfl, rfl⟩))
    (fun os started H enc _ => lifted os started H enc)
theorem proved : Rows.CellNearSaid := over
#print axioms proved
end Go.Proofs.Ytenpcmhfbbfpeaa.cellNear
