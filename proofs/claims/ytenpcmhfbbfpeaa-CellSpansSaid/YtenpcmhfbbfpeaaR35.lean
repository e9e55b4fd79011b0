/- Contracts of layer 2's reference: Small. -/
import Derived.Test.YtenpcmhfbbfpeaaR33
set_option linter.unusedVariables false
set_option linter.unusedSimpArgs false
namespace Go.Proofs.Ytenpcmhfbbfpeaa
open Go.ChangeShapes Go.WideShapes Go.ChangeAt Go.RowKit
/-- A number near 0, and one a little beyond. -/
def nearF (n : Int) : Int := aroundF n 524289 - 262144
def widF (n : Int) : Int := aroundF n 196609
abbrev smallV (x y z x' y' z' : Int) : Value := boxV (nearF x) (nearF y) (nearF z) (nearF x + widF x') (nearF y + widF y') (nearF z + widF z')
theorem nearF_bd (n : Int) : -262144 ≤ nearF n ∧ nearF n ≤ 262144 := by
  have := around_bd n 524289 (by omega); unfold nearF; omega
theorem widF_bd (n : Int) : 0 ≤ widF n ∧ widF n ≤ 196608 := by
  have := around_bd n 196609 (by omega); unfold widF; omega
set_option maxHeartbeats 4000000 in
theorem r2_small (x y z x' y' z' : Int) (hx : i64 x) (hy : i64 y) (hz : i64 z) (hx' : i64 x') (hy' : i64 y') (hz' : i64 z') (w : World) : Calls Try.prog 38 #[boxV x y z x' y' z', .int .i64 4, .int .i64 3] w fun e w' =>
    e = .returned (smallV x y z x' y' z') ∧ Below w.heap.size w w' := by
  have i31 : (Try.prog.info? 31).map (·.size) = some 6 := by kernel_rfl
  have bA := around_bd x 524289 (by omega)
  have bD := around_bd x' 196609 (by omega)
  have kA := fun k => r_around x 524289 hx.1 hx.2 (by omega) (by omega) k
  have kD := fun k => r_around x' 196609 hx'.1 hx'.2 (by omega) (by omega) k
  have bB := around_bd y 524289 (by omega)
  have bE := around_bd y' 196609 (by omega)
  have kB := fun k => r_around y 524289 hy.1 hy.2 (by omega) (by omega) k
  have kE := fun k => r_around y' 196609 hy'.1 hy'.2 (by omega) (by omega) k
  have bC := around_bd z 524289 (by omega)
  have bF := around_bd z' 196609 (by omega)
  have kC := fun k => r_around z 524289 hz.1 hz.2 (by omega) (by omega) k
  have kF := fun k => r_around z' 196609 hz'.1 hz'.2 (by omega) (by omega) k
  unfold smallV nearF widF
  generalize aroundF x 524289 = A at *
  generalize aroundF x' 196609 = D at *
  generalize aroundF y 524289 = B at *
  generalize aroundF y' 196609 = E at *
  generalize aroundF z 524289 = C at *
  generalize aroundF z' 196609 = F at *
  have a0 := fun k => to_v (r2_axis x y z 0 k) (congrArg (Value.int .i64) (ax0 x y z))
  have e0 := fun k => to_v (r2_axis x' y' z' 0 k) (congrArg (Value.int .i64) (ax0 x' y' z'))
  have n0 := fun k => to_v (r2_with (0) (0) (0) 0 (A - 262144) k) (vec_eq (u := A - 262144) (v := 0) (t := 0) (by simpa using near_cut (by omega)) rfl rfl)
  have m0 := fun k => to_v (r2_with (0) (0) (0) 0 (A - 262144 + D) k) (vec_eq (u := A - 262144 + D) (v := 0) (t := 0) (by simpa using near_cut (by omega)) rfl rfl)
  have a1 := fun k => to_v (r2_axis x y z 1 k) (congrArg (Value.int .i64) (ax1 x y z))
  have e1 := fun k => to_v (r2_axis x' y' z' 1 k) (congrArg (Value.int .i64) (ax1 x' y' z'))
  have n1 := fun k => to_v (r2_with (A - 262144) (0) (0) 1 (B - 262144) k) (vec_eq (u := A - 262144) (v := B - 262144) (t := 0) rfl (by simpa using near_cut (by omega)) rfl)
  have m1 := fun k => to_v (r2_with (A - 262144 + D) (0) (0) 1 (B - 262144 + E) k) (vec_eq (u := A - 262144 + D) (v := B - 262144 + E) (t := 0) rfl (by simpa using near_cut (by omega)) rfl)
  have a2 := fun k => to_v (r2_axis x y z 2 k) (congrArg (Value.int .i64) (ax2 x y z))
  have e2 := fun k => to_v (r2_axis x' y' z' 2 k) (congrArg (Value.int .i64) (ax2 x' y' z'))
  have n2 := fun k => to_v (r2_with (A - 262144) (B - 262144) (0) 2 (C - 262144) k) (vec_eq (u := A - 262144) (v := B - 262144) (t := C - 262144) rfl rfl (by simpa using near_cut (by omega)))
  have m2 := fun k => to_v (r2_with (A - 262144 + D) (B - 262144 + E) (0) 2 (C - 262144 + F) k) (vec_eq (u := A - 262144 + D) (v := B - 262144 + E) (t := C - 262144 + F) rfl rfl (by simpa using near_cut (by omega)))
  have HkA := Lib.hid kA
  have HkD := Lib.hid kD
  have HkB := Lib.hid kB
  have HkE := Lib.hid kE
  have HkC := Lib.hid kC
  have HkF := Lib.hid kF
  have Ha0 := Lib.hid a0
  have He0 := Lib.hid e0
  have Hn0 := Lib.hid n0
  have Hm0 := Lib.hid m0
  have Ha1 := Lib.hid a1
  have He1 := Lib.hid e1
  have Hn1 := Lib.hid n1
  have Hm1 := Lib.hid m1
  have Ha2 := Lib.hid a2
  have He2 := Lib.hid e2
  have Hn2 := Lib.hid n2
  have Hm2 := Lib.hid m2
  clear kA kD kB kE kC kF a0 e0 n0 m0 a1 e1 n1 m1 a2 e2 n2 m2
  go_enter Try.func38, Try.ntmps38
  go_wp2_with fail
  have rb : RowAt (w.alloc (.cells #[.int .i64 x, .int .i64 y, .int .i64 z, .int .i64 (x'), .int .i64 (y'), .int .i64 (z')] 31)) (w.heap.size) #[.int .i64 x, .int .i64 y, .int .i64 z, .int .i64 (x'), .int .i64 (y'), .int .i64 (z')] 31 := RowAt.make _ _ _ (by simp)
  have rb : RowAt ((w.alloc (.cells #[.int .i64 x, .int .i64 y, .int .i64 z, .int .i64 (x'), .int .i64 (y'), .int .i64 (z')] 31)).alloc (.cells #[.int .i64 0, .int .i64 0, .int .i64 0, .int .i64 0, .int .i64 0, .int .i64 0] 31)) (w.heap.size) #[.int .i64 x, .int .i64 y, .int .i64 z, .int .i64 (x'), .int .i64 (y'), .int .i64 (z')] 31 := rb.alloc _
  have rr : RowAt ((w.alloc (.cells #[.int .i64 x, .int .i64 y, .int .i64 z, .int .i64 (x'), .int .i64 (y'), .int .i64 (z')] 31)).alloc (.cells #[.int .i64 0, .int .i64 0, .int .i64 0, .int .i64 0, .int .i64 0, .int .i64 0] 31)) (w.heap.size + 1) #[.int .i64 0, .int .i64 0, .int .i64 0, .int .i64 0, .int .i64 0, .int .i64 0] 31 := RowAt.make _ _ _ (by simp)
  have rb : RowAt (((w.alloc (.cells #[.int .i64 x, .int .i64 y, .int .i64 z, .int .i64 (x'), .int .i64 (y'), .int .i64 (z')] 31)).alloc (.cells #[.int .i64 0, .int .i64 0, .int .i64 0, .int .i64 0, .int .i64 0, .int .i64 0] 31)).alloc (.cells #[.int .i64 0, .int .i64 0, .int .i64 0, .int .i64 0, .int .i64 0, .int .i64 0] 31)) (w.heap.size) #[.int .i64 x, .int .i64 y, .int .i64 z, .int .i64 (x'), .int .i64 (y'), .int .i64 (z')] 31 := rb.alloc _
  have rr : RowAt (((w.alloc (.cells #[.int .i64 x, .int .i64 y, .int .i64 z, .int .i64 (x'), .int .i64 (y'), .int .i64 (z')] 31)).alloc (.cells #[.int .i64 0, .int .i64 0, .int .i64 0, .int .i64 0, .int .i64 0, .int .i64 0] 31)).alloc (.cells #[.int .i64 0, .int .i64 0, .int .i64 0, .int .i64 0, .int .i64 0, .int .i64 0] 31)) (w.heap.size + 1) #[.int .i64 0, .int .i64 0, .int .i64 0, .int .i64 0, .int .i64 0, .int .i64 0] 31 := rr.alloc _
  have ro : RowAt (((w.alloc (.cells #[.int .i64 x, .int .i64 y, .int .i64 z, .int .i64 (x'), .int .i64 (y'), .int .i64 (z')] 31)).alloc (.cells #[.int .i64 0, .int .i64 0, .int .i64 0, .int .i64 0, .int .i64 0, .int .i64 0] 31)).alloc (.cells #[.int .i64 0, .int .i64 0, .int .i64 0, .int .i64 0, .int .i64 0, .int .i64 0] 31)) (w.heap.size + 1 + 1) #[.int .i64 0, .int .i64 0, .int .i64 0, .int .i64 0, .int .i64 0, .int .i64 0] 31 := RowAt.make _ _ _ (by simp)
  have kw : Below w.heap.size w (((w.alloc (.cells #[.int .i64 x, .int .i64 y, .int .i64 z, .int .i64 (x'), .int .i64 (y'), .int .i64 (z')] 31)).alloc (.cells #[.int .i64 0, .int .i64 0, .int .i64 0, .int .i64 0, .int .i64 0, .int .i64 0] 31)).alloc (.cells #[.int .i64 0, .int .i64 0, .int .i64 0, .int .i64 0, .int .i64 0, .int .i64 0] 31)) := by (repeat (first | with_reducible assumption | with_reducible exact Below.refl _ _ | with_reducible refine Below.drew ?_ | with_reducible refine below_drewN ?_ _ | with_reducible refine al ?_ _ | (with_reducible refine sc ?_ ?_; (focus (first | omega | (simp; done) | (simp; omega)))) | (with_reducible refine chain ?_ (by assumption))))
  generalize (((w.alloc (.cells #[.int .i64 x, .int .i64 y, .int .i64 z, .int .i64 (x'), .int .i64 (y'), .int .i64 (z')] 31)).alloc (.cells #[.int .i64 0, .int .i64 0, .int .i64 0, .int .i64 0, .int .i64 0, .int .i64 0] 31)).alloc (.cells #[.int .i64 0, .int .i64 0, .int .i64 0, .int .i64 0, .int .i64 0, .int .i64 0] 31)) = W1 at *
  have cb : ∀ j, W1.cell? ⟨w.heap.size, j, none⟩ = (#[.int .i64 x, .int .i64 y, .int .i64 z, .int .i64 (x'), .int .i64 (y'), .int .i64 (z')] : Array Value)[j]? := rb.cell
  have fb : ∀ j, W1.frozen? ⟨w.heap.size, j, none⟩ = false := rb.frozen
  have zb : w.heap.size < W1.heap.size := rb.lt
  have cr : ∀ j, W1.cell? ⟨w.heap.size + 1, j, none⟩ = (#[.int .i64 0, .int .i64 0, .int .i64 0, .int .i64 0, .int .i64 0, .int .i64 0] : Array Value)[j]? := rr.cell
  have fr : ∀ j, W1.frozen? ⟨w.heap.size + 1, j, none⟩ = false := rr.frozen
  have zr : w.heap.size + 1 < W1.heap.size := rr.lt
  have co : ∀ j, W1.cell? ⟨w.heap.size + 1 + 1, j, none⟩ = (#[.int .i64 0, .int .i64 0, .int .i64 0, .int .i64 0, .int .i64 0, .int .i64 0] : Array Value)[j]? := ro.cell
  have fo : ∀ j, W1.frozen? ⟨w.heap.size + 1 + 1, j, none⟩ = false := ro.frozen
  have zo : w.heap.size + 1 + 1 < W1.heap.size := ro.lt
  refine wp_loop_rounds 4 ?_
  rw [rounds_succ]
  go_wp2_with fail
  (refine (Ha0.out _).mono ?_; rintro e W2 ⟨rfl, hW2⟩)
  clear cb fb zb cr fr zr co fo zo
  replace rb := rb.keep hW2
  replace rr := rr.keep hW2
  replace ro := ro.keep hW2
  replace kw := kw.trans (hW2.mono kw.size)
  have cb : ∀ j, W2.cell? ⟨w.heap.size, j, none⟩ = (#[.int .i64 x, .int .i64 y, .int .i64 z, .int .i64 (x'), .int .i64 (y'), .int .i64 (z')] : Array Value)[j]? := rb.cell
  have fb : ∀ j, W2.frozen? ⟨w.heap.size, j, none⟩ = false := rb.frozen
  have zb : w.heap.size < W2.heap.size := rb.lt
  have cr : ∀ j, W2.cell? ⟨w.heap.size + 1, j, none⟩ = (#[.int .i64 0, .int .i64 0, .int .i64 0, .int .i64 0, .int .i64 0, .int .i64 0] : Array Value)[j]? := rr.cell
  have fr : ∀ j, W2.frozen? ⟨w.heap.size + 1, j, none⟩ = false := rr.frozen
  have zr : w.heap.size + 1 < W2.heap.size := rr.lt
  have co : ∀ j, W2.cell? ⟨w.heap.size + 1 + 1, j, none⟩ = (#[.int .i64 0, .int .i64 0, .int .i64 0, .int .i64 0, .int .i64 0, .int .i64 0] : Array Value)[j]? := ro.cell
  have fo : ∀ j, W2.frozen? ⟨w.heap.size + 1 + 1, j, none⟩ = false := ro.frozen
  have zo : w.heap.size + 1 + 1 < W2.heap.size := ro.lt
  clear hW2
  go_wp2_with (go_at_call 29; refine (HkA.out _).mono ?_; rintro e w' ⟨rfl, rfl⟩)
  (refine (He0.out _).mono ?_; rintro e W3 ⟨rfl, hW3⟩)
  clear cb fb zb cr fr zr co fo zo
  replace rb := rb.keep hW3
  replace rr := rr.keep hW3
  replace ro := ro.keep hW3
  replace kw := kw.trans (hW3.mono kw.size)
  have cb : ∀ j, W3.cell? ⟨w.heap.size, j, none⟩ = (#[.int .i64 x, .int .i64 y, .int .i64 z, .int .i64 (x'), .int .i64 (y'), .int .i64 (z')] : Array Value)[j]? := rb.cell
  have fb : ∀ j, W3.frozen? ⟨w.heap.size, j, none⟩ = false := rb.frozen
  have zb : w.heap.size < W3.heap.size := rb.lt
  have cr : ∀ j, W3.cell? ⟨w.heap.size + 1, j, none⟩ = (#[.int .i64 0, .int .i64 0, .int .i64 0, .int .i64 0, .int .i64 0, .int .i64 0] : Array Value)[j]? := rr.cell
  have fr : ∀ j, W3.frozen? ⟨w.heap.size + 1, j, none⟩ = false := rr.frozen
  have zr : w.heap.size + 1 < W3.heap.size := rr.lt
  have co : ∀ j, W3.cell? ⟨w.heap.size + 1 + 1, j, none⟩ = (#[.int .i64 0, .int .i64 0, .int .i64 0, .int .i64 0, .int .i64 0, .int .i64 0] : Array Value)[j]? := ro.cell
  have fo : ∀ j, W3.frozen? ⟨w.heap.size + 1 + 1, j, none⟩ = false := ro.frozen
  have zo : w.heap.size + 1 + 1 < W3.heap.size := ro.lt
  clear hW3
  go_wp2_with (go_at_call 29; refine (HkD.out _).mono ?_; rintro e w' ⟨rfl, rfl⟩)
  (refine (Hn0.out _).mono ?_; rintro e W4 ⟨rfl, hW4⟩)
  clear cb fb zb cr fr zr co fo zo
  replace rb := rb.keep hW4
  replace rr := rr.keep hW4
  replace ro := ro.keep hW4
  replace kw := kw.trans (hW4.mono kw.size)
  have cb : ∀ j, W4.cell? ⟨w.heap.size, j, none⟩ = (#[.int .i64 x, .int .i64 y, .int .i64 z, .int .i64 (x'), .int .i64 (y'), .int .i64 (z')] : Array Value)[j]? := rb.cell
  have fb : ∀ j, W4.frozen? ⟨w.heap.size, j, none⟩ = false := rb.frozen
  have zb : w.heap.size < W4.heap.size := rb.lt
  have cr : ∀ j, W4.cell? ⟨w.heap.size + 1, j, none⟩ = (#[.int .i64 0, .int .i64 0, .int .i64 0, .int .i64 0, .int .i64 0, .int .i64 0] : Array Value)[j]? := rr.cell
  have fr : ∀ j, W4.frozen? ⟨w.heap.size + 1, j, none⟩ = false := rr.frozen
  have zr : w.heap.size + 1 < W4.heap.size := rr.lt
  have co : ∀ j, W4.cell? ⟨w.heap.size + 1 + 1, j, none⟩ = (#[.int .i64 0, .int .i64 0, .int .i64 0, .int .i64 0, .int .i64 0, .int .i64 0] : Array Value)[j]? := ro.cell
  have fo : ∀ j, W4.frozen? ⟨w.heap.size + 1 + 1, j, none⟩ = false := ro.frozen
  have zo : w.heap.size + 1 + 1 < W4.heap.size := ro.lt
  clear hW4
  go_wp2_with fail
  replace kw : Below w.heap.size w (((W4.setCell ⟨w.heap.size + 1 + 1, 0, none⟩ (.int .i64 (A - 262144))).setCell ⟨w.heap.size + 1 + 1, 1, none⟩ (.int .i64 0)).setCell ⟨w.heap.size + 1 + 1, 2, none⟩ (.int .i64 0)) := by (repeat (first | with_reducible assumption | with_reducible exact Below.refl _ _ | with_reducible refine Below.drew ?_ | with_reducible refine below_drewN ?_ _ | with_reducible refine al ?_ _ | (with_reducible refine sc ?_ ?_; (focus (first | omega | (simp; done) | (simp; omega)))) | (with_reducible refine chain ?_ (by assumption))))
  replace rb : RowAt (((W4.setCell ⟨w.heap.size + 1 + 1, 0, none⟩ (.int .i64 (A - 262144))).setCell ⟨w.heap.size + 1 + 1, 1, none⟩ (.int .i64 0)).setCell ⟨w.heap.size + 1 + 1, 2, none⟩ (.int .i64 0)) (w.heap.size) #[.int .i64 x, .int .i64 y, .int .i64 z, .int .i64 (x'), .int .i64 (y'), .int .i64 (z')] 31 := (((rb.other (p := ⟨w.heap.size + 1 + 1, 0, none⟩) (by first | omega | (simp; done) | (simp; omega)) (.int .i64 (A - 262144))).other (p := ⟨w.heap.size + 1 + 1, 1, none⟩) (by first | omega | (simp; done) | (simp; omega)) (.int .i64 0)).other (p := ⟨w.heap.size + 1 + 1, 2, none⟩) (by first | omega | (simp; done) | (simp; omega)) (.int .i64 0))
  replace rr : RowAt (((W4.setCell ⟨w.heap.size + 1 + 1, 0, none⟩ (.int .i64 (A - 262144))).setCell ⟨w.heap.size + 1 + 1, 1, none⟩ (.int .i64 0)).setCell ⟨w.heap.size + 1 + 1, 2, none⟩ (.int .i64 0)) (w.heap.size + 1) #[.int .i64 0, .int .i64 0, .int .i64 0, .int .i64 0, .int .i64 0, .int .i64 0] 31 := (((rr.other (p := ⟨w.heap.size + 1 + 1, 0, none⟩) (by first | omega | (simp; done) | (simp; omega)) (.int .i64 (A - 262144))).other (p := ⟨w.heap.size + 1 + 1, 1, none⟩) (by first | omega | (simp; done) | (simp; omega)) (.int .i64 0)).other (p := ⟨w.heap.size + 1 + 1, 2, none⟩) (by first | omega | (simp; done) | (simp; omega)) (.int .i64 0))
  replace ro : RowAt (((W4.setCell ⟨w.heap.size + 1 + 1, 0, none⟩ (.int .i64 (A - 262144))).setCell ⟨w.heap.size + 1 + 1, 1, none⟩ (.int .i64 0)).setCell ⟨w.heap.size + 1 + 1, 2, none⟩ (.int .i64 0)) (w.heap.size + 1 + 1) #[.int .i64 (A - 262144), .int .i64 0, .int .i64 0, .int .i64 0, .int .i64 0, .int .i64 0] 31 := (((ro.set 0 (.int .i64 (A - 262144))).set 1 (.int .i64 0)).set 2 (.int .i64 0))
  clear cb fb zb cr fr zr co fo zo
  generalize (((W4.setCell ⟨w.heap.size + 1 + 1, 0, none⟩ (.int .i64 (A - 262144))).setCell ⟨w.heap.size + 1 + 1, 1, none⟩ (.int .i64 0)).setCell ⟨w.heap.size + 1 + 1, 2, none⟩ (.int .i64 0)) = W5 at *
  have cb : ∀ j, W5.cell? ⟨w.heap.size, j, none⟩ = (#[.int .i64 x, .int .i64 y, .int .i64 z, .int .i64 (x'), .int .i64 (y'), .int .i64 (z')] : Array Value)[j]? := rb.cell
  have fb : ∀ j, W5.frozen? ⟨w.heap.size, j, none⟩ = false := rb.frozen
  have zb : w.heap.size < W5.heap.size := rb.lt
  have cr : ∀ j, W5.cell? ⟨w.heap.size + 1, j, none⟩ = (#[.int .i64 0, .int .i64 0, .int .i64 0, .int .i64 0, .int .i64 0, .int .i64 0] : Array Value)[j]? := rr.cell
  have fr : ∀ j, W5.frozen? ⟨w.heap.size + 1, j, none⟩ = false := rr.frozen
  have zr : w.heap.size + 1 < W5.heap.size := rr.lt
  have co : ∀ j, W5.cell? ⟨w.heap.size + 1 + 1, j, none⟩ = (#[.int .i64 (A - 262144), .int .i64 0, .int .i64 0, .int .i64 0, .int .i64 0, .int .i64 0] : Array Value)[j]? := ro.cell
  have fo : ∀ j, W5.frozen? ⟨w.heap.size + 1 + 1, j, none⟩ = false := ro.frozen
  have zo : w.heap.size + 1 + 1 < W5.heap.size := ro.lt
  (refine (Hm0.out _).mono ?_; rintro e W6 ⟨rfl, hW6⟩)
  clear cb fb zb cr fr zr co fo zo
  replace rb := rb.keep hW6
  replace rr := rr.keep hW6
  replace ro := ro.keep hW6
  replace kw := kw.trans (hW6.mono kw.size)
  have cb : ∀ j, W6.cell? ⟨w.heap.size, j, none⟩ = (#[.int .i64 x, .int .i64 y, .int .i64 z, .int .i64 (x'), .int .i64 (y'), .int .i64 (z')] : Array Value)[j]? := rb.cell
  have fb : ∀ j, W6.frozen? ⟨w.heap.size, j, none⟩ = false := rb.frozen
  have zb : w.heap.size < W6.heap.size := rb.lt
  have cr : ∀ j, W6.cell? ⟨w.heap.size + 1, j, none⟩ = (#[.int .i64 0, .int .i64 0, .int .i64 0, .int .i64 0, .int .i64 0, .int .i64 0] : Array Value)[j]? := rr.cell
  have fr : ∀ j, W6.frozen? ⟨w.heap.size + 1, j, none⟩ = false := rr.frozen
  have zr : w.heap.size + 1 < W6.heap.size := rr.lt
  have co : ∀ j, W6.cell? ⟨w.heap.size + 1 + 1, j, none⟩ = (#[.int .i64 (A - 262144), .int .i64 0, .int .i64 0, .int .i64 0, .int .i64 0, .int .i64 0] : Array Value)[j]? := ro.cell
  have fo : ∀ j, W6.frozen? ⟨w.heap.size + 1 + 1, j, none⟩ = false := ro.frozen
  have zo : w.heap.size + 1 + 1 < W6.heap.size := ro.lt
  clear hW6
  go_wp2_with fail
  replace kw : Below w.heap.size w (((W6.setCell ⟨w.heap.size + 1 + 1, 3, none⟩ (.int .i64 (A - 262144 + D))).setCell ⟨w.heap.size + 1 + 1, 4, none⟩ (.int .i64 0)).setCell ⟨w.heap.size + 1 + 1, 5, none⟩ (.int .i64 0)) := by (repeat (first | with_reducible assumption | with_reducible exact Below.refl _ _ | with_reducible refine Below.drew ?_ | with_reducible refine below_drewN ?_ _ | with_reducible refine al ?_ _ | (with_reducible refine sc ?_ ?_; (focus (first | omega | (simp; done) | (simp; omega)))) | (with_reducible refine chain ?_ (by assumption))))
  replace rb : RowAt (((W6.setCell ⟨w.heap.size + 1 + 1, 3, none⟩ (.int .i64 (A - 262144 + D))).setCell ⟨w.heap.size + 1 + 1, 4, none⟩ (.int .i64 0)).setCell ⟨w.heap.size + 1 + 1, 5, none⟩ (.int .i64 0)) (w.heap.size) #[.int .i64 x, .int .i64 y, .int .i64 z, .int .i64 (x'), .int .i64 (y'), .int .i64 (z')] 31 := (((rb.other (p := ⟨w.heap.size + 1 + 1, 3, none⟩) (by first | omega | (simp; done) | (simp; omega)) (.int .i64 (A - 262144 + D))).other (p := ⟨w.heap.size + 1 + 1, 4, none⟩) (by first | omega | (simp; done) | (simp; omega)) (.int .i64 0)).other (p := ⟨w.heap.size + 1 + 1, 5, none⟩) (by first | omega | (simp; done) | (simp; omega)) (.int .i64 0))
  replace rr : RowAt (((W6.setCell ⟨w.heap.size + 1 + 1, 3, none⟩ (.int .i64 (A - 262144 + D))).setCell ⟨w.heap.size + 1 + 1, 4, none⟩ (.int .i64 0)).setCell ⟨w.heap.size + 1 + 1, 5, none⟩ (.int .i64 0)) (w.heap.size + 1) #[.int .i64 0, .int .i64 0, .int .i64 0, .int .i64 0, .int .i64 0, .int .i64 0] 31 := (((rr.other (p := ⟨w.heap.size + 1 + 1, 3, none⟩) (by first | omega | (simp; done) | (simp; omega)) (.int .i64 (A - 262144 + D))).other (p := ⟨w.heap.size + 1 + 1, 4, none⟩) (by first | omega | (simp; done) | (simp; omega)) (.int .i64 0)).other (p := ⟨w.heap.size + 1 + 1, 5, none⟩) (by first | omega | (simp; done) | (simp; omega)) (.int .i64 0))
  replace ro : RowAt (((W6.setCell ⟨w.heap.size + 1 + 1, 3, none⟩ (.int .i64 (A - 262144 + D))).setCell ⟨w.heap.size + 1 + 1, 4, none⟩ (.int .i64 0)).setCell ⟨w.heap.size + 1 + 1, 5, none⟩ (.int .i64 0)) (w.heap.size + 1 + 1) #[.int .i64 (A - 262144), .int .i64 0, .int .i64 0, .int .i64 (A - 262144 + D), .int .i64 0, .int .i64 0] 31 := (((ro.set 3 (.int .i64 (A - 262144 + D))).set 4 (.int .i64 0)).set 5 (.int .i64 0))
  clear cb fb zb cr fr zr co fo zo
  generalize (((W6.setCell ⟨w.heap.size + 1 + 1, 3, none⟩ (.int .i64 (A - 262144 + D))).setCell ⟨w.heap.size + 1 + 1, 4, none⟩ (.int .i64 0)).setCell ⟨w.heap.size + 1 + 1, 5, none⟩ (.int .i64 0)) = W7 at *
  have cb : ∀ j, W7.cell? ⟨w.heap.size, j, none⟩ = (#[.int .i64 x, .int .i64 y, .int .i64 z, .int .i64 (x'), .int .i64 (y'), .int .i64 (z')] : Array Value)[j]? := rb.cell
  have fb : ∀ j, W7.frozen? ⟨w.heap.size, j, none⟩ = false := rb.frozen
  have zb : w.heap.size < W7.heap.size := rb.lt
  have cr : ∀ j, W7.cell? ⟨w.heap.size + 1, j, none⟩ = (#[.int .i64 0, .int .i64 0, .int .i64 0, .int .i64 0, .int .i64 0, .int .i64 0] : Array Value)[j]? := rr.cell
  have fr : ∀ j, W7.frozen? ⟨w.heap.size + 1, j, none⟩ = false := rr.frozen
  have zr : w.heap.size + 1 < W7.heap.size := rr.lt
  have co : ∀ j, W7.cell? ⟨w.heap.size + 1 + 1, j, none⟩ = (#[.int .i64 (A - 262144), .int .i64 0, .int .i64 0, .int .i64 (A - 262144 + D), .int .i64 0, .int .i64 0] : Array Value)[j]? := ro.cell
  have fo : ∀ j, W7.frozen? ⟨w.heap.size + 1 + 1, j, none⟩ = false := ro.frozen
  have zo : w.heap.size + 1 + 1 < W7.heap.size := ro.lt
  rw [rounds_succ]
  go_wp2_with fail
  (refine (Ha1.out _).mono ?_; rintro e W8 ⟨rfl, hW8⟩)
  clear cb fb zb cr fr zr co fo zo
  replace rb := rb.keep hW8
  replace rr := rr.keep hW8
  replace ro := ro.keep hW8
  replace kw := kw.trans (hW8.mono kw.size)
  have cb : ∀ j, W8.cell? ⟨w.heap.size, j, none⟩ = (#[.int .i64 x, .int .i64 y, .int .i64 z, .int .i64 (x'), .int .i64 (y'), .int .i64 (z')] : Array Value)[j]? := rb.cell
  have fb : ∀ j, W8.frozen? ⟨w.heap.size, j, none⟩ = false := rb.frozen
  have zb : w.heap.size < W8.heap.size := rb.lt
  have cr : ∀ j, W8.cell? ⟨w.heap.size + 1, j, none⟩ = (#[.int .i64 0, .int .i64 0, .int .i64 0, .int .i64 0, .int .i64 0, .int .i64 0] : Array Value)[j]? := rr.cell
  have fr : ∀ j, W8.frozen? ⟨w.heap.size + 1, j, none⟩ = false := rr.frozen
  have zr : w.heap.size + 1 < W8.heap.size := rr.lt
  have co : ∀ j, W8.cell? ⟨w.heap.size + 1 + 1, j, none⟩ = (#[.int .i64 (A - 262144), .int .i64 0, .int .i64 0, .int .i64 (A - 262144 + D), .int .i64 0, .int .i64 0] : Array Value)[j]? := ro.cell
  have fo : ∀ j, W8.frozen? ⟨w.heap.size + 1 + 1, j, none⟩ = false := ro.frozen
  have zo : w.heap.size + 1 + 1 < W8.heap.size := ro.lt
  clear hW8
  go_wp2_with (go_at_call 29; refine (HkB.out _).mono ?_; rintro e w' ⟨rfl, rfl⟩)
  (refine (He1.out _).mono ?_; rintro e W9 ⟨rfl, hW9⟩)
  clear cb fb zb cr fr zr co fo zo
  replace rb := rb.keep hW9
  replace rr := rr.keep hW9
  replace ro := ro.keep hW9
  replace kw := kw.trans (hW9.mono kw.size)
  have cb : ∀ j, W9.cell? ⟨w.heap.size, j, none⟩ = (#[.int .i64 x, .int .i64 y, .int .i64 z, .int .i64 (x'), .int .i64 (y'), .int .i64 (z')] : Array Value)[j]? := rb.cell
  have fb : ∀ j, W9.frozen? ⟨w.heap.size, j, none⟩ = false := rb.frozen
  have zb : w.heap.size < W9.heap.size := rb.lt
  have cr : ∀ j, W9.cell? ⟨w.heap.size + 1, j, none⟩ = (#[.int .i64 0, .int .i64 0, .int .i64 0, .int .i64 0, .int .i64 0, .int .i64 0] : Array Value)[j]? := rr.cell
  have fr : ∀ j, W9.frozen? ⟨w.heap.size + 1, j, none⟩ = false := rr.frozen
  have zr : w.heap.size + 1 < W9.heap.size := rr.lt
  have co : ∀ j, W9.cell? ⟨w.heap.size + 1 + 1, j, none⟩ = (#[.int .i64 (A - 262144), .int .i64 0, .int .i64 0, .int .i64 (A - 262144 + D), .int .i64 0, .int .i64 0] : Array Value)[j]? := ro.cell
  have fo : ∀ j, W9.frozen? ⟨w.heap.size + 1 + 1, j, none⟩ = false := ro.frozen
  have zo : w.heap.size + 1 + 1 < W9.heap.size := ro.lt
  clear hW9
  go_wp2_with (go_at_call 29; refine (HkE.out _).mono ?_; rintro e w' ⟨rfl, rfl⟩)
  (refine (Hn1.out _).mono ?_; rintro e W10 ⟨rfl, hW10⟩)
  clear cb fb zb cr fr zr co fo zo
  replace rb := rb.keep hW10
  replace rr := rr.keep hW10
  replace ro := ro.keep hW10
  replace kw := kw.trans (hW10.mono kw.size)
  have cb : ∀ j, W10.cell? ⟨w.heap.size, j, none⟩ = (#[.int .i64 x, .int .i64 y, .int .i64 z, .int .i64 (x'), .int .i64 (y'), .int .i64 (z')] : Array Value)[j]? := rb.cell
  have fb : ∀ j, W10.frozen? ⟨w.heap.size, j, none⟩ = false := rb.frozen
  have zb : w.heap.size < W10.heap.size := rb.lt
  have cr : ∀ j, W10.cell? ⟨w.heap.size + 1, j, none⟩ = (#[.int .i64 0, .int .i64 0, .int .i64 0, .int .i64 0, .int .i64 0, .int .i64 0] : Array Value)[j]? := rr.cell
  have fr : ∀ j, W10.frozen? ⟨w.heap.size + 1, j, none⟩ = false := rr.frozen
  have zr : w.heap.size + 1 < W10.heap.size := rr.lt
  have co : ∀ j, W10.cell? ⟨w.heap.size + 1 + 1, j, none⟩ = (#[.int .i64 (A - 262144), .int .i64 0, .int .i64 0, .int .i64 (A - 262144 + D), .int .i64 0, .int .i64 0] : Array Value)[j]? := ro.cell
  have fo : ∀ j, W10.frozen? ⟨w.heap.size + 1 + 1, j, none⟩ = false := ro.frozen
  have zo : w.heap.size + 1 + 1 < W10.heap.size := ro.lt
  clear hW10
  go_wp2_with fail
  replace kw : Below w.heap.size w (((W10.setCell ⟨w.heap.size + 1 + 1, 0, none⟩ (.int .i64 (A - 262144))).setCell ⟨w.heap.size + 1 + 1, 1, none⟩ (.int .i64 (B - 262144))).setCell ⟨w.heap.size + 1 + 1, 2, none⟩ (.int .i64 0)) := by (repeat (first | with_reducible assumption | with_reducible exact Below.refl _ _ | with_reducible refine Below.drew ?_ | with_reducible refine below_drewN ?_ _ | with_reducible refine al ?_ _ | (with_reducible refine sc ?_ ?_; (focus (first | omega | (simp; done) | (simp; omega)))) | (with_reducible refine chain ?_ (by assumption))))
  replace rb : RowAt (((W10.setCell ⟨w.heap.size + 1 + 1, 0, none⟩ (.int .i64 (A - 262144))).setCell ⟨w.heap.size + 1 + 1, 1, none⟩ (.int .i64 (B - 262144))).setCell ⟨w.heap.size + 1 + 1, 2, none⟩ (.int .i64 0)) (w.heap.size) #[.int .i64 x, .int .i64 y, .int .i64 z, .int .i64 (x'), .int .i64 (y'), .int .i64 (z')] 31 := (((rb.other (p := ⟨w.heap.size + 1 + 1, 0, none⟩) (by first | omega | (simp; done) | (simp; omega)) (.int .i64 (A - 262144))).other (p := ⟨w.heap.size + 1 + 1, 1, none⟩) (by first | omega | (simp; done) | (simp; omega)) (.int .i64 (B - 262144))).other (p := ⟨w.heap.size + 1 + 1, 2, none⟩) (by first | omega | (simp; done) | (simp; omega)) (.int .i64 0))
  replace rr : RowAt (((W10.setCell ⟨w.heap.size + 1 + 1, 0, none⟩ (.int .i64 (A - 262144))).setCell ⟨w.heap.size + 1 + 1, 1, none⟩ (.int .i64 (B - 262144))).setCell ⟨w.heap.size + 1 + 1, 2, none⟩ (.int .i64 0)) (w.heap.size + 1) #[.int .i64 0, .int .i64 0, .int .i64 0, .int .i64 0, .int .i64 0, .int .i64 0] 31 := (((rr.other (p := ⟨w.heap.size + 1 + 1, 0, none⟩) (by first | omega | (simp; done) | (simp; omega)) (.int .i64 (A - 262144))).other (p := ⟨w.heap.size + 1 + 1, 1, none⟩) (by first | omega | (simp; done) | (simp; omega)) (.int .i64 (B - 262144))).other (p := ⟨w.heap.size + 1 + 1, 2, none⟩) (by first | omega | (simp; done) | (simp; omega)) (.int .i64 0))
  replace ro : RowAt (((W10.setCell ⟨w.heap.size + 1 + 1, 0, none⟩ (.int .i64 (A - 262144))).setCell ⟨w.heap.size + 1 + 1, 1, none⟩ (.int .i64 (B - 262144))).setCell ⟨w.heap.size + 1 + 1, 2, none⟩ (.int .i64 0)) (w.heap.size + 1 + 1) #[.int .i64 (A - 262144), .int .i64 (B - 262144), .int .i64 0, .int .i64 (A - 262144 + D), .int .i64 0, .int .i64 0] 31 := (((ro.set 0 (.int .i64 (A - 262144))).set 1 (.int .i64 (B - 262144))).set 2 (.int .i64 0))
  clear cb fb zb cr fr zr co fo zo
  generalize (((W10.setCell ⟨w.heap.size + 1 + 1, 0, none⟩ (.int .i64 (A - 262144))).setCell ⟨w.heap.size + 1 + 1, 1, none⟩ (.int .i64 (B - 262144))).setCell ⟨w.heap.size + 1 + 1, 2, none⟩ (.int .i64 0)) = W11 at *
  have cb : ∀ j, W11.cell? ⟨w.heap.size, j, none⟩ = (#[.int .i64 x, .int .i64 y, .int .i64 z, .int .i64 (x'), .int .i64 (y'), .int .i64 (z')] : Array Value)[j]? := rb.cell
  have fb : ∀ j, W11.frozen? ⟨w.heap.size, j, none⟩ = false := rb.frozen
  have zb : w.heap.size < W11.heap.size := rb.lt
  have cr : ∀ j, W11.cell? ⟨w.heap.size + 1, j, none⟩ = (#[.int .i64 0, .int .i64 0, .int .i64 0, .int .i64 0, .int .i64 0, .int .i64 0] : Array Value)[j]? := rr.cell
  have fr : ∀ j, W11.frozen? ⟨w.heap.size + 1, j, none⟩ = false := rr.frozen
  have zr : w.heap.size + 1 < W11.heap.size := rr.lt
  have co : ∀ j, W11.cell? ⟨w.heap.size + 1 + 1, j, none⟩ = (#[.int .i64 (A - 262144), .int .i64 (B - 262144), .int .i64 0, .int .i64 (A - 262144 + D), .int .i64 0, .int .i64 0] : Array Value)[j]? := ro.cell
  have fo : ∀ j, W11.frozen? ⟨w.heap.size + 1 + 1, j, none⟩ = false := ro.frozen
  have zo : w.heap.size + 1 + 1 < W11.heap.size := ro.lt
  (refine (Hm1.out _).mono ?_; rintro e W12 ⟨rfl, hW12⟩)
  clear cb fb zb cr fr zr co fo zo
  replace rb := rb.keep hW12
  replace rr := rr.keep hW12
  replace ro := ro.keep hW12
  replace kw := kw.trans (hW12.mono kw.size)
  have cb : ∀ j, W12.cell? ⟨w.heap.size, j, none⟩ = (#[.int .i64 x, .int .i64 y, .int .i64 z, .int .i64 (x'), .int .i64 (y'), .int .i64 (z')] : Array Value)[j]? := rb.cell
  have fb : ∀ j, W12.frozen? ⟨w.heap.size, j, none⟩ = false := rb.frozen
  have zb : w.heap.size < W12.heap.size := rb.lt
  have cr : ∀ j, W12.cell? ⟨w.heap.size + 1, j, none⟩ = (#[.int .i64 0, .int .i64 0, .int .i64 0, .int .i64 0, .int .i64 0, .int .i64 0] : Array Value)[j]? := rr.cell
  have fr : ∀ j, W12.frozen? ⟨w.heap.size + 1, j, none⟩ = false := rr.frozen
  have zr : w.heap.size + 1 < W12.heap.size := rr.lt
  have co : ∀ j, W12.cell? ⟨w.heap.size + 1 + 1, j, none⟩ = (#[.int .i64 (A - 262144), .int .i64 (B - 262144), .int .i64 0, .int .i64 (A - 262144 + D), .int .i64 0, .int .i64 0] : Array Value)[j]? := ro.cell
  have fo : ∀ j, W12.frozen? ⟨w.heap.size + 1 + 1, j, none⟩ = false := ro.frozen
  have zo : w.heap.size + 1 + 1 < W12.heap.size := ro.lt
  clear hW12
  go_wp2_with fail
  replace kw : Below w.heap.size w (((W12.setCell ⟨w.heap.size + 1 + 1, 3, none⟩ (.int .i64 (A - 262144 + D))).setCell ⟨w.heap.size + 1 + 1, 4, none⟩ (.int .i64 (B - 262144 + E))).setCell ⟨w.heap.size + 1 + 1, 5, none⟩ (.int .i64 0)) := by (repeat (first | with_reducible assumption | with_reducible exact Below.refl _ _ | with_reducible refine Below.drew ?_ | with_reducible refine below_drewN ?_ _ | with_reducible refine al ?_ _ | (with_reducible refine sc ?_ ?_; (focus (first | omega | (simp; done) | (simp; omega)))) | (with_reducible refine chain ?_ (by assumption))))
  replace rb : RowAt (((W12.setCell ⟨w.heap.size + 1 + 1, 3, none⟩ (.int .i64 (A - 262144 + D))).setCell ⟨w.heap.size + 1 + 1, 4, none⟩ (.int .i64 (B - 262144 + E))).setCell ⟨w.heap.size + 1 + 1, 5, none⟩ (.int .i64 0)) (w.heap.size) #[.int .i64 x, .int .i64 y, .int .i64 z, .int .i64 (x'), .int .i64 (y'), .int .i64 (z')] 31 := (((rb.other (p := ⟨w.heap.size + 1 + 1, 3, none⟩) (by first | omega | (simp; done) | (simp; omega)) (.int .i64 (A - 262144 + D))).other (p := ⟨w.heap.size + 1 + 1, 4, none⟩) (by first | omega | (simp; done) | (simp; omega)) (.int .i64 (B - 262144 + E))).other (p := ⟨w.heap.size + 1 + 1, 5, none⟩) (by first | omega | (simp; done) | (simp; omega)) (.int .i64 0))
  replace rr : RowAt (((W12.setCell ⟨w.heap.size + 1 + 1, 3, none⟩ (.int .i64 (A - 262144 + D))).setCell ⟨w.heap.size + 1 + 1, 4, none⟩ (.int .i64 (B - 262144 + E))).setCell ⟨w.heap.size + 1 + 1, 5, none⟩ (.int .i64 0)) (w.heap.size + 1) #[.int .i64 0, .int .i64 0, .int .i64 0, .int .i64 0, .int .i64 0, .int .i64 0] 31 := (((rr.other (p := ⟨w.heap.size + 1 + 1, 3, none⟩) (by first | omega | (simp; done) | (simp; omega)) (.int .i64 (A - 262144 + D))).other (p := ⟨w.heap.size + 1 + 1, 4, none⟩) (by first | omega | (simp; done) | (simp; omega)) (.int .i64 (B - 262144 + E))).other (p := ⟨w.heap.size + 1 + 1, 5, none⟩) (by first | omega | (simp; done) | (simp; omega)) (.int .i64 0))
  replace ro : RowAt (((W12.setCell ⟨w.heap.size + 1 + 1, 3, none⟩ (.int .i64 (A - 262144 + D))).setCell ⟨w.heap.size + 1 + 1, 4, none⟩ (.int .i64 (B - 262144 + E))).setCell ⟨w.heap.size + 1 + 1, 5, none⟩ (.int .i64 0)) (w.heap.size + 1 + 1) #[.int .i64 (A - 262144), .int .i64 (B - 262144), .int .i64 0, .int .i64 (A - 262144 + D), .int .i64 (B - 262144 + E), .int .i64 0] 31 := (((ro.set 3 (.int .i64 (A - 262144 + D))).set 4 (.int .i64 (B - 262144 + E))).set 5 (.int .i64 0))
  clear cb fb zb cr fr zr co fo zo
  generalize (((W12.setCell ⟨w.heap.size + 1 + 1, 3, none⟩ (.int .i64 (A - 262144 + D))).setCell ⟨w.heap.size + 1 + 1, 4, none⟩ (.int .i64 (B - 262144 + E))).setCell ⟨w.heap.size + 1 + 1, 5, none⟩ (.int .i64 0)) = W13 at *
  have cb : ∀ j, W13.cell? ⟨w.heap.size, j, none⟩ = (#[.int .i64 x, .int .i64 y, .int .i64 z, .int .i64 (x'), .int .i64 (y'), .int .i64 (z')] : Array Value)[j]? := rb.cell
  have fb : ∀ j, W13.frozen? ⟨w.heap.size, j, none⟩ = false := rb.frozen
  have zb : w.heap.size < W13.heap.size := rb.lt
  have cr : ∀ j, W13.cell? ⟨w.heap.size + 1, j, none⟩ = (#[.int .i64 0, .int .i64 0, .int .i64 0, .int .i64 0, .int .i64 0, .int .i64 0] : Array Value)[j]? := rr.cell
  have fr : ∀ j, W13.frozen? ⟨w.heap.size + 1, j, none⟩ = false := rr.frozen
  have zr : w.heap.size + 1 < W13.heap.size := rr.lt
  have co : ∀ j, W13.cell? ⟨w.heap.size + 1 + 1, j, none⟩ = (#[.int .i64 (A - 262144), .int .i64 (B - 262144), .int .i64 0, .int .i64 (A - 262144 + D), .int .i64 (B - 262144 + E), .int .i64 0] : Array Value)[j]? := ro.cell
  have fo : ∀ j, W13.frozen? ⟨w.heap.size + 1 + 1, j, none⟩ = false := ro.frozen
  have zo : w.heap.size + 1 + 1 < W13.heap.size := ro.lt
  rw [rounds_succ]
  go_wp2_with fail
  (refine (Ha2.out _).mono ?_; rintro e W14 ⟨rfl, hW14⟩)
  clear cb fb zb cr fr zr co fo zo
  replace rb := rb.keep hW14
  replace rr := rr.keep hW14
  replace ro := ro.keep hW14
  replace kw := kw.trans (hW14.mono kw.size)
  have cb : ∀ j, W14.cell? ⟨w.heap.size, j, none⟩ = (#[.int .i64 x, .int .i64 y, .int .i64 z, .int .i64 (x'), .int .i64 (y'), .int .i64 (z')] : Array Value)[j]? := rb.cell
  have fb : ∀ j, W14.frozen? ⟨w.heap.size, j, none⟩ = false := rb.frozen
  have zb : w.heap.size < W14.heap.size := rb.lt
  have cr : ∀ j, W14.cell? ⟨w.heap.size + 1, j, none⟩ = (#[.int .i64 0, .int .i64 0, .int .i64 0, .int .i64 0, .int .i64 0, .int .i64 0] : Array Value)[j]? := rr.cell
  have fr : ∀ j, W14.frozen? ⟨w.heap.size + 1, j, none⟩ = false := rr.frozen
  have zr : w.heap.size + 1 < W14.heap.size := rr.lt
  have co : ∀ j, W14.cell? ⟨w.heap.size + 1 + 1, j, none⟩ = (#[.int .i64 (A - 262144), .int .i64 (B - 262144), .int .i64 0, .int .i64 (A - 262144 + D), .int .i64 (B - 262144 + E), .int .i64 0] : Array Value)[j]? := ro.cell
  have fo : ∀ j, W14.frozen? ⟨w.heap.size + 1 + 1, j, none⟩ = false := ro.frozen
  have zo : w.heap.size + 1 + 1 < W14.heap.size := ro.lt
  clear hW14
  go_wp2_with (go_at_call 29; refine (HkC.out _).mono ?_; rintro e w' ⟨rfl, rfl⟩)
  (refine (He2.out _).mono ?_; rintro e W15 ⟨rfl, hW15⟩)
  clear cb fb zb cr fr zr co fo zo
  replace rb := rb.keep hW15
  replace rr := rr.keep hW15
  replace ro := ro.keep hW15
  replace kw := kw.trans (hW15.mono kw.size)
  have cb : ∀ j, W15.cell? ⟨w.heap.size, j, none⟩ = (#[.int .i64 x, .int .i64 y, .int .i64 z, .int .i64 (x'), .int .i64 (y'), .int .i64 (z')] : Array Value)[j]? := rb.cell
  have fb : ∀ j, W15.frozen? ⟨w.heap.size, j, none⟩ = false := rb.frozen
  have zb : w.heap.size < W15.heap.size := rb.lt
  have cr : ∀ j, W15.cell? ⟨w.heap.size + 1, j, none⟩ = (#[.int .i64 0, .int .i64 0, .int .i64 0, .int .i64 0, .int .i64 0, .int .i64 0] : Array Value)[j]? := rr.cell
  have fr : ∀ j, W15.frozen? ⟨w.heap.size + 1, j, none⟩ = false := rr.frozen
  have zr : w.heap.size + 1 < W15.heap.size := rr.lt
  have co : ∀ j, W15.cell? ⟨w.heap.size + 1 + 1, j, none⟩ = (#[.int .i64 (A - 262144), .int .i64 (B - 262144), .int .i64 0, .int .i64 (A - 262144 + D), .int .i64 (B - 262144 + E), .int .i64 0] : Array Value)[j]? := ro.cell
  have fo : ∀ j, W15.frozen? ⟨w.heap.size + 1 + 1, j, none⟩ = false := ro.frozen
  have zo : w.heap.size + 1 + 1 < W15.heap.size := ro.lt
  clear hW15
  go_wp2_with (go_at_call 29; refine (HkF.out _).mono ?_; rintro e w' ⟨rfl, rfl⟩)
  (refine (Hn2.out _).mono ?_; rintro e W16 ⟨rfl, hW16⟩)
  clear cb fb zb cr fr zr co fo zo
  replace rb := rb.keep hW16
  replace rr := rr.keep hW16
  replace ro := ro.keep hW16
  replace kw := kw.trans (hW16.mono kw.size)
  have cb : ∀ j, W16.cell? ⟨w.heap.size, j, none⟩ = (#[.int .i64 x, .int .i64 y, .int .i64 z, .int .i64 (x'), .int .i64 (y'), .int .i64 (z')] : Array Value)[j]? := rb.cell
  have fb : ∀ j, W16.frozen? ⟨w.heap.size, j, none⟩ = false := rb.frozen
  have zb : w.heap.size < W16.heap.size := rb.lt
  have cr : ∀ j, W16.cell? ⟨w.heap.size + 1, j, none⟩ = (#[.int .i64 0, .int .i64 0, .int .i64 0, .int .i64 0, .int .i64 0, .int .i64 0] : Array Value)[j]? := rr.cell
  have fr : ∀ j, W16.frozen? ⟨w.heap.size + 1, j, none⟩ = false := rr.frozen
  have zr : w.heap.size + 1 < W16.heap.size := rr.lt
  have co : ∀ j, W16.cell? ⟨w.heap.size + 1 + 1, j, none⟩ = (#[.int .i64 (A - 262144), .int .i64 (B - 262144), .int .i64 0, .int .i64 (A - 262144 + D), .int .i64 (B - 262144 + E), .int .i64 0] : Array Value)[j]? := ro.cell
  have fo : ∀ j, W16.frozen? ⟨w.heap.size + 1 + 1, j, none⟩ = false := ro.frozen
  have zo : w.heap.size + 1 + 1 < W16.heap.size := ro.lt
  clear hW16
  go_wp2_with fail
  replace kw : Below w.heap.size w (((W16.setCell ⟨w.heap.size + 1 + 1, 0, none⟩ (.int .i64 (A - 262144))).setCell ⟨w.heap.size + 1 + 1, 1, none⟩ (.int .i64 (B - 262144))).setCell ⟨w.heap.size + 1 + 1, 2, none⟩ (.int .i64 (C - 262144))) := by (repeat (first | with_reducible assumption | with_reducible exact Below.refl _ _ | with_reducible refine Below.drew ?_ | with_reducible refine below_drewN ?_ _ | with_reducible refine al ?_ _ | (with_reducible refine sc ?_ ?_; (focus (first | omega | (simp; done) | (simp; omega)))) | (with_reducible refine chain ?_ (by assumption))))
  replace rb : RowAt (((W16.setCell ⟨w.heap.size + 1 + 1, 0, none⟩ (.int .i64 (A - 262144))).setCell ⟨w.heap.size + 1 + 1, 1, none⟩ (.int .i64 (B - 262144))).setCell ⟨w.heap.size + 1 + 1, 2, none⟩ (.int .i64 (C - 262144))) (w.heap.size) #[.int .i64 x, .int .i64 y, .int .i64 z, .int .i64 (x'), .int .i64 (y'), .int .i64 (z')] 31 := (((rb.other (p := ⟨w.heap.size + 1 + 1, 0, none⟩) (by first | omega | (simp; done) | (simp; omega)) (.int .i64 (A - 262144))).other (p := ⟨w.heap.size + 1 + 1, 1, none⟩) (by first | omega | (simp; done) | (simp; omega)) (.int .i64 (B - 262144))).other (p := ⟨w.heap.size + 1 + 1, 2, none⟩) (by first | omega | (simp; done) | (simp; omega)) (.int .i64 (C - 262144)))
  replace rr : RowAt (((W16.setCell ⟨w.heap.size + 1 + 1, 0, none⟩ (.int .i64 (A - 262144))).setCell ⟨w.heap.size + 1 + 1, 1, none⟩ (.int .i64 (B - 262144))).setCell ⟨w.heap.size + 1 + 1, 2, none⟩ (.int .i64 (C - 262144))) (w.heap.size + 1) #[.int .i64 0, .int .i64 0, .int .i64 0, .int .i64 0, .int .i64 0, .int .i64 0] 31 := (((rr.other (p := ⟨w.heap.size + 1 + 1, 0, none⟩) (by first | omega | (simp; done) | (simp; omega)) (.int .i64 (A - 262144))).other (p := ⟨w.heap.size + 1 + 1, 1, none⟩) (by first | omega | (simp; done) | (simp; omega)) (.int .i64 (B - 262144))).other (p := ⟨w.heap.size + 1 + 1, 2, none⟩) (by first | omega | (simp; done) | (simp; omega)) (.int .i64 (C - 262144)))
  replace ro : RowAt (((W16.setCell ⟨w.heap.size + 1 + 1, 0, none⟩ (.int .i64 (A - 262144))).setCell ⟨w.heap.size + 1 + 1, 1, none⟩ (.int .i64 (B - 262144))).setCell ⟨w.heap.size + 1 + 1, 2, none⟩ (.int .i64 (C - 262144))) (w.heap.size + 1 + 1) #[.int .i64 (A - 262144), .int .i64 (B - 262144), .int .i64 (C - 262144), .int .i64 (A - 262144 + D), .int .i64 (B - 262144 + E), .int .i64 0] 31 := (((ro.set 0 (.int .i64 (A - 262144))).set 1 (.int .i64 (B - 262144))).set 2 (.int .i64 (C - 262144)))
  clear cb fb zb cr fr zr co fo zo
  generalize (((W16.setCell ⟨w.heap.size + 1 + 1, 0, none⟩ (.int .i64 (A - 262144))).setCell ⟨w.heap.size + 1 + 1, 1, none⟩ (.int .i64 (B - 262144))).setCell ⟨w.heap.size + 1 + 1, 2, none⟩ (.int .i64 (C - 262144))) = W17 at *
  have cb : ∀ j, W17.cell? ⟨w.heap.size, j, none⟩ = (#[.int .i64 x, .int .i64 y, .int .i64 z, .int .i64 (x'), .int .i64 (y'), .int .i64 (z')] : Array Value)[j]? := rb.cell
  have fb : ∀ j, W17.frozen? ⟨w.heap.size, j, none⟩ = false := rb.frozen
  have zb : w.heap.size < W17.heap.size := rb.lt
  have cr : ∀ j, W17.cell? ⟨w.heap.size + 1, j, none⟩ = (#[.int .i64 0, .int .i64 0, .int .i64 0, .int .i64 0, .int .i64 0, .int .i64 0] : Array Value)[j]? := rr.cell
  have fr : ∀ j, W17.frozen? ⟨w.heap.size + 1, j, none⟩ = false := rr.frozen
  have zr : w.heap.size + 1 < W17.heap.size := rr.lt
  have co : ∀ j, W17.cell? ⟨w.heap.size + 1 + 1, j, none⟩ = (#[.int .i64 (A - 262144), .int .i64 (B - 262144), .int .i64 (C - 262144), .int .i64 (A - 262144 + D), .int .i64 (B - 262144 + E), .int .i64 0] : Array Value)[j]? := ro.cell
  have fo : ∀ j, W17.frozen? ⟨w.heap.size + 1 + 1, j, none⟩ = false := ro.frozen
  have zo : w.heap.size + 1 + 1 < W17.heap.size := ro.lt
  (refine (Hm2.out _).mono ?_; rintro e W18 ⟨rfl, hW18⟩)
  clear cb fb zb cr fr zr co fo zo
  replace rb := rb.keep hW18
  replace rr := rr.keep hW18
  replace ro := ro.keep hW18
  replace kw := kw.trans (hW18.mono kw.size)
  have cb : ∀ j, W18.cell? ⟨w.heap.size, j, none⟩ = (#[.int .i64 x, .int .i64 y, .int .i64 z, .int .i64 (x'), .int .i64 (y'), .int .i64 (z')] : Array Value)[j]? := rb.cell
  have fb : ∀ j, W18.frozen? ⟨w.heap.size, j, none⟩ = false := rb.frozen
  have zb : w.heap.size < W18.heap.size := rb.lt
  have cr : ∀ j, W18.cell? ⟨w.heap.size + 1, j, none⟩ = (#[.int .i64 0, .int .i64 0, .int .i64 0, .int .i64 0, .int .i64 0, .int .i64 0] : Array Value)[j]? := rr.cell
  have fr : ∀ j, W18.frozen? ⟨w.heap.size + 1, j, none⟩ = false := rr.frozen
  have zr : w.heap.size + 1 < W18.heap.size := rr.lt
  have co : ∀ j, W18.cell? ⟨w.heap.size + 1 + 1, j, none⟩ = (#[.int .i64 (A - 262144), .int .i64 (B - 262144), .int .i64 (C - 262144), .int .i64 (A - 262144 + D), .int .i64 (B - 262144 + E), .int .i64 0] : Array Value)[j]? := ro.cell
  have fo : ∀ j, W18.frozen? ⟨w.heap.size + 1 + 1, j, none⟩ = false := ro.frozen
  have zo : w.heap.size + 1 + 1 < W18.heap.size := ro.lt
  clear hW18
  go_wp2_with fail
  replace kw : Below w.heap.size w (((W18.setCell ⟨w.heap.size + 1 + 1, 3, none⟩ (.int .i64 (A - 262144 + D))).setCell ⟨w.heap.size + 1 + 1, 4, none⟩ (.int .i64 (B - 262144 + E))).setCell ⟨w.heap.size + 1 + 1, 5, none⟩ (.int .i64 (C - 262144 + F))) := by (repeat (first | with_reducible assumption | with_reducible exact Below.refl _ _ | with_reducible refine Below.drew ?_ | with_reducible refine below_drewN ?_ _ | with_reducible refine al ?_ _ | (with_reducible refine sc ?_ ?_; (focus (first | omega | (simp; done) | (simp; omega)))) | (with_reducible refine chain ?_ (by assumption))))
  replace rb : RowAt (((W18.setCell ⟨w.heap.size + 1 + 1, 3, none⟩ (.int .i64 (A - 262144 + D))).setCell ⟨w.heap.size + 1 + 1, 4, none⟩ (.int .i64 (B - 262144 + E))).setCell ⟨w.heap.size + 1 + 1, 5, none⟩ (.int .i64 (C - 262144 + F))) (w.heap.size) #[.int .i64 x, .int .i64 y, .int .i64 z, .int .i64 (x'), .int .i64 (y'), .int .i64 (z')] 31 := (((rb.other (p := ⟨w.heap.size + 1 + 1, 3, none⟩) (by first | omega | (simp; done) | (simp; omega)) (.int .i64 (A - 262144 + D))).other (p := ⟨w.heap.size + 1 + 1, 4, none⟩) (by first | omega | (simp; done) | (simp; omega)) (.int .i64 (B - 262144 + E))).other (p := ⟨w.heap.size + 1 + 1, 5, none⟩) (by first | omega | (simp; done) | (simp; omega)) (.int .i64 (C - 262144 + F)))
  replace rr : RowAt (((W18.setCell ⟨w.heap.size + 1 + 1, 3, none⟩ (.int .i64 (A - 262144 + D))).setCell ⟨w.heap.size + 1 + 1, 4, none⟩ (.int .i64 (B - 262144 + E))).setCell ⟨w.heap.size + 1 + 1, 5, none⟩ (.int .i64 (C - 262144 + F))) (w.heap.size + 1) #[.int .i64 0, .int .i64 0, .int .i64 0, .int .i64 0, .int .i64 0, .int .i64 0] 31 := (((rr.other (p := ⟨w.heap.size + 1 + 1, 3, none⟩) (by first | omega | (simp; done) | (simp; omega)) (.int .i64 (A - 262144 + D))).other (p := ⟨w.heap.size + 1 + 1, 4, none⟩) (by first | omega | (simp; done) | (simp; omega)) (.int .i64 (B - 262144 + E))).other (p := ⟨w.heap.size + 1 + 1, 5, none⟩) (by first | omega | (simp; done) | (simp; omega)) (.int .i64 (C - 262144 + F)))
  replace ro : RowAt (((W18.setCell ⟨w.heap.size + 1 + 1, 3, none⟩ (.int .i64 (A - 262144 + D))).setCell ⟨w.heap.size + 1 + 1, 4, none⟩ (.int .i64 (B - 262144 + E))).setCell ⟨w.heap.size + 1 + 1, 5, none⟩ (.int .i64 (C - 262144 + F))) (w.heap.size + 1 + 1) #[.int .i64 (A - 262144), .int .i64 (B - 262144), .int .i64 (C - 262144), .int .i64 (A - 262144 + D), .int .i64 (B - 262144 + E), .int .i64 (C - 262144 + F)] 31 := (((ro.set 3 (.int .i64 (A - 262144 + D))).set 4 (.int .i64 (B - 262144 + E))).set 5 (.int .i64 (C - 262144 + F)))
  clear cb fb zb cr fr zr co fo zo
  generalize (((W18.setCell ⟨w.heap.size + 1 + 1, 3, none⟩ (.int .i64 (A - 262144 + D))).setCell ⟨w.heap.size + 1 + 1, 4, none⟩ (.int .i64 (B - 262144 + E))).setCell ⟨w.heap.size + 1 + 1, 5, none⟩ (.int .i64 (C - 262144 + F))) = W19 at *
  have cb : ∀ j, W19.cell? ⟨w.heap.size, j, none⟩ = (#[.int .i64 x, .int .i64 y, .int .i64 z, .int .i64 (x'), .int .i64 (y'), .int .i64 (z')] : Array Value)[j]? := rb.cell
  have fb : ∀ j, W19.frozen? ⟨w.heap.size, j, none⟩ = false := rb.frozen
  have zb : w.heap.size < W19.heap.size := rb.lt
  have cr : ∀ j, W19.cell? ⟨w.heap.size + 1, j, none⟩ = (#[.int .i64 0, .int .i64 0, .int .i64 0, .int .i64 0, .int .i64 0, .int .i64 0] : Array Value)[j]? := rr.cell
  have fr : ∀ j, W19.frozen? ⟨w.heap.size + 1, j, none⟩ = false := rr.frozen
  have zr : w.heap.size + 1 < W19.heap.size := rr.lt
  have co : ∀ j, W19.cell? ⟨w.heap.size + 1 + 1, j, none⟩ = (#[.int .i64 (A - 262144), .int .i64 (B - 262144), .int .i64 (C - 262144), .int .i64 (A - 262144 + D), .int .i64 (B - 262144 + E), .int .i64 (C - 262144 + F)] : Array Value)[j]? := ro.cell
  have fo : ∀ j, W19.frozen? ⟨w.heap.size + 1 + 1, j, none⟩ = false := ro.frozen
  have zo : w.heap.size + 1 + 1 < W19.heap.size := ro.lt
  rw [rounds_succ]
  go_wp2_with fail
  refine bodyPost_ret (v := .agg #[.int .i64 (A - 262144), .int .i64 (B - 262144), .int .i64 (C - 262144), .int .i64 (A - 262144 + D), .int .i64 (B - 262144 + E), .int .i64 (C - 262144 + F)]) (by simp [results, Try.results38, go_sem, *]; done) rfl ⟨rfl, ?_⟩
  (repeat (first | with_reducible assumption | with_reducible exact Below.refl _ _ | with_reducible refine Below.drew ?_ | with_reducible refine below_drewN ?_ _ | with_reducible refine al ?_ _ | (with_reducible refine sc ?_ ?_; (focus (first | omega | (simp; done) | (simp; omega)))) | (with_reducible refine chain ?_ (by assumption))))
end Go.Proofs.Ytenpcmhfbbfpeaa
