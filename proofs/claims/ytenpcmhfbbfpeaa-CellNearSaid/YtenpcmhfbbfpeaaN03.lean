/- Contracts of layer 3 (cell): Near, Beside. -/
import Derived.Test.YtenpcmhfbbfpeaaE03
import Derived.Test.YtenpcmhfbbfpeaaS03
import Derived.Laws.ResultCell
set_option linter.unusedVariables false
set_option linter.unusedSimpArgs false
namespace Go.Proofs.Ytenpcmhfbbfpeaa
open Go.ChangeShapes Go.WideShapes Go.ChangeAt Go.RowKit
abbrev nearV (X Y Z : Int) : Value := .agg #[.int .i64 (cellC (X - 1)), .int .i64 Y, .int .i64 Z, .int .i64 (cellC (X + 1)), .int .i64 Y, .int .i64 Z, .int .i64 X, .int .i64 (cellC (Y - 1)), .int .i64 Z, .int .i64 X, .int .i64 (cellC (Y + 1)), .int .i64 Z, .int .i64 X, .int .i64 Y, .int .i64 (cellC (Z - 1)), .int .i64 X, .int .i64 Y, .int .i64 (cellC (Z + 1))]
abbrev besideV (x z : Int) : Value := .agg #[.int .i64 x, .int .i64 z, .int .i64 (x - 1), .int .i64 z, .int .i64 (x + 1), .int .i64 z, .int .i64 x, .int .i64 (z - 1), .int .i64 x, .int .i64 (z + 1)]
theorem pos_eq {x z u v : Int} (h0 : x = u) (h1 : z = v) : posV x z = posV u v := by rw [h0, h1]
theorem near_clo (b : Nat) (X Y Z x y z : Int) (w : World) (h : At3 w b 0 X Y Z) (bX : -2147483648 ≤ X ∧ X ≤ 2147483648) (bY : -2147483648 ≤ Y ∧ Y ≤ 2147483648) (bZ : -2147483648 ≤ Z ∧ Z ≤ 2147483648)
    (bx : -1 ≤ x ∧ x ≤ 1) (by_ : -1 ≤ y ∧ y ≤ 1) (bz : -1 ≤ z ∧ z ≤ 1) :
    Calls Try.prog 50 #[.int .i64 x, .int .i64 y, .int .i64 z, .pointer (some ⟨b, 0, none⟩)] w fun e w' => e = .returned (vecV (cellC (X + x)) (cellC (Y + y)) (cellC (Z + z))) ∧ Below w.heap.size w w' := by
  obtain ⟨hlt, v0, v1, v2⟩ := h
  go_enter Try.func50, Try.ntmps50
  go_wp2_with fail
  (refine (c3_cut _ _ _ _).mono ?_; rintro e w1 ⟨rfl, hb1⟩)
  obtain ⟨_hcw1, _hfw1⟩ := bcell hb1
  have _zw10 : w.heap.size < w1.heap.size := size_lt (by first | (simp; done) | (simp; omega) | omega | (simp [World.setCell]; done) | (simp [World.setCell]; omega)) hb1
  have k1 : Below w.heap.size w w1 := by (repeat (first | with_reducible assumption | with_reducible exact Below.refl _ _ | with_reducible refine Below.drew ?_ | with_reducible refine below_drewN ?_ _ | with_reducible refine al ?_ _ | (with_reducible refine sc ?_ ?_; (focus (first | omega | (simp; done) | (simp; omega)))) | (with_reducible refine chain ?_ (by assumption))))
  go_wp2
  refine bodyPost_ret (v := vecV (cellC (X + x)) (cellC (Y + y)) (cellC (Z + z))) (by simp [results, Try.results50, go_sem, *]; done) rfl ⟨rfl, ?_⟩
  (repeat (first | with_reducible assumption | with_reducible exact Below.refl _ _ | with_reducible refine Below.drew ?_ | with_reducible refine below_drewN ?_ _ | with_reducible refine al ?_ _ | (with_reducible refine sc ?_ ?_; (focus (first | omega | (simp; done) | (simp; omega)))) | (with_reducible refine chain ?_ (by assumption))))
set_option maxHeartbeats 4000000 in
theorem c3_near (x y z : Int) (w : World) : Calls Try.prog 31 #[vecV x y z] w fun e w' => e = .returned (nearV (cellC x) (cellC y) (cellC z)) ∧ Below w.heap.size w w' := by
  have i45 : (Try.prog.info? 45).map (·.size) = some 18 := by kernel_rfl
  have bX := cellC_bd x
  have bY := cellC_bd y
  have bZ := cellC_bd z
  have cc := fun k => c3_cut x y z k
  generalize cellC x = X at *
  generalize cellC y = Y at *
  generalize cellC z = Z at *
  have n0 := fun (b : Nat) (k : World) (h : At3 k b 0 X Y Z) => to_v (near_clo b X Y Z (-1) 0 0 k h bX bY bZ (by omega) (by omega) (by omega)) (vec_eq (u := cellC (X - 1)) (v := Y) (t := Z) (by rw [show X + -1 = X - 1 by omega]) (by rw [show Y + 0 = Y by omega]; exact cellC_in (by omega) (by omega)) (by rw [show Z + 0 = Z by omega]; exact cellC_in (by omega) (by omega)))
  have n1 := fun (b : Nat) (k : World) (h : At3 k b 0 X Y Z) => to_v (near_clo b X Y Z 1 0 0 k h bX bY bZ (by omega) (by omega) (by omega)) (vec_eq (u := cellC (X + 1)) (v := Y) (t := Z) rfl (by rw [show Y + 0 = Y by omega]; exact cellC_in (by omega) (by omega)) (by rw [show Z + 0 = Z by omega]; exact cellC_in (by omega) (by omega)))
  have n2 := fun (b : Nat) (k : World) (h : At3 k b 0 X Y Z) => to_v (near_clo b X Y Z 0 (-1) 0 k h bX bY bZ (by omega) (by omega) (by omega)) (vec_eq (u := X) (v := cellC (Y - 1)) (t := Z) (by rw [show X + 0 = X by omega]; exact cellC_in (by omega) (by omega)) (by rw [show Y + -1 = Y - 1 by omega]) (by rw [show Z + 0 = Z by omega]; exact cellC_in (by omega) (by omega)))
  have n3 := fun (b : Nat) (k : World) (h : At3 k b 0 X Y Z) => to_v (near_clo b X Y Z 0 1 0 k h bX bY bZ (by omega) (by omega) (by omega)) (vec_eq (u := X) (v := cellC (Y + 1)) (t := Z) (by rw [show X + 0 = X by omega]; exact cellC_in (by omega) (by omega)) rfl (by rw [show Z + 0 = Z by omega]; exact cellC_in (by omega) (by omega)))
  have n4 := fun (b : Nat) (k : World) (h : At3 k b 0 X Y Z) => to_v (near_clo b X Y Z 0 0 (-1) k h bX bY bZ (by omega) (by omega) (by omega)) (vec_eq (u := X) (v := Y) (t := cellC (Z - 1)) (by rw [show X + 0 = X by omega]; exact cellC_in (by omega) (by omega)) (by rw [show Y + 0 = Y by omega]; exact cellC_in (by omega) (by omega)) (by rw [show Z + -1 = Z - 1 by omega]))
  have n5 := fun (b : Nat) (k : World) (h : At3 k b 0 X Y Z) => to_v (near_clo b X Y Z 0 0 1 k h bX bY bZ (by omega) (by omega) (by omega)) (vec_eq (u := X) (v := Y) (t := cellC (Z + 1)) (by rw [show X + 0 = X by omega]; exact cellC_in (by omega) (by omega)) (by rw [show Y + 0 = Y by omega]; exact cellC_in (by omega) (by omega)) rfl)
  unfold nearV
  generalize cellC (X - 1) = Xm at *
  generalize cellC (X + 1) = Xp at *
  generalize cellC (Y - 1) = Ym at *
  generalize cellC (Y + 1) = Yp at *
  generalize cellC (Z - 1) = Zm at *
  generalize cellC (Z + 1) = Zp at *
  have N0 := Lib.hid n0
  have N1 := Lib.hid n1
  have N2 := Lib.hid n2
  have N3 := Lib.hid n3
  have N4 := Lib.hid n4
  have N5 := Lib.hid n5
  have CC := Lib.hid cc
  clear cc n0 n1 n2 n3 n4 n5
  go_enter Try.func31, Try.ntmps31
  go_wp2_with fail
  have rb : RowAt (w.alloc (.cells #[.int .i64 x, .int .i64 y, .int .i64 z] 28)) (w.heap.size) #[.int .i64 x, .int .i64 y, .int .i64 z] 28 := RowAt.make _ _ _ (by simp)
  have rb : RowAt ((w.alloc (.cells #[.int .i64 x, .int .i64 y, .int .i64 z] 28)).alloc (.cells #[.int .i64 0, .int .i64 0, .int .i64 0, .int .i64 0, .int .i64 0, .int .i64 0, .int .i64 0, .int .i64 0, .int .i64 0, .int .i64 0, .int .i64 0, .int .i64 0, .int .i64 0, .int .i64 0, .int .i64 0, .int .i64 0, .int .i64 0, .int .i64 0] 45)) (w.heap.size) #[.int .i64 x, .int .i64 y, .int .i64 z] 28 := rb.alloc _
  have rr : RowAt ((w.alloc (.cells #[.int .i64 x, .int .i64 y, .int .i64 z] 28)).alloc (.cells #[.int .i64 0, .int .i64 0, .int .i64 0, .int .i64 0, .int .i64 0, .int .i64 0, .int .i64 0, .int .i64 0, .int .i64 0, .int .i64 0, .int .i64 0, .int .i64 0, .int .i64 0, .int .i64 0, .int .i64 0, .int .i64 0, .int .i64 0, .int .i64 0] 45)) (w.heap.size + 1) #[.int .i64 0, .int .i64 0, .int .i64 0, .int .i64 0, .int .i64 0, .int .i64 0, .int .i64 0, .int .i64 0, .int .i64 0, .int .i64 0, .int .i64 0, .int .i64 0, .int .i64 0, .int .i64 0, .int .i64 0, .int .i64 0, .int .i64 0, .int .i64 0] 45 := RowAt.make _ _ _ (by simp)
  have kw : Below w.heap.size w ((w.alloc (.cells #[.int .i64 x, .int .i64 y, .int .i64 z] 28)).alloc (.cells #[.int .i64 0, .int .i64 0, .int .i64 0, .int .i64 0, .int .i64 0, .int .i64 0, .int .i64 0, .int .i64 0, .int .i64 0, .int .i64 0, .int .i64 0, .int .i64 0, .int .i64 0, .int .i64 0, .int .i64 0, .int .i64 0, .int .i64 0, .int .i64 0] 45)) := by (repeat (first | with_reducible assumption | with_reducible exact Below.refl _ _ | with_reducible refine Below.drew ?_ | with_reducible refine below_drewN ?_ _ | with_reducible refine al ?_ _ | (with_reducible refine sc ?_ ?_; (focus (first | omega | (simp; done) | (simp; omega)))) | (with_reducible refine chain ?_ (by assumption))))
  generalize ((w.alloc (.cells #[.int .i64 x, .int .i64 y, .int .i64 z] 28)).alloc (.cells #[.int .i64 0, .int .i64 0, .int .i64 0, .int .i64 0, .int .i64 0, .int .i64 0, .int .i64 0, .int .i64 0, .int .i64 0, .int .i64 0, .int .i64 0, .int .i64 0, .int .i64 0, .int .i64 0, .int .i64 0, .int .i64 0, .int .i64 0, .int .i64 0] 45)) = W1 at *
  have cb : ∀ j, W1.cell? ⟨w.heap.size, j, none⟩ = (#[.int .i64 x, .int .i64 y, .int .i64 z] : Array Value)[j]? := rb.cell
  have fb : ∀ j, W1.frozen? ⟨w.heap.size, j, none⟩ = false := rb.frozen
  have zb : w.heap.size < W1.heap.size := rb.lt
  have cr : ∀ j, W1.cell? ⟨w.heap.size + 1, j, none⟩ = (#[.int .i64 0, .int .i64 0, .int .i64 0, .int .i64 0, .int .i64 0, .int .i64 0, .int .i64 0, .int .i64 0, .int .i64 0, .int .i64 0, .int .i64 0, .int .i64 0, .int .i64 0, .int .i64 0, .int .i64 0, .int .i64 0, .int .i64 0, .int .i64 0] : Array Value)[j]? := rr.cell
  have fr : ∀ j, W1.frozen? ⟨w.heap.size + 1, j, none⟩ = false := rr.frozen
  have zr : w.heap.size + 1 < W1.heap.size := rr.lt
  (refine (CC.out _).mono ?_; rintro e W2 ⟨rfl, hW2⟩)
  clear cb fb zb cr fr zr
  replace rb := rb.keep hW2
  replace rr := rr.keep hW2
  replace kw := kw.trans (hW2.mono kw.size)
  have cb : ∀ j, W2.cell? ⟨w.heap.size, j, none⟩ = (#[.int .i64 x, .int .i64 y, .int .i64 z] : Array Value)[j]? := rb.cell
  have fb : ∀ j, W2.frozen? ⟨w.heap.size, j, none⟩ = false := rb.frozen
  have zb : w.heap.size < W2.heap.size := rb.lt
  have cr : ∀ j, W2.cell? ⟨w.heap.size + 1, j, none⟩ = (#[.int .i64 0, .int .i64 0, .int .i64 0, .int .i64 0, .int .i64 0, .int .i64 0, .int .i64 0, .int .i64 0, .int .i64 0, .int .i64 0, .int .i64 0, .int .i64 0, .int .i64 0, .int .i64 0, .int .i64 0, .int .i64 0, .int .i64 0, .int .i64 0] : Array Value)[j]? := rr.cell
  have fr : ∀ j, W2.frozen? ⟨w.heap.size + 1, j, none⟩ = false := rr.frozen
  have zr : w.heap.size + 1 < W2.heap.size := rr.lt
  clear hW2
  go_wp2_with fail
  replace kw : Below w.heap.size w (((W2.setCell ⟨w.heap.size, 0, none⟩ (.int .i64 X)).setCell ⟨w.heap.size, 1, none⟩ (.int .i64 Y)).setCell ⟨w.heap.size, 2, none⟩ (.int .i64 Z)) := by (repeat (first | with_reducible assumption | with_reducible exact Below.refl _ _ | with_reducible refine Below.drew ?_ | with_reducible refine below_drewN ?_ _ | with_reducible refine al ?_ _ | (with_reducible refine sc ?_ ?_; (focus (first | omega | (simp; done) | (simp; omega)))) | (with_reducible refine chain ?_ (by assumption))))
  replace rb : RowAt (((W2.setCell ⟨w.heap.size, 0, none⟩ (.int .i64 X)).setCell ⟨w.heap.size, 1, none⟩ (.int .i64 Y)).setCell ⟨w.heap.size, 2, none⟩ (.int .i64 Z)) (w.heap.size) #[.int .i64 X, .int .i64 Y, .int .i64 Z] 28 := (((rb.set 0 (.int .i64 X)).set 1 (.int .i64 Y)).set 2 (.int .i64 Z))
  replace rr : RowAt (((W2.setCell ⟨w.heap.size, 0, none⟩ (.int .i64 X)).setCell ⟨w.heap.size, 1, none⟩ (.int .i64 Y)).setCell ⟨w.heap.size, 2, none⟩ (.int .i64 Z)) (w.heap.size + 1) #[.int .i64 0, .int .i64 0, .int .i64 0, .int .i64 0, .int .i64 0, .int .i64 0, .int .i64 0, .int .i64 0, .int .i64 0, .int .i64 0, .int .i64 0, .int .i64 0, .int .i64 0, .int .i64 0, .int .i64 0, .int .i64 0, .int .i64 0, .int .i64 0] 45 := (((rr.other (p := ⟨w.heap.size, 0, none⟩) (by first | omega | (simp; done) | (simp; omega)) (.int .i64 X)).other (p := ⟨w.heap.size, 1, none⟩) (by first | omega | (simp; done) | (simp; omega)) (.int .i64 Y)).other (p := ⟨w.heap.size, 2, none⟩) (by first | omega | (simp; done) | (simp; omega)) (.int .i64 Z))
  clear cb fb zb cr fr zr
  generalize (((W2.setCell ⟨w.heap.size, 0, none⟩ (.int .i64 X)).setCell ⟨w.heap.size, 1, none⟩ (.int .i64 Y)).setCell ⟨w.heap.size, 2, none⟩ (.int .i64 Z)) = W3 at *
  have cb : ∀ j, W3.cell? ⟨w.heap.size, j, none⟩ = (#[.int .i64 X, .int .i64 Y, .int .i64 Z] : Array Value)[j]? := rb.cell
  have fb : ∀ j, W3.frozen? ⟨w.heap.size, j, none⟩ = false := rb.frozen
  have zb : w.heap.size < W3.heap.size := rb.lt
  have cr : ∀ j, W3.cell? ⟨w.heap.size + 1, j, none⟩ = (#[.int .i64 0, .int .i64 0, .int .i64 0, .int .i64 0, .int .i64 0, .int .i64 0, .int .i64 0, .int .i64 0, .int .i64 0, .int .i64 0, .int .i64 0, .int .i64 0, .int .i64 0, .int .i64 0, .int .i64 0, .int .i64 0, .int .i64 0, .int .i64 0] : Array Value)[j]? := rr.cell
  have fr : ∀ j, W3.frozen? ⟨w.heap.size + 1, j, none⟩ = false := rr.frozen
  have zr : w.heap.size + 1 < W3.heap.size := rr.lt
  have at0 : At3 W3 w.heap.size 0 X Y Z := ⟨zb, by rw [cb]; rfl, by rw [cb]; rfl, by rw [cb]; rfl⟩
  (refine (N0.out _ _ at0).mono ?_; rintro e W4 ⟨rfl, hW4⟩)
  replace at0 := at0.keep hW4
  clear cb fb zb cr fr zr
  replace rb := rb.keep hW4
  replace rr := rr.keep hW4
  replace kw := kw.trans (hW4.mono kw.size)
  have cb : ∀ j, W4.cell? ⟨w.heap.size, j, none⟩ = (#[.int .i64 X, .int .i64 Y, .int .i64 Z] : Array Value)[j]? := rb.cell
  have fb : ∀ j, W4.frozen? ⟨w.heap.size, j, none⟩ = false := rb.frozen
  have zb : w.heap.size < W4.heap.size := rb.lt
  have cr : ∀ j, W4.cell? ⟨w.heap.size + 1, j, none⟩ = (#[.int .i64 0, .int .i64 0, .int .i64 0, .int .i64 0, .int .i64 0, .int .i64 0, .int .i64 0, .int .i64 0, .int .i64 0, .int .i64 0, .int .i64 0, .int .i64 0, .int .i64 0, .int .i64 0, .int .i64 0, .int .i64 0, .int .i64 0, .int .i64 0] : Array Value)[j]? := rr.cell
  have fr : ∀ j, W4.frozen? ⟨w.heap.size + 1, j, none⟩ = false := rr.frozen
  have zr : w.heap.size + 1 < W4.heap.size := rr.lt
  clear hW4
  go_wp2_with fail
  (refine (N1.out _ _ at0).mono ?_; rintro e W5 ⟨rfl, hW5⟩)
  replace at0 := at0.keep hW5
  clear cb fb zb cr fr zr
  replace rb := rb.keep hW5
  replace rr := rr.keep hW5
  replace kw := kw.trans (hW5.mono kw.size)
  have cb : ∀ j, W5.cell? ⟨w.heap.size, j, none⟩ = (#[.int .i64 X, .int .i64 Y, .int .i64 Z] : Array Value)[j]? := rb.cell
  have fb : ∀ j, W5.frozen? ⟨w.heap.size, j, none⟩ = false := rb.frozen
  have zb : w.heap.size < W5.heap.size := rb.lt
  have cr : ∀ j, W5.cell? ⟨w.heap.size + 1, j, none⟩ = (#[.int .i64 0, .int .i64 0, .int .i64 0, .int .i64 0, .int .i64 0, .int .i64 0, .int .i64 0, .int .i64 0, .int .i64 0, .int .i64 0, .int .i64 0, .int .i64 0, .int .i64 0, .int .i64 0, .int .i64 0, .int .i64 0, .int .i64 0, .int .i64 0] : Array Value)[j]? := rr.cell
  have fr : ∀ j, W5.frozen? ⟨w.heap.size + 1, j, none⟩ = false := rr.frozen
  have zr : w.heap.size + 1 < W5.heap.size := rr.lt
  clear hW5
  go_wp2_with fail
  (refine (N2.out _ _ at0).mono ?_; rintro e W6 ⟨rfl, hW6⟩)
  replace at0 := at0.keep hW6
  clear cb fb zb cr fr zr
  replace rb := rb.keep hW6
  replace rr := rr.keep hW6
  replace kw := kw.trans (hW6.mono kw.size)
  have cb : ∀ j, W6.cell? ⟨w.heap.size, j, none⟩ = (#[.int .i64 X, .int .i64 Y, .int .i64 Z] : Array Value)[j]? := rb.cell
  have fb : ∀ j, W6.frozen? ⟨w.heap.size, j, none⟩ = false := rb.frozen
  have zb : w.heap.size < W6.heap.size := rb.lt
  have cr : ∀ j, W6.cell? ⟨w.heap.size + 1, j, none⟩ = (#[.int .i64 0, .int .i64 0, .int .i64 0, .int .i64 0, .int .i64 0, .int .i64 0, .int .i64 0, .int .i64 0, .int .i64 0, .int .i64 0, .int .i64 0, .int .i64 0, .int .i64 0, .int .i64 0, .int .i64 0, .int .i64 0, .int .i64 0, .int .i64 0] : Array Value)[j]? := rr.cell
  have fr : ∀ j, W6.frozen? ⟨w.heap.size + 1, j, none⟩ = false := rr.frozen
  have zr : w.heap.size + 1 < W6.heap.size := rr.lt
  clear hW6
  go_wp2_with fail
  (refine (N3.out _ _ at0).mono ?_; rintro e W7 ⟨rfl, hW7⟩)
  replace at0 := at0.keep hW7
  clear cb fb zb cr fr zr
  replace rb := rb.keep hW7
  replace rr := rr.keep hW7
  replace kw := kw.trans (hW7.mono kw.size)
  have cb : ∀ j, W7.cell? ⟨w.heap.size, j, none⟩ = (#[.int .i64 X, .int .i64 Y, .int .i64 Z] : Array Value)[j]? := rb.cell
  have fb : ∀ j, W7.frozen? ⟨w.heap.size, j, none⟩ = false := rb.frozen
  have zb : w.heap.size < W7.heap.size := rb.lt
  have cr : ∀ j, W7.cell? ⟨w.heap.size + 1, j, none⟩ = (#[.int .i64 0, .int .i64 0, .int .i64 0, .int .i64 0, .int .i64 0, .int .i64 0, .int .i64 0, .int .i64 0, .int .i64 0, .int .i64 0, .int .i64 0, .int .i64 0, .int .i64 0, .int .i64 0, .int .i64 0, .int .i64 0, .int .i64 0, .int .i64 0] : Array Value)[j]? := rr.cell
  have fr : ∀ j, W7.frozen? ⟨w.heap.size + 1, j, none⟩ = false := rr.frozen
  have zr : w.heap.size + 1 < W7.heap.size := rr.lt
  clear hW7
  go_wp2_with fail
  (refine (N4.out _ _ at0).mono ?_; rintro e W8 ⟨rfl, hW8⟩)
  replace at0 := at0.keep hW8
  clear cb fb zb cr fr zr
  replace rb := rb.keep hW8
  replace rr := rr.keep hW8
  replace kw := kw.trans (hW8.mono kw.size)
  have cb : ∀ j, W8.cell? ⟨w.heap.size, j, none⟩ = (#[.int .i64 X, .int .i64 Y, .int .i64 Z] : Array Value)[j]? := rb.cell
  have fb : ∀ j, W8.frozen? ⟨w.heap.size, j, none⟩ = false := rb.frozen
  have zb : w.heap.size < W8.heap.size := rb.lt
  have cr : ∀ j, W8.cell? ⟨w.heap.size + 1, j, none⟩ = (#[.int .i64 0, .int .i64 0, .int .i64 0, .int .i64 0, .int .i64 0, .int .i64 0, .int .i64 0, .int .i64 0, .int .i64 0, .int .i64 0, .int .i64 0, .int .i64 0, .int .i64 0, .int .i64 0, .int .i64 0, .int .i64 0, .int .i64 0, .int .i64 0] : Array Value)[j]? := rr.cell
  have fr : ∀ j, W8.frozen? ⟨w.heap.size + 1, j, none⟩ = false := rr.frozen
  have zr : w.heap.size + 1 < W8.heap.size := rr.lt
  clear hW8
  go_wp2_with fail
  (refine (N5.out _ _ at0).mono ?_; rintro e W9 ⟨rfl, hW9⟩)
  replace at0 := at0.keep hW9
  clear cb fb zb cr fr zr
  replace rb := rb.keep hW9
  replace rr := rr.keep hW9
  replace kw := kw.trans (hW9.mono kw.size)
  have cb : ∀ j, W9.cell? ⟨w.heap.size, j, none⟩ = (#[.int .i64 X, .int .i64 Y, .int .i64 Z] : Array Value)[j]? := rb.cell
  have fb : ∀ j, W9.frozen? ⟨w.heap.size, j, none⟩ = false := rb.frozen
  have zb : w.heap.size < W9.heap.size := rb.lt
  have cr : ∀ j, W9.cell? ⟨w.heap.size + 1, j, none⟩ = (#[.int .i64 0, .int .i64 0, .int .i64 0, .int .i64 0, .int .i64 0, .int .i64 0, .int .i64 0, .int .i64 0, .int .i64 0, .int .i64 0, .int .i64 0, .int .i64 0, .int .i64 0, .int .i64 0, .int .i64 0, .int .i64 0, .int .i64 0, .int .i64 0] : Array Value)[j]? := rr.cell
  have fr : ∀ j, W9.frozen? ⟨w.heap.size + 1, j, none⟩ = false := rr.frozen
  have zr : w.heap.size + 1 < W9.heap.size := rr.lt
  clear hW9
  go_wp2_with (refine wpList_store_row rfl 45 _ _ rfl (w.heap.size + 1) #[.int .i64 Xm, .int .i64 Y, .int .i64 Z, .int .i64 Xp, .int .i64 Y, .int .i64 Z, .int .i64 X, .int .i64 Ym, .int .i64 Z, .int .i64 X, .int .i64 Yp, .int .i64 Z, .int .i64 X, .int .i64 Y, .int .i64 Zm, .int .i64 X, .int .i64 Y, .int .i64 Zp] rfl rfl _ _ rr i45 rfl (by simp [Value.oneCell']) ?_)
  refine bodyPost_ret (v := .agg #[.int .i64 Xm, .int .i64 Y, .int .i64 Z, .int .i64 Xp, .int .i64 Y, .int .i64 Z, .int .i64 X, .int .i64 Ym, .int .i64 Z, .int .i64 X, .int .i64 Yp, .int .i64 Z, .int .i64 X, .int .i64 Y, .int .i64 Zm, .int .i64 X, .int .i64 Y, .int .i64 Zp]) (results_cell_row rfl _ _ (w.heap.size + 1) _ _ _ _ rfl (rr.row _) Try.underlying45 rfl i45) rfl ⟨rfl, below_setRow kw (by omega) _⟩
theorem beside_clo (b : Nat) (X Z x z : Int) (w : World) (hlt : b < w.heap.size) (v0 : w.cell? ⟨b, 0, none⟩ = some (.int .i64 X)) (v1 : w.cell? ⟨b, 1, none⟩ = some (.int .i64 Z)) (bX : -2147483648 ≤ X ∧ X ≤ 2147483648) (bZ : -2147483648 ≤ Z ∧ Z ≤ 2147483648)
    (bx : -1 ≤ x ∧ x ≤ 1) (bz : -1 ≤ z ∧ z ≤ 1) :
    Calls Try.prog 51 #[.int .i64 x, .int .i64 z, .pointer (some ⟨b, 0, none⟩)] w fun e w' => e = .returned (posV (X + x) (Z + z)) ∧ Below w.heap.size w w' := by
  go_enter Try.func51, Try.ntmps51
  go_wp2
  refine bodyPost_ret (v := posV (X + x) (Z + z)) (by simp [results, Try.results51, go_sem, *]; done) rfl ⟨rfl, ?_⟩
  (repeat (first | with_reducible assumption | with_reducible exact Below.refl _ _ | with_reducible refine Below.drew ?_ | with_reducible refine below_drewN ?_ _ | with_reducible refine al ?_ _ | (with_reducible refine sc ?_ ?_; (focus (first | omega | (simp; done) | (simp; omega)))) | (with_reducible refine chain ?_ (by assumption))))
set_option maxHeartbeats 1000000 in
theorem c3_beside (x z : Int) (hx : -134217728 ≤ x ∧ x ≤ 134217728) (hz : -134217728 ≤ z ∧ z ≤ 134217728) (w : World) : Calls Try.prog 33 #[posV x z] w fun e w' => e = .returned (besideV x z) ∧ Below w.heap.size w w' := by
  have n0 := fun (b : Nat) (k : World) h v0 v1 => to_v (beside_clo b x z (-1) 0 k h v0 v1 (by omega) (by omega) (by omega) (by omega)) (pos_eq (show x + -1 = x - 1 by omega) (show z + 0 = z by omega))
  have n1 := fun (b : Nat) (k : World) h v0 v1 => to_v (beside_clo b x z 1 0 k h v0 v1 (by omega) (by omega) (by omega) (by omega)) (pos_eq rfl (show z + 0 = z by omega))
  have n2 := fun (b : Nat) (k : World) h v0 v1 => to_v (beside_clo b x z 0 (-1) k h v0 v1 (by omega) (by omega) (by omega) (by omega)) (pos_eq (show x + 0 = x by omega) (show z + -1 = z - 1 by omega))
  have n3 := fun (b : Nat) (k : World) h v0 v1 => to_v (beside_clo b x z 0 1 k h v0 v1 (by omega) (by omega) (by omega) (by omega)) (pos_eq (show x + 0 = x by omega) rfl)
  have N0 := Lib.hid n0
  have N1 := Lib.hid n1
  have N2 := Lib.hid n2
  have N3 := Lib.hid n3
  clear n0 n1 n2 n3
  go_enter Try.func33, Try.ntmps33
  go_wp2_with fail
  refine region_below 10 (by kernel_rfl) (by kernel_rfl) ?_
  simp only [List.take_succ_cons, List.take_zero, List.drop_succ_cons, List.drop_zero]
  repeat (first | (refine' InText.skip (by rfl) ?_; simp only [Act.put, List.setIfInBounds_toArray, List.set_cons_zero, List.set_cons_succ]) | (refine' InText.val (by rfl) (fun wr hr => ?_) ?_; rotate_left 1; (focus (obtain ⟨hrc, hrf⟩ := bcell hr; (go_simp <;> with_reducible rfl); done)); simp only [Act.put, List.setIfInBounds_toArray, List.set_cons_zero, List.set_cons_succ]) | (refine' InText.call (by rfl) (fun wr hr => ?_) (fun wr hr => ?_) ?_; rotate_left 3; (focus ((go_simp <;> (first | with_reducible rfl | exact ⟨rfl, rfl⟩)); done)); (focus (first | with_reducible exact N0.out _ _ (size_lt (by first | (simp; done) | (simp; omega) | omega | (simp [World.setCell]; done) | (simp [World.setCell]; omega)) hr) (keepc hr (by first | (simp; done) | (simp; omega) | omega | (simp [World.setCell]; done) | (simp [World.setCell]; omega)) (by simp [go_sem])) (keepc hr (by first | (simp; done) | (simp; omega) | omega | (simp [World.setCell]; done) | (simp [World.setCell]; omega)) (by simp [go_sem])) | with_reducible exact N1.out _ _ (size_lt (by first | (simp; done) | (simp; omega) | omega | (simp [World.setCell]; done) | (simp [World.setCell]; omega)) hr) (keepc hr (by first | (simp; done) | (simp; omega) | omega | (simp [World.setCell]; done) | (simp [World.setCell]; omega)) (by simp [go_sem])) (keepc hr (by first | (simp; done) | (simp; omega) | omega | (simp [World.setCell]; done) | (simp [World.setCell]; omega)) (by simp [go_sem])) | with_reducible exact N2.out _ _ (size_lt (by first | (simp; done) | (simp; omega) | omega | (simp [World.setCell]; done) | (simp [World.setCell]; omega)) hr) (keepc hr (by first | (simp; done) | (simp; omega) | omega | (simp [World.setCell]; done) | (simp [World.setCell]; omega)) (by simp [go_sem])) (keepc hr (by first | (simp; done) | (simp; omega) | omega | (simp [World.setCell]; done) | (simp [World.setCell]; omega)) (by simp [go_sem])) | with_reducible exact N3.out _ _ (size_lt (by first | (simp; done) | (simp; omega) | omega | (simp [World.setCell]; done) | (simp [World.setCell]; omega)) hr) (keepc hr (by first | (simp; done) | (simp; omega) | omega | (simp [World.setCell]; done) | (simp [World.setCell]; omega)) (by simp [go_sem])) (keepc hr (by first | (simp; done) | (simp; omega) | omega | (simp [World.setCell]; done) | (simp [World.setCell]; omega)) (by simp [go_sem])))); simp only [Act.put, List.setIfInBounds_toArray, List.set_cons_zero, List.set_cons_succ]))
  refine fun wr hr => ?_
  obtain ⟨hrc, hrf⟩ := bcell hr
  go_wp2
  refine bodyPost_ret (v := besideV x z) (by simp [results, Try.results33, go_sem, *]; done) rfl ⟨rfl, ?_⟩
  (repeat (first | with_reducible assumption | with_reducible exact Below.refl _ _ | with_reducible refine Below.drew ?_ | with_reducible refine below_drewN ?_ _ | with_reducible refine al ?_ _ | (with_reducible refine sc ?_ ?_; (focus (first | omega | (simp; done) | (simp; omega)))) | (with_reducible refine chain ?_ (by assumption))))
end Go.Proofs.Ytenpcmhfbbfpeaa
