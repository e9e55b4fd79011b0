/- Contracts of layer 3's reference (cells): Box, Good. -/
import Derived.Test.YtenpcmhfbbfpeaaE03
import Derived.Test.YtenpcmhfbbfpeaaS03
set_option linter.unusedVariables false
set_option linter.unusedSimpArgs false
namespace Go.Proofs.Ytenpcmhfbbfpeaa
open Go.ChangeShapes Go.WideShapes Go.ChangeAt Go.RowKit
theorem r3_box (x y z : Int) (w : World) : Calls Try.prog 20 #[vecV x y z] w fun e w' => e = .returned (cbox (cellC x) (cellC y) (cellC z)) ∧ Below w.heap.size w w' := by
  have bX := cellC_bd x
  have bY := cellC_bd y
  have bZ := cellC_bd z
  have cc := fun k => r3_cut x y z k
  generalize cellC x = X at *
  generalize cellC y = Y at *
  generalize cellC z = Z at *
  have k1 := fun k => to_v (r2_add (X * 65536) (Y * 65536) (Z * 65536) 65536 65536 65536 k) (vec_eq (u := topF X) (v := topF Y) (t := topF Z) (by unfold topF cut; omega) (by unfold topF cut; omega) (by unfold topF cut; omega))
  have CC := Lib.hid cc
  have K1 := Lib.hid k1
  clear cc k1
  go_enter Try.func20, Try.ntmps20
  go_wp2_with fail
  have rb : RowAt (w.alloc (.cells #[.int .i64 x, .int .i64 y, .int .i64 z] 28)) (w.heap.size) #[.int .i64 x, .int .i64 y, .int .i64 z] 28 := RowAt.make _ _ _ (by simp)
  have rb : RowAt ((w.alloc (.cells #[.int .i64 x, .int .i64 y, .int .i64 z] 28)).alloc (.cells #[.int .i64 0, .int .i64 0, .int .i64 0, .int .i64 0, .int .i64 0, .int .i64 0] 31)) (w.heap.size) #[.int .i64 x, .int .i64 y, .int .i64 z] 28 := rb.alloc _
  have rr : RowAt ((w.alloc (.cells #[.int .i64 x, .int .i64 y, .int .i64 z] 28)).alloc (.cells #[.int .i64 0, .int .i64 0, .int .i64 0, .int .i64 0, .int .i64 0, .int .i64 0] 31)) (w.heap.size + 1) #[.int .i64 0, .int .i64 0, .int .i64 0, .int .i64 0, .int .i64 0, .int .i64 0] 31 := RowAt.make _ _ _ (by simp)
  have kw : Below w.heap.size w ((w.alloc (.cells #[.int .i64 x, .int .i64 y, .int .i64 z] 28)).alloc (.cells #[.int .i64 0, .int .i64 0, .int .i64 0, .int .i64 0, .int .i64 0, .int .i64 0] 31)) := by (repeat (first | with_reducible assumption | with_reducible exact Below.refl _ _ | with_reducible refine Below.drew ?_ | with_reducible refine below_drewN ?_ _ | with_reducible refine al ?_ _ | (with_reducible refine sc ?_ ?_; (focus (first | omega | (simp; done) | (simp; omega)))) | (with_reducible refine chain ?_ (by assumption))))
  generalize ((w.alloc (.cells #[.int .i64 x, .int .i64 y, .int .i64 z] 28)).alloc (.cells #[.int .i64 0, .int .i64 0, .int .i64 0, .int .i64 0, .int .i64 0, .int .i64 0] 31)) = W1 at *
  have cb : ∀ j, W1.cell? ⟨w.heap.size, j, none⟩ = (#[.int .i64 x, .int .i64 y, .int .i64 z] : Array Value)[j]? := rb.cell
  have fb : ∀ j, W1.frozen? ⟨w.heap.size, j, none⟩ = false := rb.frozen
  have zb : w.heap.size < W1.heap.size := rb.lt
  have cr : ∀ j, W1.cell? ⟨w.heap.size + 1, j, none⟩ = (#[.int .i64 0, .int .i64 0, .int .i64 0, .int .i64 0, .int .i64 0, .int .i64 0] : Array Value)[j]? := rr.cell
  have fr : ∀ j, W1.frozen? ⟨w.heap.size + 1, j, none⟩ = false := rr.frozen
  have zr : w.heap.size + 1 < W1.heap.size := rr.lt
  (refine (CC.out _).mono ?_; rintro e W2 ⟨rfl, hW2⟩)
  clear cb fb zb cr fr zr
  replace rb := rb.keep hW2
  replace rr := rr.keep hW2
  replace kw := kw.trans (hW2.mono kw.size)
  have cb : ∀ j, W2.cell? ⟨w.heap.size, j, none⟩ = (#[.int .i64 x, .int .i64 y, .int .i64 z] : Array Value)[j]? := rb.cell
  have fb : ∀ j, W2.frozen? ⟨w.heap.size, j, none⟩ = false := rb.frozen
  have zb : w.heap.size < W2.heap.size := rb.lt
  have cr : ∀ j, W2.cell? ⟨w.heap.size + 1, j, none⟩ = (#[.int .i64 0, .int .i64 0, .int .i64 0, .int .i64 0, .int .i64 0, .int .i64 0] : Array Value)[j]? := rr.cell
  have fr : ∀ j, W2.frozen? ⟨w.heap.size + 1, j, none⟩ = false := rr.frozen
  have zr : w.heap.size + 1 < W2.heap.size := rr.lt
  clear hW2
  go_wp2_with fail
  have ydb : w.heap.size < W2.heap.size := by omega
  have ydr : w.heap.size + 1 < W2.heap.size := by omega
  have yvb : w.heap.size < W2.heap.size + 1 := by omega
  have yvr : w.heap.size + 1 < W2.heap.size + 1 := by omega
  have yvd : W2.heap.size < W2.heap.size + 1 := by omega
  replace kw : Below w.heap.size w ((W2.alloc (.cells #[.int .i64 X, .int .i64 Y, .int .i64 Z] 28)).alloc (.cells #[.int .i64 (X * 65536), .int .i64 (Y * 65536), .int .i64 (Z * 65536)] 27)) := by (repeat (first | with_reducible assumption | with_reducible exact Below.refl _ _ | with_reducible refine Below.drew ?_ | with_reducible refine below_drewN ?_ _ | with_reducible refine al ?_ _ | (with_reducible refine sc ?_ ?_; (focus (first | omega | (simp; done) | (simp; omega)))) | (with_reducible refine chain ?_ (by assumption))))
  replace rb : RowAt ((W2.alloc (.cells #[.int .i64 X, .int .i64 Y, .int .i64 Z] 28)).alloc (.cells #[.int .i64 (X * 65536), .int .i64 (Y * 65536), .int .i64 (Z * 65536)] 27)) (w.heap.size) #[.int .i64 x, .int .i64 y, .int .i64 z] 28 := ((rb.alloc _).alloc _)
  replace rr : RowAt ((W2.alloc (.cells #[.int .i64 X, .int .i64 Y, .int .i64 Z] 28)).alloc (.cells #[.int .i64 (X * 65536), .int .i64 (Y * 65536), .int .i64 (Z * 65536)] 27)) (w.heap.size + 1) #[.int .i64 0, .int .i64 0, .int .i64 0, .int .i64 0, .int .i64 0, .int .i64 0] 31 := ((rr.alloc _).alloc _)
  have rd : RowAt ((W2.alloc (.cells #[.int .i64 X, .int .i64 Y, .int .i64 Z] 28)).alloc (.cells #[.int .i64 (X * 65536), .int .i64 (Y * 65536), .int .i64 (Z * 65536)] 27)) (W2.heap.size) #[.int .i64 X, .int .i64 Y, .int .i64 Z] 28 := ((RowAt.make _ _ _ (by first | rfl | (simp [World.setCell]; done))).alloc _)
  have rv : RowAt ((W2.alloc (.cells #[.int .i64 X, .int .i64 Y, .int .i64 Z] 28)).alloc (.cells #[.int .i64 (X * 65536), .int .i64 (Y * 65536), .int .i64 (Z * 65536)] 27)) (W2.heap.size + 1) #[.int .i64 (X * 65536), .int .i64 (Y * 65536), .int .i64 (Z * 65536)] 27 := (RowAt.make _ _ _ (by first | rfl | (simp [World.setCell]; done)))
  clear cb fb zb cr fr zr
  generalize ((W2.alloc (.cells #[.int .i64 X, .int .i64 Y, .int .i64 Z] 28)).alloc (.cells #[.int .i64 (X * 65536), .int .i64 (Y * 65536), .int .i64 (Z * 65536)] 27)) = W3 at *
  have cb : ∀ j, W3.cell? ⟨w.heap.size, j, none⟩ = (#[.int .i64 x, .int .i64 y, .int .i64 z] : Array Value)[j]? := rb.cell
  have fb : ∀ j, W3.frozen? ⟨w.heap.size, j, none⟩ = false := rb.frozen
  have zb : w.heap.size < W3.heap.size := rb.lt
  have cr : ∀ j, W3.cell? ⟨w.heap.size + 1, j, none⟩ = (#[.int .i64 0, .int .i64 0, .int .i64 0, .int .i64 0, .int .i64 0, .int .i64 0] : Array Value)[j]? := rr.cell
  have fr : ∀ j, W3.frozen? ⟨w.heap.size + 1, j, none⟩ = false := rr.frozen
  have zr : w.heap.size + 1 < W3.heap.size := rr.lt
  have cd : ∀ j, W3.cell? ⟨W2.heap.size, j, none⟩ = (#[.int .i64 X, .int .i64 Y, .int .i64 Z] : Array Value)[j]? := rd.cell
  have fd : ∀ j, W3.frozen? ⟨W2.heap.size, j, none⟩ = false := rd.frozen
  have zd : W2.heap.size < W3.heap.size := rd.lt
  have cv : ∀ j, W3.cell? ⟨W2.heap.size + 1, j, none⟩ = (#[.int .i64 (X * 65536), .int .i64 (Y * 65536), .int .i64 (Z * 65536)] : Array Value)[j]? := rv.cell
  have fv : ∀ j, W3.frozen? ⟨W2.heap.size + 1, j, none⟩ = false := rv.frozen
  have zv : W2.heap.size + 1 < W3.heap.size := rv.lt
  refine region_below 5 (by kernel_rfl) (by kernel_rfl) ?_
  simp only [List.take_succ_cons, List.take_zero, List.drop_succ_cons, List.drop_zero]
  repeat (first | (refine' InText.skip (by rfl) ?_; simp only [Act.put, List.setIfInBounds_toArray, List.set_cons_zero, List.set_cons_succ]) | (refine' InText.val (by rfl) (fun wr hr => ?_) ?_; rotate_left 1; (focus (obtain ⟨hrc, hrf⟩ := bcell hr; (go_simp <;> with_reducible rfl); done)); simp only [Act.put, List.setIfInBounds_toArray, List.set_cons_zero, List.set_cons_succ]) | (refine' InText.call (by rfl) (fun wr hr => ?_) (fun wr hr => ?_) ?_; rotate_left 3; (focus ((go_simp <;> (first | with_reducible rfl | exact ⟨rfl, rfl⟩)); done)); (focus (first | with_reducible exact K1.out _)); simp only [Act.put, List.setIfInBounds_toArray, List.set_cons_zero, List.set_cons_succ]))
  refine fun wr hr => ?_
  obtain ⟨hrc, hrf⟩ := bcell hr
  go_wp2
  refine bodyPost_ret (v := cbox X Y Z) (by simp [results, Try.results20, go_sem, *]; done) rfl ⟨rfl, ?_⟩
  (repeat (first | with_reducible assumption | with_reducible exact Below.refl _ _ | with_reducible refine Below.drew ?_ | with_reducible refine below_drewN ?_ _ | with_reducible refine al ?_ _ | (with_reducible refine sc ?_ ?_; (focus (first | omega | (simp; done) | (simp; omega)))) | (with_reducible refine chain ?_ (by assumption))))
theorem r3_good (x y z : Int) (hx : i64 x) (hy : i64 y) (hz : i64 z) (w : World) : Calls Try.prog 42 #[vecV x y z, .int .i64 40] w fun e w' =>
    e = .returned (vecV (aroundF x 81 - 40) (aroundF y 32) (aroundF z 81 - 40)) ∧ Below w.heap.size w w' := by
  have bx := around_bd x 81 (by omega)
  have bz := around_bd z 81 (by omega)
  have kx := fun k => r_around x 81 hx.1 hx.2 (by omega) (by omega) k
  have ky := fun k => r_around y 32 hy.1 hy.2 (by omega) (by omega) k
  have kz := fun k => r_around z 81 hz.1 hz.2 (by omega) (by omega) k
  generalize aroundF x 81 = X at *
  generalize aroundF y 32 = Y at *
  generalize aroundF z 81 = Z at *
  have KX := Lib.hid kx
  have KY := Lib.hid ky
  have KZ := Lib.hid kz
  clear kx ky kz
  have w80 : IntKind.i64.wrap 80 = 80 := rfl
  have w81 : IntKind.i64.wrap 81 = 81 := rfl
  have wx : IntKind.i64.wrap (X - 40) = X - 40 := IntWalk.i64_in _ (by omega)
  have wz : IntKind.i64.wrap (Z - 40) = Z - 40 := IntWalk.i64_in _ (by omega)
  go_enter Try.func42, Try.ntmps42
  go_wp2_with fail
  refine region_below 20 (by kernel_rfl) (by kernel_rfl) ?_
  simp only [List.take_succ_cons, List.take_zero, List.drop_succ_cons, List.drop_zero]
  repeat (first | (refine' InText.skip (by rfl) ?_; simp only [Act.put, List.setIfInBounds_toArray, List.set_cons_zero, List.set_cons_succ]) | (refine' InText.val (by rfl) (fun wr hr => ?_) ?_; rotate_left 1; (focus (obtain ⟨hrc, hrf⟩ := bcell hr; (go_simp <;> with_reducible rfl); done)); simp only [Act.put, List.setIfInBounds_toArray, List.set_cons_zero, List.set_cons_succ]) | (refine' InText.call (by rfl) (fun wr hr => ?_) (fun wr hr => ?_) ?_; rotate_left 3; (focus ((go_simp <;> (first | with_reducible rfl | exact ⟨rfl, rfl⟩)); done)); (focus (first | with_reducible exact pureB (KX.out _) | with_reducible exact pureB (KY.out _) | with_reducible exact pureB (KZ.out _))); simp only [Act.put, List.setIfInBounds_toArray, List.set_cons_zero, List.set_cons_succ]))
  refine fun wr hr => ?_
  obtain ⟨hrc, hrf⟩ := bcell hr
  go_wp2
  refine bodyPost_ret (v := vecV (X - 40) Y (Z - 40)) (by simp [results, Try.results42, go_sem, *]; done) rfl ⟨rfl, ?_⟩
  (repeat (first | with_reducible assumption | with_reducible exact Below.refl _ _ | with_reducible refine Below.drew ?_ | with_reducible refine below_drewN ?_ _ | with_reducible refine al ?_ _ | (with_reducible refine sc ?_ ?_; (focus (first | omega | (simp; done) | (simp; omega)))) | (with_reducible refine chain ?_ (by assumption))))
end Go.Proofs.Ytenpcmhfbbfpeaa
