/- Contracts of layer 3 (cell): Box, Index, From. -/
import Derived.Test.YtenpcmhfbbfpeaaC03
import Derived.Test.YtenpcmhfbbfpeaaR31
set_option linter.unusedVariables false
set_option linter.unusedSimpArgs false
namespace Go.Proofs.Ytenpcmhfbbfpeaa
open Go.ChangeShapes Go.WideShapes Go.ChangeAt Go.RowKit
theorem cellC_bd (n : Int) : -2147483648 ≤ cellC n ∧ cellC n ≤ 2147483648 := by unfold cellC; omega
theorem cellC_in {n : Int} (h0 : -2147483648 ≤ n) (h1 : n ≤ 2147483648) : cellC n = n := by unfold cellC; omega
/-- The far corner's number. -/
def topF (n : Int) : Int := cut (n * 65536 + 65536)
abbrev cbox (X Y Z : Int) : Value := boxV (X * 65536) (Y * 65536) (Z * 65536) (topF X) (topF Y) (topF Z)
theorem whole_in {n : Int} (h0 : -2147483648 ≤ n) (h1 : n ≤ 2147483648) : whole n * 65536 = n * 65536 := by unfold whole; omega
theorem whole_top {n : Int} (h0 : -2147483648 ≤ n) (h1 : n ≤ 2147483648) : whole (n + 1) * 65536 = topF n := by unfold whole topF cut; omega
theorem c3_box (x y z : Int) (w : World) : Calls Try.prog 17 #[vecV x y z] w fun e w' => e = .returned (cbox (cellC x) (cellC y) (cellC z)) ∧ Below w.heap.size w w' := by
  have bX := cellC_bd x
  have bY := cellC_bd y
  have bZ := cellC_bd z
  have cc := fun k => c3_cut x y z k
  generalize cellC x = X at *
  generalize cellC y = Y at *
  generalize cellC z = Z at *
  have k0 := fun k => to_v (c3_corner X Y Z k) (vec_eq (whole_in bX.1 bX.2) (whole_in bY.1 bY.2) (whole_in bZ.1 bZ.2))
  have k1 := fun k => to_v (c3_corner (X + 1) (Y + 1) (Z + 1) k) (vec_eq (whole_top bX.1 bX.2) (whole_top bY.1 bY.2) (whole_top bZ.1 bZ.2))
  have wX : IntKind.i64.wrap (X + 1) = X + 1 := IntWalk.i64_in _ (by omega)
  have wY : IntKind.i64.wrap (Y + 1) = Y + 1 := IntWalk.i64_in _ (by omega)
  have wZ : IntKind.i64.wrap (Z + 1) = Z + 1 := IntWalk.i64_in _ (by omega)
  have CC := Lib.hid cc
  have K0 := Lib.hid k0
  have K1 := Lib.hid k1
  clear cc k0 k1
  go_enter Try.func17, Try.ntmps17
  go_wp2_with fail
  (refine (CC.out _).mono ?_; rintro e w1 ⟨rfl, hb1⟩)
  obtain ⟨_hcw1, _hfw1⟩ := bcell hb1
  have _zw10 : w.heap.size < w1.heap.size := size_lt (by first | (simp; done) | (simp; omega) | omega | (simp [World.setCell]; done) | (simp [World.setCell]; omega)) hb1
  have _zw11 : w.heap.size + 1 < w1.heap.size := size_lt (by first | (simp; done) | (simp; omega) | omega | (simp [World.setCell]; done) | (simp [World.setCell]; omega)) hb1
  have k1 : Below w.heap.size w w1 := by (repeat (first | with_reducible assumption | with_reducible exact Below.refl _ _ | with_reducible refine Below.drew ?_ | with_reducible refine below_drewN ?_ _ | with_reducible refine al ?_ _ | (with_reducible refine sc ?_ ?_; (focus (first | omega | (simp; done) | (simp; omega)))) | (with_reducible refine chain ?_ (by assumption))))
  have _cw10 : w1.cell? ⟨w.heap.size, 0, none⟩ = some (.int .i64 x) := keepc hb1 (by first | (simp; done) | (simp; omega) | omega | (simp [World.setCell]; done) | (simp [World.setCell]; omega)) (by first | (simp [go_sem, *]; done) | go_simp)
  have _cw11 : w1.cell? ⟨w.heap.size, 1, none⟩ = some (.int .i64 y) := keepc hb1 (by first | (simp; done) | (simp; omega) | omega | (simp [World.setCell]; done) | (simp [World.setCell]; omega)) (by first | (simp [go_sem, *]; done) | go_simp)
  have _cw12 : w1.cell? ⟨w.heap.size, 2, none⟩ = some (.int .i64 z) := keepc hb1 (by first | (simp; done) | (simp; omega) | omega | (simp [World.setCell]; done) | (simp [World.setCell]; omega)) (by first | (simp [go_sem, *]; done) | go_simp)
  have _fw1 : ∀ o, w1.frozen? ⟨w.heap.size, o, none⟩ = false := fun o => keepf hb1 (by first | (simp; done) | (simp; omega) | omega | (simp [World.setCell]; done) | (simp [World.setCell]; omega)) (by simp [go_sem, *])
  have _cw1b0 : w1.cell? ⟨w.heap.size + 1, 0, none⟩ = some (.int .i64 0) := keepc hb1 (by first | (simp; done) | (simp; omega) | omega | (simp [World.setCell]; done) | (simp [World.setCell]; omega)) (by first | (simp [go_sem, *]; done) | go_simp)
  have _cw1b1 : w1.cell? ⟨w.heap.size + 1, 1, none⟩ = some (.int .i64 0) := keepc hb1 (by first | (simp; done) | (simp; omega) | omega | (simp [World.setCell]; done) | (simp [World.setCell]; omega)) (by first | (simp [go_sem, *]; done) | go_simp)
  have _cw1b2 : w1.cell? ⟨w.heap.size + 1, 2, none⟩ = some (.int .i64 0) := keepc hb1 (by first | (simp; done) | (simp; omega) | omega | (simp [World.setCell]; done) | (simp [World.setCell]; omega)) (by first | (simp [go_sem, *]; done) | go_simp)
  have _cw1b3 : w1.cell? ⟨w.heap.size + 1, 3, none⟩ = some (.int .i64 0) := keepc hb1 (by first | (simp; done) | (simp; omega) | omega | (simp [World.setCell]; done) | (simp [World.setCell]; omega)) (by first | (simp [go_sem, *]; done) | go_simp)
  have _cw1b4 : w1.cell? ⟨w.heap.size + 1, 4, none⟩ = some (.int .i64 0) := keepc hb1 (by first | (simp; done) | (simp; omega) | omega | (simp [World.setCell]; done) | (simp [World.setCell]; omega)) (by first | (simp [go_sem, *]; done) | go_simp)
  have _cw1b5 : w1.cell? ⟨w.heap.size + 1, 5, none⟩ = some (.int .i64 0) := keepc hb1 (by first | (simp; done) | (simp; omega) | omega | (simp [World.setCell]; done) | (simp [World.setCell]; omega)) (by first | (simp [go_sem, *]; done) | go_simp)
  have _fw1b : ∀ o, w1.frozen? ⟨w.heap.size + 1, o, none⟩ = false := fun o => keepf hb1 (by first | (simp; done) | (simp; omega) | omega | (simp [World.setCell]; done) | (simp [World.setCell]; omega)) (by simp [go_sem, *])
  go_wp2_with fail
  have kw : Below w.heap.size w (((w1.setCell ⟨w.heap.size, 0, none⟩ (.int .i64 X)).setCell ⟨w.heap.size, 1, none⟩ (.int .i64 Y)).setCell ⟨w.heap.size, 2, none⟩ (.int .i64 Z)) := by (repeat (first | with_reducible assumption | with_reducible exact Below.refl _ _ | with_reducible refine Below.drew ?_ | with_reducible refine below_drewN ?_ _ | with_reducible refine al ?_ _ | (with_reducible refine sc ?_ ?_; (focus (first | omega | (simp; done) | (simp; omega)))) | (with_reducible refine chain ?_ (by assumption))))
  have c0 : (((w1.setCell ⟨w.heap.size, 0, none⟩ (.int .i64 X)).setCell ⟨w.heap.size, 1, none⟩ (.int .i64 Y)).setCell ⟨w.heap.size, 2, none⟩ (.int .i64 Z)).cell? ⟨w.heap.size, 0, none⟩ = some (.int .i64 X) := by go_simp
  have c1 : (((w1.setCell ⟨w.heap.size, 0, none⟩ (.int .i64 X)).setCell ⟨w.heap.size, 1, none⟩ (.int .i64 Y)).setCell ⟨w.heap.size, 2, none⟩ (.int .i64 Z)).cell? ⟨w.heap.size, 1, none⟩ = some (.int .i64 Y) := by go_simp
  have c2 : (((w1.setCell ⟨w.heap.size, 0, none⟩ (.int .i64 X)).setCell ⟨w.heap.size, 1, none⟩ (.int .i64 Y)).setCell ⟨w.heap.size, 2, none⟩ (.int .i64 Z)).cell? ⟨w.heap.size, 2, none⟩ = some (.int .i64 Z) := by go_simp
  have d0 : (((w1.setCell ⟨w.heap.size, 0, none⟩ (.int .i64 X)).setCell ⟨w.heap.size, 1, none⟩ (.int .i64 Y)).setCell ⟨w.heap.size, 2, none⟩ (.int .i64 Z)).cell? ⟨w.heap.size + 1, 0, none⟩ = some (.int .i64 0) := by go_simp
  have d1 : (((w1.setCell ⟨w.heap.size, 0, none⟩ (.int .i64 X)).setCell ⟨w.heap.size, 1, none⟩ (.int .i64 Y)).setCell ⟨w.heap.size, 2, none⟩ (.int .i64 Z)).cell? ⟨w.heap.size + 1, 1, none⟩ = some (.int .i64 0) := by go_simp
  have d2 : (((w1.setCell ⟨w.heap.size, 0, none⟩ (.int .i64 X)).setCell ⟨w.heap.size, 1, none⟩ (.int .i64 Y)).setCell ⟨w.heap.size, 2, none⟩ (.int .i64 Z)).cell? ⟨w.heap.size + 1, 2, none⟩ = some (.int .i64 0) := by go_simp
  have d3 : (((w1.setCell ⟨w.heap.size, 0, none⟩ (.int .i64 X)).setCell ⟨w.heap.size, 1, none⟩ (.int .i64 Y)).setCell ⟨w.heap.size, 2, none⟩ (.int .i64 Z)).cell? ⟨w.heap.size + 1, 3, none⟩ = some (.int .i64 0) := by go_simp
  have d4 : (((w1.setCell ⟨w.heap.size, 0, none⟩ (.int .i64 X)).setCell ⟨w.heap.size, 1, none⟩ (.int .i64 Y)).setCell ⟨w.heap.size, 2, none⟩ (.int .i64 Z)).cell? ⟨w.heap.size + 1, 4, none⟩ = some (.int .i64 0) := by go_simp
  have d5 : (((w1.setCell ⟨w.heap.size, 0, none⟩ (.int .i64 X)).setCell ⟨w.heap.size, 1, none⟩ (.int .i64 Y)).setCell ⟨w.heap.size, 2, none⟩ (.int .i64 Z)).cell? ⟨w.heap.size + 1, 5, none⟩ = some (.int .i64 0) := by go_simp
  have fr : ∀ o, (((w1.setCell ⟨w.heap.size, 0, none⟩ (.int .i64 X)).setCell ⟨w.heap.size, 1, none⟩ (.int .i64 Y)).setCell ⟨w.heap.size, 2, none⟩ (.int .i64 Z)).frozen? ⟨w.heap.size + 1, o, none⟩ = false := by go_simp
  have zw : w.heap.size + 1 < (((w1.setCell ⟨w.heap.size, 0, none⟩ (.int .i64 X)).setCell ⟨w.heap.size, 1, none⟩ (.int .i64 Y)).setCell ⟨w.heap.size, 2, none⟩ (.int .i64 Z)).heap.size := (by first | (simp; done) | (simp; omega) | omega | (simp [World.setCell]; done) | (simp [World.setCell]; omega))
  have zv : w.heap.size < (((w1.setCell ⟨w.heap.size, 0, none⟩ (.int .i64 X)).setCell ⟨w.heap.size, 1, none⟩ (.int .i64 Y)).setCell ⟨w.heap.size, 2, none⟩ (.int .i64 Z)).heap.size := (by first | (simp; done) | (simp; omega) | omega | (simp [World.setCell]; done) | (simp [World.setCell]; omega))
  generalize (((w1.setCell ⟨w.heap.size, 0, none⟩ (.int .i64 X)).setCell ⟨w.heap.size, 1, none⟩ (.int .i64 Y)).setCell ⟨w.heap.size, 2, none⟩ (.int .i64 Z)) = W at *
  clear hb1 _hcw1 _hfw1 k1
  refine region_below 18 (by kernel_rfl) (by kernel_rfl) ?_
  simp only [List.take_succ_cons, List.take_zero, List.drop_succ_cons, List.drop_zero]
  repeat (first | (refine' InText.skip (by rfl) ?_; simp only [Act.put, List.setIfInBounds_toArray, List.set_cons_zero, List.set_cons_succ]) | (refine' InText.val (by rfl) (fun wr hr => ?_) ?_; rotate_left 1; (focus (obtain ⟨hrc, hrf⟩ := bcell hr; (go_simp <;> with_reducible rfl); done)); simp only [Act.put, List.setIfInBounds_toArray, List.set_cons_zero, List.set_cons_succ]) | (refine' InText.call (by rfl) (fun wr hr => ?_) (fun wr hr => ?_) ?_; rotate_left 3; (focus ((go_simp <;> (first | with_reducible rfl | exact ⟨rfl, rfl⟩)); done)); (focus (first | with_reducible exact K0.out _ | with_reducible exact K1.out _)); simp only [Act.put, List.setIfInBounds_toArray, List.set_cons_zero, List.set_cons_succ]))
  refine fun wr hr => ?_
  obtain ⟨hrc, hrf⟩ := bcell hr
  go_wp2
  refine bodyPost_ret (v := cbox X Y Z) (by simp [results, Try.results17, go_sem, *]; done) rfl ⟨rfl, ?_⟩
  (repeat (first | with_reducible assumption | with_reducible exact Below.refl _ _ | with_reducible refine Below.drew ?_ | with_reducible refine below_drewN ?_ _ | with_reducible refine al ?_ _ | (with_reducible refine sc ?_ ?_; (focus (first | omega | (simp; done) | (simp; omega)))) | (with_reducible refine chain ?_ (by assumption))))
theorem c3_index (x y z : Int) (hx : i64 x) (hz : i64 z) (h0 : 0 ≤ y) (h1 : y ≤ 31) (w : World) : Calls Try.prog 25 #[vecV x y z] w fun e w' => e = .returned (.tuple #[.int .i64 (idxF x y z), .bool true]) ∧ Below w.heap.size w w' := by
  have dx := fun k => c3_mod x 16 hx (by decide) k
  have dz := fun k => c3_mod z 16 hz (by decide) k
  rw [show modF x 16 = x % 16 from rfl] at dx
  rw [show modF z 16 = z % 16 from rfl] at dz
  have bx : 0 ≤ x % 16 ∧ x % 16 ≤ 15 := by omega
  have bz : 0 ≤ z % 16 ∧ z % 16 ≤ 15 := by omega
  unfold idxF
  obtain ⟨p, hp⟩ : ∃ p, x % 16 = p := ⟨_, rfl⟩
  obtain ⟨q, hq⟩ : ∃ q, z % 16 = q := ⟨_, rfl⟩
  rw [hp] at dx bx ⊢
  rw [hq] at dz bz ⊢
  have DX := Lib.hid dx
  have DZ := Lib.hid dz
  clear dx dz hp hq
  have m1 : IntKind.i64.wrap (y * 16) = y * 16 := IntWalk.i64_in _ (by omega)
  have m2 : IntKind.i64.wrap (y * 16 + q) = y * 16 + q := IntWalk.i64_in _ (by omega)
  have m3 : IntKind.i64.wrap ((y * 16 + q) * 16) = (y * 16 + q) * 16 := IntWalk.i64_in _ (by omega)
  have m4 : IntKind.i64.wrap ((y * 16 + q) * 16 + p) = (y * 16 + q) * 16 + p := IntWalk.i64_in _ (by omega)
  have ee : (y * 16 + q) * 16 + p = y * 256 + q * 16 + p := by omega
  have EE := Lib.hid ee
  clear ee
  go_enter Try.func25, Try.ntmps25
  go_wp2_with fail
  refine region_below 12 (by kernel_rfl) (by kernel_rfl) ?_
  simp only [List.take_succ_cons, List.take_zero, List.drop_succ_cons, List.drop_zero]
  repeat (first | (refine' InText.skip (by rfl) ?_; simp only [Act.put, List.setIfInBounds_toArray, List.set_cons_zero, List.set_cons_succ]) | (refine' InText.val (by rfl) (fun wr hr => ?_) ?_; rotate_left 1; (focus (obtain ⟨hrc, hrf⟩ := bcell hr; (go_simp <;> with_reducible rfl); done)); simp only [Act.put, List.setIfInBounds_toArray, List.set_cons_zero, List.set_cons_succ]) | (refine' InText.call (by rfl) (fun wr hr => ?_) (fun wr hr => ?_) ?_; rotate_left 3; (focus ((go_simp <;> (first | with_reducible rfl | exact ⟨rfl, rfl⟩)); done)); (focus (first | with_reducible exact pureB (DX.out _) | with_reducible exact pureB (DZ.out _))); simp only [Act.put, List.setIfInBounds_toArray, List.set_cons_zero, List.set_cons_succ]))
  refine fun wr hr => ?_
  obtain ⟨hrc, hrf⟩ := bcell hr
  go_wp2
  go_ret2
  exact ⟨by rw [EE.out]; rfl, by (repeat (first | with_reducible assumption | with_reducible exact Below.refl _ _ | with_reducible refine Below.drew ?_ | with_reducible refine below_drewN ?_ _ | with_reducible refine al ?_ _ | (with_reducible refine sc ?_ ?_; (focus (first | omega | (simp; done) | (simp; omega)))) | (with_reducible refine chain ?_ (by assumption))))⟩
theorem c3_index_no (x y z : Int) (h : y < 0 ∨ 31 < y) (w : World) : Calls Try.prog 25 #[vecV x y z] w fun e w' => e = .returned (.tuple #[.int .i64 0, .bool false]) ∧ Below w.heap.size w w' := by
  rcases h with h | h
  all_goals
    go_enter Try.func25, Try.ntmps25
    go_wp2
    go_ret2
    exact ⟨rfl, by (repeat (first | with_reducible assumption | with_reducible exact Below.refl _ _ | with_reducible refine Below.drew ?_ | with_reducible refine below_drewN ?_ _ | with_reducible refine al ?_ _ | (with_reducible refine sc ?_ ?_; (focus (first | omega | (simp; done) | (simp; omega)))) | (with_reducible refine chain ?_ (by assumption))))⟩
theorem c3_from (x z i : Int) (hx : -134217728 ≤ x ∧ x ≤ 134217728) (hz : -134217728 ≤ z ∧ z ≤ 134217728) (h0 : 0 ≤ i) (h1 : i ≤ 8191) (w : World) : Calls Try.prog 28 #[posV x z, .int .i64 i] w fun e w' =>
    e = .returned (.tuple #[vecV (x * 16 + i % 16) (i / 256) (z * 16 + i % 256 / 16), .bool true]) ∧ Below w.heap.size w w' := by
  obtain ⟨hx0, hx1⟩ := hx
  obtain ⟨hz0, hz1⟩ := hz
  have ee : i % 256 / 16 = i / 16 % 16 := by omega
  rw [ee]
  clear ee
  go_enter Try.func28, Try.ntmps28
  go_wp2
  refine bodyPost_ret (v := .tuple #[vecV (x * 16 + i % 16) (i / 256) (z * 16 + i / 16 % 16), .bool true]) (by simp [results, Try.results28, go_sem, *]; done) rfl ⟨rfl, ?_⟩
  (repeat (first | with_reducible assumption | with_reducible exact Below.refl _ _ | with_reducible refine Below.drew ?_ | with_reducible refine below_drewN ?_ _ | with_reducible refine al ?_ _ | (with_reducible refine sc ?_ ?_; (focus (first | omega | (simp; done) | (simp; omega)))) | (with_reducible refine chain ?_ (by assumption))))
theorem c3_from_no (x z i : Int) (h : i < 0 ∨ 8191 < i) (w : World) : Calls Try.prog 28 #[posV x z, .int .i64 i] w fun e w' =>
    e = .returned (.tuple #[vecV 0 0 0, .bool false]) ∧ Below w.heap.size w w' := by
  rcases h with h | h
  all_goals
    go_enter Try.func28, Try.ntmps28
    go_wp2
    refine bodyPost_ret (v := .tuple #[vecV 0 0 0, .bool false]) (by simp [results, Try.results28, go_sem, *]; done) rfl ⟨rfl, ?_⟩
    (repeat (first | with_reducible assumption | with_reducible exact Below.refl _ _ | with_reducible refine Below.drew ?_ | with_reducible refine below_drewN ?_ _ | with_reducible refine al ?_ _ | (with_reducible refine sc ?_ ?_; (focus (first | omega | (simp; done) | (simp; omega)))) | (with_reducible refine chain ?_ (by assumption))))
end Go.Proofs.Ytenpcmhfbbfpeaa
