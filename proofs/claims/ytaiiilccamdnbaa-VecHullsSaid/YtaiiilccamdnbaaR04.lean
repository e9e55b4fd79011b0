/- Contracts of layer 2's reference: a box made good; what is near 0. -/
import Derived.Test.YtaiiilccamdnbaaR02
import Derived.Deep.Cut
set_option linter.unusedVariables false
namespace Go.Proofs.Ytaiiilccamdnbaa
open Go.ChangeShapes Go.WideShapes Go.ChangeAt Go.RowKit
attribute [local go_sem ↓] Go.wp_at_zero Go.wp_at_succ
set_option maxHeartbeats 1000000 in
theorem r2_good (x y z x' y' z' : Int) (w : World) : Calls Try.prog 25 #[boxV x y z x' y' z'] w fun e w' =>
    e = .returned (boxV (min (cut x) (cut x')) (min (cut y) (cut y')) (min (cut z) (cut z')) (max (cut x) (cut x')) (max (cut y) (cut y')) (max (cut z) (cut z'))) ∧ Below w.heap.size w w' := by
  go_enter Try.func25, Try.ntmps25
  go_wp2_with fail
  (refine (r2_cut _ _ _ _).mono ?_; rintro e w1 ⟨rfl, hb1⟩)
  have _cw10 : w1.cell? ⟨w.heap.size + 1, 0, none⟩ = some (.int .i64 0) := keepc hb1 (by first | (simp; done) | (simp; omega)) (by simp [go_sem])
  have _cw11 : w1.cell? ⟨w.heap.size + 1, 1, none⟩ = some (.int .i64 0) := keepc hb1 (by first | (simp; done) | (simp; omega)) (by simp [go_sem])
  have _cw12 : w1.cell? ⟨w.heap.size + 1, 2, none⟩ = some (.int .i64 0) := keepc hb1 (by first | (simp; done) | (simp; omega)) (by simp [go_sem])
  have _cw13 : w1.cell? ⟨w.heap.size + 1, 3, none⟩ = some (.int .i64 0) := keepc hb1 (by first | (simp; done) | (simp; omega)) (by simp [go_sem])
  have _cw14 : w1.cell? ⟨w.heap.size + 1, 4, none⟩ = some (.int .i64 0) := keepc hb1 (by first | (simp; done) | (simp; omega)) (by simp [go_sem])
  have _cw15 : w1.cell? ⟨w.heap.size + 1, 5, none⟩ = some (.int .i64 0) := keepc hb1 (by first | (simp; done) | (simp; omega)) (by simp [go_sem])
  have _fw1 : ∀ o, w1.frozen? ⟨w.heap.size + 1, o, none⟩ = false := fun o => keepf hb1 (by first | (simp; done) | (simp; omega)) (by simp [go_sem])
  have c3 : w1.cell? ⟨w.heap.size, 3, none⟩ = some (.int .i64 x') := keepc hb1 (by first | (simp; done) | (simp; omega) | omega) (by simp [go_sem])
  have c4 : w1.cell? ⟨w.heap.size, 4, none⟩ = some (.int .i64 y') := keepc hb1 (by first | (simp; done) | (simp; omega) | omega) (by simp [go_sem])
  have c5 : w1.cell? ⟨w.heap.size, 5, none⟩ = some (.int .i64 z') := keepc hb1 (by first | (simp; done) | (simp; omega) | omega) (by simp [go_sem])
  have z0 : w.heap.size + 1 < w1.heap.size := size_lt (by simp) hb1
  have z1 : w.heap.size < w1.heap.size := by omega
  have k1 : Below w.heap.size w w1 := by (repeat (first | with_reducible assumption | with_reducible exact Below.refl _ _ | with_reducible refine Below.drew ?_ | with_reducible refine below_drewN ?_ _ | with_reducible refine al ?_ _ | (with_reducible refine sc ?_ ?_; (focus (first | omega | (simp; done) | (simp; omega)))) | (with_reducible refine chain ?_ (by assumption))))
  clear hb1
  go_wp2_with fail
  (refine (r2_cut _ _ _ _).mono ?_; rintro e w2 ⟨rfl, hb2⟩)
  have _cw20 : w2.cell? ⟨w1.heap.size, 0, none⟩ = some (.int .i64 (cut x)) := keepc hb2 (by first | (simp; done) | (simp; omega)) (by simp [go_sem])
  have _cw21 : w2.cell? ⟨w1.heap.size, 1, none⟩ = some (.int .i64 (cut y)) := keepc hb2 (by first | (simp; done) | (simp; omega)) (by simp [go_sem])
  have _cw22 : w2.cell? ⟨w1.heap.size, 2, none⟩ = some (.int .i64 (cut z)) := keepc hb2 (by first | (simp; done) | (simp; omega)) (by simp [go_sem])
  have _fw2 : ∀ o, w2.frozen? ⟨w1.heap.size, o, none⟩ = false := fun o => keepf hb2 (by first | (simp; done) | (simp; omega)) (by simp [go_sem])
  have d0 : w2.cell? ⟨w.heap.size + 1, 0, none⟩ = some (.int .i64 0) := keepc hb2 (by first | (simp; done) | (simp; omega) | omega) (by simp [go_sem, *])
  have d1 : w2.cell? ⟨w.heap.size + 1, 1, none⟩ = some (.int .i64 0) := keepc hb2 (by first | (simp; done) | (simp; omega) | omega) (by simp [go_sem, *])
  have d2 : w2.cell? ⟨w.heap.size + 1, 2, none⟩ = some (.int .i64 0) := keepc hb2 (by first | (simp; done) | (simp; omega) | omega) (by simp [go_sem, *])
  have d3 : w2.cell? ⟨w.heap.size + 1, 3, none⟩ = some (.int .i64 0) := keepc hb2 (by first | (simp; done) | (simp; omega) | omega) (by simp [go_sem, *])
  have d4 : w2.cell? ⟨w.heap.size + 1, 4, none⟩ = some (.int .i64 0) := keepc hb2 (by first | (simp; done) | (simp; omega) | omega) (by simp [go_sem, *])
  have d5 : w2.cell? ⟨w.heap.size + 1, 5, none⟩ = some (.int .i64 0) := keepc hb2 (by first | (simp; done) | (simp; omega) | omega) (by simp [go_sem, *])
  have df : ∀ o, w2.frozen? ⟨w.heap.size + 1, o, none⟩ = false := fun o => keepf hb2 (by first | (simp; done) | (simp; omega) | omega) (by simp [go_sem, *])
  have y0 : w1.heap.size < w2.heap.size := size_lt (by simp) hb2
  have y1 : w.heap.size < w2.heap.size := by omega
  have y2 : w.heap.size + 1 < w2.heap.size := by omega
  have k2 : Below w.heap.size w w2 := by (repeat (first | with_reducible assumption | with_reducible exact Below.refl _ _ | with_reducible refine Below.drew ?_ | with_reducible refine below_drewN ?_ _ | with_reducible refine al ?_ _ | (with_reducible refine sc ?_ ?_; (focus (first | omega | (simp; done) | (simp; omega)))) | (with_reducible refine chain ?_ (by assumption))))
  clear hb2 k1 c3 c4 c5 _cw10 _cw11 _cw12 _cw13 _cw14 _cw15 _fw1
  generalize w1.heap.size = B at *
  go_upto_region 3 with (fail)
  refine plain_below 33 ?_
  simp only [List.take_succ_cons, List.take_zero, List.drop_succ_cons, List.drop_zero]
  repeat (first | (refine' InText.skip (by rfl) ?_; simp only [Act.put, List.setIfInBounds_toArray, List.set_cons_zero, List.set_cons_succ]) | (refine' InText.val (by rfl) (fun wr hr => ?_) ?_; rotate_left 1; (focus (obtain ⟨hrc, hrf⟩ := bcell hr; (go_simp <;> with_reducible rfl); done)); simp only [Act.put, List.setIfInBounds_toArray, List.set_cons_zero, List.set_cons_succ]))
  refine fun wr hr => ?_
  obtain ⟨hrc, hrf⟩ := bcell hr
  go_wp2_with fail
  refine bodyPost_ret (v := boxV (min (cut x) (cut x')) (min (cut y) (cut y')) (min (cut z) (cut z')) (max (cut x) (cut x')) (max (cut y) (cut y')) (max (cut z) (cut z'))) (by simp [results, Try.results25, go_sem, *]; done) rfl ⟨rfl, ?_⟩
  (repeat (first | with_reducible assumption | with_reducible exact Below.refl _ _ | with_reducible refine Below.drew ?_ | with_reducible refine below_drewN ?_ _ | with_reducible refine al ?_ _ | (with_reducible refine sc ?_ ?_; (focus (first | omega | (simp; done) | (simp; omega)))) | (with_reducible refine chain ?_ (by assumption))))
def aroundF (n m : Int) : Int := (if n < 0 then -(n + 1) else n) % m
theorem r_around (n m : Int) (h0 : -9223372036854775808 ≤ n) (h1 : n ≤ 9223372036854775807) (hm : 1 ≤ m) (hm1 : m ≤ 9223372036854775807) (w : World) : Calls Try.prog 59 #[.int .i64 n, .int .i64 m] w fun e w' => e = .returned (.int .i64 (aroundF n m)) ∧ w = w' := by
  have em : (m == 0) = false := by rw [beq_eq_false_iff_ne]; omega
  unfold aroundF
  by_cases hn : n < 0
  · rw [if_pos hn]
    have e : -(n + 1).tmod m = -(n + 1) % m := by rw [← Int.neg_tmod]; exact Int.tmod_eq_emod_of_nonneg (by omega)
    have E := Lib.hid e
    clear e
    go_enter Try.func59, Try.ntmps59
    go_wp2
    go_ret
    exact ⟨ret_int E.out, rfl⟩
  · rw [if_neg hn]
    go_enter Try.func59, Try.ntmps59
    go_wp2
    go_ret
    exact ⟨rfl, rfl⟩
theorem around_bd (n m : Int) (hm : 1 ≤ m) : 0 ≤ aroundF n m ∧ aroundF n m < m := ⟨Int.emod_nonneg _ (by omega), Int.emod_lt_of_pos _ (by omega)⟩
def smallF (n : Int) : Int := aroundF n 70368744177665 - 35184372088832
abbrev i64 (n : Int) : Prop := -9223372036854775808 ≤ n ∧ n ≤ 9223372036854775807
theorem small_bd (n : Int) : -35184372088832 ≤ smallF n ∧ smallF n ≤ 35184372088832 := by
  have := around_bd n 70368744177665 (by omega); unfold smallF; omega
theorem r_small (x y z : Int) (hx : i64 x) (hy : i64 y) (hz : i64 z) (w : World) : Calls Try.prog 39 #[vecV x y z] w fun e w' => e = .returned (vecV (smallF x) (smallF y) (smallF z)) ∧ Below w.heap.size w w' := by
  have bx := around_bd x 70368744177665 (by omega)
  have By := around_bd y 70368744177665 (by omega)
  have bz := around_bd z 70368744177665 (by omega)
  have wx : IntKind.i64.wrap (aroundF x 70368744177665 - 35184372088832) = aroundF x 70368744177665 - 35184372088832 := IntWalk.i64_in _ (by omega)
  have wy : IntKind.i64.wrap (aroundF y 70368744177665 - 35184372088832) = aroundF y 70368744177665 - 35184372088832 := IntWalk.i64_in _ (by omega)
  have wz : IntKind.i64.wrap (aroundF z 70368744177665 - 35184372088832) = aroundF z 70368744177665 - 35184372088832 := IntWalk.i64_in _ (by omega)
  go_enter Try.func39, Try.ntmps39
  go_wp2_with fail
  refine region_below 13 (by kernel_rfl) (by kernel_rfl) ?_
  simp only [List.take_succ_cons, List.take_zero, List.drop_succ_cons, List.drop_zero]
  repeat (first | (refine' InText.skip (by rfl) ?_; simp only [Act.put, List.setIfInBounds_toArray, List.set_cons_zero, List.set_cons_succ]) | (refine' InText.val (by rfl) (fun wr hr => ?_) ?_; rotate_left 1; (focus (obtain ⟨hrc, hrf⟩ := bcell hr; (go_simp <;> with_reducible rfl); done)); simp only [Act.put, List.setIfInBounds_toArray, List.set_cons_zero, List.set_cons_succ]) | (refine' InText.call (by rfl) (fun wr hr => ?_) (fun wr hr => ?_) ?_; rotate_left 3; (focus ((go_simp <;> (first | with_reducible rfl | exact ⟨rfl, rfl⟩)); done)); (focus (first | with_reducible exact pureB (r_around _ _ hx.1 hx.2 (by decide) (by decide) _) | with_reducible exact pureB (r_around _ _ hy.1 hy.2 (by decide) (by decide) _) | with_reducible exact pureB (r_around _ _ hz.1 hz.2 (by decide) (by decide) _))); simp only [Act.put, List.setIfInBounds_toArray, List.set_cons_zero, List.set_cons_succ]))
  refine fun wr hr => ?_
  obtain ⟨hrc, hrf⟩ := bcell hr
  go_wp2
  refine bodyPost_ret (v := vecV (smallF x) (smallF y) (smallF z)) (by unfold smallF; simp [results, Try.results39, go_sem, *]; done) rfl ⟨rfl, ?_⟩
  (repeat (first | with_reducible assumption | with_reducible exact Below.refl _ _ | with_reducible refine Below.drew ?_ | with_reducible refine below_drewN ?_ _ | with_reducible refine al ?_ _ | (with_reducible refine sc ?_ ?_; (focus (first | omega | (simp; done) | (simp; omega)))) | (with_reducible refine chain ?_ (by assumption))))
end Go.Proofs.Ytaiiilccamdnbaa
