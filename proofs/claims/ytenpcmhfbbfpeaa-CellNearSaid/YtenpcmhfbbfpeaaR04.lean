/- Contracts of layer 2's reference: a box made good; what is near 0. -/
import Derived.Test.YtenpcmhfbbfpeaaR02
import Derived.Deep.Cut
set_option linter.unusedVariables false
namespace Go.Proofs.Ytenpcmhfbbfpeaa
open Go.ChangeShapes Go.WideShapes Go.ChangeAt Go.RowKit
attribute [local go_sem ↓] Go.wp_at_zero Go.wp_at_succ
set_option maxHeartbeats 1000000 in
theorem r2_good (x y z x' y' z' : Int) (w : World) : Calls Try.prog 35 #[boxV x y z x' y' z'] w fun e w' =>
    e = .returned (boxV (min (cut x) (cut x')) (min (cut y) (cut y')) (min (cut z) (cut z')) (max (cut x) (cut x')) (max (cut y) (cut y')) (max (cut z) (cut z'))) ∧ Below w.heap.size w w' := by
  go_enter Try.func35, Try.ntmps35
  go_wp2_with fail
  (refine (r2_cut _ _ _ _).mono ?_; rintro e w1 ⟨rfl, hb1⟩)
  have _cw10 : w1.cell? ⟨w.heap.size + 1, 0, none⟩ = some (.int .i64 0) := keepc hb1 (by first | (simp; done) | (simp; omega) | omega | (simp [World.setCell]; done) | (simp [World.setCell]; omega)) (by first | (simp [go_sem, *]; done) | go_simp)
  have _cw11 : w1.cell? ⟨w.heap.size + 1, 1, none⟩ = some (.int .i64 0) := keepc hb1 (by first | (simp; done) | (simp; omega) | omega | (simp [World.setCell]; done) | (simp [World.setCell]; omega)) (by first | (simp [go_sem, *]; done) | go_simp)
  have _cw12 : w1.cell? ⟨w.heap.size + 1, 2, none⟩ = some (.int .i64 0) := keepc hb1 (by first | (simp; done) | (simp; omega) | omega | (simp [World.setCell]; done) | (simp [World.setCell]; omega)) (by first | (simp [go_sem, *]; done) | go_simp)
  have _cw13 : w1.cell? ⟨w.heap.size + 1, 3, none⟩ = some (.int .i64 0) := keepc hb1 (by first | (simp; done) | (simp; omega) | omega | (simp [World.setCell]; done) | (simp [World.setCell]; omega)) (by first | (simp [go_sem, *]; done) | go_simp)
  have _cw14 : w1.cell? ⟨w.heap.size + 1, 4, none⟩ = some (.int .i64 0) := keepc hb1 (by first | (simp; done) | (simp; omega) | omega | (simp [World.setCell]; done) | (simp [World.setCell]; omega)) (by first | (simp [go_sem, *]; done) | go_simp)
  have _cw15 : w1.cell? ⟨w.heap.size + 1, 5, none⟩ = some (.int .i64 0) := keepc hb1 (by first | (simp; done) | (simp; omega) | omega | (simp [World.setCell]; done) | (simp [World.setCell]; omega)) (by first | (simp [go_sem, *]; done) | go_simp)
  have _fw1 : ∀ o, w1.frozen? ⟨w.heap.size + 1, o, none⟩ = false := fun o => keepf hb1 (by first | (simp; done) | (simp; omega) | omega | (simp [World.setCell]; done) | (simp [World.setCell]; omega)) (by simp [go_sem, *])
  have c3 : w1.cell? ⟨w.heap.size, 3, none⟩ = some (.int .i64 x') := keepc hb1 (by first | (simp; done) | (simp; omega) | omega | (simp [World.setCell]; done) | (simp [World.setCell]; omega)) (by simp [go_sem])
  have c4 : w1.cell? ⟨w.heap.size, 4, none⟩ = some (.int .i64 y') := keepc hb1 (by first | (simp; done) | (simp; omega) | omega | (simp [World.setCell]; done) | (simp [World.setCell]; omega)) (by simp [go_sem])
  have c5 : w1.cell? ⟨w.heap.size, 5, none⟩ = some (.int .i64 z') := keepc hb1 (by first | (simp; done) | (simp; omega) | omega | (simp [World.setCell]; done) | (simp [World.setCell]; omega)) (by simp [go_sem])
  have z0 : w.heap.size + 1 < w1.heap.size := size_lt (by simp) hb1
  have z1 : w.heap.size < w1.heap.size := by omega
  have k1 : Below w.heap.size w w1 := by (repeat (first | with_reducible assumption | with_reducible exact Below.refl _ _ | with_reducible refine Below.drew ?_ | with_reducible refine below_drewN ?_ _ | with_reducible refine al ?_ _ | (with_reducible refine sc ?_ ?_; (focus (first | omega | (simp; done) | (simp; omega)))) | (with_reducible refine chain ?_ (by assumption))))
  clear hb1
  go_wp2_with fail
  (refine (r2_cut _ _ _ _).mono ?_; rintro e w2 ⟨rfl, hb2⟩)
  have _cw20 : w2.cell? ⟨w1.heap.size, 0, none⟩ = some (.int .i64 (cut x)) := keepc hb2 (by first | (simp; done) | (simp; omega) | omega | (simp [World.setCell]; done) | (simp [World.setCell]; omega)) (by first | (simp [go_sem, *]; done) | go_simp)
  have _cw21 : w2.cell? ⟨w1.heap.size, 1, none⟩ = some (.int .i64 (cut y)) := keepc hb2 (by first | (simp; done) | (simp; omega) | omega | (simp [World.setCell]; done) | (simp [World.setCell]; omega)) (by first | (simp [go_sem, *]; done) | go_simp)
  have _cw22 : w2.cell? ⟨w1.heap.size, 2, none⟩ = some (.int .i64 (cut z)) := keepc hb2 (by first | (simp; done) | (simp; omega) | omega | (simp [World.setCell]; done) | (simp [World.setCell]; omega)) (by first | (simp [go_sem, *]; done) | go_simp)
  have _fw2 : ∀ o, w2.frozen? ⟨w1.heap.size, o, none⟩ = false := fun o => keepf hb2 (by first | (simp; done) | (simp; omega) | omega | (simp [World.setCell]; done) | (simp [World.setCell]; omega)) (by simp [go_sem, *])
  have d0 : w2.cell? ⟨w.heap.size + 1, 0, none⟩ = some (.int .i64 0) := keepc hb2 (by first | (simp; done) | (simp; omega) | omega | (simp [World.setCell]; done) | (simp [World.setCell]; omega)) (by simp [go_sem, *])
  have d1 : w2.cell? ⟨w.heap.size + 1, 1, none⟩ = some (.int .i64 0) := keepc hb2 (by first | (simp; done) | (simp; omega) | omega | (simp [World.setCell]; done) | (simp [World.setCell]; omega)) (by simp [go_sem, *])
  have d2 : w2.cell? ⟨w.heap.size + 1, 2, none⟩ = some (.int .i64 0) := keepc hb2 (by first | (simp; done) | (simp; omega) | omega | (simp [World.setCell]; done) | (simp [World.setCell]; omega)) (by simp [go_sem, *])
  have d3 : w2.cell? ⟨w.heap.size + 1, 3, none⟩ = some (.int .i64 0) := keepc hb2 (by first | (simp; done) | (simp; omega) | omega | (simp [World.setCell]; done) | (simp [World.setCell]; omega)) (by simp [go_sem, *])
  have d4 : w2.cell? ⟨w.heap.size + 1, 4, none⟩ = some (.int .i64 0) := keepc hb2 (by first | (simp; done) | (simp; omega) | omega | (simp [World.setCell]; done) | (simp [World.setCell]; omega)) (by simp [go_sem, *])
  have d5 : w2.cell? ⟨w.heap.size + 1, 5, none⟩ = some (.int .i64 0) := keepc hb2 (by first | (simp; done) | (simp; omega) | omega | (simp [World.setCell]; done) | (simp [World.setCell]; omega)) (by simp [go_sem, *])
  have df : ∀ o, w2.frozen? ⟨w.heap.size + 1, o, none⟩ = false := fun o => keepf hb2 (by first | (simp; done) | (simp; omega) | omega | (simp [World.setCell]; done) | (simp [World.setCell]; omega)) (by simp [go_sem, *])
  have y0 : w1.heap.size < w2.heap.size := size_lt (by simp) hb2
  have y1 : w.heap.size < w2.heap.size := by omega
  have y2 : w.heap.size + 1 < w2.heap.size := by omega
  have k2 : Below w.heap.size w w2 := by (repeat (first | with_reducible assumption | with_reducible exact Below.refl _ _ | with_reducible refine Below.drew ?_ | with_reducible refine below_drewN ?_ _ | with_reducible refine al ?_ _ | (with_reducible refine sc ?_ ?_; (focus (first | omega | (simp; done) | (simp; omega)))) | (with_reducible refine chain ?_ (by assumption))))
  clear hb2 k1 c3 c4 c5 _cw10 _cw11 _cw12 _cw13 _cw14 _cw15 _fw1
  generalize w1.heap.size = B at *
  go_upto_region 3 with (fail)
  refine plain_below 33 ?_
  simp only [List.take_succ_cons, List.take_zero, List.drop_succ_cons, List.drop_zero]
  repeat (first | (refine' InText.skip (by rfl) ?_; simp only [Act.put, List.setIfInBounds_toArray, List.set_cons_zero, List.set_cons_succ]) | (refine' InText.val (by rfl) (fun wr hr => ?_) ?_; rotate_left 1; (focus (obtain ⟨hrc, hrf⟩ := bcell hr; (go_simp <;> with_reducible rfl); done)); simp only [Act.put, List.setIfInBounds_toArray, List.set_cons_zero, List.set_cons_succ]))
  refine fun wr hr => ?_
  obtain ⟨hrc, hrf⟩ := bcell hr
  go_wp2_with fail
  refine bodyPost_ret (v := boxV (min (cut x) (cut x')) (min (cut y) (cut y')) (min (cut z) (cut z')) (max (cut x) (cut x')) (max (cut y) (cut y')) (max (cut z) (cut z'))) (by simp [results, Try.results35, go_sem, *]; done) rfl ⟨rfl, ?_⟩
  (repeat (first | with_reducible assumption | with_reducible exact Below.refl _ _ | with_reducible refine Below.drew ?_ | with_reducible refine below_drewN ?_ _ | with_reducible refine al ?_ _ | (with_reducible refine sc ?_ ?_; (focus (first | omega | (simp; done) | (simp; omega)))) | (with_reducible refine chain ?_ (by assumption))))
theorem r_around (n m : Int) (h0 : -9223372036854775808 ≤ n) (h1 : n ≤ 9223372036854775807) (hm : 1 ≤ m) (hm1 : m ≤ 9223372036854775807) (w : World) : Calls Try.prog 29 #[.int .i64 n, .int .i64 m] w fun e w' => e = .returned (.int .i64 (aroundF n m)) ∧ w = w' := by
  have em : (m == 0) = false := by rw [beq_eq_false_iff_ne]; omega
  unfold aroundF
  by_cases hn : n < 0
  · rw [if_pos hn]
    have e : -(n + 1).tmod m = -(n + 1) % m := by rw [← Int.neg_tmod]; exact Int.tmod_eq_emod_of_nonneg (by omega)
    have E := Lib.hid e
    clear e
    go_enter Try.func29, Try.ntmps29
    go_wp2
    go_ret
    exact ⟨ret_int E.out, rfl⟩
  · rw [if_neg hn]
    go_enter Try.func29, Try.ntmps29
    go_wp2
    go_ret
    exact ⟨rfl, rfl⟩
