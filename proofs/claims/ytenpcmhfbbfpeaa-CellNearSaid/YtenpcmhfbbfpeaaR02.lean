/- Contracts of layer 2's reference. -/
import Derived.Test.YtenpcmhfbbfpeaaQ02
import Derived.Test.YtenpcmhfbbfpeaaD01
set_option linter.unusedVariables false
namespace Go.Proofs.Ytenpcmhfbbfpeaa
open Go.ChangeShapes Go.WideShapes Go.ChangeAt Go.RowKit
attribute [local go_sem ↓] Go.wp_at_zero Go.wp_at_succ
theorem r2_add1 (a b : Int) (w : World) : Calls Try.prog 61 #[.int .i64 a, .int .i64 b] w fun e w' => e = .returned (.int .i64 (cut (cut a + cut b))) ∧ w = w' := by
  have ha := cut_bd a
  have hb := cut_bd b
  go_enter Try.func61, Try.ntmps61
  go_wp2_with (go_at_call 45; refine (r_cut _ _).mono ?_; rintro e w' ⟨rfl, rfl⟩)
  go_ret
  exact ⟨rfl, rfl⟩
theorem r2_cut (x y z : Int) (w : World) : Calls Try.prog 18 #[vecV x y z] w fun e w' => e = .returned (vecV (cut x) (cut y) (cut z)) ∧ Below w.heap.size w w' := by
  go_enter Try.func18, Try.ntmps18
  go_wp2_with fail
  refine region_below 10 (by kernel_rfl) (by kernel_rfl) ?_
  simp only [List.take_succ_cons, List.take_zero, List.drop_succ_cons, List.drop_zero]
  repeat (first | (refine' InText.skip (by rfl) ?_; simp only [Act.put, List.setIfInBounds_toArray, List.set_cons_zero, List.set_cons_succ]) | (refine' InText.val (by rfl) (fun wr hr => ?_) ?_; rotate_left 1; (focus (obtain ⟨hrc, hrf⟩ := bcell hr; (go_simp <;> with_reducible rfl); done)); simp only [Act.put, List.setIfInBounds_toArray, List.set_cons_zero, List.set_cons_succ]) | (refine' InText.call (by rfl) (fun wr hr => ?_) (fun wr hr => ?_) ?_; rotate_left 3; (focus ((go_simp <;> (first | with_reducible rfl | exact ⟨rfl, rfl⟩)); done)); (focus (first | with_reducible exact pureB (r_cut _ _))); simp only [Act.put, List.setIfInBounds_toArray, List.set_cons_zero, List.set_cons_succ]))
  refine fun wr hr => ?_
  obtain ⟨hrc, hrf⟩ := bcell hr
  go_wp2
  refine bodyPost_ret (v := vecV (cut x) (cut y) (cut z)) (by simp [results, Try.results18, go_sem, *]; done) rfl ⟨rfl, ?_⟩
  (repeat (first | with_reducible assumption | with_reducible exact Below.refl _ _ | with_reducible refine Below.drew ?_ | with_reducible refine below_drewN ?_ _ | with_reducible refine al ?_ _ | (with_reducible refine sc ?_ ?_; (focus (first | omega | (simp; done) | (simp; omega)))) | (with_reducible refine chain ?_ (by assumption))))
theorem r2_add (x y z u v t : Int) (w : World) : Calls Try.prog 47 #[vecV x y z, vecV u v t] w fun e w' => e = .returned (vecV (cut (cut x + cut u)) (cut (cut y + cut v)) (cut (cut z + cut t))) ∧ Below w.heap.size w w' := by
  go_enter Try.func47, Try.ntmps47
  go_wp2_with fail
  refine region_below 16 (by kernel_rfl) (by kernel_rfl) ?_
  simp only [List.take_succ_cons, List.take_zero, List.drop_succ_cons, List.drop_zero]
  repeat (first | (refine' InText.skip (by rfl) ?_; simp only [Act.put, List.setIfInBounds_toArray, List.set_cons_zero, List.set_cons_succ]) | (refine' InText.val (by rfl) (fun wr hr => ?_) ?_; rotate_left 1; (focus (obtain ⟨hrc, hrf⟩ := bcell hr; (go_simp <;> with_reducible rfl); done)); simp only [Act.put, List.setIfInBounds_toArray, List.set_cons_zero, List.set_cons_succ]) | (refine' InText.call (by rfl) (fun wr hr => ?_) (fun wr hr => ?_) ?_; rotate_left 3; (focus ((go_simp <;> (first | with_reducible rfl | exact ⟨rfl, rfl⟩)); done)); (focus (first | with_reducible exact pureB (r2_add1 _ _ _))); simp only [Act.put, List.setIfInBounds_toArray, List.set_cons_zero, List.set_cons_succ]))
  refine fun wr hr => ?_
  obtain ⟨hrc, hrf⟩ := bcell hr
  go_wp2
  refine bodyPost_ret (v := vecV (cut (cut x + cut u)) (cut (cut y + cut v)) (cut (cut z + cut t))) (by simp [results, Try.results47, go_sem, *]; done) rfl ⟨rfl, ?_⟩
  (repeat (first | with_reducible assumption | with_reducible exact Below.refl _ _ | with_reducible refine Below.drew ?_ | with_reducible refine below_drewN ?_ _ | with_reducible refine al ?_ _ | (with_reducible refine sc ?_ ?_; (focus (first | omega | (simp; done) | (simp; omega)))) | (with_reducible refine chain ?_ (by assumption))))
theorem r2_axis (x y z i : Int) (w : World) : Calls Try.prog 53 #[vecV x y z, .int .i64 i] w fun e w' => e = .returned (.int .i64 (axisF x y z i)) ∧ Below w.heap.size w w' := by
  by_cases h0 : i = 0
  · subst h0
    go_enter Try.func53, Try.ntmps53
    go_wp2
    go_ret
    exact ⟨rfl, by (repeat (first | with_reducible assumption | with_reducible exact Below.refl _ _ | with_reducible refine Below.drew ?_ | with_reducible refine below_drewN ?_ _ | with_reducible refine al ?_ _ | (with_reducible refine sc ?_ ?_; (focus (first | omega | (simp; done) | (simp; omega)))) | (with_reducible refine chain ?_ (by assumption))))⟩
  by_cases h1 : i = 1
  · subst h1
    go_enter Try.func53, Try.ntmps53
    go_wp2
    go_ret
    exact ⟨rfl, by (repeat (first | with_reducible assumption | with_reducible exact Below.refl _ _ | with_reducible refine Below.drew ?_ | with_reducible refine below_drewN ?_ _ | with_reducible refine al ?_ _ | (with_reducible refine sc ?_ ?_; (focus (first | omega | (simp; done) | (simp; omega)))) | (with_reducible refine chain ?_ (by assumption))))⟩
  by_cases h2 : i = 2
  · subst h2
    go_enter Try.func53, Try.ntmps53
    go_wp2
    go_ret
    exact ⟨rfl, by (repeat (first | with_reducible assumption | with_reducible exact Below.refl _ _ | with_reducible refine Below.drew ?_ | with_reducible refine below_drewN ?_ _ | with_reducible refine al ?_ _ | (with_reducible refine sc ?_ ?_; (focus (first | omega | (simp; done) | (simp; omega)))) | (with_reducible refine chain ?_ (by assumption))))⟩
  unfold axisF
  rw [if_neg h0, if_neg h1, if_neg h2]
  have e0 : (i == 0) = false := by simpa using h0
  have e1 : (i == 1) = false := by simpa using h1
  have e2 : (i == 2) = false := by simpa using h2
  clear h0 h1 h2
  go_enter Try.func53, Try.ntmps53
  go_wp2
  go_ret
  exact ⟨rfl, by (repeat (first | with_reducible assumption | with_reducible exact Below.refl _ _ | with_reducible refine Below.drew ?_ | with_reducible refine below_drewN ?_ _ | with_reducible refine al ?_ _ | (with_reducible refine sc ?_ ?_; (focus (first | omega | (simp; done) | (simp; omega)))) | (with_reducible refine chain ?_ (by assumption))))⟩
theorem r2_with (x y z i n : Int) (w : World) : Calls Try.prog 54 #[vecV x y z, .int .i64 i, .int .i64 n] w fun e w' =>
    e = .returned (vecV (if i = 0 then cut n else x) (if i = 1 then cut n else y) (if i = 2 then cut n else z)) ∧ Below w.heap.size w w' := by
  by_cases h : i = 0 ∨ i = 1 ∨ i = 2
  · rcases h with rfl | rfl | rfl
    all_goals
      simp only [if_true, show ¬ (0 : Int) = 1 by omega, show ¬ (0 : Int) = 2 by omega, show ¬ (1 : Int) = 0 by omega, show ¬ (1 : Int) = 2 by omega, show ¬ (2 : Int) = 0 by omega, show ¬ (2 : Int) = 1 by omega, if_false]
      go_enter Try.func54, Try.ntmps54
      go_wp2_with (go_at_call 45; refine (r_cut _ _).mono ?_; rintro e w' ⟨rfl, rfl⟩)
      refine bodyPost_ret (v := vecV _ _ _) (by simp [results, Try.results54, go_sem, *]; done) rfl ⟨rfl, ?_⟩
      (repeat (first | with_reducible assumption | with_reducible exact Below.refl _ _ | with_reducible refine Below.drew ?_ | with_reducible refine below_drewN ?_ _ | with_reducible refine al ?_ _ | (with_reducible refine sc ?_ ?_; (focus (first | omega | (simp; done) | (simp; omega)))) | (with_reducible refine chain ?_ (by assumption))))
  · rw [if_neg (by omega), if_neg (by omega), if_neg (by omega)]
    have e0 : (i == 0) = false := by rw [beq_eq_false_iff_ne]; omega
    have e1 : (i == 1) = false := by rw [beq_eq_false_iff_ne]; omega
    have e2 : (i == 2) = false := by rw [beq_eq_false_iff_ne]; omega
    clear h
    go_enter Try.func54, Try.ntmps54
    go_wp2_with (go_at_call 45; refine (r_cut _ _).mono ?_; rintro e w' ⟨rfl, rfl⟩)
    refine bodyPost_ret (v := vecV x y z) (by simp [results, Try.results54, go_sem, *]; done) rfl ⟨rfl, ?_⟩
    (repeat (first | with_reducible assumption | with_reducible exact Below.refl _ _ | with_reducible refine Below.drew ?_ | with_reducible refine below_drewN ?_ _ | with_reducible refine al ?_ _ | (with_reducible refine sc ?_ ?_; (focus (first | omega | (simp; done) | (simp; omega)))) | (with_reducible refine chain ?_ (by assumption))))
theorem r2_overlap (x y z x' y' z' u v t u' v' t' : Int) (w : World) : Calls Try.prog 39 #[boxV x y z x' y' z', boxV u v t u' v' t'] w fun e w' =>
    e = .returned (.bool ((decide (x < u') && decide (u < x')) && (decide (y < v') && decide (v < y')) && (decide (z < t') && decide (t < z')))) ∧ Below w.heap.size w w' := by
  go_enter Try.func39, Try.ntmps39
  go_wp2
  all_goals
    go_ret
    exact ⟨ret_bool (by first | (simp [*]; done) | (rw [Bool.eq_iff_iff]; simp [*]; omega)), by (repeat (first | with_reducible assumption | with_reducible exact Below.refl _ _ | with_reducible refine Below.drew ?_ | with_reducible refine below_drewN ?_ _ | with_reducible refine al ?_ _ | (with_reducible refine sc ?_ ?_; (focus (first | omega | (simp; done) | (simp; omega)))) | (with_reducible refine chain ?_ (by assumption))))⟩
end Go.Proofs.Ytenpcmhfbbfpeaa
