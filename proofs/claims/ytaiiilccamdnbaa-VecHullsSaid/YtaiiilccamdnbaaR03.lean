/- Contracts of layer 2's reference, and of what its statements call. -/
import Derived.Test.YtaiiilccamdnbaaR02
set_option linter.unusedVariables false
namespace Go.Proofs.Ytaiiilccamdnbaa
open Go.ChangeShapes Go.WideShapes Go.ChangeAt Go.RowKit
attribute [local go_sem ↓] Go.wp_at_zero Go.wp_at_succ
theorem r2_has (x y z x' y' z' u v t : Int) (w : World) : Calls Try.prog 31 #[boxV x y z x' y' z', vecV u v t] w fun e w' =>
    e = .returned (.bool ((decide (x ≤ u) && decide (u < x')) && (decide (y ≤ v) && decide (v < y')) && (decide (z ≤ t) && decide (t < z')))) ∧ Below w.heap.size w w' := by
  go_enter Try.func31, Try.ntmps31
  go_wp2
  all_goals
    go_ret
    exact ⟨ret_bool (by first | (simp [*]; done) | (rw [Bool.eq_iff_iff]; simp [*]; omega)), by (repeat (first | with_reducible assumption | with_reducible exact Below.refl _ _ | with_reducible refine Below.drew ?_ | with_reducible refine below_drewN ?_ _ | with_reducible refine al ?_ _ | (with_reducible refine sc ?_ ?_; (focus (first | omega | (simp; done) | (simp; omega)))) | (with_reducible refine chain ?_ (by assumption))))⟩
theorem r2_may (x y z x' y' z' : Int) (w : World) : Calls Try.prog 27 #[boxV x y z x' y' z'] w fun e w' =>
    e = .returned (.bool (eq3B (cut x) (cut y) (cut z) x y z && eq3B (cut x') (cut y') (cut z') x' y' z' && (decide (x ≤ x') && decide (y ≤ y') && decide (z ≤ z')))) ∧ Below w.heap.size w w' := by
  have q3 := eq3_run
  cases e1 : eq3B (cut x) (cut y) (cut z) x y z
  · go_enter Try.func27, Try.ntmps27
    go_wp2_with fail
    refine region_below 41 (by kernel_rfl) (by kernel_rfl) ?_
    simp only [List.take_succ_cons, List.take_zero, List.drop_succ_cons, List.drop_zero]
    repeat (first | (refine' InText.skip (by rfl) ?_; simp only [Act.put, List.setIfInBounds_toArray, List.set_cons_zero, List.set_cons_succ]) | (refine' InText.val (by rfl) (fun wr hr => ?_) ?_; rotate_left 1; (focus (obtain ⟨hrc, hrf⟩ := bcell hr; (go_simp <;> with_reducible rfl); done)); simp only [Act.put, List.setIfInBounds_toArray, List.set_cons_zero, List.set_cons_succ]) | (refine' InText.call (by rfl) (fun wr hr => ?_) (fun wr hr => ?_) ?_; rotate_left 3; (focus ((go_simp <;> (first | with_reducible rfl | exact ⟨rfl, rfl⟩)); done)); (focus (first | with_reducible exact r2_cut _ _ _ _)); simp only [Act.put, List.setIfInBounds_toArray, List.set_cons_zero, List.set_cons_succ]))
    refine fun wr hr => ?_
    obtain ⟨hrc, hrf⟩ := bcell hr
    go_wp2
    go_ret
    exact ⟨rfl, by (repeat (first | with_reducible assumption | with_reducible exact Below.refl _ _ | with_reducible refine Below.drew ?_ | with_reducible refine below_drewN ?_ _ | with_reducible refine al ?_ _ | (with_reducible refine sc ?_ ?_; (focus (first | omega | (simp; done) | (simp; omega)))) | (with_reducible refine chain ?_ (by assumption))))⟩
  cases e2 : eq3B (cut x') (cut y') (cut z') x' y' z'
  · go_enter Try.func27, Try.ntmps27
    go_wp2_with fail
    refine region_below 41 (by kernel_rfl) (by kernel_rfl) ?_
    simp only [List.take_succ_cons, List.take_zero, List.drop_succ_cons, List.drop_zero]
    repeat (first | (refine' InText.skip (by rfl) ?_; simp only [Act.put, List.setIfInBounds_toArray, List.set_cons_zero, List.set_cons_succ]) | (refine' InText.val (by rfl) (fun wr hr => ?_) ?_; rotate_left 1; (focus (obtain ⟨hrc, hrf⟩ := bcell hr; (go_simp <;> with_reducible rfl); done)); simp only [Act.put, List.setIfInBounds_toArray, List.set_cons_zero, List.set_cons_succ]) | (refine' InText.call (by rfl) (fun wr hr => ?_) (fun wr hr => ?_) ?_; rotate_left 3; (focus ((go_simp <;> (first | with_reducible rfl | exact ⟨rfl, rfl⟩)); done)); (focus (first | with_reducible exact r2_cut _ _ _ _)); simp only [Act.put, List.setIfInBounds_toArray, List.set_cons_zero, List.set_cons_succ]))
    refine fun wr hr => ?_
    obtain ⟨hrc, hrf⟩ := bcell hr
    go_wp2
    go_ret
    exact ⟨rfl, by (repeat (first | with_reducible assumption | with_reducible exact Below.refl _ _ | with_reducible refine Below.drew ?_ | with_reducible refine below_drewN ?_ _ | with_reducible refine al ?_ _ | (with_reducible refine sc ?_ ?_; (focus (first | omega | (simp; done) | (simp; omega)))) | (with_reducible refine chain ?_ (by assumption))))⟩
  obtain ⟨p, hp⟩ : ∃ p, decide (x ≤ x') = p := ⟨_, rfl⟩
  obtain ⟨q, hq⟩ : ∃ q, decide (y ≤ y') = q := ⟨_, rfl⟩
  cases p
  · go_enter Try.func27, Try.ntmps27
    go_wp2_with fail
    refine region_below 41 (by kernel_rfl) (by kernel_rfl) ?_
    simp only [List.take_succ_cons, List.take_zero, List.drop_succ_cons, List.drop_zero]
    repeat (first | (refine' InText.skip (by rfl) ?_; simp only [Act.put, List.setIfInBounds_toArray, List.set_cons_zero, List.set_cons_succ]) | (refine' InText.val (by rfl) (fun wr hr => ?_) ?_; rotate_left 1; (focus (obtain ⟨hrc, hrf⟩ := bcell hr; (go_simp <;> with_reducible rfl); done)); simp only [Act.put, List.setIfInBounds_toArray, List.set_cons_zero, List.set_cons_succ]) | (refine' InText.call (by rfl) (fun wr hr => ?_) (fun wr hr => ?_) ?_; rotate_left 3; (focus ((go_simp <;> (first | with_reducible rfl | exact ⟨rfl, rfl⟩)); done)); (focus (first | with_reducible exact r2_cut _ _ _ _)); simp only [Act.put, List.setIfInBounds_toArray, List.set_cons_zero, List.set_cons_succ]))
    refine fun wr hr => ?_
    obtain ⟨hrc, hrf⟩ := bcell hr
    go_wp2
    go_ret
    exact ⟨ret_bool (by rw [hp]; rfl), by (repeat (first | with_reducible assumption | with_reducible exact Below.refl _ _ | with_reducible refine Below.drew ?_ | with_reducible refine below_drewN ?_ _ | with_reducible refine al ?_ _ | (with_reducible refine sc ?_ ?_; (focus (first | omega | (simp; done) | (simp; omega)))) | (with_reducible refine chain ?_ (by assumption))))⟩
  cases q
  · go_enter Try.func27, Try.ntmps27
    go_wp2_with fail
    refine region_below 41 (by kernel_rfl) (by kernel_rfl) ?_
    simp only [List.take_succ_cons, List.take_zero, List.drop_succ_cons, List.drop_zero]
    repeat (first | (refine' InText.skip (by rfl) ?_; simp only [Act.put, List.setIfInBounds_toArray, List.set_cons_zero, List.set_cons_succ]) | (refine' InText.val (by rfl) (fun wr hr => ?_) ?_; rotate_left 1; (focus (obtain ⟨hrc, hrf⟩ := bcell hr; (go_simp <;> with_reducible rfl); done)); simp only [Act.put, List.setIfInBounds_toArray, List.set_cons_zero, List.set_cons_succ]) | (refine' InText.call (by rfl) (fun wr hr => ?_) (fun wr hr => ?_) ?_; rotate_left 3; (focus ((go_simp <;> (first | with_reducible rfl | exact ⟨rfl, rfl⟩)); done)); (focus (first | with_reducible exact r2_cut _ _ _ _)); simp only [Act.put, List.setIfInBounds_toArray, List.set_cons_zero, List.set_cons_succ]))
    refine fun wr hr => ?_
    obtain ⟨hrc, hrf⟩ := bcell hr
    go_wp2
    go_ret
    exact ⟨ret_bool (by rw [hp, hq]; rfl), by (repeat (first | with_reducible assumption | with_reducible exact Below.refl _ _ | with_reducible refine Below.drew ?_ | with_reducible refine below_drewN ?_ _ | with_reducible refine al ?_ _ | (with_reducible refine sc ?_ ?_; (focus (first | omega | (simp; done) | (simp; omega)))) | (with_reducible refine chain ?_ (by assumption))))⟩
  · go_enter Try.func27, Try.ntmps27
    go_wp2_with fail
    refine region_below 41 (by kernel_rfl) (by kernel_rfl) ?_
    simp only [List.take_succ_cons, List.take_zero, List.drop_succ_cons, List.drop_zero]
    repeat (first | (refine' InText.skip (by rfl) ?_; simp only [Act.put, List.setIfInBounds_toArray, List.set_cons_zero, List.set_cons_succ]) | (refine' InText.val (by rfl) (fun wr hr => ?_) ?_; rotate_left 1; (focus (obtain ⟨hrc, hrf⟩ := bcell hr; (go_simp <;> with_reducible rfl); done)); simp only [Act.put, List.setIfInBounds_toArray, List.set_cons_zero, List.set_cons_succ]) | (refine' InText.call (by rfl) (fun wr hr => ?_) (fun wr hr => ?_) ?_; rotate_left 3; (focus ((go_simp <;> (first | with_reducible rfl | exact ⟨rfl, rfl⟩)); done)); (focus (first | with_reducible exact r2_cut _ _ _ _)); simp only [Act.put, List.setIfInBounds_toArray, List.set_cons_zero, List.set_cons_succ]))
    refine fun wr hr => ?_
    obtain ⟨hrc, hrf⟩ := bcell hr
    go_wp2
    go_ret
    exact ⟨ret_bool (by rw [hp, hq]; rfl), by (repeat (first | with_reducible assumption | with_reducible exact Below.refl _ _ | with_reducible refine Below.drew ?_ | with_reducible refine below_drewN ?_ _ | with_reducible refine al ?_ _ | (with_reducible refine sc ?_ ?_; (focus (first | omega | (simp; done) | (simp; omega)))) | (with_reducible refine chain ?_ (by assumption))))⟩
end Go.Proofs.Ytaiiilccamdnbaa
