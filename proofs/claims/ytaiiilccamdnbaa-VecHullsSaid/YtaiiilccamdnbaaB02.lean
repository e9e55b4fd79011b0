/- Contracts of layer 2 (vec): boxes. -/
import Derived.Test.YtaiiilccamdnbaaV02
import Derived.Test.YtaiiilccamdnbaaS01
set_option linter.unusedVariables false
namespace Go.Proofs.Ytaiiilccamdnbaa
open Go.ChangeShapes Go.WideShapes Go.ChangeAt Go.RowKit
attribute [local go_sem ↓] Go.wp_at_zero Go.wp_at_succ
abbrev boxV (x y z x' y' z' : Int) : Value := .agg #[.int .i64 x, .int .i64 y, .int .i64 z, .int .i64 x', .int .i64 y', .int .i64 z']
theorem may_clo (b : Nat) (x y z x' y' z' : Int) (w : World) (h : At3 w b 0 x y z) (h' : At3 w b 3 x' y' z') :
    EveryOk 54 #[.pointer (some ⟨b, 0, none⟩)] (fun i => decide (axisF x y z i ≤ axisF x' y' z' i)) w := by
  intro i W _ _ hB
  obtain ⟨hb, v0, v1, v2⟩ := h.keep hB
  obtain ⟨_, v0', v1', v2'⟩ := h'.keep hB
  go_enter Try.func54, Try.ntmps54
  go_wp2_with fail
  refine region_below 9 (by kernel_rfl) (by kernel_rfl) ?_
  simp only [List.take_succ_cons, List.take_zero, List.drop_succ_cons, List.drop_zero]
  repeat (first | (refine' InText.skip (by rfl) ?_; simp only [Act.put, List.setIfInBounds_toArray, List.set_cons_zero, List.set_cons_succ]) | (refine' InText.val (by rfl) (fun wr hr => ?_) ?_; rotate_left 1; (focus (obtain ⟨hrc, hrf⟩ := bcell hr; (go_simp <;> with_reducible rfl); done)); simp only [Act.put, List.setIfInBounds_toArray, List.set_cons_zero, List.set_cons_succ]) | (refine' InText.call (by rfl) (fun wr hr => ?_) (fun wr hr => ?_) ?_; rotate_left 3; (focus ((go_simp <;> (first | with_reducible rfl | exact ⟨rfl, rfl⟩)); done)); (focus (first | with_reducible exact c_axis _ _ _ _ _)); simp only [Act.put, List.setIfInBounds_toArray, List.set_cons_zero, List.set_cons_succ]))
  refine fun wr hr => ?_
  obtain ⟨hrc, hrf⟩ := bcell hr
  go_wp2
  go_ret
  exact ⟨rfl, hr⟩
theorem over_clo (b c : Nat) (x y z x' y' z' u v t u' v' t' : Int) (w : World) (h : At3 w b 0 x y z) (h' : At3 w b 3 x' y' z') (g : At3 w c 0 u v t) (g' : At3 w c 3 u' v' t') :
    EveryOk 55 #[.pointer (some ⟨b, 0, none⟩), .pointer (some ⟨c, 0, none⟩)] (fun i => decide (axisF x y z i < axisF u' v' t' i) && decide (axisF u v t i < axisF x' y' z' i)) w := by
  intro i W _ _ hB
  obtain ⟨hb, v0, v1, v2⟩ := h.keep hB
  obtain ⟨_, v0', v1', v2'⟩ := h'.keep hB
  obtain ⟨hc, u0, u1, u2⟩ := g.keep hB
  obtain ⟨_, u0', u1', u2'⟩ := g'.keep hB
  by_cases hlt : axisF x y z i < axisF u' v' t' i
  · have hd : decide (axisF x y z i < axisF u' v' t' i) = true := by simpa using hlt
    simp only [hd, Bool.true_and, Bool.false_and]
    clear hlt
    go_enter Try.func55, Try.ntmps55
    go_wp2_with fail
    refine region_below 20 (by kernel_rfl) (by kernel_rfl) ?_
    simp only [List.take_succ_cons, List.take_zero, List.drop_succ_cons, List.drop_zero]
    repeat (first | (refine' InText.skip (by rfl) ?_; simp only [Act.put, List.setIfInBounds_toArray, List.set_cons_zero, List.set_cons_succ]) | (refine' InText.val (by rfl) (fun wr hr => ?_) ?_; rotate_left 1; (focus (obtain ⟨hrc, hrf⟩ := bcell hr; (go_simp <;> with_reducible rfl); done)); simp only [Act.put, List.setIfInBounds_toArray, List.set_cons_zero, List.set_cons_succ]) | (refine' InText.call (by rfl) (fun wr hr => ?_) (fun wr hr => ?_) ?_; rotate_left 3; (focus ((go_simp <;> (first | with_reducible rfl | exact ⟨rfl, rfl⟩)); done)); (focus (first | with_reducible exact c_axis _ _ _ _ _)); simp only [Act.put, List.setIfInBounds_toArray, List.set_cons_zero, List.set_cons_succ]))
    refine fun wr hr => ?_
    obtain ⟨hrc, hrf⟩ := bcell hr
    go_wp2
    go_ret
    exact ⟨rfl, hr⟩
  · have hd : decide (axisF x y z i < axisF u' v' t' i) = false := by simpa using hlt
    simp only [hd, Bool.true_and, Bool.false_and]
    clear hlt
    go_enter Try.func55, Try.ntmps55
    go_wp2_with fail
    refine region_below 20 (by kernel_rfl) (by kernel_rfl) ?_
    simp only [List.take_succ_cons, List.take_zero, List.drop_succ_cons, List.drop_zero]
    repeat (first | (refine' InText.skip (by rfl) ?_; simp only [Act.put, List.setIfInBounds_toArray, List.set_cons_zero, List.set_cons_succ]) | (refine' InText.val (by rfl) (fun wr hr => ?_) ?_; rotate_left 1; (focus (obtain ⟨hrc, hrf⟩ := bcell hr; (go_simp <;> with_reducible rfl); done)); simp only [Act.put, List.setIfInBounds_toArray, List.set_cons_zero, List.set_cons_succ]) | (refine' InText.call (by rfl) (fun wr hr => ?_) (fun wr hr => ?_) ?_; rotate_left 3; (focus ((go_simp <;> (first | with_reducible rfl | exact ⟨rfl, rfl⟩)); done)); (focus (first | with_reducible exact c_axis _ _ _ _ _)); simp only [Act.put, List.setIfInBounds_toArray, List.set_cons_zero, List.set_cons_succ]))
    refine fun wr hr => ?_
    obtain ⟨hrc, hrf⟩ := bcell hr
    go_wp2
    go_ret
    exact ⟨rfl, hr⟩
theorem has_clo (b c : Nat) (x y z u v t u' v' t' : Int) (w : World) (h : At3 w b 0 x y z) (g : At3 w c 0 u v t) (g' : At3 w c 3 u' v' t') :
    EveryOk 56 #[.pointer (some ⟨b, 0, none⟩), .pointer (some ⟨c, 0, none⟩)] (fun i => decide (axisF u v t i ≤ axisF x y z i) && decide (axisF x y z i < axisF u' v' t' i)) w := by
  intro i W _ _ hB
  obtain ⟨hb, v0, v1, v2⟩ := h.keep hB
  obtain ⟨hc, u0, u1, u2⟩ := g.keep hB
  obtain ⟨_, u0', u1', u2'⟩ := g'.keep hB
  have k := Below.refl W.heap.size W
  by_cases hlt : axisF u v t i ≤ axisF x y z i
  · have hd : decide (axisF u v t i ≤ axisF x y z i) = true := by simpa using hlt
    simp only [hd, Bool.true_and, Bool.false_and]
    clear hlt
    go_enter Try.func56, Try.ntmps56
    go_wp2_with (go_at_call 21; refine (c_axis _ _ _ _ _).mono ?_; rintro e w' ⟨rfl, hb1⟩; obtain ⟨hc1, hf1⟩ := bcell hb1; have hc := size_lt hc hb1; have k := chain (by assumption) hb1)
    go_ret
    exact ⟨rfl, by assumption⟩
  · have hd : decide (axisF u v t i ≤ axisF x y z i) = false := by simpa using hlt
    simp only [hd, Bool.true_and, Bool.false_and]
    clear hlt
    go_enter Try.func56, Try.ntmps56
    go_wp2_with (go_at_call 21; refine (c_axis _ _ _ _ _).mono ?_; rintro e w' ⟨rfl, hb1⟩; obtain ⟨hc1, hf1⟩ := bcell hb1; have hc := size_lt hc hb1; have k := chain (by assumption) hb1)
    go_ret
    exact ⟨rfl, by assumption⟩
theorem v_overlap (x y z x' y' z' u v t u' v' t' : Int) (w : World) : Calls Try.prog 28 #[boxV x y z x' y' z', boxV u v t u' v' t'] w fun e w' =>
    e = .returned (.bool ((decide (x < u') && decide (u < x')) && (decide (y < v') && decide (v < y')) && (decide (z < t') && decide (t < z')))) ∧ Below w.heap.size w w' := by
  go_enter Try.func28, Try.ntmps28
  go_wp2_with fail
  (refine (c_every 55 _ _ _ (enters_of Try.func55 (by kernel_rfl) rfl) (over_clo _ _ x y z x' y' z' u v t u' v' t' _ ⟨(by first | (simp; done) | (simp; omega) | omega), by simp [go_sem], by simp [go_sem], by simp [go_sem]⟩ ⟨(by first | (simp; done) | (simp; omega) | omega), by simp [go_sem], by simp [go_sem], by simp [go_sem]⟩ ⟨(by first | (simp; done) | (simp; omega) | omega), by simp [go_sem], by simp [go_sem], by simp [go_sem]⟩ ⟨(by first | (simp; done) | (simp; omega) | omega), by simp [go_sem], by simp [go_sem], by simp [go_sem]⟩)).mono ?_; rintro e w1 ⟨rfl, hb1⟩)
  go_wp2
  go_ret
  exact ⟨rfl, chain (al (al (Below.refl _ _) _) _) hb1⟩
theorem v_has (x y z x' y' z' u v t : Int) (w : World) : Calls Try.prog 30 #[boxV x y z x' y' z', vecV u v t] w fun e w' =>
    e = .returned (.bool ((decide (x ≤ u) && decide (u < x')) && (decide (y ≤ v) && decide (v < y')) && (decide (z ≤ t) && decide (t < z')))) ∧ Below w.heap.size w w' := by
  go_enter Try.func30, Try.ntmps30
  go_wp2_with fail
  (refine (c_every 56 _ _ _ (enters_of Try.func56 (by kernel_rfl) rfl) (has_clo _ _ u v t x y z x' y' z' _ ⟨(by first | (simp; done) | (simp; omega) | omega), by simp [go_sem], by simp [go_sem], by simp [go_sem]⟩ ⟨(by first | (simp; done) | (simp; omega) | omega), by simp [go_sem], by simp [go_sem], by simp [go_sem]⟩ ⟨(by first | (simp; done) | (simp; omega) | omega), by simp [go_sem], by simp [go_sem], by simp [go_sem]⟩)).mono ?_; rintro e w1 ⟨rfl, hb1⟩)
  go_wp2
  go_ret
  exact ⟨rfl, chain (al (al (Below.refl _ _) _) _) hb1⟩
theorem v_move (x y z x' y' z' u v t : Int) (w : World) : Calls Try.prog 32 #[boxV x y z x' y' z', vecV u v t] w fun e w' =>
    e = .returned (boxV (cut (cut x + cut u)) (cut (cut y + cut v)) (cut (cut z + cut t)) (cut (cut x' + cut u)) (cut (cut y' + cut v)) (cut (cut z' + cut t))) ∧ Below w.heap.size w w' := by
  go_enter Try.func32, Try.ntmps32
  go_wp2_with fail
  refine region_below 9 (by kernel_rfl) (by kernel_rfl) ?_
  simp only [List.take_succ_cons, List.take_zero, List.drop_succ_cons, List.drop_zero]
  repeat (first | (refine' InText.skip (by rfl) ?_; simp only [Act.put, List.setIfInBounds_toArray, List.set_cons_zero, List.set_cons_succ]) | (refine' InText.val (by rfl) (fun wr hr => ?_) ?_; rotate_left 1; (focus (obtain ⟨hrc, hrf⟩ := bcell hr; (go_simp <;> with_reducible rfl); done)); simp only [Act.put, List.setIfInBounds_toArray, List.set_cons_zero, List.set_cons_succ]) | (refine' InText.call (by rfl) (fun wr hr => ?_) (fun wr hr => ?_) ?_; rotate_left 3; (focus ((go_simp <;> (first | with_reducible rfl | exact ⟨rfl, rfl⟩)); done)); (focus (first | with_reducible exact v_add _ _ _ _ _ _ _)); simp only [Act.put, List.setIfInBounds_toArray, List.set_cons_zero, List.set_cons_succ]))
  refine fun wr hr => ?_
  obtain ⟨hrc, hrf⟩ := bcell hr
  go_wp2
  refine bodyPost_ret (v := boxV _ _ _ _ _ _) (by simp [results, Try.results32, go_sem, *]; done) rfl ⟨rfl, ?_⟩
  (repeat (first | with_reducible assumption | with_reducible exact Below.refl _ _ | with_reducible refine Below.drew ?_ | with_reducible refine below_drewN ?_ _ | with_reducible refine al ?_ _ | (with_reducible refine sc ?_ ?_; (focus (first | omega | (simp; done) | (simp; omega)))) | (with_reducible refine chain ?_ (by assumption))))
end Go.Proofs.Ytaiiilccamdnbaa
