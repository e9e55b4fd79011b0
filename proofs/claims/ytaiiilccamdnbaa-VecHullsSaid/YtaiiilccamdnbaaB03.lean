/- Contracts of layer 2 (vec): May, Stand, Hull. -/
import Derived.Test.YtaiiilccamdnbaaB02
set_option linter.unusedVariables false
namespace Go.Proofs.Ytaiiilccamdnbaa
open Go.ChangeShapes Go.WideShapes Go.ChangeAt Go.RowKit
attribute [local go_sem ↓] Go.wp_at_zero Go.wp_at_succ
def eq3B (x y z x' y' z' : Int) : Bool := decide (x = x' ∧ y = y' ∧ z = z')
theorem eq3_run (x y z x' y' z' : Int) (w : World) : (binOp .eql 23 (.agg #[.int .i64 x, .int .i64 y, .int .i64 z]) (.agg #[.int .i64 x', .int .i64 y', .int .i64 z'])).run Try.prog w = .ok (.bool (eq3B x y z x' y' z')) w := by
  unfold eq3B
  by_cases h1 : x = x' <;> by_cases h2 : y = y' <;> by_cases h3 : z = z' <;> simp [go_sem, h1, h2, h3]
theorem eq3_self (x y z : Int) : eq3B x y z x y z = true := by simp [eq3B]
theorem lt_at {w wr : World} {o : Obj} (hr : Below (w.alloc o).heap.size (w.alloc o) wr) : w.heap.size < wr.heap.size := size_lt (by simp) hr
theorem v_may (x y z x' y' z' : Int) (w : World) : Calls Try.prog 26 #[boxV x y z x' y' z'] w fun e w' =>
    e = .returned (.bool (eq3B x y z (cut x) (cut y) (cut z) && eq3B x' y' z' (cut x') (cut y') (cut z') && (decide (x ≤ x') && decide (y ≤ y') && decide (z ≤ z')))) ∧ Below w.heap.size w w' := by
  have q3 := eq3_run
  cases e1 : eq3B x y z (cut x) (cut y) (cut z)
  · go_enter Try.func26, Try.ntmps26
    go_wp2_with fail
    refine region_below 18 (by kernel_rfl) (by kernel_rfl) ?_
    simp only [List.take_succ_cons, List.take_zero, List.drop_succ_cons, List.drop_zero]
    repeat (first | (refine' InText.skip (by rfl) ?_; simp only [Act.put, List.setIfInBounds_toArray, List.set_cons_zero, List.set_cons_succ]) | (refine' InText.val (by rfl) (fun wr hr => ?_) ?_; rotate_left 1; (focus (obtain ⟨hrc, hrf⟩ := bcell hr; (go_simp <;> with_reducible rfl); done)); simp only [Act.put, List.setIfInBounds_toArray, List.set_cons_zero, List.set_cons_succ]) | (refine' InText.call (by rfl) (fun wr hr => ?_) (fun wr hr => ?_) ?_; rotate_left 3; (focus ((go_simp <;> (first | with_reducible rfl | exact ⟨rfl, rfl⟩)); done)); (focus (first | with_reducible exact v_cut _ _ _ _ | exact c_every _ _ _ _ (enters_of Try.func54 (by kernel_rfl) rfl) (may_clo _ x y z x' y' z' _ ⟨lt_at hr, keepc hr (by simp) (by simp [go_sem]), keepc hr (by simp) (by simp [go_sem]), keepc hr (by simp) (by simp [go_sem])⟩ ⟨lt_at hr, keepc hr (by simp) (by simp [go_sem]), keepc hr (by simp) (by simp [go_sem]), keepc hr (by simp) (by simp [go_sem])⟩))); simp only [Act.put, List.setIfInBounds_toArray, List.set_cons_zero, List.set_cons_succ]))
    refine fun wr hr => ?_
    obtain ⟨hrc, hrf⟩ := bcell hr
    go_wp2
    go_ret
    exact ⟨rfl, by (repeat (first | with_reducible assumption | with_reducible exact Below.refl _ _ | with_reducible refine Below.drew ?_ | with_reducible refine below_drewN ?_ _ | with_reducible refine al ?_ _ | (with_reducible refine sc ?_ ?_; (focus (first | omega | (simp; done) | (simp; omega)))) | (with_reducible refine chain ?_ (by assumption))))⟩
  cases e2 : eq3B x' y' z' (cut x') (cut y') (cut z')
  · go_enter Try.func26, Try.ntmps26
    go_wp2_with fail
    refine region_below 18 (by kernel_rfl) (by kernel_rfl) ?_
    simp only [List.take_succ_cons, List.take_zero, List.drop_succ_cons, List.drop_zero]
    repeat (first | (refine' InText.skip (by rfl) ?_; simp only [Act.put, List.setIfInBounds_toArray, List.set_cons_zero, List.set_cons_succ]) | (refine' InText.val (by rfl) (fun wr hr => ?_) ?_; rotate_left 1; (focus (obtain ⟨hrc, hrf⟩ := bcell hr; (go_simp <;> with_reducible rfl); done)); simp only [Act.put, List.setIfInBounds_toArray, List.set_cons_zero, List.set_cons_succ]) | (refine' InText.call (by rfl) (fun wr hr => ?_) (fun wr hr => ?_) ?_; rotate_left 3; (focus ((go_simp <;> (first | with_reducible rfl | exact ⟨rfl, rfl⟩)); done)); (focus (first | with_reducible exact v_cut _ _ _ _ | exact c_every _ _ _ _ (enters_of Try.func54 (by kernel_rfl) rfl) (may_clo _ x y z x' y' z' _ ⟨lt_at hr, keepc hr (by simp) (by simp [go_sem]), keepc hr (by simp) (by simp [go_sem]), keepc hr (by simp) (by simp [go_sem])⟩ ⟨lt_at hr, keepc hr (by simp) (by simp [go_sem]), keepc hr (by simp) (by simp [go_sem]), keepc hr (by simp) (by simp [go_sem])⟩))); simp only [Act.put, List.setIfInBounds_toArray, List.set_cons_zero, List.set_cons_succ]))
    refine fun wr hr => ?_
    obtain ⟨hrc, hrf⟩ := bcell hr
    go_wp2
    go_ret
    exact ⟨rfl, by (repeat (first | with_reducible assumption | with_reducible exact Below.refl _ _ | with_reducible refine Below.drew ?_ | with_reducible refine below_drewN ?_ _ | with_reducible refine al ?_ _ | (with_reducible refine sc ?_ ?_; (focus (first | omega | (simp; done) | (simp; omega)))) | (with_reducible refine chain ?_ (by assumption))))⟩
  · go_enter Try.func26, Try.ntmps26
    go_wp2_with fail
    refine region_below 18 (by kernel_rfl) (by kernel_rfl) ?_
    simp only [List.take_succ_cons, List.take_zero, List.drop_succ_cons, List.drop_zero]
    repeat (first | (refine' InText.skip (by rfl) ?_; simp only [Act.put, List.setIfInBounds_toArray, List.set_cons_zero, List.set_cons_succ]) | (refine' InText.val (by rfl) (fun wr hr => ?_) ?_; rotate_left 1; (focus (obtain ⟨hrc, hrf⟩ := bcell hr; (go_simp <;> with_reducible rfl); done)); simp only [Act.put, List.setIfInBounds_toArray, List.set_cons_zero, List.set_cons_succ]) | (refine' InText.call (by rfl) (fun wr hr => ?_) (fun wr hr => ?_) ?_; rotate_left 3; (focus ((go_simp <;> (first | with_reducible rfl | exact ⟨rfl, rfl⟩)); done)); (focus (first | with_reducible exact v_cut _ _ _ _ | exact c_every _ _ _ _ (enters_of Try.func54 (by kernel_rfl) rfl) (may_clo _ x y z x' y' z' _ ⟨lt_at hr, keepc hr (by simp) (by simp [go_sem]), keepc hr (by simp) (by simp [go_sem]), keepc hr (by simp) (by simp [go_sem])⟩ ⟨lt_at hr, keepc hr (by simp) (by simp [go_sem]), keepc hr (by simp) (by simp [go_sem]), keepc hr (by simp) (by simp [go_sem])⟩))); simp only [Act.put, List.setIfInBounds_toArray, List.set_cons_zero, List.set_cons_succ]))
    refine fun wr hr => ?_
    obtain ⟨hrc, hrf⟩ := bcell hr
    go_wp2
    go_ret
    exact ⟨rfl, by (repeat (first | with_reducible assumption | with_reducible exact Below.refl _ _ | with_reducible refine Below.drew ?_ | with_reducible refine below_drewN ?_ _ | with_reducible refine al ?_ _ | (with_reducible refine sc ?_ ?_; (focus (first | omega | (simp; done) | (simp; omega)))) | (with_reducible refine chain ?_ (by assumption))))⟩
theorem v_stand (x y z n m : Int) (h0 : -9223372036854775808 ≤ n) (h1 : n ≤ 9223372036854775807) (h2 : -9223372036854775808 ≤ m) (h3 : m ≤ 9223372036854775807) (w : World) : Calls Try.prog 36 #[vecV x y z, .int .i64 n, .int .i64 m] w fun e w' =>
    e = .returned (boxV (cut (cut x - cut (max n 0 / 2))) (cut (cut y - cut 0)) (cut (cut z - cut (max n 0 / 2))) (cut (cut x + cut (max n 0 / 2))) (cut (cut y + cut (max m 0))) (cut (cut z + cut (max n 0 / 2)))) ∧ Below w.heap.size w w' := by
  go_enter Try.func36, Try.ntmps36
  go_wp2_with fail
  refine region_below 13 (by kernel_rfl) (by kernel_rfl) ?_
  simp only [List.take_succ_cons, List.take_zero, List.drop_succ_cons, List.drop_zero]
  repeat (first | (refine' InText.skip (by rfl) ?_; simp only [Act.put, List.setIfInBounds_toArray, List.set_cons_zero, List.set_cons_succ]) | (refine' InText.val (by rfl) (fun wr hr => ?_) ?_; rotate_left 1; (focus (obtain ⟨hrc, hrf⟩ := bcell hr; (go_simp <;> with_reducible rfl); done)); simp only [Act.put, List.setIfInBounds_toArray, List.set_cons_zero, List.set_cons_succ]) | (refine' InText.call (by rfl) (fun wr hr => ?_) (fun wr hr => ?_) ?_; rotate_left 3; (focus ((go_simp <;> (first | with_reducible rfl | exact ⟨rfl, rfl⟩)); done)); (focus (first | with_reducible exact v_add _ _ _ _ _ _ _ | with_reducible exact v_sub _ _ _ _ _ _ _)); simp only [Act.put, List.setIfInBounds_toArray, List.set_cons_zero, List.set_cons_succ]))
  refine fun wr hr => ?_
  obtain ⟨hrc, hrf⟩ := bcell hr
  go_wp2
  refine bodyPost_ret (v := boxV _ _ _ _ _ _) (by simp [results, Try.results36, go_sem, *]; done) rfl ⟨rfl, ?_⟩
  (repeat (first | with_reducible assumption | with_reducible exact Below.refl _ _ | with_reducible refine Below.drew ?_ | with_reducible refine below_drewN ?_ _ | with_reducible refine al ?_ _ | (with_reducible refine sc ?_ ?_; (focus (first | omega | (simp; done) | (simp; omega)))) | (with_reducible refine chain ?_ (by assumption))))
theorem hullmin_clo (b c : Nat) (x y z x' y' z' : Int) (w : World) (h : At3 w b 0 x y z) (h' : At3 w c 0 x' y' z') :
    EachOk 57 #[.pointer (some ⟨b, 0, none⟩), .pointer (some ⟨c, 0, none⟩)] (fun i => min (axisF x y z i) (axisF x' y' z' i)) w := by
  intro i W _ _ hB
  obtain ⟨hb, v0, v1, v2⟩ := h.keep hB
  obtain ⟨hc, v0', v1', v2'⟩ := h'.keep hB
  go_enter Try.func57, Try.ntmps57
  go_wp2_with fail
  refine region_below 9 (by kernel_rfl) (by kernel_rfl) ?_
  simp only [List.take_succ_cons, List.take_zero, List.drop_succ_cons, List.drop_zero]
  repeat (first | (refine' InText.skip (by rfl) ?_; simp only [Act.put, List.setIfInBounds_toArray, List.set_cons_zero, List.set_cons_succ]) | (refine' InText.val (by rfl) (fun wr hr => ?_) ?_; rotate_left 1; (focus (obtain ⟨hrc, hrf⟩ := bcell hr; (go_simp <;> with_reducible rfl); done)); simp only [Act.put, List.setIfInBounds_toArray, List.set_cons_zero, List.set_cons_succ]) | (refine' InText.call (by rfl) (fun wr hr => ?_) (fun wr hr => ?_) ?_; rotate_left 3; (focus ((go_simp <;> (first | with_reducible rfl | exact ⟨rfl, rfl⟩)); done)); (focus (first | with_reducible exact c_axis _ _ _ _ _)); simp only [Act.put, List.setIfInBounds_toArray, List.set_cons_zero, List.set_cons_succ]))
  refine fun wr hr => ?_
  obtain ⟨hrc, hrf⟩ := bcell hr
  go_wp2
  go_ret
  exact ⟨rfl, hr⟩
theorem hullmax_clo (b c : Nat) (x y z x' y' z' : Int) (w : World) (h : At3 w b 3 x y z) (h' : At3 w c 3 x' y' z') :
    EachOk 58 #[.pointer (some ⟨b, 0, none⟩), .pointer (some ⟨c, 0, none⟩)] (fun i => max (axisF x y z i) (axisF x' y' z' i)) w := by
  intro i W _ _ hB
  obtain ⟨hb, v0, v1, v2⟩ := h.keep hB
  obtain ⟨hc, v0', v1', v2'⟩ := h'.keep hB
  go_enter Try.func58, Try.ntmps58
  go_wp2_with fail
  refine region_below 9 (by kernel_rfl) (by kernel_rfl) ?_
  simp only [List.take_succ_cons, List.take_zero, List.drop_succ_cons, List.drop_zero]
  repeat (first | (refine' InText.skip (by rfl) ?_; simp only [Act.put, List.setIfInBounds_toArray, List.set_cons_zero, List.set_cons_succ]) | (refine' InText.val (by rfl) (fun wr hr => ?_) ?_; rotate_left 1; (focus (obtain ⟨hrc, hrf⟩ := bcell hr; (go_simp <;> with_reducible rfl); done)); simp only [Act.put, List.setIfInBounds_toArray, List.set_cons_zero, List.set_cons_succ]) | (refine' InText.call (by rfl) (fun wr hr => ?_) (fun wr hr => ?_) ?_; rotate_left 3; (focus ((go_simp <;> (first | with_reducible rfl | exact ⟨rfl, rfl⟩)); done)); (focus (first | with_reducible exact c_axis _ _ _ _ _)); simp only [Act.put, List.setIfInBounds_toArray, List.set_cons_zero, List.set_cons_succ]))
  refine fun wr hr => ?_
  obtain ⟨hrc, hrf⟩ := bcell hr
  go_wp2
  go_ret
  exact ⟨rfl, hr⟩
end Go.Proofs.Ytaiiilccamdnbaa
