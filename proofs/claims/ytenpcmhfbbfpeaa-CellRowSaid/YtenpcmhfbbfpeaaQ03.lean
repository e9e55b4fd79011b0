/- Contracts of layer 3 (cell): Compare. -/
import Derived.Test.YtenpcmhfbbfpeaaR32
import Derived.Test.YtenpcmhfbbfpeaaShelf
set_option linter.unusedVariables false
namespace Go.Proofs.Ytenpcmhfbbfpeaa
open Go.ChangeShapes Go.WideShapes Go.ChangeAt Go.RowKit
def cmpI (a b : Int) : Int := if a < b then -1 else if b < a then 1 else 0
def orF (p q r : Int) : Int := if p ≠ 0 then p else if q ≠ 0 then q else r
theorem comp_or (x y z x' y' z' : Int) : orF (cmpI y y') (cmpI z z') (cmpI x x') = compF x y z x' y' z' := by
  unfold orF compF cmpI
  by_cases h0 : y < y'
  · simp [h0]
  by_cases h1 : y' < y
  · simp [h0, h1]
  by_cases h2 : z < z'
  · simp [h0, h1, h2]
  by_cases h3 : z' < z
  · simp [h0, h1, h2, h3]
  simp [h0, h1, h2, h3]
theorem c_cmp (x y : Int) (w : World) : Calls Try.prog 56 #[.int .i64 x, .int .i64 y] w fun e w' => e = .returned (.int .i64 (cmpI x y)) ∧ w = w' := by
  go_enter Try.func56, Try.ntmps56
  go_wp2
  all_goals
    go_ret
    refine ⟨?_, rfl⟩
    unfold cmpI
    (repeat' split) <;> first | rfl | (exfalso; omega)
set_option maxHeartbeats 1000000 in
theorem c_or3 (b : Nat) (p q r : Int) (w : World) (v0 : w.cell? ⟨b, 0, none⟩ = some (.int .i64 p)) (v1 : w.cell? ⟨b, 1, none⟩ = some (.int .i64 q)) (v2 : w.cell? ⟨b, 2, none⟩ = some (.int .i64 r)) :
    Calls Try.prog 55 #[.slice (some ⟨b, 0, none⟩) 3 3] w fun e w' => e = .returned (.int .i64 (orF p q r)) ∧ Below w.heap.size w w' := by
  unfold orF
  by_cases hp : p ≠ 0
  · rw [if_pos hp]
    have e0 : (p != 0) = true := by simpa using hp
    clear hp
    go_enter Try.func55, Try.ntmps55
    go_wp2_with fail
    refine wp_loop_rounds 4 ?_
    rw [rounds_succ]
    go_wp2_with fail
    go_ret
    exact ⟨rfl, by (repeat (first | with_reducible assumption | with_reducible exact Below.refl _ _ | with_reducible refine Below.drew ?_ | with_reducible refine below_drewN ?_ _ | with_reducible refine al ?_ _ | (with_reducible refine sc ?_ ?_; (focus (first | omega | (simp; done) | (simp; omega)))) | (with_reducible refine chain ?_ (by assumption))))⟩
  rw [if_neg hp]
  have e0 : (p != 0) = false := by simpa using hp
  clear hp
  by_cases hq : q ≠ 0
  · rw [if_pos hq]
    have e1 : (q != 0) = true := by simpa using hq
    clear hq
    go_enter Try.func55, Try.ntmps55
    go_wp2_with fail
    refine wp_loop_rounds 4 ?_
    rw [rounds_succ]
    go_wp2_with fail
    rw [rounds_succ]
    go_wp2_with fail
    go_ret
    exact ⟨rfl, by (repeat (first | with_reducible assumption | with_reducible exact Below.refl _ _ | with_reducible refine Below.drew ?_ | with_reducible refine below_drewN ?_ _ | with_reducible refine al ?_ _ | (with_reducible refine sc ?_ ?_; (focus (first | omega | (simp; done) | (simp; omega)))) | (with_reducible refine chain ?_ (by assumption))))⟩
  rw [if_neg hq]
  have e1 : (q != 0) = false := by simpa using hq
  clear hq
  by_cases hr : r ≠ 0
  · have e2 : (r != 0) = true := by simpa using hr
    clear hr
    go_enter Try.func55, Try.ntmps55
    go_wp2_with fail
    refine wp_loop_rounds 4 ?_
    rw [rounds_succ]
    go_wp2_with fail
    rw [rounds_succ]
    go_wp2_with fail
    rw [rounds_succ]
    go_wp2_with fail
    go_ret
    exact ⟨rfl, by (repeat (first | with_reducible assumption | with_reducible exact Below.refl _ _ | with_reducible refine Below.drew ?_ | with_reducible refine below_drewN ?_ _ | with_reducible refine al ?_ _ | (with_reducible refine sc ?_ ?_; (focus (first | omega | (simp; done) | (simp; omega)))) | (with_reducible refine chain ?_ (by assumption))))⟩
  obtain rfl : r = 0 := by omega
  go_enter Try.func55, Try.ntmps55
  go_wp2_with fail
  refine wp_loop_rounds 4 ?_
  rw [rounds_succ]
  go_wp2_with fail
  rw [rounds_succ]
  go_wp2_with fail
  rw [rounds_succ]
  go_wp2_with fail
  rw [rounds_succ]
  go_wp2_with fail
  go_ret
  exact ⟨rfl, by (repeat (first | with_reducible assumption | with_reducible exact Below.refl _ _ | with_reducible refine Below.drew ?_ | with_reducible refine below_drewN ?_ _ | with_reducible refine al ?_ _ | (with_reducible refine sc ?_ ?_; (focus (first | omega | (simp; done) | (simp; omega)))) | (with_reducible refine chain ?_ (by assumption))))⟩
theorem c3_compare (x y z x' y' z' : Int) (w : World) : Calls Try.prog 40 #[vecV x y z, vecV x' y' z'] w fun e w' => e = .returned (.int .i64 (compF x y z x' y' z')) ∧ Below w.heap.size w w' := by
  have cx := fun k => c_cmp x x' k
  have cy := fun k => c_cmp y y' k
  have cz := fun k => c_cmp z z' k
  have hc := comp_or x y z x' y' z'
  rw [← hc]
  clear hc
  generalize cmpI x x' = X at *
  generalize cmpI y y' = Y at *
  generalize cmpI z z' = Z at *
  have CX := Lib.hid cx
  have CY := Lib.hid cy
  have CZ := Lib.hid cz
  clear cx cy cz
  go_enter Try.func40, Try.ntmps40
  go_wp2_with fail
  refine region_below 15 (by kernel_rfl) (by kernel_rfl) ?_
  simp only [List.take_succ_cons, List.take_zero, List.drop_succ_cons, List.drop_zero]
  repeat (first | (refine' InText.skip (by rfl) ?_; simp only [Act.put, List.setIfInBounds_toArray, List.set_cons_zero, List.set_cons_succ]) | (refine' InText.val (by rfl) (fun wr hr => ?_) ?_; rotate_left 1; (focus (obtain ⟨hrc, hrf⟩ := bcell hr; (go_simp <;> with_reducible rfl); done)); simp only [Act.put, List.setIfInBounds_toArray, List.set_cons_zero, List.set_cons_succ]) | (refine' InText.call (by rfl) (fun wr hr => ?_) (fun wr hr => ?_) ?_; rotate_left 3; (focus ((go_simp <;> (first | with_reducible rfl | exact ⟨rfl, rfl⟩)); done)); (focus (first | with_reducible exact pureB (CX.out _) | with_reducible exact pureB (CY.out _) | with_reducible exact pureB (CZ.out _))); simp only [Act.put, List.setIfInBounds_toArray, List.set_cons_zero, List.set_cons_succ]))
  refine fun wr hr => ?_
  obtain ⟨hrc, hrf⟩ := bcell hr
  go_wp2_with fail
  (refine (c_or3 _ Y Z X _ (by go_simp) (by go_simp) (by go_simp)).mono ?_; rintro e w1 ⟨rfl, hb1⟩)
  go_wp2
  go_ret
  exact ⟨rfl, by (repeat (first | with_reducible assumption | with_reducible exact Below.refl _ _ | with_reducible refine Below.drew ?_ | with_reducible refine below_drewN ?_ _ | with_reducible refine al ?_ _ | (with_reducible refine sc ?_ ?_; (focus (first | omega | (simp; done) | (simp; omega)))) | (with_reducible refine chain ?_ (by assumption))))⟩
end Go.Proofs.Ytenpcmhfbbfpeaa
