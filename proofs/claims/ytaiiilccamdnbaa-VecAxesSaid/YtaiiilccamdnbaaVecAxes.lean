/- For every way, axis and number the law VecAxes of layer 2 answers true: an axis's number is told, and changed, alone. Conditions: none: every input. -/
import Derived.Test.YtaiiilccamdnbaaRows
import Derived.Test.YtaiiilccamdnbaaO02
import Derived.Test.YtaiiilccamdnbaaP02
import Derived.Test.YtaiiilccamdnbaaS01
import Derived.WalkKit
import Derived.ProofKit
import Derived.OpenShut
import Derived.Below
import Derived.Carry
namespace Go.Proofs.Ytaiiilccamdnbaa.vecAxes
open Go.Proofs.Ytaiiilccamdnbaa Go.ChangeShapes Go.WideShapes Go.ChangeAt Go.RowKit
set_option linter.unusedVariables false
attribute [local go_sem ↓] Go.wp_at_zero Go.wp_at_succ
set_option maxHeartbeats 8000000 in
theorem walk (a0 : V3) (w0 : a0.wf) (a1 : Int) (w1 : -9223372036854775808 ≤ a1 ∧ a1 ≤ 9223372036854775807) (a2 : Int) (w2 : -9223372036854775808 ≤ a2 ∧ a2 ≤ 9223372036854775807) (w : World) :
    Calls Try.prog 4 #[a0.val, .int .i64 a1, .int .i64 a2] w fun e w' => e = .returned (.bool true) ∧ Below w.heap.size w w' := by
  obtain ⟨x, y, z⟩ := a0
  have e0 := ax0
  have e1 := ax1
  have e2 := ax2
  have t0 := fun k => to_v (v_with x y z 0 a2 k) (vec_eq (u := cut a2) (v := y) (t := z) rfl rfl rfl)
  have t1 := fun k => to_v (v_with x y z 1 a2 k) (vec_eq (u := x) (v := cut a2) (t := z) rfl rfl rfl)
  have t2 := fun k => to_v (v_with x y z 2 a2 k) (vec_eq (u := x) (v := y) (t := cut a2) rfl rfl rfl)
  have r0 := fun k => to_v (r2_with x y z 0 a2 k) (vec_eq (u := cut a2) (v := y) (t := z) rfl rfl rfl)
  have r1 := fun k => to_v (r2_with x y z 1 a2 k) (vec_eq (u := x) (v := cut a2) (t := z) rfl rfl rfl)
  have r2 := fun k => to_v (r2_with x y z 2 a2 k) (vec_eq (u := x) (v := y) (t := cut a2) rfl rfl rfl)
  have tn := fun k => v_with x y z a1 a2 k
  have rn := fun k => r2_with x y z a1 a2 k
  generalize (if a1 = 0 then cut a2 else x) = p at tn rn
  generalize (if a1 = 1 then cut a2 else y) = q at tn rn
  generalize (if a1 = 2 then cut a2 else z) = r at tn rn
  have T0 := Lib.hid t0; have T1 := Lib.hid t1; have T2 := Lib.hid t2; have R0 := Lib.hid r0; have R1 := Lib.hid r1; have R2 := Lib.hid r2; have TN := Lib.hid tn; have RN := Lib.hid rn
  clear t0 t1 t2 r0 r1 r2 tn rn
  go_enter Try.func4, Try.ntmps4
  go_wp2_with fail
  refine wp_loop_rounds 5 ?_
  rw [rounds_succ]
  go_wp2_with fail
  refine region_alloc 7 9 (.cells #[.int .i64 0, .int .i64 0, .int .i64 0] 23) _ _ (by kernel_rfl) (by kernel_rfl) rfl (fun _ _ => by go_simp) ?_
  simp only [List.take_succ_cons, List.take_zero]
  repeat (first | (refine' InText.skip (by rfl) ?_; simp only [Act.put, List.setIfInBounds_toArray, List.set_cons_zero, List.set_cons_succ]) | (refine' InText.val (by rfl) (fun wr hr => ?_) ?_; rotate_left 1; (focus (obtain ⟨hrc, hrf⟩ := bcell hr; (go_simp <;> with_reducible rfl); done)); simp only [Act.put, List.setIfInBounds_toArray, List.set_cons_zero, List.set_cons_succ]) | (refine' InText.call (by rfl) (fun wr hr => ?_) (fun wr hr => ?_) ?_; rotate_left 3; (focus ((go_simp <;> (first | with_reducible rfl | exact ⟨rfl, rfl⟩)); done)); (focus (first | with_reducible exact TN.out _)); simp only [Act.put, List.setIfInBounds_toArray, List.set_cons_zero, List.set_cons_succ]))
  refine fun wv0 wr0 hv0 hr0 => ?_
  simp only [Act.put, List.setIfInBounds_toArray, List.set_cons_zero, List.set_cons_succ]
  obtain ⟨_hcwv0, _hfwv0⟩ := bcell hv0
  have _zwv00 : w.heap.size < wv0.heap.size := size_lt (by first | (simp; done) | (simp; omega) | omega) hv0
  have _zwv01 : w.heap.size + 1 < wv0.heap.size := size_lt (by first | (simp; done) | (simp; omega) | omega) hv0
  obtain ⟨_hcwr0, _hfwr0⟩ := bcell hr0
  have _zwr00 : w.heap.size < wr0.heap.size := size_lt (by first | (simp; done) | (simp; omega) | omega) hr0
  have _zwr01 : w.heap.size + 1 < wr0.heap.size := size_lt (by first | (simp; done) | (simp; omega) | omega) hr0
  have _zwr02 : wv0.heap.size < wr0.heap.size := size_lt (by first | (simp; done) | (simp; omega) | omega) hr0
  have kr0 : Below w.heap.size w wr0 := by (repeat (first | with_reducible assumption | with_reducible exact Below.refl _ _ | with_reducible refine Below.drew ?_ | with_reducible refine below_drewN ?_ _ | with_reducible refine al ?_ _ | (with_reducible refine sc ?_ ?_; (focus (first | omega | (simp; done) | (simp; omega)))) | (with_reducible refine chain ?_ (by assumption))))
  go_wp2_with fail
  refine region_below 23 (by kernel_rfl) (by kernel_rfl) ?_
  simp only [List.take_succ_cons, List.take_zero, List.drop_succ_cons, List.drop_zero]
  repeat (first | (refine' InText.skip (by rfl) ?_; simp only [Act.put, List.setIfInBounds_toArray, List.set_cons_zero, List.set_cons_succ]) | (refine' InText.val (by rfl) (fun wr hr => ?_) ?_; rotate_left 1; (focus (obtain ⟨hrc, hrf⟩ := bcell hr; (go_simp <;> with_reducible rfl); done)); simp only [Act.put, List.setIfInBounds_toArray, List.set_cons_zero, List.set_cons_succ]) | (refine' InText.call (by rfl) (fun wr hr => ?_) (fun wr hr => ?_) ?_; rotate_left 3; (focus ((go_simp <;> (first | with_reducible rfl | exact ⟨rfl, rfl⟩)); done)); (focus (first | with_reducible exact c_axis _ _ _ _ _ | with_reducible exact r2_axis _ _ _ _ _ | with_reducible exact RN.out _)); simp only [Act.put, List.setIfInBounds_toArray, List.set_cons_zero, List.set_cons_succ]))
  refine fun wr0a hr0a => ?_
  obtain ⟨hrc0a, hrf0a⟩ := bcell hr0a
  obtain ⟨_hcwr0a, _hfwr0a⟩ := bcell hr0a
  have _zwr0a0 : w.heap.size < wr0a.heap.size := size_lt (by first | (simp; done) | (simp; omega) | omega) hr0a
  have _zwr0a1 : w.heap.size + 1 < wr0a.heap.size := size_lt (by first | (simp; done) | (simp; omega) | omega) hr0a
  have _zwr0a2 : wv0.heap.size < wr0a.heap.size := size_lt (by first | (simp; done) | (simp; omega) | omega) hr0a
  have kr0a : Below w.heap.size w wr0a := by (repeat (first | with_reducible assumption | with_reducible exact Below.refl _ _ | with_reducible refine Below.drew ?_ | with_reducible refine below_drewN ?_ _ | with_reducible refine al ?_ _ | (with_reducible refine sc ?_ ?_; (focus (first | omega | (simp; done) | (simp; omega)))) | (with_reducible refine chain ?_ (by assumption))))
  go_wp2_with fail
  rw [rounds_succ]
  go_wp2_with fail
  refine region_alloc 7 9 (.cells #[.int .i64 0, .int .i64 0, .int .i64 0] 23) _ _ (by kernel_rfl) (by kernel_rfl) rfl (fun _ _ => by go_simp) ?_
  simp only [List.take_succ_cons, List.take_zero]
  repeat (first | (refine' InText.skip (by rfl) ?_; simp only [Act.put, List.setIfInBounds_toArray, List.set_cons_zero, List.set_cons_succ]) | (refine' InText.val (by rfl) (fun wr hr => ?_) ?_; rotate_left 1; (focus (obtain ⟨hrc, hrf⟩ := bcell hr; (go_simp <;> with_reducible rfl); done)); simp only [Act.put, List.setIfInBounds_toArray, List.set_cons_zero, List.set_cons_succ]) | (refine' InText.call (by rfl) (fun wr hr => ?_) (fun wr hr => ?_) ?_; rotate_left 3; (focus ((go_simp <;> (first | with_reducible rfl | exact ⟨rfl, rfl⟩)); done)); (focus (first | with_reducible exact T0.out _)); simp only [Act.put, List.setIfInBounds_toArray, List.set_cons_zero, List.set_cons_succ]))
  refine fun wv1 wr1 hv1 hr1 => ?_
  simp only [Act.put, List.setIfInBounds_toArray, List.set_cons_zero, List.set_cons_succ]
  obtain ⟨_hcwv1, _hfwv1⟩ := bcell hv1
  have _zwv10 : w.heap.size < wv1.heap.size := size_lt (by first | (simp; done) | (simp; omega) | omega) hv1
  have _zwv11 : w.heap.size + 1 < wv1.heap.size := size_lt (by first | (simp; done) | (simp; omega) | omega) hv1
  obtain ⟨_hcwr1, _hfwr1⟩ := bcell hr1
  have _zwr10 : w.heap.size < wr1.heap.size := size_lt (by first | (simp; done) | (simp; omega) | omega) hr1
  have _zwr11 : w.heap.size + 1 < wr1.heap.size := size_lt (by first | (simp; done) | (simp; omega) | omega) hr1
  have _zwr12 : wv1.heap.size < wr1.heap.size := size_lt (by first | (simp; done) | (simp; omega) | omega) hr1
  have kr1 : Below w.heap.size w wr1 := by (repeat (first | with_reducible assumption | with_reducible exact Below.refl _ _ | with_reducible refine Below.drew ?_ | with_reducible refine below_drewN ?_ _ | with_reducible refine al ?_ _ | (with_reducible refine sc ?_ ?_; (focus (first | omega | (simp; done) | (simp; omega)))) | (with_reducible refine chain ?_ (by assumption))))
  go_wp2_with fail
  refine region_below 23 (by kernel_rfl) (by kernel_rfl) ?_
  simp only [List.take_succ_cons, List.take_zero, List.drop_succ_cons, List.drop_zero]
  repeat (first | (refine' InText.skip (by rfl) ?_; simp only [Act.put, List.setIfInBounds_toArray, List.set_cons_zero, List.set_cons_succ]) | (refine' InText.val (by rfl) (fun wr hr => ?_) ?_; rotate_left 1; (focus (obtain ⟨hrc, hrf⟩ := bcell hr; (go_simp <;> with_reducible rfl); done)); simp only [Act.put, List.setIfInBounds_toArray, List.set_cons_zero, List.set_cons_succ]) | (refine' InText.call (by rfl) (fun wr hr => ?_) (fun wr hr => ?_) ?_; rotate_left 3; (focus ((go_simp <;> (first | with_reducible rfl | exact ⟨rfl, rfl⟩)); done)); (focus (first | with_reducible exact c_axis _ _ _ _ _ | with_reducible exact r2_axis _ _ _ _ _ | with_reducible exact R0.out _)); simp only [Act.put, List.setIfInBounds_toArray, List.set_cons_zero, List.set_cons_succ]))
  refine fun wr1a hr1a => ?_
  obtain ⟨hrc1a, hrf1a⟩ := bcell hr1a
  obtain ⟨_hcwr1a, _hfwr1a⟩ := bcell hr1a
  have _zwr1a0 : w.heap.size < wr1a.heap.size := size_lt (by first | (simp; done) | (simp; omega) | omega) hr1a
  have _zwr1a1 : w.heap.size + 1 < wr1a.heap.size := size_lt (by first | (simp; done) | (simp; omega) | omega) hr1a
  have _zwr1a2 : wv1.heap.size < wr1a.heap.size := size_lt (by first | (simp; done) | (simp; omega) | omega) hr1a
  have kr1a : Below w.heap.size w wr1a := by (repeat (first | with_reducible assumption | with_reducible exact Below.refl _ _ | with_reducible refine Below.drew ?_ | with_reducible refine below_drewN ?_ _ | with_reducible refine al ?_ _ | (with_reducible refine sc ?_ ?_; (focus (first | omega | (simp; done) | (simp; omega)))) | (with_reducible refine chain ?_ (by assumption))))
  go_wp2_with fail
  (refine (c_axis _ _ _ _ _).mono ?_; rintro e u1 ⟨rfl, hu1⟩)
  obtain ⟨_hcu1, _hfu1⟩ := bcell hu1
  have _zu10 : w.heap.size < u1.heap.size := size_lt (by first | (simp; done) | (simp; omega) | omega) hu1
  have _zu11 : w.heap.size + 1 < u1.heap.size := size_lt (by first | (simp; done) | (simp; omega) | omega) hu1
  have _zu12 : wv1.heap.size < u1.heap.size := size_lt (by first | (simp; done) | (simp; omega) | omega) hu1
  have ku1 : Below w.heap.size w u1 := by (repeat (first | with_reducible assumption | with_reducible exact Below.refl _ _ | with_reducible refine Below.drew ?_ | with_reducible refine below_drewN ?_ _ | with_reducible refine al ?_ _ | (with_reducible refine sc ?_ ?_; (focus (first | omega | (simp; done) | (simp; omega)))) | (with_reducible refine chain ?_ (by assumption))))
  go_wp2_with (go_at_call 24; refine (r_cut _ _).mono ?_; rintro e w' ⟨rfl, rfl⟩)
  rw [rounds_succ]
  go_wp2_with fail
  refine region_alloc 7 9 (.cells #[.int .i64 0, .int .i64 0, .int .i64 0] 23) _ _ (by kernel_rfl) (by kernel_rfl) rfl (fun _ _ => by go_simp) ?_
  simp only [List.take_succ_cons, List.take_zero]
  repeat (first | (refine' InText.skip (by rfl) ?_; simp only [Act.put, List.setIfInBounds_toArray, List.set_cons_zero, List.set_cons_succ]) | (refine' InText.val (by rfl) (fun wr hr => ?_) ?_; rotate_left 1; (focus (obtain ⟨hrc, hrf⟩ := bcell hr; (go_simp <;> with_reducible rfl); done)); simp only [Act.put, List.setIfInBounds_toArray, List.set_cons_zero, List.set_cons_succ]) | (refine' InText.call (by rfl) (fun wr hr => ?_) (fun wr hr => ?_) ?_; rotate_left 3; (focus ((go_simp <;> (first | with_reducible rfl | exact ⟨rfl, rfl⟩)); done)); (focus (first | with_reducible exact T1.out _)); simp only [Act.put, List.setIfInBounds_toArray, List.set_cons_zero, List.set_cons_succ]))
  refine fun wv2 wr2 hv2 hr2 => ?_
  simp only [Act.put, List.setIfInBounds_toArray, List.set_cons_zero, List.set_cons_succ]
  obtain ⟨_hcwv2, _hfwv2⟩ := bcell hv2
  have _zwv20 : w.heap.size < wv2.heap.size := size_lt (by first | (simp; done) | (simp; omega) | omega) hv2
  have _zwv21 : w.heap.size + 1 < wv2.heap.size := size_lt (by first | (simp; done) | (simp; omega) | omega) hv2
  obtain ⟨_hcwr2, _hfwr2⟩ := bcell hr2
  have _zwr20 : w.heap.size < wr2.heap.size := size_lt (by first | (simp; done) | (simp; omega) | omega) hr2
  have _zwr21 : w.heap.size + 1 < wr2.heap.size := size_lt (by first | (simp; done) | (simp; omega) | omega) hr2
  have _zwr22 : wv2.heap.size < wr2.heap.size := size_lt (by first | (simp; done) | (simp; omega) | omega) hr2
  have kr2 : Below w.heap.size w wr2 := by (repeat (first | with_reducible assumption | with_reducible exact Below.refl _ _ | with_reducible refine Below.drew ?_ | with_reducible refine below_drewN ?_ _ | with_reducible refine al ?_ _ | (with_reducible refine sc ?_ ?_; (focus (first | omega | (simp; done) | (simp; omega)))) | (with_reducible refine chain ?_ (by assumption))))
  go_wp2_with fail
  refine region_below 23 (by kernel_rfl) (by kernel_rfl) ?_
  simp only [List.take_succ_cons, List.take_zero, List.drop_succ_cons, List.drop_zero]
  repeat (first | (refine' InText.skip (by rfl) ?_; simp only [Act.put, List.setIfInBounds_toArray, List.set_cons_zero, List.set_cons_succ]) | (refine' InText.val (by rfl) (fun wr hr => ?_) ?_; rotate_left 1; (focus (obtain ⟨hrc, hrf⟩ := bcell hr; (go_simp <;> with_reducible rfl); done)); simp only [Act.put, List.setIfInBounds_toArray, List.set_cons_zero, List.set_cons_succ]) | (refine' InText.call (by rfl) (fun wr hr => ?_) (fun wr hr => ?_) ?_; rotate_left 3; (focus ((go_simp <;> (first | with_reducible rfl | exact ⟨rfl, rfl⟩)); done)); (focus (first | with_reducible exact c_axis _ _ _ _ _ | with_reducible exact r2_axis _ _ _ _ _ | with_reducible exact R1.out _)); simp only [Act.put, List.setIfInBounds_toArray, List.set_cons_zero, List.set_cons_succ]))
  refine fun wr2a hr2a => ?_
  obtain ⟨hrc2a, hrf2a⟩ := bcell hr2a
  obtain ⟨_hcwr2a, _hfwr2a⟩ := bcell hr2a
  have _zwr2a0 : w.heap.size < wr2a.heap.size := size_lt (by first | (simp; done) | (simp; omega) | omega) hr2a
  have _zwr2a1 : w.heap.size + 1 < wr2a.heap.size := size_lt (by first | (simp; done) | (simp; omega) | omega) hr2a
  have _zwr2a2 : wv2.heap.size < wr2a.heap.size := size_lt (by first | (simp; done) | (simp; omega) | omega) hr2a
  have kr2a : Below w.heap.size w wr2a := by (repeat (first | with_reducible assumption | with_reducible exact Below.refl _ _ | with_reducible refine Below.drew ?_ | with_reducible refine below_drewN ?_ _ | with_reducible refine al ?_ _ | (with_reducible refine sc ?_ ?_; (focus (first | omega | (simp; done) | (simp; omega)))) | (with_reducible refine chain ?_ (by assumption))))
  go_wp2_with fail
  (refine (c_axis _ _ _ _ _).mono ?_; rintro e u2 ⟨rfl, hu2⟩)
  obtain ⟨_hcu2, _hfu2⟩ := bcell hu2
  have _zu20 : w.heap.size < u2.heap.size := size_lt (by first | (simp; done) | (simp; omega) | omega) hu2
  have _zu21 : w.heap.size + 1 < u2.heap.size := size_lt (by first | (simp; done) | (simp; omega) | omega) hu2
  have _zu22 : wv2.heap.size < u2.heap.size := size_lt (by first | (simp; done) | (simp; omega) | omega) hu2
  have ku2 : Below w.heap.size w u2 := by (repeat (first | with_reducible assumption | with_reducible exact Below.refl _ _ | with_reducible refine Below.drew ?_ | with_reducible refine below_drewN ?_ _ | with_reducible refine al ?_ _ | (with_reducible refine sc ?_ ?_; (focus (first | omega | (simp; done) | (simp; omega)))) | (with_reducible refine chain ?_ (by assumption))))
  go_wp2_with (go_at_call 24; refine (r_cut _ _).mono ?_; rintro e w' ⟨rfl, rfl⟩)
  rw [rounds_succ]
  go_wp2_with fail
  refine region_alloc 7 9 (.cells #[.int .i64 0, .int .i64 0, .int .i64 0] 23) _ _ (by kernel_rfl) (by kernel_rfl) rfl (fun _ _ => by go_simp) ?_
  simp only [List.take_succ_cons, List.take_zero]
  repeat (first | (refine' InText.skip (by rfl) ?_; simp only [Act.put, List.setIfInBounds_toArray, List.set_cons_zero, List.set_cons_succ]) | (refine' InText.val (by rfl) (fun wr hr => ?_) ?_; rotate_left 1; (focus (obtain ⟨hrc, hrf⟩ := bcell hr; (go_simp <;> with_reducible rfl); done)); simp only [Act.put, List.setIfInBounds_toArray, List.set_cons_zero, List.set_cons_succ]) | (refine' InText.call (by rfl) (fun wr hr => ?_) (fun wr hr => ?_) ?_; rotate_left 3; (focus ((go_simp <;> (first | with_reducible rfl | exact ⟨rfl, rfl⟩)); done)); (focus (first | with_reducible exact T2.out _)); simp only [Act.put, List.setIfInBounds_toArray, List.set_cons_zero, List.set_cons_succ]))
  refine fun wv3 wr3 hv3 hr3 => ?_
  simp only [Act.put, List.setIfInBounds_toArray, List.set_cons_zero, List.set_cons_succ]
  obtain ⟨_hcwv3, _hfwv3⟩ := bcell hv3
  have _zwv30 : w.heap.size < wv3.heap.size := size_lt (by first | (simp; done) | (simp; omega) | omega) hv3
  have _zwv31 : w.heap.size + 1 < wv3.heap.size := size_lt (by first | (simp; done) | (simp; omega) | omega) hv3
  obtain ⟨_hcwr3, _hfwr3⟩ := bcell hr3
  have _zwr30 : w.heap.size < wr3.heap.size := size_lt (by first | (simp; done) | (simp; omega) | omega) hr3
  have _zwr31 : w.heap.size + 1 < wr3.heap.size := size_lt (by first | (simp; done) | (simp; omega) | omega) hr3
  have _zwr32 : wv3.heap.size < wr3.heap.size := size_lt (by first | (simp; done) | (simp; omega) | omega) hr3
  have kr3 : Below w.heap.size w wr3 := by (repeat (first | with_reducible assumption | with_reducible exact Below.refl _ _ | with_reducible refine Below.drew ?_ | with_reducible refine below_drewN ?_ _ | with_reducible refine al ?_ _ | (with_reducible refine sc ?_ ?_; (focus (first | omega | (simp; done) | (simp; omega)))) | (with_reducible refine chain ?_ (by assumption))))
  go_wp2_with fail
  refine region_below 23 (by kernel_rfl) (by kernel_rfl) ?_
  simp only [List.take_succ_cons, List.take_zero, List.drop_succ_cons, List.drop_zero]
  repeat (first | (refine' InText.skip (by rfl) ?_; simp only [Act.put, List.setIfInBounds_toArray, List.set_cons_zero, List.set_cons_succ]) | (refine' InText.val (by rfl) (fun wr hr => ?_) ?_; rotate_left 1; (focus (obtain ⟨hrc, hrf⟩ := bcell hr; (go_simp <;> with_reducible rfl); done)); simp only [Act.put, List.setIfInBounds_toArray, List.set_cons_zero, List.set_cons_succ]) | (refine' InText.call (by rfl) (fun wr hr => ?_) (fun wr hr => ?_) ?_; rotate_left 3; (focus ((go_simp <;> (first | with_reducible rfl | exact ⟨rfl, rfl⟩)); done)); (focus (first | with_reducible exact c_axis _ _ _ _ _ | with_reducible exact r2_axis _ _ _ _ _ | with_reducible exact R2.out _)); simp only [Act.put, List.setIfInBounds_toArray, List.set_cons_zero, List.set_cons_succ]))
  refine fun wr3a hr3a => ?_
  obtain ⟨hrc3a, hrf3a⟩ := bcell hr3a
  obtain ⟨_hcwr3a, _hfwr3a⟩ := bcell hr3a
  have _zwr3a0 : w.heap.size < wr3a.heap.size := size_lt (by first | (simp; done) | (simp; omega) | omega) hr3a
  have _zwr3a1 : w.heap.size + 1 < wr3a.heap.size := size_lt (by first | (simp; done) | (simp; omega) | omega) hr3a
  have _zwr3a2 : wv3.heap.size < wr3a.heap.size := size_lt (by first | (simp; done) | (simp; omega) | omega) hr3a
  have kr3a : Below w.heap.size w wr3a := by (repeat (first | with_reducible assumption | with_reducible exact Below.refl _ _ | with_reducible refine Below.drew ?_ | with_reducible refine below_drewN ?_ _ | with_reducible refine al ?_ _ | (with_reducible refine sc ?_ ?_; (focus (first | omega | (simp; done) | (simp; omega)))) | (with_reducible refine chain ?_ (by assumption))))
  go_wp2_with fail
  (refine (c_axis _ _ _ _ _).mono ?_; rintro e u3 ⟨rfl, hu3⟩)
  obtain ⟨_hcu3, _hfu3⟩ := bcell hu3
  have _zu30 : w.heap.size < u3.heap.size := size_lt (by first | (simp; done) | (simp; omega) | omega) hu3
  have _zu31 : w.heap.size + 1 < u3.heap.size := size_lt (by first | (simp; done) | (simp; omega) | omega) hu3
  have _zu32 : wv3.heap.size < u3.heap.size := size_lt (by first | (simp; done) | (simp; omega) | omega) hu3
  have ku3 : Below w.heap.size w u3 := by (repeat (first | with_reducible assumption | with_reducible exact Below.refl _ _ | with_reducible refine Below.drew ?_ | with_reducible refine below_drewN ?_ _ | with_reducible refine al ?_ _ | (with_reducible refine sc ?_ ?_; (focus (first | omega | (simp; done) | (simp; omega)))) | (with_reducible refine chain ?_ (by assumption))))
  go_wp2_with (go_at_call 24; refine (r_cut _ _).mono ?_; rintro e w' ⟨rfl, rfl⟩)
  rw [rounds_succ]
  go_wp2_with fail
  (refine (l2_lives _).mono ?_; rintro e u5 ⟨rfl, hu5⟩)
  go_wp2
  go_ret
  exact ⟨rfl, by (repeat (first | with_reducible assumption | with_reducible exact Below.refl _ _ | with_reducible refine Below.drew ?_ | with_reducible refine below_drewN ?_ _ | with_reducible refine al ?_ _ | (with_reducible refine sc ?_ ?_; (focus (first | omega | (simp; done) | (simp; omega)))) | (with_reducible refine chain ?_ (by assumption))))⟩
theorem own : ownKnob Try.prog.godebug = none := by kernel_rfl
set_option maxRecDepth 100000 in
theorem lifted (os : Os) (started : os.Started) (H : Type) (enc : TypeId × Value → H) :
    ReturnsInHanded {} Try.checked os 4 .any (Rows.vecAxesSpec.pre6 enc Try.prog Try.f4 Rows.vecAxesRow.domain false) (Rows.vecAxesSpec.post enc Try.prog Try.f4 false true false false) := by
  refine returnsInHanded_of_change (C := Try.checked) own started (by kernel_rfl) Try.func4
    (ChangeSpec.witness6 (enc := enc) (C := Try.checked) false ⟨#[], #[.agg #[.int .i64 0, .int .i64 0, .int .i64 0], .int .i64 0, .int .i64 0], []⟩ 8 (by kernel_rfl) (by kernel_rfl) (by kernel_rfl) (by kernel_rfl)) ?_
  intro W base args ds gs before hval0 hW hcnd _
  have hval : ∀ (j : Nat) t v, Try.f4.params[j]? = some t → args[j]? = some v → Value.okWide Try.prog W .any base t v := hval0
  have hW' := hW
  obtain ⟨p, q, hA0, hV, rfl, hfz, hnd⟩ := hW
  have hA : DataW.TrodAll enc Try.prog W 0 (fun _ => true) true Try.f4.params.toList args.toList ds p := hA0
  rw [Try.params4] at hA hval
  obtain ⟨v0, vs0, d0, ds0, p0, q0, hargs, rfl, rfl, h0, r0⟩ := trodAll_cons hA
  obtain ⟨v1, vs1, d1, ds1, p1, q1, rfl, rfl, rfl, h1, r1⟩ := trodAll_cons r0
  obtain ⟨v2, vs2, d2, ds2, p2, q2, rfl, rfl, rfl, h2, r2⟩ := trodAll_cons r1
  obtain ⟨rfl, rfl, rfl⟩ := trodAll_nil r2
  obtain rfl : args = #[v0, v1, v2] := by cases args; simp_all
  obtain ⟨rfl, rfl⟩ := trodVars_none hV
  simp only [List.append_nil] at hW'
  have hlt : ∀ x ∈ p0 ++ (p1 ++ (p2 ++ ([]))), x.block < W.heap.size := fun x hx => hW'.lt x (by simpa using hx)
  have hlt0 : ∀ x ∈ p0, x.block < W.heap.size := fun x hx => hlt x (List.mem_append.2 (.inl hx))
  have hlt1 : ∀ x ∈ p1, x.block < W.heap.size := fun x hx => hlt x (List.mem_append.2 (.inr (List.mem_append.2 (.inl hx))))
  have hlt2 : ∀ x ∈ p2, x.block < W.heap.size := fun x hx => hlt x (List.mem_append.2 (.inr (List.mem_append.2 (.inr (List.mem_append.2 (.inl hx))))))
  have k0 := h0
  have k1 := h1
  have k2 := h2
  obtain ⟨a0, rfl, w0⟩ := open_vec (hval 0 23 v0 rfl rfl) h0
  obtain ⟨a1, rfl, w1⟩ := open_num (hval 1 3 v1 rfl rfl) h1
  obtain ⟨a2, rfl, w2⟩ := open_num (hval 2 3 v2 rfl rfl) h2
  clear hA0 hval0
  refine (walk a0 w0 a1 w1 a2 w2 W).mono fun e W' ⟨he, hg⟩ => ?_
  subst he
  exact ⟨_, rfl, _, _, _, [], _, [], hW', (trodAll_cons_mk (shut_bool Try.underlying4 _) trodAll_mk0), (trodAll_cons_mk (Below.trod laidOut (by kernel_rfl) (of_decide_eq_true (by kernel_rfl)) k0 hg hlt0) (trodAll_cons_mk (Below.trod laidOut (by kernel_rfl) (of_decide_eq_true (by kernel_rfl)) k1 hg hlt1) (trodAll_cons_mk (Below.trod laidOut (by kernel_rfl) (of_decide_eq_true (by kernel_rfl)) k2 hg hlt2) trodAll_mk0))), rfl, hg.frame _, fun h => by cases h⟩
theorem over : Rows.vecAxesRow.holds Try.pinned (OpenSpec.ofChange Rows.vecAxesSpec) :=
  OpenClaim.holds_of_wide 4 Try.f4 rfl rfl rfl rfl rfl rfl rfl ⟨rfl, rfl, rfl, rfl, rfl⟩ rfl rfl rfl rfl rfl (by kernel_rfl) Try.func4 (by kernel_rfl)
    (of_decide_eq_true (by kernel_rfl)) (by unfold Func.isWrapper; first | (rw [if_pos (by decide +kernel)]; kernel_rfl) | (rw [if_neg (by decide +kernel)]; exact ⟨rfl, rfl⟩))
    (fun os started H enc _ => lifted os started H enc)
theorem proved : Rows.VecAxesSaid := over
#print axioms proved
end Go.Proofs.Ytaiiilccamdnbaa.vecAxes
