/- For every two cells the law CellApart of layer 3 answers true: boxes of two cells overlap only if they are one. Conditions: none: every input. -/
import Derived.Test.YtenpcmhfbbfpeaaRows
import Derived.Test.YtenpcmhfbbfpeaaO02
import Derived.Test.YtenpcmhfbbfpeaaL03
import Derived.Test.YtenpcmhfbbfpeaaR33
import Derived.Test.YtenpcmhfbbfpeaaR03
import Derived.Test.YtenpcmhfbbfpeaaP03
import Derived.Test.YtenpcmhfbbfpeaaQ32
import Derived.Test.YtenpcmhfbbfpeaaS03
import Derived.WalkKit
import Derived.ProofKit
import Derived.OpenShut
import Derived.Below
import Derived.Carry
namespace Go.Proofs.Ytenpcmhfbbfpeaa.cellApart
open Go.Proofs.Ytenpcmhfbbfpeaa Go.ChangeShapes Go.WideShapes Go.ChangeAt Go.RowKit
set_option linter.unusedVariables false
set_option linter.unusedSimpArgs false
attribute [local go_sem ↓] Go.wp_at_zero Go.wp_at_succ
set_option maxHeartbeats 8000000 in
theorem walk (a0 : V3) (w0 : a0.wf) (a1 : V3) (w1 : a1.wf) (w : World) :
    Calls Try.prog 9 #[a0.val, a1.val] w fun e w' => e = .returned (.bool true) ∧ Below w.heap.size w w' := by
  obtain ⟨x, y, z⟩ := a0
  obtain ⟨u, v, t⟩ := a1
  obtain ⟨wx, wy, wz⟩ := w0
  obtain ⟨wu, wv0, wt⟩ := w1
  have q3 := eq3c_run
  have q4 := eq3_self
  have kA := fun k => r_around x 1073741824 wx.1 wx.2 (by omega) (by omega) k
  have bA := around_bd x 1073741824 (by omega)
  generalize aroundF x 1073741824 = A at *
  have kB := fun k => r_around y 1073741824 wy.1 wy.2 (by omega) (by omega) k
  have bB := around_bd y 1073741824 (by omega)
  generalize aroundF y 1073741824 = B at *
  have kC := fun k => r_around z 1073741824 wz.1 wz.2 (by omega) (by omega) k
  have bC := around_bd z 1073741824 (by omega)
  generalize aroundF z 1073741824 = C at *
  have kD := fun k => r_around u 1073741824 wu.1 wu.2 (by omega) (by omega) k
  have bD := around_bd u 1073741824 (by omega)
  generalize aroundF u 1073741824 = D at *
  have kE := fun k => r_around v 1073741824 wv0.1 wv0.2 (by omega) (by omega) k
  have bE := around_bd v 1073741824 (by omega)
  generalize aroundF v 1073741824 = E at *
  have kF := fun k => r_around t 1073741824 wt.1 wt.2 (by omega) (by omega) k
  have bF := around_bd t 1073741824 (by omega)
  generalize aroundF t 1073741824 = F at *
  obtain ⟨G, hG⟩ : ∃ G, -C = G := ⟨_, rfl⟩
  obtain ⟨H, hH⟩ : ∃ H, -F = H := ⟨_, rfl⟩
  have bG : -1073741824 ≤ G ∧ G ≤ 0 := by omega
  have bH : -1073741824 ≤ H ∧ H ≤ 0 := by omega
  have vG : IntKind.i64.wrap (-C) = G := by rw [IntWalk.i64_in _ (by omega)]; exact hG
  have vH : IntKind.i64.wrap (-F) = H := by rw [IntWalk.i64_in _ (by omega)]; exact hH
  clear hG hH bC bF
  have p0 := fun k => c3_box A B G k
  have p1 := fun k => c3_box D E H k
  rw [cellC_in (by omega) (by omega), cellC_in (by omega) (by omega), cellC_in (by omega) (by omega)] at p0 p1
  unfold cbox at p0 p1
  have tA : topF A = A * 65536 + 65536 := by unfold topF; exact cut_in (by omega) (by omega)
  have tB : topF B = B * 65536 + 65536 := by unfold topF; exact cut_in (by omega) (by omega)
  have tG : topF G = G * 65536 + 65536 := by unfold topF; exact cut_in (by omega) (by omega)
  have tD : topF D = D * 65536 + 65536 := by unfold topF; exact cut_in (by omega) (by omega)
  have tE : topF E = E * 65536 + 65536 := by unfold topF; exact cut_in (by omega) (by omega)
  have tH : topF H = H * 65536 + 65536 := by unfold topF; exact cut_in (by omega) (by omega)
  rw [tA, tB, tG] at p0
  rw [tD, tE, tH] at p1
  have cA : ∀ n : Int, -1073741824 ≤ n ∧ n ≤ 1073741823 → cut (n * 65536) / 65536 = n := fun n h => by rw [cut_in (by omega) (by omega)]; omega
  have cB : ∀ n : Int, -1073741824 ≤ n ∧ n ≤ 1073741823 → belowF (n * 65536 + 65536) = n := fun n h => by unfold belowF; rw [cut_in (by omega) (by omega), if_neg (by omega)]; omega
  have sp := fun k => c3_span (A * 65536) (B * 65536) (G * 65536) (A * 65536 + 65536) (B * 65536 + 65536) (G * 65536 + 65536) (by rw [cA A (by omega), cB A (by omega)]; exact Int.le_refl _) (by rw [cA B (by omega), cB B (by omega)]; exact Int.le_refl _) (by rw [cA G (by omega), cB G (by omega)]; exact Int.le_refl _) k
  rw [cA A (by omega), cA B (by omega), cA G (by omega), cB A (by omega), cB B (by omega), cB G (by omega)] at sp
  have cf := fun k => c3_of (A * 65536) (B * 65536) (G * 65536) k
  rw [cA A (by omega), cA B (by omega), cA G (by omega)] at cf
  have ov := fun k => to_v (r2_overlap (A * 65536) (B * 65536) (G * 65536) (A * 65536 + 65536) (B * 65536 + 65536) (G * 65536 + 65536) (D * 65536) (E * 65536) (H * 65536) (D * 65536 + 65536) (E * 65536 + 65536) (H * 65536 + 65536) k)
    (congrArg Value.bool (show _ = eq3B A B G D E H by unfold eq3B; rw [Bool.eq_iff_iff]; simp; omega))
  obtain ⟨eb, heb⟩ : ∃ eb, eq3B A B G D E H = eb := ⟨_, rfl⟩
  rw [heb] at ov
  clear cA cB tA tB tG tD tE tH bA bB bG bD bE bH
  generalize A * 65536 + 65536 = tA at *
  generalize A * 65536 = mA at *
  generalize B * 65536 + 65536 = tB at *
  generalize B * 65536 = mB at *
  generalize G * 65536 + 65536 = tG at *
  generalize G * 65536 = mG at *
  generalize D * 65536 + 65536 = tD at *
  generalize D * 65536 = mD at *
  generalize E * 65536 + 65536 = tE at *
  generalize E * 65536 = mE at *
  generalize H * 65536 + 65536 = tH at *
  generalize H * 65536 = mH at *
  have HkA := Lib.hid kA
  have HkB := Lib.hid kB
  have HkC := Lib.hid kC
  have HkD := Lib.hid kD
  have HkE := Lib.hid kE
  have HkF := Lib.hid kF
  have Hp0 := Lib.hid p0
  have Hp1 := Lib.hid p1
  have Hsp := Lib.hid sp
  have Hcf := Lib.hid cf
  have Hov := Lib.hid ov
  clear kA kB kC kD kE kF p0 p1 sp cf ov
  go_enter Try.func9, Try.ntmps9
  go_wp2_with fail
  have rb : RowAt (w.alloc (.cells #[.int .i64 x, .int .i64 y, .int .i64 z] 28)) (w.heap.size) #[.int .i64 x, .int .i64 y, .int .i64 z] 28 := RowAt.make _ _ _ (by simp)
  have rb : RowAt ((w.alloc (.cells #[.int .i64 x, .int .i64 y, .int .i64 z] 28)).alloc (.cells #[.int .i64 u, .int .i64 v, .int .i64 t] 28)) (w.heap.size) #[.int .i64 x, .int .i64 y, .int .i64 z] 28 := rb.alloc _
  have rc : RowAt ((w.alloc (.cells #[.int .i64 x, .int .i64 y, .int .i64 z] 28)).alloc (.cells #[.int .i64 u, .int .i64 v, .int .i64 t] 28)) (w.heap.size + 1) #[.int .i64 u, .int .i64 v, .int .i64 t] 28 := RowAt.make _ _ _ (by simp)
  have kw : Below w.heap.size w ((w.alloc (.cells #[.int .i64 x, .int .i64 y, .int .i64 z] 28)).alloc (.cells #[.int .i64 u, .int .i64 v, .int .i64 t] 28)) := by (repeat (first | with_reducible assumption | with_reducible exact Below.refl _ _ | with_reducible refine Below.drew ?_ | with_reducible refine below_drewN ?_ _ | with_reducible refine al ?_ _ | (with_reducible refine sc ?_ ?_; (focus (first | omega | (simp; done) | (simp; omega)))) | (with_reducible refine chain ?_ (by assumption))))
  generalize ((w.alloc (.cells #[.int .i64 x, .int .i64 y, .int .i64 z] 28)).alloc (.cells #[.int .i64 u, .int .i64 v, .int .i64 t] 28)) = W1 at *
  have cb : ∀ j, W1.cell? ⟨w.heap.size, j, none⟩ = (#[.int .i64 x, .int .i64 y, .int .i64 z] : Array Value)[j]? := rb.cell
  have fb : ∀ j, W1.frozen? ⟨w.heap.size, j, none⟩ = false := rb.frozen
  have zb : w.heap.size < W1.heap.size := rb.lt
  have cc : ∀ j, W1.cell? ⟨w.heap.size + 1, j, none⟩ = (#[.int .i64 u, .int .i64 v, .int .i64 t] : Array Value)[j]? := rc.cell
  have fc : ∀ j, W1.frozen? ⟨w.heap.size + 1, j, none⟩ = false := rc.frozen
  have zc : w.heap.size + 1 < W1.heap.size := rc.lt
  refine region_alloc 11 5 (.cells #[.int .i64 0, .int .i64 0, .int .i64 0] 28) _ _ (by kernel_rfl) (by kernel_rfl) rfl (fun _ _ => by go_simp) ?_
  simp only [List.take_succ_cons, List.take_zero]
  repeat (first | (refine' InText.skip (by rfl) ?_; simp only [Act.put, List.setIfInBounds_toArray, List.set_cons_zero, List.set_cons_succ]) | (refine' InText.val (by rfl) (fun wr hr => ?_) ?_; rotate_left 1; (focus (obtain ⟨hrc, hrf⟩ := bcell hr; (go_simp <;> with_reducible rfl); done)); simp only [Act.put, List.setIfInBounds_toArray, List.set_cons_zero, List.set_cons_succ]) | (refine' InText.call (by rfl) (fun wr hr => ?_) (fun wr hr => ?_) ?_; rotate_left 3; (focus ((go_simp <;> (first | with_reducible rfl | exact ⟨rfl, rfl⟩)); done)); (focus (first | with_reducible exact pureB (HkA.out _) | with_reducible exact pureB (HkB.out _) | with_reducible exact pureB (HkC.out _))); simp only [Act.put, List.setIfInBounds_toArray, List.set_cons_zero, List.set_cons_succ]))
  refine fun wv1 wr1 hv1 hr1 => ?_
  simp only [Act.put, List.setIfInBounds_toArray, List.set_cons_zero, List.set_cons_succ]
  have yob : w.heap.size < wv1.heap.size := (rb.keep hv1).lt
  have yoc : w.heap.size + 1 < wv1.heap.size := (rc.keep hv1).lt
  clear cb fb zb cc fc zc
  replace rb := ((rb.keep hv1).alloc _).keep hr1
  replace rc := ((rc.keep hv1).alloc _).keep hr1
  have ro : RowAt wr1 (wv1.heap.size) #[.int .i64 0, .int .i64 0, .int .i64 0] 28 := (RowAt.new wv1 _ _).keep hr1
  replace kw : Below w.heap.size w wr1 := kw.trans ((chain (al hv1 _) hr1).mono kw.size)
  clear hv1 hr1
  have cb : ∀ j, wr1.cell? ⟨w.heap.size, j, none⟩ = (#[.int .i64 x, .int .i64 y, .int .i64 z] : Array Value)[j]? := rb.cell
  have fb : ∀ j, wr1.frozen? ⟨w.heap.size, j, none⟩ = false := rb.frozen
  have zb : w.heap.size < wr1.heap.size := rb.lt
  have cc : ∀ j, wr1.cell? ⟨w.heap.size + 1, j, none⟩ = (#[.int .i64 u, .int .i64 v, .int .i64 t] : Array Value)[j]? := rc.cell
  have fc : ∀ j, wr1.frozen? ⟨w.heap.size + 1, j, none⟩ = false := rc.frozen
  have zc : w.heap.size + 1 < wr1.heap.size := rc.lt
  have co : ∀ j, wr1.cell? ⟨wv1.heap.size, j, none⟩ = (#[.int .i64 0, .int .i64 0, .int .i64 0] : Array Value)[j]? := ro.cell
  have fo : ∀ j, wr1.frozen? ⟨wv1.heap.size, j, none⟩ = false := ro.frozen
  have zo : wv1.heap.size < wr1.heap.size := ro.lt
  go_wp2_with fail
  replace kw : Below w.heap.size w (((wr1.setCell ⟨wv1.heap.size, 0, none⟩ (.int .i64 A)).setCell ⟨wv1.heap.size, 1, none⟩ (.int .i64 B)).setCell ⟨wv1.heap.size, 2, none⟩ (.int .i64 G)) := by (repeat (first | with_reducible assumption | with_reducible exact Below.refl _ _ | with_reducible refine Below.drew ?_ | with_reducible refine below_drewN ?_ _ | with_reducible refine al ?_ _ | (with_reducible refine sc ?_ ?_; (focus (first | omega | (simp; done) | (simp; omega)))) | (with_reducible refine chain ?_ (by assumption))))
  replace rb : RowAt (((wr1.setCell ⟨wv1.heap.size, 0, none⟩ (.int .i64 A)).setCell ⟨wv1.heap.size, 1, none⟩ (.int .i64 B)).setCell ⟨wv1.heap.size, 2, none⟩ (.int .i64 G)) (w.heap.size) #[.int .i64 x, .int .i64 y, .int .i64 z] 28 := (((rb.other (p := ⟨wv1.heap.size, 0, none⟩) (by first | omega | (simp; done) | (simp; omega)) (.int .i64 A)).other (p := ⟨wv1.heap.size, 1, none⟩) (by first | omega | (simp; done) | (simp; omega)) (.int .i64 B)).other (p := ⟨wv1.heap.size, 2, none⟩) (by first | omega | (simp; done) | (simp; omega)) (.int .i64 G))
  replace rc : RowAt (((wr1.setCell ⟨wv1.heap.size, 0, none⟩ (.int .i64 A)).setCell ⟨wv1.heap.size, 1, none⟩ (.int .i64 B)).setCell ⟨wv1.heap.size, 2, none⟩ (.int .i64 G)) (w.heap.size + 1) #[.int .i64 u, .int .i64 v, .int .i64 t] 28 := (((rc.other (p := ⟨wv1.heap.size, 0, none⟩) (by first | omega | (simp; done) | (simp; omega)) (.int .i64 A)).other (p := ⟨wv1.heap.size, 1, none⟩) (by first | omega | (simp; done) | (simp; omega)) (.int .i64 B)).other (p := ⟨wv1.heap.size, 2, none⟩) (by first | omega | (simp; done) | (simp; omega)) (.int .i64 G))
  replace ro : RowAt (((wr1.setCell ⟨wv1.heap.size, 0, none⟩ (.int .i64 A)).setCell ⟨wv1.heap.size, 1, none⟩ (.int .i64 B)).setCell ⟨wv1.heap.size, 2, none⟩ (.int .i64 G)) (wv1.heap.size) #[.int .i64 A, .int .i64 B, .int .i64 G] 28 := (((ro.set 0 (.int .i64 A)).set 1 (.int .i64 B)).set 2 (.int .i64 G))
  clear cb fb zb cc fc zc co fo zo
  generalize (((wr1.setCell ⟨wv1.heap.size, 0, none⟩ (.int .i64 A)).setCell ⟨wv1.heap.size, 1, none⟩ (.int .i64 B)).setCell ⟨wv1.heap.size, 2, none⟩ (.int .i64 G)) = W2 at *
  have cb : ∀ j, W2.cell? ⟨w.heap.size, j, none⟩ = (#[.int .i64 x, .int .i64 y, .int .i64 z] : Array Value)[j]? := rb.cell
  have fb : ∀ j, W2.frozen? ⟨w.heap.size, j, none⟩ = false := rb.frozen
  have zb : w.heap.size < W2.heap.size := rb.lt
  have cc : ∀ j, W2.cell? ⟨w.heap.size + 1, j, none⟩ = (#[.int .i64 u, .int .i64 v, .int .i64 t] : Array Value)[j]? := rc.cell
  have fc : ∀ j, W2.frozen? ⟨w.heap.size + 1, j, none⟩ = false := rc.frozen
  have zc : w.heap.size + 1 < W2.heap.size := rc.lt
  have co : ∀ j, W2.cell? ⟨wv1.heap.size, j, none⟩ = (#[.int .i64 A, .int .i64 B, .int .i64 G] : Array Value)[j]? := ro.cell
  have fo : ∀ j, W2.frozen? ⟨wv1.heap.size, j, none⟩ = false := ro.frozen
  have zo : wv1.heap.size < W2.heap.size := ro.lt
  refine region_alloc 11 6 (.cells #[.int .i64 0, .int .i64 0, .int .i64 0] 28) _ _ (by kernel_rfl) (by kernel_rfl) rfl (fun _ _ => by go_simp) ?_
  simp only [List.take_succ_cons, List.take_zero]
  repeat (first | (refine' InText.skip (by rfl) ?_; simp only [Act.put, List.setIfInBounds_toArray, List.set_cons_zero, List.set_cons_succ]) | (refine' InText.val (by rfl) (fun wr hr => ?_) ?_; rotate_left 1; (focus (obtain ⟨hrc, hrf⟩ := bcell hr; (go_simp <;> with_reducible rfl); done)); simp only [Act.put, List.setIfInBounds_toArray, List.set_cons_zero, List.set_cons_succ]) | (refine' InText.call (by rfl) (fun wr hr => ?_) (fun wr hr => ?_) ?_; rotate_left 3; (focus ((go_simp <;> (first | with_reducible rfl | exact ⟨rfl, rfl⟩)); done)); (focus (first | with_reducible exact pureB (HkD.out _) | with_reducible exact pureB (HkE.out _) | with_reducible exact pureB (HkF.out _))); simp only [Act.put, List.setIfInBounds_toArray, List.set_cons_zero, List.set_cons_succ]))
  refine fun wv2 wr2 hv2 hr2 => ?_
  simp only [Act.put, List.setIfInBounds_toArray, List.set_cons_zero, List.set_cons_succ]
  have ypb : w.heap.size < wv2.heap.size := (rb.keep hv2).lt
  have ypc : w.heap.size + 1 < wv2.heap.size := (rc.keep hv2).lt
  have ypo : wv1.heap.size < wv2.heap.size := (ro.keep hv2).lt
  clear cb fb zb cc fc zc co fo zo
  replace rb := ((rb.keep hv2).alloc _).keep hr2
  replace rc := ((rc.keep hv2).alloc _).keep hr2
  replace ro := ((ro.keep hv2).alloc _).keep hr2
  have rp : RowAt wr2 (wv2.heap.size) #[.int .i64 0, .int .i64 0, .int .i64 0] 28 := (RowAt.new wv2 _ _).keep hr2
  replace kw : Below w.heap.size w wr2 := kw.trans ((chain (al hv2 _) hr2).mono kw.size)
  clear hv2 hr2
  have cb : ∀ j, wr2.cell? ⟨w.heap.size, j, none⟩ = (#[.int .i64 x, .int .i64 y, .int .i64 z] : Array Value)[j]? := rb.cell
  have fb : ∀ j, wr2.frozen? ⟨w.heap.size, j, none⟩ = false := rb.frozen
  have zb : w.heap.size < wr2.heap.size := rb.lt
  have cc : ∀ j, wr2.cell? ⟨w.heap.size + 1, j, none⟩ = (#[.int .i64 u, .int .i64 v, .int .i64 t] : Array Value)[j]? := rc.cell
  have fc : ∀ j, wr2.frozen? ⟨w.heap.size + 1, j, none⟩ = false := rc.frozen
  have zc : w.heap.size + 1 < wr2.heap.size := rc.lt
  have co : ∀ j, wr2.cell? ⟨wv1.heap.size, j, none⟩ = (#[.int .i64 A, .int .i64 B, .int .i64 G] : Array Value)[j]? := ro.cell
  have fo : ∀ j, wr2.frozen? ⟨wv1.heap.size, j, none⟩ = false := ro.frozen
  have zo : wv1.heap.size < wr2.heap.size := ro.lt
  have cp : ∀ j, wr2.cell? ⟨wv2.heap.size, j, none⟩ = (#[.int .i64 0, .int .i64 0, .int .i64 0] : Array Value)[j]? := rp.cell
  have fp : ∀ j, wr2.frozen? ⟨wv2.heap.size, j, none⟩ = false := rp.frozen
  have zp : wv2.heap.size < wr2.heap.size := rp.lt
  go_wp2_with fail
  replace kw : Below w.heap.size w (((wr2.setCell ⟨wv2.heap.size, 0, none⟩ (.int .i64 D)).setCell ⟨wv2.heap.size, 1, none⟩ (.int .i64 E)).setCell ⟨wv2.heap.size, 2, none⟩ (.int .i64 H)) := by (repeat (first | with_reducible assumption | with_reducible exact Below.refl _ _ | with_reducible refine Below.drew ?_ | with_reducible refine below_drewN ?_ _ | with_reducible refine al ?_ _ | (with_reducible refine sc ?_ ?_; (focus (first | omega | (simp; done) | (simp; omega)))) | (with_reducible refine chain ?_ (by assumption))))
  replace rb : RowAt (((wr2.setCell ⟨wv2.heap.size, 0, none⟩ (.int .i64 D)).setCell ⟨wv2.heap.size, 1, none⟩ (.int .i64 E)).setCell ⟨wv2.heap.size, 2, none⟩ (.int .i64 H)) (w.heap.size) #[.int .i64 x, .int .i64 y, .int .i64 z] 28 := (((rb.other (p := ⟨wv2.heap.size, 0, none⟩) (by first | omega | (simp; done) | (simp; omega)) (.int .i64 D)).other (p := ⟨wv2.heap.size, 1, none⟩) (by first | omega | (simp; done) | (simp; omega)) (.int .i64 E)).other (p := ⟨wv2.heap.size, 2, none⟩) (by first | omega | (simp; done) | (simp; omega)) (.int .i64 H))
  replace rc : RowAt (((wr2.setCell ⟨wv2.heap.size, 0, none⟩ (.int .i64 D)).setCell ⟨wv2.heap.size, 1, none⟩ (.int .i64 E)).setCell ⟨wv2.heap.size, 2, none⟩ (.int .i64 H)) (w.heap.size + 1) #[.int .i64 u, .int .i64 v, .int .i64 t] 28 := (((rc.other (p := ⟨wv2.heap.size, 0, none⟩) (by first | omega | (simp; done) | (simp; omega)) (.int .i64 D)).other (p := ⟨wv2.heap.size, 1, none⟩) (by first | omega | (simp; done) | (simp; omega)) (.int .i64 E)).other (p := ⟨wv2.heap.size, 2, none⟩) (by first | omega | (simp; done) | (simp; omega)) (.int .i64 H))
  replace ro : RowAt (((wr2.setCell ⟨wv2.heap.size, 0, none⟩ (.int .i64 D)).setCell ⟨wv2.heap.size, 1, none⟩ (.int .i64 E)).setCell ⟨wv2.heap.size, 2, none⟩ (.int .i64 H)) (wv1.heap.size) #[.int .i64 A, .int .i64 B, .int .i64 G] 28 := (((ro.other (p := ⟨wv2.heap.size, 0, none⟩) (by first | omega | (simp; done) | (simp; omega)) (.int .i64 D)).other (p := ⟨wv2.heap.size, 1, none⟩) (by first | omega | (simp; done) | (simp; omega)) (.int .i64 E)).other (p := ⟨wv2.heap.size, 2, none⟩) (by first | omega | (simp; done) | (simp; omega)) (.int .i64 H))
  replace rp : RowAt (((wr2.setCell ⟨wv2.heap.size, 0, none⟩ (.int .i64 D)).setCell ⟨wv2.heap.size, 1, none⟩ (.int .i64 E)).setCell ⟨wv2.heap.size, 2, none⟩ (.int .i64 H)) (wv2.heap.size) #[.int .i64 D, .int .i64 E, .int .i64 H] 28 := (((rp.set 0 (.int .i64 D)).set 1 (.int .i64 E)).set 2 (.int .i64 H))
  clear cb fb zb cc fc zc co fo zo cp fp zp
  generalize (((wr2.setCell ⟨wv2.heap.size, 0, none⟩ (.int .i64 D)).setCell ⟨wv2.heap.size, 1, none⟩ (.int .i64 E)).setCell ⟨wv2.heap.size, 2, none⟩ (.int .i64 H)) = W3 at *
  have cb : ∀ j, W3.cell? ⟨w.heap.size, j, none⟩ = (#[.int .i64 x, .int .i64 y, .int .i64 z] : Array Value)[j]? := rb.cell
  have fb : ∀ j, W3.frozen? ⟨w.heap.size, j, none⟩ = false := rb.frozen
  have zb : w.heap.size < W3.heap.size := rb.lt
  have cc : ∀ j, W3.cell? ⟨w.heap.size + 1, j, none⟩ = (#[.int .i64 u, .int .i64 v, .int .i64 t] : Array Value)[j]? := rc.cell
  have fc : ∀ j, W3.frozen? ⟨w.heap.size + 1, j, none⟩ = false := rc.frozen
  have zc : w.heap.size + 1 < W3.heap.size := rc.lt
  have co : ∀ j, W3.cell? ⟨wv1.heap.size, j, none⟩ = (#[.int .i64 A, .int .i64 B, .int .i64 G] : Array Value)[j]? := ro.cell
  have fo : ∀ j, W3.frozen? ⟨wv1.heap.size, j, none⟩ = false := ro.frozen
  have zo : wv1.heap.size < W3.heap.size := ro.lt
  have cp : ∀ j, W3.cell? ⟨wv2.heap.size, j, none⟩ = (#[.int .i64 D, .int .i64 E, .int .i64 H] : Array Value)[j]? := rp.cell
  have fp : ∀ j, W3.frozen? ⟨wv2.heap.size, j, none⟩ = false := rp.frozen
  have zp : wv2.heap.size < W3.heap.size := rp.lt
  (refine (Hp0.out _).mono ?_; rintro e W4 ⟨rfl, hW4⟩)
  clear cb fb zb cc fc zc co fo zo cp fp zp
  replace rb := rb.keep hW4
  replace rc := rc.keep hW4
  replace ro := ro.keep hW4
  replace rp := rp.keep hW4
  replace kw := kw.trans (hW4.mono kw.size)
  have cb : ∀ j, W4.cell? ⟨w.heap.size, j, none⟩ = (#[.int .i64 x, .int .i64 y, .int .i64 z] : Array Value)[j]? := rb.cell
  have fb : ∀ j, W4.frozen? ⟨w.heap.size, j, none⟩ = false := rb.frozen
  have zb : w.heap.size < W4.heap.size := rb.lt
  have cc : ∀ j, W4.cell? ⟨w.heap.size + 1, j, none⟩ = (#[.int .i64 u, .int .i64 v, .int .i64 t] : Array Value)[j]? := rc.cell
  have fc : ∀ j, W4.frozen? ⟨w.heap.size + 1, j, none⟩ = false := rc.frozen
  have zc : w.heap.size + 1 < W4.heap.size := rc.lt
  have co : ∀ j, W4.cell? ⟨wv1.heap.size, j, none⟩ = (#[.int .i64 A, .int .i64 B, .int .i64 G] : Array Value)[j]? := ro.cell
  have fo : ∀ j, W4.frozen? ⟨wv1.heap.size, j, none⟩ = false := ro.frozen
  have zo : wv1.heap.size < W4.heap.size := ro.lt
  have cp : ∀ j, W4.cell? ⟨wv2.heap.size, j, none⟩ = (#[.int .i64 D, .int .i64 E, .int .i64 H] : Array Value)[j]? := rp.cell
  have fp : ∀ j, W4.frozen? ⟨wv2.heap.size, j, none⟩ = false := rp.frozen
  have zp : wv2.heap.size < W4.heap.size := rp.lt
  clear hW4
  go_wp2_with fail
  have yqb : w.heap.size < W4.heap.size := by omega
  have yqc : w.heap.size + 1 < W4.heap.size := by omega
  have yqo : wv1.heap.size < W4.heap.size := by omega
  have yqp : wv2.heap.size < W4.heap.size := by omega
  replace kw : Below w.heap.size w (W4.alloc (.cells #[.int .i64 mA, .int .i64 mB, .int .i64 mG, .int .i64 tA, .int .i64 tB, .int .i64 tG] 31)) := by (repeat (first | with_reducible assumption | with_reducible exact Below.refl _ _ | with_reducible refine Below.drew ?_ | with_reducible refine below_drewN ?_ _ | with_reducible refine al ?_ _ | (with_reducible refine sc ?_ ?_; (focus (first | omega | (simp; done) | (simp; omega)))) | (with_reducible refine chain ?_ (by assumption))))
  replace rb : RowAt (W4.alloc (.cells #[.int .i64 mA, .int .i64 mB, .int .i64 mG, .int .i64 tA, .int .i64 tB, .int .i64 tG] 31)) (w.heap.size) #[.int .i64 x, .int .i64 y, .int .i64 z] 28 := (rb.alloc _)
  replace rc : RowAt (W4.alloc (.cells #[.int .i64 mA, .int .i64 mB, .int .i64 mG, .int .i64 tA, .int .i64 tB, .int .i64 tG] 31)) (w.heap.size + 1) #[.int .i64 u, .int .i64 v, .int .i64 t] 28 := (rc.alloc _)
  replace ro : RowAt (W4.alloc (.cells #[.int .i64 mA, .int .i64 mB, .int .i64 mG, .int .i64 tA, .int .i64 tB, .int .i64 tG] 31)) (wv1.heap.size) #[.int .i64 A, .int .i64 B, .int .i64 G] 28 := (ro.alloc _)
  replace rp : RowAt (W4.alloc (.cells #[.int .i64 mA, .int .i64 mB, .int .i64 mG, .int .i64 tA, .int .i64 tB, .int .i64 tG] 31)) (wv2.heap.size) #[.int .i64 D, .int .i64 E, .int .i64 H] 28 := (rp.alloc _)
  have rq : RowAt (W4.alloc (.cells #[.int .i64 mA, .int .i64 mB, .int .i64 mG, .int .i64 tA, .int .i64 tB, .int .i64 tG] 31)) (W4.heap.size) #[.int .i64 mA, .int .i64 mB, .int .i64 mG, .int .i64 tA, .int .i64 tB, .int .i64 tG] 31 := (RowAt.make _ _ _ (by first | rfl | (simp [World.setCell]; done)))
  clear cb fb zb cc fc zc co fo zo cp fp zp
  generalize (W4.alloc (.cells #[.int .i64 mA, .int .i64 mB, .int .i64 mG, .int .i64 tA, .int .i64 tB, .int .i64 tG] 31)) = W5 at *
  have cb : ∀ j, W5.cell? ⟨w.heap.size, j, none⟩ = (#[.int .i64 x, .int .i64 y, .int .i64 z] : Array Value)[j]? := rb.cell
  have fb : ∀ j, W5.frozen? ⟨w.heap.size, j, none⟩ = false := rb.frozen
  have zb : w.heap.size < W5.heap.size := rb.lt
  have cc : ∀ j, W5.cell? ⟨w.heap.size + 1, j, none⟩ = (#[.int .i64 u, .int .i64 v, .int .i64 t] : Array Value)[j]? := rc.cell
  have fc : ∀ j, W5.frozen? ⟨w.heap.size + 1, j, none⟩ = false := rc.frozen
  have zc : w.heap.size + 1 < W5.heap.size := rc.lt
  have co : ∀ j, W5.cell? ⟨wv1.heap.size, j, none⟩ = (#[.int .i64 A, .int .i64 B, .int .i64 G] : Array Value)[j]? := ro.cell
  have fo : ∀ j, W5.frozen? ⟨wv1.heap.size, j, none⟩ = false := ro.frozen
  have zo : wv1.heap.size < W5.heap.size := ro.lt
  have cp : ∀ j, W5.cell? ⟨wv2.heap.size, j, none⟩ = (#[.int .i64 D, .int .i64 E, .int .i64 H] : Array Value)[j]? := rp.cell
  have fp : ∀ j, W5.frozen? ⟨wv2.heap.size, j, none⟩ = false := rp.frozen
  have zp : wv2.heap.size < W5.heap.size := rp.lt
  have cq : ∀ j, W5.cell? ⟨W4.heap.size, j, none⟩ = (#[.int .i64 mA, .int .i64 mB, .int .i64 mG, .int .i64 tA, .int .i64 tB, .int .i64 tG] : Array Value)[j]? := rq.cell
  have fq : ∀ j, W5.frozen? ⟨W4.heap.size, j, none⟩ = false := rq.frozen
  have zq : W4.heap.size < W5.heap.size := rq.lt
  (refine (Hsp.out _).mono ?_; rintro e W6 ⟨rfl, hW6⟩)
  clear cb fb zb cc fc zc co fo zo cp fp zp cq fq zq
  replace rb := rb.keep hW6
  replace rc := rc.keep hW6
  replace ro := ro.keep hW6
  replace rp := rp.keep hW6
  replace rq := rq.keep hW6
  replace kw := kw.trans (hW6.mono kw.size)
  have cb : ∀ j, W6.cell? ⟨w.heap.size, j, none⟩ = (#[.int .i64 x, .int .i64 y, .int .i64 z] : Array Value)[j]? := rb.cell
  have fb : ∀ j, W6.frozen? ⟨w.heap.size, j, none⟩ = false := rb.frozen
  have zb : w.heap.size < W6.heap.size := rb.lt
  have cc : ∀ j, W6.cell? ⟨w.heap.size + 1, j, none⟩ = (#[.int .i64 u, .int .i64 v, .int .i64 t] : Array Value)[j]? := rc.cell
  have fc : ∀ j, W6.frozen? ⟨w.heap.size + 1, j, none⟩ = false := rc.frozen
  have zc : w.heap.size + 1 < W6.heap.size := rc.lt
  have co : ∀ j, W6.cell? ⟨wv1.heap.size, j, none⟩ = (#[.int .i64 A, .int .i64 B, .int .i64 G] : Array Value)[j]? := ro.cell
  have fo : ∀ j, W6.frozen? ⟨wv1.heap.size, j, none⟩ = false := ro.frozen
  have zo : wv1.heap.size < W6.heap.size := ro.lt
  have cp : ∀ j, W6.cell? ⟨wv2.heap.size, j, none⟩ = (#[.int .i64 D, .int .i64 E, .int .i64 H] : Array Value)[j]? := rp.cell
  have fp : ∀ j, W6.frozen? ⟨wv2.heap.size, j, none⟩ = false := rp.frozen
  have zp : wv2.heap.size < W6.heap.size := rp.lt
  have cq : ∀ j, W6.cell? ⟨W4.heap.size, j, none⟩ = (#[.int .i64 mA, .int .i64 mB, .int .i64 mG, .int .i64 tA, .int .i64 tB, .int .i64 tG] : Array Value)[j]? := rq.cell
  have fq : ∀ j, W6.frozen? ⟨W4.heap.size, j, none⟩ = false := rq.frozen
  have zq : W4.heap.size < W6.heap.size := rq.lt
  clear hW6
  go_wp2_with fail
  have ylb : w.heap.size < W6.heap.size := by omega
  have ylc : w.heap.size + 1 < W6.heap.size := by omega
  have ylo : wv1.heap.size < W6.heap.size := by omega
  have ylp : wv2.heap.size < W6.heap.size := by omega
  have ylq : W4.heap.size < W6.heap.size := by omega
  have ymb : w.heap.size < W6.heap.size + 1 := by omega
  have ymc : w.heap.size + 1 < W6.heap.size + 1 := by omega
  have ymo : wv1.heap.size < W6.heap.size + 1 := by omega
  have ymp : wv2.heap.size < W6.heap.size + 1 := by omega
  have ymq : W4.heap.size < W6.heap.size + 1 := by omega
  have yml : W6.heap.size < W6.heap.size + 1 := by omega
  replace kw : Below w.heap.size w ((W6.alloc (.cells #[.int .i64 A, .int .i64 B, .int .i64 G] 28)).alloc (.cells #[.int .i64 A, .int .i64 B, .int .i64 G] 28)) := by (repeat (first | with_reducible assumption | with_reducible exact Below.refl _ _ | with_reducible refine Below.drew ?_ | with_reducible refine below_drewN ?_ _ | with_reducible refine al ?_ _ | (with_reducible refine sc ?_ ?_; (focus (first | omega | (simp; done) | (simp; omega)))) | (with_reducible refine chain ?_ (by assumption))))
  replace rb : RowAt ((W6.alloc (.cells #[.int .i64 A, .int .i64 B, .int .i64 G] 28)).alloc (.cells #[.int .i64 A, .int .i64 B, .int .i64 G] 28)) (w.heap.size) #[.int .i64 x, .int .i64 y, .int .i64 z] 28 := ((rb.alloc _).alloc _)
  replace rc : RowAt ((W6.alloc (.cells #[.int .i64 A, .int .i64 B, .int .i64 G] 28)).alloc (.cells #[.int .i64 A, .int .i64 B, .int .i64 G] 28)) (w.heap.size + 1) #[.int .i64 u, .int .i64 v, .int .i64 t] 28 := ((rc.alloc _).alloc _)
  replace ro : RowAt ((W6.alloc (.cells #[.int .i64 A, .int .i64 B, .int .i64 G] 28)).alloc (.cells #[.int .i64 A, .int .i64 B, .int .i64 G] 28)) (wv1.heap.size) #[.int .i64 A, .int .i64 B, .int .i64 G] 28 := ((ro.alloc _).alloc _)
  replace rp : RowAt ((W6.alloc (.cells #[.int .i64 A, .int .i64 B, .int .i64 G] 28)).alloc (.cells #[.int .i64 A, .int .i64 B, .int .i64 G] 28)) (wv2.heap.size) #[.int .i64 D, .int .i64 E, .int .i64 H] 28 := ((rp.alloc _).alloc _)
  replace rq : RowAt ((W6.alloc (.cells #[.int .i64 A, .int .i64 B, .int .i64 G] 28)).alloc (.cells #[.int .i64 A, .int .i64 B, .int .i64 G] 28)) (W4.heap.size) #[.int .i64 mA, .int .i64 mB, .int .i64 mG, .int .i64 tA, .int .i64 tB, .int .i64 tG] 31 := ((rq.alloc _).alloc _)
  have rl : RowAt ((W6.alloc (.cells #[.int .i64 A, .int .i64 B, .int .i64 G] 28)).alloc (.cells #[.int .i64 A, .int .i64 B, .int .i64 G] 28)) (W6.heap.size) #[.int .i64 A, .int .i64 B, .int .i64 G] 28 := ((RowAt.make _ _ _ (by first | rfl | (simp [World.setCell]; done))).alloc _)
  have rm : RowAt ((W6.alloc (.cells #[.int .i64 A, .int .i64 B, .int .i64 G] 28)).alloc (.cells #[.int .i64 A, .int .i64 B, .int .i64 G] 28)) (W6.heap.size + 1) #[.int .i64 A, .int .i64 B, .int .i64 G] 28 := (RowAt.make _ _ _ (by first | rfl | (simp [World.setCell]; done)))
  clear cb fb zb cc fc zc co fo zo cp fp zp cq fq zq
  generalize ((W6.alloc (.cells #[.int .i64 A, .int .i64 B, .int .i64 G] 28)).alloc (.cells #[.int .i64 A, .int .i64 B, .int .i64 G] 28)) = W7 at *
  have cb : ∀ j, W7.cell? ⟨w.heap.size, j, none⟩ = (#[.int .i64 x, .int .i64 y, .int .i64 z] : Array Value)[j]? := rb.cell
  have fb : ∀ j, W7.frozen? ⟨w.heap.size, j, none⟩ = false := rb.frozen
  have zb : w.heap.size < W7.heap.size := rb.lt
  have cc : ∀ j, W7.cell? ⟨w.heap.size + 1, j, none⟩ = (#[.int .i64 u, .int .i64 v, .int .i64 t] : Array Value)[j]? := rc.cell
  have fc : ∀ j, W7.frozen? ⟨w.heap.size + 1, j, none⟩ = false := rc.frozen
  have zc : w.heap.size + 1 < W7.heap.size := rc.lt
  have co : ∀ j, W7.cell? ⟨wv1.heap.size, j, none⟩ = (#[.int .i64 A, .int .i64 B, .int .i64 G] : Array Value)[j]? := ro.cell
  have fo : ∀ j, W7.frozen? ⟨wv1.heap.size, j, none⟩ = false := ro.frozen
  have zo : wv1.heap.size < W7.heap.size := ro.lt
  have cp : ∀ j, W7.cell? ⟨wv2.heap.size, j, none⟩ = (#[.int .i64 D, .int .i64 E, .int .i64 H] : Array Value)[j]? := rp.cell
  have fp : ∀ j, W7.frozen? ⟨wv2.heap.size, j, none⟩ = false := rp.frozen
  have zp : wv2.heap.size < W7.heap.size := rp.lt
  have cq : ∀ j, W7.cell? ⟨W4.heap.size, j, none⟩ = (#[.int .i64 mA, .int .i64 mB, .int .i64 mG, .int .i64 tA, .int .i64 tB, .int .i64 tG] : Array Value)[j]? := rq.cell
  have fq : ∀ j, W7.frozen? ⟨W4.heap.size, j, none⟩ = false := rq.frozen
  have zq : W4.heap.size < W7.heap.size := rq.lt
  have cl : ∀ j, W7.cell? ⟨W6.heap.size, j, none⟩ = (#[.int .i64 A, .int .i64 B, .int .i64 G] : Array Value)[j]? := rl.cell
  have fl : ∀ j, W7.frozen? ⟨W6.heap.size, j, none⟩ = false := rl.frozen
  have zl : W6.heap.size < W7.heap.size := rl.lt
  have cm : ∀ j, W7.cell? ⟨W6.heap.size + 1, j, none⟩ = (#[.int .i64 A, .int .i64 B, .int .i64 G] : Array Value)[j]? := rm.cell
  have fm : ∀ j, W7.frozen? ⟨W6.heap.size + 1, j, none⟩ = false := rm.frozen
  have zm : W6.heap.size + 1 < W7.heap.size := rm.lt
  refine region_below 31 (by kernel_rfl) (by kernel_rfl) ?_
  simp only [List.take_succ_cons, List.take_zero, List.drop_succ_cons, List.drop_zero]
  repeat (first | (refine' InText.skip (by rfl) ?_; simp only [Act.put, List.setIfInBounds_toArray, List.set_cons_zero, List.set_cons_succ]) | (refine' InText.val (by rfl) (fun wr hr => ?_) ?_; rotate_left 1; (focus (obtain ⟨hrc, hrf⟩ := bcell hr; (go_simp <;> with_reducible rfl); done)); simp only [Act.put, List.setIfInBounds_toArray, List.set_cons_zero, List.set_cons_succ]) | (refine' InText.call (by rfl) (fun wr hr => ?_) (fun wr hr => ?_) ?_; rotate_left 3; (focus ((go_simp <;> (first | with_reducible rfl | exact ⟨rfl, rfl⟩)); done)); (focus (first | with_reducible exact Hp1.out _ | with_reducible exact Hov.out _ | with_reducible exact Hcf.out _ | with_reducible exact l3_lives _)); simp only [Act.put, List.setIfInBounds_toArray, List.set_cons_zero, List.set_cons_succ]))
  refine fun wr hr => ?_
  obtain ⟨hrc, hrf⟩ := bcell hr
  go_wp2
  go_ret
  exact ⟨rfl, by (repeat (first | with_reducible assumption | with_reducible exact Below.refl _ _ | with_reducible refine Below.drew ?_ | with_reducible refine below_drewN ?_ _ | with_reducible refine al ?_ _ | (with_reducible refine sc ?_ ?_; (focus (first | omega | (simp; done) | (simp; omega)))) | (with_reducible refine chain ?_ (by assumption))))⟩
theorem own : ownKnob Try.prog.godebug = none := by kernel_rfl
set_option maxRecDepth 100000 in
theorem lifted (os : Os) (started : os.Started) (H : Type) (enc : TypeId × Value → H) :
    ReturnsInHanded {} Try.checked os 9 .any (Rows.cellApartSpec.pre6 enc Try.prog Try.f9 Rows.cellApartRow.domain false) (Rows.cellApartSpec.post enc Try.prog Try.f9 false true false false) := by
  refine returnsInHanded_of_change (C := Try.checked) own started (by kernel_rfl) Try.func9
    (ChangeSpec.witness6 (enc := enc) (C := Try.checked) false ⟨#[], #[.agg #[.int .i64 0, .int .i64 0, .int .i64 0], .agg #[.int .i64 0, .int .i64 0, .int .i64 0]], []⟩ 8 (by kernel_rfl) (by kernel_rfl) (by kernel_rfl) (by kernel_rfl)) ?_
  intro W base args ds gs before hval0 hW hcnd _
  have hval : ∀ (j : Nat) t v, Try.f9.params[j]? = some t → args[j]? = some v → Value.okWide Try.prog W .any base t v := hval0
  have hW' := hW
  obtain ⟨p, q, hA0, hV, rfl, hfz, hnd⟩ := hW
  have hA : DataW.TrodAll enc Try.prog W 0 (fun _ => true) true Try.f9.params.toList args.toList ds p := hA0
  rw [Try.params9] at hA hval
  obtain ⟨v0, vs0, d0, ds0, p0, q0, hargs, rfl, rfl, h0, r0⟩ := trodAll_cons hA
  obtain ⟨v1, vs1, d1, ds1, p1, q1, rfl, rfl, rfl, h1, r1⟩ := trodAll_cons r0
  obtain ⟨rfl, rfl, rfl⟩ := trodAll_nil r1
  obtain rfl : args = #[v0, v1] := by cases args; simp_all
  obtain ⟨rfl, rfl⟩ := trodVars_none hV
  simp only [List.append_nil] at hW'
  have hlt : ∀ x ∈ p0 ++ (p1 ++ ([])), x.block < W.heap.size := fun x hx => hW'.lt x (by simpa using hx)
  have hlt0 : ∀ x ∈ p0, x.block < W.heap.size := fun x hx => hlt x (List.mem_append.2 (.inl hx))
  have hlt1 : ∀ x ∈ p1, x.block < W.heap.size := fun x hx => hlt x (List.mem_append.2 (.inr (List.mem_append.2 (.inl hx))))
  have k0 := h0
  have k1 := h1
  obtain ⟨a0, rfl, w0⟩ := open_cell (hval 0 28 v0 rfl rfl) h0
  obtain ⟨a1, rfl, w1⟩ := open_cell (hval 1 28 v1 rfl rfl) h1
  clear hA0 hval0
  refine (walk a0 w0 a1 w1 W).mono fun e W' ⟨he, hg⟩ => ?_
  subst he
  exact ⟨_, rfl, _, _, _, [], _, [], hW', (trodAll_cons_mk (shut_bool Try.underlying4 _) trodAll_mk0), (trodAll_cons_mk (Below.trod laidOut (by kernel_rfl) (of_decide_eq_true (by kernel_rfl)) k0 hg hlt0) (trodAll_cons_mk (Below.trod laidOut (by kernel_rfl) (of_decide_eq_true (by kernel_rfl)) k1 hg hlt1) trodAll_mk0)), rfl, hg.frame _, fun h => by cases h⟩
theorem over : Rows.cellApartRow.holds Try.pinned (OpenSpec.ofChange Rows.cellApartSpec) :=
  OpenClaim.holds_of_wide 9 Try.f9 rfl rfl rfl rfl rfl rfl rfl ⟨rfl, rfl, rfl, rfl, rfl⟩ rfl rfl rfl rfl rfl (by kernel_rfl) Try.func9 (by kernel_rfl)
    (of_decide_eq_true (by kernel_rfl)) (by unfold Func.isWrapper; first | (rw [if_pos (by decide +kernel)]; kernel_rfl) | (rw [if_neg (by decide +kernel)]; exact ⟨rfl, rfl⟩))
    (fun os started H enc _ => lifted os started H enc)
theorem proved : Rows.CellApartSaid := over
#print axioms proved
end Go.Proofs.Ytenpcmhfbbfpeaa.cellApart
