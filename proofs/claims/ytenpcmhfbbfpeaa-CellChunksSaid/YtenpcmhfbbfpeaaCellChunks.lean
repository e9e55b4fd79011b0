/- For every two cells the law CellChunks of layer 3 answers true: cells of one chunk have other indices, and neighbours are of its chunk, or one beside it. Conditions: none: every input. -/
import Derived.Test.YtenpcmhfbbfpeaaRows
import Derived.Test.YtenpcmhfbbfpeaaO02
import Derived.Test.YtenpcmhfbbfpeaaL03
import Derived.Test.YtenpcmhfbbfpeaaR33
import Derived.Test.YtenpcmhfbbfpeaaN03
import Derived.Test.YtenpcmhfbbfpeaaQ32
import Derived.Test.YtenpcmhfbbfpeaaS03
import Derived.Test.YtenpcmhfbbfpeaaS01
import Derived.Deep.DeepCutAuto
import Derived.WalkKit
import Derived.ProofKit
import Derived.OpenShut
import Derived.Below
import Derived.Carry
namespace Go.Proofs.Ytenpcmhfbbfpeaa.cellChunks
open Go.Proofs.Ytenpcmhfbbfpeaa Go.ChangeShapes Go.WideShapes Go.ChangeAt Go.RowKit
set_option linter.unusedVariables false
set_option linter.unusedSimpArgs false
attribute [local go_sem ↓] Go.wp_at_zero Go.wp_at_succ
set_option maxHeartbeats 32000000 in
theorem walk (a0 : V3) (w0 : a0.wf) (a1 : V3) (w1 : a1.wf) (w : World) :
    Calls Try.prog 10 #[a0.val, a1.val] w fun e w' => e = .returned (.bool true) ∧ Below w.heap.size w w' := by
  obtain ⟨x, y, z⟩ := a0
  obtain ⟨u, v, t⟩ := a1
  obtain ⟨wx, wy, wz⟩ := w0
  obtain ⟨wu, wv0, wt⟩ := w1
  have i45 : (Try.prog.info? 45).map (·.size) = some 18 := by kernel_rfl
  have i47 : (Try.prog.info? 47).map (·.size) = some 10 := by kernel_rfl
  have gx := fun k => r3_good x y z wx wy wz k
  have gy := fun k => r3_good u v t wu wv0 wt k
  have bA := around_bd x 81 (by omega)
  generalize aroundF x 81 = A0 at *
  obtain ⟨A, hA⟩ : ∃ d, A0 - 40 = d := ⟨_, rfl⟩
  have bB := around_bd y 32 (by omega)
  generalize aroundF y 32 = B0 at *
  obtain ⟨B, hB⟩ : ∃ d, B0 = d := ⟨_, rfl⟩
  have bC := around_bd z 81 (by omega)
  generalize aroundF z 81 = C0 at *
  obtain ⟨C, hC⟩ : ∃ d, C0 - 40 = d := ⟨_, rfl⟩
  have bD := around_bd u 81 (by omega)
  generalize aroundF u 81 = D0 at *
  obtain ⟨D, hD⟩ : ∃ d, D0 - 40 = d := ⟨_, rfl⟩
  have bE := around_bd v 32 (by omega)
  generalize aroundF v 32 = E0 at *
  obtain ⟨E, hE⟩ : ∃ d, E0 = d := ⟨_, rfl⟩
  have bF := around_bd t 81 (by omega)
  generalize aroundF t 81 = F0 at *
  obtain ⟨F, hF⟩ : ∃ d, F0 - 40 = d := ⟨_, rfl⟩
  have bA1 : -40 ≤ A ∧ A ≤ 40 := by omega
  have bB1 : 0 ≤ B ∧ B ≤ 31 := by omega
  have bC1 : -40 ≤ C ∧ C ≤ 40 := by omega
  have bD1 : -40 ≤ D ∧ D ≤ 40 := by omega
  have bE1 : 0 ≤ E ∧ E ≤ 31 := by omega
  have bF1 : -40 ≤ F ∧ F ≤ 40 := by omega
  rw [hA, hC] at gx
  rw [hD, hF] at gy
  subst hB hE
  clear hA hC hD hF bA bB bC bD bE bF wx wy wz wu wv0 wt
  have ix := fun k => c3_index A B0 C (by constructor <;> omega) (by constructor <;> omega) (by omega) (by omega) k
  have iy := fun k => c3_index D E0 F (by constructor <;> omega) (by constructor <;> omega) (by omega) (by omega) k
  have cx := fun k => c3_chunk A B0 C (by constructor <;> omega) (by constructor <;> omega) k
  have cy := fun k => c3_chunk D E0 F (by constructor <;> omega) (by constructor <;> omega) k
  have ways : eq2B (A / 16) (C / 16) (D / 16) (F / 16) = false ∨ (eq2B (A / 16) (C / 16) (D / 16) (F / 16) = true ∧ (idxF A B0 C == idxF D E0 F) = eq3B A B0 C D E0 F) := by
    by_cases h : A / 16 = D / 16 ∧ C / 16 = F / 16
    · right
      refine ⟨by simpa [eq2B] using h, ?_⟩
      rw [Bool.eq_iff_iff]; unfold eq3B idxF; simp only [beq_iff_eq, decide_eq_true_eq]; omega
    · left; simpa [eq2B] using h
  have nr := fun k => c3_near A B0 C k
  unfold nearV at nr
  rw [cellC_in (n := A) (by omega) (by omega), cellC_in (n := B0) (by omega) (by omega), cellC_in (n := C) (by omega) (by omega), cellC_in (n := A - 1) (by omega) (by omega), cellC_in (n := A + 1) (by omega) (by omega), cellC_in (n := B0 - 1) (by omega) (by omega), cellC_in (n := B0 + 1) (by omega) (by omega), cellC_in (n := C - 1) (by omega) (by omega), cellC_in (n := C + 1) (by omega) (by omega)] at nr
  have bs := fun k => c3_beside (A / 16) (C / 16) (by omega) (by omega) k
  unfold besideV at bs
  have q0 := fun k => c3_chunk (A - 1) (B0) (C) (by constructor <;> omega) (by constructor <;> omega) k
  have q1 := fun k => c3_chunk (A + 1) (B0) (C) (by constructor <;> omega) (by constructor <;> omega) k
  have q2 := fun k => c3_chunk (A) (B0 - 1) (C) (by constructor <;> omega) (by constructor <;> omega) k
  have q3 := fun k => c3_chunk (A) (B0 + 1) (C) (by constructor <;> omega) (by constructor <;> omega) k
  have q4 := fun k => c3_chunk (A) (B0) (C - 1) (by constructor <;> omega) (by constructor <;> omega) k
  have q5 := fun k => c3_chunk (A) (B0) (C + 1) (by constructor <;> omega) (by constructor <;> omega) k
  have d0 : (A - 1) / 16 = A / 16 ∨ (A - 1) / 16 = A / 16 - 1 := by omega
  have d1 : (A + 1) / 16 = A / 16 ∨ (A + 1) / 16 = A / 16 + 1 := by omega
  have d4 : (C - 1) / 16 = C / 16 ∨ (C - 1) / 16 = C / 16 - 1 := by omega
  have d5 : (C + 1) / 16 = C / 16 ∨ (C + 1) / 16 = C / 16 + 1 := by omega
  obtain ⟨eb, heb⟩ : ∃ eb, eq3B A B0 C D E0 F = eb := ⟨_, rfl⟩
  rw [heb] at ways
  obtain ⟨pe, hpe⟩ : ∃ eb, eq2B (A / 16) (C / 16) (D / 16) (F / 16) = eb := ⟨_, rfl⟩
  rw [hpe] at ways
  generalize idxF A B0 C = i at *
  generalize idxF D E0 F = j at *
  generalize (A - 1) / 16 = U0 at *
  generalize (A + 1) / 16 = U1 at *
  generalize (C - 1) / 16 = U4 at *
  generalize (C + 1) / 16 = U5 at *
  generalize A / 16 = P at *
  generalize C / 16 = Q at *
  generalize D / 16 = R at *
  generalize F / 16 = S at *
  generalize A - 1 = Am at *
  generalize A + 1 = Ap at *
  generalize B0 - 1 = Bm at *
  generalize B0 + 1 = Bp at *
  generalize C - 1 = Cm at *
  generalize C + 1 = Cp at *
  clear bA1 bB1 bC1 bD1 bE1 bF1
  have HW := Lib.hid ways
  clear ways
  have Z0 := Lib.hid d0
  clear d0
  have Z1 := Lib.hid d1
  clear d1
  have Z4 := Lib.hid d4
  clear d4
  have Z5 := Lib.hid d5
  clear d5
  have Hgx := Lib.hid gx
  have Hgy := Lib.hid gy
  have Hix := Lib.hid ix
  have Hiy := Lib.hid iy
  have Hcx := Lib.hid cx
  have Hcy := Lib.hid cy
  have Hnr := Lib.hid nr
  have Hbs := Lib.hid bs
  have Hq0 := Lib.hid q0
  have Hq1 := Lib.hid q1
  have Hq2 := Lib.hid q2
  have Hq3 := Lib.hid q3
  have Hq4 := Lib.hid q4
  have Hq5 := Lib.hid q5
  clear gx gy ix iy cx cy nr bs q0 q1 q2 q3 q4 q5
  go_enter Try.func10, Try.ntmps10
  go_wp2_with fail
  have rb : RowAt (w.alloc (.cells #[.int .i64 x, .int .i64 y, .int .i64 z] 28)) (w.heap.size) #[.int .i64 x, .int .i64 y, .int .i64 z] 28 := RowAt.make _ _ _ (by simp)
  have rb : RowAt ((w.alloc (.cells #[.int .i64 x, .int .i64 y, .int .i64 z] 28)).alloc (.cells #[.int .i64 u, .int .i64 v, .int .i64 t] 28)) (w.heap.size) #[.int .i64 x, .int .i64 y, .int .i64 z] 28 := rb.alloc _
  have rc : RowAt ((w.alloc (.cells #[.int .i64 x, .int .i64 y, .int .i64 z] 28)).alloc (.cells #[.int .i64 u, .int .i64 v, .int .i64 t] 28)) (w.heap.size + 1) #[.int .i64 u, .int .i64 v, .int .i64 t] 28 := RowAt.make _ _ _ (by simp)
  have kw : Below w.heap.size w ((w.alloc (.cells #[.int .i64 x, .int .i64 y, .int .i64 z] 28)).alloc (.cells #[.int .i64 u, .int .i64 v, .int .i64 t] 28)) := by (repeat (first | with_reducible assumption | with_reducible exact Below.refl _ _ | with_reducible refine Below.drew ?_ | with_reducible refine below_drewN ?_ _ | with_reducible refine al ?_ _ | (with_reducible refine sc ?_ ?_; (focus (first | omega | (simp; done) | (simp; omega)))) | (with_reducible refine chain ?_ (by assumption))))
  generalize ((w.alloc (.cells #[.int .i64 x, .int .i64 y, .int .i64 z] 28)).alloc (.cells #[.int .i64 u, .int .i64 v, .int .i64 t] 28)) = W1 at *
  have cb : ∀ j, W1.cell? ⟨w.heap.size, j, none⟩ = (#[.int .i64 x, .int .i64 y, .int .i64 z] : Array Value)[j]? := rb.cell
  have fb : ∀ j, W1.frozen? ⟨w.heap.size, j, none⟩ = false := rb.frozen
  have zb : w.heap.size < W1.heap.size := rb.lt
  have cc : ∀ j, W1.cell? ⟨w.heap.size + 1, j, none⟩ = (#[.int .i64 u, .int .i64 v, .int .i64 t] : Array Value)[j]? := rc.cell
  have fc : ∀ j, W1.frozen? ⟨w.heap.size + 1, j, none⟩ = false := rc.frozen
  have zc : w.heap.size + 1 < W1.heap.size := rc.lt
  (refine (Hgx.out _).mono ?_; rintro e W2 ⟨rfl, hW2⟩)
  clear cb fb zb cc fc zc
  replace rb := rb.keep hW2
  replace rc := rc.keep hW2
  replace kw := kw.trans (hW2.mono kw.size)
  have cb : ∀ j, W2.cell? ⟨w.heap.size, j, none⟩ = (#[.int .i64 x, .int .i64 y, .int .i64 z] : Array Value)[j]? := rb.cell
  have fb : ∀ j, W2.frozen? ⟨w.heap.size, j, none⟩ = false := rb.frozen
  have zb : w.heap.size < W2.heap.size := rb.lt
  have cc : ∀ j, W2.cell? ⟨w.heap.size + 1, j, none⟩ = (#[.int .i64 u, .int .i64 v, .int .i64 t] : Array Value)[j]? := rc.cell
  have fc : ∀ j, W2.frozen? ⟨w.heap.size + 1, j, none⟩ = false := rc.frozen
  have zc : w.heap.size + 1 < W2.heap.size := rc.lt
  clear hW2
  go_wp2_with fail
  have yxb : w.heap.size < W2.heap.size := by omega
  have yxc : w.heap.size + 1 < W2.heap.size := by omega
  replace kw : Below w.heap.size w (W2.alloc (.cells #[.int .i64 A, .int .i64 B0, .int .i64 C] 28)) := by (repeat (first | with_reducible assumption | with_reducible exact Below.refl _ _ | with_reducible refine Below.drew ?_ | with_reducible refine below_drewN ?_ _ | with_reducible refine al ?_ _ | (with_reducible refine sc ?_ ?_; (focus (first | omega | (simp; done) | (simp; omega)))) | (with_reducible refine chain ?_ (by assumption))))
  replace rb : RowAt (W2.alloc (.cells #[.int .i64 A, .int .i64 B0, .int .i64 C] 28)) (w.heap.size) #[.int .i64 x, .int .i64 y, .int .i64 z] 28 := (rb.alloc _)
  replace rc : RowAt (W2.alloc (.cells #[.int .i64 A, .int .i64 B0, .int .i64 C] 28)) (w.heap.size + 1) #[.int .i64 u, .int .i64 v, .int .i64 t] 28 := (rc.alloc _)
  have rx : RowAt (W2.alloc (.cells #[.int .i64 A, .int .i64 B0, .int .i64 C] 28)) (W2.heap.size) #[.int .i64 A, .int .i64 B0, .int .i64 C] 28 := (RowAt.make _ _ _ (by first | rfl | (simp [World.setCell]; done)))
  clear cb fb zb cc fc zc
  generalize (W2.alloc (.cells #[.int .i64 A, .int .i64 B0, .int .i64 C] 28)) = W3 at *
  have cb : ∀ j, W3.cell? ⟨w.heap.size, j, none⟩ = (#[.int .i64 x, .int .i64 y, .int .i64 z] : Array Value)[j]? := rb.cell
  have fb : ∀ j, W3.frozen? ⟨w.heap.size, j, none⟩ = false := rb.frozen
  have zb : w.heap.size < W3.heap.size := rb.lt
  have cc : ∀ j, W3.cell? ⟨w.heap.size + 1, j, none⟩ = (#[.int .i64 u, .int .i64 v, .int .i64 t] : Array Value)[j]? := rc.cell
  have fc : ∀ j, W3.frozen? ⟨w.heap.size + 1, j, none⟩ = false := rc.frozen
  have zc : w.heap.size + 1 < W3.heap.size := rc.lt
  have cx : ∀ j, W3.cell? ⟨W2.heap.size, j, none⟩ = (#[.int .i64 A, .int .i64 B0, .int .i64 C] : Array Value)[j]? := rx.cell
  have fx : ∀ j, W3.frozen? ⟨W2.heap.size, j, none⟩ = false := rx.frozen
  have zx : W2.heap.size < W3.heap.size := rx.lt
  (refine (Hgy.out _).mono ?_; rintro e W4 ⟨rfl, hW4⟩)
  clear cb fb zb cc fc zc cx fx zx
  replace rb := rb.keep hW4
  replace rc := rc.keep hW4
  replace rx := rx.keep hW4
  replace kw := kw.trans (hW4.mono kw.size)
  have cb : ∀ j, W4.cell? ⟨w.heap.size, j, none⟩ = (#[.int .i64 x, .int .i64 y, .int .i64 z] : Array Value)[j]? := rb.cell
  have fb : ∀ j, W4.frozen? ⟨w.heap.size, j, none⟩ = false := rb.frozen
  have zb : w.heap.size < W4.heap.size := rb.lt
  have cc : ∀ j, W4.cell? ⟨w.heap.size + 1, j, none⟩ = (#[.int .i64 u, .int .i64 v, .int .i64 t] : Array Value)[j]? := rc.cell
  have fc : ∀ j, W4.frozen? ⟨w.heap.size + 1, j, none⟩ = false := rc.frozen
  have zc : w.heap.size + 1 < W4.heap.size := rc.lt
  have cx : ∀ j, W4.cell? ⟨W2.heap.size, j, none⟩ = (#[.int .i64 A, .int .i64 B0, .int .i64 C] : Array Value)[j]? := rx.cell
  have fx : ∀ j, W4.frozen? ⟨W2.heap.size, j, none⟩ = false := rx.frozen
  have zx : W2.heap.size < W4.heap.size := rx.lt
  clear hW4
  go_wp2_with fail
  have yyb : w.heap.size < W4.heap.size := by omega
  have yyc : w.heap.size + 1 < W4.heap.size := by omega
  have yyx : W2.heap.size < W4.heap.size := by omega
  replace kw : Below w.heap.size w (W4.alloc (.cells #[.int .i64 D, .int .i64 E0, .int .i64 F] 28)) := by (repeat (first | with_reducible assumption | with_reducible exact Below.refl _ _ | with_reducible refine Below.drew ?_ | with_reducible refine below_drewN ?_ _ | with_reducible refine al ?_ _ | (with_reducible refine sc ?_ ?_; (focus (first | omega | (simp; done) | (simp; omega)))) | (with_reducible refine chain ?_ (by assumption))))
  replace rb : RowAt (W4.alloc (.cells #[.int .i64 D, .int .i64 E0, .int .i64 F] 28)) (w.heap.size) #[.int .i64 x, .int .i64 y, .int .i64 z] 28 := (rb.alloc _)
  replace rc : RowAt (W4.alloc (.cells #[.int .i64 D, .int .i64 E0, .int .i64 F] 28)) (w.heap.size + 1) #[.int .i64 u, .int .i64 v, .int .i64 t] 28 := (rc.alloc _)
  replace rx : RowAt (W4.alloc (.cells #[.int .i64 D, .int .i64 E0, .int .i64 F] 28)) (W2.heap.size) #[.int .i64 A, .int .i64 B0, .int .i64 C] 28 := (rx.alloc _)
  have ry : RowAt (W4.alloc (.cells #[.int .i64 D, .int .i64 E0, .int .i64 F] 28)) (W4.heap.size) #[.int .i64 D, .int .i64 E0, .int .i64 F] 28 := (RowAt.make _ _ _ (by first | rfl | (simp [World.setCell]; done)))
  clear cb fb zb cc fc zc cx fx zx
  generalize (W4.alloc (.cells #[.int .i64 D, .int .i64 E0, .int .i64 F] 28)) = W5 at *
  have cb : ∀ j, W5.cell? ⟨w.heap.size, j, none⟩ = (#[.int .i64 x, .int .i64 y, .int .i64 z] : Array Value)[j]? := rb.cell
  have fb : ∀ j, W5.frozen? ⟨w.heap.size, j, none⟩ = false := rb.frozen
  have zb : w.heap.size < W5.heap.size := rb.lt
  have cc : ∀ j, W5.cell? ⟨w.heap.size + 1, j, none⟩ = (#[.int .i64 u, .int .i64 v, .int .i64 t] : Array Value)[j]? := rc.cell
  have fc : ∀ j, W5.frozen? ⟨w.heap.size + 1, j, none⟩ = false := rc.frozen
  have zc : w.heap.size + 1 < W5.heap.size := rc.lt
  have cx : ∀ j, W5.cell? ⟨W2.heap.size, j, none⟩ = (#[.int .i64 A, .int .i64 B0, .int .i64 C] : Array Value)[j]? := rx.cell
  have fx : ∀ j, W5.frozen? ⟨W2.heap.size, j, none⟩ = false := rx.frozen
  have zx : W2.heap.size < W5.heap.size := rx.lt
  have cy : ∀ j, W5.cell? ⟨W4.heap.size, j, none⟩ = (#[.int .i64 D, .int .i64 E0, .int .i64 F] : Array Value)[j]? := ry.cell
  have fy : ∀ j, W5.frozen? ⟨W4.heap.size, j, none⟩ = false := ry.frozen
  have zy : W4.heap.size < W5.heap.size := ry.lt
  (refine (Hix.out _).mono ?_; rintro e W6 ⟨rfl, hW6⟩)
  clear cb fb zb cc fc zc cx fx zx cy fy zy
  replace rb := rb.keep hW6
  replace rc := rc.keep hW6
  replace rx := rx.keep hW6
  replace ry := ry.keep hW6
  replace kw := kw.trans (hW6.mono kw.size)
  have cb : ∀ j, W6.cell? ⟨w.heap.size, j, none⟩ = (#[.int .i64 x, .int .i64 y, .int .i64 z] : Array Value)[j]? := rb.cell
  have fb : ∀ j, W6.frozen? ⟨w.heap.size, j, none⟩ = false := rb.frozen
  have zb : w.heap.size < W6.heap.size := rb.lt
  have cc : ∀ j, W6.cell? ⟨w.heap.size + 1, j, none⟩ = (#[.int .i64 u, .int .i64 v, .int .i64 t] : Array Value)[j]? := rc.cell
  have fc : ∀ j, W6.frozen? ⟨w.heap.size + 1, j, none⟩ = false := rc.frozen
  have zc : w.heap.size + 1 < W6.heap.size := rc.lt
  have cx : ∀ j, W6.cell? ⟨W2.heap.size, j, none⟩ = (#[.int .i64 A, .int .i64 B0, .int .i64 C] : Array Value)[j]? := rx.cell
  have fx : ∀ j, W6.frozen? ⟨W2.heap.size, j, none⟩ = false := rx.frozen
  have zx : W2.heap.size < W6.heap.size := rx.lt
  have cy : ∀ j, W6.cell? ⟨W4.heap.size, j, none⟩ = (#[.int .i64 D, .int .i64 E0, .int .i64 F] : Array Value)[j]? := ry.cell
  have fy : ∀ j, W6.frozen? ⟨W4.heap.size, j, none⟩ = false := ry.frozen
  have zy : W4.heap.size < W6.heap.size := ry.lt
  clear hW6
  go_wp2_with fail
  (refine (Hiy.out _).mono ?_; rintro e W7 ⟨rfl, hW7⟩)
  clear cb fb zb cc fc zc cx fx zx cy fy zy
  replace rb := rb.keep hW7
  replace rc := rc.keep hW7
  replace rx := rx.keep hW7
  replace ry := ry.keep hW7
  replace kw := kw.trans (hW7.mono kw.size)
  have cb : ∀ j, W7.cell? ⟨w.heap.size, j, none⟩ = (#[.int .i64 x, .int .i64 y, .int .i64 z] : Array Value)[j]? := rb.cell
  have fb : ∀ j, W7.frozen? ⟨w.heap.size, j, none⟩ = false := rb.frozen
  have zb : w.heap.size < W7.heap.size := rb.lt
  have cc : ∀ j, W7.cell? ⟨w.heap.size + 1, j, none⟩ = (#[.int .i64 u, .int .i64 v, .int .i64 t] : Array Value)[j]? := rc.cell
  have fc : ∀ j, W7.frozen? ⟨w.heap.size + 1, j, none⟩ = false := rc.frozen
  have zc : w.heap.size + 1 < W7.heap.size := rc.lt
  have cx : ∀ j, W7.cell? ⟨W2.heap.size, j, none⟩ = (#[.int .i64 A, .int .i64 B0, .int .i64 C] : Array Value)[j]? := rx.cell
  have fx : ∀ j, W7.frozen? ⟨W2.heap.size, j, none⟩ = false := rx.frozen
  have zx : W2.heap.size < W7.heap.size := rx.lt
  have cy : ∀ j, W7.cell? ⟨W4.heap.size, j, none⟩ = (#[.int .i64 D, .int .i64 E0, .int .i64 F] : Array Value)[j]? := ry.cell
  have fy : ∀ j, W7.frozen? ⟨W4.heap.size, j, none⟩ = false := ry.frozen
  have zy : W4.heap.size < W7.heap.size := ry.lt
  clear hW7
  go_wp2_with fail
  (refine (Hcx.out _).mono ?_; rintro e W8 ⟨rfl, hW8⟩)
  clear cb fb zb cc fc zc cx fx zx cy fy zy
  replace rb := rb.keep hW8
  replace rc := rc.keep hW8
  replace rx := rx.keep hW8
  replace ry := ry.keep hW8
  replace kw := kw.trans (hW8.mono kw.size)
  have cb : ∀ j, W8.cell? ⟨w.heap.size, j, none⟩ = (#[.int .i64 x, .int .i64 y, .int .i64 z] : Array Value)[j]? := rb.cell
  have fb : ∀ j, W8.frozen? ⟨w.heap.size, j, none⟩ = false := rb.frozen
  have zb : w.heap.size < W8.heap.size := rb.lt
  have cc : ∀ j, W8.cell? ⟨w.heap.size + 1, j, none⟩ = (#[.int .i64 u, .int .i64 v, .int .i64 t] : Array Value)[j]? := rc.cell
  have fc : ∀ j, W8.frozen? ⟨w.heap.size + 1, j, none⟩ = false := rc.frozen
  have zc : w.heap.size + 1 < W8.heap.size := rc.lt
  have cx : ∀ j, W8.cell? ⟨W2.heap.size, j, none⟩ = (#[.int .i64 A, .int .i64 B0, .int .i64 C] : Array Value)[j]? := rx.cell
  have fx : ∀ j, W8.frozen? ⟨W2.heap.size, j, none⟩ = false := rx.frozen
  have zx : W2.heap.size < W8.heap.size := rx.lt
  have cy : ∀ j, W8.cell? ⟨W4.heap.size, j, none⟩ = (#[.int .i64 D, .int .i64 E0, .int .i64 F] : Array Value)[j]? := ry.cell
  have fy : ∀ j, W8.frozen? ⟨W4.heap.size, j, none⟩ = false := ry.frozen
  have zy : W4.heap.size < W8.heap.size := ry.lt
  clear hW8
  go_upto_region 6 with (fail)
  have ypb : w.heap.size < W8.heap.size := by omega
  have ypc : w.heap.size + 1 < W8.heap.size := by omega
  have ypx : W2.heap.size < W8.heap.size := by omega
  have ypy : W4.heap.size < W8.heap.size := by omega
  replace kw : Below w.heap.size w (W8.alloc (.cells #[.int .i64 P, .int .i64 Q] 38)) := by (repeat (first | with_reducible assumption | with_reducible exact Below.refl _ _ | with_reducible refine Below.drew ?_ | with_reducible refine below_drewN ?_ _ | with_reducible refine al ?_ _ | (with_reducible refine sc ?_ ?_; (focus (first | omega | (simp; done) | (simp; omega)))) | (with_reducible refine chain ?_ (by assumption))))
  replace rb : RowAt (W8.alloc (.cells #[.int .i64 P, .int .i64 Q] 38)) (w.heap.size) #[.int .i64 x, .int .i64 y, .int .i64 z] 28 := (rb.alloc _)
  replace rc : RowAt (W8.alloc (.cells #[.int .i64 P, .int .i64 Q] 38)) (w.heap.size + 1) #[.int .i64 u, .int .i64 v, .int .i64 t] 28 := (rc.alloc _)
  replace rx : RowAt (W8.alloc (.cells #[.int .i64 P, .int .i64 Q] 38)) (W2.heap.size) #[.int .i64 A, .int .i64 B0, .int .i64 C] 28 := (rx.alloc _)
  replace ry : RowAt (W8.alloc (.cells #[.int .i64 P, .int .i64 Q] 38)) (W4.heap.size) #[.int .i64 D, .int .i64 E0, .int .i64 F] 28 := (ry.alloc _)
  have rp : RowAt (W8.alloc (.cells #[.int .i64 P, .int .i64 Q] 38)) (W8.heap.size) #[.int .i64 P, .int .i64 Q] 38 := (RowAt.make _ _ _ (by first | rfl | (simp [World.setCell]; done)))
  clear cb fb zb cc fc zc cx fx zx cy fy zy
  generalize (W8.alloc (.cells #[.int .i64 P, .int .i64 Q] 38)) = W9 at *
  have cb : ∀ j, W9.cell? ⟨w.heap.size, j, none⟩ = (#[.int .i64 x, .int .i64 y, .int .i64 z] : Array Value)[j]? := rb.cell
  have fb : ∀ j, W9.frozen? ⟨w.heap.size, j, none⟩ = false := rb.frozen
  have zb : w.heap.size < W9.heap.size := rb.lt
  have cc : ∀ j, W9.cell? ⟨w.heap.size + 1, j, none⟩ = (#[.int .i64 u, .int .i64 v, .int .i64 t] : Array Value)[j]? := rc.cell
  have fc : ∀ j, W9.frozen? ⟨w.heap.size + 1, j, none⟩ = false := rc.frozen
  have zc : w.heap.size + 1 < W9.heap.size := rc.lt
  have cx : ∀ j, W9.cell? ⟨W2.heap.size, j, none⟩ = (#[.int .i64 A, .int .i64 B0, .int .i64 C] : Array Value)[j]? := rx.cell
  have fx : ∀ j, W9.frozen? ⟨W2.heap.size, j, none⟩ = false := rx.frozen
  have zx : W2.heap.size < W9.heap.size := rx.lt
  have cy : ∀ j, W9.cell? ⟨W4.heap.size, j, none⟩ = (#[.int .i64 D, .int .i64 E0, .int .i64 F] : Array Value)[j]? := ry.cell
  have fy : ∀ j, W9.frozen? ⟨W4.heap.size, j, none⟩ = false := ry.frozen
  have zy : W4.heap.size < W9.heap.size := ry.lt
  have cp : ∀ j, W9.cell? ⟨W8.heap.size, j, none⟩ = (#[.int .i64 P, .int .i64 Q] : Array Value)[j]? := rp.cell
  have fp : ∀ j, W9.frozen? ⟨W8.heap.size, j, none⟩ = false := rp.frozen
  have zp : W8.heap.size < W9.heap.size := rp.lt
  go_cut [54] (fun s wx => s = .bool false ∧ Below w.heap.size w wx ∧ RowAt wx (w.heap.size) #[.int .i64 x, .int .i64 y, .int .i64 z] 28 ∧ RowAt wx (w.heap.size + 1) #[.int .i64 u, .int .i64 v, .int .i64 t] 28 ∧ RowAt wx (W2.heap.size) #[.int .i64 A, .int .i64 B0, .int .i64 C] 28 ∧ RowAt wx (W4.heap.size) #[.int .i64 D, .int .i64 E0, .int .i64 F] 28 ∧ RowAt wx (W8.heap.size) #[.int .i64 P, .int .i64 Q] 38)
  case first =>
    have q3 := eq3c_run
    have q5 := eq2p_run
    rcases HW.out with rfl | ⟨rfl, he⟩
    · skip
      refine region_below 20 (by kernel_rfl) (by kernel_rfl) ?_
      simp only [List.take_succ_cons, List.take_zero, List.drop_succ_cons, List.drop_zero]
      repeat (first | (refine' InText.skip (by rfl) ?_; simp only [Act.put, List.setIfInBounds_toArray, List.set_cons_zero, List.set_cons_succ]) | (refine' InText.val (by rfl) (fun wr hr => ?_) ?_; rotate_left 1; (focus (obtain ⟨hrc, hrf⟩ := bcell hr; (go_simp <;> with_reducible rfl); done)); simp only [Act.put, List.setIfInBounds_toArray, List.set_cons_zero, List.set_cons_succ]) | (refine' InText.call (by rfl) (fun wr hr => ?_) (fun wr hr => ?_) ?_; rotate_left 3; (focus ((go_simp <;> (first | with_reducible rfl | exact ⟨rfl, rfl⟩)); done)); (focus (first | with_reducible exact Hcy.out _)); simp only [Act.put, List.setIfInBounds_toArray, List.set_cons_zero, List.set_cons_succ]))
      refine fun wrs hrs => ?_
      obtain ⟨hrcs, hrfs⟩ := bcell hrs
      clear cb fb zb cc fc zc cx fx zx cy fy zy cp fp zp
      replace rb := rb.keep hrs
      replace rc := rc.keep hrs
      replace rx := rx.keep hrs
      replace ry := ry.keep hrs
      replace rp := rp.keep hrs
      replace kw := kw.trans (hrs.mono kw.size)
      have cb : ∀ j, wrs.cell? ⟨w.heap.size, j, none⟩ = (#[.int .i64 x, .int .i64 y, .int .i64 z] : Array Value)[j]? := rb.cell
      have fb : ∀ j, wrs.frozen? ⟨w.heap.size, j, none⟩ = false := rb.frozen
      have zb : w.heap.size < wrs.heap.size := rb.lt
      have cc : ∀ j, wrs.cell? ⟨w.heap.size + 1, j, none⟩ = (#[.int .i64 u, .int .i64 v, .int .i64 t] : Array Value)[j]? := rc.cell
      have fc : ∀ j, wrs.frozen? ⟨w.heap.size + 1, j, none⟩ = false := rc.frozen
      have zc : w.heap.size + 1 < wrs.heap.size := rc.lt
      have cx : ∀ j, wrs.cell? ⟨W2.heap.size, j, none⟩ = (#[.int .i64 A, .int .i64 B0, .int .i64 C] : Array Value)[j]? := rx.cell
      have fx : ∀ j, wrs.frozen? ⟨W2.heap.size, j, none⟩ = false := rx.frozen
      have zx : W2.heap.size < wrs.heap.size := rx.lt
      have cy : ∀ j, wrs.cell? ⟨W4.heap.size, j, none⟩ = (#[.int .i64 D, .int .i64 E0, .int .i64 F] : Array Value)[j]? := ry.cell
      have fy : ∀ j, wrs.frozen? ⟨W4.heap.size, j, none⟩ = false := ry.frozen
      have zy : W4.heap.size < wrs.heap.size := ry.lt
      have cp : ∀ j, wrs.cell? ⟨W8.heap.size, j, none⟩ = (#[.int .i64 P, .int .i64 Q] : Array Value)[j]? := rp.cell
      have fp : ∀ j, wrs.frozen? ⟨W8.heap.size, j, none⟩ = false := rp.frozen
      have zp : W8.heap.size < wrs.heap.size := rp.lt
      go_wp2_with fail
      go_meet
      exact ⟨rfl, kw, rb, rc, rx, ry, rp⟩
    · skip
      refine region_below 20 (by kernel_rfl) (by kernel_rfl) ?_
      simp only [List.take_succ_cons, List.take_zero, List.drop_succ_cons, List.drop_zero]
      repeat (first | (refine' InText.skip (by rfl) ?_; simp only [Act.put, List.setIfInBounds_toArray, List.set_cons_zero, List.set_cons_succ]) | (refine' InText.val (by rfl) (fun wr hr => ?_) ?_; rotate_left 1; (focus (obtain ⟨hrc, hrf⟩ := bcell hr; (go_simp <;> with_reducible rfl); done)); simp only [Act.put, List.setIfInBounds_toArray, List.set_cons_zero, List.set_cons_succ]) | (refine' InText.call (by rfl) (fun wr hr => ?_) (fun wr hr => ?_) ?_; rotate_left 3; (focus ((go_simp <;> (first | with_reducible rfl | exact ⟨rfl, rfl⟩)); done)); (focus (first | with_reducible exact Hcy.out _)); simp only [Act.put, List.setIfInBounds_toArray, List.set_cons_zero, List.set_cons_succ]))
      refine fun wrs hrs => ?_
      obtain ⟨hrcs, hrfs⟩ := bcell hrs
      clear cb fb zb cc fc zc cx fx zx cy fy zy cp fp zp
      replace rb := rb.keep hrs
      replace rc := rc.keep hrs
      replace rx := rx.keep hrs
      replace ry := ry.keep hrs
      replace rp := rp.keep hrs
      replace kw := kw.trans (hrs.mono kw.size)
      have cb : ∀ j, wrs.cell? ⟨w.heap.size, j, none⟩ = (#[.int .i64 x, .int .i64 y, .int .i64 z] : Array Value)[j]? := rb.cell
      have fb : ∀ j, wrs.frozen? ⟨w.heap.size, j, none⟩ = false := rb.frozen
      have zb : w.heap.size < wrs.heap.size := rb.lt
      have cc : ∀ j, wrs.cell? ⟨w.heap.size + 1, j, none⟩ = (#[.int .i64 u, .int .i64 v, .int .i64 t] : Array Value)[j]? := rc.cell
      have fc : ∀ j, wrs.frozen? ⟨w.heap.size + 1, j, none⟩ = false := rc.frozen
      have zc : w.heap.size + 1 < wrs.heap.size := rc.lt
      have cx : ∀ j, wrs.cell? ⟨W2.heap.size, j, none⟩ = (#[.int .i64 A, .int .i64 B0, .int .i64 C] : Array Value)[j]? := rx.cell
      have fx : ∀ j, wrs.frozen? ⟨W2.heap.size, j, none⟩ = false := rx.frozen
      have zx : W2.heap.size < wrs.heap.size := rx.lt
      have cy : ∀ j, wrs.cell? ⟨W4.heap.size, j, none⟩ = (#[.int .i64 D, .int .i64 E0, .int .i64 F] : Array Value)[j]? := ry.cell
      have fy : ∀ j, wrs.frozen? ⟨W4.heap.size, j, none⟩ = false := ry.frozen
      have zy : W4.heap.size < wrs.heap.size := ry.lt
      have cp : ∀ j, wrs.cell? ⟨W8.heap.size, j, none⟩ = (#[.int .i64 P, .int .i64 Q] : Array Value)[j]? := rp.cell
      have fp : ∀ j, wrs.frozen? ⟨W8.heap.size, j, none⟩ = false := rp.frozen
      have zp : W8.heap.size < wrs.heap.size := rp.lt
      go_wp2_with fail
      go_meet
      exact ⟨rfl, kw, rb, rc, rx, ry, rp⟩
  case rest =>
    clear cb fb zb cc fc zc cx fx zx cy fy zy cp fp zp
    clear kw rb rc rx ry rp
    obtain ⟨rfl, kw, rb, rc, rx, ry, rp⟩ := hcut
    have cb : ∀ j, wc.cell? ⟨w.heap.size, j, none⟩ = (#[.int .i64 x, .int .i64 y, .int .i64 z] : Array Value)[j]? := rb.cell
    have fb : ∀ j, wc.frozen? ⟨w.heap.size, j, none⟩ = false := rb.frozen
    have zb : w.heap.size < wc.heap.size := rb.lt
    have cc : ∀ j, wc.cell? ⟨w.heap.size + 1, j, none⟩ = (#[.int .i64 u, .int .i64 v, .int .i64 t] : Array Value)[j]? := rc.cell
    have fc : ∀ j, wc.frozen? ⟨w.heap.size + 1, j, none⟩ = false := rc.frozen
    have zc : w.heap.size + 1 < wc.heap.size := rc.lt
    have cx : ∀ j, wc.cell? ⟨W2.heap.size, j, none⟩ = (#[.int .i64 A, .int .i64 B0, .int .i64 C] : Array Value)[j]? := rx.cell
    have fx : ∀ j, wc.frozen? ⟨W2.heap.size, j, none⟩ = false := rx.frozen
    have zx : W2.heap.size < wc.heap.size := rx.lt
    have cy : ∀ j, wc.cell? ⟨W4.heap.size, j, none⟩ = (#[.int .i64 D, .int .i64 E0, .int .i64 F] : Array Value)[j]? := ry.cell
    have fy : ∀ j, wc.frozen? ⟨W4.heap.size, j, none⟩ = false := ry.frozen
    have zy : W4.heap.size < wc.heap.size := ry.lt
    have cp : ∀ j, wc.cell? ⟨W8.heap.size, j, none⟩ = (#[.int .i64 P, .int .i64 Q] : Array Value)[j]? := rp.cell
    have fp : ∀ j, wc.frozen? ⟨W8.heap.size, j, none⟩ = false := rp.frozen
    have zp : W8.heap.size < wc.heap.size := rp.lt
    go_wp2_with fail
    clear rb cb fb zb
    clear rc cc fc zc
    clear ry cy fy zy
    (refine (Hnr.out _).mono ?_; rintro e W31 ⟨rfl, hW31⟩)
    clear cx fx zx cp fp zp
    replace rx := rx.keep hW31
    replace rp := rp.keep hW31
    replace kw := kw.trans (hW31.mono kw.size)
    have cx : ∀ j, W31.cell? ⟨W2.heap.size, j, none⟩ = (#[.int .i64 A, .int .i64 B0, .int .i64 C] : Array Value)[j]? := rx.cell
    have fx : ∀ j, W31.frozen? ⟨W2.heap.size, j, none⟩ = false := rx.frozen
    have zx : W2.heap.size < W31.heap.size := rx.lt
    have cp : ∀ j, W31.cell? ⟨W8.heap.size, j, none⟩ = (#[.int .i64 P, .int .i64 Q] : Array Value)[j]? := rp.cell
    have fp : ∀ j, W31.frozen? ⟨W8.heap.size, j, none⟩ = false := rp.frozen
    have zp : W8.heap.size < W31.heap.size := rp.lt
    clear hW31
    have rnew : RowAt (W31.alloc (.cells #[.int .i64 0, .int .i64 0, .int .i64 0, .int .i64 0, .int .i64 0, .int .i64 0, .int .i64 0, .int .i64 0, .int .i64 0, .int .i64 0, .int .i64 0, .int .i64 0, .int .i64 0, .int .i64 0, .int .i64 0, .int .i64 0, .int .i64 0, .int .i64 0] 45)) W31.heap.size #[.int .i64 0, .int .i64 0, .int .i64 0, .int .i64 0, .int .i64 0, .int .i64 0, .int .i64 0, .int .i64 0, .int .i64 0, .int .i64 0, .int .i64 0, .int .i64 0, .int .i64 0, .int .i64 0, .int .i64 0, .int .i64 0, .int .i64 0, .int .i64 0] 45 := RowAt.new _ _ _
    go_upto_region 9 with (refine wpList_store_row rfl 45 _ _ rfl W31.heap.size #[.int .i64 Am, .int .i64 B0, .int .i64 C, .int .i64 Ap, .int .i64 B0, .int .i64 C, .int .i64 A, .int .i64 Bm, .int .i64 C, .int .i64 A, .int .i64 Bp, .int .i64 C, .int .i64 A, .int .i64 B0, .int .i64 Cm, .int .i64 A, .int .i64 B0, .int .i64 Cp] rfl rfl _ _ rnew i45 rfl (by simp [Value.oneCell']) ?_)
    have ynx : W2.heap.size < W31.heap.size := zx
    have ynp : W8.heap.size < W31.heap.size := zp
    replace kw : Below w.heap.size w ((W31.alloc (.cells #[.int .i64 0, .int .i64 0, .int .i64 0, .int .i64 0, .int .i64 0, .int .i64 0, .int .i64 0, .int .i64 0, .int .i64 0, .int .i64 0, .int .i64 0, .int .i64 0, .int .i64 0, .int .i64 0, .int .i64 0, .int .i64 0, .int .i64 0, .int .i64 0] 45)).setRow W31.heap.size #[.int .i64 Am, .int .i64 B0, .int .i64 C, .int .i64 Ap, .int .i64 B0, .int .i64 C, .int .i64 A, .int .i64 Bm, .int .i64 C, .int .i64 A, .int .i64 Bp, .int .i64 C, .int .i64 A, .int .i64 B0, .int .i64 Cm, .int .i64 A, .int .i64 B0, .int .i64 Cp]) := below_setRow (al kw _) kw.size _
    replace rx : RowAt ((W31.alloc (.cells #[.int .i64 0, .int .i64 0, .int .i64 0, .int .i64 0, .int .i64 0, .int .i64 0, .int .i64 0, .int .i64 0, .int .i64 0, .int .i64 0, .int .i64 0, .int .i64 0, .int .i64 0, .int .i64 0, .int .i64 0, .int .i64 0, .int .i64 0, .int .i64 0] 45)).setRow W31.heap.size #[.int .i64 Am, .int .i64 B0, .int .i64 C, .int .i64 Ap, .int .i64 B0, .int .i64 C, .int .i64 A, .int .i64 Bm, .int .i64 C, .int .i64 A, .int .i64 Bp, .int .i64 C, .int .i64 A, .int .i64 B0, .int .i64 Cm, .int .i64 A, .int .i64 B0, .int .i64 Cp]) (W2.heap.size) #[.int .i64 A, .int .i64 B0, .int .i64 C] 28 := (rx.alloc _).row_other (Nat.ne_of_lt ynx) _
    replace rp : RowAt ((W31.alloc (.cells #[.int .i64 0, .int .i64 0, .int .i64 0, .int .i64 0, .int .i64 0, .int .i64 0, .int .i64 0, .int .i64 0, .int .i64 0, .int .i64 0, .int .i64 0, .int .i64 0, .int .i64 0, .int .i64 0, .int .i64 0, .int .i64 0, .int .i64 0, .int .i64 0] 45)).setRow W31.heap.size #[.int .i64 Am, .int .i64 B0, .int .i64 C, .int .i64 Ap, .int .i64 B0, .int .i64 C, .int .i64 A, .int .i64 Bm, .int .i64 C, .int .i64 A, .int .i64 Bp, .int .i64 C, .int .i64 A, .int .i64 B0, .int .i64 Cm, .int .i64 A, .int .i64 B0, .int .i64 Cp]) (W8.heap.size) #[.int .i64 P, .int .i64 Q] 38 := (rp.alloc _).row_other (Nat.ne_of_lt ynp) _
    clear cx fx zx cp fp zp
    have rn : RowAt ((W31.alloc (.cells #[.int .i64 0, .int .i64 0, .int .i64 0, .int .i64 0, .int .i64 0, .int .i64 0, .int .i64 0, .int .i64 0, .int .i64 0, .int .i64 0, .int .i64 0, .int .i64 0, .int .i64 0, .int .i64 0, .int .i64 0, .int .i64 0, .int .i64 0, .int .i64 0] 45)).setRow W31.heap.size #[.int .i64 Am, .int .i64 B0, .int .i64 C, .int .i64 Ap, .int .i64 B0, .int .i64 C, .int .i64 A, .int .i64 Bm, .int .i64 C, .int .i64 A, .int .i64 Bp, .int .i64 C, .int .i64 A, .int .i64 B0, .int .i64 Cm, .int .i64 A, .int .i64 B0, .int .i64 Cp]) (W31.heap.size) #[.int .i64 Am, .int .i64 B0, .int .i64 C, .int .i64 Ap, .int .i64 B0, .int .i64 C, .int .i64 A, .int .i64 Bm, .int .i64 C, .int .i64 A, .int .i64 Bp, .int .i64 C, .int .i64 A, .int .i64 B0, .int .i64 Cm, .int .i64 A, .int .i64 B0, .int .i64 Cp] 45 := rnew.row _
    clear rnew
    generalize ((W31.alloc (.cells #[.int .i64 0, .int .i64 0, .int .i64 0, .int .i64 0, .int .i64 0, .int .i64 0, .int .i64 0, .int .i64 0, .int .i64 0, .int .i64 0, .int .i64 0, .int .i64 0, .int .i64 0, .int .i64 0, .int .i64 0, .int .i64 0, .int .i64 0, .int .i64 0] 45)).setRow W31.heap.size #[.int .i64 Am, .int .i64 B0, .int .i64 C, .int .i64 Ap, .int .i64 B0, .int .i64 C, .int .i64 A, .int .i64 Bm, .int .i64 C, .int .i64 A, .int .i64 Bp, .int .i64 C, .int .i64 A, .int .i64 B0, .int .i64 Cm, .int .i64 A, .int .i64 B0, .int .i64 Cp]) = W32 at *
    have cx : ∀ j, W32.cell? ⟨W2.heap.size, j, none⟩ = (#[.int .i64 A, .int .i64 B0, .int .i64 C] : Array Value)[j]? := rx.cell
    have fx : ∀ j, W32.frozen? ⟨W2.heap.size, j, none⟩ = false := rx.frozen
    have zx : W2.heap.size < W32.heap.size := rx.lt
    have cp : ∀ j, W32.cell? ⟨W8.heap.size, j, none⟩ = (#[.int .i64 P, .int .i64 Q] : Array Value)[j]? := rp.cell
    have fp : ∀ j, W32.frozen? ⟨W8.heap.size, j, none⟩ = false := rp.frozen
    have zp : W8.heap.size < W32.heap.size := rp.lt
    have cn : ∀ j, W32.cell? ⟨W31.heap.size, j, none⟩ = (#[.int .i64 Am, .int .i64 B0, .int .i64 C, .int .i64 Ap, .int .i64 B0, .int .i64 C, .int .i64 A, .int .i64 Bm, .int .i64 C, .int .i64 A, .int .i64 Bp, .int .i64 C, .int .i64 A, .int .i64 B0, .int .i64 Cm, .int .i64 A, .int .i64 B0, .int .i64 Cp] : Array Value)[j]? := rn.cell
    have fn : ∀ j, W32.frozen? ⟨W31.heap.size, j, none⟩ = false := rn.frozen
    have zn : W31.heap.size < W32.heap.size := rn.lt
    go_wp2_with fail
    (refine (Hbs.out _).mono ?_; rintro e W33 ⟨rfl, hW33⟩)
    clear cx fx zx cp fp zp cn fn zn
    replace rx := rx.keep hW33
    replace rp := rp.keep hW33
    replace rn := rn.keep hW33
    replace kw := kw.trans (hW33.mono kw.size)
    have cx : ∀ j, W33.cell? ⟨W2.heap.size, j, none⟩ = (#[.int .i64 A, .int .i64 B0, .int .i64 C] : Array Value)[j]? := rx.cell
    have fx : ∀ j, W33.frozen? ⟨W2.heap.size, j, none⟩ = false := rx.frozen
    have zx : W2.heap.size < W33.heap.size := rx.lt
    have cp : ∀ j, W33.cell? ⟨W8.heap.size, j, none⟩ = (#[.int .i64 P, .int .i64 Q] : Array Value)[j]? := rp.cell
    have fp : ∀ j, W33.frozen? ⟨W8.heap.size, j, none⟩ = false := rp.frozen
    have zp : W8.heap.size < W33.heap.size := rp.lt
    have cn : ∀ j, W33.cell? ⟨W31.heap.size, j, none⟩ = (#[.int .i64 Am, .int .i64 B0, .int .i64 C, .int .i64 Ap, .int .i64 B0, .int .i64 C, .int .i64 A, .int .i64 Bm, .int .i64 C, .int .i64 A, .int .i64 Bp, .int .i64 C, .int .i64 A, .int .i64 B0, .int .i64 Cm, .int .i64 A, .int .i64 B0, .int .i64 Cp] : Array Value)[j]? := rn.cell
    have fn : ∀ j, W33.frozen? ⟨W31.heap.size, j, none⟩ = false := rn.frozen
    have zn : W31.heap.size < W33.heap.size := rn.lt
    clear hW33
    have rnew : RowAt (W33.alloc (.cells #[.int .i64 0, .int .i64 0, .int .i64 0, .int .i64 0, .int .i64 0, .int .i64 0, .int .i64 0, .int .i64 0, .int .i64 0, .int .i64 0] 47)) W33.heap.size #[.int .i64 0, .int .i64 0, .int .i64 0, .int .i64 0, .int .i64 0, .int .i64 0, .int .i64 0, .int .i64 0, .int .i64 0, .int .i64 0] 47 := RowAt.new _ _ _
    go_upto_region 10 with (refine wpList_store_row rfl 47 _ _ rfl W33.heap.size #[.int .i64 P, .int .i64 Q, .int .i64 (P - 1), .int .i64 Q, .int .i64 (P + 1), .int .i64 Q, .int .i64 P, .int .i64 (Q - 1), .int .i64 P, .int .i64 (Q + 1)] rfl rfl _ _ rnew i47 rfl (by simp [Value.oneCell']) ?_)
    have ysx : W2.heap.size < W33.heap.size := zx
    have ysp : W8.heap.size < W33.heap.size := zp
    have ysn : W31.heap.size < W33.heap.size := zn
    replace kw : Below w.heap.size w ((W33.alloc (.cells #[.int .i64 0, .int .i64 0, .int .i64 0, .int .i64 0, .int .i64 0, .int .i64 0, .int .i64 0, .int .i64 0, .int .i64 0, .int .i64 0] 47)).setRow W33.heap.size #[.int .i64 P, .int .i64 Q, .int .i64 (P - 1), .int .i64 Q, .int .i64 (P + 1), .int .i64 Q, .int .i64 P, .int .i64 (Q - 1), .int .i64 P, .int .i64 (Q + 1)]) := below_setRow (al kw _) kw.size _
    replace rx : RowAt ((W33.alloc (.cells #[.int .i64 0, .int .i64 0, .int .i64 0, .int .i64 0, .int .i64 0, .int .i64 0, .int .i64 0, .int .i64 0, .int .i64 0, .int .i64 0] 47)).setRow W33.heap.size #[.int .i64 P, .int .i64 Q, .int .i64 (P - 1), .int .i64 Q, .int .i64 (P + 1), .int .i64 Q, .int .i64 P, .int .i64 (Q - 1), .int .i64 P, .int .i64 (Q + 1)]) (W2.heap.size) #[.int .i64 A, .int .i64 B0, .int .i64 C] 28 := (rx.alloc _).row_other (Nat.ne_of_lt ysx) _
    replace rp : RowAt ((W33.alloc (.cells #[.int .i64 0, .int .i64 0, .int .i64 0, .int .i64 0, .int .i64 0, .int .i64 0, .int .i64 0, .int .i64 0, .int .i64 0, .int .i64 0] 47)).setRow W33.heap.size #[.int .i64 P, .int .i64 Q, .int .i64 (P - 1), .int .i64 Q, .int .i64 (P + 1), .int .i64 Q, .int .i64 P, .int .i64 (Q - 1), .int .i64 P, .int .i64 (Q + 1)]) (W8.heap.size) #[.int .i64 P, .int .i64 Q] 38 := (rp.alloc _).row_other (Nat.ne_of_lt ysp) _
    replace rn : RowAt ((W33.alloc (.cells #[.int .i64 0, .int .i64 0, .int .i64 0, .int .i64 0, .int .i64 0, .int .i64 0, .int .i64 0, .int .i64 0, .int .i64 0, .int .i64 0] 47)).setRow W33.heap.size #[.int .i64 P, .int .i64 Q, .int .i64 (P - 1), .int .i64 Q, .int .i64 (P + 1), .int .i64 Q, .int .i64 P, .int .i64 (Q - 1), .int .i64 P, .int .i64 (Q + 1)]) (W31.heap.size) #[.int .i64 Am, .int .i64 B0, .int .i64 C, .int .i64 Ap, .int .i64 B0, .int .i64 C, .int .i64 A, .int .i64 Bm, .int .i64 C, .int .i64 A, .int .i64 Bp, .int .i64 C, .int .i64 A, .int .i64 B0, .int .i64 Cm, .int .i64 A, .int .i64 B0, .int .i64 Cp] 45 := (rn.alloc _).row_other (Nat.ne_of_lt ysn) _
    clear cx fx zx cp fp zp cn fn zn
    have rs : RowAt ((W33.alloc (.cells #[.int .i64 0, .int .i64 0, .int .i64 0, .int .i64 0, .int .i64 0, .int .i64 0, .int .i64 0, .int .i64 0, .int .i64 0, .int .i64 0] 47)).setRow W33.heap.size #[.int .i64 P, .int .i64 Q, .int .i64 (P - 1), .int .i64 Q, .int .i64 (P + 1), .int .i64 Q, .int .i64 P, .int .i64 (Q - 1), .int .i64 P, .int .i64 (Q + 1)]) (W33.heap.size) #[.int .i64 P, .int .i64 Q, .int .i64 (P - 1), .int .i64 Q, .int .i64 (P + 1), .int .i64 Q, .int .i64 P, .int .i64 (Q - 1), .int .i64 P, .int .i64 (Q + 1)] 47 := rnew.row _
    clear rnew
    generalize ((W33.alloc (.cells #[.int .i64 0, .int .i64 0, .int .i64 0, .int .i64 0, .int .i64 0, .int .i64 0, .int .i64 0, .int .i64 0, .int .i64 0, .int .i64 0] 47)).setRow W33.heap.size #[.int .i64 P, .int .i64 Q, .int .i64 (P - 1), .int .i64 Q, .int .i64 (P + 1), .int .i64 Q, .int .i64 P, .int .i64 (Q - 1), .int .i64 P, .int .i64 (Q + 1)]) = W34 at *
    have cx : ∀ j, W34.cell? ⟨W2.heap.size, j, none⟩ = (#[.int .i64 A, .int .i64 B0, .int .i64 C] : Array Value)[j]? := rx.cell
    have fx : ∀ j, W34.frozen? ⟨W2.heap.size, j, none⟩ = false := rx.frozen
    have zx : W2.heap.size < W34.heap.size := rx.lt
    have cp : ∀ j, W34.cell? ⟨W8.heap.size, j, none⟩ = (#[.int .i64 P, .int .i64 Q] : Array Value)[j]? := rp.cell
    have fp : ∀ j, W34.frozen? ⟨W8.heap.size, j, none⟩ = false := rp.frozen
    have zp : W8.heap.size < W34.heap.size := rp.lt
    have cn : ∀ j, W34.cell? ⟨W31.heap.size, j, none⟩ = (#[.int .i64 Am, .int .i64 B0, .int .i64 C, .int .i64 Ap, .int .i64 B0, .int .i64 C, .int .i64 A, .int .i64 Bm, .int .i64 C, .int .i64 A, .int .i64 Bp, .int .i64 C, .int .i64 A, .int .i64 B0, .int .i64 Cm, .int .i64 A, .int .i64 B0, .int .i64 Cp] : Array Value)[j]? := rn.cell
    have fn : ∀ j, W34.frozen? ⟨W31.heap.size, j, none⟩ = false := rn.frozen
    have zn : W31.heap.size < W34.heap.size := rn.lt
    have cs : ∀ j, W34.cell? ⟨W33.heap.size, j, none⟩ = (#[.int .i64 P, .int .i64 Q, .int .i64 (P - 1), .int .i64 Q, .int .i64 (P + 1), .int .i64 Q, .int .i64 P, .int .i64 (Q - 1), .int .i64 P, .int .i64 (Q + 1)] : Array Value)[j]? := rs.cell
    have fs : ∀ j, W34.frozen? ⟨W33.heap.size, j, none⟩ = false := rs.frozen
    have zs : W33.heap.size < W34.heap.size := rs.lt
    go_wp2_with fail
    clear rx cx fx zx
    clear rp cp fp zp
    go_loopw [14] (fun i wr => ∃ k : Nat, k ≤ 6 ∧ i = .int .i64 k ∧ Below w.heap.size w wr ∧ RowAt wr (W31.heap.size) #[.int .i64 Am, .int .i64 B0, .int .i64 C, .int .i64 Ap, .int .i64 B0, .int .i64 C, .int .i64 A, .int .i64 Bm, .int .i64 C, .int .i64 A, .int .i64 Bp, .int .i64 C, .int .i64 A, .int .i64 B0, .int .i64 Cm, .int .i64 A, .int .i64 B0, .int .i64 Cp] 45 ∧ RowAt wr (W33.heap.size) #[.int .i64 P, .int .i64 Q, .int .i64 (P - 1), .int .i64 Q, .int .i64 (P + 1), .int .i64 Q, .int .i64 P, .int .i64 (Q - 1), .int .i64 P, .int .i64 (Q + 1)] 47) (fun i _ => 6 - (intOf i).toNat)
    case atStart =>
      exact ⟨0, by omega, rfl, kw, rn, rs⟩
    case round =>
      clear kw rn rs cn fn zn cs fs zs
      obtain ⟨k, hk, rfl, kw, rn, rs⟩ := hrel
      by_cases hlt : k < 6
      · rcases (show k = 0 ∨ k = 1 ∨ k = 2 ∨ k = 3 ∨ k = 4 ∨ k = 5 by omega) with rfl | rfl | rfl | rfl | rfl | rfl
        · have cn : ∀ j, wr.cell? ⟨W31.heap.size, j, none⟩ = (#[.int .i64 Am, .int .i64 B0, .int .i64 C, .int .i64 Ap, .int .i64 B0, .int .i64 C, .int .i64 A, .int .i64 Bm, .int .i64 C, .int .i64 A, .int .i64 Bp, .int .i64 C, .int .i64 A, .int .i64 B0, .int .i64 Cm, .int .i64 A, .int .i64 B0, .int .i64 Cp] : Array Value)[j]? := rn.cell
          have fn : ∀ j, wr.frozen? ⟨W31.heap.size, j, none⟩ = false := rn.frozen
          have zn : W31.heap.size < wr.heap.size := rn.lt
          have cs : ∀ j, wr.cell? ⟨W33.heap.size, j, none⟩ = (#[.int .i64 P, .int .i64 Q, .int .i64 (P - 1), .int .i64 Q, .int .i64 (P + 1), .int .i64 Q, .int .i64 P, .int .i64 (Q - 1), .int .i64 P, .int .i64 (Q + 1)] : Array Value)[j]? := rs.cell
          have fs : ∀ j, wr.frozen? ⟨W33.heap.size, j, none⟩ = false := rs.frozen
          have zs : W33.heap.size < wr.heap.size := rs.lt
          have q5 := eq2p_run
          rcases Z0.out with e0 | e0
          · have HQ := Hq0.out
            rw [e0] at HQ
            clear e0
            have HQQ := Lib.hid HQ
            clear HQ
            have v0 : eq2B (P) (Q) (P) (Q) = true := by simp [eq2B]
            go_wp2_with fail
            (refine (HQQ.out _).mono ?_; rintro e W41 ⟨rfl, hW41⟩)
            clear cn fn zn cs fs zs
            replace rn := rn.keep hW41
            replace rs := rs.keep hW41
            replace kw := kw.trans (hW41.mono kw.size)
            have cn : ∀ j, W41.cell? ⟨W31.heap.size, j, none⟩ = (#[.int .i64 Am, .int .i64 B0, .int .i64 C, .int .i64 Ap, .int .i64 B0, .int .i64 C, .int .i64 A, .int .i64 Bm, .int .i64 C, .int .i64 A, .int .i64 Bp, .int .i64 C, .int .i64 A, .int .i64 B0, .int .i64 Cm, .int .i64 A, .int .i64 B0, .int .i64 Cp] : Array Value)[j]? := rn.cell
            have fn : ∀ j, W41.frozen? ⟨W31.heap.size, j, none⟩ = false := rn.frozen
            have zn : W31.heap.size < W41.heap.size := rn.lt
            have cs : ∀ j, W41.cell? ⟨W33.heap.size, j, none⟩ = (#[.int .i64 P, .int .i64 Q, .int .i64 (P - 1), .int .i64 Q, .int .i64 (P + 1), .int .i64 Q, .int .i64 P, .int .i64 (Q - 1), .int .i64 P, .int .i64 (Q + 1)] : Array Value)[j]? := rs.cell
            have fs : ∀ j, W41.frozen? ⟨W33.heap.size, j, none⟩ = false := rs.frozen
            have zs : W33.heap.size < W41.heap.size := rs.lt
            clear hW41
            go_wp2_with fail
            have yqn : W31.heap.size < W41.heap.size := by omega
            have yqs : W33.heap.size < W41.heap.size := by omega
            replace kw : Below w.heap.size w (W41.alloc (.cells #[.int .i64 P, .int .i64 Q] 38)) := by (repeat (first | with_reducible assumption | with_reducible exact Below.refl _ _ | with_reducible refine Below.drew ?_ | with_reducible refine below_drewN ?_ _ | with_reducible refine al ?_ _ | (with_reducible refine sc ?_ ?_; (focus (first | omega | (simp; done) | (simp; omega)))) | (with_reducible refine chain ?_ (by assumption))))
            replace rn : RowAt (W41.alloc (.cells #[.int .i64 P, .int .i64 Q] 38)) (W31.heap.size) #[.int .i64 Am, .int .i64 B0, .int .i64 C, .int .i64 Ap, .int .i64 B0, .int .i64 C, .int .i64 A, .int .i64 Bm, .int .i64 C, .int .i64 A, .int .i64 Bp, .int .i64 C, .int .i64 A, .int .i64 B0, .int .i64 Cm, .int .i64 A, .int .i64 B0, .int .i64 Cp] 45 := (rn.alloc _)
            replace rs : RowAt (W41.alloc (.cells #[.int .i64 P, .int .i64 Q] 38)) (W33.heap.size) #[.int .i64 P, .int .i64 Q, .int .i64 (P - 1), .int .i64 Q, .int .i64 (P + 1), .int .i64 Q, .int .i64 P, .int .i64 (Q - 1), .int .i64 P, .int .i64 (Q + 1)] 47 := (rs.alloc _)
            have rq : RowAt (W41.alloc (.cells #[.int .i64 P, .int .i64 Q] 38)) (W41.heap.size) #[.int .i64 P, .int .i64 Q] 38 := (RowAt.make _ _ _ (by first | rfl | (simp [World.setCell]; done)))
            clear cn fn zn cs fs zs
            generalize (W41.alloc (.cells #[.int .i64 P, .int .i64 Q] 38)) = W42 at *
            have cn : ∀ j, W42.cell? ⟨W31.heap.size, j, none⟩ = (#[.int .i64 Am, .int .i64 B0, .int .i64 C, .int .i64 Ap, .int .i64 B0, .int .i64 C, .int .i64 A, .int .i64 Bm, .int .i64 C, .int .i64 A, .int .i64 Bp, .int .i64 C, .int .i64 A, .int .i64 B0, .int .i64 Cm, .int .i64 A, .int .i64 B0, .int .i64 Cp] : Array Value)[j]? := rn.cell
            have fn : ∀ j, W42.frozen? ⟨W31.heap.size, j, none⟩ = false := rn.frozen
            have zn : W31.heap.size < W42.heap.size := rn.lt
            have cs : ∀ j, W42.cell? ⟨W33.heap.size, j, none⟩ = (#[.int .i64 P, .int .i64 Q, .int .i64 (P - 1), .int .i64 Q, .int .i64 (P + 1), .int .i64 Q, .int .i64 P, .int .i64 (Q - 1), .int .i64 P, .int .i64 (Q + 1)] : Array Value)[j]? := rs.cell
            have fs : ∀ j, W42.frozen? ⟨W33.heap.size, j, none⟩ = false := rs.frozen
            have zs : W33.heap.size < W42.heap.size := rs.lt
            have cq : ∀ j, W42.cell? ⟨W41.heap.size, j, none⟩ = (#[.int .i64 P, .int .i64 Q] : Array Value)[j]? := rq.cell
            have fq : ∀ j, W42.frozen? ⟨W41.heap.size, j, none⟩ = false := rq.frozen
            have zq : W41.heap.size < W42.heap.size := rq.lt
            refine wp_loop_rounds 6 ?_
            rw [rounds_succ]
            go_wp2_with fail
            refine region_below 8 (by kernel_rfl) (by kernel_rfl) ?_
            simp only [List.take_succ_cons, List.take_zero, List.drop_succ_cons, List.drop_zero]
            repeat (first | (refine' InText.skip (by rfl) ?_; simp only [Act.put, List.setIfInBounds_toArray, List.set_cons_zero, List.set_cons_succ]) | (refine' InText.val (by rfl) (fun wr hr => ?_) ?_; rotate_left 1; (focus (obtain ⟨hrc, hrf⟩ := bcell hr; (go_simp <;> with_reducible rfl); done)); simp only [Act.put, List.setIfInBounds_toArray, List.set_cons_zero, List.set_cons_succ]))
            refine fun wrm0 hrm0 => ?_
            obtain ⟨hrcm0, hrfm0⟩ := bcell hrm0
            clear cn fn zn cs fs zs cq fq zq
            replace rn := rn.keep hrm0
            replace rs := rs.keep hrm0
            replace rq := rq.keep hrm0
            replace kw := kw.trans (hrm0.mono kw.size)
            have cn : ∀ j, wrm0.cell? ⟨W31.heap.size, j, none⟩ = (#[.int .i64 Am, .int .i64 B0, .int .i64 C, .int .i64 Ap, .int .i64 B0, .int .i64 C, .int .i64 A, .int .i64 Bm, .int .i64 C, .int .i64 A, .int .i64 Bp, .int .i64 C, .int .i64 A, .int .i64 B0, .int .i64 Cm, .int .i64 A, .int .i64 B0, .int .i64 Cp] : Array Value)[j]? := rn.cell
            have fn : ∀ j, wrm0.frozen? ⟨W31.heap.size, j, none⟩ = false := rn.frozen
            have zn : W31.heap.size < wrm0.heap.size := rn.lt
            have cs : ∀ j, wrm0.cell? ⟨W33.heap.size, j, none⟩ = (#[.int .i64 P, .int .i64 Q, .int .i64 (P - 1), .int .i64 Q, .int .i64 (P + 1), .int .i64 Q, .int .i64 P, .int .i64 (Q - 1), .int .i64 P, .int .i64 (Q + 1)] : Array Value)[j]? := rs.cell
            have fs : ∀ j, wrm0.frozen? ⟨W33.heap.size, j, none⟩ = false := rs.frozen
            have zs : W33.heap.size < wrm0.heap.size := rs.lt
            have cq : ∀ j, wrm0.cell? ⟨W41.heap.size, j, none⟩ = (#[.int .i64 P, .int .i64 Q] : Array Value)[j]? := rq.cell
            have fq : ∀ j, wrm0.frozen? ⟨W41.heap.size, j, none⟩ = false := rq.frozen
            have zq : W41.heap.size < wrm0.heap.size := rq.lt
            clear hrm0 hrcm0 hrfm0
            go_wp2_with fail
            rw [rounds_succ]
            go_wp2_with fail
            refine region_below 8 (by kernel_rfl) (by kernel_rfl) ?_
            simp only [List.take_succ_cons, List.take_zero, List.drop_succ_cons, List.drop_zero]
            repeat (first | (refine' InText.skip (by rfl) ?_; simp only [Act.put, List.setIfInBounds_toArray, List.set_cons_zero, List.set_cons_succ]) | (refine' InText.val (by rfl) (fun wr hr => ?_) ?_; rotate_left 1; (focus (obtain ⟨hrc, hrf⟩ := bcell hr; (go_simp <;> with_reducible rfl); done)); simp only [Act.put, List.setIfInBounds_toArray, List.set_cons_zero, List.set_cons_succ]))
            refine fun wrm1 hrm1 => ?_
            obtain ⟨hrcm1, hrfm1⟩ := bcell hrm1
            clear cn fn zn cs fs zs cq fq zq
            replace rn := rn.keep hrm1
            replace rs := rs.keep hrm1
            replace rq := rq.keep hrm1
            replace kw := kw.trans (hrm1.mono kw.size)
            have cn : ∀ j, wrm1.cell? ⟨W31.heap.size, j, none⟩ = (#[.int .i64 Am, .int .i64 B0, .int .i64 C, .int .i64 Ap, .int .i64 B0, .int .i64 C, .int .i64 A, .int .i64 Bm, .int .i64 C, .int .i64 A, .int .i64 Bp, .int .i64 C, .int .i64 A, .int .i64 B0, .int .i64 Cm, .int .i64 A, .int .i64 B0, .int .i64 Cp] : Array Value)[j]? := rn.cell
            have fn : ∀ j, wrm1.frozen? ⟨W31.heap.size, j, none⟩ = false := rn.frozen
            have zn : W31.heap.size < wrm1.heap.size := rn.lt
            have cs : ∀ j, wrm1.cell? ⟨W33.heap.size, j, none⟩ = (#[.int .i64 P, .int .i64 Q, .int .i64 (P - 1), .int .i64 Q, .int .i64 (P + 1), .int .i64 Q, .int .i64 P, .int .i64 (Q - 1), .int .i64 P, .int .i64 (Q + 1)] : Array Value)[j]? := rs.cell
            have fs : ∀ j, wrm1.frozen? ⟨W33.heap.size, j, none⟩ = false := rs.frozen
            have zs : W33.heap.size < wrm1.heap.size := rs.lt
            have cq : ∀ j, wrm1.cell? ⟨W41.heap.size, j, none⟩ = (#[.int .i64 P, .int .i64 Q] : Array Value)[j]? := rq.cell
            have fq : ∀ j, wrm1.frozen? ⟨W41.heap.size, j, none⟩ = false := rq.frozen
            have zq : W41.heap.size < wrm1.heap.size := rq.lt
            clear hrm1 hrcm1 hrfm1
            go_wp2_with fail
            rw [rounds_succ]
            go_wp2_with fail
            refine region_below 8 (by kernel_rfl) (by kernel_rfl) ?_
            simp only [List.take_succ_cons, List.take_zero, List.drop_succ_cons, List.drop_zero]
            repeat (first | (refine' InText.skip (by rfl) ?_; simp only [Act.put, List.setIfInBounds_toArray, List.set_cons_zero, List.set_cons_succ]) | (refine' InText.val (by rfl) (fun wr hr => ?_) ?_; rotate_left 1; (focus (obtain ⟨hrc, hrf⟩ := bcell hr; (go_simp <;> with_reducible rfl); done)); simp only [Act.put, List.setIfInBounds_toArray, List.set_cons_zero, List.set_cons_succ]))
            refine fun wrm2 hrm2 => ?_
            obtain ⟨hrcm2, hrfm2⟩ := bcell hrm2
            clear cn fn zn cs fs zs cq fq zq
            replace rn := rn.keep hrm2
            replace rs := rs.keep hrm2
            replace rq := rq.keep hrm2
            replace kw := kw.trans (hrm2.mono kw.size)
            have cn : ∀ j, wrm2.cell? ⟨W31.heap.size, j, none⟩ = (#[.int .i64 Am, .int .i64 B0, .int .i64 C, .int .i64 Ap, .int .i64 B0, .int .i64 C, .int .i64 A, .int .i64 Bm, .int .i64 C, .int .i64 A, .int .i64 Bp, .int .i64 C, .int .i64 A, .int .i64 B0, .int .i64 Cm, .int .i64 A, .int .i64 B0, .int .i64 Cp] : Array Value)[j]? := rn.cell
            have fn : ∀ j, wrm2.frozen? ⟨W31.heap.size, j, none⟩ = false := rn.frozen
            have zn : W31.heap.size < wrm2.heap.size := rn.lt
            have cs : ∀ j, wrm2.cell? ⟨W33.heap.size, j, none⟩ = (#[.int .i64 P, .int .i64 Q, .int .i64 (P - 1), .int .i64 Q, .int .i64 (P + 1), .int .i64 Q, .int .i64 P, .int .i64 (Q - 1), .int .i64 P, .int .i64 (Q + 1)] : Array Value)[j]? := rs.cell
            have fs : ∀ j, wrm2.frozen? ⟨W33.heap.size, j, none⟩ = false := rs.frozen
            have zs : W33.heap.size < wrm2.heap.size := rs.lt
            have cq : ∀ j, wrm2.cell? ⟨W41.heap.size, j, none⟩ = (#[.int .i64 P, .int .i64 Q] : Array Value)[j]? := rq.cell
            have fq : ∀ j, wrm2.frozen? ⟨W41.heap.size, j, none⟩ = false := rq.frozen
            have zq : W41.heap.size < wrm2.heap.size := rq.lt
            clear hrm2 hrcm2 hrfm2
            go_wp2_with fail
            rw [rounds_succ]
            go_wp2_with fail
            refine region_below 8 (by kernel_rfl) (by kernel_rfl) ?_
            simp only [List.take_succ_cons, List.take_zero, List.drop_succ_cons, List.drop_zero]
            repeat (first | (refine' InText.skip (by rfl) ?_; simp only [Act.put, List.setIfInBounds_toArray, List.set_cons_zero, List.set_cons_succ]) | (refine' InText.val (by rfl) (fun wr hr => ?_) ?_; rotate_left 1; (focus (obtain ⟨hrc, hrf⟩ := bcell hr; (go_simp <;> with_reducible rfl); done)); simp only [Act.put, List.setIfInBounds_toArray, List.set_cons_zero, List.set_cons_succ]))
            refine fun wrm3 hrm3 => ?_
            obtain ⟨hrcm3, hrfm3⟩ := bcell hrm3
            clear cn fn zn cs fs zs cq fq zq
            replace rn := rn.keep hrm3
            replace rs := rs.keep hrm3
            replace rq := rq.keep hrm3
            replace kw := kw.trans (hrm3.mono kw.size)
            have cn : ∀ j, wrm3.cell? ⟨W31.heap.size, j, none⟩ = (#[.int .i64 Am, .int .i64 B0, .int .i64 C, .int .i64 Ap, .int .i64 B0, .int .i64 C, .int .i64 A, .int .i64 Bm, .int .i64 C, .int .i64 A, .int .i64 Bp, .int .i64 C, .int .i64 A, .int .i64 B0, .int .i64 Cm, .int .i64 A, .int .i64 B0, .int .i64 Cp] : Array Value)[j]? := rn.cell
            have fn : ∀ j, wrm3.frozen? ⟨W31.heap.size, j, none⟩ = false := rn.frozen
            have zn : W31.heap.size < wrm3.heap.size := rn.lt
            have cs : ∀ j, wrm3.cell? ⟨W33.heap.size, j, none⟩ = (#[.int .i64 P, .int .i64 Q, .int .i64 (P - 1), .int .i64 Q, .int .i64 (P + 1), .int .i64 Q, .int .i64 P, .int .i64 (Q - 1), .int .i64 P, .int .i64 (Q + 1)] : Array Value)[j]? := rs.cell
            have fs : ∀ j, wrm3.frozen? ⟨W33.heap.size, j, none⟩ = false := rs.frozen
            have zs : W33.heap.size < wrm3.heap.size := rs.lt
            have cq : ∀ j, wrm3.cell? ⟨W41.heap.size, j, none⟩ = (#[.int .i64 P, .int .i64 Q] : Array Value)[j]? := rq.cell
            have fq : ∀ j, wrm3.frozen? ⟨W41.heap.size, j, none⟩ = false := rq.frozen
            have zq : W41.heap.size < wrm3.heap.size := rq.lt
            clear hrm3 hrcm3 hrfm3
            go_wp2_with fail
            rw [rounds_succ]
            go_wp2_with fail
            refine region_below 8 (by kernel_rfl) (by kernel_rfl) ?_
            simp only [List.take_succ_cons, List.take_zero, List.drop_succ_cons, List.drop_zero]
            repeat (first | (refine' InText.skip (by rfl) ?_; simp only [Act.put, List.setIfInBounds_toArray, List.set_cons_zero, List.set_cons_succ]) | (refine' InText.val (by rfl) (fun wr hr => ?_) ?_; rotate_left 1; (focus (obtain ⟨hrc, hrf⟩ := bcell hr; (go_simp <;> with_reducible rfl); done)); simp only [Act.put, List.setIfInBounds_toArray, List.set_cons_zero, List.set_cons_succ]))
            refine fun wrm4 hrm4 => ?_
            obtain ⟨hrcm4, hrfm4⟩ := bcell hrm4
            clear cn fn zn cs fs zs cq fq zq
            replace rn := rn.keep hrm4
            replace rs := rs.keep hrm4
            replace rq := rq.keep hrm4
            replace kw := kw.trans (hrm4.mono kw.size)
            have cn : ∀ j, wrm4.cell? ⟨W31.heap.size, j, none⟩ = (#[.int .i64 Am, .int .i64 B0, .int .i64 C, .int .i64 Ap, .int .i64 B0, .int .i64 C, .int .i64 A, .int .i64 Bm, .int .i64 C, .int .i64 A, .int .i64 Bp, .int .i64 C, .int .i64 A, .int .i64 B0, .int .i64 Cm, .int .i64 A, .int .i64 B0, .int .i64 Cp] : Array Value)[j]? := rn.cell
            have fn : ∀ j, wrm4.frozen? ⟨W31.heap.size, j, none⟩ = false := rn.frozen
            have zn : W31.heap.size < wrm4.heap.size := rn.lt
            have cs : ∀ j, wrm4.cell? ⟨W33.heap.size, j, none⟩ = (#[.int .i64 P, .int .i64 Q, .int .i64 (P - 1), .int .i64 Q, .int .i64 (P + 1), .int .i64 Q, .int .i64 P, .int .i64 (Q - 1), .int .i64 P, .int .i64 (Q + 1)] : Array Value)[j]? := rs.cell
            have fs : ∀ j, wrm4.frozen? ⟨W33.heap.size, j, none⟩ = false := rs.frozen
            have zs : W33.heap.size < wrm4.heap.size := rs.lt
            have cq : ∀ j, wrm4.cell? ⟨W41.heap.size, j, none⟩ = (#[.int .i64 P, .int .i64 Q] : Array Value)[j]? := rq.cell
            have fq : ∀ j, wrm4.frozen? ⟨W41.heap.size, j, none⟩ = false := rq.frozen
            have zq : W41.heap.size < wrm4.heap.size := rq.lt
            clear hrm4 hrcm4 hrfm4
            go_wp2_with fail
            rw [rounds_succ]
            go_wp2_with fail
            go_roundw
            case rel =>
              exact ⟨1, by omega, by go_num, by (repeat (first | with_reducible assumption | with_reducible exact Below.refl _ _ | with_reducible refine Below.drew ?_ | with_reducible refine below_drewN ?_ _ | with_reducible refine al ?_ _ | (with_reducible refine sc ?_ ?_; (focus (first | omega | (simp; done) | (simp; omega)))) | (with_reducible refine chain ?_ (by assumption)))), rn, rs⟩
            case measure => simp [intOf]
          · have HQ := Hq0.out
            rw [e0] at HQ
            clear e0
            have HQQ := Lib.hid HQ
            clear HQ
            have v0 : eq2B (P - 1) (Q) (P) (Q) = false := by simp [eq2B] <;> omega
            have v1 : eq2B (P - 1) (Q) (P - 1) (Q) = true := by simp [eq2B]
            go_wp2_with fail
            (refine (HQQ.out _).mono ?_; rintro e W41 ⟨rfl, hW41⟩)
            clear cn fn zn cs fs zs
            replace rn := rn.keep hW41
            replace rs := rs.keep hW41
            replace kw := kw.trans (hW41.mono kw.size)
            have cn : ∀ j, W41.cell? ⟨W31.heap.size, j, none⟩ = (#[.int .i64 Am, .int .i64 B0, .int .i64 C, .int .i64 Ap, .int .i64 B0, .int .i64 C, .int .i64 A, .int .i64 Bm, .int .i64 C, .int .i64 A, .int .i64 Bp, .int .i64 C, .int .i64 A, .int .i64 B0, .int .i64 Cm, .int .i64 A, .int .i64 B0, .int .i64 Cp] : Array Value)[j]? := rn.cell
            have fn : ∀ j, W41.frozen? ⟨W31.heap.size, j, none⟩ = false := rn.frozen
            have zn : W31.heap.size < W41.heap.size := rn.lt
            have cs : ∀ j, W41.cell? ⟨W33.heap.size, j, none⟩ = (#[.int .i64 P, .int .i64 Q, .int .i64 (P - 1), .int .i64 Q, .int .i64 (P + 1), .int .i64 Q, .int .i64 P, .int .i64 (Q - 1), .int .i64 P, .int .i64 (Q + 1)] : Array Value)[j]? := rs.cell
            have fs : ∀ j, W41.frozen? ⟨W33.heap.size, j, none⟩ = false := rs.frozen
            have zs : W33.heap.size < W41.heap.size := rs.lt
            clear hW41
            go_wp2_with fail
            have yqn : W31.heap.size < W41.heap.size := by omega
            have yqs : W33.heap.size < W41.heap.size := by omega
            replace kw : Below w.heap.size w (W41.alloc (.cells #[.int .i64 (P - 1), .int .i64 Q] 38)) := by (repeat (first | with_reducible assumption | with_reducible exact Below.refl _ _ | with_reducible refine Below.drew ?_ | with_reducible refine below_drewN ?_ _ | with_reducible refine al ?_ _ | (with_reducible refine sc ?_ ?_; (focus (first | omega | (simp; done) | (simp; omega)))) | (with_reducible refine chain ?_ (by assumption))))
            replace rn : RowAt (W41.alloc (.cells #[.int .i64 (P - 1), .int .i64 Q] 38)) (W31.heap.size) #[.int .i64 Am, .int .i64 B0, .int .i64 C, .int .i64 Ap, .int .i64 B0, .int .i64 C, .int .i64 A, .int .i64 Bm, .int .i64 C, .int .i64 A, .int .i64 Bp, .int .i64 C, .int .i64 A, .int .i64 B0, .int .i64 Cm, .int .i64 A, .int .i64 B0, .int .i64 Cp] 45 := (rn.alloc _)
            replace rs : RowAt (W41.alloc (.cells #[.int .i64 (P - 1), .int .i64 Q] 38)) (W33.heap.size) #[.int .i64 P, .int .i64 Q, .int .i64 (P - 1), .int .i64 Q, .int .i64 (P + 1), .int .i64 Q, .int .i64 P, .int .i64 (Q - 1), .int .i64 P, .int .i64 (Q + 1)] 47 := (rs.alloc _)
            have rq : RowAt (W41.alloc (.cells #[.int .i64 (P - 1), .int .i64 Q] 38)) (W41.heap.size) #[.int .i64 (P - 1), .int .i64 Q] 38 := (RowAt.make _ _ _ (by first | rfl | (simp [World.setCell]; done)))
            clear cn fn zn cs fs zs
            generalize (W41.alloc (.cells #[.int .i64 (P - 1), .int .i64 Q] 38)) = W42 at *
            have cn : ∀ j, W42.cell? ⟨W31.heap.size, j, none⟩ = (#[.int .i64 Am, .int .i64 B0, .int .i64 C, .int .i64 Ap, .int .i64 B0, .int .i64 C, .int .i64 A, .int .i64 Bm, .int .i64 C, .int .i64 A, .int .i64 Bp, .int .i64 C, .int .i64 A, .int .i64 B0, .int .i64 Cm, .int .i64 A, .int .i64 B0, .int .i64 Cp] : Array Value)[j]? := rn.cell
            have fn : ∀ j, W42.frozen? ⟨W31.heap.size, j, none⟩ = false := rn.frozen
            have zn : W31.heap.size < W42.heap.size := rn.lt
            have cs : ∀ j, W42.cell? ⟨W33.heap.size, j, none⟩ = (#[.int .i64 P, .int .i64 Q, .int .i64 (P - 1), .int .i64 Q, .int .i64 (P + 1), .int .i64 Q, .int .i64 P, .int .i64 (Q - 1), .int .i64 P, .int .i64 (Q + 1)] : Array Value)[j]? := rs.cell
            have fs : ∀ j, W42.frozen? ⟨W33.heap.size, j, none⟩ = false := rs.frozen
            have zs : W33.heap.size < W42.heap.size := rs.lt
            have cq : ∀ j, W42.cell? ⟨W41.heap.size, j, none⟩ = (#[.int .i64 (P - 1), .int .i64 Q] : Array Value)[j]? := rq.cell
            have fq : ∀ j, W42.frozen? ⟨W41.heap.size, j, none⟩ = false := rq.frozen
            have zq : W41.heap.size < W42.heap.size := rq.lt
            refine wp_loop_rounds 6 ?_
            rw [rounds_succ]
            go_wp2_with fail
            refine region_below 8 (by kernel_rfl) (by kernel_rfl) ?_
            simp only [List.take_succ_cons, List.take_zero, List.drop_succ_cons, List.drop_zero]
            repeat (first | (refine' InText.skip (by rfl) ?_; simp only [Act.put, List.setIfInBounds_toArray, List.set_cons_zero, List.set_cons_succ]) | (refine' InText.val (by rfl) (fun wr hr => ?_) ?_; rotate_left 1; (focus (obtain ⟨hrc, hrf⟩ := bcell hr; (go_simp <;> with_reducible rfl); done)); simp only [Act.put, List.setIfInBounds_toArray, List.set_cons_zero, List.set_cons_succ]))
            refine fun wrm0 hrm0 => ?_
            obtain ⟨hrcm0, hrfm0⟩ := bcell hrm0
            clear cn fn zn cs fs zs cq fq zq
            replace rn := rn.keep hrm0
            replace rs := rs.keep hrm0
            replace rq := rq.keep hrm0
            replace kw := kw.trans (hrm0.mono kw.size)
            have cn : ∀ j, wrm0.cell? ⟨W31.heap.size, j, none⟩ = (#[.int .i64 Am, .int .i64 B0, .int .i64 C, .int .i64 Ap, .int .i64 B0, .int .i64 C, .int .i64 A, .int .i64 Bm, .int .i64 C, .int .i64 A, .int .i64 Bp, .int .i64 C, .int .i64 A, .int .i64 B0, .int .i64 Cm, .int .i64 A, .int .i64 B0, .int .i64 Cp] : Array Value)[j]? := rn.cell
            have fn : ∀ j, wrm0.frozen? ⟨W31.heap.size, j, none⟩ = false := rn.frozen
            have zn : W31.heap.size < wrm0.heap.size := rn.lt
            have cs : ∀ j, wrm0.cell? ⟨W33.heap.size, j, none⟩ = (#[.int .i64 P, .int .i64 Q, .int .i64 (P - 1), .int .i64 Q, .int .i64 (P + 1), .int .i64 Q, .int .i64 P, .int .i64 (Q - 1), .int .i64 P, .int .i64 (Q + 1)] : Array Value)[j]? := rs.cell
            have fs : ∀ j, wrm0.frozen? ⟨W33.heap.size, j, none⟩ = false := rs.frozen
            have zs : W33.heap.size < wrm0.heap.size := rs.lt
            have cq : ∀ j, wrm0.cell? ⟨W41.heap.size, j, none⟩ = (#[.int .i64 (P - 1), .int .i64 Q] : Array Value)[j]? := rq.cell
            have fq : ∀ j, wrm0.frozen? ⟨W41.heap.size, j, none⟩ = false := rq.frozen
            have zq : W41.heap.size < wrm0.heap.size := rq.lt
            clear hrm0 hrcm0 hrfm0
            go_wp2_with fail
            rw [rounds_succ]
            go_wp2_with fail
            refine region_below 8 (by kernel_rfl) (by kernel_rfl) ?_
            simp only [List.take_succ_cons, List.take_zero, List.drop_succ_cons, List.drop_zero]
            repeat (first | (refine' InText.skip (by rfl) ?_; simp only [Act.put, List.setIfInBounds_toArray, List.set_cons_zero, List.set_cons_succ]) | (refine' InText.val (by rfl) (fun wr hr => ?_) ?_; rotate_left 1; (focus (obtain ⟨hrc, hrf⟩ := bcell hr; (go_simp <;> with_reducible rfl); done)); simp only [Act.put, List.setIfInBounds_toArray, List.set_cons_zero, List.set_cons_succ]))
            refine fun wrm1 hrm1 => ?_
            obtain ⟨hrcm1, hrfm1⟩ := bcell hrm1
            clear cn fn zn cs fs zs cq fq zq
            replace rn := rn.keep hrm1
            replace rs := rs.keep hrm1
            replace rq := rq.keep hrm1
            replace kw := kw.trans (hrm1.mono kw.size)
            have cn : ∀ j, wrm1.cell? ⟨W31.heap.size, j, none⟩ = (#[.int .i64 Am, .int .i64 B0, .int .i64 C, .int .i64 Ap, .int .i64 B0, .int .i64 C, .int .i64 A, .int .i64 Bm, .int .i64 C, .int .i64 A, .int .i64 Bp, .int .i64 C, .int .i64 A, .int .i64 B0, .int .i64 Cm, .int .i64 A, .int .i64 B0, .int .i64 Cp] : Array Value)[j]? := rn.cell
            have fn : ∀ j, wrm1.frozen? ⟨W31.heap.size, j, none⟩ = false := rn.frozen
            have zn : W31.heap.size < wrm1.heap.size := rn.lt
            have cs : ∀ j, wrm1.cell? ⟨W33.heap.size, j, none⟩ = (#[.int .i64 P, .int .i64 Q, .int .i64 (P - 1), .int .i64 Q, .int .i64 (P + 1), .int .i64 Q, .int .i64 P, .int .i64 (Q - 1), .int .i64 P, .int .i64 (Q + 1)] : Array Value)[j]? := rs.cell
            have fs : ∀ j, wrm1.frozen? ⟨W33.heap.size, j, none⟩ = false := rs.frozen
            have zs : W33.heap.size < wrm1.heap.size := rs.lt
            have cq : ∀ j, wrm1.cell? ⟨W41.heap.size, j, none⟩ = (#[.int .i64 (P - 1), .int .i64 Q] : Array Value)[j]? := rq.cell
            have fq : ∀ j, wrm1.frozen? ⟨W41.heap.size, j, none⟩ = false := rq.frozen
            have zq : W41.heap.size < wrm1.heap.size := rq.lt
            clear hrm1 hrcm1 hrfm1
            go_wp2_with fail
            rw [rounds_succ]
            go_wp2_with fail
            refine region_below 8 (by kernel_rfl) (by kernel_rfl) ?_
            simp only [List.take_succ_cons, List.take_zero, List.drop_succ_cons, List.drop_zero]
            repeat (first | (refine' InText.skip (by rfl) ?_; simp only [Act.put, List.setIfInBounds_toArray, List.set_cons_zero, List.set_cons_succ]) | (refine' InText.val (by rfl) (fun wr hr => ?_) ?_; rotate_left 1; (focus (obtain ⟨hrc, hrf⟩ := bcell hr; (go_simp <;> with_reducible rfl); done)); simp only [Act.put, List.setIfInBounds_toArray, List.set_cons_zero, List.set_cons_succ]))
            refine fun wrm2 hrm2 => ?_
            obtain ⟨hrcm2, hrfm2⟩ := bcell hrm2
            clear cn fn zn cs fs zs cq fq zq
            replace rn := rn.keep hrm2
            replace rs := rs.keep hrm2
            replace rq := rq.keep hrm2
            replace kw := kw.trans (hrm2.mono kw.size)
            have cn : ∀ j, wrm2.cell? ⟨W31.heap.size, j, none⟩ = (#[.int .i64 Am, .int .i64 B0, .int .i64 C, .int .i64 Ap, .int .i64 B0, .int .i64 C, .int .i64 A, .int .i64 Bm, .int .i64 C, .int .i64 A, .int .i64 Bp, .int .i64 C, .int .i64 A, .int .i64 B0, .int .i64 Cm, .int .i64 A, .int .i64 B0, .int .i64 Cp] : Array Value)[j]? := rn.cell
            have fn : ∀ j, wrm2.frozen? ⟨W31.heap.size, j, none⟩ = false := rn.frozen
            have zn : W31.heap.size < wrm2.heap.size := rn.lt
            have cs : ∀ j, wrm2.cell? ⟨W33.heap.size, j, none⟩ = (#[.int .i64 P, .int .i64 Q, .int .i64 (P - 1), .int .i64 Q, .int .i64 (P + 1), .int .i64 Q, .int .i64 P, .int .i64 (Q - 1), .int .i64 P, .int .i64 (Q + 1)] : Array Value)[j]? := rs.cell
            have fs : ∀ j, wrm2.frozen? ⟨W33.heap.size, j, none⟩ = false := rs.frozen
            have zs : W33.heap.size < wrm2.heap.size := rs.lt
            have cq : ∀ j, wrm2.cell? ⟨W41.heap.size, j, none⟩ = (#[.int .i64 (P - 1), .int .i64 Q] : Array Value)[j]? := rq.cell
            have fq : ∀ j, wrm2.frozen? ⟨W41.heap.size, j, none⟩ = false := rq.frozen
            have zq : W41.heap.size < wrm2.heap.size := rq.lt
            clear hrm2 hrcm2 hrfm2
            go_wp2_with fail
            rw [rounds_succ]
            go_wp2_with fail
            refine region_below 8 (by kernel_rfl) (by kernel_rfl) ?_
            simp only [List.take_succ_cons, List.take_zero, List.drop_succ_cons, List.drop_zero]
            repeat (first | (refine' InText.skip (by rfl) ?_; simp only [Act.put, List.setIfInBounds_toArray, List.set_cons_zero, List.set_cons_succ]) | (refine' InText.val (by rfl) (fun wr hr => ?_) ?_; rotate_left 1; (focus (obtain ⟨hrc, hrf⟩ := bcell hr; (go_simp <;> with_reducible rfl); done)); simp only [Act.put, List.setIfInBounds_toArray, List.set_cons_zero, List.set_cons_succ]))
            refine fun wrm3 hrm3 => ?_
            obtain ⟨hrcm3, hrfm3⟩ := bcell hrm3
            clear cn fn zn cs fs zs cq fq zq
            replace rn := rn.keep hrm3
            replace rs := rs.keep hrm3
            replace rq := rq.keep hrm3
            replace kw := kw.trans (hrm3.mono kw.size)
            have cn : ∀ j, wrm3.cell? ⟨W31.heap.size, j, none⟩ = (#[.int .i64 Am, .int .i64 B0, .int .i64 C, .int .i64 Ap, .int .i64 B0, .int .i64 C, .int .i64 A, .int .i64 Bm, .int .i64 C, .int .i64 A, .int .i64 Bp, .int .i64 C, .int .i64 A, .int .i64 B0, .int .i64 Cm, .int .i64 A, .int .i64 B0, .int .i64 Cp] : Array Value)[j]? := rn.cell
            have fn : ∀ j, wrm3.frozen? ⟨W31.heap.size, j, none⟩ = false := rn.frozen
            have zn : W31.heap.size < wrm3.heap.size := rn.lt
            have cs : ∀ j, wrm3.cell? ⟨W33.heap.size, j, none⟩ = (#[.int .i64 P, .int .i64 Q, .int .i64 (P - 1), .int .i64 Q, .int .i64 (P + 1), .int .i64 Q, .int .i64 P, .int .i64 (Q - 1), .int .i64 P, .int .i64 (Q + 1)] : Array Value)[j]? := rs.cell
            have fs : ∀ j, wrm3.frozen? ⟨W33.heap.size, j, none⟩ = false := rs.frozen
            have zs : W33.heap.size < wrm3.heap.size := rs.lt
            have cq : ∀ j, wrm3.cell? ⟨W41.heap.size, j, none⟩ = (#[.int .i64 (P - 1), .int .i64 Q] : Array Value)[j]? := rq.cell
            have fq : ∀ j, wrm3.frozen? ⟨W41.heap.size, j, none⟩ = false := rq.frozen
            have zq : W41.heap.size < wrm3.heap.size := rq.lt
            clear hrm3 hrcm3 hrfm3
            go_wp2_with fail
            rw [rounds_succ]
            go_wp2_with fail
            refine region_below 8 (by kernel_rfl) (by kernel_rfl) ?_
            simp only [List.take_succ_cons, List.take_zero, List.drop_succ_cons, List.drop_zero]
            repeat (first | (refine' InText.skip (by rfl) ?_; simp only [Act.put, List.setIfInBounds_toArray, List.set_cons_zero, List.set_cons_succ]) | (refine' InText.val (by rfl) (fun wr hr => ?_) ?_; rotate_left 1; (focus (obtain ⟨hrc, hrf⟩ := bcell hr; (go_simp <;> with_reducible rfl); done)); simp only [Act.put, List.setIfInBounds_toArray, List.set_cons_zero, List.set_cons_succ]))
            refine fun wrm4 hrm4 => ?_
            obtain ⟨hrcm4, hrfm4⟩ := bcell hrm4
            clear cn fn zn cs fs zs cq fq zq
            replace rn := rn.keep hrm4
            replace rs := rs.keep hrm4
            replace rq := rq.keep hrm4
            replace kw := kw.trans (hrm4.mono kw.size)
            have cn : ∀ j, wrm4.cell? ⟨W31.heap.size, j, none⟩ = (#[.int .i64 Am, .int .i64 B0, .int .i64 C, .int .i64 Ap, .int .i64 B0, .int .i64 C, .int .i64 A, .int .i64 Bm, .int .i64 C, .int .i64 A, .int .i64 Bp, .int .i64 C, .int .i64 A, .int .i64 B0, .int .i64 Cm, .int .i64 A, .int .i64 B0, .int .i64 Cp] : Array Value)[j]? := rn.cell
            have fn : ∀ j, wrm4.frozen? ⟨W31.heap.size, j, none⟩ = false := rn.frozen
            have zn : W31.heap.size < wrm4.heap.size := rn.lt
            have cs : ∀ j, wrm4.cell? ⟨W33.heap.size, j, none⟩ = (#[.int .i64 P, .int .i64 Q, .int .i64 (P - 1), .int .i64 Q, .int .i64 (P + 1), .int .i64 Q, .int .i64 P, .int .i64 (Q - 1), .int .i64 P, .int .i64 (Q + 1)] : Array Value)[j]? := rs.cell
            have fs : ∀ j, wrm4.frozen? ⟨W33.heap.size, j, none⟩ = false := rs.frozen
            have zs : W33.heap.size < wrm4.heap.size := rs.lt
            have cq : ∀ j, wrm4.cell? ⟨W41.heap.size, j, none⟩ = (#[.int .i64 (P - 1), .int .i64 Q] : Array Value)[j]? := rq.cell
            have fq : ∀ j, wrm4.frozen? ⟨W41.heap.size, j, none⟩ = false := rq.frozen
            have zq : W41.heap.size < wrm4.heap.size := rq.lt
            clear hrm4 hrcm4 hrfm4
            go_wp2_with fail
            rw [rounds_succ]
            go_wp2_with fail
            go_roundw
            case rel =>
              exact ⟨1, by omega, by go_num, by (repeat (first | with_reducible assumption | with_reducible exact Below.refl _ _ | with_reducible refine Below.drew ?_ | with_reducible refine below_drewN ?_ _ | with_reducible refine al ?_ _ | (with_reducible refine sc ?_ ?_; (focus (first | omega | (simp; done) | (simp; omega)))) | (with_reducible refine chain ?_ (by assumption)))), rn, rs⟩
            case measure => simp [intOf]
        · have cn : ∀ j, wr.cell? ⟨W31.heap.size, j, none⟩ = (#[.int .i64 Am, .int .i64 B0, .int .i64 C, .int .i64 Ap, .int .i64 B0, .int .i64 C, .int .i64 A, .int .i64 Bm, .int .i64 C, .int .i64 A, .int .i64 Bp, .int .i64 C, .int .i64 A, .int .i64 B0, .int .i64 Cm, .int .i64 A, .int .i64 B0, .int .i64 Cp] : Array Value)[j]? := rn.cell
          have fn : ∀ j, wr.frozen? ⟨W31.heap.size, j, none⟩ = false := rn.frozen
          have zn : W31.heap.size < wr.heap.size := rn.lt
          have cs : ∀ j, wr.cell? ⟨W33.heap.size, j, none⟩ = (#[.int .i64 P, .int .i64 Q, .int .i64 (P - 1), .int .i64 Q, .int .i64 (P + 1), .int .i64 Q, .int .i64 P, .int .i64 (Q - 1), .int .i64 P, .int .i64 (Q + 1)] : Array Value)[j]? := rs.cell
          have fs : ∀ j, wr.frozen? ⟨W33.heap.size, j, none⟩ = false := rs.frozen
          have zs : W33.heap.size < wr.heap.size := rs.lt
          have q5 := eq2p_run
          rcases Z1.out with e0 | e0
          · have HQ := Hq1.out
            rw [e0] at HQ
            clear e0
            have HQQ := Lib.hid HQ
            clear HQ
            have v0 : eq2B (P) (Q) (P) (Q) = true := by simp [eq2B]
            go_wp2_with fail
            (refine (HQQ.out _).mono ?_; rintro e W41 ⟨rfl, hW41⟩)
            clear cn fn zn cs fs zs
            replace rn := rn.keep hW41
            replace rs := rs.keep hW41
            replace kw := kw.trans (hW41.mono kw.size)
            have cn : ∀ j, W41.cell? ⟨W31.heap.size, j, none⟩ = (#[.int .i64 Am, .int .i64 B0, .int .i64 C, .int .i64 Ap, .int .i64 B0, .int .i64 C, .int .i64 A, .int .i64 Bm, .int .i64 C, .int .i64 A, .int .i64 Bp, .int .i64 C, .int .i64 A, .int .i64 B0, .int .i64 Cm, .int .i64 A, .int .i64 B0, .int .i64 Cp] : Array Value)[j]? := rn.cell
            have fn : ∀ j, W41.frozen? ⟨W31.heap.size, j, none⟩ = false := rn.frozen
            have zn : W31.heap.size < W41.heap.size := rn.lt
            have cs : ∀ j, W41.cell? ⟨W33.heap.size, j, none⟩ = (#[.int .i64 P, .int .i64 Q, .int .i64 (P - 1), .int .i64 Q, .int .i64 (P + 1), .int .i64 Q, .int .i64 P, .int .i64 (Q - 1), .int .i64 P, .int .i64 (Q + 1)] : Array Value)[j]? := rs.cell
            have fs : ∀ j, W41.frozen? ⟨W33.heap.size, j, none⟩ = false := rs.frozen
            have zs : W33.heap.size < W41.heap.size := rs.lt
            clear hW41
            go_wp2_with fail
            have yqn : W31.heap.size < W41.heap.size := by omega
            have yqs : W33.heap.size < W41.heap.size := by omega
            replace kw : Below w.heap.size w (W41.alloc (.cells #[.int .i64 P, .int .i64 Q] 38)) := by (repeat (first | with_reducible assumption | with_reducible exact Below.refl _ _ | with_reducible refine Below.drew ?_ | with_reducible refine below_drewN ?_ _ | with_reducible refine al ?_ _ | (with_reducible refine sc ?_ ?_; (focus (first | omega | (simp; done) | (simp; omega)))) | (with_reducible refine chain ?_ (by assumption))))
            replace rn : RowAt (W41.alloc (.cells #[.int .i64 P, .int .i64 Q] 38)) (W31.heap.size) #[.int .i64 Am, .int .i64 B0, .int .i64 C, .int .i64 Ap, .int .i64 B0, .int .i64 C, .int .i64 A, .int .i64 Bm, .int .i64 C, .int .i64 A, .int .i64 Bp, .int .i64 C, .int .i64 A, .int .i64 B0, .int .i64 Cm, .int .i64 A, .int .i64 B0, .int .i64 Cp] 45 := (rn.alloc _)
            replace rs : RowAt (W41.alloc (.cells #[.int .i64 P, .int .i64 Q] 38)) (W33.heap.size) #[.int .i64 P, .int .i64 Q, .int .i64 (P - 1), .int .i64 Q, .int .i64 (P + 1), .int .i64 Q, .int .i64 P, .int .i64 (Q - 1), .int .i64 P, .int .i64 (Q + 1)] 47 := (rs.alloc _)
            have rq : RowAt (W41.alloc (.cells #[.int .i64 P, .int .i64 Q] 38)) (W41.heap.size) #[.int .i64 P, .int .i64 Q] 38 := (RowAt.make _ _ _ (by first | rfl | (simp [World.setCell]; done)))
            clear cn fn zn cs fs zs
            generalize (W41.alloc (.cells #[.int .i64 P, .int .i64 Q] 38)) = W42 at *
            have cn : ∀ j, W42.cell? ⟨W31.heap.size, j, none⟩ = (#[.int .i64 Am, .int .i64 B0, .int .i64 C, .int .i64 Ap, .int .i64 B0, .int .i64 C, .int .i64 A, .int .i64 Bm, .int .i64 C, .int .i64 A, .int .i64 Bp, .int .i64 C, .int .i64 A, .int .i64 B0, .int .i64 Cm, .int .i64 A, .int .i64 B0, .int .i64 Cp] : Array Value)[j]? := rn.cell
            have fn : ∀ j, W42.frozen? ⟨W31.heap.size, j, none⟩ = false := rn.frozen
            have zn : W31.heap.size < W42.heap.size := rn.lt
            have cs : ∀ j, W42.cell? ⟨W33.heap.size, j, none⟩ = (#[.int .i64 P, .int .i64 Q, .int .i64 (P - 1), .int .i64 Q, .int .i64 (P + 1), .int .i64 Q, .int .i64 P, .int .i64 (Q - 1), .int .i64 P, .int .i64 (Q + 1)] : Array Value)[j]? := rs.cell
            have fs : ∀ j, W42.frozen? ⟨W33.heap.size, j, none⟩ = false := rs.frozen
            have zs : W33.heap.size < W42.heap.size := rs.lt
            have cq : ∀ j, W42.cell? ⟨W41.heap.size, j, none⟩ = (#[.int .i64 P, .int .i64 Q] : Array Value)[j]? := rq.cell
            have fq : ∀ j, W42.frozen? ⟨W41.heap.size, j, none⟩ = false := rq.frozen
            have zq : W41.heap.size < W42.heap.size := rq.lt
            refine wp_loop_rounds 6 ?_
            rw [rounds_succ]
            go_wp2_with fail
            refine region_below 8 (by kernel_rfl) (by kernel_rfl) ?_
            simp only [List.take_succ_cons, List.take_zero, List.drop_succ_cons, List.drop_zero]
            repeat (first | (refine' InText.skip (by rfl) ?_; simp only [Act.put, List.setIfInBounds_toArray, List.set_cons_zero, List.set_cons_succ]) | (refine' InText.val (by rfl) (fun wr hr => ?_) ?_; rotate_left 1; (focus (obtain ⟨hrc, hrf⟩ := bcell hr; (go_simp <;> with_reducible rfl); done)); simp only [Act.put, List.setIfInBounds_toArray, List.set_cons_zero, List.set_cons_succ]))
            refine fun wrm0 hrm0 => ?_
            obtain ⟨hrcm0, hrfm0⟩ := bcell hrm0
            clear cn fn zn cs fs zs cq fq zq
            replace rn := rn.keep hrm0
            replace rs := rs.keep hrm0
            replace rq := rq.keep hrm0
            replace kw := kw.trans (hrm0.mono kw.size)
            have cn : ∀ j, wrm0.cell? ⟨W31.heap.size, j, none⟩ = (#[.int .i64 Am, .int .i64 B0, .int .i64 C, .int .i64 Ap, .int .i64 B0, .int .i64 C, .int .i64 A, .int .i64 Bm, .int .i64 C, .int .i64 A, .int .i64 Bp, .int .i64 C, .int .i64 A, .int .i64 B0, .int .i64 Cm, .int .i64 A, .int .i64 B0, .int .i64 Cp] : Array Value)[j]? := rn.cell
            have fn : ∀ j, wrm0.frozen? ⟨W31.heap.size, j, none⟩ = false := rn.frozen
            have zn : W31.heap.size < wrm0.heap.size := rn.lt
            have cs : ∀ j, wrm0.cell? ⟨W33.heap.size, j, none⟩ = (#[.int .i64 P, .int .i64 Q, .int .i64 (P - 1), .int .i64 Q, .int .i64 (P + 1), .int .i64 Q, .int .i64 P, .int .i64 (Q - 1), .int .i64 P, .int .i64 (Q + 1)] : Array Value)[j]? := rs.cell
            have fs : ∀ j, wrm0.frozen? ⟨W33.heap.size, j, none⟩ = false := rs.frozen
            have zs : W33.heap.size < wrm0.heap.size := rs.lt
            have cq : ∀ j, wrm0.cell? ⟨W41.heap.size, j, none⟩ = (#[.int .i64 P, .int .i64 Q] : Array Value)[j]? := rq.cell
            have fq : ∀ j, wrm0.frozen? ⟨W41.heap.size, j, none⟩ = false := rq.frozen
            have zq : W41.heap.size < wrm0.heap.size := rq.lt
            clear hrm0 hrcm0 hrfm0
            go_wp2_with fail
            rw [rounds_succ]
            go_wp2_with fail
            refine region_below 8 (by kernel_rfl) (by kernel_rfl) ?_
            simp only [List.take_succ_cons, List.take_zero, List.drop_succ_cons, List.drop_zero]
            repeat (first | (refine' InText.skip (by rfl) ?_; simp only [Act.put, List.setIfInBounds_toArray, List.set_cons_zero, List.set_cons_succ]) | (refine' InText.val (by rfl) (fun wr hr => ?_) ?_; rotate_left 1; (focus (obtain ⟨hrc, hrf⟩ := bcell hr; (go_simp <;> with_reducible rfl); done)); simp only [Act.put, List.setIfInBounds_toArray, List.set_cons_zero, List.set_cons_succ]))
            refine fun wrm1 hrm1 => ?_
            obtain ⟨hrcm1, hrfm1⟩ := bcell hrm1
            clear cn fn zn cs fs zs cq fq zq
            replace rn := rn.keep hrm1
            replace rs := rs.keep hrm1
            replace rq := rq.keep hrm1
            replace kw := kw.trans (hrm1.mono kw.size)
            have cn : ∀ j, wrm1.cell? ⟨W31.heap.size, j, none⟩ = (#[.int .i64 Am, .int .i64 B0, .int .i64 C, .int .i64 Ap, .int .i64 B0, .int .i64 C, .int .i64 A, .int .i64 Bm, .int .i64 C, .int .i64 A, .int .i64 Bp, .int .i64 C, .int .i64 A, .int .i64 B0, .int .i64 Cm, .int .i64 A, .int .i64 B0, .int .i64 Cp] : Array Value)[j]? := rn.cell
            have fn : ∀ j, wrm1.frozen? ⟨W31.heap.size, j, none⟩ = false := rn.frozen
            have zn : W31.heap.size < wrm1.heap.size := rn.lt
            have cs : ∀ j, wrm1.cell? ⟨W33.heap.size, j, none⟩ = (#[.int .i64 P, .int .i64 Q, .int .i64 (P - 1), .int .i64 Q, .int .i64 (P + 1), .int .i64 Q, .int .i64 P, .int .i64 (Q - 1), .int .i64 P, .int .i64 (Q + 1)] : Array Value)[j]? := rs.cell
            have fs : ∀ j, wrm1.frozen? ⟨W33.heap.size, j, none⟩ = false := rs.frozen
            have zs : W33.heap.size < wrm1.heap.size := rs.lt
            have cq : ∀ j, wrm1.cell? ⟨W41.heap.size, j, none⟩ = (#[.int .i64 P, .int .i64 Q] : Array Value)[j]? := rq.cell
            have fq : ∀ j, wrm1.frozen? ⟨W41.heap.size, j, none⟩ = false := rq.frozen
            have zq : W41.heap.size < wrm1.heap.size := rq.lt
            clear hrm1 hrcm1 hrfm1
            go_wp2_with fail
            rw [rounds_succ]
            go_wp2_with fail
            refine region_below 8 (by kernel_rfl) (by kernel_rfl) ?_
            simp only [List.take_succ_cons, List.take_zero, List.drop_succ_cons, List.drop_zero]
            repeat (first | (refine' InText.skip (by rfl) ?_; simp only [Act.put, List.setIfInBounds_toArray, List.set_cons_zero, List.set_cons_succ]) | (refine' InText.val (by rfl) (fun wr hr => ?_) ?_; rotate_left 1; (focus (obtain ⟨hrc, hrf⟩ := bcell hr; (go_simp <;> with_reducible rfl); done)); simp only [Act.put, List.setIfInBounds_toArray, List.set_cons_zero, List.set_cons_succ]))
            refine fun wrm2 hrm2 => ?_
            obtain ⟨hrcm2, hrfm2⟩ := bcell hrm2
            clear cn fn zn cs fs zs cq fq zq
            replace rn := rn.keep hrm2
            replace rs := rs.keep hrm2
            replace rq := rq.keep hrm2
            replace kw := kw.trans (hrm2.mono kw.size)
            have cn : ∀ j, wrm2.cell? ⟨W31.heap.size, j, none⟩ = (#[.int .i64 Am, .int .i64 B0, .int .i64 C, .int .i64 Ap, .int .i64 B0, .int .i64 C, .int .i64 A, .int .i64 Bm, .int .i64 C, .int .i64 A, .int .i64 Bp, .int .i64 C, .int .i64 A, .int .i64 B0, .int .i64 Cm, .int .i64 A, .int .i64 B0, .int .i64 Cp] : Array Value)[j]? := rn.cell
            have fn : ∀ j, wrm2.frozen? ⟨W31.heap.size, j, none⟩ = false := rn.frozen
            have zn : W31.heap.size < wrm2.heap.size := rn.lt
            have cs : ∀ j, wrm2.cell? ⟨W33.heap.size, j, none⟩ = (#[.int .i64 P, .int .i64 Q, .int .i64 (P - 1), .int .i64 Q, .int .i64 (P + 1), .int .i64 Q, .int .i64 P, .int .i64 (Q - 1), .int .i64 P, .int .i64 (Q + 1)] : Array Value)[j]? := rs.cell
            have fs : ∀ j, wrm2.frozen? ⟨W33.heap.size, j, none⟩ = false := rs.frozen
            have zs : W33.heap.size < wrm2.heap.size := rs.lt
            have cq : ∀ j, wrm2.cell? ⟨W41.heap.size, j, none⟩ = (#[.int .i64 P, .int .i64 Q] : Array Value)[j]? := rq.cell
            have fq : ∀ j, wrm2.frozen? ⟨W41.heap.size, j, none⟩ = false := rq.frozen
            have zq : W41.heap.size < wrm2.heap.size := rq.lt
            clear hrm2 hrcm2 hrfm2
            go_wp2_with fail
            rw [rounds_succ]
            go_wp2_with fail
            refine region_below 8 (by kernel_rfl) (by kernel_rfl) ?_
            simp only [List.take_succ_cons, List.take_zero, List.drop_succ_cons, List.drop_zero]
            repeat (first | (refine' InText.skip (by rfl) ?_; simp only [Act.put, List.setIfInBounds_toArray, List.set_cons_zero, List.set_cons_succ]) | (refine' InText.val (by rfl) (fun wr hr => ?_) ?_; rotate_left 1; (focus (obtain ⟨hrc, hrf⟩ := bcell hr; (go_simp <;> with_reducible rfl); done)); simp only [Act.put, List.setIfInBounds_toArray, List.set_cons_zero, List.set_cons_succ]))
            refine fun wrm3 hrm3 => ?_
            obtain ⟨hrcm3, hrfm3⟩ := bcell hrm3
            clear cn fn zn cs fs zs cq fq zq
            replace rn := rn.keep hrm3
            replace rs := rs.keep hrm3
            replace rq := rq.keep hrm3
            replace kw := kw.trans (hrm3.mono kw.size)
            have cn : ∀ j, wrm3.cell? ⟨W31.heap.size, j, none⟩ = (#[.int .i64 Am, .int .i64 B0, .int .i64 C, .int .i64 Ap, .int .i64 B0, .int .i64 C, .int .i64 A, .int .i64 Bm, .int .i64 C, .int .i64 A, .int .i64 Bp, .int .i64 C, .int .i64 A, .int .i64 B0, .int .i64 Cm, .int .i64 A, .int .i64 B0, .int .i64 Cp] : Array Value)[j]? := rn.cell
            have fn : ∀ j, wrm3.frozen? ⟨W31.heap.size, j, none⟩ = false := rn.frozen
            have zn : W31.heap.size < wrm3.heap.size := rn.lt
            have cs : ∀ j, wrm3.cell? ⟨W33.heap.size, j, none⟩ = (#[.int .i64 P, .int .i64 Q, .int .i64 (P - 1), .int .i64 Q, .int .i64 (P + 1), .int .i64 Q, .int .i64 P, .int .i64 (Q - 1), .int .i64 P, .int .i64 (Q + 1)] : Array Value)[j]? := rs.cell
            have fs : ∀ j, wrm3.frozen? ⟨W33.heap.size, j, none⟩ = false := rs.frozen
            have zs : W33.heap.size < wrm3.heap.size := rs.lt
            have cq : ∀ j, wrm3.cell? ⟨W41.heap.size, j, none⟩ = (#[.int .i64 P, .int .i64 Q] : Array Value)[j]? := rq.cell
            have fq : ∀ j, wrm3.frozen? ⟨W41.heap.size, j, none⟩ = false := rq.frozen
            have zq : W41.heap.size < wrm3.heap.size := rq.lt
            clear hrm3 hrcm3 hrfm3
            go_wp2_with fail
            rw [rounds_succ]
            go_wp2_with fail
            refine region_below 8 (by kernel_rfl) (by kernel_rfl) ?_
            simp only [List.take_succ_cons, List.take_zero, List.drop_succ_cons, List.drop_zero]
            repeat (first | (refine' InText.skip (by rfl) ?_; simp only [Act.put, List.setIfInBounds_toArray, List.set_cons_zero, List.set_cons_succ]) | (refine' InText.val (by rfl) (fun wr hr => ?_) ?_; rotate_left 1; (focus (obtain ⟨hrc, hrf⟩ := bcell hr; (go_simp <;> with_reducible rfl); done)); simp only [Act.put, List.setIfInBounds_toArray, List.set_cons_zero, List.set_cons_succ]))
            refine fun wrm4 hrm4 => ?_
            obtain ⟨hrcm4, hrfm4⟩ := bcell hrm4
            clear cn fn zn cs fs zs cq fq zq
            replace rn := rn.keep hrm4
            replace rs := rs.keep hrm4
            replace rq := rq.keep hrm4
            replace kw := kw.trans (hrm4.mono kw.size)
            have cn : ∀ j, wrm4.cell? ⟨W31.heap.size, j, none⟩ = (#[.int .i64 Am, .int .i64 B0, .int .i64 C, .int .i64 Ap, .int .i64 B0, .int .i64 C, .int .i64 A, .int .i64 Bm, .int .i64 C, .int .i64 A, .int .i64 Bp, .int .i64 C, .int .i64 A, .int .i64 B0, .int .i64 Cm, .int .i64 A, .int .i64 B0, .int .i64 Cp] : Array Value)[j]? := rn.cell
            have fn : ∀ j, wrm4.frozen? ⟨W31.heap.size, j, none⟩ = false := rn.frozen
            have zn : W31.heap.size < wrm4.heap.size := rn.lt
            have cs : ∀ j, wrm4.cell? ⟨W33.heap.size, j, none⟩ = (#[.int .i64 P, .int .i64 Q, .int .i64 (P - 1), .int .i64 Q, .int .i64 (P + 1), .int .i64 Q, .int .i64 P, .int .i64 (Q - 1), .int .i64 P, .int .i64 (Q + 1)] : Array Value)[j]? := rs.cell
            have fs : ∀ j, wrm4.frozen? ⟨W33.heap.size, j, none⟩ = false := rs.frozen
            have zs : W33.heap.size < wrm4.heap.size := rs.lt
            have cq : ∀ j, wrm4.cell? ⟨W41.heap.size, j, none⟩ = (#[.int .i64 P, .int .i64 Q] : Array Value)[j]? := rq.cell
            have fq : ∀ j, wrm4.frozen? ⟨W41.heap.size, j, none⟩ = false := rq.frozen
            have zq : W41.heap.size < wrm4.heap.size := rq.lt
            clear hrm4 hrcm4 hrfm4
            go_wp2_with fail
            rw [rounds_succ]
            go_wp2_with fail
            go_roundw
            case rel =>
              exact ⟨2, by omega, by go_num, by (repeat (first | with_reducible assumption | with_reducible exact Below.refl _ _ | with_reducible refine Below.drew ?_ | with_reducible refine below_drewN ?_ _ | with_reducible refine al ?_ _ | (with_reducible refine sc ?_ ?_; (focus (first | omega | (simp; done) | (simp; omega)))) | (with_reducible refine chain ?_ (by assumption)))), rn, rs⟩
            case measure => simp [intOf]
          · have HQ := Hq1.out
            rw [e0] at HQ
            clear e0
            have HQQ := Lib.hid HQ
            clear HQ
            have v0 : eq2B (P + 1) (Q) (P) (Q) = false := by simp [eq2B] <;> omega
            have v1 : eq2B (P + 1) (Q) (P - 1) (Q) = false := by simp [eq2B] <;> omega
            have v2 : eq2B (P + 1) (Q) (P + 1) (Q) = true := by simp [eq2B]
            go_wp2_with fail
            (refine (HQQ.out _).mono ?_; rintro e W41 ⟨rfl, hW41⟩)
            clear cn fn zn cs fs zs
            replace rn := rn.keep hW41
            replace rs := rs.keep hW41
            replace kw := kw.trans (hW41.mono kw.size)
            have cn : ∀ j, W41.cell? ⟨W31.heap.size, j, none⟩ = (#[.int .i64 Am, .int .i64 B0, .int .i64 C, .int .i64 Ap, .int .i64 B0, .int .i64 C, .int .i64 A, .int .i64 Bm, .int .i64 C, .int .i64 A, .int .i64 Bp, .int .i64 C, .int .i64 A, .int .i64 B0, .int .i64 Cm, .int .i64 A, .int .i64 B0, .int .i64 Cp] : Array Value)[j]? := rn.cell
            have fn : ∀ j, W41.frozen? ⟨W31.heap.size, j, none⟩ = false := rn.frozen
            have zn : W31.heap.size < W41.heap.size := rn.lt
            have cs : ∀ j, W41.cell? ⟨W33.heap.size, j, none⟩ = (#[.int .i64 P, .int .i64 Q, .int .i64 (P - 1), .int .i64 Q, .int .i64 (P + 1), .int .i64 Q, .int .i64 P, .int .i64 (Q - 1), .int .i64 P, .int .i64 (Q + 1)] : Array Value)[j]? := rs.cell
            have fs : ∀ j, W41.frozen? ⟨W33.heap.size, j, none⟩ = false := rs.frozen
            have zs : W33.heap.size < W41.heap.size := rs.lt
            clear hW41
            go_wp2_with fail
            have yqn : W31.heap.size < W41.heap.size := by omega
            have yqs : W33.heap.size < W41.heap.size := by omega
            replace kw : Below w.heap.size w (W41.alloc (.cells #[.int .i64 (P + 1), .int .i64 Q] 38)) := by (repeat (first | with_reducible assumption | with_reducible exact Below.refl _ _ | with_reducible refine Below.drew ?_ | with_reducible refine below_drewN ?_ _ | with_reducible refine al ?_ _ | (with_reducible refine sc ?_ ?_; (focus (first | omega | (simp; done) | (simp; omega)))) | (with_reducible refine chain ?_ (by assumption))))
            replace rn : RowAt (W41.alloc (.cells #[.int .i64 (P + 1), .int .i64 Q] 38)) (W31.heap.size) #[.int .i64 Am, .int .i64 B0, .int .i64 C, .int .i64 Ap, .int .i64 B0, .int .i64 C, .int .i64 A, .int .i64 Bm, .int .i64 C, .int .i64 A, .int .i64 Bp, .int .i64 C, .int .i64 A, .int .i64 B0, .int .i64 Cm, .int .i64 A, .int .i64 B0, .int .i64 Cp] 45 := (rn.alloc _)
            replace rs : RowAt (W41.alloc (.cells #[.int .i64 (P + 1), .int .i64 Q] 38)) (W33.heap.size) #[.int .i64 P, .int .i64 Q, .int .i64 (P - 1), .int .i64 Q, .int .i64 (P + 1), .int .i64 Q, .int .i64 P, .int .i64 (Q - 1), .int .i64 P, .int .i64 (Q + 1)] 47 := (rs.alloc _)
            have rq : RowAt (W41.alloc (.cells #[.int .i64 (P + 1), .int .i64 Q] 38)) (W41.heap.size) #[.int .i64 (P + 1), .int .i64 Q] 38 := (RowAt.make _ _ _ (by first | rfl | (simp [World.setCell]; done)))
            clear cn fn zn cs fs zs
            generalize (W41.alloc (.cells #[.int .i64 (P + 1), .int .i64 Q] 38)) = W42 at *
            have cn : ∀ j, W42.cell? ⟨W31.heap.size, j, none⟩ = (#[.int .i64 Am, .int .i64 B0, .int .i64 C, .int .i64 Ap, .int .i64 B0, .int .i64 C, .int .i64 A, .int .i64 Bm, .int .i64 C, .int .i64 A, .int .i64 Bp, .int .i64 C, .int .i64 A, .int .i64 B0, .int .i64 Cm, .int .i64 A, .int .i64 B0, .int .i64 Cp] : Array Value)[j]? := rn.cell
            have fn : ∀ j, W42.frozen? ⟨W31.heap.size, j, none⟩ = false := rn.frozen
            have zn : W31.heap.size < W42.heap.size := rn.lt
            have cs : ∀ j, W42.cell? ⟨W33.heap.size, j, none⟩ = (#[.int .i64 P, .int .i64 Q, .int .i64 (P - 1), .int .i64 Q, .int .i64 (P + 1), .int .i64 Q, .int .i64 P, .int .i64 (Q - 1), .int .i64 P, .int .i64 (Q + 1)] : Array Value)[j]? := rs.cell
            have fs : ∀ j, W42.frozen? ⟨W33.heap.size, j, none⟩ = false := rs.frozen
            have zs : W33.heap.size < W42.heap.size := rs.lt
            have cq : ∀ j, W42.cell? ⟨W41.heap.size, j, none⟩ = (#[.int .i64 (P + 1), .int .i64 Q] : Array Value)[j]? := rq.cell
            have fq : ∀ j, W42.frozen? ⟨W41.heap.size, j, none⟩ = false := rq.frozen
            have zq : W41.heap.size < W42.heap.size := rq.lt
            refine wp_loop_rounds 6 ?_
            rw [rounds_succ]
            go_wp2_with fail
            refine region_below 8 (by kernel_rfl) (by kernel_rfl) ?_
            simp only [List.take_succ_cons, List.take_zero, List.drop_succ_cons, List.drop_zero]
            repeat (first | (refine' InText.skip (by rfl) ?_; simp only [Act.put, List.setIfInBounds_toArray, List.set_cons_zero, List.set_cons_succ]) | (refine' InText.val (by rfl) (fun wr hr => ?_) ?_; rotate_left 1; (focus (obtain ⟨hrc, hrf⟩ := bcell hr; (go_simp <;> with_reducible rfl); done)); simp only [Act.put, List.setIfInBounds_toArray, List.set_cons_zero, List.set_cons_succ]))
            refine fun wrm0 hrm0 => ?_
            obtain ⟨hrcm0, hrfm0⟩ := bcell hrm0
            clear cn fn zn cs fs zs cq fq zq
            replace rn := rn.keep hrm0
            replace rs := rs.keep hrm0
            replace rq := rq.keep hrm0
            replace kw := kw.trans (hrm0.mono kw.size)
            have cn : ∀ j, wrm0.cell? ⟨W31.heap.size, j, none⟩ = (#[.int .i64 Am, .int .i64 B0, .int .i64 C, .int .i64 Ap, .int .i64 B0, .int .i64 C, .int .i64 A, .int .i64 Bm, .int .i64 C, .int .i64 A, .int .i64 Bp, .int .i64 C, .int .i64 A, .int .i64 B0, .int .i64 Cm, .int .i64 A, .int .i64 B0, .int .i64 Cp] : Array Value)[j]? := rn.cell
            have fn : ∀ j, wrm0.frozen? ⟨W31.heap.size, j, none⟩ = false := rn.frozen
            have zn : W31.heap.size < wrm0.heap.size := rn.lt
            have cs : ∀ j, wrm0.cell? ⟨W33.heap.size, j, none⟩ = (#[.int .i64 P, .int .i64 Q, .int .i64 (P - 1), .int .i64 Q, .int .i64 (P + 1), .int .i64 Q, .int .i64 P, .int .i64 (Q - 1), .int .i64 P, .int .i64 (Q + 1)] : Array Value)[j]? := rs.cell
            have fs : ∀ j, wrm0.frozen? ⟨W33.heap.size, j, none⟩ = false := rs.frozen
            have zs : W33.heap.size < wrm0.heap.size := rs.lt
            have cq : ∀ j, wrm0.cell? ⟨W41.heap.size, j, none⟩ = (#[.int .i64 (P + 1), .int .i64 Q] : Array Value)[j]? := rq.cell
            have fq : ∀ j, wrm0.frozen? ⟨W41.heap.size, j, none⟩ = false := rq.frozen
            have zq : W41.heap.size < wrm0.heap.size := rq.lt
            clear hrm0 hrcm0 hrfm0
            go_wp2_with fail
            rw [rounds_succ]
            go_wp2_with fail
            refine region_below 8 (by kernel_rfl) (by kernel_rfl) ?_
            simp only [List.take_succ_cons, List.take_zero, List.drop_succ_cons, List.drop_zero]
            repeat (first | (refine' InText.skip (by rfl) ?_; simp only [Act.put, List.setIfInBounds_toArray, List.set_cons_zero, List.set_cons_succ]) | (refine' InText.val (by rfl) (fun wr hr => ?_) ?_; rotate_left 1; (focus (obtain ⟨hrc, hrf⟩ := bcell hr; (go_simp <;> with_reducible rfl); done)); simp only [Act.put, List.setIfInBounds_toArray, List.set_cons_zero, List.set_cons_succ]))
            refine fun wrm1 hrm1 => ?_
            obtain ⟨hrcm1, hrfm1⟩ := bcell hrm1
            clear cn fn zn cs fs zs cq fq zq
            replace rn := rn.keep hrm1
            replace rs := rs.keep hrm1
            replace rq := rq.keep hrm1
            replace kw := kw.trans (hrm1.mono kw.size)
            have cn : ∀ j, wrm1.cell? ⟨W31.heap.size, j, none⟩ = (#[.int .i64 Am, .int .i64 B0, .int .i64 C, .int .i64 Ap, .int .i64 B0, .int .i64 C, .int .i64 A, .int .i64 Bm, .int .i64 C, .int .i64 A, .int .i64 Bp, .int .i64 C, .int .i64 A, .int .i64 B0, .int .i64 Cm, .int .i64 A, .int .i64 B0, .int .i64 Cp] : Array Value)[j]? := rn.cell
            have fn : ∀ j, wrm1.frozen? ⟨W31.heap.size, j, none⟩ = false := rn.frozen
            have zn : W31.heap.size < wrm1.heap.size := rn.lt
            have cs : ∀ j, wrm1.cell? ⟨W33.heap.size, j, none⟩ = (#[.int .i64 P, .int .i64 Q, .int .i64 (P - 1), .int .i64 Q, .int .i64 (P + 1), .int .i64 Q, .int .i64 P, .int .i64 (Q - 1), .int .i64 P, .int .i64 (Q + 1)] : Array Value)[j]? := rs.cell
            have fs : ∀ j, wrm1.frozen? ⟨W33.heap.size, j, none⟩ = false := rs.frozen
            have zs : W33.heap.size < wrm1.heap.size := rs.lt
            have cq : ∀ j, wrm1.cell? ⟨W41.heap.size, j, none⟩ = (#[.int .i64 (P + 1), .int .i64 Q] : Array Value)[j]? := rq.cell
            have fq : ∀ j, wrm1.frozen? ⟨W41.heap.size, j, none⟩ = false := rq.frozen
            have zq : W41.heap.size < wrm1.heap.size := rq.lt
            clear hrm1 hrcm1 hrfm1
            go_wp2_with fail
            rw [rounds_succ]
            go_wp2_with fail
            refine region_below 8 (by kernel_rfl) (by kernel_rfl) ?_
            simp only [List.take_succ_cons, List.take_zero, List.drop_succ_cons, List.drop_zero]
            repeat (first | (refine' InText.skip (by rfl) ?_; simp only [Act.put, List.setIfInBounds_toArray, List.set_cons_zero, List.set_cons_succ]) | (refine' InText.val (by rfl) (fun wr hr => ?_) ?_; rotate_left 1; (focus (obtain ⟨hrc, hrf⟩ := bcell hr; (go_simp <;> with_reducible rfl); done)); simp only [Act.put, List.setIfInBounds_toArray, List.set_cons_zero, List.set_cons_succ]))
            refine fun wrm2 hrm2 => ?_
            obtain ⟨hrcm2, hrfm2⟩ := bcell hrm2
            clear cn fn zn cs fs zs cq fq zq
            replace rn := rn.keep hrm2
            replace rs := rs.keep hrm2
            replace rq := rq.keep hrm2
            replace kw := kw.trans (hrm2.mono kw.size)
            have cn : ∀ j, wrm2.cell? ⟨W31.heap.size, j, none⟩ = (#[.int .i64 Am, .int .i64 B0, .int .i64 C, .int .i64 Ap, .int .i64 B0, .int .i64 C, .int .i64 A, .int .i64 Bm, .int .i64 C, .int .i64 A, .int .i64 Bp, .int .i64 C, .int .i64 A, .int .i64 B0, .int .i64 Cm, .int .i64 A, .int .i64 B0, .int .i64 Cp] : Array Value)[j]? := rn.cell
            have fn : ∀ j, wrm2.frozen? ⟨W31.heap.size, j, none⟩ = false := rn.frozen
            have zn : W31.heap.size < wrm2.heap.size := rn.lt
            have cs : ∀ j, wrm2.cell? ⟨W33.heap.size, j, none⟩ = (#[.int .i64 P, .int .i64 Q, .int .i64 (P - 1), .int .i64 Q, .int .i64 (P + 1), .int .i64 Q, .int .i64 P, .int .i64 (Q - 1), .int .i64 P, .int .i64 (Q + 1)] : Array Value)[j]? := rs.cell
            have fs : ∀ j, wrm2.frozen? ⟨W33.heap.size, j, none⟩ = false := rs.frozen
            have zs : W33.heap.size < wrm2.heap.size := rs.lt
            have cq : ∀ j, wrm2.cell? ⟨W41.heap.size, j, none⟩ = (#[.int .i64 (P + 1), .int .i64 Q] : Array Value)[j]? := rq.cell
            have fq : ∀ j, wrm2.frozen? ⟨W41.heap.size, j, none⟩ = false := rq.frozen
            have zq : W41.heap.size < wrm2.heap.size := rq.lt
            clear hrm2 hrcm2 hrfm2
            go_wp2_with fail
            rw [rounds_succ]
            go_wp2_with fail
            refine region_below 8 (by kernel_rfl) (by kernel_rfl) ?_
            simp only [List.take_succ_cons, List.take_zero, List.drop_succ_cons, List.drop_zero]
            repeat (first | (refine' InText.skip (by rfl) ?_; simp only [Act.put, List.setIfInBounds_toArray, List.set_cons_zero, List.set_cons_succ]) | (refine' InText.val (by rfl) (fun wr hr => ?_) ?_; rotate_left 1; (focus (obtain ⟨hrc, hrf⟩ := bcell hr; (go_simp <;> with_reducible rfl); done)); simp only [Act.put, List.setIfInBounds_toArray, List.set_cons_zero, List.set_cons_succ]))
            refine fun wrm3 hrm3 => ?_
            obtain ⟨hrcm3, hrfm3⟩ := bcell hrm3
            clear cn fn zn cs fs zs cq fq zq
            replace rn := rn.keep hrm3
            replace rs := rs.keep hrm3
            replace rq := rq.keep hrm3
            replace kw := kw.trans (hrm3.mono kw.size)
            have cn : ∀ j, wrm3.cell? ⟨W31.heap.size, j, none⟩ = (#[.int .i64 Am, .int .i64 B0, .int .i64 C, .int .i64 Ap, .int .i64 B0, .int .i64 C, .int .i64 A, .int .i64 Bm, .int .i64 C, .int .i64 A, .int .i64 Bp, .int .i64 C, .int .i64 A, .int .i64 B0, .int .i64 Cm, .int .i64 A, .int .i64 B0, .int .i64 Cp] : Array Value)[j]? := rn.cell
            have fn : ∀ j, wrm3.frozen? ⟨W31.heap.size, j, none⟩ = false := rn.frozen
            have zn : W31.heap.size < wrm3.heap.size := rn.lt
            have cs : ∀ j, wrm3.cell? ⟨W33.heap.size, j, none⟩ = (#[.int .i64 P, .int .i64 Q, .int .i64 (P - 1), .int .i64 Q, .int .i64 (P + 1), .int .i64 Q, .int .i64 P, .int .i64 (Q - 1), .int .i64 P, .int .i64 (Q + 1)] : Array Value)[j]? := rs.cell
            have fs : ∀ j, wrm3.frozen? ⟨W33.heap.size, j, none⟩ = false := rs.frozen
            have zs : W33.heap.size < wrm3.heap.size := rs.lt
            have cq : ∀ j, wrm3.cell? ⟨W41.heap.size, j, none⟩ = (#[.int .i64 (P + 1), .int .i64 Q] : Array Value)[j]? := rq.cell
            have fq : ∀ j, wrm3.frozen? ⟨W41.heap.size, j, none⟩ = false := rq.frozen
            have zq : W41.heap.size < wrm3.heap.size := rq.lt
            clear hrm3 hrcm3 hrfm3
            go_wp2_with fail
            rw [rounds_succ]
            go_wp2_with fail
            refine region_below 8 (by kernel_rfl) (by kernel_rfl) ?_
            simp only [List.take_succ_cons, List.take_zero, List.drop_succ_cons, List.drop_zero]
            repeat (first | (refine' InText.skip (by rfl) ?_; simp only [Act.put, List.setIfInBounds_toArray, List.set_cons_zero, List.set_cons_succ]) | (refine' InText.val (by rfl) (fun wr hr => ?_) ?_; rotate_left 1; (focus (obtain ⟨hrc, hrf⟩ := bcell hr; (go_simp <;> with_reducible rfl); done)); simp only [Act.put, List.setIfInBounds_toArray, List.set_cons_zero, List.set_cons_succ]))
            refine fun wrm4 hrm4 => ?_
            obtain ⟨hrcm4, hrfm4⟩ := bcell hrm4
            clear cn fn zn cs fs zs cq fq zq
            replace rn := rn.keep hrm4
            replace rs := rs.keep hrm4
            replace rq := rq.keep hrm4
            replace kw := kw.trans (hrm4.mono kw.size)
            have cn : ∀ j, wrm4.cell? ⟨W31.heap.size, j, none⟩ = (#[.int .i64 Am, .int .i64 B0, .int .i64 C, .int .i64 Ap, .int .i64 B0, .int .i64 C, .int .i64 A, .int .i64 Bm, .int .i64 C, .int .i64 A, .int .i64 Bp, .int .i64 C, .int .i64 A, .int .i64 B0, .int .i64 Cm, .int .i64 A, .int .i64 B0, .int .i64 Cp] : Array Value)[j]? := rn.cell
            have fn : ∀ j, wrm4.frozen? ⟨W31.heap.size, j, none⟩ = false := rn.frozen
            have zn : W31.heap.size < wrm4.heap.size := rn.lt
            have cs : ∀ j, wrm4.cell? ⟨W33.heap.size, j, none⟩ = (#[.int .i64 P, .int .i64 Q, .int .i64 (P - 1), .int .i64 Q, .int .i64 (P + 1), .int .i64 Q, .int .i64 P, .int .i64 (Q - 1), .int .i64 P, .int .i64 (Q + 1)] : Array Value)[j]? := rs.cell
            have fs : ∀ j, wrm4.frozen? ⟨W33.heap.size, j, none⟩ = false := rs.frozen
            have zs : W33.heap.size < wrm4.heap.size := rs.lt
            have cq : ∀ j, wrm4.cell? ⟨W41.heap.size, j, none⟩ = (#[.int .i64 (P + 1), .int .i64 Q] : Array Value)[j]? := rq.cell
            have fq : ∀ j, wrm4.frozen? ⟨W41.heap.size, j, none⟩ = false := rq.frozen
            have zq : W41.heap.size < wrm4.heap.size := rq.lt
            clear hrm4 hrcm4 hrfm4
            go_wp2_with fail
            rw [rounds_succ]
            go_wp2_with fail
            go_roundw
            case rel =>
              exact ⟨2, by omega, by go_num, by (repeat (first | with_reducible assumption | with_reducible exact Below.refl _ _ | with_reducible refine Below.drew ?_ | with_reducible refine below_drewN ?_ _ | with_reducible refine al ?_ _ | (with_reducible refine sc ?_ ?_; (focus (first | omega | (simp; done) | (simp; omega)))) | (with_reducible refine chain ?_ (by assumption)))), rn, rs⟩
            case measure => simp [intOf]
        · have cn : ∀ j, wr.cell? ⟨W31.heap.size, j, none⟩ = (#[.int .i64 Am, .int .i64 B0, .int .i64 C, .int .i64 Ap, .int .i64 B0, .int .i64 C, .int .i64 A, .int .i64 Bm, .int .i64 C, .int .i64 A, .int .i64 Bp, .int .i64 C, .int .i64 A, .int .i64 B0, .int .i64 Cm, .int .i64 A, .int .i64 B0, .int .i64 Cp] : Array Value)[j]? := rn.cell
          have fn : ∀ j, wr.frozen? ⟨W31.heap.size, j, none⟩ = false := rn.frozen
          have zn : W31.heap.size < wr.heap.size := rn.lt
          have cs : ∀ j, wr.cell? ⟨W33.heap.size, j, none⟩ = (#[.int .i64 P, .int .i64 Q, .int .i64 (P - 1), .int .i64 Q, .int .i64 (P + 1), .int .i64 Q, .int .i64 P, .int .i64 (Q - 1), .int .i64 P, .int .i64 (Q + 1)] : Array Value)[j]? := rs.cell
          have fs : ∀ j, wr.frozen? ⟨W33.heap.size, j, none⟩ = false := rs.frozen
          have zs : W33.heap.size < wr.heap.size := rs.lt
          have q5 := eq2p_run
          have HQQ := Hq2
          have v0 : eq2B (P) (Q) (P) (Q) = true := by simp [eq2B]
          go_wp2_with fail
          (refine (HQQ.out _).mono ?_; rintro e W41 ⟨rfl, hW41⟩)
          clear cn fn zn cs fs zs
          replace rn := rn.keep hW41
          replace rs := rs.keep hW41
          replace kw := kw.trans (hW41.mono kw.size)
          have cn : ∀ j, W41.cell? ⟨W31.heap.size, j, none⟩ = (#[.int .i64 Am, .int .i64 B0, .int .i64 C, .int .i64 Ap, .int .i64 B0, .int .i64 C, .int .i64 A, .int .i64 Bm, .int .i64 C, .int .i64 A, .int .i64 Bp, .int .i64 C, .int .i64 A, .int .i64 B0, .int .i64 Cm, .int .i64 A, .int .i64 B0, .int .i64 Cp] : Array Value)[j]? := rn.cell
          have fn : ∀ j, W41.frozen? ⟨W31.heap.size, j, none⟩ = false := rn.frozen
          have zn : W31.heap.size < W41.heap.size := rn.lt
          have cs : ∀ j, W41.cell? ⟨W33.heap.size, j, none⟩ = (#[.int .i64 P, .int .i64 Q, .int .i64 (P - 1), .int .i64 Q, .int .i64 (P + 1), .int .i64 Q, .int .i64 P, .int .i64 (Q - 1), .int .i64 P, .int .i64 (Q + 1)] : Array Value)[j]? := rs.cell
          have fs : ∀ j, W41.frozen? ⟨W33.heap.size, j, none⟩ = false := rs.frozen
          have zs : W33.heap.size < W41.heap.size := rs.lt
          clear hW41
          go_wp2_with fail
          have yqn : W31.heap.size < W41.heap.size := by omega
          have yqs : W33.heap.size < W41.heap.size := by omega
          replace kw : Below w.heap.size w (W41.alloc (.cells #[.int .i64 P, .int .i64 Q] 38)) := by (repeat (first | with_reducible assumption | with_reducible exact Below.refl _ _ | with_reducible refine Below.drew ?_ | with_reducible refine below_drewN ?_ _ | with_reducible refine al ?_ _ | (with_reducible refine sc ?_ ?_; (focus (first | omega | (simp; done) | (simp; omega)))) | (with_reducible refine chain ?_ (by assumption))))
          replace rn : RowAt (W41.alloc (.cells #[.int .i64 P, .int .i64 Q] 38)) (W31.heap.size) #[.int .i64 Am, .int .i64 B0, .int .i64 C, .int .i64 Ap, .int .i64 B0, .int .i64 C, .int .i64 A, .int .i64 Bm, .int .i64 C, .int .i64 A, .int .i64 Bp, .int .i64 C, .int .i64 A, .int .i64 B0, .int .i64 Cm, .int .i64 A, .int .i64 B0, .int .i64 Cp] 45 := (rn.alloc _)
          replace rs : RowAt (W41.alloc (.cells #[.int .i64 P, .int .i64 Q] 38)) (W33.heap.size) #[.int .i64 P, .int .i64 Q, .int .i64 (P - 1), .int .i64 Q, .int .i64 (P + 1), .int .i64 Q, .int .i64 P, .int .i64 (Q - 1), .int .i64 P, .int .i64 (Q + 1)] 47 := (rs.alloc _)
          have rq : RowAt (W41.alloc (.cells #[.int .i64 P, .int .i64 Q] 38)) (W41.heap.size) #[.int .i64 P, .int .i64 Q] 38 := (RowAt.make _ _ _ (by first | rfl | (simp [World.setCell]; done)))
          clear cn fn zn cs fs zs
          generalize (W41.alloc (.cells #[.int .i64 P, .int .i64 Q] 38)) = W42 at *
          have cn : ∀ j, W42.cell? ⟨W31.heap.size, j, none⟩ = (#[.int .i64 Am, .int .i64 B0, .int .i64 C, .int .i64 Ap, .int .i64 B0, .int .i64 C, .int .i64 A, .int .i64 Bm, .int .i64 C, .int .i64 A, .int .i64 Bp, .int .i64 C, .int .i64 A, .int .i64 B0, .int .i64 Cm, .int .i64 A, .int .i64 B0, .int .i64 Cp] : Array Value)[j]? := rn.cell
          have fn : ∀ j, W42.frozen? ⟨W31.heap.size, j, none⟩ = false := rn.frozen
          have zn : W31.heap.size < W42.heap.size := rn.lt
          have cs : ∀ j, W42.cell? ⟨W33.heap.size, j, none⟩ = (#[.int .i64 P, .int .i64 Q, .int .i64 (P - 1), .int .i64 Q, .int .i64 (P + 1), .int .i64 Q, .int .i64 P, .int .i64 (Q - 1), .int .i64 P, .int .i64 (Q + 1)] : Array Value)[j]? := rs.cell
          have fs : ∀ j, W42.frozen? ⟨W33.heap.size, j, none⟩ = false := rs.frozen
          have zs : W33.heap.size < W42.heap.size := rs.lt
          have cq : ∀ j, W42.cell? ⟨W41.heap.size, j, none⟩ = (#[.int .i64 P, .int .i64 Q] : Array Value)[j]? := rq.cell
          have fq : ∀ j, W42.frozen? ⟨W41.heap.size, j, none⟩ = false := rq.frozen
          have zq : W41.heap.size < W42.heap.size := rq.lt
          refine wp_loop_rounds 6 ?_
          rw [rounds_succ]
          go_wp2_with fail
          refine region_below 8 (by kernel_rfl) (by kernel_rfl) ?_
          simp only [List.take_succ_cons, List.take_zero, List.drop_succ_cons, List.drop_zero]
          repeat (first | (refine' InText.skip (by rfl) ?_; simp only [Act.put, List.setIfInBounds_toArray, List.set_cons_zero, List.set_cons_succ]) | (refine' InText.val (by rfl) (fun wr hr => ?_) ?_; rotate_left 1; (focus (obtain ⟨hrc, hrf⟩ := bcell hr; (go_simp <;> with_reducible rfl); done)); simp only [Act.put, List.setIfInBounds_toArray, List.set_cons_zero, List.set_cons_succ]))
          refine fun wrm0 hrm0 => ?_
          obtain ⟨hrcm0, hrfm0⟩ := bcell hrm0
          clear cn fn zn cs fs zs cq fq zq
          replace rn := rn.keep hrm0
          replace rs := rs.keep hrm0
          replace rq := rq.keep hrm0
          replace kw := kw.trans (hrm0.mono kw.size)
          have cn : ∀ j, wrm0.cell? ⟨W31.heap.size, j, none⟩ = (#[.int .i64 Am, .int .i64 B0, .int .i64 C, .int .i64 Ap, .int .i64 B0, .int .i64 C, .int .i64 A, .int .i64 Bm, .int .i64 C, .int .i64 A, .int .i64 Bp, .int .i64 C, .int .i64 A, .int .i64 B0, .int .i64 Cm, .int .i64 A, .int .i64 B0, .int .i64 Cp] : Array Value)[j]? := rn.cell
          have fn : ∀ j, wrm0.frozen? ⟨W31.heap.size, j, none⟩ = false := rn.frozen
          have zn : W31.heap.size < wrm0.heap.size := rn.lt
          have cs : ∀ j, wrm0.cell? ⟨W33.heap.size, j, none⟩ = (#[.int .i64 P, .int .i64 Q, .int .i64 (P - 1), .int .i64 Q, .int .i64 (P + 1), .int .i64 Q, .int .i64 P, .int .i64 (Q - 1), .int .i64 P, .int .i64 (Q + 1)] : Array Value)[j]? := rs.cell
          have fs : ∀ j, wrm0.frozen? ⟨W33.heap.size, j, none⟩ = false := rs.frozen
          have zs : W33.heap.size < wrm0.heap.size := rs.lt
          have cq : ∀ j, wrm0.cell? ⟨W41.heap.size, j, none⟩ = (#[.int .i64 P, .int .i64 Q] : Array Value)[j]? := rq.cell
          have fq : ∀ j, wrm0.frozen? ⟨W41.heap.size, j, none⟩ = false := rq.frozen
          have zq : W41.heap.size < wrm0.heap.size := rq.lt
          clear hrm0 hrcm0 hrfm0
          go_wp2_with fail
          rw [rounds_succ]
          go_wp2_with fail
          refine region_below 8 (by kernel_rfl) (by kernel_rfl) ?_
          simp only [List.take_succ_cons, List.take_zero, List.drop_succ_cons, List.drop_zero]
          repeat (first | (refine' InText.skip (by rfl) ?_; simp only [Act.put, List.setIfInBounds_toArray, List.set_cons_zero, List.set_cons_succ]) | (refine' InText.val (by rfl) (fun wr hr => ?_) ?_; rotate_left 1; (focus (obtain ⟨hrc, hrf⟩ := bcell hr; (go_simp <;> with_reducible rfl); done)); simp only [Act.put, List.setIfInBounds_toArray, List.set_cons_zero, List.set_cons_succ]))
          refine fun wrm1 hrm1 => ?_
          obtain ⟨hrcm1, hrfm1⟩ := bcell hrm1
          clear cn fn zn cs fs zs cq fq zq
          replace rn := rn.keep hrm1
          replace rs := rs.keep hrm1
          replace rq := rq.keep hrm1
          replace kw := kw.trans (hrm1.mono kw.size)
          have cn : ∀ j, wrm1.cell? ⟨W31.heap.size, j, none⟩ = (#[.int .i64 Am, .int .i64 B0, .int .i64 C, .int .i64 Ap, .int .i64 B0, .int .i64 C, .int .i64 A, .int .i64 Bm, .int .i64 C, .int .i64 A, .int .i64 Bp, .int .i64 C, .int .i64 A, .int .i64 B0, .int .i64 Cm, .int .i64 A, .int .i64 B0, .int .i64 Cp] : Array Value)[j]? := rn.cell
          have fn : ∀ j, wrm1.frozen? ⟨W31.heap.size, j, none⟩ = false := rn.frozen
          have zn : W31.heap.size < wrm1.heap.size := rn.lt
          have cs : ∀ j, wrm1.cell? ⟨W33.heap.size, j, none⟩ = (#[.int .i64 P, .int .i64 Q, .int .i64 (P - 1), .int .i64 Q, .int .i64 (P + 1), .int .i64 Q, .int .i64 P, .int .i64 (Q - 1), .int .i64 P, .int .i64 (Q + 1)] : Array Value)[j]? := rs.cell
          have fs : ∀ j, wrm1.frozen? ⟨W33.heap.size, j, none⟩ = false := rs.frozen
          have zs : W33.heap.size < wrm1.heap.size := rs.lt
          have cq : ∀ j, wrm1.cell? ⟨W41.heap.size, j, none⟩ = (#[.int .i64 P, .int .i64 Q] : Array Value)[j]? := rq.cell
          have fq : ∀ j, wrm1.frozen? ⟨W41.heap.size, j, none⟩ = false := rq.frozen
          have zq : W41.heap.size < wrm1.heap.size := rq.lt
          clear hrm1 hrcm1 hrfm1
          go_wp2_with fail
          rw [rounds_succ]
          go_wp2_with fail
          refine region_below 8 (by kernel_rfl) (by kernel_rfl) ?_
          simp only [List.take_succ_cons, List.take_zero, List.drop_succ_cons, List.drop_zero]
          repeat (first | (refine' InText.skip (by rfl) ?_; simp only [Act.put, List.setIfInBounds_toArray, List.set_cons_zero, List.set_cons_succ]) | (refine' InText.val (by rfl) (fun wr hr => ?_) ?_; rotate_left 1; (focus (obtain ⟨hrc, hrf⟩ := bcell hr; (go_simp <;> with_reducible rfl); done)); simp only [Act.put, List.setIfInBounds_toArray, List.set_cons_zero, List.set_cons_succ]))
          refine fun wrm2 hrm2 => ?_
          obtain ⟨hrcm2, hrfm2⟩ := bcell hrm2
          clear cn fn zn cs fs zs cq fq zq
          replace rn := rn.keep hrm2
          replace rs := rs.keep hrm2
          replace rq := rq.keep hrm2
          replace kw := kw.trans (hrm2.mono kw.size)
          have cn : ∀ j, wrm2.cell? ⟨W31.heap.size, j, none⟩ = (#[.int .i64 Am, .int .i64 B0, .int .i64 C, .int .i64 Ap, .int .i64 B0, .int .i64 C, .int .i64 A, .int .i64 Bm, .int .i64 C, .int .i64 A, .int .i64 Bp, .int .i64 C, .int .i64 A, .int .i64 B0, .int .i64 Cm, .int .i64 A, .int .i64 B0, .int .i64 Cp] : Array Value)[j]? := rn.cell
          have fn : ∀ j, wrm2.frozen? ⟨W31.heap.size, j, none⟩ = false := rn.frozen
          have zn : W31.heap.size < wrm2.heap.size := rn.lt
          have cs : ∀ j, wrm2.cell? ⟨W33.heap.size, j, none⟩ = (#[.int .i64 P, .int .i64 Q, .int .i64 (P - 1), .int .i64 Q, .int .i64 (P + 1), .int .i64 Q, .int .i64 P, .int .i64 (Q - 1), .int .i64 P, .int .i64 (Q + 1)] : Array Value)[j]? := rs.cell
          have fs : ∀ j, wrm2.frozen? ⟨W33.heap.size, j, none⟩ = false := rs.frozen
          have zs : W33.heap.size < wrm2.heap.size := rs.lt
          have cq : ∀ j, wrm2.cell? ⟨W41.heap.size, j, none⟩ = (#[.int .i64 P, .int .i64 Q] : Array Value)[j]? := rq.cell
          have fq : ∀ j, wrm2.frozen? ⟨W41.heap.size, j, none⟩ = false := rq.frozen
          have zq : W41.heap.size < wrm2.heap.size := rq.lt
          clear hrm2 hrcm2 hrfm2
          go_wp2_with fail
          rw [rounds_succ]
          go_wp2_with fail
          refine region_below 8 (by kernel_rfl) (by kernel_rfl) ?_
          simp only [List.take_succ_cons, List.take_zero, List.drop_succ_cons, List.drop_zero]
          repeat (first | (refine' InText.skip (by rfl) ?_; simp only [Act.put, List.setIfInBounds_toArray, List.set_cons_zero, List.set_cons_succ]) | (refine' InText.val (by rfl) (fun wr hr => ?_) ?_; rotate_left 1; (focus (obtain ⟨hrc, hrf⟩ := bcell hr; (go_simp <;> with_reducible rfl); done)); simp only [Act.put, List.setIfInBounds_toArray, List.set_cons_zero, List.set_cons_succ]))
          refine fun wrm3 hrm3 => ?_
          obtain ⟨hrcm3, hrfm3⟩ := bcell hrm3
          clear cn fn zn cs fs zs cq fq zq
          replace rn := rn.keep hrm3
          replace rs := rs.keep hrm3
          replace rq := rq.keep hrm3
          replace kw := kw.trans (hrm3.mono kw.size)
          have cn : ∀ j, wrm3.cell? ⟨W31.heap.size, j, none⟩ = (#[.int .i64 Am, .int .i64 B0, .int .i64 C, .int .i64 Ap, .int .i64 B0, .int .i64 C, .int .i64 A, .int .i64 Bm, .int .i64 C, .int .i64 A, .int .i64 Bp, .int .i64 C, .int .i64 A, .int .i64 B0, .int .i64 Cm, .int .i64 A, .int .i64 B0, .int .i64 Cp] : Array Value)[j]? := rn.cell
          have fn : ∀ j, wrm3.frozen? ⟨W31.heap.size, j, none⟩ = false := rn.frozen
          have zn : W31.heap.size < wrm3.heap.size := rn.lt
          have cs : ∀ j, wrm3.cell? ⟨W33.heap.size, j, none⟩ = (#[.int .i64 P, .int .i64 Q, .int .i64 (P - 1), .int .i64 Q, .int .i64 (P + 1), .int .i64 Q, .int .i64 P, .int .i64 (Q - 1), .int .i64 P, .int .i64 (Q + 1)] : Array Value)[j]? := rs.cell
          have fs : ∀ j, wrm3.frozen? ⟨W33.heap.size, j, none⟩ = false := rs.frozen
          have zs : W33.heap.size < wrm3.heap.size := rs.lt
          have cq : ∀ j, wrm3.cell? ⟨W41.heap.size, j, none⟩ = (#[.int .i64 P, .int .i64 Q] : Array Value)[j]? := rq.cell
          have fq : ∀ j, wrm3.frozen? ⟨W41.heap.size, j, none⟩ = false := rq.frozen
          have zq : W41.heap.size < wrm3.heap.size := rq.lt
          clear hrm3 hrcm3 hrfm3
          go_wp2_with fail
          rw [rounds_succ]
          go_wp2_with fail
          refine region_below 8 (by kernel_rfl) (by kernel_rfl) ?_
          simp only [List.take_succ_cons, List.take_zero, List.drop_succ_cons, List.drop_zero]
          repeat (first | (refine' InText.skip (by rfl) ?_; simp only [Act.put, List.setIfInBounds_toArray, List.set_cons_zero, List.set_cons_succ]) | (refine' InText.val (by rfl) (fun wr hr => ?_) ?_; rotate_left 1; (focus (obtain ⟨hrc, hrf⟩ := bcell hr; (go_simp <;> with_reducible rfl); done)); simp only [Act.put, List.setIfInBounds_toArray, List.set_cons_zero, List.set_cons_succ]))
          refine fun wrm4 hrm4 => ?_
          obtain ⟨hrcm4, hrfm4⟩ := bcell hrm4
          clear cn fn zn cs fs zs cq fq zq
          replace rn := rn.keep hrm4
          replace rs := rs.keep hrm4
          replace rq := rq.keep hrm4
          replace kw := kw.trans (hrm4.mono kw.size)
          have cn : ∀ j, wrm4.cell? ⟨W31.heap.size, j, none⟩ = (#[.int .i64 Am, .int .i64 B0, .int .i64 C, .int .i64 Ap, .int .i64 B0, .int .i64 C, .int .i64 A, .int .i64 Bm, .int .i64 C, .int .i64 A, .int .i64 Bp, .int .i64 C, .int .i64 A, .int .i64 B0, .int .i64 Cm, .int .i64 A, .int .i64 B0, .int .i64 Cp] : Array Value)[j]? := rn.cell
          have fn : ∀ j, wrm4.frozen? ⟨W31.heap.size, j, none⟩ = false := rn.frozen
          have zn : W31.heap.size < wrm4.heap.size := rn.lt
          have cs : ∀ j, wrm4.cell? ⟨W33.heap.size, j, none⟩ = (#[.int .i64 P, .int .i64 Q, .int .i64 (P - 1), .int .i64 Q, .int .i64 (P + 1), .int .i64 Q, .int .i64 P, .int .i64 (Q - 1), .int .i64 P, .int .i64 (Q + 1)] : Array Value)[j]? := rs.cell
          have fs : ∀ j, wrm4.frozen? ⟨W33.heap.size, j, none⟩ = false := rs.frozen
          have zs : W33.heap.size < wrm4.heap.size := rs.lt
          have cq : ∀ j, wrm4.cell? ⟨W41.heap.size, j, none⟩ = (#[.int .i64 P, .int .i64 Q] : Array Value)[j]? := rq.cell
          have fq : ∀ j, wrm4.frozen? ⟨W41.heap.size, j, none⟩ = false := rq.frozen
          have zq : W41.heap.size < wrm4.heap.size := rq.lt
          clear hrm4 hrcm4 hrfm4
          go_wp2_with fail
          rw [rounds_succ]
          go_wp2_with fail
          go_roundw
          case rel =>
            exact ⟨3, by omega, by go_num, by (repeat (first | with_reducible assumption | with_reducible exact Below.refl _ _ | with_reducible refine Below.drew ?_ | with_reducible refine below_drewN ?_ _ | with_reducible refine al ?_ _ | (with_reducible refine sc ?_ ?_; (focus (first | omega | (simp; done) | (simp; omega)))) | (with_reducible refine chain ?_ (by assumption)))), rn, rs⟩
          case measure => simp [intOf]
        · have cn : ∀ j, wr.cell? ⟨W31.heap.size, j, none⟩ = (#[.int .i64 Am, .int .i64 B0, .int .i64 C, .int .i64 Ap, .int .i64 B0, .int .i64 C, .int .i64 A, .int .i64 Bm, .int .i64 C, .int .i64 A, .int .i64 Bp, .int .i64 C, .int .i64 A, .int .i64 B0, .int .i64 Cm, .int .i64 A, .int .i64 B0, .int .i64 Cp] : Array Value)[j]? := rn.cell
          have fn : ∀ j, wr.frozen? ⟨W31.heap.size, j, none⟩ = false := rn.frozen
          have zn : W31.heap.size < wr.heap.size := rn.lt
          have cs : ∀ j, wr.cell? ⟨W33.heap.size, j, none⟩ = (#[.int .i64 P, .int .i64 Q, .int .i64 (P - 1), .int .i64 Q, .int .i64 (P + 1), .int .i64 Q, .int .i64 P, .int .i64 (Q - 1), .int .i64 P, .int .i64 (Q + 1)] : Array Value)[j]? := rs.cell
          have fs : ∀ j, wr.frozen? ⟨W33.heap.size, j, none⟩ = false := rs.frozen
          have zs : W33.heap.size < wr.heap.size := rs.lt
          have q5 := eq2p_run
          have HQQ := Hq3
          have v0 : eq2B (P) (Q) (P) (Q) = true := by simp [eq2B]
          go_wp2_with fail
          (refine (HQQ.out _).mono ?_; rintro e W41 ⟨rfl, hW41⟩)
          clear cn fn zn cs fs zs
          replace rn := rn.keep hW41
          replace rs := rs.keep hW41
          replace kw := kw.trans (hW41.mono kw.size)
          have cn : ∀ j, W41.cell? ⟨W31.heap.size, j, none⟩ = (#[.int .i64 Am, .int .i64 B0, .int .i64 C, .int .i64 Ap, .int .i64 B0, .int .i64 C, .int .i64 A, .int .i64 Bm, .int .i64 C, .int .i64 A, .int .i64 Bp, .int .i64 C, .int .i64 A, .int .i64 B0, .int .i64 Cm, .int .i64 A, .int .i64 B0, .int .i64 Cp] : Array Value)[j]? := rn.cell
          have fn : ∀ j, W41.frozen? ⟨W31.heap.size, j, none⟩ = false := rn.frozen
          have zn : W31.heap.size < W41.heap.size := rn.lt
          have cs : ∀ j, W41.cell? ⟨W33.heap.size, j, none⟩ = (#[.int .i64 P, .int .i64 Q, .int .i64 (P - 1), .int .i64 Q, .int .i64 (P + 1), .int .i64 Q, .int .i64 P, .int .i64 (Q - 1), .int .i64 P, .int .i64 (Q + 1)] : Array Value)[j]? := rs.cell
          have fs : ∀ j, W41.frozen? ⟨W33.heap.size, j, none⟩ = false := rs.frozen
          have zs : W33.heap.size < W41.heap.size := rs.lt
          clear hW41
          go_wp2_with fail
          have yqn : W31.heap.size < W41.heap.size := by omega
          have yqs : W33.heap.size < W41.heap.size := by omega
          replace kw : Below w.heap.size w (W41.alloc (.cells #[.int .i64 P, .int .i64 Q] 38)) := by (repeat (first | with_reducible assumption | with_reducible exact Below.refl _ _ | with_reducible refine Below.drew ?_ | with_reducible refine below_drewN ?_ _ | with_reducible refine al ?_ _ | (with_reducible refine sc ?_ ?_; (focus (first | omega | (simp; done) | (simp; omega)))) | (with_reducible refine chain ?_ (by assumption))))
          replace rn : RowAt (W41.alloc (.cells #[.int .i64 P, .int .i64 Q] 38)) (W31.heap.size) #[.int .i64 Am, .int .i64 B0, .int .i64 C, .int .i64 Ap, .int .i64 B0, .int .i64 C, .int .i64 A, .int .i64 Bm, .int .i64 C, .int .i64 A, .int .i64 Bp, .int .i64 C, .int .i64 A, .int .i64 B0, .int .i64 Cm, .int .i64 A, .int .i64 B0, .int .i64 Cp] 45 := (rn.alloc _)
          replace rs : RowAt (W41.alloc (.cells #[.int .i64 P, .int .i64 Q] 38)) (W33.heap.size) #[.int .i64 P, .int .i64 Q, .int .i64 (P - 1), .int .i64 Q, .int .i64 (P + 1), .int .i64 Q, .int .i64 P, .int .i64 (Q - 1), .int .i64 P, .int .i64 (Q + 1)] 47 := (rs.alloc _)
          have rq : RowAt (W41.alloc (.cells #[.int .i64 P, .int .i64 Q] 38)) (W41.heap.size) #[.int .i64 P, .int .i64 Q] 38 := (RowAt.make _ _ _ (by first | rfl | (simp [World.setCell]; done)))
          clear cn fn zn cs fs zs
          generalize (W41.alloc (.cells #[.int .i64 P, .int .i64 Q] 38)) = W42 at *
          have cn : ∀ j, W42.cell? ⟨W31.heap.size, j, none⟩ = (#[.int .i64 Am, .int .i64 B0, .int .i64 C, .int .i64 Ap, .int .i64 B0, .int .i64 C, .int .i64 A, .int .i64 Bm, .int .i64 C, .int .i64 A, .int .i64 Bp, .int .i64 C, .int .i64 A, .int .i64 B0, .int .i64 Cm, .int .i64 A, .int .i64 B0, .int .i64 Cp] : Array Value)[j]? := rn.cell
          have fn : ∀ j, W42.frozen? ⟨W31.heap.size, j, none⟩ = false := rn.frozen
          have zn : W31.heap.size < W42.heap.size := rn.lt
          have cs : ∀ j, W42.cell? ⟨W33.heap.size, j, none⟩ = (#[.int .i64 P, .int .i64 Q, .int .i64 (P - 1), .int .i64 Q, .int .i64 (P + 1), .int .i64 Q, .int .i64 P, .int .i64 (Q - 1), .int .i64 P, .int .i64 (Q + 1)] : Array Value)[j]? := rs.cell
          have fs : ∀ j, W42.frozen? ⟨W33.heap.size, j, none⟩ = false := rs.frozen
          have zs : W33.heap.size < W42.heap.size := rs.lt
          have cq : ∀ j, W42.cell? ⟨W41.heap.size, j, none⟩ = (#[.int .i64 P, .int .i64 Q] : Array Value)[j]? := rq.cell
          have fq : ∀ j, W42.frozen? ⟨W41.heap.size, j, none⟩ = false := rq.frozen
          have zq : W41.heap.size < W42.heap.size := rq.lt
          refine wp_loop_rounds 6 ?_
          rw [rounds_succ]
          go_wp2_with fail
          refine region_below 8 (by kernel_rfl) (by kernel_rfl) ?_
          simp only [List.take_succ_cons, List.take_zero, List.drop_succ_cons, List.drop_zero]
          repeat (first | (refine' InText.skip (by rfl) ?_; simp only [Act.put, List.setIfInBounds_toArray, List.set_cons_zero, List.set_cons_succ]) | (refine' InText.val (by rfl) (fun wr hr => ?_) ?_; rotate_left 1; (focus (obtain ⟨hrc, hrf⟩ := bcell hr; (go_simp <;> with_reducible rfl); done)); simp only [Act.put, List.setIfInBounds_toArray, List.set_cons_zero, List.set_cons_succ]))
          refine fun wrm0 hrm0 => ?_
          obtain ⟨hrcm0, hrfm0⟩ := bcell hrm0
          clear cn fn zn cs fs zs cq fq zq
          replace rn := rn.keep hrm0
          replace rs := rs.keep hrm0
          replace rq := rq.keep hrm0
          replace kw := kw.trans (hrm0.mono kw.size)
          have cn : ∀ j, wrm0.cell? ⟨W31.heap.size, j, none⟩ = (#[.int .i64 Am, .int .i64 B0, .int .i64 C, .int .i64 Ap, .int .i64 B0, .int .i64 C, .int .i64 A, .int .i64 Bm, .int .i64 C, .int .i64 A, .int .i64 Bp, .int .i64 C, .int .i64 A, .int .i64 B0, .int .i64 Cm, .int .i64 A, .int .i64 B0, .int .i64 Cp] : Array Value)[j]? := rn.cell
          have fn : ∀ j, wrm0.frozen? ⟨W31.heap.size, j, none⟩ = false := rn.frozen
          have zn : W31.heap.size < wrm0.heap.size := rn.lt
          have cs : ∀ j, wrm0.cell? ⟨W33.heap.size, j, none⟩ = (#[.int .i64 P, .int .i64 Q, .int .i64 (P - 1), .int .i64 Q, .int .i64 (P + 1), .int .i64 Q, .int .i64 P, .int .i64 (Q - 1), .int .i64 P, .int .i64 (Q + 1)] : Array Value)[j]? := rs.cell
          have fs : ∀ j, wrm0.frozen? ⟨W33.heap.size, j, none⟩ = false := rs.frozen
          have zs : W33.heap.size < wrm0.heap.size := rs.lt
          have cq : ∀ j, wrm0.cell? ⟨W41.heap.size, j, none⟩ = (#[.int .i64 P, .int .i64 Q] : Array Value)[j]? := rq.cell
          have fq : ∀ j, wrm0.frozen? ⟨W41.heap.size, j, none⟩ = false := rq.frozen
          have zq : W41.heap.size < wrm0.heap.size := rq.lt
          clear hrm0 hrcm0 hrfm0
          go_wp2_with fail
          rw [rounds_succ]
          go_wp2_with fail
          refine region_below 8 (by kernel_rfl) (by kernel_rfl) ?_
          simp only [List.take_succ_cons, List.take_zero, List.drop_succ_cons, List.drop_zero]
          repeat (first | (refine' InText.skip (by rfl) ?_; simp only [Act.put, List.setIfInBounds_toArray, List.set_cons_zero, List.set_cons_succ]) | (refine' InText.val (by rfl) (fun wr hr => ?_) ?_; rotate_left 1; (focus (obtain ⟨hrc, hrf⟩ := bcell hr; (go_simp <;> with_reducible rfl); done)); simp only [Act.put, List.setIfInBounds_toArray, List.set_cons_zero, List.set_cons_succ]))
          refine fun wrm1 hrm1 => ?_
          obtain ⟨hrcm1, hrfm1⟩ := bcell hrm1
          clear cn fn zn cs fs zs cq fq zq
          replace rn := rn.keep hrm1
          replace rs := rs.keep hrm1
          replace rq := rq.keep hrm1
          replace kw := kw.trans (hrm1.mono kw.size)
          have cn : ∀ j, wrm1.cell? ⟨W31.heap.size, j, none⟩ = (#[.int .i64 Am, .int .i64 B0, .int .i64 C, .int .i64 Ap, .int .i64 B0, .int .i64 C, .int .i64 A, .int .i64 Bm, .int .i64 C, .int .i64 A, .int .i64 Bp, .int .i64 C, .int .i64 A, .int .i64 B0, .int .i64 Cm, .int .i64 A, .int .i64 B0, .int .i64 Cp] : Array Value)[j]? := rn.cell
          have fn : ∀ j, wrm1.frozen? ⟨W31.heap.size, j, none⟩ = false := rn.frozen
          have zn : W31.heap.size < wrm1.heap.size := rn.lt
          have cs : ∀ j, wrm1.cell? ⟨W33.heap.size, j, none⟩ = (#[.int .i64 P, .int .i64 Q, .int .i64 (P - 1), .int .i64 Q, .int .i64 (P + 1), .int .i64 Q, .int .i64 P, .int .i64 (Q - 1), .int .i64 P, .int .i64 (Q + 1)] : Array Value)[j]? := rs.cell
          have fs : ∀ j, wrm1.frozen? ⟨W33.heap.size, j, none⟩ = false := rs.frozen
          have zs : W33.heap.size < wrm1.heap.size := rs.lt
          have cq : ∀ j, wrm1.cell? ⟨W41.heap.size, j, none⟩ = (#[.int .i64 P, .int .i64 Q] : Array Value)[j]? := rq.cell
          have fq : ∀ j, wrm1.frozen? ⟨W41.heap.size, j, none⟩ = false := rq.frozen
          have zq : W41.heap.size < wrm1.heap.size := rq.lt
          clear hrm1 hrcm1 hrfm1
          go_wp2_with fail
          rw [rounds_succ]
          go_wp2_with fail
          refine region_below 8 (by kernel_rfl) (by kernel_rfl) ?_
          simp only [List.take_succ_cons, List.take_zero, List.drop_succ_cons, List.drop_zero]
          repeat (first | (refine' InText.skip (by rfl) ?_; simp only [Act.put, List.setIfInBounds_toArray, List.set_cons_zero, List.set_cons_succ]) | (refine' InText.val (by rfl) (fun wr hr => ?_) ?_; rotate_left 1; (focus (obtain ⟨hrc, hrf⟩ := bcell hr; (go_simp <;> with_reducible rfl); done)); simp only [Act.put, List.setIfInBounds_toArray, List.set_cons_zero, List.set_cons_succ]))
          refine fun wrm2 hrm2 => ?_
          obtain ⟨hrcm2, hrfm2⟩ := bcell hrm2
          clear cn fn zn cs fs zs cq fq zq
          replace rn := rn.keep hrm2
          replace rs := rs.keep hrm2
          replace rq := rq.keep hrm2
          replace kw := kw.trans (hrm2.mono kw.size)
          have cn : ∀ j, wrm2.cell? ⟨W31.heap.size, j, none⟩ = (#[.int .i64 Am, .int .i64 B0, .int .i64 C, .int .i64 Ap, .int .i64 B0, .int .i64 C, .int .i64 A, .int .i64 Bm, .int .i64 C, .int .i64 A, .int .i64 Bp, .int .i64 C, .int .i64 A, .int .i64 B0, .int .i64 Cm, .int .i64 A, .int .i64 B0, .int .i64 Cp] : Array Value)[j]? := rn.cell
          have fn : ∀ j, wrm2.frozen? ⟨W31.heap.size, j, none⟩ = false := rn.frozen
          have zn : W31.heap.size < wrm2.heap.size := rn.lt
          have cs : ∀ j, wrm2.cell? ⟨W33.heap.size, j, none⟩ = (#[.int .i64 P, .int .i64 Q, .int .i64 (P - 1), .int .i64 Q, .int .i64 (P + 1), .int .i64 Q, .int .i64 P, .int .i64 (Q - 1), .int .i64 P, .int .i64 (Q + 1)] : Array Value)[j]? := rs.cell
          have fs : ∀ j, wrm2.frozen? ⟨W33.heap.size, j, none⟩ = false := rs.frozen
          have zs : W33.heap.size < wrm2.heap.size := rs.lt
          have cq : ∀ j, wrm2.cell? ⟨W41.heap.size, j, none⟩ = (#[.int .i64 P, .int .i64 Q] : Array Value)[j]? := rq.cell
          have fq : ∀ j, wrm2.frozen? ⟨W41.heap.size, j, none⟩ = false := rq.frozen
          have zq : W41.heap.size < wrm2.heap.size := rq.lt
          clear hrm2 hrcm2 hrfm2
          go_wp2_with fail
          rw [rounds_succ]
          go_wp2_with fail
          refine region_below 8 (by kernel_rfl) (by kernel_rfl) ?_
          simp only [List.take_succ_cons, List.take_zero, List.drop_succ_cons, List.drop_zero]
          repeat (first | (refine' InText.skip (by rfl) ?_; simp only [Act.put, List.setIfInBounds_toArray, List.set_cons_zero, List.set_cons_succ]) | (refine' InText.val (by rfl) (fun wr hr => ?_) ?_; rotate_left 1; (focus (obtain ⟨hrc, hrf⟩ := bcell hr; (go_simp <;> with_reducible rfl); done)); simp only [Act.put, List.setIfInBounds_toArray, List.set_cons_zero, List.set_cons_succ]))
          refine fun wrm3 hrm3 => ?_
          obtain ⟨hrcm3, hrfm3⟩ := bcell hrm3
          clear cn fn zn cs fs zs cq fq zq
          replace rn := rn.keep hrm3
          replace rs := rs.keep hrm3
          replace rq := rq.keep hrm3
          replace kw := kw.trans (hrm3.mono kw.size)
          have cn : ∀ j, wrm3.cell? ⟨W31.heap.size, j, none⟩ = (#[.int .i64 Am, .int .i64 B0, .int .i64 C, .int .i64 Ap, .int .i64 B0, .int .i64 C, .int .i64 A, .int .i64 Bm, .int .i64 C, .int .i64 A, .int .i64 Bp, .int .i64 C, .int .i64 A, .int .i64 B0, .int .i64 Cm, .int .i64 A, .int .i64 B0, .int .i64 Cp] : Array Value)[j]? := rn.cell
          have fn : ∀ j, wrm3.frozen? ⟨W31.heap.size, j, none⟩ = false := rn.frozen
          have zn : W31.heap.size < wrm3.heap.size := rn.lt
          have cs : ∀ j, wrm3.cell? ⟨W33.heap.size, j, none⟩ = (#[.int .i64 P, .int .i64 Q, .int .i64 (P - 1), .int .i64 Q, .int .i64 (P + 1), .int .i64 Q, .int .i64 P, .int .i64 (Q - 1), .int .i64 P, .int .i64 (Q + 1)] : Array Value)[j]? := rs.cell
          have fs : ∀ j, wrm3.frozen? ⟨W33.heap.size, j, none⟩ = false := rs.frozen
          have zs : W33.heap.size < wrm3.heap.size := rs.lt
          have cq : ∀ j, wrm3.cell? ⟨W41.heap.size, j, none⟩ = (#[.int .i64 P, .int .i64 Q] : Array Value)[j]? := rq.cell
          have fq : ∀ j, wrm3.frozen? ⟨W41.heap.size, j, none⟩ = false := rq.frozen
          have zq : W41.heap.size < wrm3.heap.size := rq.lt
          clear hrm3 hrcm3 hrfm3
          go_wp2_with fail
          rw [rounds_succ]
          go_wp2_with fail
          refine region_below 8 (by kernel_rfl) (by kernel_rfl) ?_
          simp only [List.take_succ_cons, List.take_zero, List.drop_succ_cons, List.drop_zero]
          repeat (first | (refine' InText.skip (by rfl) ?_; simp only [Act.put, List.setIfInBounds_toArray, List.set_cons_zero, List.set_cons_succ]) | (refine' InText.val (by rfl) (fun wr hr => ?_) ?_; rotate_left 1; (focus (obtain ⟨hrc, hrf⟩ := bcell hr; (go_simp <;> with_reducible rfl); done)); simp only [Act.put, List.setIfInBounds_toArray, List.set_cons_zero, List.set_cons_succ]))
          refine fun wrm4 hrm4 => ?_
          obtain ⟨hrcm4, hrfm4⟩ := bcell hrm4
          clear cn fn zn cs fs zs cq fq zq
          replace rn := rn.keep hrm4
          replace rs := rs.keep hrm4
          replace rq := rq.keep hrm4
          replace kw := kw.trans (hrm4.mono kw.size)
          have cn : ∀ j, wrm4.cell? ⟨W31.heap.size, j, none⟩ = (#[.int .i64 Am, .int .i64 B0, .int .i64 C, .int .i64 Ap, .int .i64 B0, .int .i64 C, .int .i64 A, .int .i64 Bm, .int .i64 C, .int .i64 A, .int .i64 Bp, .int .i64 C, .int .i64 A, .int .i64 B0, .int .i64 Cm, .int .i64 A, .int .i64 B0, .int .i64 Cp] : Array Value)[j]? := rn.cell
          have fn : ∀ j, wrm4.frozen? ⟨W31.heap.size, j, none⟩ = false := rn.frozen
          have zn : W31.heap.size < wrm4.heap.size := rn.lt
          have cs : ∀ j, wrm4.cell? ⟨W33.heap.size, j, none⟩ = (#[.int .i64 P, .int .i64 Q, .int .i64 (P - 1), .int .i64 Q, .int .i64 (P + 1), .int .i64 Q, .int .i64 P, .int .i64 (Q - 1), .int .i64 P, .int .i64 (Q + 1)] : Array Value)[j]? := rs.cell
          have fs : ∀ j, wrm4.frozen? ⟨W33.heap.size, j, none⟩ = false := rs.frozen
          have zs : W33.heap.size < wrm4.heap.size := rs.lt
          have cq : ∀ j, wrm4.cell? ⟨W41.heap.size, j, none⟩ = (#[.int .i64 P, .int .i64 Q] : Array Value)[j]? := rq.cell
          have fq : ∀ j, wrm4.frozen? ⟨W41.heap.size, j, none⟩ = false := rq.frozen
          have zq : W41.heap.size < wrm4.heap.size := rq.lt
          clear hrm4 hrcm4 hrfm4
          go_wp2_with fail
          rw [rounds_succ]
          go_wp2_with fail
          go_roundw
          case rel =>
            exact ⟨4, by omega, by go_num, by (repeat (first | with_reducible assumption | with_reducible exact Below.refl _ _ | with_reducible refine Below.drew ?_ | with_reducible refine below_drewN ?_ _ | with_reducible refine al ?_ _ | (with_reducible refine sc ?_ ?_; (focus (first | omega | (simp; done) | (simp; omega)))) | (with_reducible refine chain ?_ (by assumption)))), rn, rs⟩
          case measure => simp [intOf]
        · have cn : ∀ j, wr.cell? ⟨W31.heap.size, j, none⟩ = (#[.int .i64 Am, .int .i64 B0, .int .i64 C, .int .i64 Ap, .int .i64 B0, .int .i64 C, .int .i64 A, .int .i64 Bm, .int .i64 C, .int .i64 A, .int .i64 Bp, .int .i64 C, .int .i64 A, .int .i64 B0, .int .i64 Cm, .int .i64 A, .int .i64 B0, .int .i64 Cp] : Array Value)[j]? := rn.cell
          have fn : ∀ j, wr.frozen? ⟨W31.heap.size, j, none⟩ = false := rn.frozen
          have zn : W31.heap.size < wr.heap.size := rn.lt
          have cs : ∀ j, wr.cell? ⟨W33.heap.size, j, none⟩ = (#[.int .i64 P, .int .i64 Q, .int .i64 (P - 1), .int .i64 Q, .int .i64 (P + 1), .int .i64 Q, .int .i64 P, .int .i64 (Q - 1), .int .i64 P, .int .i64 (Q + 1)] : Array Value)[j]? := rs.cell
          have fs : ∀ j, wr.frozen? ⟨W33.heap.size, j, none⟩ = false := rs.frozen
          have zs : W33.heap.size < wr.heap.size := rs.lt
          have q5 := eq2p_run
          rcases Z4.out with e0 | e0
          · have HQ := Hq4.out
            rw [e0] at HQ
            clear e0
            have HQQ := Lib.hid HQ
            clear HQ
            have v0 : eq2B (P) (Q) (P) (Q) = true := by simp [eq2B]
            go_wp2_with fail
            (refine (HQQ.out _).mono ?_; rintro e W41 ⟨rfl, hW41⟩)
            clear cn fn zn cs fs zs
            replace rn := rn.keep hW41
            replace rs := rs.keep hW41
            replace kw := kw.trans (hW41.mono kw.size)
            have cn : ∀ j, W41.cell? ⟨W31.heap.size, j, none⟩ = (#[.int .i64 Am, .int .i64 B0, .int .i64 C, .int .i64 Ap, .int .i64 B0, .int .i64 C, .int .i64 A, .int .i64 Bm, .int .i64 C, .int .i64 A, .int .i64 Bp, .int .i64 C, .int .i64 A, .int .i64 B0, .int .i64 Cm, .int .i64 A, .int .i64 B0, .int .i64 Cp] : Array Value)[j]? := rn.cell
            have fn : ∀ j, W41.frozen? ⟨W31.heap.size, j, none⟩ = false := rn.frozen
            have zn : W31.heap.size < W41.heap.size := rn.lt
            have cs : ∀ j, W41.cell? ⟨W33.heap.size, j, none⟩ = (#[.int .i64 P, .int .i64 Q, .int .i64 (P - 1), .int .i64 Q, .int .i64 (P + 1), .int .i64 Q, .int .i64 P, .int .i64 (Q - 1), .int .i64 P, .int .i64 (Q + 1)] : Array Value)[j]? := rs.cell
            have fs : ∀ j, W41.frozen? ⟨W33.heap.size, j, none⟩ = false := rs.frozen
            have zs : W33.heap.size < W41.heap.size := rs.lt
            clear hW41
            go_wp2_with fail
            have yqn : W31.heap.size < W41.heap.size := by omega
            have yqs : W33.heap.size < W41.heap.size := by omega
            replace kw : Below w.heap.size w (W41.alloc (.cells #[.int .i64 P, .int .i64 Q] 38)) := by (repeat (first | with_reducible assumption | with_reducible exact Below.refl _ _ | with_reducible refine Below.drew ?_ | with_reducible refine below_drewN ?_ _ | with_reducible refine al ?_ _ | (with_reducible refine sc ?_ ?_; (focus (first | omega | (simp; done) | (simp; omega)))) | (with_reducible refine chain ?_ (by assumption))))
            replace rn : RowAt (W41.alloc (.cells #[.int .i64 P, .int .i64 Q] 38)) (W31.heap.size) #[.int .i64 Am, .int .i64 B0, .int .i64 C, .int .i64 Ap, .int .i64 B0, .int .i64 C, .int .i64 A, .int .i64 Bm, .int .i64 C, .int .i64 A, .int .i64 Bp, .int .i64 C, .int .i64 A, .int .i64 B0, .int .i64 Cm, .int .i64 A, .int .i64 B0, .int .i64 Cp] 45 := (rn.alloc _)
            replace rs : RowAt (W41.alloc (.cells #[.int .i64 P, .int .i64 Q] 38)) (W33.heap.size) #[.int .i64 P, .int .i64 Q, .int .i64 (P - 1), .int .i64 Q, .int .i64 (P + 1), .int .i64 Q, .int .i64 P, .int .i64 (Q - 1), .int .i64 P, .int .i64 (Q + 1)] 47 := (rs.alloc _)
            have rq : RowAt (W41.alloc (.cells #[.int .i64 P, .int .i64 Q] 38)) (W41.heap.size) #[.int .i64 P, .int .i64 Q] 38 := (RowAt.make _ _ _ (by first | rfl | (simp [World.setCell]; done)))
            clear cn fn zn cs fs zs
            generalize (W41.alloc (.cells #[.int .i64 P, .int .i64 Q] 38)) = W42 at *
            have cn : ∀ j, W42.cell? ⟨W31.heap.size, j, none⟩ = (#[.int .i64 Am, .int .i64 B0, .int .i64 C, .int .i64 Ap, .int .i64 B0, .int .i64 C, .int .i64 A, .int .i64 Bm, .int .i64 C, .int .i64 A, .int .i64 Bp, .int .i64 C, .int .i64 A, .int .i64 B0, .int .i64 Cm, .int .i64 A, .int .i64 B0, .int .i64 Cp] : Array Value)[j]? := rn.cell
            have fn : ∀ j, W42.frozen? ⟨W31.heap.size, j, none⟩ = false := rn.frozen
            have zn : W31.heap.size < W42.heap.size := rn.lt
            have cs : ∀ j, W42.cell? ⟨W33.heap.size, j, none⟩ = (#[.int .i64 P, .int .i64 Q, .int .i64 (P - 1), .int .i64 Q, .int .i64 (P + 1), .int .i64 Q, .int .i64 P, .int .i64 (Q - 1), .int .i64 P, .int .i64 (Q + 1)] : Array Value)[j]? := rs.cell
            have fs : ∀ j, W42.frozen? ⟨W33.heap.size, j, none⟩ = false := rs.frozen
            have zs : W33.heap.size < W42.heap.size := rs.lt
            have cq : ∀ j, W42.cell? ⟨W41.heap.size, j, none⟩ = (#[.int .i64 P, .int .i64 Q] : Array Value)[j]? := rq.cell
            have fq : ∀ j, W42.frozen? ⟨W41.heap.size, j, none⟩ = false := rq.frozen
            have zq : W41.heap.size < W42.heap.size := rq.lt
            refine wp_loop_rounds 6 ?_
            rw [rounds_succ]
            go_wp2_with fail
            refine region_below 8 (by kernel_rfl) (by kernel_rfl) ?_
            simp only [List.take_succ_cons, List.take_zero, List.drop_succ_cons, List.drop_zero]
            repeat (first | (refine' InText.skip (by rfl) ?_; simp only [Act.put, List.setIfInBounds_toArray, List.set_cons_zero, List.set_cons_succ]) | (refine' InText.val (by rfl) (fun wr hr => ?_) ?_; rotate_left 1; (focus (obtain ⟨hrc, hrf⟩ := bcell hr; (go_simp <;> with_reducible rfl); done)); simp only [Act.put, List.setIfInBounds_toArray, List.set_cons_zero, List.set_cons_succ]))
            refine fun wrm0 hrm0 => ?_
            obtain ⟨hrcm0, hrfm0⟩ := bcell hrm0
            clear cn fn zn cs fs zs cq fq zq
            replace rn := rn.keep hrm0
            replace rs := rs.keep hrm0
            replace rq := rq.keep hrm0
            replace kw := kw.trans (hrm0.mono kw.size)
            have cn : ∀ j, wrm0.cell? ⟨W31.heap.size, j, none⟩ = (#[.int .i64 Am, .int .i64 B0, .int .i64 C, .int .i64 Ap, .int .i64 B0, .int .i64 C, .int .i64 A, .int .i64 Bm, .int .i64 C, .int .i64 A, .int .i64 Bp, .int .i64 C, .int .i64 A, .int .i64 B0, .int .i64 Cm, .int .i64 A, .int .i64 B0, .int .i64 Cp] : Array Value)[j]? := rn.cell
            have fn : ∀ j, wrm0.frozen? ⟨W31.heap.size, j, none⟩ = false := rn.frozen
            have zn : W31.heap.size < wrm0.heap.size := rn.lt
            have cs : ∀ j, wrm0.cell? ⟨W33.heap.size, j, none⟩ = (#[.int .i64 P, .int .i64 Q, .int .i64 (P - 1), .int .i64 Q, .int .i64 (P + 1), .int .i64 Q, .int .i64 P, .int .i64 (Q - 1), .int .i64 P, .int .i64 (Q + 1)] : Array Value)[j]? := rs.cell
            have fs : ∀ j, wrm0.frozen? ⟨W33.heap.size, j, none⟩ = false := rs.frozen
            have zs : W33.heap.size < wrm0.heap.size := rs.lt
            have cq : ∀ j, wrm0.cell? ⟨W41.heap.size, j, none⟩ = (#[.int .i64 P, .int .i64 Q] : Array Value)[j]? := rq.cell
            have fq : ∀ j, wrm0.frozen? ⟨W41.heap.size, j, none⟩ = false := rq.frozen
            have zq : W41.heap.size < wrm0.heap.size := rq.lt
            clear hrm0 hrcm0 hrfm0
            go_wp2_with fail
            rw [rounds_succ]
            go_wp2_with fail
            refine region_below 8 (by kernel_rfl) (by kernel_rfl) ?_
            simp only [List.take_succ_cons, List.take_zero, List.drop_succ_cons, List.drop_zero]
            repeat (first | (refine' InText.skip (by rfl) ?_; simp only [Act.put, List.setIfInBounds_toArray, List.set_cons_zero, List.set_cons_succ]) | (refine' InText.val (by rfl) (fun wr hr => ?_) ?_; rotate_left 1; (focus (obtain ⟨hrc, hrf⟩ := bcell hr; (go_simp <;> with_reducible rfl); done)); simp only [Act.put, List.setIfInBounds_toArray, List.set_cons_zero, List.set_cons_succ]))
            refine fun wrm1 hrm1 => ?_
            obtain ⟨hrcm1, hrfm1⟩ := bcell hrm1
            clear cn fn zn cs fs zs cq fq zq
            replace rn := rn.keep hrm1
            replace rs := rs.keep hrm1
            replace rq := rq.keep hrm1
            replace kw := kw.trans (hrm1.mono kw.size)
            have cn : ∀ j, wrm1.cell? ⟨W31.heap.size, j, none⟩ = (#[.int .i64 Am, .int .i64 B0, .int .i64 C, .int .i64 Ap, .int .i64 B0, .int .i64 C, .int .i64 A, .int .i64 Bm, .int .i64 C, .int .i64 A, .int .i64 Bp, .int .i64 C, .int .i64 A, .int .i64 B0, .int .i64 Cm, .int .i64 A, .int .i64 B0, .int .i64 Cp] : Array Value)[j]? := rn.cell
            have fn : ∀ j, wrm1.frozen? ⟨W31.heap.size, j, none⟩ = false := rn.frozen
            have zn : W31.heap.size < wrm1.heap.size := rn.lt
            have cs : ∀ j, wrm1.cell? ⟨W33.heap.size, j, none⟩ = (#[.int .i64 P, .int .i64 Q, .int .i64 (P - 1), .int .i64 Q, .int .i64 (P + 1), .int .i64 Q, .int .i64 P, .int .i64 (Q - 1), .int .i64 P, .int .i64 (Q + 1)] : Array Value)[j]? := rs.cell
            have fs : ∀ j, wrm1.frozen? ⟨W33.heap.size, j, none⟩ = false := rs.frozen
            have zs : W33.heap.size < wrm1.heap.size := rs.lt
            have cq : ∀ j, wrm1.cell? ⟨W41.heap.size, j, none⟩ = (#[.int .i64 P, .int .i64 Q] : Array Value)[j]? := rq.cell
            have fq : ∀ j, wrm1.frozen? ⟨W41.heap.size, j, none⟩ = false := rq.frozen
            have zq : W41.heap.size < wrm1.heap.size := rq.lt
            clear hrm1 hrcm1 hrfm1
            go_wp2_with fail
            rw [rounds_succ]
            go_wp2_with fail
            refine region_below 8 (by kernel_rfl) (by kernel_rfl) ?_
            simp only [List.take_succ_cons, List.take_zero, List.drop_succ_cons, List.drop_zero]
            repeat (first | (refine' InText.skip (by rfl) ?_; simp only [Act.put, List.setIfInBounds_toArray, List.set_cons_zero, List.set_cons_succ]) | (refine' InText.val (by rfl) (fun wr hr => ?_) ?_; rotate_left 1; (focus (obtain ⟨hrc, hrf⟩ := bcell hr; (go_simp <;> with_reducible rfl); done)); simp only [Act.put, List.setIfInBounds_toArray, List.set_cons_zero, List.set_cons_succ]))
            refine fun wrm2 hrm2 => ?_
            obtain ⟨hrcm2, hrfm2⟩ := bcell hrm2
            clear cn fn zn cs fs zs cq fq zq
            replace rn := rn.keep hrm2
            replace rs := rs.keep hrm2
            replace rq := rq.keep hrm2
            replace kw := kw.trans (hrm2.mono kw.size)
            have cn : ∀ j, wrm2.cell? ⟨W31.heap.size, j, none⟩ = (#[.int .i64 Am, .int .i64 B0, .int .i64 C, .int .i64 Ap, .int .i64 B0, .int .i64 C, .int .i64 A, .int .i64 Bm, .int .i64 C, .int .i64 A, .int .i64 Bp, .int .i64 C, .int .i64 A, .int .i64 B0, .int .i64 Cm, .int .i64 A, .int .i64 B0, .int .i64 Cp] : Array Value)[j]? := rn.cell
            have fn : ∀ j, wrm2.frozen? ⟨W31.heap.size, j, none⟩ = false := rn.frozen
            have zn : W31.heap.size < wrm2.heap.size := rn.lt
            have cs : ∀ j, wrm2.cell? ⟨W33.heap.size, j, none⟩ = (#[.int .i64 P, .int .i64 Q, .int .i64 (P - 1), .int .i64 Q, .int .i64 (P + 1), .int .i64 Q, .int .i64 P, .int .i64 (Q - 1), .int .i64 P, .int .i64 (Q + 1)] : Array Value)[j]? := rs.cell
            have fs : ∀ j, wrm2.frozen? ⟨W33.heap.size, j, none⟩ = false := rs.frozen
            have zs : W33.heap.size < wrm2.heap.size := rs.lt
            have cq : ∀ j, wrm2.cell? ⟨W41.heap.size, j, none⟩ = (#[.int .i64 P, .int .i64 Q] : Array Value)[j]? := rq.cell
            have fq : ∀ j, wrm2.frozen? ⟨W41.heap.size, j, none⟩ = false := rq.frozen
            have zq : W41.heap.size < wrm2.heap.size := rq.lt
            clear hrm2 hrcm2 hrfm2
            go_wp2_with fail
            rw [rounds_succ]
            go_wp2_with fail
            refine region_below 8 (by kernel_rfl) (by kernel_rfl) ?_
            simp only [List.take_succ_cons, List.take_zero, List.drop_succ_cons, List.drop_zero]
            repeat (first | (refine' InText.skip (by rfl) ?_; simp only [Act.put, List.setIfInBounds_toArray, List.set_cons_zero, List.set_cons_succ]) | (refine' InText.val (by rfl) (fun wr hr => ?_) ?_; rotate_left 1; (focus (obtain ⟨hrc, hrf⟩ := bcell hr; (go_simp <;> with_reducible rfl); done)); simp only [Act.put, List.setIfInBounds_toArray, List.set_cons_zero, List.set_cons_succ]))
            refine fun wrm3 hrm3 => ?_
            obtain ⟨hrcm3, hrfm3⟩ := bcell hrm3
            clear cn fn zn cs fs zs cq fq zq
            replace rn := rn.keep hrm3
            replace rs := rs.keep hrm3
            replace rq := rq.keep hrm3
            replace kw := kw.trans (hrm3.mono kw.size)
            have cn : ∀ j, wrm3.cell? ⟨W31.heap.size, j, none⟩ = (#[.int .i64 Am, .int .i64 B0, .int .i64 C, .int .i64 Ap, .int .i64 B0, .int .i64 C, .int .i64 A, .int .i64 Bm, .int .i64 C, .int .i64 A, .int .i64 Bp, .int .i64 C, .int .i64 A, .int .i64 B0, .int .i64 Cm, .int .i64 A, .int .i64 B0, .int .i64 Cp] : Array Value)[j]? := rn.cell
            have fn : ∀ j, wrm3.frozen? ⟨W31.heap.size, j, none⟩ = false := rn.frozen
            have zn : W31.heap.size < wrm3.heap.size := rn.lt
            have cs : ∀ j, wrm3.cell? ⟨W33.heap.size, j, none⟩ = (#[.int .i64 P, .int .i64 Q, .int .i64 (P - 1), .int .i64 Q, .int .i64 (P + 1), .int .i64 Q, .int .i64 P, .int .i64 (Q - 1), .int .i64 P, .int .i64 (Q + 1)] : Array Value)[j]? := rs.cell
            have fs : ∀ j, wrm3.frozen? ⟨W33.heap.size, j, none⟩ = false := rs.frozen
            have zs : W33.heap.size < wrm3.heap.size := rs.lt
            have cq : ∀ j, wrm3.cell? ⟨W41.heap.size, j, none⟩ = (#[.int .i64 P, .int .i64 Q] : Array Value)[j]? := rq.cell
            have fq : ∀ j, wrm3.frozen? ⟨W41.heap.size, j, none⟩ = false := rq.frozen
            have zq : W41.heap.size < wrm3.heap.size := rq.lt
            clear hrm3 hrcm3 hrfm3
            go_wp2_with fail
            rw [rounds_succ]
            go_wp2_with fail
            refine region_below 8 (by kernel_rfl) (by kernel_rfl) ?_
            simp only [List.take_succ_cons, List.take_zero, List.drop_succ_cons, List.drop_zero]
            repeat (first | (refine' InText.skip (by rfl) ?_; simp only [Act.put, List.setIfInBounds_toArray, List.set_cons_zero, List.set_cons_succ]) | (refine' InText.val (by rfl) (fun wr hr => ?_) ?_; rotate_left 1; (focus (obtain ⟨hrc, hrf⟩ := bcell hr; (go_simp <;> with_reducible rfl); done)); simp only [Act.put, List.setIfInBounds_toArray, List.set_cons_zero, List.set_cons_succ]))
            refine fun wrm4 hrm4 => ?_
            obtain ⟨hrcm4, hrfm4⟩ := bcell hrm4
            clear cn fn zn cs fs zs cq fq zq
            replace rn := rn.keep hrm4
            replace rs := rs.keep hrm4
            replace rq := rq.keep hrm4
            replace kw := kw.trans (hrm4.mono kw.size)
            have cn : ∀ j, wrm4.cell? ⟨W31.heap.size, j, none⟩ = (#[.int .i64 Am, .int .i64 B0, .int .i64 C, .int .i64 Ap, .int .i64 B0, .int .i64 C, .int .i64 A, .int .i64 Bm, .int .i64 C, .int .i64 A, .int .i64 Bp, .int .i64 C, .int .i64 A, .int .i64 B0, .int .i64 Cm, .int .i64 A, .int .i64 B0, .int .i64 Cp] : Array Value)[j]? := rn.cell
            have fn : ∀ j, wrm4.frozen? ⟨W31.heap.size, j, none⟩ = false := rn.frozen
            have zn : W31.heap.size < wrm4.heap.size := rn.lt
            have cs : ∀ j, wrm4.cell? ⟨W33.heap.size, j, none⟩ = (#[.int .i64 P, .int .i64 Q, .int .i64 (P - 1), .int .i64 Q, .int .i64 (P + 1), .int .i64 Q, .int .i64 P, .int .i64 (Q - 1), .int .i64 P, .int .i64 (Q + 1)] : Array Value)[j]? := rs.cell
            have fs : ∀ j, wrm4.frozen? ⟨W33.heap.size, j, none⟩ = false := rs.frozen
            have zs : W33.heap.size < wrm4.heap.size := rs.lt
            have cq : ∀ j, wrm4.cell? ⟨W41.heap.size, j, none⟩ = (#[.int .i64 P, .int .i64 Q] : Array Value)[j]? := rq.cell
            have fq : ∀ j, wrm4.frozen? ⟨W41.heap.size, j, none⟩ = false := rq.frozen
            have zq : W41.heap.size < wrm4.heap.size := rq.lt
            clear hrm4 hrcm4 hrfm4
            go_wp2_with fail
            rw [rounds_succ]
            go_wp2_with fail
            go_roundw
            case rel =>
              exact ⟨5, by omega, by go_num, by (repeat (first | with_reducible assumption | with_reducible exact Below.refl _ _ | with_reducible refine Below.drew ?_ | with_reducible refine below_drewN ?_ _ | with_reducible refine al ?_ _ | (with_reducible refine sc ?_ ?_; (focus (first | omega | (simp; done) | (simp; omega)))) | (with_reducible refine chain ?_ (by assumption)))), rn, rs⟩
            case measure => simp [intOf]
          · have HQ := Hq4.out
            rw [e0] at HQ
            clear e0
            have HQQ := Lib.hid HQ
            clear HQ
            have v0 : eq2B (P) (Q - 1) (P) (Q) = false := by simp [eq2B] <;> omega
            have v1 : eq2B (P) (Q - 1) (P - 1) (Q) = false := by simp [eq2B] <;> omega
            have v2 : eq2B (P) (Q - 1) (P + 1) (Q) = false := by simp [eq2B] <;> omega
            have v3 : eq2B (P) (Q - 1) (P) (Q - 1) = true := by simp [eq2B]
            go_wp2_with fail
            (refine (HQQ.out _).mono ?_; rintro e W41 ⟨rfl, hW41⟩)
            clear cn fn zn cs fs zs
            replace rn := rn.keep hW41
            replace rs := rs.keep hW41
            replace kw := kw.trans (hW41.mono kw.size)
            have cn : ∀ j, W41.cell? ⟨W31.heap.size, j, none⟩ = (#[.int .i64 Am, .int .i64 B0, .int .i64 C, .int .i64 Ap, .int .i64 B0, .int .i64 C, .int .i64 A, .int .i64 Bm, .int .i64 C, .int .i64 A, .int .i64 Bp, .int .i64 C, .int .i64 A, .int .i64 B0, .int .i64 Cm, .int .i64 A, .int .i64 B0, .int .i64 Cp] : Array Value)[j]? := rn.cell
            have fn : ∀ j, W41.frozen? ⟨W31.heap.size, j, none⟩ = false := rn.frozen
            have zn : W31.heap.size < W41.heap.size := rn.lt
            have cs : ∀ j, W41.cell? ⟨W33.heap.size, j, none⟩ = (#[.int .i64 P, .int .i64 Q, .int .i64 (P - 1), .int .i64 Q, .int .i64 (P + 1), .int .i64 Q, .int .i64 P, .int .i64 (Q - 1), .int .i64 P, .int .i64 (Q + 1)] : Array Value)[j]? := rs.cell
            have fs : ∀ j, W41.frozen? ⟨W33.heap.size, j, none⟩ = false := rs.frozen
            have zs : W33.heap.size < W41.heap.size := rs.lt
            clear hW41
            go_wp2_with fail
            have yqn : W31.heap.size < W41.heap.size := by omega
            have yqs : W33.heap.size < W41.heap.size := by omega
            replace kw : Below w.heap.size w (W41.alloc (.cells #[.int .i64 P, .int .i64 (Q - 1)] 38)) := by (repeat (first | with_reducible assumption | with_reducible exact Below.refl _ _ | with_reducible refine Below.drew ?_ | with_reducible refine below_drewN ?_ _ | with_reducible refine al ?_ _ | (with_reducible refine sc ?_ ?_; (focus (first | omega | (simp; done) | (simp; omega)))) | (with_reducible refine chain ?_ (by assumption))))
            replace rn : RowAt (W41.alloc (.cells #[.int .i64 P, .int .i64 (Q - 1)] 38)) (W31.heap.size) #[.int .i64 Am, .int .i64 B0, .int .i64 C, .int .i64 Ap, .int .i64 B0, .int .i64 C, .int .i64 A, .int .i64 Bm, .int .i64 C, .int .i64 A, .int .i64 Bp, .int .i64 C, .int .i64 A, .int .i64 B0, .int .i64 Cm, .int .i64 A, .int .i64 B0, .int .i64 Cp] 45 := (rn.alloc _)
            replace rs : RowAt (W41.alloc (.cells #[.int .i64 P, .int .i64 (Q - 1)] 38)) (W33.heap.size) #[.int .i64 P, .int .i64 Q, .int .i64 (P - 1), .int .i64 Q, .int .i64 (P + 1), .int .i64 Q, .int .i64 P, .int .i64 (Q - 1), .int .i64 P, .int .i64 (Q + 1)] 47 := (rs.alloc _)
            have rq : RowAt (W41.alloc (.cells #[.int .i64 P, .int .i64 (Q - 1)] 38)) (W41.heap.size) #[.int .i64 P, .int .i64 (Q - 1)] 38 := (RowAt.make _ _ _ (by first | rfl | (simp [World.setCell]; done)))
            clear cn fn zn cs fs zs
            generalize (W41.alloc (.cells #[.int .i64 P, .int .i64 (Q - 1)] 38)) = W42 at *
            have cn : ∀ j, W42.cell? ⟨W31.heap.size, j, none⟩ = (#[.int .i64 Am, .int .i64 B0, .int .i64 C, .int .i64 Ap, .int .i64 B0, .int .i64 C, .int .i64 A, .int .i64 Bm, .int .i64 C, .int .i64 A, .int .i64 Bp, .int .i64 C, .int .i64 A, .int .i64 B0, .int .i64 Cm, .int .i64 A, .int .i64 B0, .int .i64 Cp] : Array Value)[j]? := rn.cell
            have fn : ∀ j, W42.frozen? ⟨W31.heap.size, j, none⟩ = false := rn.frozen
            have zn : W31.heap.size < W42.heap.size := rn.lt
            have cs : ∀ j, W42.cell? ⟨W33.heap.size, j, none⟩ = (#[.int .i64 P, .int .i64 Q, .int .i64 (P - 1), .int .i64 Q, .int .i64 (P + 1), .int .i64 Q, .int .i64 P, .int .i64 (Q - 1), .int .i64 P, .int .i64 (Q + 1)] : Array Value)[j]? := rs.cell
            have fs : ∀ j, W42.frozen? ⟨W33.heap.size, j, none⟩ = false := rs.frozen
            have zs : W33.heap.size < W42.heap.size := rs.lt
            have cq : ∀ j, W42.cell? ⟨W41.heap.size, j, none⟩ = (#[.int .i64 P, .int .i64 (Q - 1)] : Array Value)[j]? := rq.cell
            have fq : ∀ j, W42.frozen? ⟨W41.heap.size, j, none⟩ = false := rq.frozen
            have zq : W41.heap.size < W42.heap.size := rq.lt
            refine wp_loop_rounds 6 ?_
            rw [rounds_succ]
            go_wp2_with fail
            refine region_below 8 (by kernel_rfl) (by kernel_rfl) ?_
            simp only [List.take_succ_cons, List.take_zero, List.drop_succ_cons, List.drop_zero]
            repeat (first | (refine' InText.skip (by rfl) ?_; simp only [Act.put, List.setIfInBounds_toArray, List.set_cons_zero, List.set_cons_succ]) | (refine' InText.val (by rfl) (fun wr hr => ?_) ?_; rotate_left 1; (focus (obtain ⟨hrc, hrf⟩ := bcell hr; (go_simp <;> with_reducible rfl); done)); simp only [Act.put, List.setIfInBounds_toArray, List.set_cons_zero, List.set_cons_succ]))
            refine fun wrm0 hrm0 => ?_
            obtain ⟨hrcm0, hrfm0⟩ := bcell hrm0
            clear cn fn zn cs fs zs cq fq zq
            replace rn := rn.keep hrm0
            replace rs := rs.keep hrm0
            replace rq := rq.keep hrm0
            replace kw := kw.trans (hrm0.mono kw.size)
            have cn : ∀ j, wrm0.cell? ⟨W31.heap.size, j, none⟩ = (#[.int .i64 Am, .int .i64 B0, .int .i64 C, .int .i64 Ap, .int .i64 B0, .int .i64 C, .int .i64 A, .int .i64 Bm, .int .i64 C, .int .i64 A, .int .i64 Bp, .int .i64 C, .int .i64 A, .int .i64 B0, .int .i64 Cm, .int .i64 A, .int .i64 B0, .int .i64 Cp] : Array Value)[j]? := rn.cell
            have fn : ∀ j, wrm0.frozen? ⟨W31.heap.size, j, none⟩ = false := rn.frozen
            have zn : W31.heap.size < wrm0.heap.size := rn.lt
            have cs : ∀ j, wrm0.cell? ⟨W33.heap.size, j, none⟩ = (#[.int .i64 P, .int .i64 Q, .int .i64 (P - 1), .int .i64 Q, .int .i64 (P + 1), .int .i64 Q, .int .i64 P, .int .i64 (Q - 1), .int .i64 P, .int .i64 (Q + 1)] : Array Value)[j]? := rs.cell
            have fs : ∀ j, wrm0.frozen? ⟨W33.heap.size, j, none⟩ = false := rs.frozen
            have zs : W33.heap.size < wrm0.heap.size := rs.lt
            have cq : ∀ j, wrm0.cell? ⟨W41.heap.size, j, none⟩ = (#[.int .i64 P, .int .i64 (Q - 1)] : Array Value)[j]? := rq.cell
            have fq : ∀ j, wrm0.frozen? ⟨W41.heap.size, j, none⟩ = false := rq.frozen
            have zq : W41.heap.size < wrm0.heap.size := rq.lt
            clear hrm0 hrcm0 hrfm0
            go_wp2_with fail
            rw [rounds_succ]
            go_wp2_with fail
            refine region_below 8 (by kernel_rfl) (by kernel_rfl) ?_
            simp only [List.take_succ_cons, List.take_zero, List.drop_succ_cons, List.drop_zero]
            repeat (first | (refine' InText.skip (by rfl) ?_; simp only [Act.put, List.setIfInBounds_toArray, List.set_cons_zero, List.set_cons_succ]) | (refine' InText.val (by rfl) (fun wr hr => ?_) ?_; rotate_left 1; (focus (obtain ⟨hrc, hrf⟩ := bcell hr; (go_simp <;> with_reducible rfl); done)); simp only [Act.put, List.setIfInBounds_toArray, List.set_cons_zero, List.set_cons_succ]))
            refine fun wrm1 hrm1 => ?_
            obtain ⟨hrcm1, hrfm1⟩ := bcell hrm1
            clear cn fn zn cs fs zs cq fq zq
            replace rn := rn.keep hrm1
            replace rs := rs.keep hrm1
            replace rq := rq.keep hrm1
            replace kw := kw.trans (hrm1.mono kw.size)
            have cn : ∀ j, wrm1.cell? ⟨W31.heap.size, j, none⟩ = (#[.int .i64 Am, .int .i64 B0, .int .i64 C, .int .i64 Ap, .int .i64 B0, .int .i64 C, .int .i64 A, .int .i64 Bm, .int .i64 C, .int .i64 A, .int .i64 Bp, .int .i64 C, .int .i64 A, .int .i64 B0, .int .i64 Cm, .int .i64 A, .int .i64 B0, .int .i64 Cp] : Array Value)[j]? := rn.cell
            have fn : ∀ j, wrm1.frozen? ⟨W31.heap.size, j, none⟩ = false := rn.frozen
            have zn : W31.heap.size < wrm1.heap.size := rn.lt
            have cs : ∀ j, wrm1.cell? ⟨W33.heap.size, j, none⟩ = (#[.int .i64 P, .int .i64 Q, .int .i64 (P - 1), .int .i64 Q, .int .i64 (P + 1), .int .i64 Q, .int .i64 P, .int .i64 (Q - 1), .int .i64 P, .int .i64 (Q + 1)] : Array Value)[j]? := rs.cell
            have fs : ∀ j, wrm1.frozen? ⟨W33.heap.size, j, none⟩ = false := rs.frozen
            have zs : W33.heap.size < wrm1.heap.size := rs.lt
            have cq : ∀ j, wrm1.cell? ⟨W41.heap.size, j, none⟩ = (#[.int .i64 P, .int .i64 (Q - 1)] : Array Value)[j]? := rq.cell
            have fq : ∀ j, wrm1.frozen? ⟨W41.heap.size, j, none⟩ = false := rq.frozen
            have zq : W41.heap.size < wrm1.heap.size := rq.lt
            clear hrm1 hrcm1 hrfm1
            go_wp2_with fail
            rw [rounds_succ]
            go_wp2_with fail
            refine region_below 8 (by kernel_rfl) (by kernel_rfl) ?_
            simp only [List.take_succ_cons, List.take_zero, List.drop_succ_cons, List.drop_zero]
            repeat (first | (refine' InText.skip (by rfl) ?_; simp only [Act.put, List.setIfInBounds_toArray, List.set_cons_zero, List.set_cons_succ]) | (refine' InText.val (by rfl) (fun wr hr => ?_) ?_; rotate_left 1; (focus (obtain ⟨hrc, hrf⟩ := bcell hr; (go_simp <;> with_reducible rfl); done)); simp only [Act.put, List.setIfInBounds_toArray, List.set_cons_zero, List.set_cons_succ]))
            refine fun wrm2 hrm2 => ?_
            obtain ⟨hrcm2, hrfm2⟩ := bcell hrm2
            clear cn fn zn cs fs zs cq fq zq
            replace rn := rn.keep hrm2
            replace rs := rs.keep hrm2
            replace rq := rq.keep hrm2
            replace kw := kw.trans (hrm2.mono kw.size)
            have cn : ∀ j, wrm2.cell? ⟨W31.heap.size, j, none⟩ = (#[.int .i64 Am, .int .i64 B0, .int .i64 C, .int .i64 Ap, .int .i64 B0, .int .i64 C, .int .i64 A, .int .i64 Bm, .int .i64 C, .int .i64 A, .int .i64 Bp, .int .i64 C, .int .i64 A, .int .i64 B0, .int .i64 Cm, .int .i64 A, .int .i64 B0, .int .i64 Cp] : Array Value)[j]? := rn.cell
            have fn : ∀ j, wrm2.frozen? ⟨W31.heap.size, j, none⟩ = false := rn.frozen
            have zn : W31.heap.size < wrm2.heap.size := rn.lt
            have cs : ∀ j, wrm2.cell? ⟨W33.heap.size, j, none⟩ = (#[.int .i64 P, .int .i64 Q, .int .i64 (P - 1), .int .i64 Q, .int .i64 (P + 1), .int .i64 Q, .int .i64 P, .int .i64 (Q - 1), .int .i64 P, .int .i64 (Q + 1)] : Array Value)[j]? := rs.cell
            have fs : ∀ j, wrm2.frozen? ⟨W33.heap.size, j, none⟩ = false := rs.frozen
            have zs : W33.heap.size < wrm2.heap.size := rs.lt
            have cq : ∀ j, wrm2.cell? ⟨W41.heap.size, j, none⟩ = (#[.int .i64 P, .int .i64 (Q - 1)] : Array Value)[j]? := rq.cell
            have fq : ∀ j, wrm2.frozen? ⟨W41.heap.size, j, none⟩ = false := rq.frozen
            have zq : W41.heap.size < wrm2.heap.size := rq.lt
            clear hrm2 hrcm2 hrfm2
            go_wp2_with fail
            rw [rounds_succ]
            go_wp2_with fail
            refine region_below 8 (by kernel_rfl) (by kernel_rfl) ?_
            simp only [List.take_succ_cons, List.take_zero, List.drop_succ_cons, List.drop_zero]
            repeat (first | (refine' InText.skip (by rfl) ?_; simp only [Act.put, List.setIfInBounds_toArray, List.set_cons_zero, List.set_cons_succ]) | (refine' InText.val (by rfl) (fun wr hr => ?_) ?_; rotate_left 1; (focus (obtain ⟨hrc, hrf⟩ := bcell hr; (go_simp <;> with_reducible rfl); done)); simp only [Act.put, List.setIfInBounds_toArray, List.set_cons_zero, List.set_cons_succ]))
            refine fun wrm3 hrm3 => ?_
            obtain ⟨hrcm3, hrfm3⟩ := bcell hrm3
            clear cn fn zn cs fs zs cq fq zq
            replace rn := rn.keep hrm3
            replace rs := rs.keep hrm3
            replace rq := rq.keep hrm3
            replace kw := kw.trans (hrm3.mono kw.size)
            have cn : ∀ j, wrm3.cell? ⟨W31.heap.size, j, none⟩ = (#[.int .i64 Am, .int .i64 B0, .int .i64 C, .int .i64 Ap, .int .i64 B0, .int .i64 C, .int .i64 A, .int .i64 Bm, .int .i64 C, .int .i64 A, .int .i64 Bp, .int .i64 C, .int .i64 A, .int .i64 B0, .int .i64 Cm, .int .i64 A, .int .i64 B0, .int .i64 Cp] : Array Value)[j]? := rn.cell
            have fn : ∀ j, wrm3.frozen? ⟨W31.heap.size, j, none⟩ = false := rn.frozen
            have zn : W31.heap.size < wrm3.heap.size := rn.lt
            have cs : ∀ j, wrm3.cell? ⟨W33.heap.size, j, none⟩ = (#[.int .i64 P, .int .i64 Q, .int .i64 (P - 1), .int .i64 Q, .int .i64 (P + 1), .int .i64 Q, .int .i64 P, .int .i64 (Q - 1), .int .i64 P, .int .i64 (Q + 1)] : Array Value)[j]? := rs.cell
            have fs : ∀ j, wrm3.frozen? ⟨W33.heap.size, j, none⟩ = false := rs.frozen
            have zs : W33.heap.size < wrm3.heap.size := rs.lt
            have cq : ∀ j, wrm3.cell? ⟨W41.heap.size, j, none⟩ = (#[.int .i64 P, .int .i64 (Q - 1)] : Array Value)[j]? := rq.cell
            have fq : ∀ j, wrm3.frozen? ⟨W41.heap.size, j, none⟩ = false := rq.frozen
            have zq : W41.heap.size < wrm3.heap.size := rq.lt
            clear hrm3 hrcm3 hrfm3
            go_wp2_with fail
            rw [rounds_succ]
            go_wp2_with fail
            refine region_below 8 (by kernel_rfl) (by kernel_rfl) ?_
            simp only [List.take_succ_cons, List.take_zero, List.drop_succ_cons, List.drop_zero]
            repeat (first | (refine' InText.skip (by rfl) ?_; simp only [Act.put, List.setIfInBounds_toArray, List.set_cons_zero, List.set_cons_succ]) | (refine' InText.val (by rfl) (fun wr hr => ?_) ?_; rotate_left 1; (focus (obtain ⟨hrc, hrf⟩ := bcell hr; (go_simp <;> with_reducible rfl); done)); simp only [Act.put, List.setIfInBounds_toArray, List.set_cons_zero, List.set_cons_succ]))
            refine fun wrm4 hrm4 => ?_
            obtain ⟨hrcm4, hrfm4⟩ := bcell hrm4
            clear cn fn zn cs fs zs cq fq zq
            replace rn := rn.keep hrm4
            replace rs := rs.keep hrm4
            replace rq := rq.keep hrm4
            replace kw := kw.trans (hrm4.mono kw.size)
            have cn : ∀ j, wrm4.cell? ⟨W31.heap.size, j, none⟩ = (#[.int .i64 Am, .int .i64 B0, .int .i64 C, .int .i64 Ap, .int .i64 B0, .int .i64 C, .int .i64 A, .int .i64 Bm, .int .i64 C, .int .i64 A, .int .i64 Bp, .int .i64 C, .int .i64 A, .int .i64 B0, .int .i64 Cm, .int .i64 A, .int .i64 B0, .int .i64 Cp] : Array Value)[j]? := rn.cell
            have fn : ∀ j, wrm4.frozen? ⟨W31.heap.size, j, none⟩ = false := rn.frozen
            have zn : W31.heap.size < wrm4.heap.size := rn.lt
            have cs : ∀ j, wrm4.cell? ⟨W33.heap.size, j, none⟩ = (#[.int .i64 P, .int .i64 Q, .int .i64 (P - 1), .int .i64 Q, .int .i64 (P + 1), .int .i64 Q, .int .i64 P, .int .i64 (Q - 1), .int .i64 P, .int .i64 (Q + 1)] : Array Value)[j]? := rs.cell
            have fs : ∀ j, wrm4.frozen? ⟨W33.heap.size, j, none⟩ = false := rs.frozen
            have zs : W33.heap.size < wrm4.heap.size := rs.lt
            have cq : ∀ j, wrm4.cell? ⟨W41.heap.size, j, none⟩ = (#[.int .i64 P, .int .i64 (Q - 1)] : Array Value)[j]? := rq.cell
            have fq : ∀ j, wrm4.frozen? ⟨W41.heap.size, j, none⟩ = false := rq.frozen
            have zq : W41.heap.size < wrm4.heap.size := rq.lt
            clear hrm4 hrcm4 hrfm4
            go_wp2_with fail
            rw [rounds_succ]
            go_wp2_with fail
            go_roundw
            case rel =>
              exact ⟨5, by omega, by go_num, by (repeat (first | with_reducible assumption | with_reducible exact Below.refl _ _ | with_reducible refine Below.drew ?_ | with_reducible refine below_drewN ?_ _ | with_reducible refine al ?_ _ | (with_reducible refine sc ?_ ?_; (focus (first | omega | (simp; done) | (simp; omega)))) | (with_reducible refine chain ?_ (by assumption)))), rn, rs⟩
            case measure => simp [intOf]
        · have cn : ∀ j, wr.cell? ⟨W31.heap.size, j, none⟩ = (#[.int .i64 Am, .int .i64 B0, .int .i64 C, .int .i64 Ap, .int .i64 B0, .int .i64 C, .int .i64 A, .int .i64 Bm, .int .i64 C, .int .i64 A, .int .i64 Bp, .int .i64 C, .int .i64 A, .int .i64 B0, .int .i64 Cm, .int .i64 A, .int .i64 B0, .int .i64 Cp] : Array Value)[j]? := rn.cell
          have fn : ∀ j, wr.frozen? ⟨W31.heap.size, j, none⟩ = false := rn.frozen
          have zn : W31.heap.size < wr.heap.size := rn.lt
          have cs : ∀ j, wr.cell? ⟨W33.heap.size, j, none⟩ = (#[.int .i64 P, .int .i64 Q, .int .i64 (P - 1), .int .i64 Q, .int .i64 (P + 1), .int .i64 Q, .int .i64 P, .int .i64 (Q - 1), .int .i64 P, .int .i64 (Q + 1)] : Array Value)[j]? := rs.cell
          have fs : ∀ j, wr.frozen? ⟨W33.heap.size, j, none⟩ = false := rs.frozen
          have zs : W33.heap.size < wr.heap.size := rs.lt
          have q5 := eq2p_run
          rcases Z5.out with e0 | e0
          · have HQ := Hq5.out
            rw [e0] at HQ
            clear e0
            have HQQ := Lib.hid HQ
            clear HQ
            have v0 : eq2B (P) (Q) (P) (Q) = true := by simp [eq2B]
            go_wp2_with fail
            (refine (HQQ.out _).mono ?_; rintro e W41 ⟨rfl, hW41⟩)
            clear cn fn zn cs fs zs
            replace rn := rn.keep hW41
            replace rs := rs.keep hW41
            replace kw := kw.trans (hW41.mono kw.size)
            have cn : ∀ j, W41.cell? ⟨W31.heap.size, j, none⟩ = (#[.int .i64 Am, .int .i64 B0, .int .i64 C, .int .i64 Ap, .int .i64 B0, .int .i64 C, .int .i64 A, .int .i64 Bm, .int .i64 C, .int .i64 A, .int .i64 Bp, .int .i64 C, .int .i64 A, .int .i64 B0, .int .i64 Cm, .int .i64 A, .int .i64 B0, .int .i64 Cp] : Array Value)[j]? := rn.cell
            have fn : ∀ j, W41.frozen? ⟨W31.heap.size, j, none⟩ = false := rn.frozen
            have zn : W31.heap.size < W41.heap.size := rn.lt
            have cs : ∀ j, W41.cell? ⟨W33.heap.size, j, none⟩ = (#[.int .i64 P, .int .i64 Q, .int .i64 (P - 1), .int .i64 Q, .int .i64 (P + 1), .int .i64 Q, .int .i64 P, .int .i64 (Q - 1), .int .i64 P, .int .i64 (Q + 1)] : Array Value)[j]? := rs.cell
            have fs : ∀ j, W41.frozen? ⟨W33.heap.size, j, none⟩ = false := rs.frozen
            have zs : W33.heap.size < W41.heap.size := rs.lt
            clear hW41
            go_wp2_with fail
            have yqn : W31.heap.size < W41.heap.size := by omega
            have yqs : W33.heap.size < W41.heap.size := by omega
            replace kw : Below w.heap.size w (W41.alloc (.cells #[.int .i64 P, .int .i64 Q] 38)) := by (repeat (first | with_reducible assumption | with_reducible exact Below.refl _ _ | with_reducible refine Below.drew ?_ | with_reducible refine below_drewN ?_ _ | with_reducible refine al ?_ _ | (with_reducible refine sc ?_ ?_; (focus (first | omega | (simp; done) | (simp; omega)))) | (with_reducible refine chain ?_ (by assumption))))
            replace rn : RowAt (W41.alloc (.cells #[.int .i64 P, .int .i64 Q] 38)) (W31.heap.size) #[.int .i64 Am, .int .i64 B0, .int .i64 C, .int .i64 Ap, .int .i64 B0, .int .i64 C, .int .i64 A, .int .i64 Bm, .int .i64 C, .int .i64 A, .int .i64 Bp, .int .i64 C, .int .i64 A, .int .i64 B0, .int .i64 Cm, .int .i64 A, .int .i64 B0, .int .i64 Cp] 45 := (rn.alloc _)
            replace rs : RowAt (W41.alloc (.cells #[.int .i64 P, .int .i64 Q] 38)) (W33.heap.size) #[.int .i64 P, .int .i64 Q, .int .i64 (P - 1), .int .i64 Q, .int .i64 (P + 1), .int .i64 Q, .int .i64 P, .int .i64 (Q - 1), .int .i64 P, .int .i64 (Q + 1)] 47 := (rs.alloc _)
            have rq : RowAt (W41.alloc (.cells #[.int .i64 P, .int .i64 Q] 38)) (W41.heap.size) #[.int .i64 P, .int .i64 Q] 38 := (RowAt.make _ _ _ (by first | rfl | (simp [World.setCell]; done)))
            clear cn fn zn cs fs zs
            generalize (W41.alloc (.cells #[.int .i64 P, .int .i64 Q] 38)) = W42 at *
            have cn : ∀ j, W42.cell? ⟨W31.heap.size, j, none⟩ = (#[.int .i64 Am, .int .i64 B0, .int .i64 C, .int .i64 Ap, .int .i64 B0, .int .i64 C, .int .i64 A, .int .i64 Bm, .int .i64 C, .int .i64 A, .int .i64 Bp, .int .i64 C, .int .i64 A, .int .i64 B0, .int .i64 Cm, .int .i64 A, .int .i64 B0, .int .i64 Cp] : Array Value)[j]? := rn.cell
            have fn : ∀ j, W42.frozen? ⟨W31.heap.size, j, none⟩ = false := rn.frozen
            have zn : W31.heap.size < W42.heap.size := rn.lt
            have cs : ∀ j, W42.cell? ⟨W33.heap.size, j, none⟩ = (#[.int .i64 P, .int .i64 Q, .int .i64 (P - 1), .int .i64 Q, .int .i64 (P + 1), .int .i64 Q, .int .i64 P, .int .i64 (Q - 1), .int .i64 P, .int .i64 (Q + 1)] : Array Value)[j]? := rs.cell
            have fs : ∀ j, W42.frozen? ⟨W33.heap.size, j, none⟩ = false := rs.frozen
            have zs : W33.heap.size < W42.heap.size := rs.lt
            have cq : ∀ j, W42.cell? ⟨W41.heap.size, j, none⟩ = (#[.int .i64 P, .int .i64 Q] : Array Value)[j]? := rq.cell
            have fq : ∀ j, W42.frozen? ⟨W41.heap.size, j, none⟩ = false := rq.frozen
            have zq : W41.heap.size < W42.heap.size := rq.lt
            refine wp_loop_rounds 6 ?_
            rw [rounds_succ]
            go_wp2_with fail
            refine region_below 8 (by kernel_rfl) (by kernel_rfl) ?_
            simp only [List.take_succ_cons, List.take_zero, List.drop_succ_cons, List.drop_zero]
            repeat (first | (refine' InText.skip (by rfl) ?_; simp only [Act.put, List.setIfInBounds_toArray, List.set_cons_zero, List.set_cons_succ]) | (refine' InText.val (by rfl) (fun wr hr => ?_) ?_; rotate_left 1; (focus (obtain ⟨hrc, hrf⟩ := bcell hr; (go_simp <;> with_reducible rfl); done)); simp only [Act.put, List.setIfInBounds_toArray, List.set_cons_zero, List.set_cons_succ]))
            refine fun wrm0 hrm0 => ?_
            obtain ⟨hrcm0, hrfm0⟩ := bcell hrm0
            clear cn fn zn cs fs zs cq fq zq
            replace rn := rn.keep hrm0
            replace rs := rs.keep hrm0
            replace rq := rq.keep hrm0
            replace kw := kw.trans (hrm0.mono kw.size)
            have cn : ∀ j, wrm0.cell? ⟨W31.heap.size, j, none⟩ = (#[.int .i64 Am, .int .i64 B0, .int .i64 C, .int .i64 Ap, .int .i64 B0, .int .i64 C, .int .i64 A, .int .i64 Bm, .int .i64 C, .int .i64 A, .int .i64 Bp, .int .i64 C, .int .i64 A, .int .i64 B0, .int .i64 Cm, .int .i64 A, .int .i64 B0, .int .i64 Cp] : Array Value)[j]? := rn.cell
            have fn : ∀ j, wrm0.frozen? ⟨W31.heap.size, j, none⟩ = false := rn.frozen
            have zn : W31.heap.size < wrm0.heap.size := rn.lt
            have cs : ∀ j, wrm0.cell? ⟨W33.heap.size, j, none⟩ = (#[.int .i64 P, .int .i64 Q, .int .i64 (P - 1), .int .i64 Q, .int .i64 (P + 1), .int .i64 Q, .int .i64 P, .int .i64 (Q - 1), .int .i64 P, .int .i64 (Q + 1)] : Array Value)[j]? := rs.cell
            have fs : ∀ j, wrm0.frozen? ⟨W33.heap.size, j, none⟩ = false := rs.frozen
            have zs : W33.heap.size < wrm0.heap.size := rs.lt
            have cq : ∀ j, wrm0.cell? ⟨W41.heap.size, j, none⟩ = (#[.int .i64 P, .int .i64 Q] : Array Value)[j]? := rq.cell
            have fq : ∀ j, wrm0.frozen? ⟨W41.heap.size, j, none⟩ = false := rq.frozen
            have zq : W41.heap.size < wrm0.heap.size := rq.lt
            clear hrm0 hrcm0 hrfm0
            go_wp2_with fail
            rw [rounds_succ]
            go_wp2_with fail
            refine region_below 8 (by kernel_rfl) (by kernel_rfl) ?_
            simp only [List.take_succ_cons, List.take_zero, List.drop_succ_cons, List.drop_zero]
            repeat (first | (refine' InText.skip (by rfl) ?_; simp only [Act.put, List.setIfInBounds_toArray, List.set_cons_zero, List.set_cons_succ]) | (refine' InText.val (by rfl) (fun wr hr => ?_) ?_; rotate_left 1; (focus (obtain ⟨hrc, hrf⟩ := bcell hr; (go_simp <;> with_reducible rfl); done)); simp only [Act.put, List.setIfInBounds_toArray, List.set_cons_zero, List.set_cons_succ]))
            refine fun wrm1 hrm1 => ?_
            obtain ⟨hrcm1, hrfm1⟩ := bcell hrm1
            clear cn fn zn cs fs zs cq fq zq
            replace rn := rn.keep hrm1
            replace rs := rs.keep hrm1
            replace rq := rq.keep hrm1
            replace kw := kw.trans (hrm1.mono kw.size)
            have cn : ∀ j, wrm1.cell? ⟨W31.heap.size, j, none⟩ = (#[.int .i64 Am, .int .i64 B0, .int .i64 C, .int .i64 Ap, .int .i64 B0, .int .i64 C, .int .i64 A, .int .i64 Bm, .int .i64 C, .int .i64 A, .int .i64 Bp, .int .i64 C, .int .i64 A, .int .i64 B0, .int .i64 Cm, .int .i64 A, .int .i64 B0, .int .i64 Cp] : Array Value)[j]? := rn.cell
            have fn : ∀ j, wrm1.frozen? ⟨W31.heap.size, j, none⟩ = false := rn.frozen
            have zn : W31.heap.size < wrm1.heap.size := rn.lt
            have cs : ∀ j, wrm1.cell? ⟨W33.heap.size, j, none⟩ = (#[.int .i64 P, .int .i64 Q, .int .i64 (P - 1), .int .i64 Q, .int .i64 (P + 1), .int .i64 Q, .int .i64 P, .int .i64 (Q - 1), .int .i64 P, .int .i64 (Q + 1)] : Array Value)[j]? := rs.cell
            have fs : ∀ j, wrm1.frozen? ⟨W33.heap.size, j, none⟩ = false := rs.frozen
            have zs : W33.heap.size < wrm1.heap.size := rs.lt
            have cq : ∀ j, wrm1.cell? ⟨W41.heap.size, j, none⟩ = (#[.int .i64 P, .int .i64 Q] : Array Value)[j]? := rq.cell
            have fq : ∀ j, wrm1.frozen? ⟨W41.heap.size, j, none⟩ = false := rq.frozen
            have zq : W41.heap.size < wrm1.heap.size := rq.lt
            clear hrm1 hrcm1 hrfm1
            go_wp2_with fail
            rw [rounds_succ]
            go_wp2_with fail
            refine region_below 8 (by kernel_rfl) (by kernel_rfl) ?_
            simp only [List.take_succ_cons, List.take_zero, List.drop_succ_cons, List.drop_zero]
            repeat (first | (refine' InText.skip (by rfl) ?_; simp only [Act.put, List.setIfInBounds_toArray, List.set_cons_zero, List.set_cons_succ]) | (refine' InText.val (by rfl) (fun wr hr => ?_) ?_; rotate_left 1; (focus (obtain ⟨hrc, hrf⟩ := bcell hr; (go_simp <;> with_reducible rfl); done)); simp only [Act.put, List.setIfInBounds_toArray, List.set_cons_zero, List.set_cons_succ]))
            refine fun wrm2 hrm2 => ?_
            obtain ⟨hrcm2, hrfm2⟩ := bcell hrm2
            clear cn fn zn cs fs zs cq fq zq
            replace rn := rn.keep hrm2
            replace rs := rs.keep hrm2
            replace rq := rq.keep hrm2
            replace kw := kw.trans (hrm2.mono kw.size)
            have cn : ∀ j, wrm2.cell? ⟨W31.heap.size, j, none⟩ = (#[.int .i64 Am, .int .i64 B0, .int .i64 C, .int .i64 Ap, .int .i64 B0, .int .i64 C, .int .i64 A, .int .i64 Bm, .int .i64 C, .int .i64 A, .int .i64 Bp, .int .i64 C, .int .i64 A, .int .i64 B0, .int .i64 Cm, .int .i64 A, .int .i64 B0, .int .i64 Cp] : Array Value)[j]? := rn.cell
            have fn : ∀ j, wrm2.frozen? ⟨W31.heap.size, j, none⟩ = false := rn.frozen
            have zn : W31.heap.size < wrm2.heap.size := rn.lt
            have cs : ∀ j, wrm2.cell? ⟨W33.heap.size, j, none⟩ = (#[.int .i64 P, .int .i64 Q, .int .i64 (P - 1), .int .i64 Q, .int .i64 (P + 1), .int .i64 Q, .int .i64 P, .int .i64 (Q - 1), .int .i64 P, .int .i64 (Q + 1)] : Array Value)[j]? := rs.cell
            have fs : ∀ j, wrm2.frozen? ⟨W33.heap.size, j, none⟩ = false := rs.frozen
            have zs : W33.heap.size < wrm2.heap.size := rs.lt
            have cq : ∀ j, wrm2.cell? ⟨W41.heap.size, j, none⟩ = (#[.int .i64 P, .int .i64 Q] : Array Value)[j]? := rq.cell
            have fq : ∀ j, wrm2.frozen? ⟨W41.heap.size, j, none⟩ = false := rq.frozen
            have zq : W41.heap.size < wrm2.heap.size := rq.lt
            clear hrm2 hrcm2 hrfm2
            go_wp2_with fail
            rw [rounds_succ]
            go_wp2_with fail
            refine region_below 8 (by kernel_rfl) (by kernel_rfl) ?_
            simp only [List.take_succ_cons, List.take_zero, List.drop_succ_cons, List.drop_zero]
            repeat (first | (refine' InText.skip (by rfl) ?_; simp only [Act.put, List.setIfInBounds_toArray, List.set_cons_zero, List.set_cons_succ]) | (refine' InText.val (by rfl) (fun wr hr => ?_) ?_; rotate_left 1; (focus (obtain ⟨hrc, hrf⟩ := bcell hr; (go_simp <;> with_reducible rfl); done)); simp only [Act.put, List.setIfInBounds_toArray, List.set_cons_zero, List.set_cons_succ]))
            refine fun wrm3 hrm3 => ?_
            obtain ⟨hrcm3, hrfm3⟩ := bcell hrm3
            clear cn fn zn cs fs zs cq fq zq
            replace rn := rn.keep hrm3
            replace rs := rs.keep hrm3
            replace rq := rq.keep hrm3
            replace kw := kw.trans (hrm3.mono kw.size)
            have cn : ∀ j, wrm3.cell? ⟨W31.heap.size, j, none⟩ = (#[.int .i64 Am, .int .i64 B0, .int .i64 C, .int .i64 Ap, .int .i64 B0, .int .i64 C, .int .i64 A, .int .i64 Bm, .int .i64 C, .int .i64 A, .int .i64 Bp, .int .i64 C, .int .i64 A, .int .i64 B0, .int .i64 Cm, .int .i64 A, .int .i64 B0, .int .i64 Cp] : Array Value)[j]? := rn.cell
            have fn : ∀ j, wrm3.frozen? ⟨W31.heap.size, j, none⟩ = false := rn.frozen
            have zn : W31.heap.size < wrm3.heap.size := rn.lt
            have cs : ∀ j, wrm3.cell? ⟨W33.heap.size, j, none⟩ = (#[.int .i64 P, .int .i64 Q, .int .i64 (P - 1), .int .i64 Q, .int .i64 (P + 1), .int .i64 Q, .int .i64 P, .int .i64 (Q - 1), .int .i64 P, .int .i64 (Q + 1)] : Array Value)[j]? := rs.cell
            have fs : ∀ j, wrm3.frozen? ⟨W33.heap.size, j, none⟩ = false := rs.frozen
            have zs : W33.heap.size < wrm3.heap.size := rs.lt
            have cq : ∀ j, wrm3.cell? ⟨W41.heap.size, j, none⟩ = (#[.int .i64 P, .int .i64 Q] : Array Value)[j]? := rq.cell
            have fq : ∀ j, wrm3.frozen? ⟨W41.heap.size, j, none⟩ = false := rq.frozen
            have zq : W41.heap.size < wrm3.heap.size := rq.lt
            clear hrm3 hrcm3 hrfm3
            go_wp2_with fail
            rw [rounds_succ]
            go_wp2_with fail
            refine region_below 8 (by kernel_rfl) (by kernel_rfl) ?_
            simp only [List.take_succ_cons, List.take_zero, List.drop_succ_cons, List.drop_zero]
            repeat (first | (refine' InText.skip (by rfl) ?_; simp only [Act.put, List.setIfInBounds_toArray, List.set_cons_zero, List.set_cons_succ]) | (refine' InText.val (by rfl) (fun wr hr => ?_) ?_; rotate_left 1; (focus (obtain ⟨hrc, hrf⟩ := bcell hr; (go_simp <;> with_reducible rfl); done)); simp only [Act.put, List.setIfInBounds_toArray, List.set_cons_zero, List.set_cons_succ]))
            refine fun wrm4 hrm4 => ?_
            obtain ⟨hrcm4, hrfm4⟩ := bcell hrm4
            clear cn fn zn cs fs zs cq fq zq
            replace rn := rn.keep hrm4
            replace rs := rs.keep hrm4
            replace rq := rq.keep hrm4
            replace kw := kw.trans (hrm4.mono kw.size)
            have cn : ∀ j, wrm4.cell? ⟨W31.heap.size, j, none⟩ = (#[.int .i64 Am, .int .i64 B0, .int .i64 C, .int .i64 Ap, .int .i64 B0, .int .i64 C, .int .i64 A, .int .i64 Bm, .int .i64 C, .int .i64 A, .int .i64 Bp, .int .i64 C, .int .i64 A, .int .i64 B0, .int .i64 Cm, .int .i64 A, .int .i64 B0, .int .i64 Cp] : Array Value)[j]? := rn.cell
            have fn : ∀ j, wrm4.frozen? ⟨W31.heap.size, j, none⟩ = false := rn.frozen
            have zn : W31.heap.size < wrm4.heap.size := rn.lt
            have cs : ∀ j, wrm4.cell? ⟨W33.heap.size, j, none⟩ = (#[.int .i64 P, .int .i64 Q, .int .i64 (P - 1), .int .i64 Q, .int .i64 (P + 1), .int .i64 Q, .int .i64 P, .int .i64 (Q - 1), .int .i64 P, .int .i64 (Q + 1)] : Array Value)[j]? := rs.cell
            have fs : ∀ j, wrm4.frozen? ⟨W33.heap.size, j, none⟩ = false := rs.frozen
            have zs : W33.heap.size < wrm4.heap.size := rs.lt
            have cq : ∀ j, wrm4.cell? ⟨W41.heap.size, j, none⟩ = (#[.int .i64 P, .int .i64 Q] : Array Value)[j]? := rq.cell
            have fq : ∀ j, wrm4.frozen? ⟨W41.heap.size, j, none⟩ = false := rq.frozen
            have zq : W41.heap.size < wrm4.heap.size := rq.lt
            clear hrm4 hrcm4 hrfm4
            go_wp2_with fail
            rw [rounds_succ]
            go_wp2_with fail
            go_roundw
            case rel =>
              exact ⟨6, by omega, by go_num, by (repeat (first | with_reducible assumption | with_reducible exact Below.refl _ _ | with_reducible refine Below.drew ?_ | with_reducible refine below_drewN ?_ _ | with_reducible refine al ?_ _ | (with_reducible refine sc ?_ ?_; (focus (first | omega | (simp; done) | (simp; omega)))) | (with_reducible refine chain ?_ (by assumption)))), rn, rs⟩
            case measure => simp [intOf]
          · have HQ := Hq5.out
            rw [e0] at HQ
            clear e0
            have HQQ := Lib.hid HQ
            clear HQ
            have v0 : eq2B (P) (Q + 1) (P) (Q) = false := by simp [eq2B] <;> omega
            have v1 : eq2B (P) (Q + 1) (P - 1) (Q) = false := by simp [eq2B] <;> omega
            have v2 : eq2B (P) (Q + 1) (P + 1) (Q) = false := by simp [eq2B] <;> omega
            have v3 : eq2B (P) (Q + 1) (P) (Q - 1) = false := by simp [eq2B] <;> omega
            have v4 : eq2B (P) (Q + 1) (P) (Q + 1) = true := by simp [eq2B]
            go_wp2_with fail
            (refine (HQQ.out _).mono ?_; rintro e W41 ⟨rfl, hW41⟩)
            clear cn fn zn cs fs zs
            replace rn := rn.keep hW41
            replace rs := rs.keep hW41
            replace kw := kw.trans (hW41.mono kw.size)
            have cn : ∀ j, W41.cell? ⟨W31.heap.size, j, none⟩ = (#[.int .i64 Am, .int .i64 B0, .int .i64 C, .int .i64 Ap, .int .i64 B0, .int .i64 C, .int .i64 A, .int .i64 Bm, .int .i64 C, .int .i64 A, .int .i64 Bp, .int .i64 C, .int .i64 A, .int .i64 B0, .int .i64 Cm, .int .i64 A, .int .i64 B0, .int .i64 Cp] : Array Value)[j]? := rn.cell
            have fn : ∀ j, W41.frozen? ⟨W31.heap.size, j, none⟩ = false := rn.frozen
            have zn : W31.heap.size < W41.heap.size := rn.lt
            have cs : ∀ j, W41.cell? ⟨W33.heap.size, j, none⟩ = (#[.int .i64 P, .int .i64 Q, .int .i64 (P - 1), .int .i64 Q, .int .i64 (P + 1), .int .i64 Q, .int .i64 P, .int .i64 (Q - 1), .int .i64 P, .int .i64 (Q + 1)] : Array Value)[j]? := rs.cell
            have fs : ∀ j, W41.frozen? ⟨W33.heap.size, j, none⟩ = false := rs.frozen
            have zs : W33.heap.size < W41.heap.size := rs.lt
            clear hW41
            go_wp2_with fail
            have yqn : W31.heap.size < W41.heap.size := by omega
            have yqs : W33.heap.size < W41.heap.size := by omega
            replace kw : Below w.heap.size w (W41.alloc (.cells #[.int .i64 P, .int .i64 (Q + 1)] 38)) := by (repeat (first | with_reducible assumption | with_reducible exact Below.refl _ _ | with_reducible refine Below.drew ?_ | with_reducible refine below_drewN ?_ _ | with_reducible refine al ?_ _ | (with_reducible refine sc ?_ ?_; (focus (first | omega | (simp; done) | (simp; omega)))) | (with_reducible refine chain ?_ (by assumption))))
            replace rn : RowAt (W41.alloc (.cells #[.int .i64 P, .int .i64 (Q + 1)] 38)) (W31.heap.size) #[.int .i64 Am, .int .i64 B0, .int .i64 C, .int .i64 Ap, .int .i64 B0, .int .i64 C, .int .i64 A, .int .i64 Bm, .int .i64 C, .int .i64 A, .int .i64 Bp, .int .i64 C, .int .i64 A, .int .i64 B0, .int .i64 Cm, .int .i64 A, .int .i64 B0, .int .i64 Cp] 45 := (rn.alloc _)
            replace rs : RowAt (W41.alloc (.cells #[.int .i64 P, .int .i64 (Q + 1)] 38)) (W33.heap.size) #[.int .i64 P, .int .i64 Q, .int .i64 (P - 1), .int .i64 Q, .int .i64 (P + 1), .int .i64 Q, .int .i64 P, .int .i64 (Q - 1), .int .i64 P, .int .i64 (Q + 1)] 47 := (rs.alloc _)
            have rq : RowAt (W41.alloc (.cells #[.int .i64 P, .int .i64 (Q + 1)] 38)) (W41.heap.size) #[.int .i64 P, .int .i64 (Q + 1)] 38 := (RowAt.make _ _ _ (by first | rfl | (simp [World.setCell]; done)))
            clear cn fn zn cs fs zs
            generalize (W41.alloc (.cells #[.int .i64 P, .int .i64 (Q + 1)] 38)) = W42 at *
            have cn : ∀ j, W42.cell? ⟨W31.heap.size, j, none⟩ = (#[.int .i64 Am, .int .i64 B0, .int .i64 C, .int .i64 Ap, .int .i64 B0, .int .i64 C, .int .i64 A, .int .i64 Bm, .int .i64 C, .int .i64 A, .int .i64 Bp, .int .i64 C, .int .i64 A, .int .i64 B0, .int .i64 Cm, .int .i64 A, .int .i64 B0, .int .i64 Cp] : Array Value)[j]? := rn.cell
            have fn : ∀ j, W42.frozen? ⟨W31.heap.size, j, none⟩ = false := rn.frozen
            have zn : W31.heap.size < W42.heap.size := rn.lt
            have cs : ∀ j, W42.cell? ⟨W33.heap.size, j, none⟩ = (#[.int .i64 P, .int .i64 Q, .int .i64 (P - 1), .int .i64 Q, .int .i64 (P + 1), .int .i64 Q, .int .i64 P, .int .i64 (Q - 1), .int .i64 P, .int .i64 (Q + 1)] : Array Value)[j]? := rs.cell
            have fs : ∀ j, W42.frozen? ⟨W33.heap.size, j, none⟩ = false := rs.frozen
            have zs : W33.heap.size < W42.heap.size := rs.lt
            have cq : ∀ j, W42.cell? ⟨W41.heap.size, j, none⟩ = (#[.int .i64 P, .int .i64 (Q + 1)] : Array Value)[j]? := rq.cell
            have fq : ∀ j, W42.frozen? ⟨W41.heap.size, j, none⟩ = false := rq.frozen
            have zq : W41.heap.size < W42.heap.size := rq.lt
            refine wp_loop_rounds 6 ?_
            rw [rounds_succ]
            go_wp2_with fail
            refine region_below 8 (by kernel_rfl) (by kernel_rfl) ?_
            simp only [List.take_succ_cons, List.take_zero, List.drop_succ_cons, List.drop_zero]
            repeat (first | (refine' InText.skip (by rfl) ?_; simp only [Act.put, List.setIfInBounds_toArray, List.set_cons_zero, List.set_cons_succ]) | (refine' InText.val (by rfl) (fun wr hr => ?_) ?_; rotate_left 1; (focus (obtain ⟨hrc, hrf⟩ := bcell hr; (go_simp <;> with_reducible rfl); done)); simp only [Act.put, List.setIfInBounds_toArray, List.set_cons_zero, List.set_cons_succ]))
            refine fun wrm0 hrm0 => ?_
            obtain ⟨hrcm0, hrfm0⟩ := bcell hrm0
            clear cn fn zn cs fs zs cq fq zq
            replace rn := rn.keep hrm0
            replace rs := rs.keep hrm0
            replace rq := rq.keep hrm0
            replace kw := kw.trans (hrm0.mono kw.size)
            have cn : ∀ j, wrm0.cell? ⟨W31.heap.size, j, none⟩ = (#[.int .i64 Am, .int .i64 B0, .int .i64 C, .int .i64 Ap, .int .i64 B0, .int .i64 C, .int .i64 A, .int .i64 Bm, .int .i64 C, .int .i64 A, .int .i64 Bp, .int .i64 C, .int .i64 A, .int .i64 B0, .int .i64 Cm, .int .i64 A, .int .i64 B0, .int .i64 Cp] : Array Value)[j]? := rn.cell
            have fn : ∀ j, wrm0.frozen? ⟨W31.heap.size, j, none⟩ = false := rn.frozen
            have zn : W31.heap.size < wrm0.heap.size := rn.lt
            have cs : ∀ j, wrm0.cell? ⟨W33.heap.size, j, none⟩ = (#[.int .i64 P, .int .i64 Q, .int .i64 (P - 1), .int .i64 Q, .int .i64 (P + 1), .int .i64 Q, .int .i64 P, .int .i64 (Q - 1), .int .i64 P, .int .i64 (Q + 1)] : Array Value)[j]? := rs.cell
            have fs : ∀ j, wrm0.frozen? ⟨W33.heap.size, j, none⟩ = false := rs.frozen
            have zs : W33.heap.size < wrm0.heap.size := rs.lt
            have cq : ∀ j, wrm0.cell? ⟨W41.heap.size, j, none⟩ = (#[.int .i64 P, .int .i64 (Q + 1)] : Array Value)[j]? := rq.cell
            have fq : ∀ j, wrm0.frozen? ⟨W41.heap.size, j, none⟩ = false := rq.frozen
            have zq : W41.heap.size < wrm0.heap.size := rq.lt
            clear hrm0 hrcm0 hrfm0
            go_wp2_with fail
            rw [rounds_succ]
            go_wp2_with fail
            refine region_below 8 (by kernel_rfl) (by kernel_rfl) ?_
            simp only [List.take_succ_cons, List.take_zero, List.drop_succ_cons, List.drop_zero]
            repeat (first | (refine' InText.skip (by rfl) ?_; simp only [Act.put, List.setIfInBounds_toArray, List.set_cons_zero, List.set_cons_succ]) | (refine' InText.val (by rfl) (fun wr hr => ?_) ?_; rotate_left 1; (focus (obtain ⟨hrc, hrf⟩ := bcell hr; (go_simp <;> with_reducible rfl); done)); simp only [Act.put, List.setIfInBounds_toArray, List.set_cons_zero, List.set_cons_succ]))
            refine fun wrm1 hrm1 => ?_
            obtain ⟨hrcm1, hrfm1⟩ := bcell hrm1
            clear cn fn zn cs fs zs cq fq zq
            replace rn := rn.keep hrm1
            replace rs := rs.keep hrm1
            replace rq := rq.keep hrm1
            replace kw := kw.trans (hrm1.mono kw.size)
            have cn : ∀ j, wrm1.cell? ⟨W31.heap.size, j, none⟩ = (#[.int .i64 Am, .int .i64 B0, .int .i64 C, .int .i64 Ap, .int .i64 B0, .int .i64 C, .int .i64 A, .int .i64 Bm, .int .i64 C, .int .i64 A, .int .i64 Bp, .int .i64 C, .int .i64 A, .int .i64 B0, .int .i64 Cm, .int .i64 A, .int .i64 B0, .int .i64 Cp] : Array Value)[j]? := rn.cell
            have fn : ∀ j, wrm1.frozen? ⟨W31.heap.size, j, none⟩ = false := rn.frozen
            have zn : W31.heap.size < wrm1.heap.size := rn.lt
            have cs : ∀ j, wrm1.cell? ⟨W33.heap.size, j, none⟩ = (#[.int .i64 P, .int .i64 Q, .int .i64 (P - 1), .int .i64 Q, .int .i64 (P + 1), .int .i64 Q, .int .i64 P, .int .i64 (Q - 1), .int .i64 P, .int .i64 (Q + 1)] : Array Value)[j]? := rs.cell
            have fs : ∀ j, wrm1.frozen? ⟨W33.heap.size, j, none⟩ = false := rs.frozen
            have zs : W33.heap.size < wrm1.heap.size := rs.lt
            have cq : ∀ j, wrm1.cell? ⟨W41.heap.size, j, none⟩ = (#[.int .i64 P, .int .i64 (Q + 1)] : Array Value)[j]? := rq.cell
            have fq : ∀ j, wrm1.frozen? ⟨W41.heap.size, j, none⟩ = false := rq.frozen
            have zq : W41.heap.size < wrm1.heap.size := rq.lt
            clear hrm1 hrcm1 hrfm1
            go_wp2_with fail
            rw [rounds_succ]
            go_wp2_with fail
            refine region_below 8 (by kernel_rfl) (by kernel_rfl) ?_
            simp only [List.take_succ_cons, List.take_zero, List.drop_succ_cons, List.drop_zero]
            repeat (first | (refine' InText.skip (by rfl) ?_; simp only [Act.put, List.setIfInBounds_toArray, List.set_cons_zero, List.set_cons_succ]) | (refine' InText.val (by rfl) (fun wr hr => ?_) ?_; rotate_left 1; (focus (obtain ⟨hrc, hrf⟩ := bcell hr; (go_simp <;> with_reducible rfl); done)); simp only [Act.put, List.setIfInBounds_toArray, List.set_cons_zero, List.set_cons_succ]))
            refine fun wrm2 hrm2 => ?_
            obtain ⟨hrcm2, hrfm2⟩ := bcell hrm2
            clear cn fn zn cs fs zs cq fq zq
            replace rn := rn.keep hrm2
            replace rs := rs.keep hrm2
            replace rq := rq.keep hrm2
            replace kw := kw.trans (hrm2.mono kw.size)
            have cn : ∀ j, wrm2.cell? ⟨W31.heap.size, j, none⟩ = (#[.int .i64 Am, .int .i64 B0, .int .i64 C, .int .i64 Ap, .int .i64 B0, .int .i64 C, .int .i64 A, .int .i64 Bm, .int .i64 C, .int .i64 A, .int .i64 Bp, .int .i64 C, .int .i64 A, .int .i64 B0, .int .i64 Cm, .int .i64 A, .int .i64 B0, .int .i64 Cp] : Array Value)[j]? := rn.cell
            have fn : ∀ j, wrm2.frozen? ⟨W31.heap.size, j, none⟩ = false := rn.frozen
            have zn : W31.heap.size < wrm2.heap.size := rn.lt
            have cs : ∀ j, wrm2.cell? ⟨W33.heap.size, j, none⟩ = (#[.int .i64 P, .int .i64 Q, .int .i64 (P - 1), .int .i64 Q, .int .i64 (P + 1), .int .i64 Q, .int .i64 P, .int .i64 (Q - 1), .int .i64 P, .int .i64 (Q + 1)] : Array Value)[j]? := rs.cell
            have fs : ∀ j, wrm2.frozen? ⟨W33.heap.size, j, none⟩ = false := rs.frozen
            have zs : W33.heap.size < wrm2.heap.size := rs.lt
            have cq : ∀ j, wrm2.cell? ⟨W41.heap.size, j, none⟩ = (#[.int .i64 P, .int .i64 (Q + 1)] : Array Value)[j]? := rq.cell
            have fq : ∀ j, wrm2.frozen? ⟨W41.heap.size, j, none⟩ = false := rq.frozen
            have zq : W41.heap.size < wrm2.heap.size := rq.lt
            clear hrm2 hrcm2 hrfm2
            go_wp2_with fail
            rw [rounds_succ]
            go_wp2_with fail
            refine region_below 8 (by kernel_rfl) (by kernel_rfl) ?_
            simp only [List.take_succ_cons, List.take_zero, List.drop_succ_cons, List.drop_zero]
            repeat (first | (refine' InText.skip (by rfl) ?_; simp only [Act.put, List.setIfInBounds_toArray, List.set_cons_zero, List.set_cons_succ]) | (refine' InText.val (by rfl) (fun wr hr => ?_) ?_; rotate_left 1; (focus (obtain ⟨hrc, hrf⟩ := bcell hr; (go_simp <;> with_reducible rfl); done)); simp only [Act.put, List.setIfInBounds_toArray, List.set_cons_zero, List.set_cons_succ]))
            refine fun wrm3 hrm3 => ?_
            obtain ⟨hrcm3, hrfm3⟩ := bcell hrm3
            clear cn fn zn cs fs zs cq fq zq
            replace rn := rn.keep hrm3
            replace rs := rs.keep hrm3
            replace rq := rq.keep hrm3
            replace kw := kw.trans (hrm3.mono kw.size)
            have cn : ∀ j, wrm3.cell? ⟨W31.heap.size, j, none⟩ = (#[.int .i64 Am, .int .i64 B0, .int .i64 C, .int .i64 Ap, .int .i64 B0, .int .i64 C, .int .i64 A, .int .i64 Bm, .int .i64 C, .int .i64 A, .int .i64 Bp, .int .i64 C, .int .i64 A, .int .i64 B0, .int .i64 Cm, .int .i64 A, .int .i64 B0, .int .i64 Cp] : Array Value)[j]? := rn.cell
            have fn : ∀ j, wrm3.frozen? ⟨W31.heap.size, j, none⟩ = false := rn.frozen
            have zn : W31.heap.size < wrm3.heap.size := rn.lt
            have cs : ∀ j, wrm3.cell? ⟨W33.heap.size, j, none⟩ = (#[.int .i64 P, .int .i64 Q, .int .i64 (P - 1), .int .i64 Q, .int .i64 (P + 1), .int .i64 Q, .int .i64 P, .int .i64 (Q - 1), .int .i64 P, .int .i64 (Q + 1)] : Array Value)[j]? := rs.cell
            have fs : ∀ j, wrm3.frozen? ⟨W33.heap.size, j, none⟩ = false := rs.frozen
            have zs : W33.heap.size < wrm3.heap.size := rs.lt
            have cq : ∀ j, wrm3.cell? ⟨W41.heap.size, j, none⟩ = (#[.int .i64 P, .int .i64 (Q + 1)] : Array Value)[j]? := rq.cell
            have fq : ∀ j, wrm3.frozen? ⟨W41.heap.size, j, none⟩ = false := rq.frozen
            have zq : W41.heap.size < wrm3.heap.size := rq.lt
            clear hrm3 hrcm3 hrfm3
            go_wp2_with fail
            rw [rounds_succ]
            go_wp2_with fail
            refine region_below 8 (by kernel_rfl) (by kernel_rfl) ?_
            simp only [List.take_succ_cons, List.take_zero, List.drop_succ_cons, List.drop_zero]
            repeat (first | (refine' InText.skip (by rfl) ?_; simp only [Act.put, List.setIfInBounds_toArray, List.set_cons_zero, List.set_cons_succ]) | (refine' InText.val (by rfl) (fun wr hr => ?_) ?_; rotate_left 1; (focus (obtain ⟨hrc, hrf⟩ := bcell hr; (go_simp <;> with_reducible rfl); done)); simp only [Act.put, List.setIfInBounds_toArray, List.set_cons_zero, List.set_cons_succ]))
            refine fun wrm4 hrm4 => ?_
            obtain ⟨hrcm4, hrfm4⟩ := bcell hrm4
            clear cn fn zn cs fs zs cq fq zq
            replace rn := rn.keep hrm4
            replace rs := rs.keep hrm4
            replace rq := rq.keep hrm4
            replace kw := kw.trans (hrm4.mono kw.size)
            have cn : ∀ j, wrm4.cell? ⟨W31.heap.size, j, none⟩ = (#[.int .i64 Am, .int .i64 B0, .int .i64 C, .int .i64 Ap, .int .i64 B0, .int .i64 C, .int .i64 A, .int .i64 Bm, .int .i64 C, .int .i64 A, .int .i64 Bp, .int .i64 C, .int .i64 A, .int .i64 B0, .int .i64 Cm, .int .i64 A, .int .i64 B0, .int .i64 Cp] : Array Value)[j]? := rn.cell
            have fn : ∀ j, wrm4.frozen? ⟨W31.heap.size, j, none⟩ = false := rn.frozen
            have zn : W31.heap.size < wrm4.heap.size := rn.lt
            have cs : ∀ j, wrm4.cell? ⟨W33.heap.size, j, none⟩ = (#[.int .i64 P, .int .i64 Q, .int .i64 (P - 1), .int .i64 Q, .int .i64 (P + 1), .int .i64 Q, .int .i64 P, .int .i64 (Q - 1), .int .i64 P, .int .i64 (Q + 1)] : Array Value)[j]? := rs.cell
            have fs : ∀ j, wrm4.frozen? ⟨W33.heap.size, j, none⟩ = false := rs.frozen
            have zs : W33.heap.size < wrm4.heap.size := rs.lt
            have cq : ∀ j, wrm4.cell? ⟨W41.heap.size, j, none⟩ = (#[.int .i64 P, .int .i64 (Q + 1)] : Array Value)[j]? := rq.cell
            have fq : ∀ j, wrm4.frozen? ⟨W41.heap.size, j, none⟩ = false := rq.frozen
            have zq : W41.heap.size < wrm4.heap.size := rq.lt
            clear hrm4 hrcm4 hrfm4
            go_wp2_with fail
            rw [rounds_succ]
            go_wp2_with fail
            go_roundw
            case rel =>
              exact ⟨6, by omega, by go_num, by (repeat (first | with_reducible assumption | with_reducible exact Below.refl _ _ | with_reducible refine Below.drew ?_ | with_reducible refine below_drewN ?_ _ | with_reducible refine al ?_ _ | (with_reducible refine sc ?_ ?_; (focus (first | omega | (simp; done) | (simp; omega)))) | (with_reducible refine chain ?_ (by assumption)))), rn, rs⟩
            case measure => simp [intOf]
      · obtain rfl : k = 6 := by omega
        have cn : ∀ j, wr.cell? ⟨W31.heap.size, j, none⟩ = (#[.int .i64 Am, .int .i64 B0, .int .i64 C, .int .i64 Ap, .int .i64 B0, .int .i64 C, .int .i64 A, .int .i64 Bm, .int .i64 C, .int .i64 A, .int .i64 Bp, .int .i64 C, .int .i64 A, .int .i64 B0, .int .i64 Cm, .int .i64 A, .int .i64 B0, .int .i64 Cp] : Array Value)[j]? := rn.cell
        have fn : ∀ j, wr.frozen? ⟨W31.heap.size, j, none⟩ = false := rn.frozen
        have zn : W31.heap.size < wr.heap.size := rn.lt
        have cs : ∀ j, wr.cell? ⟨W33.heap.size, j, none⟩ = (#[.int .i64 P, .int .i64 Q, .int .i64 (P - 1), .int .i64 Q, .int .i64 (P + 1), .int .i64 Q, .int .i64 P, .int .i64 (Q - 1), .int .i64 P, .int .i64 (Q + 1)] : Array Value)[j]? := rs.cell
        have fs : ∀ j, wr.frozen? ⟨W33.heap.size, j, none⟩ = false := rs.frozen
        have zs : W33.heap.size < wr.heap.size := rs.lt
        go_wp2_with fail
        (refine (l3_lives _).mono ?_; rintro e u1 ⟨rfl, hu1⟩)
        go_wp2
        go_ret
        exact ⟨rfl, by (repeat (first | with_reducible assumption | with_reducible exact Below.refl _ _ | with_reducible refine Below.drew ?_ | with_reducible refine below_drewN ?_ _ | with_reducible refine al ?_ _ | (with_reducible refine sc ?_ ?_; (focus (first | omega | (simp; done) | (simp; omega)))) | (with_reducible refine chain ?_ (by assumption))))⟩
theorem own : ownKnob Try.prog.godebug = none := by kernel_rfl
set_option maxRecDepth 100000 in
theorem lifted (os : Os) (started : os.Started) (H : Type) (enc : TypeId × Value → H) :
    ReturnsInHanded {} Try.checked os 10 .any (Rows.cellChunksSpec.pre6 enc Try.prog Try.f10 Rows.cellChunksRow.domain false) (Rows.cellChunksSpec.post enc Try.prog Try.f10 false true false false) := by
  refine returnsInHanded_of_change (C := Try.checked) own started (by kernel_rfl) Try.func10
    (ChangeSpec.witness6 (enc := enc) (C := Try.checked) false ⟨#[], #[.agg #[.int .i64 0, .int .i64 0, .int .i64 0], .agg #[.int .i64 0, .int .i64 0, .int .i64 0]], []⟩ 8 (by kernel_rfl) (by kernel_rfl) (by kernel_rfl) (by kernel_rfl)) ?_
  intro W base args ds gs before hval0 hW hcnd _
  have hval : ∀ (j : Nat) t v, Try.f10.params[j]? = some t → args[j]? = some v → Value.okWide Try.prog W .any base t v := hval0
  have hW' := hW
  obtain ⟨p, q, hA0, hV, rfl, hfz, hnd⟩ := hW
  have hA : DataW.TrodAll enc Try.prog W 0 (fun _ => true) true Try.f10.params.toList args.toList ds p := hA0
  rw [Try.params10] at hA hval
  obtain ⟨v0, vs0, d0, ds0, p0, q0, hargs, rfl, rfl, h0, r0⟩ := trodAll_cons hA
  obtain ⟨v1, vs1, d1, ds1, p1, q1, rfl, rfl, rfl, h1, r1⟩ := trodAll_cons r0
  obtain ⟨rfl, rfl, rfl⟩ := trodAll_nil r1
  obtain rfl : args = #[v0, v1] := by cases args; simp_all
  obtain ⟨rfl, rfl⟩ := trodVars_none hV
  simp only [List.append_nil] at hW'
  have hlt : ∀ x ∈ p0 ++ (p1 ++ ([])), x.block < W.heap.size := fun x hx => hW'.lt x (by simpa using hx)
  have hlt0 : ∀ x ∈ p0, x.block < W.heap.size := fun x hx => hlt x (List.mem_append.2 (.inl hx))
  have hlt1 : ∀ x ∈ p1, x.block < W.heap.size := fun x hx => hlt x (List.mem_append.2 (.inr (List.mem_append.2 (.inl hx))))
  have k0 := h0
  have k1 := h1
  obtain ⟨a0, rfl, w0⟩ := open_cell (hval 0 28 v0 rfl rfl) h0
  obtain ⟨a1, rfl, w1⟩ := open_cell (hval 1 28 v1 rfl rfl) h1
  clear hA0 hval0
  refine (walk a0 w0 a1 w1 W).mono fun e W' ⟨he, hg⟩ => ?_
  subst he
  exact ⟨_, rfl, _, _, _, [], _, [], hW', (trodAll_cons_mk (shut_bool Try.underlying4 _) trodAll_mk0), (trodAll_cons_mk (Below.trod laidOut (by kernel_rfl) (of_decide_eq_true (by kernel_rfl)) k0 hg hlt0) (trodAll_cons_mk (Below.trod laidOut (by kernel_rfl) (of_decide_eq_true (by kernel_rfl)) k1 hg hlt1) trodAll_mk0)), rfl, hg.frame _, fun h => by cases h⟩
theorem over : Rows.cellChunksRow.holds Try.pinned (OpenSpec.ofChange Rows.cellChunksSpec) :=
  OpenClaim.holds_of_wide 10 Try.f10 rfl rfl rfl rfl rfl rfl rfl ⟨rfl, rfl, rfl, rfl, rfl⟩ rfl rfl rfl rfl rfl (by kernel_rfl) Try.func10 (by kernel_rfl)
    (of_decide_eq_true (by kernel_rfl)) (by unfold Func.isWrapper; first | (rw [if_pos (by decide +kernel)]; kernel_rfl) | (rw [if_neg (by decide +kernel)]; exact ⟨rfl, rfl⟩))
    (fun os started H enc _ => lifted os started H enc)
theorem proved : Rows.CellChunksSaid := over
#print axioms proved
end Go.Proofs.Ytenpcmhfbbfpeaa.cellChunks
