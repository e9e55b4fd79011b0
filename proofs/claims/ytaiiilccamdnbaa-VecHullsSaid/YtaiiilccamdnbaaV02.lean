/- Contracts of layer 2 (vec), over each and every. -/
import Derived.Test.YtaiiilccamdnbaaC02
set_option linter.unusedVariables false
namespace Go.Proofs.Ytaiiilccamdnbaa
open Go.ChangeShapes Go.WideShapes Go.ChangeAt Go.RowKit
attribute [local go_sem ↓] Go.wp_at_zero Go.wp_at_succ
abbrev vecV (x y z : Int) : Value := .agg #[.int .i64 x, .int .i64 y, .int .i64 z]
/-- Three whole numbers lie side by side, in every later world. -/
structure At3 (w : World) (b o : Nat) (x y z : Int) : Prop where
  lt : b < w.heap.size
  c0 : w.cell? ⟨b, o, none⟩ = some (.int .i64 x)
  c1 : w.cell? ⟨b, o + 1, none⟩ = some (.int .i64 y)
  c2 : w.cell? ⟨b, o + 2, none⟩ = some (.int .i64 z)
theorem At3.keep {w W : World} {b o : Nat} {x y z : Int} (h : At3 w b o x y z) (hb : Below w.heap.size w W) : At3 W b o x y z :=
  ⟨Nat.lt_of_lt_of_le h.1 hb.size, keepc hb h.1 h.2, keepc hb h.1 h.3, keepc hb h.1 h.4⟩
theorem At3.all {w : World} {b o : Nat} {x y z : Int} (h : At3 w b o x y z) :
    (∀ W, Below w.heap.size w W → W.cell? ⟨b, o, none⟩ = some (.int .i64 x)) ∧ (∀ W, Below w.heap.size w W → W.cell? ⟨b, o + 1, none⟩ = some (.int .i64 y)) ∧ (∀ W, Below w.heap.size w W → W.cell? ⟨b, o + 2, none⟩ = some (.int .i64 z)) :=
  ⟨fun _ hb => keepc hb h.1 h.2, fun _ hb => keepc hb h.1 h.3, fun _ hb => keepc hb h.1 h.4⟩
theorem set3 {w W : World} (k : Below w.heap.size w W) {b : Nat} (h : w.heap.size ≤ b) (x y z : Value) : Below w.heap.size w (((W.setCell ⟨b, 0, none⟩ x).setCell ⟨b, 1, none⟩ y).setCell ⟨b, 2, none⟩ z) :=
  ((k.setCell h x).setCell h y).setCell h z
theorem ax0 (x y z : Int) : axisF x y z 0 = x := rfl
theorem ax1 (x y z : Int) : axisF x y z 1 = y := rfl
theorem ax2 (x y z : Int) : axisF x y z 2 = z := rfl
theorem cut_clo (b : Nat) (x y z : Int) (w : World) (h : At3 w b 0 x y z) : EachOk 41 #[.pointer (some ⟨b, 0, none⟩)] (fun i => cut (axisF x y z i)) w := by
  intro i W _ _ hB
  obtain ⟨_, v0, v1, v2⟩ := h.keep hB
  go_enter Try.func41, Try.ntmps41
  go_wp2_with (first | (go_at_call 21; refine (c_axis _ _ _ _ _).mono ?_; rintro e w' ⟨rfl, hb1⟩) | (go_at_call 42; refine (c_cut _ _).mono ?_; rintro e w' ⟨rfl, rfl⟩))
  go_ret
  exact ⟨rfl, hb1⟩
theorem v_cut (x y z : Int) (w : World) : Calls Try.prog 11 #[vecV x y z] w fun e w' => e = .returned (vecV (cut x) (cut y) (cut z)) ∧ Below w.heap.size w w' := by
  go_enter Try.func11, Try.ntmps11
  go_wp2_with fail
  (refine (c_each 41 _ (fun i => cut (axisF x y z i)) _ (enters_of Try.func41 (by kernel_rfl) rfl) (cut_clo _ x y z _ ⟨(by first | (simp; done) | (simp; omega) | omega), by simp [go_sem], by simp [go_sem], by simp [go_sem]⟩)).mono ?_; rintro e w1 ⟨rfl, hb1⟩)
  have _cw10 : w1.cell? ⟨w.heap.size + 1, 0, none⟩ = some (.int .i64 0) := keepc hb1 (by first | (simp; done) | (simp; omega)) (by simp [go_sem])
  have _cw11 : w1.cell? ⟨w.heap.size + 1, 1, none⟩ = some (.int .i64 0) := keepc hb1 (by first | (simp; done) | (simp; omega)) (by simp [go_sem])
  have _cw12 : w1.cell? ⟨w.heap.size + 1, 2, none⟩ = some (.int .i64 0) := keepc hb1 (by first | (simp; done) | (simp; omega)) (by simp [go_sem])
  have _fw1 : ∀ o, w1.frozen? ⟨w.heap.size + 1, o, none⟩ = false := fun o => keepf hb1 (by first | (simp; done) | (simp; omega)) (by simp [go_sem])
  go_wp2
  refine bodyPost_ret (v := vecV (cut x) (cut y) (cut z)) (by simp [results, Try.results11, go_sem, *, ax0, ax1, ax2]) rfl ⟨rfl, ?_⟩
  (repeat (first | with_reducible assumption | with_reducible exact Below.refl _ _ | with_reducible refine Below.drew ?_ | with_reducible refine below_drewN ?_ _ | with_reducible refine al ?_ _ | (with_reducible refine sc ?_ ?_; (focus (first | omega | (simp; done) | (simp; omega)))) | (with_reducible refine chain ?_ (by assumption))))
theorem add_clo (b c : Nat) (x y z x' y' z' : Int) (w : World) (h : At3 w b 0 x y z) (h' : At3 w c 0 x' y' z') :
    EachOk 43 #[.pointer (some ⟨b, 0, none⟩), .pointer (some ⟨c, 0, none⟩)] (fun i => cut (cut (axisF x y z i) + cut (axisF x' y' z' i))) w := by
  intro i W _ _ hB
  obtain ⟨v0, v1, v2⟩ := (h.keep hB).all
  obtain ⟨v0', v1', v2'⟩ := (h'.keep hB).all
  go_enter Try.func43, Try.ntmps43
  go_wp2_with fail
  go_region_held3 (fun w' => Below W.heap.size W w') (first | exact (Below.refl _ _).drew | exact chain (by assumption) hb1 | assumption) (first | (go_at_call 21; refine (c_axis _ _ _ _ _).mono ?_; rintro e w' ⟨rfl, hb1⟩) | (go_at_call 44; refine (c_add _ _ _).mono ?_; rintro e w' ⟨rfl, rfl⟩))
  go_wp2
  go_ret
  exact ⟨rfl, by assumption⟩
theorem v_add (x y z x' y' z' : Int) (w : World) : Calls Try.prog 13 #[vecV x y z, vecV x' y' z'] w fun e w' => e = .returned (vecV (cut (cut (x) + cut (x'))) (cut (cut (y) + cut (y'))) (cut (cut (z) + cut (z')))) ∧ Below w.heap.size w w' := by
  go_enter Try.func13, Try.ntmps13
  go_wp2_with fail
  (refine (c_each 43 _ (fun i => cut (cut (axisF x y z i) + cut (axisF x' y' z' i))) _ (enters_of Try.func43 (by kernel_rfl) rfl) (add_clo _ _ x y z x' y' z' _ ⟨(by first | (simp; done) | (simp; omega) | omega), by simp [go_sem], by simp [go_sem], by simp [go_sem]⟩ ⟨(by first | (simp; done) | (simp; omega) | omega), by simp [go_sem], by simp [go_sem], by simp [go_sem]⟩)).mono ?_; rintro e w1 ⟨rfl, hb1⟩)
  have _cw10 : w1.cell? ⟨w.heap.size + 1 + 1, 0, none⟩ = some (.int .i64 0) := keepc hb1 (by first | (simp; done) | (simp; omega)) (by simp [go_sem])
  have _cw11 : w1.cell? ⟨w.heap.size + 1 + 1, 1, none⟩ = some (.int .i64 0) := keepc hb1 (by first | (simp; done) | (simp; omega)) (by simp [go_sem])
  have _cw12 : w1.cell? ⟨w.heap.size + 1 + 1, 2, none⟩ = some (.int .i64 0) := keepc hb1 (by first | (simp; done) | (simp; omega)) (by simp [go_sem])
  have _fw1 : ∀ o, w1.frozen? ⟨w.heap.size + 1 + 1, o, none⟩ = false := fun o => keepf hb1 (by first | (simp; done) | (simp; omega)) (by simp [go_sem])
  go_wp2
  refine bodyPost_ret (v := vecV (cut (cut (x) + cut (x'))) (cut (cut (y) + cut (y'))) (cut (cut (z) + cut (z')))) (by simp [results, Try.results13, go_sem, *, ax0, ax1, ax2]) rfl ⟨rfl, ?_⟩
  (repeat (first | with_reducible assumption | with_reducible exact Below.refl _ _ | with_reducible refine Below.drew ?_ | with_reducible refine below_drewN ?_ _ | with_reducible refine al ?_ _ | (with_reducible refine sc ?_ ?_; (focus (first | omega | (simp; done) | (simp; omega)))) | (with_reducible refine chain ?_ (by assumption))))
theorem sub_clo (b c : Nat) (x y z x' y' z' : Int) (w : World) (h : At3 w b 0 x y z) (h' : At3 w c 0 x' y' z') :
    EachOk 46 #[.pointer (some ⟨b, 0, none⟩), .pointer (some ⟨c, 0, none⟩)] (fun i => cut (cut (axisF x y z i) - cut (axisF x' y' z' i))) w := by
  intro i W _ _ hB
  obtain ⟨v0, v1, v2⟩ := (h.keep hB).all
  obtain ⟨v0', v1', v2'⟩ := (h'.keep hB).all
  go_enter Try.func46, Try.ntmps46
  go_wp2_with fail
  go_region_held3 (fun w' => Below W.heap.size W w') (first | exact (Below.refl _ _).drew | exact chain (by assumption) hb1 | assumption) (first | (go_at_call 21; refine (c_axis _ _ _ _ _).mono ?_; rintro e w' ⟨rfl, hb1⟩) | (go_at_call 47; refine (c_sub _ _ _).mono ?_; rintro e w' ⟨rfl, rfl⟩))
  go_wp2
  go_ret
  exact ⟨rfl, by assumption⟩
theorem v_sub (x y z x' y' z' : Int) (w : World) : Calls Try.prog 15 #[vecV x y z, vecV x' y' z'] w fun e w' => e = .returned (vecV (cut (cut (x) - cut (x'))) (cut (cut (y) - cut (y'))) (cut (cut (z) - cut (z')))) ∧ Below w.heap.size w w' := by
  go_enter Try.func15, Try.ntmps15
  go_wp2_with fail
  (refine (c_each 46 _ (fun i => cut (cut (axisF x y z i) - cut (axisF x' y' z' i))) _ (enters_of Try.func46 (by kernel_rfl) rfl) (sub_clo _ _ x y z x' y' z' _ ⟨(by first | (simp; done) | (simp; omega) | omega), by simp [go_sem], by simp [go_sem], by simp [go_sem]⟩ ⟨(by first | (simp; done) | (simp; omega) | omega), by simp [go_sem], by simp [go_sem], by simp [go_sem]⟩)).mono ?_; rintro e w1 ⟨rfl, hb1⟩)
  have _cw10 : w1.cell? ⟨w.heap.size + 1 + 1, 0, none⟩ = some (.int .i64 0) := keepc hb1 (by first | (simp; done) | (simp; omega)) (by simp [go_sem])
  have _cw11 : w1.cell? ⟨w.heap.size + 1 + 1, 1, none⟩ = some (.int .i64 0) := keepc hb1 (by first | (simp; done) | (simp; omega)) (by simp [go_sem])
  have _cw12 : w1.cell? ⟨w.heap.size + 1 + 1, 2, none⟩ = some (.int .i64 0) := keepc hb1 (by first | (simp; done) | (simp; omega)) (by simp [go_sem])
  have _fw1 : ∀ o, w1.frozen? ⟨w.heap.size + 1 + 1, o, none⟩ = false := fun o => keepf hb1 (by first | (simp; done) | (simp; omega)) (by simp [go_sem])
  go_wp2
  refine bodyPost_ret (v := vecV (cut (cut (x) - cut (x'))) (cut (cut (y) - cut (y'))) (cut (cut (z) - cut (z')))) (by simp [results, Try.results15, go_sem, *, ax0, ax1, ax2]) rfl ⟨rfl, ?_⟩
  (repeat (first | with_reducible assumption | with_reducible exact Below.refl _ _ | with_reducible refine Below.drew ?_ | with_reducible refine below_drewN ?_ _ | with_reducible refine al ?_ _ | (with_reducible refine sc ?_ ?_; (focus (first | omega | (simp; done) | (simp; omega)))) | (with_reducible refine chain ?_ (by assumption))))
theorem scale_clo (b c : Nat) (x y z n : Int) (w : World) (h : At3 w b 0 x y z) (hl : c < w.heap.size) (hn : w.cell? ⟨c, 0, none⟩ = some (.int .i64 n)) :
    EachOk 49 #[.pointer (some ⟨b, 0, none⟩), .pointer (some ⟨c, 0, none⟩)] (fun i => mulF (axisF x y z i) n) w := by
  intro i W _ _ hB
  obtain ⟨v0, v1, v2⟩ := (h.keep hB).all
  have vn : ∀ W' : World, Below W.heap.size W W' → W'.cell? ⟨c, 0, none⟩ = some (.int .i64 n) := fun _ hb => keepc hb (Nat.lt_of_lt_of_le hl hB.size) (keepc hB hl hn)
  go_enter Try.func49, Try.ntmps49
  go_wp2_with fail
  go_region_held3 (fun w' => Below W.heap.size W w') (first | exact (Below.refl _ _).drew | exact chain (by assumption) hb1 | assumption) (first | (go_at_call 21; refine (c_axis _ _ _ _ _).mono ?_; rintro e w' ⟨rfl, hb1⟩) | (go_at_call 50; refine (c_mul _ _ _).mono ?_; rintro e w' ⟨rfl, hb1⟩))
  go_wp2
  go_ret
  exact ⟨rfl, by assumption⟩
theorem v_scale (x y z n : Int) (w : World) : Calls Try.prog 17 #[vecV x y z, .int .i64 n] w fun e w' => e = .returned (vecV (mulF x n) (mulF y n) (mulF z n)) ∧ Below w.heap.size w w' := by
  go_enter Try.func17, Try.ntmps17
  go_wp2_with fail
  (refine (c_each 49 _ (fun i => mulF (axisF x y z i) n) _ (enters_of Try.func49 (by kernel_rfl) rfl) (scale_clo _ _ x y z n _ ⟨(by first | (simp; done) | (simp; omega) | omega), by simp [go_sem], by simp [go_sem], by simp [go_sem]⟩ (by first | (simp; done) | (simp; omega) | omega) (by simp [go_sem]))).mono ?_; rintro e w1 ⟨rfl, hb1⟩)
  have _cw10 : w1.cell? ⟨w.heap.size + 1 + 1, 0, none⟩ = some (.int .i64 0) := keepc hb1 (by first | (simp; done) | (simp; omega)) (by simp [go_sem])
  have _cw11 : w1.cell? ⟨w.heap.size + 1 + 1, 1, none⟩ = some (.int .i64 0) := keepc hb1 (by first | (simp; done) | (simp; omega)) (by simp [go_sem])
  have _cw12 : w1.cell? ⟨w.heap.size + 1 + 1, 2, none⟩ = some (.int .i64 0) := keepc hb1 (by first | (simp; done) | (simp; omega)) (by simp [go_sem])
  have _fw1 : ∀ o, w1.frozen? ⟨w.heap.size + 1 + 1, o, none⟩ = false := fun o => keepf hb1 (by first | (simp; done) | (simp; omega)) (by simp [go_sem])
  go_wp2
  refine bodyPost_ret (v := vecV (mulF x n) (mulF y n) (mulF z n)) (by simp [results, Try.results17, go_sem, *, ax0, ax1, ax2]) rfl ⟨rfl, ?_⟩
  (repeat (first | with_reducible assumption | with_reducible exact Below.refl _ _ | with_reducible refine Below.drew ?_ | with_reducible refine below_drewN ?_ _ | with_reducible refine al ?_ _ | (with_reducible refine sc ?_ ?_; (focus (first | omega | (simp; done) | (simp; omega)))) | (with_reducible refine chain ?_ (by assumption))))
def withF (x y z i n : Int) : Int × Int × Int := (if i = 0 then cut n else x, if i = 1 then cut n else y, if i = 2 then cut n else z)
set_option maxHeartbeats 2000000 in
theorem v_with (x y z i n : Int) (w : World) : Calls Try.prog 20 #[vecV x y z, .int .i64 i, .int .i64 n] w fun e w' =>
    e = .returned (vecV (if i = 0 then cut n else x) (if i = 1 then cut n else y) (if i = 2 then cut n else z)) ∧ Below w.heap.size w w' := by
  by_cases h : i < 0 ∨ 3 ≤ i
  · rw [if_neg (by omega), if_neg (by omega), if_neg (by omega)]
    rcases h with h | h
    all_goals
      go_enter Try.func20, Try.ntmps20
      go_wp2_with fail
      (refine (c_axes _ _).mono ?_; rintro e w1 ⟨rfl, hb1⟩)
      have _cw10 : w1.cell? ⟨w.heap.size + 1, 0, none⟩ = some (.int .i64 0) := keepc hb1 (by first | (simp; done) | (simp; omega)) (by simp [go_sem])
      have _cw11 : w1.cell? ⟨w.heap.size + 1, 1, none⟩ = some (.int .i64 0) := keepc hb1 (by first | (simp; done) | (simp; omega)) (by simp [go_sem])
      have _cw12 : w1.cell? ⟨w.heap.size + 1, 2, none⟩ = some (.int .i64 0) := keepc hb1 (by first | (simp; done) | (simp; omega)) (by simp [go_sem])
      have _fw1 : ∀ o, w1.frozen? ⟨w.heap.size + 1, o, none⟩ = false := fun o => keepf hb1 (by first | (simp; done) | (simp; omega)) (by simp [go_sem])
      have v0 : w1.cell? ⟨w.heap.size, 0, none⟩ = some (.int .i64 x) := keepc hb1 (by first | (simp; done) | (simp; omega) | omega) (by simp [go_sem])
      have v1 : w1.cell? ⟨w.heap.size, 1, none⟩ = some (.int .i64 y) := keepc hb1 (by first | (simp; done) | (simp; omega) | omega) (by simp [go_sem])
      have v2 : w1.cell? ⟨w.heap.size, 2, none⟩ = some (.int .i64 z) := keepc hb1 (by first | (simp; done) | (simp; omega) | omega) (by simp [go_sem])
      have z1 : w.heap.size + 1 < w1.heap.size := size_lt (by simp) hb1
      have z0 : w.heap.size < w1.heap.size := by omega
      go_wp2_with fail
      refine bodyPost_ret (v := vecV x y z) (by simp [results, Try.results20, go_sem, *]) rfl ⟨rfl, ?_⟩
      (repeat (first | with_reducible assumption | with_reducible exact Below.refl _ _ | with_reducible refine Below.drew ?_ | with_reducible refine below_drewN ?_ _ | with_reducible refine al ?_ _ | (with_reducible refine sc ?_ ?_; (focus (first | omega | (simp; done) | (simp; omega)))) | (with_reducible refine chain ?_ (by assumption))))
  · have i0 := ix0; have i1 := ix1; have i2 := ix2
    rcases (show i = 0 ∨ i = 1 ∨ i = 2 by omega) with rfl | rfl | rfl
    all_goals
      simp only [if_true, show ¬ (0 : Int) = 1 by omega, show ¬ (0 : Int) = 2 by omega, show ¬ (1 : Int) = 0 by omega, show ¬ (1 : Int) = 2 by omega, show ¬ (2 : Int) = 0 by omega, show ¬ (2 : Int) = 1 by omega, if_false]
      clear h
      go_enter Try.func20, Try.ntmps20
      go_wp2_with fail
      (refine (c_axes _ _).mono ?_; rintro e w1 ⟨rfl, hb1⟩)
      have _cw10 : w1.cell? ⟨w.heap.size + 1, 0, none⟩ = some (.int .i64 0) := keepc hb1 (by first | (simp; done) | (simp; omega)) (by simp [go_sem])
      have _cw11 : w1.cell? ⟨w.heap.size + 1, 1, none⟩ = some (.int .i64 0) := keepc hb1 (by first | (simp; done) | (simp; omega)) (by simp [go_sem])
      have _cw12 : w1.cell? ⟨w.heap.size + 1, 2, none⟩ = some (.int .i64 0) := keepc hb1 (by first | (simp; done) | (simp; omega)) (by simp [go_sem])
      have _fw1 : ∀ o, w1.frozen? ⟨w.heap.size + 1, o, none⟩ = false := fun o => keepf hb1 (by first | (simp; done) | (simp; omega)) (by simp [go_sem])
      have v0 : w1.cell? ⟨w.heap.size, 0, none⟩ = some (.int .i64 x) := keepc hb1 (by first | (simp; done) | (simp; omega) | omega) (by simp [go_sem])
      have v1 : w1.cell? ⟨w.heap.size, 1, none⟩ = some (.int .i64 y) := keepc hb1 (by first | (simp; done) | (simp; omega) | omega) (by simp [go_sem])
      have v2 : w1.cell? ⟨w.heap.size, 2, none⟩ = some (.int .i64 z) := keepc hb1 (by first | (simp; done) | (simp; omega) | omega) (by simp [go_sem])
      have vf : ∀ o, w1.frozen? ⟨w.heap.size, o, none⟩ = false := fun o => keepf hb1 (by first | (simp; done) | (simp; omega) | omega) (by simp [go_sem])
      have z1 : w.heap.size + 1 < w1.heap.size := size_lt (by simp) hb1
      have z0 : w.heap.size < w1.heap.size := by omega
      have k1 := chain (al (al (Below.refl w.heap.size w) _) _) hb1
      go_wp2_with fail
      go_region_with (first | (go_at_call 42; refine (c_cut _ _).mono ?_; rintro e w' ⟨rfl, rfl⟩))
      all_goals
        go_wp2_with fail
        refine bodyPost_ret (v := vecV _ _ _) (by simp [results, Try.results20, go_sem, *]; done) rfl ⟨rfl, ?_⟩
        (repeat (first | with_reducible assumption | with_reducible exact Below.refl _ _ | with_reducible refine Below.drew ?_ | with_reducible refine below_drewN ?_ _ | with_reducible refine al ?_ _ | (with_reducible refine sc ?_ ?_; (focus (first | omega | (simp; done) | (simp; omega)))) | (with_reducible refine chain ?_ (by assumption))))
end Go.Proofs.Ytaiiilccamdnbaa
