/- For every number the law FixedMeans of layer 1 answers true: what a number means is a float just so, and is read as it was; halves of it are rounded down. Conditions: none: every input. -/
import Derived.Test.YtdlgcgghbkjkfaaRows
import Derived.WalkKit
import Derived.ProofKit
import Derived.OpenShut
import Derived.Test.YtdlgcgghbkjkfaaE01
import Derived.Below
import Derived.ShutString
namespace Go.Proofs.Ytdlgcgghbkjkfaa.fixedMeans
open Go.ChangeShapes Go.WideShapes Go.ChangeAt Go.RowKit
open Go.ChangeMaps (open_string shut_string)
set_option linter.unusedVariables false      -- a walk need not use every 'w<i>' (that an integer argument fits its kind)

theorem own : ownKnob Try.prog.godebug = none := by kernel_rfl

/-! ### STEP 1: THE WALK: the Go text returns true. 'Below': what was there is as it was (Derived/RowKit3.lean). Part the cases AHEAD of 'go_enter' where a test parts the walk; take each callee by a contract of your own. -/
open Ieee in
theorem two_read : double.read 4611686018427387904 = .number false 4503599627370496 (-51) := by decide +kernel
theorem from_at (n : Int) (h0 : -140737488355328 ≤ n) (h1 : n ≤ 140737488355328) : fromN (n * (twoPow 1058 : Int)) = n ∧ fromE (n * (twoPow 1058 : Int)) = 0 ∧
    fromN (n * (twoPow 1057 : Int)) = n / 2 ∧ fromE (n * (twoPow 1057 : Int)) = 0 := by
  have up := U_pos
  have e1 : U = (twoPow 1058 : Int) * 65536 := by
    unfold U; rw [show 1074 = 1058 + 16 from rfl, twoPow_add, show twoPow 16 = 65536 from rfl, Int.natCast_mul]; rfl
  have e2 : (twoPow 1058 : Int) = (twoPow 1057 : Int) * 2 := by
    rw [show 1058 = 1057 + 1 from rfl, twoPow_add, show twoPow 1 = 2 from rfl, Int.natCast_mul]; rfl
  have p : (0 : Int) < (twoPow 1057 : Int) := Int.natCast_pos.2 (twoPow_pos _)
  rw [e2] at e1 ⊢
  generalize (twoPow 1057 : Int) = t at *
  have m1 : n * (t * 2) = (n * t) * 2 := by rw [Int.mul_assoc]
  have l0 : -140737488355328 * t ≤ n * t := Int.mul_le_mul_of_nonneg_right h0 (by omega)
  have l1 : n * t ≤ 140737488355328 * t := Int.mul_le_mul_of_nonneg_right h1 (by omega)
  unfold fromN fromE
  rw [m1, if_neg (by omega), if_neg (by omega), if_neg (by omega), if_neg (by omega), if_neg (by omega), if_neg (by omega), if_neg (by omega), if_neg (by omega)]
  refine ⟨?_, rfl, ?_, rfl⟩
  · rw [show n * t * 2 * 65536 = n * U by rw [e1, ← Int.mul_assoc, ← Int.mul_assoc], Int.mul_ediv_cancel _ (by omega)]
  · rw [show n * t * 65536 = n * (t * 65536) by rw [Int.mul_assoc], show U = 2 * (t * 65536) by omega]
    exact Int.mul_ediv_mul_of_pos_left _ _ (by omega)
theorem walk (a0 : Int) (w0 : (Lit.int .i64 a0).wf = true) (w : World) :
    Calls Try.prog 8 #[.int .i64 a0] w fun e w' => e = .returned (.bool true) ∧ Below w.heap.size w w' := by
  have hb := cut_bd a0
  obtain ⟨f1, f2, f3, f4⟩ := from_at (cut a0) hb.1 hb.2
  generalize hx : cut a0 = x at *
  have hcx : ∀ w : World, Calls Try.prog 12 #[.int .i64 a0] w fun e w' => e = .returned (.int .i64 x) ∧ w = w' := by rw [← hx]; exact r_cut a0
  have hcf : ∀ w : World, Calls Try.prog 27 #[.int .i64 a0] w fun e w' => ∃ r, e = .returned (.float .f64 r) ∧ Fin r (x * (twoPow 1058 : Int)) ∧ w = w' := by rw [← hx]; exact c_float a0
  have CX := Lib.hid hcx
  have CF := Lib.hid hcf
  have F1 := Lib.hid f1; have F2 := Lib.hid f2; have F3 := Lib.hid f3; have F4 := Lib.hid f4
  clear hcx hcf f1 f2 f3 f4 hx
  go_enter Try.func8, Try.ntmps8
  go_wp2_with fail
  refine (CX.out _).mono ?_
  rintro e w' ⟨rfl, rfl⟩
  go_wp2_with fail
  refine (CF.out _).mono ?_
  rintro e w' ⟨r, rfl, hr, rfl⟩
  obtain ⟨r2, hd, hh⟩ := div_val r x 16 1 4611686018427387904 two_read (by omega) (by omega) (by omega) hr
  obtain ⟨r3, hm, hl⟩ := like_mul (Or.inl hr)
  have b1 : floatBits .quo .f64 r 4611686018427387904 = some r2 := hd
  have b2 : floatBits .mul .f64 r 4679240012837945344 = some r3 := hm
  have rq := fun (w : World) (t : TypeId) => run_float_arith (P := Try.prog) w .quo t .f64 r 4611686018427387904 r2 b1
  have rm := fun (w : World) (t : TypeId) => run_float_arith (P := Try.prog) w .mul t .f64 r 4679240012837945344 r3 b2
  have up := U_pos
  have e1 : x * (twoPow 1058 : Int) * 65536 = x * U := by
    unfold U; rw [show 1074 = 1058 + 16 from rfl, twoPow_add, show twoPow 16 = 65536 from rfl, Int.natCast_mul, ← Int.mul_assoc]; rfl
  rw [e1] at hl
  have ho := (order_like hl (fin_int x (by omega) (by omega)) (by
    have := Int.mul_le_mul_of_nonneg_right hb.2 (Int.le_of_lt up); omega) (by
    have := Int.mul_le_mul_of_nonneg_right hb.1 (Int.le_of_lt up); omega)).1
  rw [cmp_eq rfl] at ho
  have ho' : FloatKind.f64.format.order r3 (floatOfInt .f64 x) = some .eq := ho
  have c1 := c_from r _ (Or.inl hr)
  have c2 := c_from r2 _ (Or.inl hh)
  rw [F1.out, F2.out] at c1
  rw [show 1074 - (16 + 1) = 1057 from rfl, F3.out, F4.out] at c2
  have C1 := Lib.hid c1
  have C2 := Lib.hid c2
  clear hd hm hl b1 b2 e1 ho hr hh c1 c2 up
  go_wp2_with fail
  refine (C1.out _).mono ?_
  rintro e w' ⟨rfl, rfl⟩
  go_wp2_with fail
  refine (C2.out _).mono ?_
  rintro e w' ⟨rfl, rfl⟩
  go_wp2_with fail
  refine (r_div _ _ (by omega) (by omega) (by omega) (by omega) _).mono ?_
  rintro e w' ⟨rfl, rfl⟩
  go_wp2_with fail
  refine (c_lives _).mono ?_
  rintro e w' ⟨rfl, hl⟩
  go_wp2
  go_ret
  exact ⟨rfl, hl⟩

/-! ### THE ROW's STEP: WRITTEN OUT: LEAVE IT -/
set_option maxRecDepth 100000 in
theorem lifted (os : Os) (started : os.Started) (H : Type) (enc : TypeId × Value → H) :
    ReturnsInHanded {} Try.checked os 8 .any (Rows.fixedMeansSpec.pre6 enc Try.prog Try.f8 Rows.fixedMeansRow.domain false) (Rows.fixedMeansSpec.post enc Try.prog Try.f8 false true false false) := by
  refine returnsInHanded_of_change (C := Try.checked) own started (by kernel_rfl) Try.func8
    (ChangeSpec.witness6 (enc := enc) (C := Try.checked) false ⟨#[], #[.int .i64 0], []⟩ 8 (by kernel_rfl) (by kernel_rfl) (by kernel_rfl) (by kernel_rfl)) ?_
  intro W base args ds gs before hval0 hW hcnd _
  have hval : ∀ (j : Nat) t v, Try.f8.params[j]? = some t → args[j]? = some v → Value.okWide Try.prog W .any base t v := hval0
  have hW' := hW
  obtain ⟨p, q, hA0, hV, rfl, hfz, hnd⟩ := hW
  have hA : DataW.TrodAll enc Try.prog W 0 (fun _ => true) true Try.f8.params.toList args.toList ds p := hA0
  rw [Try.params8] at hA hval
  obtain ⟨v0, vs0, d0, ds0, p0, q0, hargs, rfl, rfl, h0, r0⟩ := trodAll_cons hA
  obtain ⟨rfl, rfl, rfl⟩ := trodAll_nil r0
  obtain rfl : args = #[v0] := by cases args; simp_all
  obtain ⟨rfl, rfl⟩ := trodVars_none hV
  obtain ⟨a0, rfl, rfl, rfl, w0⟩ := open_int Try.underlying3 (hval 0 3 v0 rfl rfl) h0
  clear hA0 hval0
  simp only [List.append_nil] at hW'
  refine (walk a0 w0 W).mono fun e W' ⟨he, hg⟩ => ?_
  subst he
  exact ⟨_, rfl, _, _, _, [], _, [], hW', (trodAll_cons_mk (shut_bool Try.underlying4 _) trodAll_mk0), (trodAll_cons_mk (shut_int Try.underlying3 w0) trodAll_mk0), rfl, hg.frame _, fun h => by cases h⟩

theorem over : Rows.fixedMeansRow.holds Try.pinned (OpenSpec.ofChange Rows.fixedMeansSpec) :=
  OpenClaim.holds_of_wide 8 Try.f8 rfl rfl rfl rfl rfl rfl rfl ⟨rfl, rfl, rfl, rfl, rfl⟩ rfl rfl rfl rfl rfl (by kernel_rfl) Try.func8 (by kernel_rfl)
    (of_decide_eq_true (by kernel_rfl)) (by unfold Func.isWrapper; first | (rw [if_pos (by decide +kernel)]; kernel_rfl) | (rw [if_neg (by decide +kernel)]; exact ⟨rfl, rfl⟩))
    (fun os started H enc _ => lifted os started H enc)

/-- ████ THE STATEMENT ████ -/
theorem proved : Rows.FixedMeansSaid :=
  over
#print axioms proved
end Go.Proofs.Ytdlgcgghbkjkfaa.fixedMeans
