/- For every three numbers the law FixedToward of layer 1 answers true: a number that is moved toward another one comes no farther than it may, and not beyond. Conditions: none: every input. -/
import Derived.Test.YtdlgcgghbkjkfaaRows
import Derived.WalkKit
import Derived.ProofKit
import Derived.OpenShut
import Derived.Test.YtdlgcgghbkjkfaaC01
import Derived.Test.YtdlgcgghbkjkfaaD01
import Derived.Below
import Derived.ShutString
namespace Go.Proofs.Ytdlgcgghbkjkfaa.fixedToward
open Go.ChangeShapes Go.WideShapes Go.ChangeAt Go.RowKit
open Go.ChangeMaps (open_string shut_string)
set_option linter.unusedVariables false      -- a walk need not use every 'w<i>' (that an integer argument fits its kind)

theorem own : ownKnob Try.prog.godebug = none := by kernel_rfl

/-! ### STEP 1: THE WALK: the Go text returns true. 'Below': what was there is as it was (Derived/RowKit3.lean). Part the cases AHEAD of 'go_enter' where a test parts the walk; take each callee by a contract of your own. -/
theorem walk (a0 : Int) (a1 : Int) (a2 : Int) (w0 : (Lit.int .i64 a0).wf = true) (w1 : (Lit.int .i64 a1).wf = true) (w2 : (Lit.int .i64 a2).wf = true) (w : World) :
    Calls Try.prog 9 #[.int .i64 a0, .int .i64 a1, .int .i64 a2] w fun e w' => e = .returned (.bool true) ∧ Below w.heap.size w w' := by
  have b0 := cut_bd a0
  have b1 := cut_bd a1
  have t1 : min (cut a0) (cut a1) ≤ towardF a0 a1 a2 ∧ towardF a0 a1 a2 ≤ max (cut a0) (cut a1) := by
    unfold towardF; have := cut_bd a2; split <;> omega
  have t2 : towardF a0 a1 9223372036854775807 = (if cut a0 < cut a1 then min (cut a0 + 140737488355328) (cut a1) else max (cut a0 - 140737488355328) (cut a1)) := by
    unfold towardF; rw [show max (cut 9223372036854775807) 0 = 140737488355328 from by decide +kernel]
  have t3 : towardF a0 a1 9223372036854775807 = cut a1 ↔ ¬ (140737488355328 < cut a0 - cut a1 ∨ 140737488355328 < cut a1 - cut a0) := by
    rw [t2]; split <;> omega
  clear t2
  obtain ⟨m, hm⟩ : ∃ m, towardF a0 a1 a2 = m := ⟨_, rfl⟩
  obtain ⟨f, hf⟩ : ∃ f, towardF a0 a1 9223372036854775807 = f := ⟨_, rfl⟩
  rw [hm] at t1
  rw [hf] at t3
  have cm : ∀ w : World, Calls Try.prog 29 #[.int .i64 a0, .int .i64 a1, .int .i64 a2] w fun e w' => e = .returned (.int .i64 m) ∧ w = w' := by rw [← hm]; exact c_toward a0 a1 a2
  have rm : ∀ w : World, Calls Try.prog 30 #[.int .i64 a0, .int .i64 a1, .int .i64 a2] w fun e w' => e = .returned (.int .i64 m) ∧ w = w' := by rw [← hm]; exact r_toward a0 a1 a2
  have cf : ∀ w : World, Calls Try.prog 29 #[.int .i64 a0, .int .i64 a1, .int .i64 9223372036854775807] w fun e w' => e = .returned (.int .i64 f) ∧ w = w' := by rw [← hf]; exact c_toward a0 a1 _
  have Cm := Lib.hid cm; have Rm := Lib.hid rm; have Cf := Lib.hid cf
  clear cm rm cf hm hf
  obtain ⟨x, hx⟩ : ∃ x, cut a0 = x := ⟨_, rfl⟩
  obtain ⟨y, hy⟩ : ∃ y, cut a1 = y := ⟨_, rfl⟩
  have cx : ∀ w : World, Calls Try.prog 12 #[.int .i64 a0] w fun e w' => e = .returned (.int .i64 x) ∧ w = w' := by rw [← hx]; exact r_cut a0
  have cy : ∀ w : World, Calls Try.prog 12 #[.int .i64 a1] w fun e w' => e = .returned (.int .i64 y) ∧ w = w' := by rw [← hy]; exact r_cut a1
  rw [hx] at b0 t1 t3
  rw [hy] at b1 t1 t3
  have Cx := Lib.hid cx; have Cy := Lib.hid cy
  clear cx cy hx hy
  have g1 : decide (min x y ≤ m) = true := by simp only [decide_eq_true_eq]; omega
  have g2 : decide (m ≤ max x y) = true := by simp only [decide_eq_true_eq]; omega
  by_cases f1 : 140737488355328 < x - y
  · have t4 : (f == y) = false := by rw [beq_eq_false_iff_ne]; omega
    have f2 : ¬ 140737488355328 < y - x := by omega
    have g4 : decide (140737488355328 < x - y) = true := by simp only [decide_eq_true_eq]; omega
    have g5 : decide (140737488355328 < y - x) = false := by rw [decide_eq_false_iff_not]; omega
    clear t1 t3
    go_enter Try.func9, Try.ntmps9
    go_wp2_with fail
    refine (Cm.out _).mono ?_
    rintro e w' ⟨rfl, rfl⟩
    go_wp2_with fail
    refine (Cx.out _).mono ?_
    rintro e w' ⟨rfl, rfl⟩
    go_wp2_with fail
    refine (Cy.out _).mono ?_
    rintro e w' ⟨rfl, rfl⟩
    go_wp2_with fail
    refine (Cf.out _).mono ?_
    rintro e w' ⟨rfl, rfl⟩
    go_wp2_with fail
    refine (Rm.out _).mono ?_
    rintro e w' ⟨rfl, rfl⟩
    go_wp2_with fail
    refine (c_lives _).mono ?_
    rintro e w' ⟨rfl, hl⟩
    go_wp2
    go_ret
    exact ⟨rfl, hl⟩
  · by_cases f2 : 140737488355328 < y - x
    · have t4 : (f == y) = false := by rw [beq_eq_false_iff_ne]; omega
      have g4 : decide (140737488355328 < x - y) = false := by rw [decide_eq_false_iff_not]; omega
      have g5 : decide (140737488355328 < y - x) = true := by simp only [decide_eq_true_eq]; omega
      clear t1 t3
      go_enter Try.func9, Try.ntmps9
      go_wp2_with fail
      refine (Cm.out _).mono ?_
      rintro e w' ⟨rfl, rfl⟩
      go_wp2_with fail
      refine (Cx.out _).mono ?_
      rintro e w' ⟨rfl, rfl⟩
      go_wp2_with fail
      refine (Cy.out _).mono ?_
      rintro e w' ⟨rfl, rfl⟩
      go_wp2_with fail
      refine (Cf.out _).mono ?_
      rintro e w' ⟨rfl, rfl⟩
      go_wp2_with fail
      refine (Rm.out _).mono ?_
      rintro e w' ⟨rfl, rfl⟩
      go_wp2_with fail
      refine (c_lives _).mono ?_
      rintro e w' ⟨rfl, hl⟩
      go_wp2
      go_ret
      exact ⟨rfl, hl⟩
    · have t4 : (f == y) = true := by rw [beq_iff_eq]; omega
      have g4 : decide (140737488355328 < x - y) = false := by rw [decide_eq_false_iff_not]; omega
      have g5 : decide (140737488355328 < y - x) = false := by rw [decide_eq_false_iff_not]; omega
      clear t1 t3
      go_enter Try.func9, Try.ntmps9
      go_wp2_with fail
      refine (Cm.out _).mono ?_
      rintro e w' ⟨rfl, rfl⟩
      go_wp2_with fail
      refine (Cx.out _).mono ?_
      rintro e w' ⟨rfl, rfl⟩
      go_wp2_with fail
      refine (Cy.out _).mono ?_
      rintro e w' ⟨rfl, rfl⟩
      go_wp2_with fail
      refine (Cf.out _).mono ?_
      rintro e w' ⟨rfl, rfl⟩
      go_wp2_with fail
      refine (Rm.out _).mono ?_
      rintro e w' ⟨rfl, rfl⟩
      go_wp2_with fail
      refine (c_lives _).mono ?_
      rintro e w' ⟨rfl, hl⟩
      go_wp2
      go_ret
      exact ⟨rfl, hl⟩

/-! ### THE ROW's STEP: WRITTEN OUT: LEAVE IT -/
set_option maxRecDepth 100000 in
theorem lifted (os : Os) (started : os.Started) (H : Type) (enc : TypeId × Value → H) :
    ReturnsInHanded {} Try.checked os 9 .any (Rows.fixedTowardSpec.pre6 enc Try.prog Try.f9 Rows.fixedTowardRow.domain false) (Rows.fixedTowardSpec.post enc Try.prog Try.f9 false true false false) := by
  refine returnsInHanded_of_change (C := Try.checked) own started (by kernel_rfl) Try.func9
    (ChangeSpec.witness6 (enc := enc) (C := Try.checked) false ⟨#[], #[.int .i64 0, .int .i64 0, .int .i64 0], []⟩ 8 (by kernel_rfl) (by kernel_rfl) (by kernel_rfl) (by kernel_rfl)) ?_
  intro W base args ds gs before hval0 hW hcnd _
  have hval : ∀ (j : Nat) t v, Try.f9.params[j]? = some t → args[j]? = some v → Value.okWide Try.prog W .any base t v := hval0
  have hW' := hW
  obtain ⟨p, q, hA0, hV, rfl, hfz, hnd⟩ := hW
  have hA : DataW.TrodAll enc Try.prog W 0 (fun _ => true) true Try.f9.params.toList args.toList ds p := hA0
  rw [Try.params9] at hA hval
  obtain ⟨v0, vs0, d0, ds0, p0, q0, hargs, rfl, rfl, h0, r0⟩ := trodAll_cons hA
  obtain ⟨v1, vs1, d1, ds1, p1, q1, rfl, rfl, rfl, h1, r1⟩ := trodAll_cons r0
  obtain ⟨v2, vs2, d2, ds2, p2, q2, rfl, rfl, rfl, h2, r2⟩ := trodAll_cons r1
  obtain ⟨rfl, rfl, rfl⟩ := trodAll_nil r2
  obtain rfl : args = #[v0, v1, v2] := by cases args; simp_all
  obtain ⟨rfl, rfl⟩ := trodVars_none hV
  obtain ⟨a0, rfl, rfl, rfl, w0⟩ := open_int Try.underlying3 (hval 0 3 v0 rfl rfl) h0
  obtain ⟨a1, rfl, rfl, rfl, w1⟩ := open_int Try.underlying3 (hval 1 3 v1 rfl rfl) h1
  obtain ⟨a2, rfl, rfl, rfl, w2⟩ := open_int Try.underlying3 (hval 2 3 v2 rfl rfl) h2
  clear hA0 hval0
  simp only [List.append_nil] at hW'
  refine (walk a0 a1 a2 w0 w1 w2 W).mono fun e W' ⟨he, hg⟩ => ?_
  subst he
  exact ⟨_, rfl, _, _, _, [], _, [], hW', (trodAll_cons_mk (shut_bool Try.underlying4 _) trodAll_mk0), (trodAll_cons_mk (shut_int Try.underlying3 w0) (trodAll_cons_mk (shut_int Try.underlying3 w1) (trodAll_cons_mk (shut_int Try.underlying3 w2) trodAll_mk0))), rfl, hg.frame _, fun h => by cases h⟩

theorem over : Rows.fixedTowardRow.holds Try.pinned (OpenSpec.ofChange Rows.fixedTowardSpec) :=
  OpenClaim.holds_of_wide 9 Try.f9 rfl rfl rfl rfl rfl rfl rfl ⟨rfl, rfl, rfl, rfl, rfl⟩ rfl rfl rfl rfl rfl (by kernel_rfl) Try.func9 (by kernel_rfl)
    (of_decide_eq_true (by kernel_rfl)) (by unfold Func.isWrapper; first | (rw [if_pos (by decide +kernel)]; kernel_rfl) | (rw [if_neg (by decide +kernel)]; exact ⟨rfl, rfl⟩))
    (fun os started H enc _ => lifted os started H enc)

/-- ████ THE STATEMENT ████ -/
theorem proved : Rows.FixedTowardSaid :=
  over
#print axioms proved
end Go.Proofs.Ytdlgcgghbkjkfaa.fixedToward
