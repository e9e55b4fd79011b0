/- For every three numbers the law FixedOrder of layer 1 answers true: sums, products and quotients keep the order of two numbers. Conditions: none: every input. -/
import Derived.Test.YtdlgcgghbkjkfaaRows
import Derived.WalkKit
import Derived.ProofKit
import Derived.OpenShut
import Derived.Test.YtdlgcgghbkjkfaaC01
import Derived.Test.YtdlgcgghbkjkfaaD01
import Derived.Below
import Derived.ShutString
namespace Go.Proofs.Ytdlgcgghbkjkfaa.fixedOrder
open Go.ChangeShapes Go.WideShapes Go.ChangeAt Go.RowKit
open Go.ChangeMaps (open_string shut_string)
set_option linter.unusedVariables false      -- a walk need not use every 'w<i>' (that an integer argument fits its kind)

theorem own : ownKnob Try.prog.godebug = none := by kernel_rfl

/-! ### STEP 1: THE WALK: the Go text returns true. 'Below': what was there is as it was (Derived/RowKit3.lean). Part the cases AHEAD of 'go_enter' where a test parts the walk; take each callee by a contract of your own. -/
theorem walk (a0 : Int) (a1 : Int) (a2 : Int) (w0 : (Lit.int .i64 a0).wf = true) (w1 : (Lit.int .i64 a1).wf = true) (w2 : (Lit.int .i64 a2).wf = true) (w : World) :
    Calls Try.prog 10 #[.int .i64 a0, .int .i64 a1, .int .i64 a2] w fun e w' => e = .returned (.bool true) ∧ Below w.heap.size w w' := by
  obtain ⟨x, hx⟩ : ∃ x, min a0 a1 = x := ⟨_, rfl⟩
  obtain ⟨y, hy⟩ : ∃ y, max a0 a1 = y := ⟨_, rfl⟩
  obtain ⟨n, hn⟩ : ∃ n, max a2 0 = n := ⟨_, rfl⟩
  obtain ⟨c, hc⟩ : ∃ c, max a2 1 = c := ⟨_, rfl⟩
  have le : x ≤ y := by omega
  have n0 : 0 ≤ n := by omega
  have c1 : 1 ≤ c := by omega
  have e1 : decide (cut (cut x + cut a2) ≤ cut (cut y + cut a2)) = true := by
    rw [decide_eq_true_eq]; exact cut_mono (by have := cut_mono le; omega)
  have e2 : decide (cut (cut x - cut a2) ≤ cut (cut y - cut a2)) = true := by
    rw [decide_eq_true_eq]; exact cut_mono (by have := cut_mono le; omega)
  have e3 : decide (mulF x n ≤ mulF y n) = true := by rw [decide_eq_true_eq]; exact mulF_mono n le n0
  have e4 : decide (quoF x c ≤ quoF y c) = true := by rw [decide_eq_true_eq]; exact quoF_mono c le c1
  have e5 : decide (cut x / 65536 ≤ cut y / 65536) = true := by
    rw [decide_eq_true_eq]; have := cut_mono le; omega
  have cz : c ≠ 0 := by omega
  have CZ := Lib.hid cz
  clear cz
  go_enter Try.func10, Try.ntmps10
  go_wp2_with fail
  refine (c_div _ _ CZ.out _).mono ?_
  rintro e x1 ⟨rfl, k1⟩
  go_wp2_with fail
  refine (c_div _ _ CZ.out _).mono ?_
  rintro e x2 ⟨rfl, k2⟩
  go_wp2_with (first | (go_at_call 15; refine (c_add _ _ _).mono ?_; rintro e w' ⟨rfl, rfl⟩) | (go_at_call 16; refine (c_sub _ _ _).mono ?_; rintro e w' ⟨rfl, rfl⟩))
  refine (c_mul _ _ _).mono ?_
  rintro e x3 ⟨rfl, k3⟩
  go_wp2_with fail
  refine (c_mul _ _ _).mono ?_
  rintro e x4 ⟨rfl, k4⟩
  go_wp2_with (go_at_call 22; refine (c_floor _ _).mono ?_; rintro e w' ⟨rfl, rfl⟩)
  refine (c_lives _).mono ?_
  rintro e x5 ⟨rfl, k5⟩
  go_wp2
  go_ret
  exact ⟨rfl, chain (chain (chain (chain k1 k2) k3) k4) k5⟩

/-! ### THE ROW's STEP: WRITTEN OUT: LEAVE IT -/
set_option maxRecDepth 100000 in
theorem lifted (os : Os) (started : os.Started) (H : Type) (enc : TypeId × Value → H) :
    ReturnsInHanded {} Try.checked os 10 .any (Rows.fixedOrderSpec.pre6 enc Try.prog Try.f10 Rows.fixedOrderRow.domain false) (Rows.fixedOrderSpec.post enc Try.prog Try.f10 false true false false) := by
  refine returnsInHanded_of_change (C := Try.checked) own started (by kernel_rfl) Try.func10
    (ChangeSpec.witness6 (enc := enc) (C := Try.checked) false ⟨#[], #[.int .i64 0, .int .i64 0, .int .i64 0], []⟩ 8 (by kernel_rfl) (by kernel_rfl) (by kernel_rfl) (by kernel_rfl)) ?_
  intro W base args ds gs before hval0 hW hcnd _
  have hval : ∀ (j : Nat) t v, Try.f10.params[j]? = some t → args[j]? = some v → Value.okWide Try.prog W .any base t v := hval0
  have hW' := hW
  obtain ⟨p, q, hA0, hV, rfl, hfz, hnd⟩ := hW
  have hA : DataW.TrodAll enc Try.prog W 0 (fun _ => true) true Try.f10.params.toList args.toList ds p := hA0
  rw [Try.params10] at hA hval
  obtain ⟨v0, vs0, d0, ds0, p0, q0, hargs, rfl, rfl, h0, r0⟩ := trodAll_cons hA
  obtain ⟨v1, vs1, d1, ds1, p1, q1, rfl, rfl, rfl, h1, r1⟩ := trodAll_cons r0
  obtain ⟨v2, vs2, d2, ds2, p2, q2, rfl, rfl, rfl, h2, r2⟩ := trodAll_cons r1
  obtain ⟨rfl, rfl, rfl⟩ := trodAll_nil r2
  obtain rfl : args = #[v0, v1, v2] := by cases args; simp_all
  obtain ⟨rfl, rfl⟩ := trodVars_none hV
  obtain ⟨a0, rfl, rfl, rfl, w0⟩ := open_int Try.underlying3 (hval 0 3 v0 rfl rfl) h0
  obtain ⟨a1, rfl, rfl, rfl, w1⟩ := open_int Try.underlying3 (hval 1 3 v1 rfl rfl) h1
  obtain ⟨a2, rfl, rfl, rfl, w2⟩ := open_int Try.underlying3 (hval 2 3 v2 rfl rfl) h2
  clear hA0 hval0
  simp only [List.append_nil] at hW'
  refine (walk a0 a1 a2 w0 w1 w2 W).mono fun e W' ⟨he, hg⟩ => ?_
  subst he
  exact ⟨_, rfl, _, _, _, [], _, [], hW', (trodAll_cons_mk (shut_bool Try.underlying4 _) trodAll_mk0), (trodAll_cons_mk (shut_int Try.underlying3 w0) (trodAll_cons_mk (shut_int Try.underlying3 w1) (trodAll_cons_mk (shut_int Try.underlying3 w2) trodAll_mk0))), rfl, hg.frame _, fun h => by cases h⟩

theorem over : Rows.fixedOrderRow.holds Try.pinned (OpenSpec.ofChange Rows.fixedOrderSpec) :=
  OpenClaim.holds_of_wide 10 Try.f10 rfl rfl rfl rfl rfl rfl rfl ⟨rfl, rfl, rfl, rfl, rfl⟩ rfl rfl rfl rfl rfl (by kernel_rfl) Try.func10 (by kernel_rfl)
    (of_decide_eq_true (by kernel_rfl)) (by unfold Func.isWrapper; first | (rw [if_pos (by decide +kernel)]; kernel_rfl) | (rw [if_neg (by decide +kernel)]; exact ⟨rfl, rfl⟩))
    (fun os started H enc _ => lifted os started H enc)

/-- ████ THE STATEMENT ████ -/
theorem proved : Rows.FixedOrderSaid :=
  over
#print axioms proved
end Go.Proofs.Ytdlgcgghbkjkfaa.fixedOrder
