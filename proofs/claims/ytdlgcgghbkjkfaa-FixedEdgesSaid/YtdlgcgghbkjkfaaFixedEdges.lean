/- For every two numbers and every float the law FixedEdges of layer 1 answers true: whatever is reckoned stays within the bounds. Conditions: none: every input. -/
import Derived.Test.YtdlgcgghbkjkfaaRows
import Derived.WalkKit
import Derived.ProofKit
import Derived.OpenShut
import Derived.Test.YtdlgcgghbkjkfaaE01
import Derived.Below
import Derived.Laws.Cover2
import Derived.ShutString
namespace Go.Proofs.Ytdlgcgghbkjkfaa.fixedEdges
open Go.ChangeShapes Go.WideShapes Go.ChangeAt Go.RowKit
open Go.ChangeMaps (open_string shut_string)
set_option linter.unusedVariables false      -- a walk need not use every 'w<i>' (that an integer argument fits its kind)

theorem own : ownKnob Try.prog.godebug = none := by kernel_rfl

/-! ### STEP 1: THE WALK: the Go text returns true. 'Below': what was there is as it was (Derived/RowKit3.lean). Part the cases AHEAD of 'go_enter' where a test parts the walk; take each callee by a contract of your own. -/
theorem c_div_any (a b : Int) (w : World) : Calls Try.prog 20 #[.int .i64 a, .int .i64 b] w fun e w' => ∃ q g : Int, e = .returned (.tuple #[.int .i64 q, .int .i64 g]) ∧ -140737488355328 ≤ q ∧ q ≤ 140737488355328 ∧ Below w.heap.size w w' := by
  by_cases h : b = 0
  · subst h
    refine (c_div_no a w).mono ?_
    rintro e w' ⟨rfl, rfl⟩
    exact ⟨_, _, rfl, by omega, by omega, Below.refl _ _⟩
  · refine (c_div a b h w).mono ?_
    rintro e w' ⟨rfl, hw⟩
    have := quoF_bd a b
    exact ⟨_, _, rfl, by omega, by omega, hw⟩
theorem fromN_bd (x : Int) : -140737488355328 ≤ fromN x ∧ fromN x ≤ 140737488355328 := by
  have up := U_pos
  unfold fromN
  split
  · omega
  · split
    · omega
    · refine ⟨(Int.le_ediv_iff_mul_le up).2 (by omega), ?_⟩
      have := Int.ediv_le_ediv up (show x * 65536 ≤ 140737488355328 * U by omega)
      rwa [Int.mul_ediv_cancel _ (by omega)] at this
theorem c_from_any (f : Nat) (w : World) : Calls Try.prog 25 #[.float .f64 f] w fun e w' => ∃ n g : Int, e = .returned (.tuple #[.int .i64 n, .int .i64 g]) ∧ -140737488355328 ≤ n ∧ n ≤ 140737488355328 ∧ w = w' := by
  rcases like_or_nan f with ⟨x, hx⟩ | ⟨s, t, hx⟩
  · refine (c_from f x hx w).mono ?_
    rintro e w' ⟨rfl, rfl⟩
    have := fromN_bd x
    exact ⟨_, _, rfl, by omega, by omega, rfl⟩
  · refine (c_from_nan f s t hx w).mono ?_
    rintro e w' ⟨rfl, rfl⟩
    exact ⟨_, _, rfl, by omega, by omega, rfl⟩
theorem toward_bd (a b c : Int) : -140737488355328 ≤ towardF a b c ∧ towardF a b c ≤ 140737488355328 := by
  have h1 := cut_bd a
  have h2 := cut_bd b
  have h3 := cut_bd c
  unfold towardF
  split <;> omega
theorem whole_bd (a : Int) : -140737488355328 ≤ whole a * 65536 ∧ whole a * 65536 ≤ 140737488355328 := by unfold whole; omega
set_option maxHeartbeats 1000000 in
theorem walk (a0 : Int) (a1 : Int) (a2 : Nat) (w0 : (Lit.int .i64 a0).wf = true) (w1 : (Lit.int .i64 a1).wf = true) (w2 : (Lit.float .f64 a2).wf = true) (w : World) :
    Calls Try.prog 11 #[.int .i64 a0, .int .i64 a1, .float .f64 a2] w fun e w' => e = .returned (.bool true) ∧ Below w.heap.size w w' := by
  have b0 := cut_bd a0
  have b1 := cut_bd (cut a0 + cut a1)
  have b2 := cut_bd (cut a0 - cut a1)
  have b3 := mulF_bd a0 a1
  have b6 := whole_bd a0
  have b7 := toward_bd a0 a1 a0
  go_enter Try.func11, Try.ntmps11
  go_wp2_with fail
  refine (c_div_any _ _ _).mono ?_
  rintro e x1 ⟨q, g, rfl, q0, q1, k1⟩
  go_wp2_with fail
  refine (c_from_any _ _).mono ?_
  rintro e w' ⟨n, g2, rfl, n0, n1, rfl⟩
  go_wp2_with (first | (go_at_call 14; refine (c_cut _ _).mono ?_; rintro e w' ⟨rfl, rfl⟩) | (go_at_call 15; refine (c_add _ _ _).mono ?_; rintro e w' ⟨rfl, rfl⟩) | (go_at_call 16; refine (c_sub _ _ _).mono ?_; rintro e w' ⟨rfl, rfl⟩))
  refine (c_mul _ _ _).mono ?_
  rintro e x2 ⟨rfl, k2⟩
  go_wp2_with (first | (go_at_call 24; refine (c_of _ _).mono ?_; rintro e w' ⟨rfl, rfl⟩) | (go_at_call 29; refine (c_toward _ _ _ _).mono ?_; rintro e w' ⟨rfl, rfl⟩))
  refine wp_loop_rounds 9 ?_
  iterate 9 (rw [rounds_succ]; go_wp2_with fail)
  refine (c_lives _).mono ?_
  rintro e x3 ⟨rfl, k3⟩
  go_wp2
  go_ret
  exact ⟨rfl, chain (chain (chain k1 k2) ((Below.refl _ _).alloc (Nat.le_refl _) _)) k3⟩

/-! ### THE ROW's STEP: WRITTEN OUT: LEAVE IT -/
set_option maxRecDepth 100000 in
theorem lifted (os : Os) (started : os.Started) (H : Type) (enc : TypeId × Value → H) :
    ReturnsInHanded {} Try.checked os 11 .any (Rows.fixedEdgesSpec.pre6 enc Try.prog Try.f11 Rows.fixedEdgesRow.domain false) (Rows.fixedEdgesSpec.post enc Try.prog Try.f11 false true false false) := by
  refine returnsInHanded_of_change (C := Try.checked) own started (by kernel_rfl) Try.func11
    (ChangeSpec.witness6 (enc := enc) (C := Try.checked) false ⟨#[], #[.int .i64 0, .int .i64 0, .float .f64 0], []⟩ 8 (by kernel_rfl) (by kernel_rfl) (by kernel_rfl) (by kernel_rfl)) ?_
  intro W base args ds gs before hval0 hW hcnd _
  have hval : ∀ (j : Nat) t v, Try.f11.params[j]? = some t → args[j]? = some v → Value.okWide Try.prog W .any base t v := hval0
  have hW' := hW
  obtain ⟨p, q, hA0, hV, rfl, hfz, hnd⟩ := hW
  have hA : DataW.TrodAll enc Try.prog W 0 (fun _ => true) true Try.f11.params.toList args.toList ds p := hA0
  rw [Try.params11] at hA hval
  obtain ⟨v0, vs0, d0, ds0, p0, q0, hargs, rfl, rfl, h0, r0⟩ := trodAll_cons hA
  obtain ⟨v1, vs1, d1, ds1, p1, q1, rfl, rfl, rfl, h1, r1⟩ := trodAll_cons r0
  obtain ⟨v2, vs2, d2, ds2, p2, q2, rfl, rfl, rfl, h2, r2⟩ := trodAll_cons r1
  obtain ⟨rfl, rfl, rfl⟩ := trodAll_nil r2
  obtain rfl : args = #[v0, v1, v2] := by cases args; simp_all
  obtain ⟨rfl, rfl⟩ := trodVars_none hV
  obtain ⟨a0, rfl, rfl, rfl, w0⟩ := open_int Try.underlying3 (hval 0 3 v0 rfl rfl) h0
  obtain ⟨a1, rfl, rfl, rfl, w1⟩ := open_int Try.underlying3 (hval 1 3 v1 rfl rfl) h1
  obtain ⟨a2, rfl, rfl, rfl, w2⟩ := open_float Try.underlying29 (hval 2 29 v2 rfl rfl) h2
  clear hA0 hval0
  simp only [List.append_nil] at hW'
  refine (walk a0 a1 a2 w0 w1 w2 W).mono fun e W' ⟨he, hg⟩ => ?_
  subst he
  exact ⟨_, rfl, _, _, _, [], _, [], hW', (trodAll_cons_mk (shut_bool Try.underlying4 _) trodAll_mk0), (trodAll_cons_mk (shut_int Try.underlying3 w0) (trodAll_cons_mk (shut_int Try.underlying3 w1) (trodAll_cons_mk (shut_float Try.underlying29 w2) trodAll_mk0))), rfl, hg.frame _, fun h => by cases h⟩

theorem over : Rows.fixedEdgesRow.holds Try.pinned (OpenSpec.ofChange Rows.fixedEdgesSpec) :=
  OpenClaim.holds_of_wide 11 Try.f11 rfl rfl rfl rfl rfl rfl rfl ⟨rfl, rfl, rfl, rfl, rfl⟩ rfl rfl rfl rfl rfl (by kernel_rfl) Try.func11 (by kernel_rfl)
    (of_decide_eq_true (by kernel_rfl)) (by unfold Func.isWrapper; first | (rw [if_pos (by decide +kernel)]; kernel_rfl) | (rw [if_neg (by decide +kernel)]; exact ⟨rfl, rfl⟩))
    (fun os started H enc _ => lifted os started H enc)

/-- ████ THE STATEMENT ████ -/
theorem proved : Rows.FixedEdgesSaid :=
  over
#print axioms proved
end Go.Proofs.Ytdlgcgghbkjkfaa.fixedEdges
