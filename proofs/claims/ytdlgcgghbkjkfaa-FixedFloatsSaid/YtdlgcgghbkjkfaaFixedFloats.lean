/- For every float, infinite ones and none too, the law FixedFloats of layer 1 answers true: its fixed number, or why there is none, is the document's. Conditions: none: every input. -/
import Derived.Test.YtdlgcgghbkjkfaaRows
import Derived.WalkKit
import Derived.ProofKit
import Derived.OpenShut
import Derived.Test.YtdlgcgghbkjkfaaE01
import Derived.Below
import Derived.Laws.Cover2
import Derived.ShutString
namespace Go.Proofs.Ytdlgcgghbkjkfaa.fixedFloats
open Go.ChangeShapes Go.WideShapes Go.ChangeAt Go.RowKit
open Go.ChangeMaps (open_string shut_string)
set_option linter.unusedVariables false      -- a walk need not use every 'w<i>' (that an integer argument fits its kind)

theorem own : ownKnob Try.prog.godebug = none := by kernel_rfl

/-! ### STEP 1: THE WALK: the Go text returns true. 'Below': what was there is as it was (Derived/RowKit3.lean). Part the cases AHEAD of 'go_enter' where a test parts the walk; take each callee by a contract of your own. -/
open Ieee in
theorem from_zero : fromN 0 = 0 ∧ fromE 0 = 0 := by
  have up := U_pos
  unfold fromN fromE
  rw [if_neg (by omega), if_neg (by omega), if_neg (by omega), if_neg (by omega)]
  exact ⟨by rw [Int.zero_mul, Int.zero_ediv], rfl⟩
theorem walk (a0 : Nat) (w0 : (Lit.float .f64 a0).wf = true) (w : World) :
    Calls Try.prog 7 #[.float .f64 a0] w fun e w' => e = .returned (.bool true) ∧ Below w.heap.size w w' := by
  rcases like_or_nan a0 with ⟨x, hx⟩ | ⟨s, t, hx⟩
  · rcases like_cases hx with hf | hf
    · obtain ⟨r, hm, hr⟩ := mul_nought hf
      have hbits : floatBits .mul .f64 a0 0 = some r := hm
      have rm := fun (w : World) (t : TypeId) => run_float_arith (P := Try.prog) w .mul t .f64 a0 0 r hbits
      obtain ⟨z1, z2⟩ := from_zero
      have c0 := c_from r 0 (Or.inl hr)
      rw [z1, z2] at c0
      have C0 := Lib.hid c0
      clear hm hbits c0 z1 z2 hr
      generalize fromN x = N at *
      go_enter Try.func7, Try.ntmps7
      go_wp2_with fail
      refine (c_from _ x hx _).mono ?_
      rintro e w' ⟨rfl, rfl⟩
      go_wp2_with fail
      refine (r_from _ x hx _).mono ?_
      rintro e w' ⟨rfl, rfl⟩
      go_wp2_with fail
      refine (C0.out _).mono ?_
      rintro e w' ⟨rfl, rfl⟩
      go_wp2_with fail
      refine (c_lives _).mono ?_
      rintro e w' ⟨rfl, hl⟩
      go_wp2
      go_ret
      exact ⟨rfl, hl⟩
    · have rn := run_mul_nan (P := Try.prog) a0 0 (mul_none (Or.inl hf))
      obtain ⟨s, t, hn⟩ := nanOf_nan a0 0 w
      clear hf
      go_enter Try.func7, Try.ntmps7
      go_wp2_with fail
      refine (c_from _ x hx _).mono ?_
      rintro e w' ⟨rfl, rfl⟩
      go_wp2_with fail
      refine (r_from _ x hx _).mono ?_
      rintro e w' ⟨rfl, rfl⟩
      go_wp2_with fail
      refine (c_from_nan _ s t hn _).mono ?_
      rintro e w' ⟨rfl, rfl⟩
      go_wp2_with fail
      refine (c_lives _).mono ?_
      rintro e w' ⟨rfl, hl⟩
      go_wp2
      go_ret
      exact ⟨rfl, chain ((Below.refl _ _).drew) hl⟩
  · have rn := run_mul_nan (P := Try.prog) a0 0 (mul_nan hx)
    obtain ⟨s', t', hn⟩ := nanOf_nan a0 0 w.drew
    go_enter Try.func7, Try.ntmps7
    go_wp2_with fail
    refine (c_from_nan _ s t hx _).mono ?_
    rintro e w' ⟨rfl, rfl⟩
    go_wp2_with fail
    refine (r_from_nan _ s t hx _).mono ?_
    rintro e w' ⟨rfl, rfl⟩
    go_wp2_with fail
    refine (c_from_nan _ s' t' hn _).mono ?_
    rintro e w' ⟨rfl, rfl⟩
    go_wp2_with fail
    refine (c_lives _).mono ?_
    rintro e w' ⟨rfl, hl⟩
    go_wp2
    go_ret
    exact ⟨rfl, chain ((Below.refl _ _).drew.drew) hl⟩

/-! ### THE ROW's STEP: WRITTEN OUT: LEAVE IT -/
set_option maxRecDepth 100000 in
theorem lifted (os : Os) (started : os.Started) (H : Type) (enc : TypeId × Value → H) :
    ReturnsInHanded {} Try.checked os 7 .any (Rows.fixedFloatsSpec.pre6 enc Try.prog Try.f7 Rows.fixedFloatsRow.domain false) (Rows.fixedFloatsSpec.post enc Try.prog Try.f7 false true false false) := by
  refine returnsInHanded_of_change (C := Try.checked) own started (by kernel_rfl) Try.func7
    (ChangeSpec.witness6 (enc := enc) (C := Try.checked) false ⟨#[], #[.float .f64 0], []⟩ 8 (by kernel_rfl) (by kernel_rfl) (by kernel_rfl) (by kernel_rfl)) ?_
  intro W base args ds gs before hval0 hW hcnd _
  have hval : ∀ (j : Nat) t v, Try.f7.params[j]? = some t → args[j]? = some v → Value.okWide Try.prog W .any base t v := hval0
  have hW' := hW
  obtain ⟨p, q, hA0, hV, rfl, hfz, hnd⟩ := hW
  have hA : DataW.TrodAll enc Try.prog W 0 (fun _ => true) true Try.f7.params.toList args.toList ds p := hA0
  rw [Try.params7] at hA hval
  obtain ⟨v0, vs0, d0, ds0, p0, q0, hargs, rfl, rfl, h0, r0⟩ := trodAll_cons hA
  obtain ⟨rfl, rfl, rfl⟩ := trodAll_nil r0
  obtain rfl : args = #[v0] := by cases args; simp_all
  obtain ⟨rfl, rfl⟩ := trodVars_none hV
  obtain ⟨a0, rfl, rfl, rfl, w0⟩ := open_float Try.underlying29 (hval 0 29 v0 rfl rfl) h0
  clear hA0 hval0
  simp only [List.append_nil] at hW'
  refine (walk a0 w0 W).mono fun e W' ⟨he, hg⟩ => ?_
  subst he
  exact ⟨_, rfl, _, _, _, [], _, [], hW', (trodAll_cons_mk (shut_bool Try.underlying4 _) trodAll_mk0), (trodAll_cons_mk (shut_float Try.underlying29 w0) trodAll_mk0), rfl, hg.frame _, fun h => by cases h⟩

theorem over : Rows.fixedFloatsRow.holds Try.pinned (OpenSpec.ofChange Rows.fixedFloatsSpec) :=
  OpenClaim.holds_of_wide 7 Try.f7 rfl rfl rfl rfl rfl rfl rfl ⟨rfl, rfl, rfl, rfl, rfl⟩ rfl rfl rfl rfl rfl (by kernel_rfl) Try.func7 (by kernel_rfl)
    (of_decide_eq_true (by kernel_rfl)) (by unfold Func.isWrapper; first | (rw [if_pos (by decide +kernel)]; kernel_rfl) | (rw [if_neg (by decide +kernel)]; exact ⟨rfl, rfl⟩))
    (fun os started H enc _ => lifted os started H enc)

/-- ████ THE STATEMENT ████ -/
theorem proved : Rows.FixedFloatsSaid :=
  over
#print axioms proved
end Go.Proofs.Ytdlgcgghbkjkfaa.fixedFloats
