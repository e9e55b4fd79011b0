/- For every two numbers the law CellDivs of layer 3 answers true: quotients, rounded down, and what is left. Conditions: none: every input. -/
import Derived.Test.YtenpcmhfbbfpeaaRows
import Derived.Test.YtenpcmhfbbfpeaaO02
import Derived.Test.YtenpcmhfbbfpeaaL03
import Derived.Test.YtenpcmhfbbfpeaaS01
import Derived.WalkKit
import Derived.ProofKit
import Derived.OpenShut
import Derived.Below
import Derived.Carry
namespace Go.Proofs.Ytenpcmhfbbfpeaa.cellDivs
open Go.Proofs.Ytenpcmhfbbfpeaa Go.ChangeShapes Go.WideShapes Go.ChangeAt Go.RowKit
set_option linter.unusedVariables false
set_option linter.unusedSimpArgs false
attribute [local go_sem ↓] Go.wp_at_zero Go.wp_at_succ
set_option maxHeartbeats 4000000 in
theorem walk (a0 : Int) (w0 : -9223372036854775808 ≤ a0 ∧ a0 ≤ 9223372036854775807) (a1 : Int) (w1 : -9223372036854775808 ≤ a1 ∧ a1 ≤ 9223372036854775807) (w : World) :
    Calls Try.prog 3 #[.int .i64 a0, .int .i64 a1] w fun e w' => e = .returned (.bool true) ∧ Below w.heap.size w w' := by
  have i0 : i64 a0 := w0
  have i1 : i64 a1 := w1
  have cd := fun k => c3_div a0 a1 i0 i1 k
  have cm := fun k => c3_mod a0 a1 i0 i1 k
  have rm := fun k => r3_mod a0 a1 i0 i1 k
  by_cases h : a1 < 1
  · rw [show divF a0 a1 = 0 by unfold divF; rw [if_pos h]] at cd
    rw [show modF a0 a1 = 0 by unfold modF; rw [if_pos h]] at cm rm
    have CD := Lib.hid cd
    have CM := Lib.hid cm
    clear cd cm rm
    go_enter Try.func3, Try.ntmps3
    go_wp2_with (first | (go_at_call 11; refine (CD.out _).mono ?_; rintro e w' ⟨rfl, rfl⟩) | (go_at_call 12; refine (CM.out _).mono ?_; rintro e w' ⟨rfl, rfl⟩))
    (refine (l3_lives _).mono ?_; rintro e w1 ⟨rfl, hb1⟩)
    go_wp2
    go_ret
    exact ⟨rfl, by (repeat (first | with_reducible assumption | with_reducible exact Below.refl _ _ | with_reducible refine Below.drew ?_ | with_reducible refine below_drewN ?_ _ | with_reducible refine al ?_ _ | (with_reducible refine sc ?_ ?_; (focus (first | omega | (simp; done) | (simp; omega)))) | (with_reducible refine chain ?_ (by assumption))))⟩
  · rw [show divF a0 a1 = a0 / a1 by unfold divF; rw [if_neg h]] at cd
    rw [show modF a0 a1 = a0 % a1 by unfold modF; rw [if_neg h]] at cm rm
    obtain ⟨f1, f2, f3, f4, f5, f6⟩ := trem_facts a0 a1 (by omega) i0
    have hb0 : ¬ a1 = 0 := by omega
    have e2 := Int.mul_ediv_add_emod a0 a1
    have r0 := Int.emod_nonneg a0 (show a1 ≠ 0 by omega)
    have r1 := Int.emod_lt_of_pos a0 (show 0 < a1 by omega)
    have em : a0 / a1 * a1 = a0 - a0 % a1 := by rw [Int.mul_comm]; omega
    clear e2
    have lw := fun k => l3_low (a0.tmod a1) k
    obtain ⟨q, hq⟩ : ∃ q, a0 / a1 = q := ⟨_, rfl⟩
    obtain ⟨n, hn⟩ : ∃ n, a0 % a1 = n := ⟨_, rfl⟩
    obtain ⟨t, ht⟩ : ∃ t, a0.tdiv a1 = t := ⟨_, rfl⟩
    obtain ⟨r, hr⟩ : ∃ r, a0.tmod a1 = r := ⟨_, rfl⟩
    obtain ⟨l, hl⟩ : ∃ l, (if a0.tmod a1 < 0 then (1 : Int) else 0) = l := ⟨_, rfl⟩
    rw [hl] at lw
    rw [hr] at lw hl f1 f2 f3 f4
    rw [ht] at f1 f2 f5 f6
    rw [hq] at f1 f2 em cd
    rw [hn] at f1 f2 em r0 r1 cm rm
    have hs : t - l = q ∧ (0 ≤ l ∧ l ≤ 1) ∧ -9223372036854775808 ≤ t - l := by
      by_cases hneg : r < 0
      · rw [if_pos hneg] at hl; have := f1 hneg; omega
      · rw [if_neg hneg] at hl; have := f2 (by omega); omega
    obtain ⟨hs, bl, bs⟩ := hs
    have wt : IntKind.i64.wrap t = t := IntWalk.i64_in _ (by omega)
    have ws : IntKind.i64.wrap (t - l) = q := by rw [IntWalk.i64_in _ (by omega)]; exact hs
    have e3 : decide (0 ≤ n) = true := by simpa using r0
    have e4 : decide (n < a1) = true := by simpa using r1
    have CD := Lib.hid cd
    have CM := Lib.hid cm
    have RM := Lib.hid rm
    have LW := Lib.hid lw
    clear cd cm rm lw f1 f2 f3 f4 f5 f6 hl hs bl bs hq hn r0 r1
    go_enter Try.func3, Try.ntmps3
    go_wp2_with (first | (go_at_call 11; refine (CD.out _).mono ?_; rintro e w' ⟨rfl, rfl⟩) | (go_at_call 12; refine (CM.out _).mono ?_; rintro e w' ⟨rfl, rfl⟩))
    refine region_below 38 (by kernel_rfl) (by kernel_rfl) ?_
    simp only [List.take_succ_cons, List.take_zero, List.drop_succ_cons, List.drop_zero]
    repeat (first | (refine' InText.skip (by rfl) ?_; simp only [Act.put, List.setIfInBounds_toArray, List.set_cons_zero, List.set_cons_succ]) | (refine' InText.val (by rfl) (fun wr hr => ?_) ?_; rotate_left 1; (focus (obtain ⟨hrc, hrf⟩ := bcell hr; (go_simp <;> with_reducible rfl); done)); simp only [Act.put, List.setIfInBounds_toArray, List.set_cons_zero, List.set_cons_succ]) | (refine' InText.call (by rfl) (fun wr hr => ?_) (fun wr hr => ?_) ?_; rotate_left 3; (focus ((go_simp <;> (first | with_reducible rfl | exact ⟨rfl, rfl⟩)); done)); (focus (first | with_reducible exact pureB (LW.out _) | with_reducible exact pureB (RM.out _) | with_reducible exact l3_lives _)); simp only [Act.put, List.setIfInBounds_toArray, List.set_cons_zero, List.set_cons_succ]))
    refine fun wr hr => ?_
    obtain ⟨hrc, hrf⟩ := bcell hr
    go_wp2
    go_ret
    exact ⟨rfl, by (repeat (first | with_reducible assumption | with_reducible exact Below.refl _ _ | with_reducible refine Below.drew ?_ | with_reducible refine below_drewN ?_ _ | with_reducible refine al ?_ _ | (with_reducible refine sc ?_ ?_; (focus (first | omega | (simp; done) | (simp; omega)))) | (with_reducible refine chain ?_ (by assumption))))⟩
theorem own : ownKnob Try.prog.godebug = none := by kernel_rfl
set_option maxRecDepth 100000 in
theorem lifted (os : Os) (started : os.Started) (H : Type) (enc : TypeId × Value → H) :
    ReturnsInHanded {} Try.checked os 3 .any (Rows.cellDivsSpec.pre6 enc Try.prog Try.f3 Rows.cellDivsRow.domain false) (Rows.cellDivsSpec.post enc Try.prog Try.f3 false true false false) := by
  refine returnsInHanded_of_change (C := Try.checked) own started (by kernel_rfl) Try.func3
    (ChangeSpec.witness6 (enc := enc) (C := Try.checked) false ⟨#[], #[.int .i64 0, .int .i64 0], []⟩ 8 (by kernel_rfl) (by kernel_rfl) (by kernel_rfl) (by kernel_rfl)) ?_
  intro W base args ds gs before hval0 hW hcnd _
  have hval : ∀ (j : Nat) t v, Try.f3.params[j]? = some t → args[j]? = some v → Value.okWide Try.prog W .any base t v := hval0
  have hW' := hW
  obtain ⟨p, q, hA0, hV, rfl, hfz, hnd⟩ := hW
  have hA : DataW.TrodAll enc Try.prog W 0 (fun _ => true) true Try.f3.params.toList args.toList ds p := hA0
  rw [Try.params3] at hA hval
  obtain ⟨v0, vs0, d0, ds0, p0, q0, hargs, rfl, rfl, h0, r0⟩ := trodAll_cons hA
  obtain ⟨v1, vs1, d1, ds1, p1, q1, rfl, rfl, rfl, h1, r1⟩ := trodAll_cons r0
  obtain ⟨rfl, rfl, rfl⟩ := trodAll_nil r1
  obtain rfl : args = #[v0, v1] := by cases args; simp_all
  obtain ⟨rfl, rfl⟩ := trodVars_none hV
  simp only [List.append_nil] at hW'
  have hlt : ∀ x ∈ p0 ++ (p1 ++ ([])), x.block < W.heap.size := fun x hx => hW'.lt x (by simpa using hx)
  have hlt0 : ∀ x ∈ p0, x.block < W.heap.size := fun x hx => hlt x (List.mem_append.2 (.inl hx))
  have hlt1 : ∀ x ∈ p1, x.block < W.heap.size := fun x hx => hlt x (List.mem_append.2 (.inr (List.mem_append.2 (.inl hx))))
  have k0 := h0
  have k1 := h1
  obtain ⟨a0, rfl, w0⟩ := open_num (hval 0 3 v0 rfl rfl) h0
  obtain ⟨a1, rfl, w1⟩ := open_num (hval 1 3 v1 rfl rfl) h1
  clear hA0 hval0
  refine (walk a0 w0 a1 w1 W).mono fun e W' ⟨he, hg⟩ => ?_
  subst he
  exact ⟨_, rfl, _, _, _, [], _, [], hW', (trodAll_cons_mk (shut_bool Try.underlying4 _) trodAll_mk0), (trodAll_cons_mk (Below.trod laidOut (by kernel_rfl) (of_decide_eq_true (by kernel_rfl)) k0 hg hlt0) (trodAll_cons_mk (Below.trod laidOut (by kernel_rfl) (of_decide_eq_true (by kernel_rfl)) k1 hg hlt1) trodAll_mk0)), rfl, hg.frame _, fun h => by cases h⟩
theorem over : Rows.cellDivsRow.holds Try.pinned (OpenSpec.ofChange Rows.cellDivsSpec) :=
  OpenClaim.holds_of_wide 3 Try.f3 rfl rfl rfl rfl rfl rfl rfl ⟨rfl, rfl, rfl, rfl, rfl⟩ rfl rfl rfl rfl rfl (by kernel_rfl) Try.func3 (by kernel_rfl)
    (of_decide_eq_true (by kernel_rfl)) (by unfold Func.isWrapper; first | (rw [if_pos (by decide +kernel)]; kernel_rfl) | (rw [if_neg (by decide +kernel)]; exact ⟨rfl, rfl⟩))
    (fun os started H enc _ => lifted os started H enc)
theorem proved : Rows.CellDivsSaid := over
#print axioms proved
end Go.Proofs.Ytenpcmhfbbfpeaa.cellDivs
