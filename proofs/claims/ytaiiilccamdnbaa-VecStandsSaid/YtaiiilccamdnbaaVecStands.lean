/- For every place, width and height the law VecStands of layer 2 answers true: the box that stands on a place is the document's, and may be. Conditions: none: every input. -/
import Derived.Test.YtaiiilccamdnbaaRows
import Derived.Test.YtaiiilccamdnbaaO02
import Derived.Test.YtaiiilccamdnbaaP02
import Derived.Test.YtaiiilccamdnbaaS01
import Derived.WalkKit
import Derived.ProofKit
import Derived.OpenShut
import Derived.Below
import Derived.Carry
namespace Go.Proofs.Ytaiiilccamdnbaa.vecStands
open Go.Proofs.Ytaiiilccamdnbaa Go.ChangeShapes Go.WideShapes Go.ChangeAt Go.RowKit
set_option linter.unusedVariables false
attribute [local go_sem ↓] Go.wp_at_zero Go.wp_at_succ
set_option maxHeartbeats 2000000 in
theorem walk (a0 : V3) (w0 : a0.wf) (a1 : Int) (w1 : -9223372036854775808 ≤ a1 ∧ a1 ≤ 9223372036854775807) (a2 : Int) (w2 : -9223372036854775808 ≤ a2 ∧ a2 ≤ 9223372036854775807) (w : World) :
    Calls Try.prog 7 #[a0.val, .int .i64 a1, .int .i64 a2] w fun e w' => e = .returned (.bool true) ∧ Below w.heap.size w w' := by
  obtain ⟨x, y, z⟩ := a0
  have hm := v_may_yes (cut (cut x - cut (max a1 0 / 2))) (cut y) (cut (cut z - cut (max a1 0 / 2))) (cut (cut x + cut (max a1 0 / 2))) (cut (cut y + cut (max a2 0))) (cut (cut z + cut (max a1 0 / 2)))
    ⟨cut_cut _, cut_cut _, cut_cut _, cut_cut _, cut_cut _, cut_cut _, cut_mono (by have : 0 ≤ cut (max a1 0 / 2) := by { unfold cut; omega }; omega), by have : 0 ≤ cut (max a2 0) := by { unfold cut; omega }; have hy := cut_mono (show cut y ≤ cut y + cut (max a2 0) by omega); rwa [cut_cut] at hy, cut_mono (by have : 0 ≤ cut (max a1 0 / 2) := by { unfold cut; omega }; omega)⟩
  have HM := Lib.hid hm
  clear hm
  have e1 := ax1
  go_enter Try.func7, Try.ntmps7
  go_wp2_with fail
  (refine (v_stand_as _ _ _ _ _ w1.1 w1.2 w2.1 w2.2 _).mono ?_; rintro e u1 ⟨rfl, hb1⟩)
  obtain ⟨_hcu1, _hfu1⟩ := bcell hb1
  have _zu10 : w.heap.size < u1.heap.size := size_lt (by first | (simp; done) | (simp; omega) | omega) hb1
  go_wp2_with fail
  refine region_below 22 (by kernel_rfl) (by kernel_rfl) ?_
  simp only [List.take_succ_cons, List.take_zero, List.drop_succ_cons, List.drop_zero]
  repeat (first | (refine' InText.skip (by rfl) ?_; simp only [Act.put, List.setIfInBounds_toArray, List.set_cons_zero, List.set_cons_succ]) | (refine' InText.val (by rfl) (fun wr hr => ?_) ?_; rotate_left 1; (focus (obtain ⟨hrc, hrf⟩ := bcell hr; (go_simp <;> with_reducible rfl); done)); simp only [Act.put, List.setIfInBounds_toArray, List.set_cons_zero, List.set_cons_succ]) | (refine' InText.call (by rfl) (fun wr hr => ?_) (fun wr hr => ?_) ?_; rotate_left 3; (focus ((go_simp <;> (first | with_reducible rfl | exact ⟨rfl, rfl⟩)); done)); (focus (first | with_reducible exact r2_stand _ _ _ _ _ w1.1 w1.2 w2.1 w2.2 _ | with_reducible exact HM.out _ | with_reducible exact c_axis _ _ _ _ _ | with_reducible exact pureB (r_cut _ _) | with_reducible exact l2_lives _)); simp only [Act.put, List.setIfInBounds_toArray, List.set_cons_zero, List.set_cons_succ]))
  refine fun wr hr => ?_
  obtain ⟨hrc, hrf⟩ := bcell hr
  go_wp2
  go_ret
  exact ⟨rfl, by (repeat (first | with_reducible assumption | with_reducible exact Below.refl _ _ | with_reducible refine Below.drew ?_ | with_reducible refine below_drewN ?_ _ | with_reducible refine al ?_ _ | (with_reducible refine sc ?_ ?_; (focus (first | omega | (simp; done) | (simp; omega)))) | (with_reducible refine chain ?_ (by assumption))))⟩
theorem own : ownKnob Try.prog.godebug = none := by kernel_rfl
set_option maxRecDepth 100000 in
theorem lifted (os : Os) (started : os.Started) (H : Type) (enc : TypeId × Value → H) :
    ReturnsInHanded {} Try.checked os 7 .any (Rows.vecStandsSpec.pre6 enc Try.prog Try.f7 Rows.vecStandsRow.domain false) (Rows.vecStandsSpec.post enc Try.prog Try.f7 false true false false) := by
  refine returnsInHanded_of_change (C := Try.checked) own started (by kernel_rfl) Try.func7
    (ChangeSpec.witness6 (enc := enc) (C := Try.checked) false ⟨#[], #[.agg #[.int .i64 0, .int .i64 0, .int .i64 0], .int .i64 0, .int .i64 0], []⟩ 8 (by kernel_rfl) (by kernel_rfl) (by kernel_rfl) (by kernel_rfl)) ?_
  intro W base args ds gs before hval0 hW hcnd _
  have hval : ∀ (j : Nat) t v, Try.f7.params[j]? = some t → args[j]? = some v → Value.okWide Try.prog W .any base t v := hval0
  have hW' := hW
  obtain ⟨p, q, hA0, hV, rfl, hfz, hnd⟩ := hW
  have hA : DataW.TrodAll enc Try.prog W 0 (fun _ => true) true Try.f7.params.toList args.toList ds p := hA0
  rw [Try.params7] at hA hval
  obtain ⟨v0, vs0, d0, ds0, p0, q0, hargs, rfl, rfl, h0, r0⟩ := trodAll_cons hA
  obtain ⟨v1, vs1, d1, ds1, p1, q1, rfl, rfl, rfl, h1, r1⟩ := trodAll_cons r0
  obtain ⟨v2, vs2, d2, ds2, p2, q2, rfl, rfl, rfl, h2, r2⟩ := trodAll_cons r1
  obtain ⟨rfl, rfl, rfl⟩ := trodAll_nil r2
  obtain rfl : args = #[v0, v1, v2] := by cases args; simp_all
  obtain ⟨rfl, rfl⟩ := trodVars_none hV
  simp only [List.append_nil] at hW'
  have hlt : ∀ x ∈ p0 ++ (p1 ++ (p2 ++ ([]))), x.block < W.heap.size := fun x hx => hW'.lt x (by simpa using hx)
  have hlt0 : ∀ x ∈ p0, x.block < W.heap.size := fun x hx => hlt x (List.mem_append.2 (.inl hx))
  have hlt1 : ∀ x ∈ p1, x.block < W.heap.size := fun x hx => hlt x (List.mem_append.2 (.inr (List.mem_append.2 (.inl hx))))
  have hlt2 : ∀ x ∈ p2, x.block < W.heap.size := fun x hx => hlt x (List.mem_append.2 (.inr (List.mem_append.2 (.inr (List.mem_append.2 (.inl hx))))))
  have k0 := h0
  have k1 := h1
  have k2 := h2
  obtain ⟨a0, rfl, w0⟩ := open_vec (hval 0 23 v0 rfl rfl) h0
  obtain ⟨a1, rfl, w1⟩ := open_num (hval 1 3 v1 rfl rfl) h1
  obtain ⟨a2, rfl, w2⟩ := open_num (hval 2 3 v2 rfl rfl) h2
  clear hA0 hval0
  refine (walk a0 w0 a1 w1 a2 w2 W).mono fun e W' ⟨he, hg⟩ => ?_
  subst he
  exact ⟨_, rfl, _, _, _, [], _, [], hW', (trodAll_cons_mk (shut_bool Try.underlying4 _) trodAll_mk0), (trodAll_cons_mk (Below.trod laidOut (by kernel_rfl) (of_decide_eq_true (by kernel_rfl)) k0 hg hlt0) (trodAll_cons_mk (Below.trod laidOut (by kernel_rfl) (of_decide_eq_true (by kernel_rfl)) k1 hg hlt1) (trodAll_cons_mk (Below.trod laidOut (by kernel_rfl) (of_decide_eq_true (by kernel_rfl)) k2 hg hlt2) trodAll_mk0))), rfl, hg.frame _, fun h => by cases h⟩
theorem over : Rows.vecStandsRow.holds Try.pinned (OpenSpec.ofChange Rows.vecStandsSpec) :=
  OpenClaim.holds_of_wide 7 Try.f7 rfl rfl rfl rfl rfl rfl rfl ⟨rfl, rfl, rfl, rfl, rfl⟩ rfl rfl rfl rfl rfl (by kernel_rfl) Try.func7 (by kernel_rfl)
    (of_decide_eq_true (by kernel_rfl)) (by unfold Func.isWrapper; first | (rw [if_pos (by decide +kernel)]; kernel_rfl) | (rw [if_neg (by decide +kernel)]; exact ⟨rfl, rfl⟩))
    (fun os started H enc _ => lifted os started H enc)
theorem proved : Rows.VecStandsSaid := over
#print axioms proved
end Go.Proofs.Ytaiiilccamdnbaa.vecStands
