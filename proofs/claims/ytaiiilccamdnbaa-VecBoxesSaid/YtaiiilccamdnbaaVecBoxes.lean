/- For every two boxes and every way the law VecBoxes of layer 2 answers true: which boxes may be, overlap, and have a place, is told as the document says. Conditions: none: every input. -/
import Derived.Test.YtaiiilccamdnbaaRows
import Derived.Test.YtaiiilccamdnbaaO02
import Derived.Test.YtaiiilccamdnbaaP02
import Derived.Test.YtaiiilccamdnbaaS01
import Derived.WalkKit
import Derived.ProofKit
import Derived.OpenShut
import Derived.Below
import Derived.Carry
namespace Go.Proofs.Ytaiiilccamdnbaa.vecBoxes
open Go.Proofs.Ytaiiilccamdnbaa Go.ChangeShapes Go.WideShapes Go.ChangeAt Go.RowKit
set_option linter.unusedVariables false
attribute [local go_sem ↓] Go.wp_at_zero Go.wp_at_succ
set_option maxHeartbeats 4000000 in
theorem walk (a0 : V6) (w0 : a0.wf) (a1 : V6) (w1 : a1.wf) (a2 : V3) (w2 : a2.wf) (w : World) :
    Calls Try.prog 5 #[a0.val, a1.val, a2.val] w fun e w' => e = .returned (.bool true) ∧ Below w.heap.size w w' := by
  obtain ⟨⟨x, y, z⟩, ⟨x', y', z'⟩⟩ := a0
  obtain ⟨⟨p, q, r⟩, ⟨p', q', r'⟩⟩ := a1
  obtain ⟨u, v, t⟩ := a2
  have H1 := Lib.hid (v_may_yes (min (cut x) (cut x')) (min (cut y) (cut y')) (min (cut z) (cut z')) (max (cut x) (cut x')) (max (cut y) (cut y')) (max (cut z) (cut z'))
    (by have := cut_bd x; have := cut_bd y; have := cut_bd z; have := cut_bd x'; have := cut_bd y'; have := cut_bd z'
        refine ⟨cut_in ?_ ?_, cut_in ?_ ?_, cut_in ?_ ?_, cut_in ?_ ?_, cut_in ?_ ?_, cut_in ?_ ?_, ?_, ?_, ?_⟩ <;> omega))
  have H2 := Lib.hid (v_may_yes _ _ _ _ _ _
    (show cut (cut (cut (min (cut x) (cut x')) + cut u)) = cut (cut (min (cut x) (cut x')) + cut u) ∧ cut (cut (cut (min (cut y) (cut y')) + cut v)) = cut (cut (min (cut y) (cut y')) + cut v) ∧ cut (cut (cut (min (cut z) (cut z')) + cut t)) = cut (cut (min (cut z) (cut z')) + cut t) ∧
      cut (cut (cut (max (cut x) (cut x')) + cut u)) = cut (cut (max (cut x) (cut x')) + cut u) ∧ cut (cut (cut (max (cut y) (cut y')) + cut v)) = cut (cut (max (cut y) (cut y')) + cut v) ∧ cut (cut (cut (max (cut z) (cut z')) + cut t)) = cut (cut (max (cut z) (cut z')) + cut t) ∧ _
      from ⟨cut_cut _, cut_cut _, cut_cut _, cut_cut _, cut_cut _, cut_cut _,
        cut_mono (by have := cut_mono (show min (cut x) (cut x') ≤ max (cut x) (cut x') by omega); omega), cut_mono (by have := cut_mono (show min (cut y) (cut y') ≤ max (cut y) (cut y') by omega); omega), cut_mono (by have := cut_mono (show min (cut z) (cut z') ≤ max (cut z) (cut z') by omega); omega)⟩))
  go_enter Try.func5, Try.ntmps5
  go_wp2_with fail
  (refine (r2_good _ _ _ _ _ _ _).mono ?_; rintro e u1 ⟨rfl, hb1⟩)
  obtain ⟨_hcu1, _hfu1⟩ := bcell hb1
  have _zu10 : w.heap.size < u1.heap.size := size_lt (by first | (simp; done) | (simp; omega) | omega) hb1
  have _zu11 : w.heap.size + 1 < u1.heap.size := size_lt (by first | (simp; done) | (simp; omega) | omega) hb1
  have _zu12 : w.heap.size + 1 + 1 < u1.heap.size := size_lt (by first | (simp; done) | (simp; omega) | omega) hb1
  go_wp2_with fail
  (refine (r2_good _ _ _ _ _ _ _).mono ?_; rintro e u2 ⟨rfl, hb2⟩)
  obtain ⟨_hcu2, _hfu2⟩ := bcell hb2
  have _zu20 : w.heap.size < u2.heap.size := size_lt (by first | (simp; done) | (simp; omega) | omega) hb2
  have _zu21 : w.heap.size + 1 < u2.heap.size := size_lt (by first | (simp; done) | (simp; omega) | omega) hb2
  have _zu22 : w.heap.size + 1 + 1 < u2.heap.size := size_lt (by first | (simp; done) | (simp; omega) | omega) hb2
  have _zu23 : u1.heap.size < u2.heap.size := size_lt (by first | (simp; done) | (simp; omega) | omega) hb2
  go_wp2_with fail
  refine region_below 22 (by kernel_rfl) (by kernel_rfl) ?_
  simp only [List.take_succ_cons, List.take_zero, List.drop_succ_cons, List.drop_zero]
  repeat (first | (refine' InText.skip (by rfl) ?_; simp only [Act.put, List.setIfInBounds_toArray, List.set_cons_zero, List.set_cons_succ]) | (refine' InText.val (by rfl) (fun wr hr => ?_) ?_; rotate_left 1; (focus (obtain ⟨hrc, hrf⟩ := bcell hr; (go_simp <;> with_reducible rfl); done)); simp only [Act.put, List.setIfInBounds_toArray, List.set_cons_zero, List.set_cons_succ]) | (refine' InText.call (by rfl) (fun wr hr => ?_) (fun wr hr => ?_) ?_; rotate_left 3; (focus ((go_simp <;> (first | with_reducible rfl | exact ⟨rfl, rfl⟩)); done)); (focus (first | with_reducible exact v_may _ _ _ _ _ _ _ | with_reducible exact r2_may_as _ _ _ _ _ _ _ | with_reducible exact v_overlap _ _ _ _ _ _ _ _ _ _ _ _ _ | with_reducible exact r2_overlap _ _ _ _ _ _ _ _ _ _ _ _ _ | with_reducible exact v_has _ _ _ _ _ _ _ _ _ _ | with_reducible exact r2_has _ _ _ _ _ _ _ _ _ _)); simp only [Act.put, List.setIfInBounds_toArray, List.set_cons_zero, List.set_cons_succ]))
  refine fun wr hr => ?_
  obtain ⟨hrc, hrf⟩ := bcell hr
  obtain ⟨_hcwr, _hfwr⟩ := bcell hr
  have _zwr0 : w.heap.size < wr.heap.size := size_lt (by first | (simp; done) | (simp; omega) | omega) hr
  have _zwr1 : w.heap.size + 1 < wr.heap.size := size_lt (by first | (simp; done) | (simp; omega) | omega) hr
  have _zwr2 : w.heap.size + 1 + 1 < wr.heap.size := size_lt (by first | (simp; done) | (simp; omega) | omega) hr
  have _zwr3 : u1.heap.size < wr.heap.size := size_lt (by first | (simp; done) | (simp; omega) | omega) hr
  have _zwr4 : u2.heap.size < wr.heap.size := size_lt (by first | (simp; done) | (simp; omega) | omega) hr
  have kr : Below w.heap.size w wr := by (repeat (first | with_reducible assumption | with_reducible exact Below.refl _ _ | with_reducible refine Below.drew ?_ | with_reducible refine below_drewN ?_ _ | with_reducible refine al ?_ _ | (with_reducible refine sc ?_ ?_; (focus (first | omega | (simp; done) | (simp; omega)))) | (with_reducible refine chain ?_ (by assumption))))
  go_wp2_with fail
  (refine (v_move _ _ _ _ _ _ _ _ _ _).mono ?_; rintro e u3 ⟨rfl, hb3⟩)
  obtain ⟨_hcu3, _hfu3⟩ := bcell hb3
  have _zu30 : w.heap.size < u3.heap.size := size_lt (by first | (simp; done) | (simp; omega) | omega) hb3
  have _zu31 : w.heap.size + 1 < u3.heap.size := size_lt (by first | (simp; done) | (simp; omega) | omega) hb3
  have _zu32 : w.heap.size + 1 + 1 < u3.heap.size := size_lt (by first | (simp; done) | (simp; omega) | omega) hb3
  have _zu33 : u1.heap.size < u3.heap.size := size_lt (by first | (simp; done) | (simp; omega) | omega) hb3
  have _zu34 : u2.heap.size < u3.heap.size := size_lt (by first | (simp; done) | (simp; omega) | omega) hb3
  go_wp2_with fail
  refine region_below 34 (by kernel_rfl) (by kernel_rfl) ?_
  simp only [List.take_succ_cons, List.take_zero, List.drop_succ_cons, List.drop_zero]
  repeat (first | (refine' InText.skip (by rfl) ?_; simp only [Act.put, List.setIfInBounds_toArray, List.set_cons_zero, List.set_cons_succ]) | (refine' InText.val (by rfl) (fun wr hr => ?_) ?_; rotate_left 1; (focus (obtain ⟨hrc, hrf⟩ := bcell hr; (go_simp <;> with_reducible rfl); done)); simp only [Act.put, List.setIfInBounds_toArray, List.set_cons_zero, List.set_cons_succ]) | (refine' InText.call (by rfl) (fun wr hr => ?_) (fun wr hr => ?_) ?_; rotate_left 3; (focus ((go_simp <;> (first | with_reducible rfl | exact ⟨rfl, rfl⟩)); done)); (focus (first | with_reducible exact v_overlap_swap (min (cut x) (cut x')) (min (cut y) (cut y')) (min (cut z) (cut z')) (max (cut x) (cut x')) (max (cut y) (cut y')) (max (cut z) (cut z')) (min (cut p) (cut p')) (min (cut q) (cut q')) (min (cut r) (cut r')) (max (cut p) (cut p')) (max (cut q) (cut q')) (max (cut r) (cut r')) _ | with_reducible exact H1.out _ | with_reducible exact H2.out _ | with_reducible exact r2_move _ _ _ _ _ _ _ _ _ _ | with_reducible exact v_overlap _ _ _ _ _ _ _ _ _ _ _ _ _ | with_reducible exact r2_overlap _ _ _ _ _ _ _ _ _ _ _ _ _ | with_reducible exact l2_lives _)); simp only [Act.put, List.setIfInBounds_toArray, List.set_cons_zero, List.set_cons_succ]))
  refine fun wr hr => ?_
  obtain ⟨hrc, hrf⟩ := bcell hr
  go_wp2
  go_ret
  exact ⟨rfl, by (repeat (first | with_reducible assumption | with_reducible exact Below.refl _ _ | with_reducible refine Below.drew ?_ | with_reducible refine below_drewN ?_ _ | with_reducible refine al ?_ _ | (with_reducible refine sc ?_ ?_; (focus (first | omega | (simp; done) | (simp; omega)))) | (with_reducible refine chain ?_ (by assumption))))⟩
theorem own : ownKnob Try.prog.godebug = none := by kernel_rfl
set_option maxRecDepth 100000 in
theorem lifted (os : Os) (started : os.Started) (H : Type) (enc : TypeId × Value → H) :
    ReturnsInHanded {} Try.checked os 5 .any (Rows.vecBoxesSpec.pre6 enc Try.prog Try.f5 Rows.vecBoxesRow.domain false) (Rows.vecBoxesSpec.post enc Try.prog Try.f5 false true false false) := by
  refine returnsInHanded_of_change (C := Try.checked) own started (by kernel_rfl) Try.func5
    (ChangeSpec.witness6 (enc := enc) (C := Try.checked) false ⟨#[], #[.agg #[.int .i64 0, .int .i64 0, .int .i64 0, .int .i64 0, .int .i64 0, .int .i64 0], .agg #[.int .i64 0, .int .i64 0, .int .i64 0, .int .i64 0, .int .i64 0, .int .i64 0], .agg #[.int .i64 0, .int .i64 0, .int .i64 0]], []⟩ 8 (by kernel_rfl) (by kernel_rfl) (by kernel_rfl) (by kernel_rfl)) ?_
  intro W base args ds gs before hval0 hW hcnd _
  have hval : ∀ (j : Nat) t v, Try.f5.params[j]? = some t → args[j]? = some v → Value.okWide Try.prog W .any base t v := hval0
  have hW' := hW
  obtain ⟨p, q, hA0, hV, rfl, hfz, hnd⟩ := hW
  have hA : DataW.TrodAll enc Try.prog W 0 (fun _ => true) true Try.f5.params.toList args.toList ds p := hA0
  rw [Try.params5] at hA hval
  obtain ⟨v0, vs0, d0, ds0, p0, q0, hargs, rfl, rfl, h0, r0⟩ := trodAll_cons hA
  obtain ⟨v1, vs1, d1, ds1, p1, q1, rfl, rfl, rfl, h1, r1⟩ := trodAll_cons r0
  obtain ⟨v2, vs2, d2, ds2, p2, q2, rfl, rfl, rfl, h2, r2⟩ := trodAll_cons r1
  obtain ⟨rfl, rfl, rfl⟩ := trodAll_nil r2
  obtain rfl : args = #[v0, v1, v2] := by cases args; simp_all
  obtain ⟨rfl, rfl⟩ := trodVars_none hV
  simp only [List.append_nil] at hW'
  have hlt : ∀ x ∈ p0 ++ (p1 ++ (p2 ++ ([]))), x.block < W.heap.size := fun x hx => hW'.lt x (by simpa using hx)
  have hlt0 : ∀ x ∈ p0, x.block < W.heap.size := fun x hx => hlt x (List.mem_append.2 (.inl hx))
  have hlt1 : ∀ x ∈ p1, x.block < W.heap.size := fun x hx => hlt x (List.mem_append.2 (.inr (List.mem_append.2 (.inl hx))))
  have hlt2 : ∀ x ∈ p2, x.block < W.heap.size := fun x hx => hlt x (List.mem_append.2 (.inr (List.mem_append.2 (.inr (List.mem_append.2 (.inl hx))))))
  have k0 := h0
  have k1 := h1
  have k2 := h2
  obtain ⟨a0, rfl, w0⟩ := open_box (hval 0 35 v0 rfl rfl) h0
  obtain ⟨a1, rfl, w1⟩ := open_box (hval 1 35 v1 rfl rfl) h1
  obtain ⟨a2, rfl, w2⟩ := open_vec (hval 2 23 v2 rfl rfl) h2
  clear hA0 hval0
  refine (walk a0 w0 a1 w1 a2 w2 W).mono fun e W' ⟨he, hg⟩ => ?_
  subst he
  exact ⟨_, rfl, _, _, _, [], _, [], hW', (trodAll_cons_mk (shut_bool Try.underlying4 _) trodAll_mk0), (trodAll_cons_mk (Below.trod laidOut (by kernel_rfl) (of_decide_eq_true (by kernel_rfl)) k0 hg hlt0) (trodAll_cons_mk (Below.trod laidOut (by kernel_rfl) (of_decide_eq_true (by kernel_rfl)) k1 hg hlt1) (trodAll_cons_mk (Below.trod laidOut (by kernel_rfl) (of_decide_eq_true (by kernel_rfl)) k2 hg hlt2) trodAll_mk0))), rfl, hg.frame _, fun h => by cases h⟩
theorem over : Rows.vecBoxesRow.holds Try.pinned (OpenSpec.ofChange Rows.vecBoxesSpec) :=
  OpenClaim.holds_of_wide 5 Try.f5 rfl rfl rfl rfl rfl rfl rfl ⟨rfl, rfl, rfl, rfl, rfl⟩ rfl rfl rfl rfl rfl (by kernel_rfl) Try.func5 (by kernel_rfl)
    (of_decide_eq_true (by kernel_rfl)) (by unfold Func.isWrapper; first | (rw [if_pos (by decide +kernel)]; kernel_rfl) | (rw [if_neg (by decide +kernel)]; exact ⟨rfl, rfl⟩))
    (fun os started H enc _ => lifted os started H enc)
theorem proved : Rows.VecBoxesSaid := over
#print axioms proved
end Go.Proofs.Ytaiiilccamdnbaa.vecBoxes
