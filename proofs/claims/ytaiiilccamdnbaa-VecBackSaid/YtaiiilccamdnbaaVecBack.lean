/- For every two ways the law VecBack of layer 2 answers true: what is added and taken away again is as it was, within 2^45; half of it twice is it, but for one. Conditions: none: every input. -/
import Derived.Test.YtaiiilccamdnbaaRows
import Derived.Test.YtaiiilccamdnbaaO02
import Derived.Test.YtaiiilccamdnbaaP02
import Derived.Test.YtaiiilccamdnbaaS01
import Derived.WalkKit
import Derived.ProofKit
import Derived.OpenShut
import Derived.Below
import Derived.Carry
namespace Go.Proofs.Ytaiiilccamdnbaa.vecBack
open Go.Proofs.Ytaiiilccamdnbaa Go.ChangeShapes Go.WideShapes Go.ChangeAt Go.RowKit
set_option linter.unusedVariables false
attribute [local go_sem ↓] Go.wp_at_zero Go.wp_at_succ
set_option maxHeartbeats 4000000 in
theorem walk (a0 : V3) (w0 : a0.wf) (a1 : V3) (w1 : a1.wf) (w : World) :
    Calls Try.prog 9 #[a0.val, a1.val] w fun e w' => e = .returned (.bool true) ∧ Below w.heap.size w w' := by
  obtain ⟨x, y, z⟩ := a0
  obtain ⟨u, v, t⟩ := a1
  obtain ⟨wx, wy, wz⟩ := w0
  obtain ⟨wu, wv, wt⟩ := w1
  have bX := small_bd x; have bY := small_bd y; have bZ := small_bd z; have bU := small_bd u; have bV := small_bd v; have bT := small_bd t
  have s0 := fun k => r_small x y z wx wy wz k
  have s1 := fun k => r_small u v t wu wv wt k
  generalize smallF x = X at *
  generalize smallF y = Y at *
  generalize smallF z = Z at *
  generalize smallF u = U at *
  generalize smallF v = V at *
  generalize smallF t = T at *
  have half : ∀ a : Int, -35184372088832 ≤ a → a ≤ 35184372088832 → mulF a 32768 = a / 2 := by
    intro a h0 h1
    unfold mulF
    rw [show cut a = a from cut_in (by omega) (by omega), show cut 32768 = 32768 by decide +kernel, show cut (a * 32768 / 65536) = a * 32768 / 65536 from cut_in (by omega) (by omega)]; omega
  have cs := fun k => to_v (v_scale X Y Z 32768 k) (vec_eq (half X bX.1 bX.2) (half Y bY.1 bY.2) (half Z bZ.1 bZ.2))
  have tw := fun k => to_v (v_add (X / 2) (Y / 2) (Z / 2) (X / 2) (Y / 2) (Z / 2) k) (vec_eq (u := X / 2 + X / 2) (v := Y / 2 + Y / 2) (t := Z / 2 + Z / 2) (by unfold cut; omega) (by unfold cut; omega) (by unfold cut; omega))
  have df := fun k => to_v (v_sub X Y Z (X / 2 + X / 2) (Y / 2 + Y / 2) (Z / 2 + Z / 2) k) (vec_eq (u := X % 2) (v := Y % 2) (t := Z % 2) (by unfold cut; omega) (by unfold cut; omega) (by unfold cut; omega))
  have p1 := fun k => to_v (v_add X Y Z U V T k) (vec_eq (u := X + U) (v := Y + V) (t := Z + T) (by unfold cut; omega) (by unfold cut; omega) (by unfold cut; omega))
  have p2 := fun k => to_v (v_sub (X + U) (Y + V) (Z + T) U V T k) (vec_eq (u := X) (v := Y) (t := Z) (by unfold cut; omega) (by unfold cut; omega) (by unfold cut; omega))
  have p3 := fun k => to_v (v_sub X Y Z U V T k) (vec_eq (u := X - U) (v := Y - V) (t := Z - T) (by unfold cut; omega) (by unfold cut; omega) (by unfold cut; omega))
  have p4 := fun k => to_v (v_add (X - U) (Y - V) (Z - T) U V T k) (vec_eq (u := X) (v := Y) (t := Z) (by unfold cut; omega) (by unfold cut; omega) (by unfold cut; omega))
  obtain ⟨A, hA⟩ : ∃ A, X / 2 = A := ⟨_, rfl⟩
  obtain ⟨B, hB⟩ : ∃ B, Y / 2 = B := ⟨_, rfl⟩
  obtain ⟨C, hC⟩ : ∃ C, Z / 2 = C := ⟨_, rfl⟩
  obtain ⟨D, hD⟩ : ∃ D, X % 2 = D := ⟨_, rfl⟩
  obtain ⟨E, hE⟩ : ∃ E, Y % 2 = E := ⟨_, rfl⟩
  obtain ⟨F, hF⟩ : ∃ F, Z % 2 = F := ⟨_, rfl⟩
  have bD : 0 ≤ D ∧ D ≤ 1 := by omega
  have bE : 0 ≤ E ∧ E ≤ 1 := by omega
  have bF : 0 ≤ F ∧ F ≤ 1 := by omega
  obtain ⟨D0, D1⟩ := bD; obtain ⟨E0, E1⟩ := bE; obtain ⟨F0, F1⟩ := bF
  rw [hA, hB, hC] at cs tw df
  rw [hD, hE, hF] at df
  obtain ⟨M, hM⟩ : ∃ M, X + U = M := ⟨_, rfl⟩
  obtain ⟨N, hN⟩ : ∃ N, Y + V = N := ⟨_, rfl⟩
  obtain ⟨O, hO⟩ : ∃ O, Z + T = O := ⟨_, rfl⟩
  rw [hM, hN, hO] at p1 p2
  obtain ⟨M', hM'⟩ : ∃ M', X - U = M' := ⟨_, rfl⟩
  obtain ⟨N', hN'⟩ : ∃ N', Y - V = N' := ⟨_, rfl⟩
  obtain ⟨O', hO'⟩ : ∃ O', Z - T = O' := ⟨_, rfl⟩
  rw [hM', hN', hO'] at p3 p4
  obtain ⟨A2, hA2⟩ : ∃ A2, A + A = A2 := ⟨_, rfl⟩
  obtain ⟨B2, hB2⟩ : ∃ B2, B + B = B2 := ⟨_, rfl⟩
  obtain ⟨C2, hC2⟩ : ∃ C2, C + C = C2 := ⟨_, rfl⟩
  rw [hA2, hB2, hC2] at tw df
  have S0 := Lib.hid s0; have S1 := Lib.hid s1; have CS := Lib.hid cs; have TW := Lib.hid tw; have DF := Lib.hid df
  have P1 := Lib.hid p1; have P2 := Lib.hid p2; have P3 := Lib.hid p3; have P4 := Lib.hid p4
  clear s0 s1 cs tw df p1 p2 p3 p4 hA hB hC hD hE hF hM hN hO hM' hN' hO' hA2 hB2 hC2 half bX bY bZ bU bV bT wx wy wz wu wv wt
  go_enter Try.func9, Try.ntmps9
  go_wp2_with fail
  (refine (S0.out _).mono ?_; rintro e u1 ⟨rfl, hb1⟩)
  obtain ⟨_hcu1, _hfu1⟩ := bcell hb1
  have _zu10 : w.heap.size < u1.heap.size := size_lt (by first | (simp; done) | (simp; omega) | omega) hb1
  have _zu11 : w.heap.size + 1 < u1.heap.size := size_lt (by first | (simp; done) | (simp; omega) | omega) hb1
  go_wp2_with fail
  (refine (S1.out _).mono ?_; rintro e u2 ⟨rfl, hb2⟩)
  obtain ⟨_hcu2, _hfu2⟩ := bcell hb2
  have _zu20 : w.heap.size < u2.heap.size := size_lt (by first | (simp; done) | (simp; omega) | omega) hb2
  have _zu21 : w.heap.size + 1 < u2.heap.size := size_lt (by first | (simp; done) | (simp; omega) | omega) hb2
  have _zu22 : u1.heap.size < u2.heap.size := size_lt (by first | (simp; done) | (simp; omega) | omega) hb2
  go_wp2_with fail
  (refine (CS.out _).mono ?_; rintro e u3 ⟨rfl, hb3⟩)
  obtain ⟨_hcu3, _hfu3⟩ := bcell hb3
  have _zu30 : u1.heap.size < u3.heap.size := size_lt (by first | (simp; done) | (simp; omega) | omega) hb3
  have _zu31 : u2.heap.size < u3.heap.size := size_lt (by first | (simp; done) | (simp; omega) | omega) hb3
  go_wp2_with fail
  refine region_alloc 5 8 (.cells #[.int .i64 0, .int .i64 0, .int .i64 0] 23) _ _ (by kernel_rfl) (by kernel_rfl) rfl (fun _ _ => by go_simp) ?_
  simp only [List.take_succ_cons, List.take_zero]
  repeat (first | (refine' InText.skip (by rfl) ?_; simp only [Act.put, List.setIfInBounds_toArray, List.set_cons_zero, List.set_cons_succ]) | (refine' InText.val (by rfl) (fun wr hr => ?_) ?_; rotate_left 1; (focus (obtain ⟨hrc, hrf⟩ := bcell hr; (go_simp <;> with_reducible rfl); done)); simp only [Act.put, List.setIfInBounds_toArray, List.set_cons_zero, List.set_cons_succ]) | (refine' InText.call (by rfl) (fun wr hr => ?_) (fun wr hr => ?_) ?_; rotate_left 3; (focus ((go_simp <;> (first | with_reducible rfl | exact ⟨rfl, rfl⟩)); done)); (focus (first | with_reducible exact TW.out _ | with_reducible exact DF.out _)); simp only [Act.put, List.setIfInBounds_toArray, List.set_cons_zero, List.set_cons_succ]))
  refine fun wv wr hv hr => ?_
  simp only [Act.put, List.setIfInBounds_toArray, List.set_cons_zero, List.set_cons_succ]
  obtain ⟨_hcwv, _hfwv⟩ := bcell hv
  have _zwv0 : u1.heap.size < wv.heap.size := size_lt (by first | (simp; done) | (simp; omega) | omega) hv
  have _zwv1 : u2.heap.size < wv.heap.size := size_lt (by first | (simp; done) | (simp; omega) | omega) hv
  obtain ⟨_hcwr, _hfwr⟩ := bcell hr
  have _zwr0 : u1.heap.size < wr.heap.size := size_lt (by first | (simp; done) | (simp; omega) | omega) hr
  have _zwr1 : u2.heap.size < wr.heap.size := size_lt (by first | (simp; done) | (simp; omega) | omega) hr
  have _zwr2 : wv.heap.size < wr.heap.size := size_lt (by first | (simp; done) | (simp; omega) | omega) hr
  have kr : Below w.heap.size w wr := by (repeat (first | with_reducible assumption | with_reducible exact Below.refl _ _ | with_reducible refine Below.drew ?_ | with_reducible refine below_drewN ?_ _ | with_reducible refine al ?_ _ | (with_reducible refine sc ?_ ?_; (focus (first | omega | (simp; done) | (simp; omega)))) | (with_reducible refine chain ?_ (by assumption))))
  go_wp2_with fail
  refine region_below 49 (by kernel_rfl) (by kernel_rfl) ?_
  simp only [List.take_succ_cons, List.take_zero, List.drop_succ_cons, List.drop_zero]
  repeat (first | (refine' InText.skip (by rfl) ?_; simp only [Act.put, List.setIfInBounds_toArray, List.set_cons_zero, List.set_cons_succ]) | (refine' InText.val (by rfl) (fun wr hr => ?_) ?_; rotate_left 1; (focus (obtain ⟨hrc, hrf⟩ := bcell hr; (go_simp <;> with_reducible rfl); done)); simp only [Act.put, List.setIfInBounds_toArray, List.set_cons_zero, List.set_cons_succ]) | (refine' InText.call (by rfl) (fun wr hr => ?_) (fun wr hr => ?_) ?_; rotate_left 3; (focus ((go_simp <;> (first | with_reducible rfl | exact ⟨rfl, rfl⟩)); done)); (focus (first | with_reducible exact P1.out _ | with_reducible exact P2.out _ | with_reducible exact P3.out _ | with_reducible exact P4.out _ | with_reducible exact l2_lives _)); simp only [Act.put, List.setIfInBounds_toArray, List.set_cons_zero, List.set_cons_succ]))
  refine fun wr hr => ?_
  obtain ⟨hrc, hrf⟩ := bcell hr
  go_wp2
  go_ret
  exact ⟨rfl, by (repeat (first | with_reducible assumption | with_reducible exact Below.refl _ _ | with_reducible refine Below.drew ?_ | with_reducible refine below_drewN ?_ _ | with_reducible refine al ?_ _ | (with_reducible refine sc ?_ ?_; (focus (first | omega | (simp; done) | (simp; omega)))) | (with_reducible refine chain ?_ (by assumption))))⟩
theorem own : ownKnob Try.prog.godebug = none := by kernel_rfl
set_option maxRecDepth 100000 in
theorem lifted (os : Os) (started : os.Started) (H : Type) (enc : TypeId × Value → H) :
    ReturnsInHanded {} Try.checked os 9 .any (Rows.vecBackSpec.pre6 enc Try.prog Try.f9 Rows.vecBackRow.domain false) (Rows.vecBackSpec.post enc Try.prog Try.f9 false true false false) := by
  refine returnsInHanded_of_change (C := Try.checked) own started (by kernel_rfl) Try.func9
    (ChangeSpec.witness6 (enc := enc) (C := Try.checked) false ⟨#[], #[.agg #[.int .i64 0, .int .i64 0, .int .i64 0], .agg #[.int .i64 0, .int .i64 0, .int .i64 0]], []⟩ 8 (by kernel_rfl) (by kernel_rfl) (by kernel_rfl) (by kernel_rfl)) ?_
  intro W base args ds gs before hval0 hW hcnd _
  have hval : ∀ (j : Nat) t v, Try.f9.params[j]? = some t → args[j]? = some v → Value.okWide Try.prog W .any base t v := hval0
  have hW' := hW
  obtain ⟨p, q, hA0, hV, rfl, hfz, hnd⟩ := hW
  have hA : DataW.TrodAll enc Try.prog W 0 (fun _ => true) true Try.f9.params.toList args.toList ds p := hA0
  rw [Try.params9] at hA hval
  obtain ⟨v0, vs0, d0, ds0, p0, q0, hargs, rfl, rfl, h0, r0⟩ := trodAll_cons hA
  obtain ⟨v1, vs1, d1, ds1, p1, q1, rfl, rfl, rfl, h1, r1⟩ := trodAll_cons r0
  obtain ⟨rfl, rfl, rfl⟩ := trodAll_nil r1
  obtain rfl : args = #[v0, v1] := by cases args; simp_all
  obtain ⟨rfl, rfl⟩ := trodVars_none hV
  simp only [List.append_nil] at hW'
  have hlt : ∀ x ∈ p0 ++ (p1 ++ ([])), x.block < W.heap.size := fun x hx => hW'.lt x (by simpa using hx)
  have hlt0 : ∀ x ∈ p0, x.block < W.heap.size := fun x hx => hlt x (List.mem_append.2 (.inl hx))
  have hlt1 : ∀ x ∈ p1, x.block < W.heap.size := fun x hx => hlt x (List.mem_append.2 (.inr (List.mem_append.2 (.inl hx))))
  have k0 := h0
  have k1 := h1
  obtain ⟨a0, rfl, w0⟩ := open_vec (hval 0 23 v0 rfl rfl) h0
  obtain ⟨a1, rfl, w1⟩ := open_vec (hval 1 23 v1 rfl rfl) h1
  clear hA0 hval0
  refine (walk a0 w0 a1 w1 W).mono fun e W' ⟨he, hg⟩ => ?_
  subst he
  exact ⟨_, rfl, _, _, _, [], _, [], hW', (trodAll_cons_mk (shut_bool Try.underlying4 _) trodAll_mk0), (trodAll_cons_mk (Below.trod laidOut (by kernel_rfl) (of_decide_eq_true (by kernel_rfl)) k0 hg hlt0) (trodAll_cons_mk (Below.trod laidOut (by kernel_rfl) (of_decide_eq_true (by kernel_rfl)) k1 hg hlt1) trodAll_mk0)), rfl, hg.frame _, fun h => by cases h⟩
theorem over : Rows.vecBackRow.holds Try.pinned (OpenSpec.ofChange Rows.vecBackSpec) :=
  OpenClaim.holds_of_wide 9 Try.f9 rfl rfl rfl rfl rfl rfl rfl ⟨rfl, rfl, rfl, rfl, rfl⟩ rfl rfl rfl rfl rfl (by kernel_rfl) Try.func9 (by kernel_rfl)
    (of_decide_eq_true (by kernel_rfl)) (by unfold Func.isWrapper; first | (rw [if_pos (by decide +kernel)]; kernel_rfl) | (rw [if_neg (by decide +kernel)]; exact ⟨rfl, rfl⟩))
    (fun os started H enc _ => lifted os started H enc)
theorem proved : Rows.VecBackSaid := over
#print axioms proved
end Go.Proofs.Ytaiiilccamdnbaa.vecBack
