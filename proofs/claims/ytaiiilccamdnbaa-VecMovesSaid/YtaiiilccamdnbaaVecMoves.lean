/- For every two boxes and every way the law VecMoves of layer 2 answers true: boxes that are moved alike overlap as they did. Conditions: none: every input. -/
import Derived.Test.YtaiiilccamdnbaaRows
import Derived.Test.YtaiiilccamdnbaaO02
import Derived.Test.YtaiiilccamdnbaaP02
import Derived.Test.YtaiiilccamdnbaaS01
import Derived.WalkKit
import Derived.ProofKit
import Derived.OpenShut
import Derived.Below
import Derived.Carry
namespace Go.Proofs.Ytaiiilccamdnbaa.vecMoves
open Go.Proofs.Ytaiiilccamdnbaa Go.ChangeShapes Go.WideShapes Go.ChangeAt Go.RowKit
set_option linter.unusedVariables false
attribute [local go_sem ↓] Go.wp_at_zero Go.wp_at_succ
set_option maxHeartbeats 4000000 in
theorem walk (a0 : V6) (w0 : a0.wf) (a1 : V6) (w1 : a1.wf) (a2 : V3) (w2 : a2.wf) (w : World) :
    Calls Try.prog 10 #[a0.val, a1.val, a2.val] w fun e w' => e = .returned (.bool true) ∧ Below w.heap.size w w' := by
  obtain ⟨⟨x, y, z⟩, ⟨x', y', z'⟩⟩ := a0
  obtain ⟨⟨p, q, r⟩, ⟨p', q', r'⟩⟩ := a1
  obtain ⟨u, v, t⟩ := a2
  obtain ⟨⟨kx, ky, kz⟩, ⟨kx', ky', kz'⟩⟩ := w0
  obtain ⟨⟨kp, kq, kr⟩, ⟨kp', kq', kr'⟩⟩ := w1
  obtain ⟨ku, kv, kt⟩ := w2
  have sbx := small_bd x
  have sby := small_bd y
  have sbz := small_bd z
  have sbx' := small_bd x'
  have sby' := small_bd y'
  have sbz' := small_bd z'
  have sbp := small_bd p
  have sbq := small_bd q
  have sbr := small_bd r
  have sbp' := small_bd p'
  have sbq' := small_bd q'
  have sbr' := small_bd r'
  have sbu := small_bd u
  have sbv := small_bd v
  have sbt := small_bd t
  have s0 := fun k => r_small x y z kx ky kz k
  have s1 := fun k => r_small x' y' z' kx' ky' kz' k
  have s2 := fun k => r_small p q r kp kq kr k
  have s3 := fun k => r_small p' q' r' kp' kq' kr' k
  have s4 := fun k => r_small u v t ku kv kt k
  generalize smallF x = Sx at *
  generalize smallF y = Sy at *
  generalize smallF z = Sz at *
  generalize smallF x' = Sx' at *
  generalize smallF y' = Sy' at *
  generalize smallF z' = Sz' at *
  generalize smallF p = Sp at *
  generalize smallF q = Sq at *
  generalize smallF r = Sr at *
  generalize smallF p' = Sp' at *
  generalize smallF q' = Sq' at *
  generalize smallF r' = Sr' at *
  generalize smallF u = Su at *
  generalize smallF v = Sv at *
  generalize smallF t = St at *
  have g1 := fun k => to_v (r2_good Sx Sy Sz Sx' Sy' Sz' k) (box_eq (u := min Sx Sx') (by unfold cut; omega) (v := min Sy Sy') (by unfold cut; omega) (t := min Sz Sz') (by unfold cut; omega) (u' := max Sx Sx') (by unfold cut; omega) (v' := max Sy Sy') (by unfold cut; omega) (t' := max Sz Sz') (by unfold cut; omega))
  have g2 := fun k => to_v (r2_good Sp Sq Sr Sp' Sq' Sr' k) (box_eq (u := min Sp Sp') (by unfold cut; omega) (v := min Sq Sq') (by unfold cut; omega) (t := min Sr Sr') (by unfold cut; omega) (u' := max Sp Sp') (by unfold cut; omega) (v' := max Sq Sq') (by unfold cut; omega) (t' := max Sr Sr') (by unfold cut; omega))
  obtain ⟨A, hA⟩ : ∃ A, min Sx Sx' = A := ⟨_, rfl⟩
  have bA : -35184372088832 ≤ A ∧ A ≤ 35184372088832 := by omega
  obtain ⟨B, hB⟩ : ∃ B, min Sy Sy' = B := ⟨_, rfl⟩
  have bB : -35184372088832 ≤ B ∧ B ≤ 35184372088832 := by omega
  obtain ⟨C, hC⟩ : ∃ C, min Sz Sz' = C := ⟨_, rfl⟩
  have bC : -35184372088832 ≤ C ∧ C ≤ 35184372088832 := by omega
  obtain ⟨A', hA'⟩ : ∃ A', max Sx Sx' = A' := ⟨_, rfl⟩
  have bA' : -35184372088832 ≤ A' ∧ A' ≤ 35184372088832 := by omega
  obtain ⟨B', hB'⟩ : ∃ B', max Sy Sy' = B' := ⟨_, rfl⟩
  have bB' : -35184372088832 ≤ B' ∧ B' ≤ 35184372088832 := by omega
  obtain ⟨C', hC'⟩ : ∃ C', max Sz Sz' = C' := ⟨_, rfl⟩
  have bC' : -35184372088832 ≤ C' ∧ C' ≤ 35184372088832 := by omega
  obtain ⟨E, hE⟩ : ∃ E, min Sp Sp' = E := ⟨_, rfl⟩
  have bE : -35184372088832 ≤ E ∧ E ≤ 35184372088832 := by omega
  obtain ⟨F, hF⟩ : ∃ F, min Sq Sq' = F := ⟨_, rfl⟩
  have bF : -35184372088832 ≤ F ∧ F ≤ 35184372088832 := by omega
  obtain ⟨G, hG⟩ : ∃ G, min Sr Sr' = G := ⟨_, rfl⟩
  have bG : -35184372088832 ≤ G ∧ G ≤ 35184372088832 := by omega
  obtain ⟨E', hE'⟩ : ∃ E', max Sp Sp' = E' := ⟨_, rfl⟩
  have bE' : -35184372088832 ≤ E' ∧ E' ≤ 35184372088832 := by omega
  obtain ⟨F', hF'⟩ : ∃ F', max Sq Sq' = F' := ⟨_, rfl⟩
  have bF' : -35184372088832 ≤ F' ∧ F' ≤ 35184372088832 := by omega
  obtain ⟨G', hG'⟩ : ∃ G', max Sr Sr' = G' := ⟨_, rfl⟩
  have bG' : -35184372088832 ≤ G' ∧ G' ≤ 35184372088832 := by omega
  rw [hA, hB, hC, hA', hB', hC'] at g1
  rw [hE, hF, hG, hE', hF', hG'] at g2
  have m1 := fun k => to_v (v_move A B C A' B' C' Su Sv St k) (box_eq (u := A + Su) (by unfold cut; omega) (v := B + Sv) (by unfold cut; omega) (t := C + St) (by unfold cut; omega) (u' := A' + Su) (by unfold cut; omega) (v' := B' + Sv) (by unfold cut; omega) (t' := C' + St) (by unfold cut; omega))
  have m2 := fun k => to_v (v_move E F G E' F' G' Su Sv St k) (box_eq (u := E + Su) (by unfold cut; omega) (v := F + Sv) (by unfold cut; omega) (t := G + St) (by unfold cut; omega) (u' := E' + Su) (by unfold cut; omega) (v' := F' + Sv) (by unfold cut; omega) (t' := G' + St) (by unfold cut; omega))
  have ad := fun k => to_v (v_add E F G Su Sv St k) (vec_eq (u := E + Su) (by unfold cut; omega) (v := F + Sv) (by unfold cut; omega) (t := G + St) (by unfold cut; omega))
  obtain ⟨M, hM⟩ : ∃ M, A + Su = M := ⟨_, rfl⟩
  obtain ⟨N, hN⟩ : ∃ N, B + Sv = N := ⟨_, rfl⟩
  obtain ⟨O, hO⟩ : ∃ O, C + St = O := ⟨_, rfl⟩
  obtain ⟨M', hM'⟩ : ∃ M', A' + Su = M' := ⟨_, rfl⟩
  obtain ⟨N', hN'⟩ : ∃ N', B' + Sv = N' := ⟨_, rfl⟩
  obtain ⟨O', hO'⟩ : ∃ O', C' + St = O' := ⟨_, rfl⟩
  obtain ⟨P, hP⟩ : ∃ P, E + Su = P := ⟨_, rfl⟩
  obtain ⟨Q, hQ⟩ : ∃ Q, F + Sv = Q := ⟨_, rfl⟩
  obtain ⟨R, hR⟩ : ∃ R, G + St = R := ⟨_, rfl⟩
  obtain ⟨P', hP'⟩ : ∃ P', E' + Su = P' := ⟨_, rfl⟩
  obtain ⟨Q', hQ'⟩ : ∃ Q', F' + Sv = Q' := ⟨_, rfl⟩
  obtain ⟨R', hR'⟩ : ∃ R', G' + St = R' := ⟨_, rfl⟩
  rw [hM, hN, hO, hM', hN', hO'] at m1
  rw [hP, hQ, hR, hP', hQ', hR'] at m2
  rw [hP, hQ, hR] at ad
  have o1 := fun k => v_overlap A B C A' B' C' E F G E' F' G' k
  have o2 := fun k => to_v (v_overlap M N O M' N' O' P Q R P' Q' R' k) (congrArg Value.bool (show ((decide (M < P') && decide (P < M')) && (decide (N < Q') && decide (Q < N')) && (decide (O < R') && decide (R < O'))) = ((decide (A < E') && decide (E < A')) && (decide (B < F') && decide (F < B')) && (decide (C < G') && decide (G < C'))) by rw [Bool.eq_iff_iff]; simp; omega))
  have t1 := fun k => v_has A B C A' B' C' E F G k
  have t2 := fun k => to_v (v_has M N O M' N' O' P Q R k) (congrArg Value.bool (show ((decide (M ≤ P) && decide (P < M')) && (decide (N ≤ Q) && decide (Q < N')) && (decide (O ≤ R) && decide (R < O'))) = ((decide (A ≤ E) && decide (E < A')) && (decide (B ≤ F) && decide (F < B')) && (decide (C ≤ G) && decide (G < C'))) by rw [Bool.eq_iff_iff]; simp; omega))
  generalize ((decide (A < E') && decide (E < A')) && (decide (B < F') && decide (F < B')) && (decide (C < G') && decide (G < C'))) = ov at o1 o2
  generalize ((decide (A ≤ E) && decide (E < A')) && (decide (B ≤ F) && decide (F < B')) && (decide (C ≤ G) && decide (G < C'))) = hs at t1 t2
  have S0 := Lib.hid s0
  have S1 := Lib.hid s1
  have S2 := Lib.hid s2
  have S3 := Lib.hid s3
  have S4 := Lib.hid s4
  have G1 := Lib.hid g1
  have G2 := Lib.hid g2
  have MV1 := Lib.hid m1
  have MV2 := Lib.hid m2
  have AD := Lib.hid ad
  have O1 := Lib.hid o1
  have O2 := Lib.hid o2
  have T1 := Lib.hid t1
  have T2 := Lib.hid t2
  clear s0 s1 s2 s3 s4 g1 g2 m1 m2 ad o1 o2 t1 t2 hA hB hC hA' hB' hC' hE hF hG hE' hF' hG' hM hN hO hM' hN' hO' hP hQ hR hP' hQ' hR' bA bB bC bA' bB' bC' bE bF bG bE' bF' bG' sbx sby sbz sbx' sby' sbz' sbp sbq sbr sbp' sbq' sbr' sbu sbv sbt kx ky kz kx' ky' kz' kp kq kr kp' kq' kr' ku kv kt
  go_enter Try.func10, Try.ntmps10
  go_wp2_with fail
  refine region_alloc 8 7 (.cells #[.int .i64 0, .int .i64 0, .int .i64 0, .int .i64 0, .int .i64 0, .int .i64 0] 35) _ _ (by kernel_rfl) (by kernel_rfl) rfl (fun _ _ => by go_simp) ?_
  simp only [List.take_succ_cons, List.take_zero]
  repeat (first | (refine' InText.skip (by rfl) ?_; simp only [Act.put, List.setIfInBounds_toArray, List.set_cons_zero, List.set_cons_succ]) | (refine' InText.val (by rfl) (fun wr hr => ?_) ?_; rotate_left 1; (focus (obtain ⟨hrc, hrf⟩ := bcell hr; (go_simp <;> with_reducible rfl); done)); simp only [Act.put, List.setIfInBounds_toArray, List.set_cons_zero, List.set_cons_succ]) | (refine' InText.call (by rfl) (fun wr hr => ?_) (fun wr hr => ?_) ?_; rotate_left 3; (focus ((go_simp <;> (first | with_reducible rfl | exact ⟨rfl, rfl⟩)); done)); (focus (first | with_reducible exact S0.out _ | with_reducible exact S1.out _ | with_reducible exact G1.out _)); simp only [Act.put, List.setIfInBounds_toArray, List.set_cons_zero, List.set_cons_succ]))
  refine fun wv wr hv hr => ?_
  simp only [Act.put, List.setIfInBounds_toArray, List.set_cons_zero, List.set_cons_succ]
  obtain ⟨_hcwv, _hfwv⟩ := bcell hv
  have _zwv0 : w.heap.size < wv.heap.size := size_lt (by first | (simp; done) | (simp; omega) | omega) hv
  have _zwv1 : w.heap.size + 1 < wv.heap.size := size_lt (by first | (simp; done) | (simp; omega) | omega) hv
  have _zwv2 : w.heap.size + 1 + 1 < wv.heap.size := size_lt (by first | (simp; done) | (simp; omega) | omega) hv
  obtain ⟨_hcwr, _hfwr⟩ := bcell hr
  have _zwr0 : w.heap.size < wr.heap.size := size_lt (by first | (simp; done) | (simp; omega) | omega) hr
  have _zwr1 : w.heap.size + 1 < wr.heap.size := size_lt (by first | (simp; done) | (simp; omega) | omega) hr
  have _zwr2 : w.heap.size + 1 + 1 < wr.heap.size := size_lt (by first | (simp; done) | (simp; omega) | omega) hr
  have _zwr3 : wv.heap.size < wr.heap.size := size_lt (by first | (simp; done) | (simp; omega) | omega) hr
  have k1 : Below w.heap.size w wr := by (repeat (first | with_reducible assumption | with_reducible exact Below.refl _ _ | with_reducible refine Below.drew ?_ | with_reducible refine below_drewN ?_ _ | with_reducible refine al ?_ _ | (with_reducible refine sc ?_ ?_; (focus (first | omega | (simp; done) | (simp; omega)))) | (with_reducible refine chain ?_ (by assumption))))
  go_wp2_with fail
  refine region_alloc 8 8 (.cells #[.int .i64 0, .int .i64 0, .int .i64 0, .int .i64 0, .int .i64 0, .int .i64 0] 35) _ _ (by kernel_rfl) (by kernel_rfl) rfl (fun _ _ => by go_simp) ?_
  simp only [List.take_succ_cons, List.take_zero]
  repeat (first | (refine' InText.skip (by rfl) ?_; simp only [Act.put, List.setIfInBounds_toArray, List.set_cons_zero, List.set_cons_succ]) | (refine' InText.val (by rfl) (fun wr hr => ?_) ?_; rotate_left 1; (focus (obtain ⟨hrc, hrf⟩ := bcell hr; (go_simp <;> with_reducible rfl); done)); simp only [Act.put, List.setIfInBounds_toArray, List.set_cons_zero, List.set_cons_succ]) | (refine' InText.call (by rfl) (fun wr hr => ?_) (fun wr hr => ?_) ?_; rotate_left 3; (focus ((go_simp <;> (first | with_reducible rfl | exact ⟨rfl, rfl⟩)); done)); (focus (first | with_reducible exact S2.out _ | with_reducible exact S3.out _ | with_reducible exact G2.out _)); simp only [Act.put, List.setIfInBounds_toArray, List.set_cons_zero, List.set_cons_succ]))
  refine fun wv2 wr2 hv2 hr2 => ?_
  simp only [Act.put, List.setIfInBounds_toArray, List.set_cons_zero, List.set_cons_succ]
  obtain ⟨_hcwv2, _hfwv2⟩ := bcell hv2
  have _zwv20 : w.heap.size < wv2.heap.size := size_lt (by first | (simp; done) | (simp; omega) | omega) hv2
  have _zwv21 : w.heap.size + 1 < wv2.heap.size := size_lt (by first | (simp; done) | (simp; omega) | omega) hv2
  have _zwv22 : w.heap.size + 1 + 1 < wv2.heap.size := size_lt (by first | (simp; done) | (simp; omega) | omega) hv2
  have _zwv23 : wv.heap.size < wv2.heap.size := size_lt (by first | (simp; done) | (simp; omega) | omega) hv2
  obtain ⟨_hcwr2, _hfwr2⟩ := bcell hr2
  have _zwr20 : w.heap.size < wr2.heap.size := size_lt (by first | (simp; done) | (simp; omega) | omega) hr2
  have _zwr21 : w.heap.size + 1 < wr2.heap.size := size_lt (by first | (simp; done) | (simp; omega) | omega) hr2
  have _zwr22 : w.heap.size + 1 + 1 < wr2.heap.size := size_lt (by first | (simp; done) | (simp; omega) | omega) hr2
  have _zwr23 : wv.heap.size < wr2.heap.size := size_lt (by first | (simp; done) | (simp; omega) | omega) hr2
  have _zwr24 : wv2.heap.size < wr2.heap.size := size_lt (by first | (simp; done) | (simp; omega) | omega) hr2
  have k2 : Below w.heap.size w wr2 := by (repeat (first | with_reducible assumption | with_reducible exact Below.refl _ _ | with_reducible refine Below.drew ?_ | with_reducible refine below_drewN ?_ _ | with_reducible refine al ?_ _ | (with_reducible refine sc ?_ ?_; (focus (first | omega | (simp; done) | (simp; omega)))) | (with_reducible refine chain ?_ (by assumption))))
  go_wp2_with fail
  (refine (S4.out _).mono ?_; rintro e u3 ⟨rfl, hb3⟩)
  obtain ⟨_hcu3, _hfu3⟩ := bcell hb3
  have _zu30 : w.heap.size < u3.heap.size := size_lt (by first | (simp; done) | (simp; omega) | omega) hb3
  have _zu31 : w.heap.size + 1 < u3.heap.size := size_lt (by first | (simp; done) | (simp; omega) | omega) hb3
  have _zu32 : w.heap.size + 1 + 1 < u3.heap.size := size_lt (by first | (simp; done) | (simp; omega) | omega) hb3
  have _zu33 : wv.heap.size < u3.heap.size := size_lt (by first | (simp; done) | (simp; omega) | omega) hb3
  have _zu34 : wv2.heap.size < u3.heap.size := size_lt (by first | (simp; done) | (simp; omega) | omega) hb3
  have k3 : Below w.heap.size w u3 := by (repeat (first | with_reducible assumption | with_reducible exact Below.refl _ _ | with_reducible refine Below.drew ?_ | with_reducible refine below_drewN ?_ _ | with_reducible refine al ?_ _ | (with_reducible refine sc ?_ ?_; (focus (first | omega | (simp; done) | (simp; omega)))) | (with_reducible refine chain ?_ (by assumption))))
  go_wp2_with fail
  refine region_below 29 (by kernel_rfl) (by kernel_rfl) ?_
  simp only [List.take_succ_cons, List.take_zero, List.drop_succ_cons, List.drop_zero]
  repeat (first | (refine' InText.skip (by rfl) ?_; simp only [Act.put, List.setIfInBounds_toArray, List.set_cons_zero, List.set_cons_succ]) | (refine' InText.val (by rfl) (fun wr hr => ?_) ?_; rotate_left 1; (focus (obtain ⟨hrc, hrf⟩ := bcell hr; (go_simp <;> with_reducible rfl); done)); simp only [Act.put, List.setIfInBounds_toArray, List.set_cons_zero, List.set_cons_succ]) | (refine' InText.call (by rfl) (fun wr hr => ?_) (fun wr hr => ?_) ?_; rotate_left 3; (focus ((go_simp <;> (first | with_reducible rfl | exact ⟨rfl, rfl⟩)); done)); (focus (first | with_reducible exact MV1.out _ | with_reducible exact MV2.out _ | with_reducible exact O1.out _ | with_reducible exact O2.out _ | with_reducible exact AD.out _ | with_reducible exact T1.out _ | with_reducible exact T2.out _ | with_reducible exact l2_lives _)); simp only [Act.put, List.setIfInBounds_toArray, List.set_cons_zero, List.set_cons_succ]))
  refine fun wr hr => ?_
  obtain ⟨hrc, hrf⟩ := bcell hr
  go_wp2
  go_ret
  exact ⟨rfl, by (repeat (first | with_reducible assumption | with_reducible exact Below.refl _ _ | with_reducible refine Below.drew ?_ | with_reducible refine below_drewN ?_ _ | with_reducible refine al ?_ _ | (with_reducible refine sc ?_ ?_; (focus (first | omega | (simp; done) | (simp; omega)))) | (with_reducible refine chain ?_ (by assumption))))⟩
theorem own : ownKnob Try.prog.godebug = none := by kernel_rfl
set_option maxRecDepth 100000 in
theorem lifted (os : Os) (started : os.Started) (H : Type) (enc : TypeId × Value → H) :
    ReturnsInHanded {} Try.checked os 10 .any (Rows.vecMovesSpec.pre6 enc Try.prog Try.f10 Rows.vecMovesRow.domain false) (Rows.vecMovesSpec.post enc Try.prog Try.f10 false true false false) := by
  refine returnsInHanded_of_change (C := Try.checked) own started (by kernel_rfl) Try.func10
    (ChangeSpec.witness6 (enc := enc) (C := Try.checked) false ⟨#[], #[.agg #[.int .i64 0, .int .i64 0, .int .i64 0, .int .i64 0, .int .i64 0, .int .i64 0], .agg #[.int .i64 0, .int .i64 0, .int .i64 0, .int .i64 0, .int .i64 0, .int .i64 0], .agg #[.int .i64 0, .int .i64 0, .int .i64 0]], []⟩ 8 (by kernel_rfl) (by kernel_rfl) (by kernel_rfl) (by kernel_rfl)) ?_
  intro W base args ds gs before hval0 hW hcnd _
  have hval : ∀ (j : Nat) t v, Try.f10.params[j]? = some t → args[j]? = some v → Value.okWide Try.prog W .any base t v := hval0
  have hW' := hW
  obtain ⟨p, q, hA0, hV, rfl, hfz, hnd⟩ := hW
  have hA : DataW.TrodAll enc Try.prog W 0 (fun _ => true) true Try.f10.params.toList args.toList ds p := hA0
  rw [Try.params10] at hA hval
  obtain ⟨v0, vs0, d0, ds0, p0, q0, hargs, rfl, rfl, h0, r0⟩ := trodAll_cons hA
  obtain ⟨v1, vs1, d1, ds1, p1, q1, rfl, rfl, rfl, h1, r1⟩ := trodAll_cons r0
  obtain ⟨v2, vs2, d2, ds2, p2, q2, rfl, rfl, rfl, h2, r2⟩ := trodAll_cons r1
  obtain ⟨rfl, rfl, rfl⟩ := trodAll_nil r2
  obtain rfl : args = #[v0, v1, v2] := by cases args; simp_all
  obtain ⟨rfl, rfl⟩ := trodVars_none hV
  simp only [List.append_nil] at hW'
  have hlt : ∀ x ∈ p0 ++ (p1 ++ (p2 ++ ([]))), x.block < W.heap.size := fun x hx => hW'.lt x (by simpa using hx)
  have hlt0 : ∀ x ∈ p0, x.block < W.heap.size := fun x hx => hlt x (List.mem_append.2 (.inl hx))
  have hlt1 : ∀ x ∈ p1, x.block < W.heap.size := fun x hx => hlt x (List.mem_append.2 (.inr (List.mem_append.2 (.inl hx))))
  have hlt2 : ∀ x ∈ p2, x.block < W.heap.size := fun x hx => hlt x (List.mem_append.2 (.inr (List.mem_append.2 (.inr (List.mem_append.2 (.inl hx))))))
  have k0 := h0
  have k1 := h1
  have k2 := h2
  obtain ⟨a0, rfl, w0⟩ := open_box (hval 0 35 v0 rfl rfl) h0
  obtain ⟨a1, rfl, w1⟩ := open_box (hval 1 35 v1 rfl rfl) h1
  obtain ⟨a2, rfl, w2⟩ := open_vec (hval 2 23 v2 rfl rfl) h2
  clear hA0 hval0
  refine (walk a0 w0 a1 w1 a2 w2 W).mono fun e W' ⟨he, hg⟩ => ?_
  subst he
  exact ⟨_, rfl, _, _, _, [], _, [], hW', (trodAll_cons_mk (shut_bool Try.underlying4 _) trodAll_mk0), (trodAll_cons_mk (Below.trod laidOut (by kernel_rfl) (of_decide_eq_true (by kernel_rfl)) k0 hg hlt0) (trodAll_cons_mk (Below.trod laidOut (by kernel_rfl) (of_decide_eq_true (by kernel_rfl)) k1 hg hlt1) (trodAll_cons_mk (Below.trod laidOut (by kernel_rfl) (of_decide_eq_true (by kernel_rfl)) k2 hg hlt2) trodAll_mk0))), rfl, hg.frame _, fun h => by cases h⟩
theorem over : Rows.vecMovesRow.holds Try.pinned (OpenSpec.ofChange Rows.vecMovesSpec) :=
  OpenClaim.holds_of_wide 10 Try.f10 rfl rfl rfl rfl rfl rfl rfl ⟨rfl, rfl, rfl, rfl, rfl⟩ rfl rfl rfl rfl rfl (by kernel_rfl) Try.func10 (by kernel_rfl)
    (of_decide_eq_true (by kernel_rfl)) (by unfold Func.isWrapper; first | (rw [if_pos (by decide +kernel)]; kernel_rfl) | (rw [if_neg (by decide +kernel)]; exact ⟨rfl, rfl⟩))
    (fun os started H enc _ => lifted os started H enc)
theorem proved : Rows.VecMovesSaid := over
#print axioms proved
end Go.Proofs.Ytaiiilccamdnbaa.vecMoves
