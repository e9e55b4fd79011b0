/- For every two boxes the law VecMeets of layer 2 answers true: two boxes that may be overlap just if there is a box in both that has a width along each axis, or one without a width lies within the other one there. Conditions: none: every input. -/
import Derived.Test.YtaiiilccamdnbaaRows
import Derived.Test.YtaiiilccamdnbaaO02
import Derived.Test.YtaiiilccamdnbaaP02
import Derived.Test.YtaiiilccamdnbaaS01
import Derived.WalkKit
import Derived.ProofKit
import Derived.OpenShut
import Derived.Below
import Derived.Carry
namespace Go.Proofs.Ytaiiilccamdnbaa.vecMeets
open Go.Proofs.Ytaiiilccamdnbaa Go.ChangeShapes Go.WideShapes Go.ChangeAt Go.RowKit
set_option linter.unusedVariables false
attribute [local go_sem ↓] Go.wp_at_zero Go.wp_at_succ
def axB (a a' e e' : Int) : Bool := decide (max a e < min a' e') || (((max a e == min a' e') && (!((a == a') == (e == e')))) && ((decide (a < max a e) && decide (max a e < a')) || (decide (e < max a e) && decide (max a e < e'))))
theorem axB_eq {a a' e e' : Int} (h : a ≤ a') (h' : e ≤ e') : axB a a' e e' = (decide (a < e') && decide (e < a')) := by
  unfold axB
  rw [Bool.eq_iff_iff]
  by_cases h1 : a = a' <;> by_cases h2 : e = e' <;> simp [h1, h2] <;> omega
def mB (f : Int → Bool) : Nat → Bool
  | 0 => true
  | k + 1 => mB f k && f k
set_option maxHeartbeats 8000000 in
theorem walk (a0 : V6) (w0 : a0.wf) (a1 : V6) (w1 : a1.wf) (w : World) :
    Calls Try.prog 8 #[a0.val, a1.val] w fun e w' => e = .returned (.bool true) ∧ Below w.heap.size w w' := by
  obtain ⟨⟨x, y, z⟩, ⟨x', y', z'⟩⟩ := a0
  obtain ⟨⟨p, q, r⟩, ⟨p', q', r'⟩⟩ := a1
  have g1 := fun k => r2_good x y z x' y' z' k
  have g2 := fun k => r2_good p q r p' q' r' k
  obtain ⟨A, hA⟩ : ∃ A, min (cut x) (cut x') = A := ⟨_, rfl⟩
  obtain ⟨B, hB⟩ : ∃ B, min (cut y) (cut y') = B := ⟨_, rfl⟩
  obtain ⟨C, hC⟩ : ∃ C, min (cut z) (cut z') = C := ⟨_, rfl⟩
  obtain ⟨A', hA'⟩ : ∃ A', max (cut x) (cut x') = A' := ⟨_, rfl⟩
  obtain ⟨B', hB'⟩ : ∃ B', max (cut y) (cut y') = B' := ⟨_, rfl⟩
  obtain ⟨C', hC'⟩ : ∃ C', max (cut z) (cut z') = C' := ⟨_, rfl⟩
  obtain ⟨E, hE⟩ : ∃ E, min (cut p) (cut p') = E := ⟨_, rfl⟩
  obtain ⟨F, hF⟩ : ∃ F, min (cut q) (cut q') = F := ⟨_, rfl⟩
  obtain ⟨G, hG⟩ : ∃ G, min (cut r) (cut r') = G := ⟨_, rfl⟩
  obtain ⟨E', hE'⟩ : ∃ E', max (cut p) (cut p') = E' := ⟨_, rfl⟩
  obtain ⟨F', hF'⟩ : ∃ F', max (cut q) (cut q') = F' := ⟨_, rfl⟩
  obtain ⟨G', hG'⟩ : ∃ G', max (cut r) (cut r') = G' := ⟨_, rfl⟩
  have l1 : A ≤ A' := by omega
  have l2 : B ≤ B' := by omega
  have l3 : C ≤ C' := by omega
  have l4 : E ≤ E' := by omega
  have l5 : F ≤ F' := by omega
  have l6 : G ≤ G' := by omega
  rw [hA, hB, hC, hA', hB', hC'] at g1
  rw [hE, hF, hG, hE', hF', hG'] at g2
  have G1 := Lib.hid g1
  have G2 := Lib.hid g2
  clear g1 g2 hA hB hC hA' hB' hC' hE hF hG hE' hF' hG'
  obtain ⟨f, hf⟩ : ∃ f : Int → Bool, (fun i => axB (axisF A B C i) (axisF A' B' C' i) (axisF E F G i) (axisF E' F' G' i)) = f := ⟨_, rfl⟩
  have hov : mB f 3 = ((decide (A < E') && decide (E < A')) && (decide (B < F') && decide (F < B')) && (decide (C < G') && decide (G < C'))) := by
    rw [← axB_eq l1 l4, ← axB_eq l2 l5, ← axB_eq l3 l6, ← hf]; rfl
  have HO := Lib.hid (fun k => to_v (v_overlap A B C A' B' C' E F G E' F' G' k) (congrArg Value.bool hov.symm))
  have HF := Lib.hid (fun i => (congrFun hf i).symm)
  clear hf hov l1 l2 l3 l4 l5 l6
  go_enter Try.func8, Try.ntmps8
  go_wp2_with fail
  (refine (G1.out _).mono ?_; rintro e u1 ⟨rfl, hb1⟩)
  obtain ⟨_hcu1, _hfu1⟩ := bcell hb1
  have _zu10 : w.heap.size < u1.heap.size := size_lt (by first | (simp; done) | (simp; omega) | omega) hb1
  have _zu11 : w.heap.size + 1 < u1.heap.size := size_lt (by first | (simp; done) | (simp; omega) | omega) hb1
  have k1 : Below w.heap.size w u1 := by (repeat (first | with_reducible assumption | with_reducible exact Below.refl _ _ | with_reducible refine Below.drew ?_ | with_reducible refine below_drewN ?_ _ | with_reducible refine al ?_ _ | (with_reducible refine sc ?_ ?_; (focus (first | omega | (simp; done) | (simp; omega)))) | (with_reducible refine chain ?_ (by assumption))))
  go_wp2_with fail
  (refine (G2.out _).mono ?_; rintro e u2 ⟨rfl, hb2⟩)
  obtain ⟨_hcu2, _hfu2⟩ := bcell hb2
  have _zu20 : w.heap.size < u2.heap.size := size_lt (by first | (simp; done) | (simp; omega) | omega) hb2
  have _zu21 : w.heap.size + 1 < u2.heap.size := size_lt (by first | (simp; done) | (simp; omega) | omega) hb2
  have _zu22 : u1.heap.size < u2.heap.size := size_lt (by first | (simp; done) | (simp; omega) | omega) hb2
  have k2 : Below w.heap.size w u2 := by (repeat (first | with_reducible assumption | with_reducible exact Below.refl _ _ | with_reducible refine Below.drew ?_ | with_reducible refine below_drewN ?_ _ | with_reducible refine al ?_ _ | (with_reducible refine sc ?_ ?_; (focus (first | omega | (simp; done) | (simp; omega)))) | (with_reducible refine chain ?_ (by assumption))))
  obtain ⟨b1, hb1'⟩ : ∃ b, u1.heap.size = b := ⟨_, rfl⟩
  obtain ⟨b2, hb2'⟩ : ∃ b, u2.heap.size = b := ⟨_, rfl⟩
  go_wp2_with fail
  go_loopw [7, 8] (fun m i wr => ∃ k : Nat, k ≤ 3 ∧ i = .int .i64 k ∧ m = .bool (mB f k) ∧ Below w.heap.size w wr ∧ At3 wr b1 0 A B C ∧ At3 wr b1 3 A' B' C' ∧ At3 wr b2 0 E F G ∧ At3 wr b2 3 E' F' G') (fun _ i _ => 3 - (intOf i).toNat)
  case atStart =>
    subst hb1' hb2'
    exact ⟨0, by omega, rfl, rfl, by (repeat (first | with_reducible assumption | with_reducible exact Below.refl _ _ | with_reducible refine Below.drew ?_ | with_reducible refine below_drewN ?_ _ | with_reducible refine al ?_ _ | (with_reducible refine sc ?_ ?_; (focus (first | omega | (simp; done) | (simp; omega)))) | (with_reducible refine chain ?_ (by assumption)))), ⟨by simp; omega, by simp [go_sem, *], by simp [go_sem, *], by simp [go_sem, *]⟩, ⟨by simp; omega, by simp [go_sem, *], by simp [go_sem, *], by simp [go_sem, *]⟩, ⟨by simp, by simp [go_sem, *], by simp [go_sem, *], by simp [go_sem, *]⟩, ⟨by simp, by simp [go_sem, *], by simp [go_sem, *], by simp [go_sem, *]⟩⟩
  case round =>
    obtain ⟨k, hk, rfl, rfl, kw, A1, A2, A3, A4⟩ := hrel
    obtain ⟨z1, c0, c1, c2⟩ := A1
    obtain ⟨_, c3, c4, c5⟩ := A2
    obtain ⟨z2, d0, d1, d2⟩ := A3
    obtain ⟨_, d3, d4, d5⟩ := A4
    by_cases hlt : k < 3
    · have hs : mB f (k + 1) = (mB f k && axB (axisF A B C k) (axisF A' B' C' k) (axisF E F G k) (axisF E' F' G' k)) := by rw [mB, HF.out k]
      unfold axB at hs
      have qa := fun j => r2_axis A B C k j
      have qb := fun j => r2_axis A' B' C' k j
      have qc := fun j => r2_axis E F G k j
      have qd := fun j => r2_axis E' F' G' k j
      have qi := fun j => r_inside A B C A' B' C' E F G E' F' G' k (max (axisF A B C k) (axisF E F G k)) j
      obtain ⟨a, ha⟩ : ∃ a, axisF A B C k = a := ⟨_, rfl⟩
      obtain ⟨a', ha'⟩ : ∃ a', axisF A' B' C' k = a' := ⟨_, rfl⟩
      obtain ⟨e, he⟩ : ∃ e, axisF E F G k = e := ⟨_, rfl⟩
      obtain ⟨e', he'⟩ : ∃ e', axisF E' F' G' k = e' := ⟨_, rfl⟩
      rw [ha, ha', he, he'] at hs qi
      rw [ha] at qa; rw [ha'] at qb; rw [he] at qc; rw [he'] at qd
      obtain ⟨L, hL⟩ : ∃ L, max a e = L := ⟨_, rfl⟩
      obtain ⟨U, hU⟩ : ∃ U, min a' e' = U := ⟨_, rfl⟩
      rw [hL] at hs qi; rw [hU] at hs
      obtain ⟨ib, hib⟩ : ∃ ib, ((decide (a < L) && decide (L < a')) || (decide (e < L) && decide (L < e'))) = ib := ⟨_, rfl⟩
      rw [hib] at hs qi
      obtain ⟨m, hm⟩ : ∃ m, mB f k = m := ⟨_, rfl⟩
      obtain ⟨m', hm'⟩ : ∃ m', mB f (k + 1) = m' := ⟨_, rfl⟩
      rw [hm, hm'] at hs
      obtain ⟨c, hc⟩ : ∃ c, (L == U) = c := ⟨_, rfl⟩
      obtain ⟨t, ht⟩ : ∃ t, (!((a == a') == (e == e'))) = t := ⟨_, rfl⟩
      obtain ⟨l, hl⟩ : ∃ l, decide (L < U) = l := ⟨_, rfl⟩
      rw [hc, ht, hl] at hs
      have HS := Lib.hid hs; have HM' := Lib.hid hm'
      have QA := Lib.hid qa; have QB := Lib.hid qb; have QC := Lib.hid qc; have QD := Lib.hid qd; have QI := Lib.hid qi
      clear hs hm' qa qb qc qd qi ha ha' he he' hib
      cases c
      · skip
        go_wp2_with fail
        refine region_below 9 (by kernel_rfl) (by kernel_rfl) ?_
        simp only [List.take_succ_cons, List.take_zero, List.drop_succ_cons, List.drop_zero]
        repeat (first | (refine' InText.skip (by rfl) ?_; simp only [Act.put, List.setIfInBounds_toArray, List.set_cons_zero, List.set_cons_succ]) | (refine' InText.val (by rfl) (fun wr hr => ?_) ?_; rotate_left 1; (focus (obtain ⟨hrc, hrf⟩ := bcell hr; (go_simp <;> with_reducible rfl); done)); simp only [Act.put, List.setIfInBounds_toArray, List.set_cons_zero, List.set_cons_succ]) | (refine' InText.call (by rfl) (fun wr hr => ?_) (fun wr hr => ?_) ?_; rotate_left 3; (focus ((go_simp <;> (first | with_reducible rfl | exact ⟨rfl, rfl⟩)); done)); (focus (first | with_reducible exact QA.out _ | with_reducible exact QC.out _)); simp only [Act.put, List.setIfInBounds_toArray, List.set_cons_zero, List.set_cons_succ]))
        refine fun wr1 hr1 => ?_
        obtain ⟨hrc1, hrf1⟩ := bcell hr1
        obtain ⟨_hcwr1, _hfwr1⟩ := bcell hr1
        have _zwr10 : b1 < wr1.heap.size := size_lt (by first | (simp; done) | (simp; omega) | omega) hr1
        have _zwr11 : b2 < wr1.heap.size := size_lt (by first | (simp; done) | (simp; omega) | omega) hr1
        go_wp2_with fail
        refine region_below 9 (by kernel_rfl) (by kernel_rfl) ?_
        simp only [List.take_succ_cons, List.take_zero, List.drop_succ_cons, List.drop_zero]
        repeat (first | (refine' InText.skip (by rfl) ?_; simp only [Act.put, List.setIfInBounds_toArray, List.set_cons_zero, List.set_cons_succ]) | (refine' InText.val (by rfl) (fun wr hr => ?_) ?_; rotate_left 1; (focus (obtain ⟨hrc, hrf⟩ := bcell hr; (go_simp <;> with_reducible rfl); done)); simp only [Act.put, List.setIfInBounds_toArray, List.set_cons_zero, List.set_cons_succ]) | (refine' InText.call (by rfl) (fun wr hr => ?_) (fun wr hr => ?_) ?_; rotate_left 3; (focus ((go_simp <;> (first | with_reducible rfl | exact ⟨rfl, rfl⟩)); done)); (focus (first | with_reducible exact QB.out _ | with_reducible exact QD.out _)); simp only [Act.put, List.setIfInBounds_toArray, List.set_cons_zero, List.set_cons_succ]))
        refine fun wr2 hr2 => ?_
        obtain ⟨hrc2, hrf2⟩ := bcell hr2
        obtain ⟨_hcwr2, _hfwr2⟩ := bcell hr2
        have _zwr20 : b1 < wr2.heap.size := size_lt (by first | (simp; done) | (simp; omega) | omega) hr2
        have _zwr21 : b2 < wr2.heap.size := size_lt (by first | (simp; done) | (simp; omega) | omega) hr2
        go_wp2_with fail
        refine region_below 24 (by kernel_rfl) (by kernel_rfl) ?_
        simp only [List.take_succ_cons, List.take_zero, List.drop_succ_cons, List.drop_zero]
        repeat (first | (refine' InText.skip (by rfl) ?_; simp only [Act.put, List.setIfInBounds_toArray, List.set_cons_zero, List.set_cons_succ]) | (refine' InText.val (by rfl) (fun wr hr => ?_) ?_; rotate_left 1; (focus (obtain ⟨hrc, hrf⟩ := bcell hr; (go_simp <;> with_reducible rfl); done)); simp only [Act.put, List.setIfInBounds_toArray, List.set_cons_zero, List.set_cons_succ]) | (refine' InText.call (by rfl) (fun wr hr => ?_) (fun wr hr => ?_) ?_; rotate_left 3; (focus ((go_simp <;> (first | with_reducible rfl | exact ⟨rfl, rfl⟩)); done)); (focus (first | with_reducible exact QA.out _ | with_reducible exact QB.out _ | with_reducible exact QC.out _ | with_reducible exact QD.out _)); simp only [Act.put, List.setIfInBounds_toArray, List.set_cons_zero, List.set_cons_succ]))
        refine fun wr3 hr3 => ?_
        obtain ⟨hrc3, hrf3⟩ := bcell hr3
        obtain ⟨_hcwr3, _hfwr3⟩ := bcell hr3
        have _zwr30 : b1 < wr3.heap.size := size_lt (by first | (simp; done) | (simp; omega) | omega) hr3
        have _zwr31 : b2 < wr3.heap.size := size_lt (by first | (simp; done) | (simp; omega) | omega) hr3
        have kq : Below w.heap.size w wr3 := by (repeat (first | with_reducible assumption | with_reducible exact Below.refl _ _ | with_reducible refine Below.drew ?_ | with_reducible refine below_drewN ?_ _ | with_reducible refine al ?_ _ | (with_reducible refine sc ?_ ?_; (focus (first | omega | (simp; done) | (simp; omega)))) | (with_reducible refine chain ?_ (by assumption))))
        go_upto_region 11 with (fail)
        cases m
        all_goals
          cases l
          all_goals
            go_wp2_with fail
            all_goals
              go_roundw
              case rel => exact ⟨k + 1, by omega, by go_num, by rw [HM'.out, HS.out] <;> rfl, by (repeat (first | with_reducible assumption | with_reducible exact Below.refl _ _ | with_reducible refine Below.drew ?_ | with_reducible refine below_drewN ?_ _ | with_reducible refine al ?_ _ | (with_reducible refine sc ?_ ?_; (focus (first | omega | (simp; done) | (simp; omega)))) | (with_reducible refine chain ?_ (by assumption)))), ⟨by assumption, by go_simp, by go_simp, by go_simp⟩, ⟨by assumption, by go_simp, by go_simp, by go_simp⟩, ⟨by assumption, by go_simp, by go_simp, by go_simp⟩, ⟨by assumption, by go_simp, by go_simp, by go_simp⟩⟩
              case measure => simp [intOf]; omega
      cases t
      · skip
        go_wp2_with fail
        refine region_below 9 (by kernel_rfl) (by kernel_rfl) ?_
        simp only [List.take_succ_cons, List.take_zero, List.drop_succ_cons, List.drop_zero]
        repeat (first | (refine' InText.skip (by rfl) ?_; simp only [Act.put, List.setIfInBounds_toArray, List.set_cons_zero, List.set_cons_succ]) | (refine' InText.val (by rfl) (fun wr hr => ?_) ?_; rotate_left 1; (focus (obtain ⟨hrc, hrf⟩ := bcell hr; (go_simp <;> with_reducible rfl); done)); simp only [Act.put, List.setIfInBounds_toArray, List.set_cons_zero, List.set_cons_succ]) | (refine' InText.call (by rfl) (fun wr hr => ?_) (fun wr hr => ?_) ?_; rotate_left 3; (focus ((go_simp <;> (first | with_reducible rfl | exact ⟨rfl, rfl⟩)); done)); (focus (first | with_reducible exact QA.out _ | with_reducible exact QC.out _)); simp only [Act.put, List.setIfInBounds_toArray, List.set_cons_zero, List.set_cons_succ]))
        refine fun wr1 hr1 => ?_
        obtain ⟨hrc1, hrf1⟩ := bcell hr1
        obtain ⟨_hcwr1, _hfwr1⟩ := bcell hr1
        have _zwr10 : b1 < wr1.heap.size := size_lt (by first | (simp; done) | (simp; omega) | omega) hr1
        have _zwr11 : b2 < wr1.heap.size := size_lt (by first | (simp; done) | (simp; omega) | omega) hr1
        go_wp2_with fail
        refine region_below 9 (by kernel_rfl) (by kernel_rfl) ?_
        simp only [List.take_succ_cons, List.take_zero, List.drop_succ_cons, List.drop_zero]
        repeat (first | (refine' InText.skip (by rfl) ?_; simp only [Act.put, List.setIfInBounds_toArray, List.set_cons_zero, List.set_cons_succ]) | (refine' InText.val (by rfl) (fun wr hr => ?_) ?_; rotate_left 1; (focus (obtain ⟨hrc, hrf⟩ := bcell hr; (go_simp <;> with_reducible rfl); done)); simp only [Act.put, List.setIfInBounds_toArray, List.set_cons_zero, List.set_cons_succ]) | (refine' InText.call (by rfl) (fun wr hr => ?_) (fun wr hr => ?_) ?_; rotate_left 3; (focus ((go_simp <;> (first | with_reducible rfl | exact ⟨rfl, rfl⟩)); done)); (focus (first | with_reducible exact QB.out _ | with_reducible exact QD.out _)); simp only [Act.put, List.setIfInBounds_toArray, List.set_cons_zero, List.set_cons_succ]))
        refine fun wr2 hr2 => ?_
        obtain ⟨hrc2, hrf2⟩ := bcell hr2
        obtain ⟨_hcwr2, _hfwr2⟩ := bcell hr2
        have _zwr20 : b1 < wr2.heap.size := size_lt (by first | (simp; done) | (simp; omega) | omega) hr2
        have _zwr21 : b2 < wr2.heap.size := size_lt (by first | (simp; done) | (simp; omega) | omega) hr2
        go_wp2_with fail
        refine region_below 24 (by kernel_rfl) (by kernel_rfl) ?_
        simp only [List.take_succ_cons, List.take_zero, List.drop_succ_cons, List.drop_zero]
        repeat (first | (refine' InText.skip (by rfl) ?_; simp only [Act.put, List.setIfInBounds_toArray, List.set_cons_zero, List.set_cons_succ]) | (refine' InText.val (by rfl) (fun wr hr => ?_) ?_; rotate_left 1; (focus (obtain ⟨hrc, hrf⟩ := bcell hr; (go_simp <;> with_reducible rfl); done)); simp only [Act.put, List.setIfInBounds_toArray, List.set_cons_zero, List.set_cons_succ]) | (refine' InText.call (by rfl) (fun wr hr => ?_) (fun wr hr => ?_) ?_; rotate_left 3; (focus ((go_simp <;> (first | with_reducible rfl | exact ⟨rfl, rfl⟩)); done)); (focus (first | with_reducible exact QA.out _ | with_reducible exact QB.out _ | with_reducible exact QC.out _ | with_reducible exact QD.out _)); simp only [Act.put, List.setIfInBounds_toArray, List.set_cons_zero, List.set_cons_succ]))
        refine fun wr3 hr3 => ?_
        obtain ⟨hrc3, hrf3⟩ := bcell hr3
        obtain ⟨_hcwr3, _hfwr3⟩ := bcell hr3
        have _zwr30 : b1 < wr3.heap.size := size_lt (by first | (simp; done) | (simp; omega) | omega) hr3
        have _zwr31 : b2 < wr3.heap.size := size_lt (by first | (simp; done) | (simp; omega) | omega) hr3
        have kq : Below w.heap.size w wr3 := by (repeat (first | with_reducible assumption | with_reducible exact Below.refl _ _ | with_reducible refine Below.drew ?_ | with_reducible refine below_drewN ?_ _ | with_reducible refine al ?_ _ | (with_reducible refine sc ?_ ?_; (focus (first | omega | (simp; done) | (simp; omega)))) | (with_reducible refine chain ?_ (by assumption))))
        go_upto_region 11 with (fail)
        cases m
        all_goals
          cases l
          all_goals
            go_wp2_with fail
            all_goals
              go_roundw
              case rel => exact ⟨k + 1, by omega, by go_num, by rw [HM'.out, HS.out] <;> rfl, by (repeat (first | with_reducible assumption | with_reducible exact Below.refl _ _ | with_reducible refine Below.drew ?_ | with_reducible refine below_drewN ?_ _ | with_reducible refine al ?_ _ | (with_reducible refine sc ?_ ?_; (focus (first | omega | (simp; done) | (simp; omega)))) | (with_reducible refine chain ?_ (by assumption)))), ⟨by assumption, by go_simp, by go_simp, by go_simp⟩, ⟨by assumption, by go_simp, by go_simp, by go_simp⟩, ⟨by assumption, by go_simp, by go_simp, by go_simp⟩, ⟨by assumption, by go_simp, by go_simp, by go_simp⟩⟩
              case measure => simp [intOf]; omega
      · skip
        go_wp2_with fail
        refine region_below 9 (by kernel_rfl) (by kernel_rfl) ?_
        simp only [List.take_succ_cons, List.take_zero, List.drop_succ_cons, List.drop_zero]
        repeat (first | (refine' InText.skip (by rfl) ?_; simp only [Act.put, List.setIfInBounds_toArray, List.set_cons_zero, List.set_cons_succ]) | (refine' InText.val (by rfl) (fun wr hr => ?_) ?_; rotate_left 1; (focus (obtain ⟨hrc, hrf⟩ := bcell hr; (go_simp <;> with_reducible rfl); done)); simp only [Act.put, List.setIfInBounds_toArray, List.set_cons_zero, List.set_cons_succ]) | (refine' InText.call (by rfl) (fun wr hr => ?_) (fun wr hr => ?_) ?_; rotate_left 3; (focus ((go_simp <;> (first | with_reducible rfl | exact ⟨rfl, rfl⟩)); done)); (focus (first | with_reducible exact QA.out _ | with_reducible exact QC.out _)); simp only [Act.put, List.setIfInBounds_toArray, List.set_cons_zero, List.set_cons_succ]))
        refine fun wr1 hr1 => ?_
        obtain ⟨hrc1, hrf1⟩ := bcell hr1
        obtain ⟨_hcwr1, _hfwr1⟩ := bcell hr1
        have _zwr10 : b1 < wr1.heap.size := size_lt (by first | (simp; done) | (simp; omega) | omega) hr1
        have _zwr11 : b2 < wr1.heap.size := size_lt (by first | (simp; done) | (simp; omega) | omega) hr1
        go_wp2_with fail
        refine region_below 9 (by kernel_rfl) (by kernel_rfl) ?_
        simp only [List.take_succ_cons, List.take_zero, List.drop_succ_cons, List.drop_zero]
        repeat (first | (refine' InText.skip (by rfl) ?_; simp only [Act.put, List.setIfInBounds_toArray, List.set_cons_zero, List.set_cons_succ]) | (refine' InText.val (by rfl) (fun wr hr => ?_) ?_; rotate_left 1; (focus (obtain ⟨hrc, hrf⟩ := bcell hr; (go_simp <;> with_reducible rfl); done)); simp only [Act.put, List.setIfInBounds_toArray, List.set_cons_zero, List.set_cons_succ]) | (refine' InText.call (by rfl) (fun wr hr => ?_) (fun wr hr => ?_) ?_; rotate_left 3; (focus ((go_simp <;> (first | with_reducible rfl | exact ⟨rfl, rfl⟩)); done)); (focus (first | with_reducible exact QB.out _ | with_reducible exact QD.out _)); simp only [Act.put, List.setIfInBounds_toArray, List.set_cons_zero, List.set_cons_succ]))
        refine fun wr2 hr2 => ?_
        obtain ⟨hrc2, hrf2⟩ := bcell hr2
        obtain ⟨_hcwr2, _hfwr2⟩ := bcell hr2
        have _zwr20 : b1 < wr2.heap.size := size_lt (by first | (simp; done) | (simp; omega) | omega) hr2
        have _zwr21 : b2 < wr2.heap.size := size_lt (by first | (simp; done) | (simp; omega) | omega) hr2
        go_wp2_with fail
        refine region_below 24 (by kernel_rfl) (by kernel_rfl) ?_
        simp only [List.take_succ_cons, List.take_zero, List.drop_succ_cons, List.drop_zero]
        repeat (first | (refine' InText.skip (by rfl) ?_; simp only [Act.put, List.setIfInBounds_toArray, List.set_cons_zero, List.set_cons_succ]) | (refine' InText.val (by rfl) (fun wr hr => ?_) ?_; rotate_left 1; (focus (obtain ⟨hrc, hrf⟩ := bcell hr; (go_simp <;> with_reducible rfl); done)); simp only [Act.put, List.setIfInBounds_toArray, List.set_cons_zero, List.set_cons_succ]) | (refine' InText.call (by rfl) (fun wr hr => ?_) (fun wr hr => ?_) ?_; rotate_left 3; (focus ((go_simp <;> (first | with_reducible rfl | exact ⟨rfl, rfl⟩)); done)); (focus (first | with_reducible exact QA.out _ | with_reducible exact QB.out _ | with_reducible exact QC.out _ | with_reducible exact QD.out _)); simp only [Act.put, List.setIfInBounds_toArray, List.set_cons_zero, List.set_cons_succ]))
        refine fun wr3 hr3 => ?_
        obtain ⟨hrc3, hrf3⟩ := bcell hr3
        obtain ⟨_hcwr3, _hfwr3⟩ := bcell hr3
        have _zwr30 : b1 < wr3.heap.size := size_lt (by first | (simp; done) | (simp; omega) | omega) hr3
        have _zwr31 : b2 < wr3.heap.size := size_lt (by first | (simp; done) | (simp; omega) | omega) hr3
        have kq : Below w.heap.size w wr3 := by (repeat (first | with_reducible assumption | with_reducible exact Below.refl _ _ | with_reducible refine Below.drew ?_ | with_reducible refine below_drewN ?_ _ | with_reducible refine al ?_ _ | (with_reducible refine sc ?_ ?_; (focus (first | omega | (simp; done) | (simp; omega)))) | (with_reducible refine chain ?_ (by assumption))))
        go_upto_region 11 with ((go_at_call 38; refine (QI.out _).mono ?_; rintro e w' ⟨rfl, hbi⟩; obtain ⟨hci, hfi⟩ := bcell hbi; have zi1 : b1 < w'.heap.size := size_lt (by assumption) hbi; have zi2 : b2 < w'.heap.size := size_lt (by assumption) hbi; have kq := chain kq hbi))
        cases m
        all_goals
          cases l
          all_goals
            go_wp2_with fail
            all_goals
              go_roundw
              case rel => exact ⟨k + 1, by omega, by go_num, by rw [HM'.out, HS.out] <;> rfl, by (repeat (first | with_reducible assumption | with_reducible exact Below.refl _ _ | with_reducible refine Below.drew ?_ | with_reducible refine below_drewN ?_ _ | with_reducible refine al ?_ _ | (with_reducible refine sc ?_ ?_; (focus (first | omega | (simp; done) | (simp; omega)))) | (with_reducible refine chain ?_ (by assumption)))), ⟨by assumption, by go_simp, by go_simp, by go_simp⟩, ⟨by assumption, by go_simp, by go_simp, by go_simp⟩, ⟨by assumption, by go_simp, by go_simp, by go_simp⟩, ⟨by assumption, by go_simp, by go_simp, by go_simp⟩⟩
              case measure => simp [intOf]; omega
    · obtain rfl : k = 3 := by omega
      go_wp2_with fail
      (refine (HO.out _).mono ?_; rintro e v1 ⟨rfl, hv1⟩)
      go_wp2_with fail
      (refine (l2_lives _).mono ?_; rintro e v2 ⟨rfl, hv2⟩)
      go_wp2
      go_ret
      exact ⟨rfl, by (repeat (first | with_reducible assumption | with_reducible exact Below.refl _ _ | with_reducible refine Below.drew ?_ | with_reducible refine below_drewN ?_ _ | with_reducible refine al ?_ _ | (with_reducible refine sc ?_ ?_; (focus (first | omega | (simp; done) | (simp; omega)))) | (with_reducible refine chain ?_ (by assumption))))⟩
theorem own : ownKnob Try.prog.godebug = none := by kernel_rfl
set_option maxRecDepth 100000 in
theorem lifted (os : Os) (started : os.Started) (H : Type) (enc : TypeId × Value → H) :
    ReturnsInHanded {} Try.checked os 8 .any (Rows.vecMeetsSpec.pre6 enc Try.prog Try.f8 Rows.vecMeetsRow.domain false) (Rows.vecMeetsSpec.post enc Try.prog Try.f8 false true false false) := by
  refine returnsInHanded_of_change (C := Try.checked) own started (by kernel_rfl) Try.func8
    (ChangeSpec.witness6 (enc := enc) (C := Try.checked) false ⟨#[], #[.agg #[.int .i64 0, .int .i64 0, .int .i64 0, .int .i64 0, .int .i64 0, .int .i64 0], .agg #[.int .i64 0, .int .i64 0, .int .i64 0, .int .i64 0, .int .i64 0, .int .i64 0]], []⟩ 8 (by kernel_rfl) (by kernel_rfl) (by kernel_rfl) (by kernel_rfl)) ?_
  intro W base args ds gs before hval0 hW hcnd _
  have hval : ∀ (j : Nat) t v, Try.f8.params[j]? = some t → args[j]? = some v → Value.okWide Try.prog W .any base t v := hval0
  have hW' := hW
  obtain ⟨p, q, hA0, hV, rfl, hfz, hnd⟩ := hW
  have hA : DataW.TrodAll enc Try.prog W 0 (fun _ => true) true Try.f8.params.toList args.toList ds p := hA0
  rw [Try.params8] at hA hval
  obtain ⟨v0, vs0, d0, ds0, p0, q0, hargs, rfl, rfl, h0, r0⟩ := trodAll_cons hA
  obtain ⟨v1, vs1, d1, ds1, p1, q1, rfl, rfl, rfl, h1, r1⟩ := trodAll_cons r0
  obtain ⟨rfl, rfl, rfl⟩ := trodAll_nil r1
  obtain rfl : args = #[v0, v1] := by cases args; simp_all
  obtain ⟨rfl, rfl⟩ := trodVars_none hV
  simp only [List.append_nil] at hW'
  have hlt : ∀ x ∈ p0 ++ (p1 ++ ([])), x.block < W.heap.size := fun x hx => hW'.lt x (by simpa using hx)
  have hlt0 : ∀ x ∈ p0, x.block < W.heap.size := fun x hx => hlt x (List.mem_append.2 (.inl hx))
  have hlt1 : ∀ x ∈ p1, x.block < W.heap.size := fun x hx => hlt x (List.mem_append.2 (.inr (List.mem_append.2 (.inl hx))))
  have k0 := h0
  have k1 := h1
  obtain ⟨a0, rfl, w0⟩ := open_box (hval 0 35 v0 rfl rfl) h0
  obtain ⟨a1, rfl, w1⟩ := open_box (hval 1 35 v1 rfl rfl) h1
  clear hA0 hval0
  refine (walk a0 w0 a1 w1 W).mono fun e W' ⟨he, hg⟩ => ?_
  subst he
  exact ⟨_, rfl, _, _, _, [], _, [], hW', (trodAll_cons_mk (shut_bool Try.underlying4 _) trodAll_mk0), (trodAll_cons_mk (Below.trod laidOut (by kernel_rfl) (of_decide_eq_true (by kernel_rfl)) k0 hg hlt0) (trodAll_cons_mk (Below.trod laidOut (by kernel_rfl) (of_decide_eq_true (by kernel_rfl)) k1 hg hlt1) trodAll_mk0)), rfl, hg.frame _, fun h => by cases h⟩
theorem over : Rows.vecMeetsRow.holds Try.pinned (OpenSpec.ofChange Rows.vecMeetsSpec) :=
  OpenClaim.holds_of_wide 8 Try.f8 rfl rfl rfl rfl rfl rfl rfl ⟨rfl, rfl, rfl, rfl, rfl⟩ rfl rfl rfl rfl rfl (by kernel_rfl) Try.func8 (by kernel_rfl)
    (of_decide_eq_true (by kernel_rfl)) (by unfold Func.isWrapper; first | (rw [if_pos (by decide +kernel)]; kernel_rfl) | (rw [if_neg (by decide +kernel)]; exact ⟨rfl, rfl⟩))
    (fun os started H enc _ => lifted os started H enc)
theorem proved : Rows.VecMeetsSaid := over
#print axioms proved
end Go.Proofs.Ytaiiilccamdnbaa.vecMeets
