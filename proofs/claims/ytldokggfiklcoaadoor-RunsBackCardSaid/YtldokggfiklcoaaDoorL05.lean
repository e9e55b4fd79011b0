/- What the statements of layer 5 call: the reference's answers in terms of cells; the example. -/
import Derived.Test.YtldokggfiklcoaaDoorB50
set_option linter.unusedVariables false
set_option linter.unusedSimpArgs false
namespace Go.Proofs.YtldokggfiklcoaaDoor
open Go.ChangeShapes Go.WideShapes Go.ChangeAt Go.RowKit
theorem l5_good (v : Value) (l : List Run) (C : List Int) (hC : goodC l = C) (w : World) (hl : RunsAt w v l) (hb : ∀ j (h : j < l.length), i64 l[j].1 ∧ i64 l[j].2) : Calls Tryd.prog 10 #[v] w fun e w' =>
    ∃ p cap, e = .returned (.slice p (ofF C).length cap) ∧ RunsAt w' (.slice p (ofF C).length cap) (ofF C) ∧ Below w.heap.size w w' := by
  refine (r5_good v l w hl hb).mono ?_
  rintro e w' ⟨v', rfl, ho, hv⟩
  rw [hC] at ho
  obtain ⟨p, cap, rfl⟩ := own_form ho
  exact ⟨p, cap, rfl, runs_of_owned ho, hv⟩
theorem l5_blocks (v : Value) (l : List Int) (w : World) (hl : IntsAt w v l) (hb : ∀ j (h : j < l.length), i64 l[j]) : Calls Tryd.prog 16 #[v, .int .i64 300] w fun e w' =>
    ∃ v', e = .returned v' ∧ w'.ownsRow w.heap.size 3 1 v' ((l.take 300).map goodF).length (intVs ((l.take 300).map goodF)) ∧ Below w.heap.size w w' :=
  r5_blocks v l 300 w hl hb (by omega)
theorem l5_cells (v : Value) (C : List Int) (hC : okC C) (N : Nat) (hN : C.length = N) (w : World) (hl : RunsAt w v (ofF C)) : Calls Tryd.prog 11 #[v] w fun e w' =>
    ∃ p cap, e = .returned (.slice p N cap) ∧ IntsAt w' (.slice p N cap) C ∧ Below w.heap.size w w' := by
  refine (r5_cells v _ w hl (len_of hC).1 (len_of hC).2).mono ?_
  rintro e w' ⟨v', rfl, ho, hv⟩
  rw [cells_of hC.1, hN] at ho
  obtain ⟨p, cap, rfl⟩ := own_form ho
  subst hN
  exact ⟨p, cap, rfl, ints_of_owned ho, hv⟩
theorem l5_set (v : Value) (C : List Int) (hC : okC C) (i b : Int) (w : World) (hl : RunsAt w v (ofF C)) : Calls Tryd.prog 26 #[v, .int .i64 i, .int .i64 b] w fun e w' =>
    ∃ v', e = .returned v' ∧ RunsAt w' v' (ofF (setF C i b)) ∧ Below w.heap.size w w' := by
  refine (r5_set v _ i b w hl (len_of hC).1 (len_of hC).2).mono ?_
  rintro e w' ⟨v', rfl, ho, hv⟩
  rw [cells_of hC.1] at ho
  exact ⟨_, rfl, runs_of_owned ho, hv⟩
theorem l5_fill (v : Value) (C : List Int) (hC : okC C) (f t b : Int) (w : World) (hl : RunsAt w v (ofF C)) : Calls Tryd.prog 30 #[v, .int .i64 f, .int .i64 t, .int .i64 b] w fun e w' =>
    ∃ v', e = .returned v' ∧ RunsAt w' v' (ofF (fillF C f t b C.length)) ∧ Below w.heap.size w w' := by
  refine (r5_fill v _ f t b w hl (len_of hC).1 (len_of hC).2).mono ?_
  rintro e w' ⟨v', rfl, ho, hv⟩
  rw [cells_of hC.1] at ho
  exact ⟨_, rfl, runs_of_owned ho, hv⟩
theorem l5_at (v : Value) (C : List Int) (hC : okC C) (i : Int) (w : World) (hl : RunsAt w v (ofF C)) : Calls Tryd.prog 28 #[v, .int .i64 i] w fun e w' =>
    e = .returned (.int .i64 (atF C i)) ∧ Below w.heap.size w w' := by
  have h := r5_at v _ i w hl (len_of hC).1 (len_of hC).2
  rwa [cells_of hC.1] at h
theorem l5_same (v v' : Value) (a b : List Run) (h : a = b) (w : World) (ha : RunsAt w v a) (hb : RunsAt w v' b) (hL : a.length ≤ 100000000) : Calls Tryd.prog 18 #[v, v'] w fun e w' => e = .returned (.bool true) ∧ Below w.heap.size w w' := by
  have := r5_same v v' a b w ha hb hL
  rwa [decide_eq_true h] at this
theorem l5_samecells (v v' : Value) (a b : List Int) (h : a = b) (w : World) (ha : IntsAt w v a) (hb : IntsAt w v' b) (hL : a.length ≤ 100000000) : Calls Tryd.prog 20 #[v, v'] w fun e w' => e = .returned (.bool true) ∧ Below w.heap.size w w' := by
  have := r5_samecells v v' a b w ha hb hL
  rwa [decide_eq_true h] at this
set_option maxHeartbeats 1000000 in
theorem l5_lives (w : World) (hV : Vars w) : Calls Tryd.prog 15 #[] w fun e w' => e = .returned (.bool true) ∧ Below w.heap.size w w' := by
  have hC : okC [0, 0, 0, 0, 0] := by unfold okC; decide
  have hm : makeF 5 0 = ofF [0, 0, 0, 0, 0] := by decide
  have hs : ofF (setF [0, 0, 0, 0, 0] 2 3) = [(2, 0), (1, 3), (2, 0)] := by decide
  have HM := Lib.hid hm
  have HS := Lib.hid hs
  clear hm hs
  have kw : Below w.heap.size w w := Below.refl _ _
  go_enter Tryd.func15, Tryd.ntmps15
  go_wp2_with fail
  refine (b5_make 5 0 (by decide) (by decide) _).mono ?_
  rintro e W1 ⟨v1, rfl, h1, hv1⟩
  rw [HM.out] at h1
  replace kw := chain kw hv1
  clear hv1
  go_wp2_with fail
  refine (b5_set v1 _ hC 2 3 (by decide) (by decide) _ (hV.keep kw) h1).mono ?_
  rintro e W2 ⟨v2, rfl, h2, hv2⟩
  rw [HS.out] at h2
  replace kw := chain kw hv2
  clear hv2 h1
  go_wp2_with fail
  refine (l5_same v2 _ _ [(2, 0), (1, 3), (2, 0)] rfl _ (h2.keep (by (repeat (first | with_reducible assumption | with_reducible exact Below.refl _ _ | with_reducible refine Below.drew ?_ | with_reducible refine below_drewN ?_ _ | with_reducible refine al ?_ _ | (with_reducible refine sc ?_ ?_; (focus (first | omega | (simp; done) | (simp; omega)))) | (with_reducible refine chain ?_ (by assumption)))))) (.inr ⟨W2.heap.size, 0, 3, rfl, by simp, by simp, fun j hj => ?_⟩) (by simp)).mono ?_
  · have hj : j < 3 := hj
    match j, hj with
    | 0, _ | 1, _ | 2, _ => constructor <;> simp [go_sem]
  rintro e W3 ⟨rfl, hv3⟩
  go_wp2
  go_ret
  exact ⟨rfl, by (repeat (first | with_reducible assumption | with_reducible exact Below.refl _ _ | with_reducible refine Below.drew ?_ | with_reducible refine below_drewN ?_ _ | with_reducible refine al ?_ _ | (with_reducible refine sc ?_ ?_; (focus (first | omega | (simp; done) | (simp; omega)))) | (with_reducible refine chain ?_ (by assumption))))⟩
end Go.Proofs.YtldokggfiklcoaaDoor
