/- What the statements of layer 5 call: the reference's answers in terms of cells; the example. -/
import Derived.Test.YtafmekojdaeliaaDoorB50
set_option linter.unusedVariables false
set_option linter.unusedSimpArgs false
namespace Go.Proofs.YtafmekojdaeliaaDoor
open Go.ChangeShapes Go.WideShapes Go.ChangeAt Go.RowKit
theorem l5_good (v : Value) (l : List Run) (C : List Int) (hC : goodC l = C) (w : World) (hl : RunsAt w v l) (hb : ∀ j (h : j < l.length), i64 l[j].1 ∧ i64 l[j].2) : Calls Tryd.prog 9 #[v] w fun e w' =>
    ∃ p cap, e = .returned (.slice p (ofF C).length cap) ∧ RunsAt w' (.slice p (ofF C).length cap) (ofF C) ∧ Below w.heap.size w w' := by
  refine (r5_good v l w hl hb).mono ?_
  rintro e w' ⟨v', rfl, ho, hv⟩
  rw [hC] at ho
  obtain ⟨p, cap, rfl⟩ := own_form ho
  exact ⟨p, cap, rfl, runs_of_owned ho, hv⟩
theorem l5_cells (v : Value) (C : List Int) (hC : okC C) (N : Nat) (hN : C.length = N) (w : World) (hl : RunsAt w v (ofF C)) : Calls Tryd.prog 14 #[v] w fun e w' =>
    ∃ p cap, e = .returned (.slice p N cap) ∧ IntsAt w' (.slice p N cap) C ∧ Below w.heap.size w w' := by
  refine (r5_cells v _ w hl (len_of hC).1 (len_of hC).2).mono ?_
  rintro e w' ⟨v', rfl, ho, hv⟩
  rw [cells_of hC.1, hN] at ho
  obtain ⟨p, cap, rfl⟩ := own_form ho
  subst hN
  exact ⟨p, cap, rfl, ints_of_owned ho, hv⟩
theorem l5_same (v v' : Value) (a b : List Run) (h : a = b) (w : World) (ha : RunsAt w v a) (hb : RunsAt w v' b) (hL : a.length ≤ 100000000) : Calls Tryd.prog 16 #[v, v'] w fun e w' => e = .returned (.bool true) ∧ Below w.heap.size w w' := by
  have := r5_same v v' a b w ha hb hL
  rwa [decide_eq_true h] at this
