/- What the statements of layer 7 call: the reference's answers; the example. -/
import Derived.Test.YtnpondgnmoedhaaB70
import Derived.Lib.SlBytesConst
set_option linter.unusedVariables false
set_option linter.unusedSimpArgs false
namespace Go.Proofs.Ytnpondgnmoedhaa
open Go.ChangeShapes Go.WideShapes Go.ChangeAt Go.RowKit
theorem l7_same (v v' : Value) (a b : List Int) (h : a = b) (w : World) (ha : BytsAt w v a) (hb : BytsAt w v' b) (ok : bytOk a) : Calls Try.prog 17 #[v, v'] w fun e w' => e = .returned (.bool true) ∧ Below w.heap.size w w' := by
  have := r6_same v v' a b w ha hb ok (h ▸ ok)
  rwa [decide_eq_true h] at this
theorem l7_put (v : Value) (l : List Int) (w : World) (hl : BytsAt w v l) (ok : bytOk l) (hL : l.length ≤ 1000) : Calls Try.prog 18 #[v] w fun e w' =>
    ∃ v', e = .returned v' ∧ BytsAt w' v' (sealF l) ∧ Below w.heap.size w w' :=
  (r7_put v l w hl ok (by omega)).mono fun e w' ⟨v', e1, ho, hv⟩ => ⟨v', e1, byts_of_owned ho, hv⟩
theorem takeF_ok {l : List Int} (h : bytOk l) : bytOk (takeF l) := by
  unfold takeF
  split
  · exact h.take _
  · simp [bytOk]
theorem l7_lives (w : World) (hV : Vars w) : Calls Try.prog 15 #[] w fun e w' => e = .returned (.bool true) ∧ Below w.heap.size w w' := by
  have hw : ((ofV [49, 50, 51, 52, 53, 54, 55, 56, 57]).toNat : Int) = 10673 := by decide +kernel
  have HW := Lib.hid hw
  clear hw
  have kc := fun (C : Array Value) (n c : Nat) => Lib.run_convert_bytes_const (P := Try.prog) w 22 5 C n c Try.underlying22 Try.underlying5
  go_enter Try.func15, Try.ntmps15
  go_wp2_with fail
  refine (b7_of _ [49, 50, 51, 52, 53, 54, 55, 56, 57] _ (hV.keep (by (repeat (first | with_reducible assumption | with_reducible exact Below.refl _ _ | with_reducible refine Below.drew ?_ | with_reducible refine below_drewN ?_ _ | with_reducible refine al ?_ _ | (with_reducible refine sc ?_ ?_; (focus (first | omega | (simp; done) | (simp; omega)))) | (with_reducible refine chain ?_ (by assumption)))))) (.inr ⟨w.heap.size, 0, 9, rfl, by simp, by simp, fun j hj => ?_⟩) (by unfold bytOk; decide) (by simp)).mono ?_
  · have hj : j < 9 := hj
    match j, hj with
    | 0, _ | 1, _ | 2, _ | 3, _ | 4, _ | 5, _ | 6, _ | 7, _ | 8, _ => rw [World.cell?_alloc_mark]; rfl
  rintro e w1 ⟨rfl, hb1⟩
  rw [HW.out]
  go_wp2
  go_ret
  exact ⟨rfl, by (repeat (first | with_reducible assumption | with_reducible exact Below.refl _ _ | with_reducible refine Below.drew ?_ | with_reducible refine below_drewN ?_ _ | with_reducible refine al ?_ _ | (with_reducible refine sc ?_ ?_; (focus (first | omega | (simp; done) | (simp; omega)))) | (with_reducible refine chain ?_ (by assumption))))⟩
end Go.Proofs.Ytnpondgnmoedhaa
