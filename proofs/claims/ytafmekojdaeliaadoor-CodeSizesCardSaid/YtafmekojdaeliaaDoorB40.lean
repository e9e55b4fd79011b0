/- Contracts of layer 4 (block). -/
import Derived.Test.YtafmekojdaeliaaDoorK04
import Derived.Test.YtafmekojdaeliaaDoorK05
import Derived.Test.YtafmekojdaeliaaDoorVRS
import Derived.Test.YtafmekojdaeliaaDoorR50
set_option linter.unusedVariables false
set_option linter.unusedSimpArgs false
namespace Go.Proofs.YtafmekojdaeliaaDoor
open Go.ChangeShapes Go.WideShapes Go.ChangeAt Go.RowKit
set_option maxHeartbeats 1000000 in
theorem b4_name (b : Int) (hb : i64 b) (w : World) (hV : Vars w) : Calls Tryd.prog 32 #[.int .i64 b] w fun e w' => e = .returned (.string (nameF b)) ∧ Below w.heap.size w w' := by
  by_cases h : 0 ≤ b ∧ b < 16
  · obtain ⟨k, rfl⟩ : ∃ k : Nat, b = k := ⟨b.toNat, by omega⟩
    obtain ⟨T, r⟩ := hV.names
    have h1 : w.cell? ⟨0, k, none⟩ = some (.string (nameF k)) := by rw [r.cell]; exact namesRow_at k (by omega)
    have h2 := h.2
    have h3 := h.1
    clear r hV h hb
    generalize nameF k = X at *
    go_enter Tryd.func32, Tryd.ntmps32
    go_wp2
    all_goals
      go_ret
      exact ⟨rfl, by (repeat (first | with_reducible assumption | with_reducible exact Below.refl _ _ | with_reducible refine Below.drew ?_ | with_reducible refine below_drewN ?_ _ | with_reducible refine al ?_ _ | (with_reducible refine sc ?_ ?_; (focus (first | omega | (simp; done) | (simp; omega)))) | (with_reducible refine chain ?_ (by assumption))))⟩
  · rw [name_none (by unfold mayB; simp; omega)]
    by_cases h1 : b < 0
    · go_enter Tryd.func32, Tryd.ntmps32
      go_wp2
      go_ret
      exact ⟨rfl, by (repeat (first | with_reducible assumption | with_reducible exact Below.refl _ _ | with_reducible refine Below.drew ?_ | with_reducible refine below_drewN ?_ _ | with_reducible refine al ?_ _ | (with_reducible refine sc ?_ ?_; (focus (first | omega | (simp; done) | (simp; omega)))) | (with_reducible refine chain ?_ (by assumption))))⟩
    · have h2 : ¬ b < 16 := by omega
      have h3 : 16 ≤ b := by omega
      go_enter Tryd.func32, Tryd.ntmps32
      go_wp2
      go_ret
      exact ⟨rfl, by (repeat (first | with_reducible assumption | with_reducible exact Below.refl _ _ | with_reducible refine Below.drew ?_ | with_reducible refine below_drewN ?_ _ | with_reducible refine al ?_ _ | (with_reducible refine sc ?_ ?_; (focus (first | omega | (simp; done) | (simp; omega)))) | (with_reducible refine chain ?_ (by assumption))))⟩
theorem b4_may (b : Int) (hb : i64 b) (w : World) (hV : Vars w) : Calls Tryd.prog 31 #[.int .i64 b] w fun e w' => e = .returned (.bool (mayB b)) ∧ Below w.heap.size w w' := by
  have h := fun u hu => b4_name b hb u hu
  have e0 : (!(nameF b).toList.isEmpty) = mayB b := by
    cases hm : mayB b
    · rw [name_none hm]; kernel_rfl
    · rcases may_cases hm with rfl | rfl | rfl | rfl | rfl | rfl | rfl | rfl | rfl | rfl | rfl | rfl | rfl | rfl
      all_goals kernel_rfl
  generalize nameF b = X at *
  generalize mayB b = m at *
  have H := Lib.hid h
  have E0 := Lib.hid e0
  clear h e0
  go_enter Tryd.func31, Tryd.ntmps31
  go_wp2_with fail
  (refine (H.out _ hV).mono ?_; rintro e w1 ⟨rfl, hb1⟩)
  go_wp2
  go_ret
  exact ⟨ret_bool E0.out, by (repeat (first | with_reducible assumption | with_reducible exact Below.refl _ _ | with_reducible refine Below.drew ?_ | with_reducible refine below_drewN ?_ _ | with_reducible refine al ?_ _ | (with_reducible refine sc ?_ ?_; (focus (first | omega | (simp; done) | (simp; omega)))) | (with_reducible refine chain ?_ (by assumption))))⟩
