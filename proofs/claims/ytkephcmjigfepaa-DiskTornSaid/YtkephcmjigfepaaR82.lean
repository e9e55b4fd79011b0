/- Contracts of layer 8's reference (disk): asked, Fail, New. -/
import Derived.Test.YtkephcmjigfepaaR81
set_option linter.unusedVariables false
set_option linter.unusedSimpArgs false
namespace Go.Proofs.Ytkephcmjigfepaa
open Go.ChangeShapes Go.WideShapes Go.ChangeAt Go.RowKit
abbrev dV (room fails wait : Int) (s l : Value) : Value := .agg #[.int .i64 room, .int .i64 fails, .int .i64 wait, s, l]
/-- How often it fails, whether it waits with that; does it fail now? -/
def askF (fails wait : Int) : (Int × Int) × Bool := if 0 < wait then ((fails, 0), false) else if 0 < fails then ((fails - 1, wait), true) else ((fails, wait), false)
set_option maxHeartbeats 4000000 in
theorem r8_asked (room fails wait : Int) (p q : Option Addr) (n c m d : Nat) (w : World) (hf : i64 fails) : Calls Try.prog 36 #[dV room fails wait (.slice p n c) (.slice q m d)] w fun e w' =>
    e = .returned (.tuple #[dV room (askF fails wait).1.1 (askF fails wait).1.2 (.slice p n c) (.slice q m d), .bool (askF fails wait).2]) ∧ Below w.heap.size w w' := by
  unfold askF
  by_cases h1 : 0 < wait
  · rw [if_pos h1]
    go_enter Try.func36, Try.ntmps36
    go_wp2_with fail
    exact bodyPost_ret (v := .tuple #[dV room fails 0 (.slice p n c) (.slice q m d), .bool false]) (by simp [results, Try.results36, go_sem]) rfl ⟨rfl, by (repeat (first | with_reducible assumption | with_reducible exact Below.refl _ _ | with_reducible refine Below.drew ?_ | with_reducible refine below_drewN ?_ _ | with_reducible refine al ?_ _ | (with_reducible refine sc ?_ ?_; (focus (first | omega | (simp; done) | (simp; omega)))) | (with_reducible refine chain ?_ (by assumption))))⟩
  · rw [if_neg h1]
    by_cases h2 : 0 < fails
    · rw [if_pos h2]
      have hw : IntKind.i64.wrap (fails - 1) = fails - 1 := IntWalk.i64_in _ (by omega)
      go_enter Try.func36, Try.ntmps36
      go_wp2_with fail
      exact bodyPost_ret (v := .tuple #[dV room (fails - 1) wait (.slice p n c) (.slice q m d), .bool true]) (by simp [results, Try.results36, go_sem]) rfl ⟨rfl, by (repeat (first | with_reducible assumption | with_reducible exact Below.refl _ _ | with_reducible refine Below.drew ?_ | with_reducible refine below_drewN ?_ _ | with_reducible refine al ?_ _ | (with_reducible refine sc ?_ ?_; (focus (first | omega | (simp; done) | (simp; omega)))) | (with_reducible refine chain ?_ (by assumption))))⟩
    · rw [if_neg h2]
      go_enter Try.func36, Try.ntmps36
      go_wp2_with fail
      exact bodyPost_ret (v := .tuple #[dV room fails wait (.slice p n c) (.slice q m d), .bool false]) (by simp [results, Try.results36, go_sem]) rfl ⟨rfl, by (repeat (first | with_reducible assumption | with_reducible exact Below.refl _ _ | with_reducible refine Below.drew ?_ | with_reducible refine below_drewN ?_ _ | with_reducible refine al ?_ _ | (with_reducible refine sc ?_ ?_; (focus (first | omega | (simp; done) | (simp; omega)))) | (with_reducible refine chain ?_ (by assumption))))⟩
/-- How often it fails then, and whether it waits with that. -/
def failF (n : Int) : Int × Int := if n < 0 then ((if -(n + 1) < 1048575 then -(n + 1) else 1048575) + 1, 1) else (n, 0)
set_option maxHeartbeats 4000000 in
theorem r8_fail (room fails wait k : Int) (p q : Option Addr) (n c m d : Nat) (w : World) (hk : i64 k) : Calls Try.prog 27 #[dV room fails wait (.slice p n c) (.slice q m d), .int .i64 k] w fun e w' =>
    e = .returned (dV room (failF k).1 (failF k).2 (.slice p n c) (.slice q m d)) ∧ Below w.heap.size w w' := by
  unfold failF
  by_cases h1 : k < 0
  · rw [if_pos h1]
    have w1 : IntKind.i64.wrap (k + 1) = k + 1 := IntWalk.i64_in _ (by omega)
    have w2 : IntKind.i64.wrap (-(k + 1)) = -(k + 1) := IntWalk.i64_in _ (by omega)
    have m0 : max k 0 = 0 := by omega
    by_cases h2 : -(k + 1) < 1048575
    · rw [if_pos h2]
      have w3 : IntKind.i64.wrap (-(k + 1) + 1) = -(k + 1) + 1 := IntWalk.i64_in _ (by omega)
      have m1 : min (-(k + 1)) 1048575 = -(k + 1) := by omega
      go_enter Try.func27, Try.ntmps27
      go_wp2_with fail
      exact bodyPost_ret (v := dV room (-(k + 1) + 1) 1 (.slice p n c) (.slice q m d)) (by simp [results, Try.results27, go_sem]) rfl ⟨rfl, by (repeat (first | with_reducible assumption | with_reducible exact Below.refl _ _ | with_reducible refine Below.drew ?_ | with_reducible refine below_drewN ?_ _ | with_reducible refine al ?_ _ | (with_reducible refine sc ?_ ?_; (focus (first | omega | (simp; done) | (simp; omega)))) | (with_reducible refine chain ?_ (by assumption))))⟩
    · rw [if_neg h2]
      have m1 : min (-(k + 1)) 1048575 = 1048575 := by omega
      go_enter Try.func27, Try.ntmps27
      go_wp2_with fail
      exact bodyPost_ret (v := dV room (1048575 + 1) 1 (.slice p n c) (.slice q m d)) (by simp [results, Try.results27, go_sem]) rfl ⟨rfl, by (repeat (first | with_reducible assumption | with_reducible exact Below.refl _ _ | with_reducible refine Below.drew ?_ | with_reducible refine below_drewN ?_ _ | with_reducible refine al ?_ _ | (with_reducible refine sc ?_ ?_; (focus (first | omega | (simp; done) | (simp; omega)))) | (with_reducible refine chain ?_ (by assumption))))⟩
  · rw [if_neg h1]
    have m0 : max k 0 = k := by omega
    go_enter Try.func27, Try.ntmps27
    go_wp2_with fail
    exact bodyPost_ret (v := dV room k 0 (.slice p n c) (.slice q m d)) (by simp [results, Try.results27, go_sem]) rfl ⟨rfl, by (repeat (first | with_reducible assumption | with_reducible exact Below.refl _ _ | with_reducible refine Below.drew ?_ | with_reducible refine below_drewN ?_ _ | with_reducible refine al ?_ _ | (with_reducible refine sc ?_ ?_; (focus (first | omega | (simp; done) | (simp; omega)))) | (with_reducible refine chain ?_ (by assumption))))⟩
set_option maxHeartbeats 4000000 in
theorem r8_new (room : Int) (w : World) : Calls Try.prog 11 #[.int .i64 room] w fun e w' =>
    e = .returned (dV (min (max room 0) 1048576) 0 0 (.slice none 0 0) (.slice none 0 0)) ∧ Below w.heap.size w w' := by
  obtain ⟨x, hx⟩ : ∃ x, min (max room 0) 1048576 = x := ⟨_, rfl⟩
  by_cases h1 : room < 0
  · have m0 : max room 0 = 0 := by omega
    have m1 : min (0 : Int) 1048576 = 0 := by omega
    have e : x = 0 := by omega
    rw [hx, e]
    clear hx e
    go_enter Try.func11, Try.ntmps11
    go_wp2_with fail
    exact bodyPost_ret (v := dV 0 0 0 (.slice none 0 0) (.slice none 0 0)) (by simp [results, Try.results11, go_sem]) rfl ⟨rfl, by (repeat (first | with_reducible assumption | with_reducible exact Below.refl _ _ | with_reducible refine Below.drew ?_ | with_reducible refine below_drewN ?_ _ | with_reducible refine al ?_ _ | (with_reducible refine sc ?_ ?_; (focus (first | omega | (simp; done) | (simp; omega)))) | (with_reducible refine chain ?_ (by assumption))))⟩
  · have m0 : max room 0 = room := by omega
    by_cases h2 : room < 1048576
    · have m1 : min room 1048576 = room := by omega
      have e : x = room := by omega
      rw [hx, e]
      clear hx e
      go_enter Try.func11, Try.ntmps11
      go_wp2_with fail
      exact bodyPost_ret (v := dV room 0 0 (.slice none 0 0) (.slice none 0 0)) (by simp [results, Try.results11, go_sem]) rfl ⟨rfl, by (repeat (first | with_reducible assumption | with_reducible exact Below.refl _ _ | with_reducible refine Below.drew ?_ | with_reducible refine below_drewN ?_ _ | with_reducible refine al ?_ _ | (with_reducible refine sc ?_ ?_; (focus (first | omega | (simp; done) | (simp; omega)))) | (with_reducible refine chain ?_ (by assumption))))⟩
    · have m1 : min room 1048576 = 1048576 := by omega
      have e : x = 1048576 := by omega
      rw [hx, e]
      clear hx e
      go_enter Try.func11, Try.ntmps11
      go_wp2_with fail
      exact bodyPost_ret (v := dV 1048576 0 0 (.slice none 0 0) (.slice none 0 0)) (by simp [results, Try.results11, go_sem]) rfl ⟨rfl, by (repeat (first | with_reducible assumption | with_reducible exact Below.refl _ _ | with_reducible refine Below.drew ?_ | with_reducible refine below_drewN ?_ _ | with_reducible refine al ?_ _ | (with_reducible refine sc ?_ ?_; (focus (first | omega | (simp; done) | (simp; omega)))) | (with_reducible refine chain ?_ (by assumption))))⟩
end Go.Proofs.Ytkephcmjigfepaa
