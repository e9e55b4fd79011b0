/- Contracts of layer 3's reference (cells): From, Beside, Good. -/
import Derived.Test.YtenpcmhfbbfpeaaR30
set_option linter.unusedVariables false
namespace Go.Proofs.Ytenpcmhfbbfpeaa
open Go.ChangeShapes Go.WideShapes Go.ChangeAt Go.RowKit
theorem r3_from (x z i : Int) (hx : -134217728 ≤ x ∧ x ≤ 134217728) (hz : -134217728 ≤ z ∧ z ≤ 134217728) (h0 : 0 ≤ i) (h1 : i ≤ 8191) (w : World) : Calls Try.prog 30 #[posV x z, .int .i64 i] w fun e w' =>
    e = .returned (.tuple #[vecV (x * 16 + i % 16) (i / 256) (z * 16 + i % 256 / 16), .bool true]) ∧ Below w.heap.size w w' := by
  obtain ⟨hx0, hx1⟩ := hx
  obtain ⟨hz0, hz1⟩ := hz
  go_enter Try.func30, Try.ntmps30
  go_wp2
  refine bodyPost_ret (v := .tuple #[vecV (x * 16 + i % 16) (i / 256) (z * 16 + i % 256 / 16), .bool true]) (by simp [results, Try.results30, go_sem, *]; done) rfl ⟨rfl, ?_⟩
  (repeat (first | with_reducible assumption | with_reducible exact Below.refl _ _ | with_reducible refine Below.drew ?_ | with_reducible refine below_drewN ?_ _ | with_reducible refine al ?_ _ | (with_reducible refine sc ?_ ?_; (focus (first | omega | (simp; done) | (simp; omega)))) | (with_reducible refine chain ?_ (by assumption))))
theorem r3_from_no (x z i : Int) (h : i < 0 ∨ 8191 < i) (w : World) : Calls Try.prog 30 #[posV x z, .int .i64 i] w fun e w' =>
    e = .returned (.tuple #[vecV 0 0 0, .bool false]) ∧ Below w.heap.size w w' := by
  rcases h with h | h
  all_goals
    go_enter Try.func30, Try.ntmps30
    go_wp2
    refine bodyPost_ret (v := .tuple #[vecV 0 0 0, .bool false]) (by simp [results, Try.results30, go_sem, *]; done) rfl ⟨rfl, ?_⟩
    (repeat (first | with_reducible assumption | with_reducible exact Below.refl _ _ | with_reducible refine Below.drew ?_ | with_reducible refine below_drewN ?_ _ | with_reducible refine al ?_ _ | (with_reducible refine sc ?_ ?_; (focus (first | omega | (simp; done) | (simp; omega)))) | (with_reducible refine chain ?_ (by assumption))))
theorem r3_beside (x z : Int) (hx : -134217728 ≤ x ∧ x ≤ 134217728) (hz : -134217728 ≤ z ∧ z ≤ 134217728) (w : World) : Calls Try.prog 34 #[posV x z] w fun e w' =>
    e = .returned (.agg #[.int .i64 x, .int .i64 z, .int .i64 (x - 1), .int .i64 z, .int .i64 (x + 1), .int .i64 z, .int .i64 x, .int .i64 (z - 1), .int .i64 x, .int .i64 (z + 1)]) ∧ Below w.heap.size w w' := by
  obtain ⟨hx0, hx1⟩ := hx
  obtain ⟨hz0, hz1⟩ := hz
  go_enter Try.func34, Try.ntmps34
  go_wp2
  refine bodyPost_ret (v := .agg #[.int .i64 x, .int .i64 z, .int .i64 (x - 1), .int .i64 z, .int .i64 (x + 1), .int .i64 z, .int .i64 x, .int .i64 (z - 1), .int .i64 x, .int .i64 (z + 1)]) (by simp [results, Try.results34, go_sem, *]; done) rfl ⟨rfl, ?_⟩
  (repeat (first | with_reducible assumption | with_reducible exact Below.refl _ _ | with_reducible refine Below.drew ?_ | with_reducible refine below_drewN ?_ _ | with_reducible refine al ?_ _ | (with_reducible refine sc ?_ ?_; (focus (first | omega | (simp; done) | (simp; omega)))) | (with_reducible refine chain ?_ (by assumption))))
end Go.Proofs.Ytenpcmhfbbfpeaa
