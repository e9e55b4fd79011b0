/- Contracts of layer 1's reference, and of the example that every statement ends in. -/
import Derived.Test.YtenpcmhfbbfpeaaC01
set_option linter.unusedVariables false
namespace Go.Proofs.Ytenpcmhfbbfpeaa
open Go.ChangeShapes Go.WideShapes Go.ChangeAt Go.RowKit
theorem r_div (a b : Int) (h0 : -9223372036854775808 ≤ a) (h1 : a ≤ 9223372036854775807) (h2 : 1 ≤ b) (h3 : b ≤ 9223372036854775807) (w : World) :
    Calls Try.prog 60 #[.int .i64 a, .int .i64 b] w fun e w' => e = .returned (.int .i64 (a / b)) ∧ w = w' := by
  obtain ⟨f1, f2, f3, f4, f5, f6⟩ := tdiv_facts a b h2
  have hb0 : (b == 0) = false := by simp; omega
  obtain ⟨q, hq⟩ : ∃ q, a.tdiv b = q := ⟨_, rfl⟩
  rw [hq] at f1 f2 f3 f4 f5 f6
  have hw : IntKind.i64.wrap q = q := IntWalk.i64_in _ (by omega)
  have f7 : q ≤ 0 → q * b ≤ q := fun h => by have := Int.mul_le_mul_of_nonpos_left h h2; rwa [Int.mul_one] at this
  obtain ⟨p, hp⟩ : ∃ p, q * b = p := ⟨_, rfl⟩
  rw [hp] at f1 f2 f3 f4 f7
  have hwp : IntKind.i64.wrap p = p := IntWalk.i64_in _ (by omega)
  have F1 := Lib.hid f1; have F2 := Lib.hid f2; have F3 := Lib.hid f3; have F4 := Lib.hid f4; have F5 := Lib.hid f5; have F6 := Lib.hid f6
  have bp : -9223372036854775808 ≤ p ∧ p ≤ 9223372036854775807 := by omega
  have bq : -9223372036854775808 ≤ q ∧ q ≤ 9223372036854775807 := by omega
  have bq1 : a < p → -9223372036854775808 < q := by omega
  clear f1 f2 f3 f4 f5 f6 f7
  by_cases hlt : a < p
  · have bq2 := bq1 hlt
    clear bq1
    go_enter Try.func60, Try.ntmps60
    go_wp2
    go_ret
    exact ⟨ret_int (F3.out hlt), rfl⟩
  · clear bq1
    go_enter Try.func60, Try.ntmps60
    go_wp2
    go_ret
    exact ⟨ret_int (F4.out (by omega)), rfl⟩
