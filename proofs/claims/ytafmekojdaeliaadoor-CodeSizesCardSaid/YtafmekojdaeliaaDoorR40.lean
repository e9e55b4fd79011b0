/- Contracts of layer 4's reference (blocks). -/
import Derived.Test.YtafmekojdaeliaaDoorC01
import Derived.Test.YtafmekojdaeliaaDoorR04
import Derived.Test.YtafmekojdaeliaaDoorS01
import Derived.KernelRfl
set_option linter.unusedVariables false
set_option linter.unusedSimpArgs false
namespace Go.Proofs.YtafmekojdaeliaaDoor
open Go.ChangeShapes Go.WideShapes Go.ChangeAt Go.RowKit
def mayB (b : Int) : Bool := decide (0 ≤ b) && decide (b ≤ 15) && (b != 6) && (b != 7)
def solidB (b : Int) : Bool := b == -1 || b == 1 || b == 2 || b == 3 || b == 5
def wetB (b : Int) : Bool := decide (8 ≤ b) && decide (b ≤ 15)
def yieldsB (b : Int) : Bool := b == 0 || wetB b
def levelF (b : Int) : Int := if wetB b then b - 8 else -1
def goodF (n : Int) : Int := if 5 < aroundF n 14 then aroundF n 14 + 2 else aroundF n 14
theorem goodF_may (n : Int) : mayB (goodF n) = true := by
  have := around_bd n 14 (by omega)
  unfold mayB goodF
  generalize aroundF n 14 = k at *
  by_cases h : 5 < k
  · rw [if_pos h]; simp; omega
  · rw [if_neg h]; simp; omega
theorem mayB_bd {b : Int} (h : mayB b = true) : 0 ≤ b ∧ b ≤ 15 ∧ b ≠ 6 ∧ b ≠ 7 := by
  unfold mayB at h; simp at h; omega
def nameF (b : Int) : ByteArray :=
  if b = 0 then ⟨#[97, 105, 114]⟩ else if b = 1 then ⟨#[115, 116, 111, 110, 101]⟩ else if b = 2 then ⟨#[100, 105, 114, 116]⟩ else if b = 3 then ⟨#[115, 97, 110, 100]⟩
  else if b = 4 then ⟨#[108, 97, 100, 100, 101, 114]⟩ else if b = 5 then ⟨#[103, 108, 97, 115, 115]⟩
  else if 8 ≤ b ∧ b ≤ 15 then ⟨#[119, 97, 116, 101, 114, (40 + b).toNat.toUInt8]⟩ else ⟨#[]⟩
theorem r4_may (b : Int) (w : World) : Calls Tryd.prog 30 #[.int .i64 b] w fun e w' => e = .returned (.bool (mayB b)) ∧ w = w' := by
  unfold mayB
  go_enter Tryd.func30, Tryd.ntmps30
  go_wp2
  all_goals
    go_ret
    exact ⟨ret_bool (by first | (simp [*]; done) | (rw [Bool.eq_iff_iff]; simp [*]; omega)), rfl⟩
theorem r4_good (n : Int) (hn : i64 n) (w : World) : Calls Tryd.prog 25 #[.int .i64 n] w fun e w' => e = .returned (.int .i64 (goodF n)) ∧ w = w' := by
  unfold goodF
  have h := fun k => r_around n 14 hn.1 hn.2 (by omega) (by omega) k
  have hb := around_bd n 14 (by omega)
  generalize aroundF n 14 = y at *
  have H := Lib.hid h
  clear h
  by_cases hy : 5 < y
  · rw [if_pos hy]
    go_enter Tryd.func25, Tryd.ntmps25
    go_wp2_with (go_at_call 17; refine (H.out _).mono ?_; rintro e w' ⟨rfl, rfl⟩)
    go_ret
    exact ⟨rfl, rfl⟩
  · rw [if_neg hy]
    go_enter Tryd.func25, Tryd.ntmps25
    go_wp2_with (go_at_call 17; refine (H.out _).mono ?_; rintro e w' ⟨rfl, rfl⟩)
    go_ret
    exact ⟨rfl, rfl⟩
