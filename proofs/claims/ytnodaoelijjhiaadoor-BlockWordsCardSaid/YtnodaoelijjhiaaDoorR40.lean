/- Contracts of layer 4's reference (blocks). -/
import Derived.Test.YtnodaoelijjhiaaDoorC01
import Derived.Test.YtnodaoelijjhiaaDoorR04
import Derived.Test.YtnodaoelijjhiaaDoorS01
import Derived.KernelRfl
set_option linter.unusedVariables false
set_option linter.unusedSimpArgs false
namespace Go.Proofs.YtnodaoelijjhiaaDoor
open Go.ChangeShapes Go.WideShapes Go.ChangeAt Go.RowKit
def mayB (b : Int) : Bool := decide (0 ≤ b) && decide (b ≤ 15) && (b != 6) && (b != 7)
def solidB (b : Int) : Bool := b == -1 || b == 1 || b == 2 || b == 3 || b == 5
def wetB (b : Int) : Bool := decide (8 ≤ b) && decide (b ≤ 15)
def yieldsB (b : Int) : Bool := b == 0 || wetB b
def levelF (b : Int) : Int := if wetB b then b - 8 else -1
def goodF (n : Int) : Int := if 5 < aroundF n 14 then aroundF n 14 + 2 else aroundF n 14
theorem goodF_may (n : Int) : mayB (goodF n) = true := by
  have := around_bd n 14 (by omega)
  unfold mayB goodF
  generalize aroundF n 14 = k at *
  by_cases h : 5 < k
  · rw [if_pos h]; simp; omega
  · rw [if_neg h]; simp; omega
theorem mayB_bd {b : Int} (h : mayB b = true) : 0 ≤ b ∧ b ≤ 15 ∧ b ≠ 6 ∧ b ≠ 7 := by
  unfold mayB at h; simp at h; omega
def nameF (b : Int) : ByteArray :=
  if b = 0 then ⟨#[97, 105, 114]⟩ else if b = 1 then ⟨#[115, 116, 111, 110, 101]⟩ else if b = 2 then ⟨#[100, 105, 114, 116]⟩ else if b = 3 then ⟨#[115, 97, 110, 100]⟩
  else if b = 4 then ⟨#[108, 97, 100, 100, 101, 114]⟩ else if b = 5 then ⟨#[103, 108, 97, 115, 115]⟩
  else if 8 ≤ b ∧ b ≤ 15 then ⟨#[119, 97, 116, 101, 114, (40 + b).toNat.toUInt8]⟩ else ⟨#[]⟩
theorem r4_may (b : Int) (w : World) : Calls Tryd.prog 8 #[.int .i64 b] w fun e w' => e = .returned (.bool (mayB b)) ∧ w = w' := by
  unfold mayB
  go_enter Tryd.func8, Tryd.ntmps8
  go_wp2
  all_goals
    go_ret
    exact ⟨ret_bool (by first | (simp [*]; done) | (rw [Bool.eq_iff_iff]; simp [*]; omega)), rfl⟩
theorem r4_solid (b : Int) (w : World) : Calls Tryd.prog 10 #[.int .i64 b] w fun e w' => e = .returned (.bool (solidB b)) ∧ w = w' := by
  unfold solidB
  go_enter Tryd.func10, Tryd.ntmps10
  go_wp2
  all_goals
    go_ret
    exact ⟨ret_bool (by first | (simp [*]; done) | (rw [Bool.eq_iff_iff]; simp [*]; omega)), rfl⟩
theorem r4_wet (b : Int) (w : World) : Calls Tryd.prog 12 #[.int .i64 b] w fun e w' => e = .returned (.bool (wetB b)) ∧ w = w' := by
  unfold wetB
  go_enter Tryd.func12, Tryd.ntmps12
  go_wp2
  all_goals
    go_ret
    exact ⟨ret_bool (by first | (simp [*]; done) | (rw [Bool.eq_iff_iff]; simp [*]; omega)), rfl⟩
theorem r4_yields (b : Int) (w : World) : Calls Tryd.prog 14 #[.int .i64 b] w fun e w' => e = .returned (.bool (yieldsB b)) ∧ w = w' := by
  unfold yieldsB
  have h := fun k => r4_wet b k
  obtain ⟨z, hz⟩ : ∃ z, (b == 0) = z := ⟨_, rfl⟩
  rw [hz]
  generalize wetB b = y at *
  have H := Lib.hid h
  clear h
  cases z
  all_goals
    go_enter Tryd.func14, Tryd.ntmps14
    go_wp2_with (go_at_call 12; refine (H.out _).mono ?_; rintro e w' ⟨rfl, rfl⟩)
    go_ret
    exact ⟨rfl, rfl⟩
theorem r4_level (b : Int) (hb : i64 b) (w : World) : Calls Tryd.prog 18 #[.int .i64 b] w fun e w' => e = .returned (.int .i64 (levelF b)) ∧ w = w' := by
  unfold levelF
  have h := fun k => r4_wet b k
  have hw : wetB b = true → 8 ≤ b ∧ b ≤ 15 := fun h => by unfold wetB at h; simpa using h
  generalize wetB b = y at *
  cases y
  · have H := Lib.hid h
    clear h hw
    go_enter Tryd.func18, Tryd.ntmps18
    go_wp2_with (go_at_call 12; refine (H.out _).mono ?_; rintro e w' ⟨rfl, rfl⟩)
    go_ret
    exact ⟨rfl, rfl⟩
  · have hw := hw rfl
    have H := Lib.hid h
    clear h
    go_enter Tryd.func18, Tryd.ntmps18
    go_wp2_with (go_at_call 12; refine (H.out _).mono ?_; rintro e w' ⟨rfl, rfl⟩)
    go_ret
    exact ⟨rfl, rfl⟩
theorem r4_good (n : Int) (hn : i64 n) (w : World) : Calls Tryd.prog 26 #[.int .i64 n] w fun e w' => e = .returned (.int .i64 (goodF n)) ∧ w = w' := by
  unfold goodF
  have h := fun k => r_around n 14 hn.1 hn.2 (by omega) (by omega) k
  have hb := around_bd n 14 (by omega)
  generalize aroundF n 14 = y at *
  have H := Lib.hid h
  clear h
  by_cases hy : 5 < y
  · rw [if_pos hy]
    go_enter Tryd.func26, Tryd.ntmps26
    go_wp2_with (go_at_call 27; refine (H.out _).mono ?_; rintro e w' ⟨rfl, rfl⟩)
    go_ret
    exact ⟨rfl, rfl⟩
  · rw [if_neg hy]
    go_enter Tryd.func26, Tryd.ntmps26
    go_wp2_with (go_at_call 27; refine (H.out _).mono ?_; rintro e w' ⟨rfl, rfl⟩)
    go_ret
    exact ⟨rfl, rfl⟩
set_option maxHeartbeats 4000000 in
theorem r4_name (b : Int) (hb : i64 b) (w : World) : Calls Tryd.prog 23 #[.int .i64 b] w fun e w' => e = .returned (.string (nameF b)) ∧ Below w.heap.size w w' := by
  have h := fun k => r4_may b k
  by_cases hm : mayB b = true
  · rw [hm] at h
    have H := Lib.hid h
    have hc := mayB_bd hm
    clear h hm
    rcases (show b = 0 ∨ b = 1 ∨ b = 2 ∨ b = 3 ∨ b = 4 ∨ b = 5 ∨ b = 8 ∨ b = 9 ∨ b = 10 ∨ b = 11 ∨ b = 12 ∨ b = 13 ∨ b = 14 ∨ b = 15 by omega) with rfl | rfl | rfl | rfl | rfl | rfl | rfl | rfl | rfl | rfl | rfl | rfl | rfl | rfl
    all_goals
      clear hc hb
      go_enter Tryd.func23, Tryd.ntmps23
      go_wp2_with (go_at_call 8; refine (H.out _).mono ?_; rintro e w' ⟨rfl, rfl⟩)
      go_ret
      exact ⟨by kernel_rfl, by (repeat (first | with_reducible assumption | with_reducible exact Below.refl _ _ | with_reducible refine Below.drew ?_ | with_reducible refine below_drewN ?_ _ | with_reducible refine al ?_ _ | (with_reducible refine sc ?_ ?_; (focus (first | omega | (simp; done) | (simp; omega)))) | (with_reducible refine chain ?_ (by assumption))))⟩
  · have hm : mayB b = false := by simpa using hm
    rw [hm] at h
    have H := Lib.hid h
    have e0 : nameF b = ⟨#[]⟩ := by
      unfold mayB at hm; unfold nameF
      simp at hm
      rw [if_neg (by omega), if_neg (by omega), if_neg (by omega), if_neg (by omega), if_neg (by omega), if_neg (by omega), if_neg (by omega)]
    rw [e0]
    clear h hm e0
    go_enter Tryd.func23, Tryd.ntmps23
    go_wp2_with (go_at_call 8; refine (H.out _).mono ?_; rintro e w' ⟨rfl, rfl⟩)
    go_ret
    exact ⟨rfl, by (repeat (first | with_reducible assumption | with_reducible exact Below.refl _ _ | with_reducible refine Below.drew ?_ | with_reducible refine below_drewN ?_ _ | with_reducible refine al ?_ _ | (with_reducible refine sc ?_ ?_; (focus (first | omega | (simp; done) | (simp; omega)))) | (with_reducible refine chain ?_ (by assumption))))⟩
end Go.Proofs.YtnodaoelijjhiaaDoor
