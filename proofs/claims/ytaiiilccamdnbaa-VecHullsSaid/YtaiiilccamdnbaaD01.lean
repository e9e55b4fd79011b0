/- Contracts of layer 1's reference, and of the example that every statement ends in. -/
import Derived.Test.YtaiiilccamdnbaaC01
set_option linter.unusedVariables false
namespace Go.Proofs.Ytaiiilccamdnbaa
open Go.ChangeShapes Go.WideShapes Go.ChangeAt Go.RowKit
theorem r_div (a b : Int) (h0 : -9223372036854775808 < a) (h1 : a ≤ 9223372036854775807) (h2 : 1 ≤ b) (h3 : b ≤ 9223372036854775807) (w : World) :
    Calls Try.prog 61 #[.int .i64 a, .int .i64 b] w fun e w' => e = .returned (.int .i64 (a / b)) ∧ w = w' := by
  obtain ⟨f1, f2, f3, f4, f5, f6⟩ := tdiv_facts a b h2
  have hb0 : (b == 0) = false := by simp; omega
  obtain ⟨q, hq⟩ : ∃ q, a.tdiv b = q := ⟨_, rfl⟩
  rw [hq] at f1 f2 f3 f4 f5 f6
  have hw : IntKind.i64.wrap q = q := IntWalk.i64_in _ (by omega)
  obtain ⟨p, hp⟩ : ∃ p, q * b = p := ⟨_, rfl⟩
  rw [hp] at f1 f2 f3 f4
  have hwp : IntKind.i64.wrap p = p := IntWalk.i64_in _ (by omega)
  have F1 := Lib.hid f1; have F2 := Lib.hid f2; have F3 := Lib.hid f3; have F4 := Lib.hid f4; have F5 := Lib.hid f5; have F6 := Lib.hid f6
  have bp : -9223372036854775808 ≤ p ∧ p ≤ 9223372036854775807 := by omega
  have bq : -9223372036854775808 < q ∧ q ≤ 9223372036854775807 := by omega
  clear f1 f2 f3 f4 f5 f6
  by_cases hlt : a < p
  · go_enter Try.func61, Try.ntmps61
    go_wp2
    go_ret
    exact ⟨ret_int (F3.out hlt), rfl⟩
  · go_enter Try.func61, Try.ntmps61
    go_wp2
    go_ret
    exact ⟨ret_int (F4.out (by omega)), rfl⟩
theorem r_mul (a b : Int) (w : World) : Calls Try.prog 51 #[.int .i64 a, .int .i64 b] w fun e w' => e = .returned (.int .i64 (mulF a b)) ∧ w = w' := by
  have ha := cut_bd a
  have hb := cut_bd b
  have far := mulF_far a b
  have near := mulF_near a b
  have zero : cut a = 0 ∨ cut b = 0 → mulF a b = 0 := by
    intro h; unfold mulF; rcases h with h | h <;> rw [h] <;> simp <;> rfl
  generalize hv : mulF a b = V at *
  clear hv
  obtain ⟨x, hx⟩ : ∃ x, cut a = x := ⟨_, rfl⟩
  obtain ⟨y, hy⟩ : ∃ y, cut b = y := ⟨_, rfl⟩
  rw [hx] at ha far near zero
  rw [hy] at hb far near zero
  have cx : ∀ w : World, Calls Try.prog 24 #[.int .i64 a] w fun e w' => e = .returned (.int .i64 x) ∧ w = w' := by rw [← hx]; exact r_cut a
  have cy : ∀ w : World, Calls Try.prog 24 #[.int .i64 b] w fun e w' => e = .returned (.int .i64 y) ∧ w = w' := by rw [← hy]; exact r_cut b
  have Cx := Lib.hid cx
  have Cy := Lib.hid cy
  clear cx cy hx hy
  by_cases hz : x = 0 ∨ y = 0
  · have Hz := Lib.hid (zero hz)
    clear far near zero
    by_cases h0 : x = 0
    · have e0 : (x == 0) = true := by simp [h0]
      clear h0 hz
      go_enter Try.func51, Try.ntmps51
      go_wp2_with fail
      refine (Cx.out _).mono ?_
      rintro e w' ⟨rfl, rfl⟩
      go_wp2_with fail
      refine (Cy.out _).mono ?_
      rintro e w' ⟨rfl, rfl⟩
      go_wp2
      go_ret
      exact ⟨ret_int Hz.out.symm, rfl⟩
    · have e0 : (x == 0) = false := by simp [h0]
      have e1 : (y == 0) = true := by simp; omega
      clear h0 hz
      go_enter Try.func51, Try.ntmps51
      go_wp2_with fail
      refine (Cx.out _).mono ?_
      rintro e w' ⟨rfl, rfl⟩
      go_wp2_with fail
      refine (Cy.out _).mono ?_
      rintro e w' ⟨rfl, rfl⟩
      go_wp2
      go_ret
      exact ⟨ret_int Hz.out.symm, rfl⟩
  · obtain ⟨u, hu, xu, hxs⟩ := sign_cases x (by omega)
    obtain ⟨v, hv, yv, hys⟩ := sign_cases y (by omega)
    have e0 : (x == 0) = false := by simp; omega
    have e1 : (y == 0) = false := by simp; omega
    have e2 : ((v : Int) == 0) = false := by simp; omega
    have hf := far_iff u v hv
    clear zero hz
    rw [xu, yv] at far near
    have vb : (v : Int) ≤ 140737488355328 := by omega
    have ub : (u : Int) ≤ 140737488355328 := by omega
    obtain ⟨P, hP⟩ : ∃ P : Nat, u * v = P := ⟨_, rfl⟩
    have hPi : (u : Int) * (v : Int) = (P : Int) := by rw [← hP, Int.natCast_mul]
    rw [hP] at far near hf
    have q0 : 0 ≤ (9223372036854775807 : Int) / (v : Int) := Int.ediv_nonneg (by omega) (by omega)
    have m1 : max (u : Int) (-(u : Int)) = u := by omega
    have m2 : max (-(u : Int)) (u : Int) = u := by omega
    have m3 : max (v : Int) (-(v : Int)) = v := by omega
    have m4 : max (-(v : Int)) (v : Int) = v := by omega
    have d1 : decide ((u : Int) < 0) = false := by simp
    have d2 : decide (-(u : Int) < 0) = true := by simp; omega
    have d3 : decide ((v : Int) < 0) = false := by simp
    have d4 : decide (-(v : Int) < 0) = true := by simp; omega
    have d5 : decide (0 < (u : Int)) = true := by simp; omega
    have d6 : decide (0 < (v : Int)) = true := by simp; omega
    have d7 : decide (0 < u) = true := by simp; omega
    have d8 : decide (0 < v) = true := by simp; omega
    by_cases hfar : (9223372036854775807 : Int) / (v : Int) < (u : Int)
    · have Hf := Lib.hid (far (hf.1 hfar))
      clear far near hf hP hPi xu yv
      rcases hxs with ⟨rfl, sx⟩ | ⟨rfl, sx⟩ <;> rcases hys with ⟨rfl, sy⟩ | ⟨rfl, sy⟩
      all_goals
        have Hs := Hf.out
        rw [sx, sy] at Hs
        have HS := Lib.hid Hs
        clear Hs Hf sx sy
        go_enter Try.func51, Try.ntmps51
        go_wp2_with fail
        refine (Cx.out _).mono ?_
        rintro e w' ⟨rfl, rfl⟩
        go_wp2_with fail
        refine (Cy.out _).mono ?_
        rintro e w' ⟨rfl, rfl⟩
        go_wp2
        go_ret
        exact ⟨ret_int (by rw [HS.out]; simp), rfl⟩
    · have hPb : (P : Int) ≤ 9223372036854775807 := by omega
      have Hn := Lib.hid near
      clear far near hf hP xu yv
      rcases hxs with ⟨rfl, sx⟩ | ⟨rfl, sx⟩ <;> rcases hys with ⟨rfl, sy⟩ | ⟨rfl, sy⟩
      all_goals
        have Hs := Hn.out
        rw [sx, sy] at Hs
        have HS := Lib.hid Hs
        clear Hs Hn sx sy
        go_enter Try.func51, Try.ntmps51
        go_wp2_with fail
        refine (Cx.out _).mono ?_
        rintro e w' ⟨rfl, rfl⟩
        go_wp2_with fail
        refine (Cy.out _).mono ?_
        rintro e w' ⟨rfl, rfl⟩
        go_wp2_with (first | (go_at_call 61; refine (r_div _ _ (by omega) (by omega) (by omega) (by omega) _).mono ?_; rintro e w' ⟨rfl, rfl⟩) | (go_at_call 24; refine (r_cut _ _).mono ?_; rintro e w' ⟨rfl, rfl⟩))
        go_ret
        exact ⟨ret_int (by rw [HS.out]; simp), rfl⟩
