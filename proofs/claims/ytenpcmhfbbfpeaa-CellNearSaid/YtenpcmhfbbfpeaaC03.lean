/- Contracts of layer 3 (cell): what each call answers. -/
import Derived.Test.YtenpcmhfbbfpeaaR30
import Derived.Test.YtenpcmhfbbfpeaaD01
set_option linter.unusedVariables false
namespace Go.Proofs.Ytenpcmhfbbfpeaa
open Go.ChangeShapes Go.WideShapes Go.ChangeAt Go.RowKit
def belowF (n : Int) : Int := if 0 < cut n % 65536 then cut n / 65536 else cut n / 65536 - 1
/-- A quotient and what is left, of Go, and those rounded down. -/
theorem trem_facts (a b : Int) (hb : 1 ≤ b) (ha : i64 a) : (a.tmod b < 0 → a.tdiv b - 1 = a / b ∧ a.tmod b + b = a % b ∧ -9223372036854775808 ≤ a.tdiv b - 1) ∧ (0 ≤ a.tmod b → a.tdiv b = a / b ∧ a.tmod b = a % b) ∧ -b < a.tmod b ∧ a.tmod b < b ∧ -9223372036854775808 ≤ a.tdiv b ∧ a.tdiv b ≤ 9223372036854775807 := by
  obtain ⟨f1, f2, f3, f4, f5, f6⟩ := tdiv_facts a b hb
  obtain ⟨h0, h1⟩ := ha
  have e := Int.mul_tdiv_add_tmod a b
  have e2 := Int.mul_ediv_add_emod a b
  have r0 := Int.emod_nonneg a (show b ≠ 0 by omega)
  have r1 := Int.emod_lt_of_pos a (show 0 < b by omega)
  have lo : -9223372036854775808 ≤ a / b := by
    rw [Int.le_ediv_iff_mul_le (by omega)]; omega
  rw [Int.mul_comm] at e
  by_cases hl : a < a.tdiv b * b
  · have g := f3 hl
    have e3 : b * (a / b) = a.tdiv b * b - b := by rw [← g, Int.mul_sub, Int.mul_one, Int.mul_comm b]
    refine ⟨fun _ => ⟨g, by omega, by omega⟩, fun h => by omega, Int.lt_tmod_of_pos a (by omega), Int.tmod_lt_of_pos a (by omega), ?_, ?_⟩
    · omega
    · by_cases hn : a < 0
      · have := f5 hn; omega
      · have := f6 (by omega); omega
  · have g := f4 (by omega)
    rw [g, Int.mul_comm] at e
    rw [g] at f5 f6 ⊢
    refine ⟨fun h => by omega, fun h => ⟨rfl, by omega⟩, by omega, by omega, lo, ?_⟩
    by_cases hn : a < 0
    · have := f5 hn; omega
    · have := f6 (by omega); omega
theorem c3_div (a b : Int) (ha : i64 a) (hb : i64 b) (w : World) : Calls Try.prog 11 #[.int .i64 a, .int .i64 b] w fun e w' => e = .returned (.int .i64 (divF a b)) ∧ w = w' := by
  unfold divF
  by_cases h : b < 1
  · rw [if_pos h]
    go_enter Try.func11, Try.ntmps11
    go_wp2
    go_ret
    exact ⟨rfl, rfl⟩
  · rw [if_neg h]
    obtain ⟨f1, f2, f3, f4, f5, f6⟩ := trem_facts a b (by omega) ha
    have hb0 : (b == 0) = false := by rw [beq_eq_false_iff_ne]; omega
    obtain ⟨q, hq⟩ : ∃ q, a.tdiv b = q := ⟨_, rfl⟩
    obtain ⟨r, hr⟩ : ∃ r, a.tmod b = r := ⟨_, rfl⟩
    rw [hq, hr] at f1
    rw [hq, hr] at f2
    rw [hr] at f3 f4
    rw [hq] at f5 f6
    by_cases hn : r < 0
    · obtain ⟨g1, g2, g3⟩ := f1 hn
      have G := Lib.hid g1
      clear f1 f2 g1 g2
      go_enter Try.func11, Try.ntmps11
      go_wp2
      go_ret
      exact ⟨ret_int G.out, rfl⟩
    · have G := Lib.hid (f2 (by omega)).1
      clear f1 f2
      go_enter Try.func11, Try.ntmps11
      go_wp2
      go_ret
      exact ⟨ret_int G.out, rfl⟩
theorem c3_mod (a b : Int) (ha : i64 a) (hb : i64 b) (w : World) : Calls Try.prog 12 #[.int .i64 a, .int .i64 b] w fun e w' => e = .returned (.int .i64 (modF a b)) ∧ w = w' := by
  unfold modF
  by_cases h : b < 1
  · rw [if_pos h]
    go_enter Try.func12, Try.ntmps12
    go_wp2
    go_ret
    exact ⟨rfl, rfl⟩
  · rw [if_neg h]
    obtain ⟨f1, f2, f3, f4, f5, f6⟩ := trem_facts a b (by omega) ha
    have hb0 : (b == 0) = false := by rw [beq_eq_false_iff_ne]; omega
    obtain ⟨r, hr⟩ : ∃ r, a.tmod b = r := ⟨_, rfl⟩
    rw [hr] at f1 f2 f3 f4
    by_cases hn : r < 0
    · obtain ⟨g1, g2, g3⟩ := f1 hn
      have G := Lib.hid g2
      clear f1 f2 g1 g2 g3 f5 f6
      go_enter Try.func12, Try.ntmps12
      go_wp2
      go_ret
      exact ⟨ret_int G.out, rfl⟩
    · have G := Lib.hid (f2 (by omega)).2
      clear f1 f2 f5 f6
      go_enter Try.func12, Try.ntmps12
      go_wp2
      go_ret
      exact ⟨ret_int G.out, rfl⟩
theorem c3_within (n : Int) (w : World) : Calls Try.prog 48 #[.int .i64 n] w fun e w' => e = .returned (.int .i64 (cellC n)) ∧ w = w' := by
  go_enter Try.func48, Try.ntmps48
  go_wp2
  all_goals
    go_ret
    exact ⟨ret_int (by unfold cellC; omega), rfl⟩
theorem c3_cut (x y z : Int) (w : World) : Calls Try.prog 22 #[vecV x y z] w fun e w' => e = .returned (vecV (cellC x) (cellC y) (cellC z)) ∧ Below w.heap.size w w' := by
  go_enter Try.func22, Try.ntmps22
  go_wp2_with fail
  refine region_below 10 (by kernel_rfl) (by kernel_rfl) ?_
  simp only [List.take_succ_cons, List.take_zero, List.drop_succ_cons, List.drop_zero]
  repeat (first | (refine' InText.skip (by rfl) ?_; simp only [Act.put, List.setIfInBounds_toArray, List.set_cons_zero, List.set_cons_succ]) | (refine' InText.val (by rfl) (fun wr hr => ?_) ?_; rotate_left 1; (focus (obtain ⟨hrc, hrf⟩ := bcell hr; (go_simp <;> with_reducible rfl); done)); simp only [Act.put, List.setIfInBounds_toArray, List.set_cons_zero, List.set_cons_succ]) | (refine' InText.call (by rfl) (fun wr hr => ?_) (fun wr hr => ?_) ?_; rotate_left 3; (focus ((go_simp <;> (first | with_reducible rfl | exact ⟨rfl, rfl⟩)); done)); (focus (first | with_reducible exact pureB (c3_within _ _))); simp only [Act.put, List.setIfInBounds_toArray, List.set_cons_zero, List.set_cons_succ]))
  refine fun wr hr => ?_
  obtain ⟨hrc, hrf⟩ := bcell hr
  go_wp2
  refine bodyPost_ret (v := vecV (cellC x) (cellC y) (cellC z)) (by simp [results, Try.results22, go_sem, *]; done) rfl ⟨rfl, ?_⟩
  (repeat (first | with_reducible assumption | with_reducible exact Below.refl _ _ | with_reducible refine Below.drew ?_ | with_reducible refine below_drewN ?_ _ | with_reducible refine al ?_ _ | (with_reducible refine sc ?_ ?_; (focus (first | omega | (simp; done) | (simp; omega)))) | (with_reducible refine chain ?_ (by assumption))))
theorem c3_of (x y z : Int) (w : World) : Calls Try.prog 16 #[vecV x y z] w fun e w' => e = .returned (vecV (cut x / 65536) (cut y / 65536) (cut z / 65536)) ∧ Below w.heap.size w w' := by
  go_enter Try.func16, Try.ntmps16
  go_wp2_with fail
  refine region_below 10 (by kernel_rfl) (by kernel_rfl) ?_
  simp only [List.take_succ_cons, List.take_zero, List.drop_succ_cons, List.drop_zero]
  repeat (first | (refine' InText.skip (by rfl) ?_; simp only [Act.put, List.setIfInBounds_toArray, List.set_cons_zero, List.set_cons_succ]) | (refine' InText.val (by rfl) (fun wr hr => ?_) ?_; rotate_left 1; (focus (obtain ⟨hrc, hrf⟩ := bcell hr; (go_simp <;> with_reducible rfl); done)); simp only [Act.put, List.setIfInBounds_toArray, List.set_cons_zero, List.set_cons_succ]) | (refine' InText.call (by rfl) (fun wr hr => ?_) (fun wr hr => ?_) ?_; rotate_left 3; (focus ((go_simp <;> (first | with_reducible rfl | exact ⟨rfl, rfl⟩)); done)); (focus (first | with_reducible exact pureB (c_floor _ _))); simp only [Act.put, List.setIfInBounds_toArray, List.set_cons_zero, List.set_cons_succ]))
  refine fun wr hr => ?_
  obtain ⟨hrc, hrf⟩ := bcell hr
  go_wp2
  refine bodyPost_ret (v := vecV (cut x / 65536) (cut y / 65536) (cut z / 65536)) (by simp [results, Try.results16, go_sem, *]; done) rfl ⟨rfl, ?_⟩
  (repeat (first | with_reducible assumption | with_reducible exact Below.refl _ _ | with_reducible refine Below.drew ?_ | with_reducible refine below_drewN ?_ _ | with_reducible refine al ?_ _ | (with_reducible refine sc ?_ ?_; (focus (first | omega | (simp; done) | (simp; omega)))) | (with_reducible refine chain ?_ (by assumption))))
theorem c3_below (n : Int) (w : World) : Calls Try.prog 52 #[.int .i64 n] w fun e w' => e = .returned (.int .i64 (belowF n)) ∧ w = w' := by
  unfold belowF
  have hb := cut_bd n
  have hd : -2147483648 ≤ cut n / 65536 ∧ cut n / 65536 ≤ 2147483648 := by omega
  obtain ⟨q, hq⟩ : ∃ q, cut n / 65536 = q := ⟨_, rfl⟩
  have cf := fun k => c_floor n k
  have cr := fun k => c_frac n k
  obtain ⟨r, hr⟩ : ∃ r, cut n % 65536 = r := ⟨_, rfl⟩
  rw [hq] at cf hd ⊢
  rw [hr] at cr ⊢
  have CF := Lib.hid cf
  have CR := Lib.hid cr
  clear cf cr hq hr hb
  by_cases h : 0 < r
  · rw [if_pos h]
    go_enter Try.func52, Try.ntmps52
    go_wp2_with (first | (go_at_call 58; refine (CR.out _).mono ?_; rintro e w' ⟨rfl, rfl⟩) | (go_at_call 43; refine (CF.out _).mono ?_; rintro e w' ⟨rfl, rfl⟩))
    go_ret
    exact ⟨rfl, rfl⟩
  · rw [if_neg h]
    go_enter Try.func52, Try.ntmps52
    go_wp2_with (first | (go_at_call 58; refine (CR.out _).mono ?_; rintro e w' ⟨rfl, rfl⟩) | (go_at_call 43; refine (CF.out _).mono ?_; rintro e w' ⟨rfl, rfl⟩))
    go_ret
    exact ⟨rfl, rfl⟩
theorem c3_corner (x y z : Int) (w : World) : Calls Try.prog 44 #[.int .i64 x, .int .i64 y, .int .i64 z] w fun e w' => e = .returned (vecV (whole x * 65536) (whole y * 65536) (whole z * 65536)) ∧ Below w.heap.size w w' := by
  go_enter Try.func44, Try.ntmps44
  go_wp2_with (go_at_call 59; refine (c_of _ _).mono ?_; rintro e w' ⟨rfl, rfl⟩)
  refine bodyPost_ret (v := vecV (whole x * 65536) (whole y * 65536) (whole z * 65536)) (by simp [results, Try.results44, go_sem, *]; done) rfl ⟨rfl, ?_⟩
  (repeat (first | with_reducible assumption | with_reducible exact Below.refl _ _ | with_reducible refine Below.drew ?_ | with_reducible refine below_drewN ?_ _ | with_reducible refine al ?_ _ | (with_reducible refine sc ?_ ?_; (focus (first | omega | (simp; done) | (simp; omega)))) | (with_reducible refine chain ?_ (by assumption))))
theorem c3_chunk (x y z : Int) (hx : i64 x) (hz : i64 z) (w : World) : Calls Try.prog 24 #[vecV x y z] w fun e w' => e = .returned (posV (x / 16) (z / 16)) ∧ Below w.heap.size w w' := by
  have dx := fun k => c3_div x 16 hx (by decide) k
  have dz := fun k => c3_div z 16 hz (by decide) k
  rw [show divF x 16 = x / 16 from rfl] at dx
  rw [show divF z 16 = z / 16 from rfl] at dz
  have DX := Lib.hid dx
  have DZ := Lib.hid dz
  clear dx dz
  go_enter Try.func24, Try.ntmps24
  go_wp2_with fail
  refine region_below 7 (by kernel_rfl) (by kernel_rfl) ?_
  simp only [List.take_succ_cons, List.take_zero, List.drop_succ_cons, List.drop_zero]
  repeat (first | (refine' InText.skip (by rfl) ?_; simp only [Act.put, List.setIfInBounds_toArray, List.set_cons_zero, List.set_cons_succ]) | (refine' InText.val (by rfl) (fun wr hr => ?_) ?_; rotate_left 1; (focus (obtain ⟨hrc, hrf⟩ := bcell hr; (go_simp <;> with_reducible rfl); done)); simp only [Act.put, List.setIfInBounds_toArray, List.set_cons_zero, List.set_cons_succ]) | (refine' InText.call (by rfl) (fun wr hr => ?_) (fun wr hr => ?_) ?_; rotate_left 3; (focus ((go_simp <;> (first | with_reducible rfl | exact ⟨rfl, rfl⟩)); done)); (focus (first | with_reducible exact pureB (DX.out _) | with_reducible exact pureB (DZ.out _))); simp only [Act.put, List.setIfInBounds_toArray, List.set_cons_zero, List.set_cons_succ]))
  refine fun wr hr => ?_
  obtain ⟨hrc, hrf⟩ := bcell hr
  go_wp2
  refine bodyPost_ret (v := posV (x / 16) (z / 16)) (by simp [results, Try.results24, go_sem, *]; done) rfl ⟨rfl, ?_⟩
  (repeat (first | with_reducible assumption | with_reducible exact Below.refl _ _ | with_reducible refine Below.drew ?_ | with_reducible refine below_drewN ?_ _ | with_reducible refine al ?_ _ | (with_reducible refine sc ?_ ?_; (focus (first | omega | (simp; done) | (simp; omega)))) | (with_reducible refine chain ?_ (by assumption))))
end Go.Proofs.Ytenpcmhfbbfpeaa
