/- Contracts of layer 1 (fixed) and of its reference: what each call answers. -/
import Derived.Test.YtaiiilccamdnbaaRows
import Derived.Test.YtaiiilccamdnbaaM01
import Derived.Test.YtaiiilccamdnbaaShelf
import Derived.WalkKit
import Derived.ProofKit
import Derived.OpenShut
import Derived.WalkLawsBesides
import Derived.WalkSpells
import Derived.Deep.QuietTactic
import Derived.BigQuiet
import Derived.Lib.Hide
import Derived.Handy
import Derived.WalkSmall
set_option linter.unusedVariables false
namespace Go.Proofs.Ytaiiilccamdnbaa
open Go.ChangeShapes Go.WideShapes Go.ChangeAt Go.RowKit
theorem c_cut (n : Int) (w : World) : Calls Try.prog 42 #[.int .i64 n] w fun e w' => e = .returned (.int .i64 (cut n)) ∧ w = w' := by
  unfold cut
  go_enter Try.func42, Try.ntmps42
  go_wp2
  all_goals
    go_ret
    exact ⟨ret_int (by omega), rfl⟩
theorem r_cut (n : Int) (w : World) : Calls Try.prog 24 #[.int .i64 n] w fun e w' => e = .returned (.int .i64 (cut n)) ∧ w = w' := by
  unfold cut
  go_enter Try.func24, Try.ntmps24
  go_wp2
  all_goals
    go_ret
    exact ⟨ret_int (by omega), rfl⟩
theorem c_add (a b : Int) (w : World) : Calls Try.prog 44 #[.int .i64 a, .int .i64 b] w fun e w' => e = .returned (.int .i64 (cut (cut a + cut b))) ∧ w = w' := by
  have ha := cut_bd a
  have hb := cut_bd b
  go_enter Try.func44, Try.ntmps44
  go_wp2_with (go_at_call 42; refine (c_cut _ _).mono ?_; rintro e w' ⟨rfl, rfl⟩)
  go_ret
  exact ⟨rfl, rfl⟩
theorem c_sub (a b : Int) (w : World) : Calls Try.prog 47 #[.int .i64 a, .int .i64 b] w fun e w' => e = .returned (.int .i64 (cut (cut a - cut b))) ∧ w = w' := by
  have ha := cut_bd a
  have hb := cut_bd b
  go_enter Try.func47, Try.ntmps47
  go_wp2_with (go_at_call 42; refine (c_cut _ _).mono ?_; rintro e w' ⟨rfl, rfl⟩)
  go_ret
  exact ⟨rfl, rfl⟩
theorem c_size (n : Int) (h0 : -140737488355328 ≤ n) (h1 : n ≤ 140737488355328) (w : World) : Calls Try.prog 64 #[.int .i64 n] w fun e w' => e = .returned (.int .u64 ((n.natAbs : Nat) : Int)) ∧ w = w' := by
  go_enter Try.func64, Try.ntmps64
  go_wp2
  all_goals
    go_ret
    exact ⟨ret_int (by omega), rfl⟩
/-- math/bits.Div64, where the high word is nought. -/
theorem c_div64_low (lo y : Int) (h0 : 0 ≤ lo) (h1 : lo < 18446744073709551616) (hy : 1 ≤ y) (hy1 : y < 18446744073709551616) (w : World) :
    Calls Try.prog 65 #[.int .u64 0, .int .u64 lo, .int .u64 y] w fun e w' => e = .returned (.tuple #[.int .u64 (lo / y), .int .u64 (lo % y)]) ∧ ∃ n, w' = w.drewN n := by
  have e0 : (y == 0) = false := by simp; omega
  have e1 : decide (y ≤ 0) = false := by simp; omega
  have e2 : ((0 : Int) == 0) = true := rfl
  go_enter Try.func65, Try.ntmps65
  go_wp2
  go_quiet (fail)
  go_wp2
  go_ret2
  exact ⟨rfl, _, rfl⟩
theorem c_lz_one (w : World) : Calls Try.prog 66 #[.int .u64 65536] w fun e w' => e = .returned (.int .i64 47) ∧ w' = w :=
  (Try.bits_LeadingZeros64 65536 w (by omega) (by omega)).mono fun e w' ⟨he, hw⟩ => ⟨by rw [he, show Lib.bitLen (65536 : Int).toNat = 17 from by decide +kernel]; rfl, hw⟩
/-- math/bits.Div64 by 65536, where the high word is not nought. -/
theorem c_div64_one (hi lo : Int) (h0 : 0 ≤ lo) (h1 : lo < 18446744073709551616) (hh : 1 ≤ hi) (hh1 : hi < 65536) (w : World) :
    Calls Try.prog 65 #[.int .u64 hi, .int .u64 lo, .int .u64 65536] w fun e w' => e = .returned (.tuple #[.int .u64 (hi * 281474976710656 + lo / 65536), .int .u64 (lo % 65536)]) ∧ ∃ n, w' = w.drewN n := by
  have e0 : (hi == 0) = false := by simp; omega
  have e1 : decide (65536 ≤ hi) = false := by simp; omega
  have b1 := and_top
  have b2 := or_high hi lo h0 h1 hh hh1
  have b3 : IntKind.u64.wrap (lo * 140737488355328) = lo % 131072 * 140737488355328 := by rw [IntKind.wrap_u64]; omega
  have b4 := and_low (lo % 131072) (by omega) (by omega)
  have b5 : IntKind.u64.wrap (IntKind.u64.wrap (IntKind.u64.wrap ((hi * 140737488355328 + lo / 131072) * 4294967296) + lo % 131072 * 140737488355328 / 4294967296) -
      IntKind.u64.wrap ((hi * 140737488355328 + lo / 131072) / 2147483648 * 9223372036854775808)) = (lo / 131072) % 2147483648 * 4294967296 + lo % 131072 * 32768 := by
    simp only [IntKind.wrap_u64]; omega
  go_enter Try.func65, Try.ntmps65
  go_wp2_with (go_at_call 66; refine (c_lz_one _).mono ?_; rintro e w' ⟨rfl, rfl⟩)
  refine wp_loop_rounds 1 ?_
  rw [rounds_succ]
  go_wp2
  refine wp_loop_rounds 1 ?_
  rw [rounds_succ]
  go_wp2
  go_ret2
  clear b1 b2 b3 b4 b5
  exact ⟨ret_2 (by (try simp only [IntKind.wrap_u64]); omega) (by (try simp only [IntKind.wrap_u64]); omega), 0, rfl⟩
theorem c_round (q r : Int) (neg : Bool) (a : Addr) (hq : 0 ≤ q) (hr : 0 ≤ r) (w : World) (hc : w.cell? a = some (.bool neg)) :
    Calls Try.prog 62 #[.int .u64 q, .int .u64 r, .pointer (some a)] w fun e w' => e = .returned (.int .i64 (roundF neg q r)) ∧ w = w' := by
  by_cases hz : 0 < r
  all_goals
    cases neg
    all_goals
      go_enter Try.func62, Try.ntmps62
      go_wp2_with (go_at_call 42; refine (c_cut _ _).mono ?_; rintro e w' ⟨rfl, rfl⟩)
      all_goals
        go_ret
        refine ⟨ret_int ?_, rfl⟩
        unfold roundF
        (try simp only [Bool.false_eq_true, if_false, if_true]); (try unfold cut); first | done | rfl | omega | (rw [if_pos (by omega)] <;> omega) | (rw [if_neg (by omega)] <;> omega)
/-- A share by 65536. -/
theorem c_share_one (a b : Int) (ha : -140737488355328 ≤ a ∧ a ≤ 140737488355328) (hb : -140737488355328 ≤ b ∧ b ≤ 140737488355328) (w : World) :
    Calls Try.prog 60 #[.int .i64 a, .int .i64 b, .int .i64 65536] w fun e w' => e = .returned (.int .i64 (shr (decide (a < 0) != decide (b < 0)) (a.natAbs * b.natAbs) 65536)) ∧ Below w.heap.size w w' := by
  have hx1 := xor_i64 a b (by omega) (by omega)
  have hx2 := xor_i64 (bits .xor .i64 a b) 65536 (by omega) (by omega)
  have hs : decide (bits .xor .i64 (bits .xor .i64 a b) 65536 < 0) = (decide (a < 0) != decide (b < 0)) := by rw [hx2.2, hx1.2]; simp
  generalize (decide (a < 0) != decide (b < 0)) = neg at hs ⊢
  clear hx1 hx2
  have hm := Try.bits_Mul64 a.natAbs b.natAbs (by omega) (by omega)
  generalize a.natAbs * b.natAbs = P at hm ⊢
  obtain ⟨hi, hhi⟩ : ∃ hi : Int, ((P / 18446744073709551616 : Nat) : Int) = hi := ⟨_, rfl⟩
  obtain ⟨lo, hlo⟩ : ∃ lo : Int, ((P % 18446744073709551616 : Nat) : Int) = lo := ⟨_, rfl⟩
  rw [hhi, hlo] at hm
  have h0 : 0 ≤ hi := by omega
  have l0 : 0 ≤ lo := by omega
  have l1 : lo < 18446744073709551616 := by omega
  have Hhi := Lib.hid hhi
  have Hlo := Lib.hid hlo
  have Hm := Lib.hid hm
  clear hm hhi hlo
  by_cases hh : 65536 ≤ hi
  · go_enter Try.func60, Try.ntmps60
    go_wp2_with (first | (go_at_call 64; refine (c_size _ (by omega) (by omega) _).mono ?_; rintro e w' ⟨rfl, rfl⟩))
    refine (Hm.out _).mono ?_
    rintro e w' ⟨rfl, rfl⟩
    go_wp2_with (first | (go_at_call 64; refine (c_size _ (by omega) (by omega) _).mono ?_; rintro e w' ⟨rfl, rfl⟩))
    refine (c_round _ _ neg ⟨w.heap.size, 0, none⟩ (by omega) (by omega) _ (by simp [go_sem])).mono ?_
    rintro e w' ⟨rfl, rfl⟩
    go_wp2
    go_ret
    exact ⟨ret_int (round_far _ _ _ _ _ (by omega) (by have := Hhi.out; omega)), (Below.refl _ _).alloc (Nat.le_refl _) _⟩
  · by_cases hz : 1 ≤ hi
    · go_enter Try.func60, Try.ntmps60
      go_wp2_with (first | (go_at_call 64; refine (c_size _ (by omega) (by omega) _).mono ?_; rintro e w' ⟨rfl, rfl⟩))
      refine (Hm.out _).mono ?_
      rintro e w' ⟨rfl, rfl⟩
      go_wp2_with (first | (go_at_call 64; refine (c_size _ (by omega) (by omega) _).mono ?_; rintro e w' ⟨rfl, rfl⟩))
      refine (c_div64_one _ _ (by omega) (by omega) (by omega) (by omega) _).mono ?_
      rintro e w' ⟨rfl, nd, rfl⟩
      go_wp2_with fail
      refine (c_round _ _ neg ⟨w.heap.size, 0, none⟩ (by omega) (by omega) _ (by simp [go_sem])).mono ?_
      rintro e w' ⟨rfl, rfl⟩
      go_wp2
      go_ret
      exact ⟨ret_int (round_shr _ _ _ _ _ (by have := Hhi.out; have := Hlo.out; omega) (by have := Hhi.out; have := Hlo.out; omega)), below_drewN ((Below.refl _ _).alloc (Nat.le_refl _) _) _⟩
    · obtain rfl : 0 = hi := by omega
      go_enter Try.func60, Try.ntmps60
      go_wp2_with (first | (go_at_call 64; refine (c_size _ (by omega) (by omega) _).mono ?_; rintro e w' ⟨rfl, rfl⟩))
      refine (Hm.out _).mono ?_
      rintro e w' ⟨rfl, rfl⟩
      go_wp2_with (first | (go_at_call 64; refine (c_size _ (by omega) (by omega) _).mono ?_; rintro e w' ⟨rfl, rfl⟩))
      refine (c_div64_low _ _ (by omega) (by omega) (by omega) (by omega) _).mono ?_
      rintro e w' ⟨rfl, nd, rfl⟩
      go_wp2_with fail
      refine (c_round _ _ neg ⟨w.heap.size, 0, none⟩ (by omega) (by omega) _ (by simp [go_sem])).mono ?_
      rintro e w' ⟨rfl, rfl⟩
      go_wp2
      go_ret
      exact ⟨ret_int (round_shr _ _ _ _ _ (by have := Hhi.out; have := Hlo.out; omega) (by have := Hhi.out; have := Hlo.out; omega)), below_drewN ((Below.refl _ _).alloc (Nat.le_refl _) _) _⟩
theorem c_share_by (a b : Int) (ha : -140737488355328 ≤ a ∧ a ≤ 140737488355328) (hb : -140737488355328 ≤ b ∧ b ≤ 140737488355328) (hn : b ≠ 0) (w : World) :
    Calls Try.prog 60 #[.int .i64 a, .int .i64 65536, .int .i64 b] w fun e w' => e = .returned (.int .i64 (shr (decide (a < 0) != decide (b < 0)) (a.natAbs * 65536) b.natAbs)) ∧ Below w.heap.size w w' := by
  have hx1 := xor_i64 a 65536 (by omega) (by omega)
  have hx2 := xor_i64 (bits .xor .i64 a 65536) b (by omega) (by omega)
  have hs : decide (bits .xor .i64 (bits .xor .i64 a 65536) b < 0) = (decide (a < 0) != decide (b < 0)) := by rw [hx2.2, hx1.2]; simp
  generalize (decide (a < 0) != decide (b < 0)) = neg at hs ⊢
  clear hx1 hx2
  have hm := Try.bits_Mul64 a.natAbs 65536 (by omega) (by omega)
  obtain ⟨P, hP⟩ : ∃ P : Nat, a.natAbs * 65536 = P := ⟨_, rfl⟩
  have p1 : P ≤ 9223372036854775808 := by omega
  rw [show ((a.natAbs * 65536 / 18446744073709551616 : Nat) : Int) = 0 by omega, show ((a.natAbs * 65536 % 18446744073709551616 : Nat) : Int) = (P : Int) by omega] at hm
  rw [hP]
  clear hP
  have Hm := Lib.hid hm
  clear hm
  have n1 : 1 ≤ (b.natAbs : Int) := by omega
  have n2 : decide ((0 : Int) ≥ b.natAbs) = false := by simp; omega
  go_enter Try.func60, Try.ntmps60
  go_wp2_with (first | (go_at_call 64; refine (c_size _ (by omega) (by omega) _).mono ?_; rintro e w' ⟨rfl, rfl⟩))
  refine (Hm.out _).mono ?_
  rintro e w' ⟨rfl, rfl⟩
  go_wp2_with (first | (go_at_call 64; refine (c_size _ (by omega) (by omega) _).mono ?_; rintro e w' ⟨rfl, rfl⟩))
  refine (c_div64_low _ _ (by omega) (by omega) (by omega) (by omega) _).mono ?_
  rintro e w' ⟨rfl, nd, rfl⟩
  go_wp2_with fail
  refine (c_round _ _ neg ⟨w.heap.size, 0, none⟩ (Int.ediv_nonneg (by omega) (by omega)) (Int.emod_nonneg _ (by omega)) _ (by simp [go_sem])).mono ?_
  rintro e w' ⟨rfl, rfl⟩
  go_wp2
  go_ret
  exact ⟨ret_int (round_shr _ _ _ _ _ rfl rfl), below_drewN ((Below.refl _ _).alloc (Nat.le_refl _) _) _⟩
theorem c_mul (a b : Int) (w : World) : Calls Try.prog 50 #[.int .i64 a, .int .i64 b] w fun e w' => e = .returned (.int .i64 (mulF a b)) ∧ Below w.heap.size w w' := by
  have ha := cut_bd a
  have hb := cut_bd b
  have H := Lib.hid (shr_mul a b)
  go_enter Try.func50, Try.ntmps50
  go_wp2_with (first | (go_at_call 42; refine (c_cut _ _).mono ?_; rintro e w' ⟨rfl, rfl⟩) | (go_at_call 60; refine (c_share_one _ _ (by omega) (by omega) _).mono ?_; rintro e w' ⟨rfl, hw⟩))
  go_ret
  exact ⟨ret_int H.out, hw⟩
