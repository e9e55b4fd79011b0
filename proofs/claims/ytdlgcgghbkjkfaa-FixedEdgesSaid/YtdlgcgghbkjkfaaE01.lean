/- Contracts of layer 1's calls that take or give floats. -/
import Derived.Test.YtdlgcgghbkjkfaaD01
import Derived.Test.YtdlgcgghbkjkfaaG01
import Derived.Laws.Externs
set_option linter.unusedVariables false
namespace Go.Proofs.Ytdlgcgghbkjkfaa
open Go.ChangeShapes Go.WideShapes Go.ChangeAt Go.RowKit Ieee

theorem fin_far {f : Nat} {x : Int} (h : Like f x) (h0 : -(2147483648 * U) ≤ x) (h1 : x ≤ 2147483648 * U) : Fin f x := by
  have := U_pos
  rcases h with h | ⟨_, h⟩ | ⟨_, h⟩
  · exact h
  · omega
  · omega
theorem k31 : Fin 4746794007248502784 (2147483648 * U) := by
  have := fin_int 2147483648 (by omega) (by omega)
  rwa [show floatOfInt .f64 2147483648 = 4746794007248502784 from by decide +kernel] at this
theorem k31n : Fin 13970166044103278592 (-2147483648 * U) := by
  have := fin_int (-2147483648) (by omega) (by omega)
  rwa [show floatOfInt .f64 (-2147483648) = 13970166044103278592 from by decide +kernel] at this
def fromN (x : Int) : Int := if 2147483648 * U < x then 140737488355328 else if x < -2147483648 * U then -140737488355328 else x * 65536 / U
def fromE (x : Int) : Int := if 2147483648 * U < x then 5 else if x < -2147483648 * U then 5 else 0
theorem c_nan_no (f : Nat) (x : Int) (h : Like f x) (w : World) : Calls Try.prog 32 #[.float .f64 f] w fun e w' => e = .returned (.bool false) ∧ w = w' := by
  have h1 : FloatKind.f64.format.order f f = some .eq := order_self h
  go_enter Try.func32, Try.ntmps32
  go_wp2
  go_ret
  exact ⟨rfl, rfl⟩
theorem c_nan_yes (f : Nat) (s : Bool) (t : Nat) (h : double.read f = .nan s t) (w : World) : Calls Try.prog 32 #[.float .f64 f] w fun e w' => e = .returned (.bool true) ∧ w = w' := by
  have h1 : FloatKind.f64.format.order f f = none := (order_nan h).1
  go_enter Try.func32, Try.ntmps32
  go_wp2
  go_ret
  exact ⟨rfl, rfl⟩
theorem floor_run (x : Nat) (v : Int) (h : Fin x v) (w : World) :
    (callFunc 38 #[.float .f64 x]).run Try.prog w = .ok (.value (.float .f64 (double.write ((double.read x).integral .down)))) w := by
  rw [run_callFunc_extern (e := Extern.MathFloor.toIntegral "math.archFloor" .down) Try.func38 (by kernel_rfl) (by kernel_rfl) (by kernel_rfl) (by kernel_rfl)]
  obtain ⟨s, M, E, hr, _⟩ := h
  have hd : FloatKind.f64.decode x = .number s M E := hr
  have e : Extern.MathFloor.toIntegral "math.archFloor" .down #[.float .f64 x] = pure (.float .f64 (double.write ((double.read x).integral .down))) := by
    rw [hr]
    have g : ∀ d, FloatKind.f64.decode x = d → (∃ s M E, d = .number s M E) → Extern.MathFloor.toIntegral "math.archFloor" .down #[.float .f64 x] = pure (Value.float .f64 (double.write (d.integral .down))) := by
      intro d hdd ⟨s, M, E, he⟩
      subst he
      show (match FloatKind.f64.decode x with
        | .nan s t => (_ : Sem Value)
        | d => (pure (Value.float FloatKind.f64 (FloatKind.f64.encode (d.integral .down))) : Sem Value)) = _
      rw [hdd]
      rfl
    exact g _ hd ⟨s, M, E, rfl⟩
  rw [e]; rfl
theorem c_floorf (x : Nat) (v : Int) (h : Fin x v) (w : World) : Calls Try.prog 33 #[.float .f64 x] w fun e w' => e = .returned (.float .f64 (double.write ((double.read x).integral .down))) ∧ w = w' := by
  have hf := floor_run x v h
  go_enter Try.func33, Try.ntmps33
  go_wp2
  go_ret
  exact ⟨rfl, rfl⟩
theorem c_from_nan (f : Nat) (s : Bool) (t : Nat) (h : double.read f = .nan s t) (w : World) : Calls Try.prog 25 #[.float .f64 f] w fun e w' => e = .returned (.tuple #[.int .i64 0, .int .i64 1]) ∧ w = w' := by
  go_enter Try.func25, Try.ntmps25
  go_wp2_with (go_at_call 32; refine (c_nan_yes f s t h _).mono ?_; rintro e w' ⟨rfl, rfl⟩)
  go_ret2
  exact ⟨rfl, rfl⟩
theorem c_from (f : Nat) (x : Int) (h : Like f x) (w : World) : Calls Try.prog 25 #[.float .f64 f] w fun e w' => e = .returned (.tuple #[.int .i64 (fromN x), .int .i64 (fromE x)]) ∧ w = w' := by
  have up := U_pos
  have o1 := (order_like h k31 (by omega) (by omega)).1
  have o2 := (order_like h k31n (by omega) (by omega)).1
  by_cases h1 : 2147483648 * U < x
  · rw [cmp_gt h1] at o1
    have o1' : FloatKind.f64.format.order f 4746794007248502784 = some .gt := o1
    have r1 := Lib.hid (show fromN x = 140737488355328 by unfold fromN; rw [if_pos h1])
    have r2 := Lib.hid (show fromE x = 5 by unfold fromE; rw [if_pos h1])
    clear o1 o2 h1
    go_enter Try.func25, Try.ntmps25
    go_wp2_with (go_at_call 32; refine (c_nan_no f x h _).mono ?_; rintro e w' ⟨rfl, rfl⟩)
    go_ret2
    exact ⟨ret_2 r1.out.symm r2.out.symm, rfl⟩
  · have o1' : (FloatKind.f64.format.order f 4746794007248502784 == some .gt) = false := by
      show (double.order f 4746794007248502784 == some .gt) = false
      rw [o1]
      rcases Int.lt_or_eq_of_le (show x ≤ 2147483648 * U by omega) with hh | hh
      · rw [cmp_lt hh]; rfl
      · rw [cmp_eq hh]; rfl
    by_cases h2 : x < -2147483648 * U
    · rw [cmp_lt h2] at o2
      have o2' : FloatKind.f64.format.order f 13970166044103278592 = some .lt := o2
      have r1 := Lib.hid (show fromN x = -140737488355328 by unfold fromN; rw [if_neg h1, if_pos h2])
      have r2 := Lib.hid (show fromE x = 5 by unfold fromE; rw [if_neg h1, if_pos h2])
      clear o1 o2 h1 h2
      go_enter Try.func25, Try.ntmps25
      go_wp2_with (go_at_call 32; refine (c_nan_no f x h _).mono ?_; rintro e w' ⟨rfl, rfl⟩)
      go_ret2
      exact ⟨ret_2 r1.out.symm r2.out.symm, rfl⟩
    · have o2' : (FloatKind.f64.format.order f 13970166044103278592 == some .lt) = false := by
        show (double.order f 13970166044103278592 == some .lt) = false
        rw [o2]
        rcases Int.lt_or_eq_of_le (show -2147483648 * U ≤ x by omega) with hh | hh
        · rw [cmp_gt hh]; rfl
        · rw [cmp_eq hh.symm]; rfl
      have r1 := Lib.hid (show fromN x = x * 65536 / U by unfold fromN; rw [if_neg h1, if_neg h2])
      have r2 := Lib.hid (show fromE x = 0 by unfold fromE; rw [if_neg h1, if_neg h2])
      obtain ⟨r, hm, hl⟩ := like_mul (Or.inl (fin_far h (by omega) (by omega)))
      have hfr : Fin r (x * 65536) := by
        rcases hl with hl | ⟨_, hl⟩ | ⟨_, hl⟩
        · exact hl
        · omega
        · omega
      have hfl := floor_val hfr (by omega) (by omega)
      have hti := toInt_val hfl
      have b0 : -140737488355328 ≤ x * 65536 / U := (Int.le_ediv_iff_mul_le up).2 (by omega)
      have b1 : x * 65536 / U ≤ 140737488355328 := by
        have := Int.ediv_le_ediv up (show x * 65536 ≤ 140737488355328 * U by omega)
        rwa [Int.mul_ediv_cancel _ (by omega)] at this
      generalize x * 65536 / U = N at *
      have hbits : floatBits .mul .f64 f 4679240012837945344 = some r := hm
      have hconv : floatToIntVal .f64 (double.write ((double.read r).integral .down)) .i64 = some N := by
        unfold floatToIntVal
        have : (FloatKind.f64.decode (double.write ((double.read r).integral .down))).toInt .zero = some N := hti
        rw [this]
        have m0 : IntKind.i64.min = -9223372036854775808 := by decide
        have m1 : IntKind.i64.max = 9223372036854775807 := by decide
        simp only [m0, m1]
        rw [if_pos ⟨by omega, by omega⟩]
      clear o1 o2 h1 h2 hm hl hfl hti b0 b1
      have rc := fun (w : World) => run_convert_float_int (P := Try.prog) w 29 3 .f64 .i64 _ N (by kernel_rfl) (by kernel_rfl) hconv
      have rm := fun (w : World) (t : TypeId) => run_float_arith (P := Try.prog) w .mul t .f64 f 4679240012837945344 r hbits
      clear hconv hbits
      have cf := c_floorf r _ hfr
      generalize double.write ((double.read r).integral .down) = y at rc cf
      have Cf := Lib.hid cf
      clear cf hfr
      go_enter Try.func25, Try.ntmps25
      go_wp2_with (first | (go_at_call 32; refine (c_nan_no f x h _).mono ?_; rintro e w' ⟨rfl, rfl⟩))
      refine (Cf.out _).mono ?_
      rintro e w' ⟨rfl, rfl⟩
      go_wp2
      go_ret2
      exact ⟨ret_2 r1.out.symm r2.out.symm, rfl⟩
theorem k47 : Fin 4818851601286430720 (140737488355328 * U) := by
  have := fin_int 140737488355328 (by omega) (by omega)
  rwa [show floatOfInt .f64 140737488355328 = 4818851601286430720 from by decide +kernel] at this
theorem k47n : Fin 14042223638141206528 (-140737488355328 * U) := by
  have := fin_int (-140737488355328) (by omega) (by omega)
  rwa [show floatOfInt .f64 (-140737488355328) = 14042223638141206528 from by decide +kernel] at this
theorem quo_at {X lo : Int} (h0 : lo * U ≤ X) (h1 : X < (lo + 1) * U) : X / U = lo := by
  have up := U_pos
  have a := (Int.le_ediv_iff_mul_le up).2 h0
  have b := (Int.ediv_lt_iff_lt_mul up).2 h1
  omega
theorem r_from_nan (f : Nat) (s : Bool) (t : Nat) (h : double.read f = .nan s t) (w : World) : Calls Try.prog 26 #[.float .f64 f] w fun e w' => e = .returned (.tuple #[.int .i64 0, .int .i64 1]) ∧ w' = w.drew := by
  have h1 : FloatKind.f64.format.order f f = none := (order_nan h).1
  have h2 := run_mul_nan (P := Try.prog) f 4679240012837945344 (mul_nan h)
  go_enter Try.func26, Try.ntmps26
  go_wp2
  go_ret2
  exact ⟨rfl, rfl⟩
set_option maxHeartbeats 400000 in
theorem r_from (f : Nat) (x : Int) (h : Like f x) (w : World) : Calls Try.prog 26 #[.float .f64 f] w fun e w' => e = .returned (.tuple #[.int .i64 (fromN x), .int .i64 (fromE x)]) ∧ w = w' := by
  have up := U_pos
  obtain ⟨r, hm, hl⟩ := like_mul h
  have hs : FloatKind.f64.format.order f f = some .eq := order_self h
  have hbits : floatBits .mul .f64 f 4679240012837945344 = some r := hm
  have rm := fun (w : World) (t : TypeId) => run_float_arith (P := Try.prog) w .mul t .f64 f 4679240012837945344 r hbits
  have o1 := (order_like hl k47 (by omega) (by omega)).1
  have o2 := (order_like hl k47n (by omega) (by omega)).1
  clear hm hbits
  by_cases h1 : 2147483648 * U < x
  · rw [cmp_gt (show 140737488355328 * U < x * 65536 by omega)] at o1
    have o1' : FloatKind.f64.format.order r 4818851601286430720 = some .gt := o1
    have r1 := Lib.hid (show fromN x = 140737488355328 by unfold fromN; rw [if_pos h1])
    have r2 := Lib.hid (show fromE x = 5 by unfold fromE; rw [if_pos h1])
    clear o1 o2 h1 hl h
    go_enter Try.func26, Try.ntmps26
    go_wp2
    go_ret2
    exact ⟨ret_2 r1.out.symm r2.out.symm, rfl⟩
  · have o1' : (FloatKind.f64.format.order r 4818851601286430720 == some .gt) = false := by
      show (double.order r 4818851601286430720 == some .gt) = false
      rw [o1]
      rcases Int.lt_or_eq_of_le (show x * 65536 ≤ 140737488355328 * U by omega) with hh | hh
      · rw [cmp_lt hh]; rfl
      · rw [cmp_eq hh]; rfl
    by_cases h2 : x < -2147483648 * U
    · rw [cmp_lt (show x * 65536 < -140737488355328 * U by omega)] at o2
      have o2' : FloatKind.f64.format.order r 14042223638141206528 = some .lt := o2
      have r1 := Lib.hid (show fromN x = -140737488355328 by unfold fromN; rw [if_neg h1, if_pos h2])
      have r2 := Lib.hid (show fromE x = 5 by unfold fromE; rw [if_neg h1, if_pos h2])
      clear o1 o2 h1 h2 hl h
      go_enter Try.func26, Try.ntmps26
      go_wp2
      go_ret2
      exact ⟨ret_2 r1.out.symm r2.out.symm, rfl⟩
    · have o2' : (FloatKind.f64.format.order r 14042223638141206528 == some .lt) = false := by
        show (double.order r 14042223638141206528 == some .lt) = false
        rw [o2]
        rcases Int.lt_or_eq_of_le (show -140737488355328 * U ≤ x * 65536 by omega) with hh | hh
        · rw [cmp_gt hh]; rfl
        · rw [cmp_eq hh.symm]; rfl
      have r1 := Lib.hid (show fromN x = x * 65536 / U by unfold fromN; rw [if_neg h1, if_neg h2])
      have r2 := Lib.hid (show fromE x = 0 by unfold fromE; rw [if_neg h1, if_neg h2])
      have hfr : Fin r (x * 65536) := by
        rcases hl with hl | ⟨_, hl⟩ | ⟨_, hl⟩
        · exact hl
        · omega
        · omega
      have b0 : -140737488355328 * U ≤ x * 65536 := by omega
      have b1 : x * 65536 < 140737488355329 * U := by omega
      clear o1 o2 h1 h2 hl h
      generalize x * 65536 = X at *
      have B0 := Lib.hid b0
      have B1 := Lib.hid b1
      have HF := Lib.hid hfr
      have UP := Lib.hid up
      clear b0 b1 hfr up
      go_enter Try.func26, Try.ntmps26
      go_wp2
      go_loop [5, 6] (fun l g => ∃ lo hi : Int, l = .int .i64 lo ∧ g = .int .i64 hi ∧ -140737488355328 ≤ lo ∧ lo < hi ∧ hi ≤ 140737488355329 ∧ Hid (lo * U ≤ X) ∧ Hid (X < hi * U)) (fun l g => (intOf g - intOf l).toNat)
      case atStart => exact ⟨_, _, rfl, rfl, by omega, by omega, by omega, B0, B1⟩
      case round =>
        obtain ⟨lo, hi, rfl, rfl, c0, c1, c2, c3, c4⟩ := hrel
        by_cases hg : 1 < hi - lo
        · have ov := order_val (fin_int (lo + (hi - lo) / 2) (by omega) (by omega)) HF.out
          rcases Int.lt_trichotomy ((lo + (hi - lo) / 2) * U) X with hh | hh | hh
          · rw [cmp_lt hh] at ov
            have ov' : FloatKind.f64.format.order (floatOfInt .f64 (lo + (hi - lo) / 2)) r = some .lt := ov
            have HH := Lib.hid hh
            clear ov hh
            go_wp2
            go_round
            case rel => exact ⟨_, _, rfl, rfl, by omega, by omega, by omega, Lib.hid (Int.le_of_lt HH.out), c4⟩
            case measure => simp [intOf]; omega
          · rw [cmp_eq hh] at ov
            have ov' : FloatKind.f64.format.order (floatOfInt .f64 (lo + (hi - lo) / 2)) r = some .eq := ov
            have HH := Lib.hid hh
            clear ov hh
            go_wp2
            go_round
            case rel => exact ⟨_, _, rfl, rfl, by omega, by omega, by omega, Lib.hid (Int.le_of_eq HH.out), c4⟩
            case measure => simp [intOf]; omega
          · rw [cmp_gt hh] at ov
            have ov' : FloatKind.f64.format.order (floatOfInt .f64 (lo + (hi - lo) / 2)) r = some .gt := ov
            have HH := Lib.hid hh
            clear ov hh
            go_wp2
            go_round
            case rel => exact ⟨_, _, rfl, rfl, by omega, by omega, by omega, c3, HH⟩
            case measure => simp [intOf]; omega
        · have hq := Lib.hid (quo_at (X := X) (lo := lo) c3.out (by have := c4.out; rwa [show hi = lo + 1 by omega] at this))
          go_wp2
          go_ret2
          exact ⟨ret_2 (by rw [r1.out, hq.out]) r2.out.symm, rfl⟩
theorem c_float (n : Int) (w : World) : Calls Try.prog 27 #[.int .i64 n] w fun e w' => ∃ r, e = .returned (.float .f64 r) ∧ Fin r (cut n * (twoPow 1058 : Int)) ∧ w = w' := by
  have hb := cut_bd n
  have h0 := fin_int (cut n) (by omega) (by omega)
  obtain ⟨r, hd, hf⟩ := div_val (floatOfInt .f64 (cut n)) (cut n) 0 16 4679240012837945344 k_read (by omega) (by omega) (by omega) h0
  have hbits : floatBits .quo .f64 (floatOfInt .f64 (cut n)) 4679240012837945344 = some r := hd
  have rm := fun (w : World) (t : TypeId) => run_float_arith (P := Try.prog) w .quo t .f64 (floatOfInt .f64 (cut n)) 4679240012837945344 r hbits
  have HF := Lib.hid hf
  clear hd hf hbits h0
  go_enter Try.func27, Try.ntmps27
  go_wp2_with (go_at_call 14; refine (c_cut _ _).mono ?_; rintro e w' ⟨rfl, rfl⟩)
  go_ret
  exact ⟨r, rfl, HF.out, rfl⟩
end Go.Proofs.Ytdlgcgghbkjkfaa
