/- Contracts of layer 3's reference (cells). A cell is three whole numbers (vecV), a chunk's place two (posV). -/
import Derived.Test.YtenpcmhfbbfpeaaR02
import Derived.Test.YtenpcmhfbbfpeaaR04
set_option linter.unusedVariables false
namespace Go.Proofs.Ytenpcmhfbbfpeaa
open Go.ChangeShapes Go.WideShapes Go.ChangeAt Go.RowKit
abbrev posV (x z : Int) : Value := .agg #[.int .i64 x, .int .i64 z]
def cellC (n : Int) : Int := min (max n (-2147483648)) 2147483648
def divF (a b : Int) : Int := if b < 1 then 0 else a / b
def modF (a b : Int) : Int := if b < 1 then 0 else a % b
theorem r3_div (a b : Int) (ha : i64 a) (hb : i64 b) (w : World) : Calls Try.prog 49 #[.int .i64 a, .int .i64 b] w fun e w' => e = .returned (.int .i64 (divF a b)) ∧ w = w' := by
  unfold divF
  by_cases h : b < 1
  · rw [if_pos h]
    go_enter Try.func49, Try.ntmps49
    go_wp2
    go_ret
    exact ⟨rfl, rfl⟩
  · rw [if_neg h]
    go_enter Try.func49, Try.ntmps49
    go_wp2_with (go_at_call 60; refine (r_div _ _ ha.1 ha.2 (by omega) hb.2 _).mono ?_; rintro e w' ⟨rfl, rfl⟩)
    go_ret
    exact ⟨rfl, rfl⟩
theorem r3_mod (a b : Int) (ha : i64 a) (hb : i64 b) (w : World) : Calls Try.prog 15 #[.int .i64 a, .int .i64 b] w fun e w' => e = .returned (.int .i64 (modF a b)) ∧ w = w' := by
  unfold modF
  by_cases h : b < 1
  · rw [if_pos h]
    go_enter Try.func15, Try.ntmps15
    go_wp2
    go_ret
    exact ⟨rfl, rfl⟩
  · rw [if_neg h]
    have hb0 : (b == 0) = false := by rw [beq_eq_false_iff_ne]; omega
    have e : a.tmod b = if 0 ≤ a ∨ a % b = 0 then a % b else a % b - b := by
      have nb : ((b.natAbs : Nat) : Int) = b := by omega
      rw [Int.tmod_eq_emod]
      by_cases h0 : 0 ≤ a
      · simp [h0]
      · by_cases hd : b ∣ a
        · have := Int.emod_eq_zero_of_dvd hd; simp [hd, this]
        · have : ¬ a % b = 0 := fun hh => hd (Int.dvd_of_emod_eq_zero hh)
          simp [h0, hd, this, nb]
    have r0 := Int.emod_nonneg a (show b ≠ 0 by omega)
    have r1 := Int.emod_lt_of_pos a (show 0 < b by omega)
    obtain ⟨t, ht⟩ : ∃ t, a.tmod b = t := ⟨_, rfl⟩
    obtain ⟨m, hm⟩ : ∃ m, a % b = m := ⟨_, rfl⟩
    rw [ht, hm] at e
    rw [hm] at r0 r1
    have HE := Lib.hid e
    by_cases hn : t < 0
    · have bt : (-9223372036854775808 ≤ t + b ∧ t + b ≤ 9223372036854775807) ∧ t + b = m := by split at e <;> omega
      obtain ⟨bt, ht2⟩ := bt
      have HT := Lib.hid ht2
      clear e ht2
      go_enter Try.func15, Try.ntmps15
      go_wp2
      go_ret
      exact ⟨ret_int HT.out, rfl⟩
    · have ht2 : t = m := by split at e <;> omega
      have HT := Lib.hid ht2
      clear e ht2
      go_enter Try.func15, Try.ntmps15
      go_wp2
      go_ret
      exact ⟨ret_int HT.out, rfl⟩
theorem r3_cut (x y z : Int) (w : World) : Calls Try.prog 23 #[vecV x y z] w fun e w' => e = .returned (vecV (cellC x) (cellC y) (cellC z)) ∧ Below w.heap.size w w' := by
  go_enter Try.func23, Try.ntmps23
  go_upto_region 1 with (fail)
  refine plain_below 13 ?_
  simp only [List.take_succ_cons, List.take_zero, List.drop_succ_cons, List.drop_zero]
  repeat (first | (refine' InText.skip (by rfl) ?_; simp only [Act.put, List.setIfInBounds_toArray, List.set_cons_zero, List.set_cons_succ]) | (refine' InText.val (by rfl) (fun wr hr => ?_) ?_; rotate_left 1; (focus (obtain ⟨hrc, hrf⟩ := bcell hr; (go_simp <;> with_reducible rfl); done)); simp only [Act.put, List.setIfInBounds_toArray, List.set_cons_zero, List.set_cons_succ]))
  refine fun wr hr => ?_
  obtain ⟨hrc, hrf⟩ := bcell hr
  go_wp2_with fail
  refine bodyPost_ret (v := vecV (cellC x) (cellC y) (cellC z)) (by unfold cellC; simp [results, Try.results23, go_sem, *]; done) rfl ⟨rfl, ?_⟩
  (repeat (first | with_reducible assumption | with_reducible exact Below.refl _ _ | with_reducible refine Below.drew ?_ | with_reducible refine below_drewN ?_ _ | with_reducible refine al ?_ _ | (with_reducible refine sc ?_ ?_; (focus (first | omega | (simp; done) | (simp; omega)))) | (with_reducible refine chain ?_ (by assumption))))
theorem r3_floor (a : Int) (w : World) : Calls Try.prog 46 #[.int .i64 a] w fun e w' => e = .returned (.int .i64 (cut a / 65536)) ∧ w = w' := by
  have hb := cut_bd a
  go_enter Try.func46, Try.ntmps46
  go_wp2_with (first | (go_at_call 45; refine (r_cut _ _).mono ?_; rintro e w' ⟨rfl, rfl⟩) | (go_at_call 60; refine (r_div _ _ (by omega) (by omega) (by omega) (by omega) _).mono ?_; rintro e w' ⟨rfl, rfl⟩))
  go_ret
  exact ⟨rfl, rfl⟩
theorem r3_of (x y z : Int) (w : World) : Calls Try.prog 19 #[vecV x y z] w fun e w' => e = .returned (vecV (cut x / 65536) (cut y / 65536) (cut z / 65536)) ∧ Below w.heap.size w w' := by
  go_enter Try.func19, Try.ntmps19
  go_wp2_with fail
  refine region_below 10 (by kernel_rfl) (by kernel_rfl) ?_
  simp only [List.take_succ_cons, List.take_zero, List.drop_succ_cons, List.drop_zero]
  repeat (first | (refine' InText.skip (by rfl) ?_; simp only [Act.put, List.setIfInBounds_toArray, List.set_cons_zero, List.set_cons_succ]) | (refine' InText.val (by rfl) (fun wr hr => ?_) ?_; rotate_left 1; (focus (obtain ⟨hrc, hrf⟩ := bcell hr; (go_simp <;> with_reducible rfl); done)); simp only [Act.put, List.setIfInBounds_toArray, List.set_cons_zero, List.set_cons_succ]) | (refine' InText.call (by rfl) (fun wr hr => ?_) (fun wr hr => ?_) ?_; rotate_left 3; (focus ((go_simp <;> (first | with_reducible rfl | exact ⟨rfl, rfl⟩)); done)); (focus (first | with_reducible exact pureB (r3_floor _ _))); simp only [Act.put, List.setIfInBounds_toArray, List.set_cons_zero, List.set_cons_succ]))
  refine fun wr hr => ?_
  obtain ⟨hrc, hrf⟩ := bcell hr
  go_wp2
  refine bodyPost_ret (v := vecV (cut x / 65536) (cut y / 65536) (cut z / 65536)) (by simp [results, Try.results19, go_sem, *]; done) rfl ⟨rfl, ?_⟩
  (repeat (first | with_reducible assumption | with_reducible exact Below.refl _ _ | with_reducible refine Below.drew ?_ | with_reducible refine below_drewN ?_ _ | with_reducible refine al ?_ _ | (with_reducible refine sc ?_ ?_; (focus (first | omega | (simp; done) | (simp; omega)))) | (with_reducible refine chain ?_ (by assumption))))
theorem r3_chunk (x y z : Int) (hx : i64 x) (hz : i64 z) (w : World) : Calls Try.prog 27 #[vecV x y z] w fun e w' => e = .returned (posV (x / 16) (z / 16)) ∧ Below w.heap.size w w' := by
  have dx := fun k => r3_div x 16 hx (by decide) k
  have dz := fun k => r3_div z 16 hz (by decide) k
  rw [show divF x 16 = x / 16 from rfl] at dx
  rw [show divF z 16 = z / 16 from rfl] at dz
  have DX := Lib.hid dx
  have DZ := Lib.hid dz
  clear dx dz
  go_enter Try.func27, Try.ntmps27
  go_wp2_with fail
  refine region_below 7 (by kernel_rfl) (by kernel_rfl) ?_
  simp only [List.take_succ_cons, List.take_zero, List.drop_succ_cons, List.drop_zero]
  repeat (first | (refine' InText.skip (by rfl) ?_; simp only [Act.put, List.setIfInBounds_toArray, List.set_cons_zero, List.set_cons_succ]) | (refine' InText.val (by rfl) (fun wr hr => ?_) ?_; rotate_left 1; (focus (obtain ⟨hrc, hrf⟩ := bcell hr; (go_simp <;> with_reducible rfl); done)); simp only [Act.put, List.setIfInBounds_toArray, List.set_cons_zero, List.set_cons_succ]) | (refine' InText.call (by rfl) (fun wr hr => ?_) (fun wr hr => ?_) ?_; rotate_left 3; (focus ((go_simp <;> (first | with_reducible rfl | exact ⟨rfl, rfl⟩)); done)); (focus (first | with_reducible exact pureB (DX.out _) | with_reducible exact pureB (DZ.out _))); simp only [Act.put, List.setIfInBounds_toArray, List.set_cons_zero, List.set_cons_succ]))
  refine fun wr hr => ?_
  obtain ⟨hrc, hrf⟩ := bcell hr
  go_wp2
  refine bodyPost_ret (v := posV (x / 16) (z / 16)) (by simp [results, Try.results27, go_sem, *]; done) rfl ⟨rfl, ?_⟩
  (repeat (first | with_reducible assumption | with_reducible exact Below.refl _ _ | with_reducible refine Below.drew ?_ | with_reducible refine below_drewN ?_ _ | with_reducible refine al ?_ _ | (with_reducible refine sc ?_ ?_; (focus (first | omega | (simp; done) | (simp; omega)))) | (with_reducible refine chain ?_ (by assumption))))
def idxF (x y z : Int) : Int := y * 256 + z % 16 * 16 + x % 16
theorem r3_index (x y z : Int) (hx : i64 x) (hz : i64 z) (h0 : 0 ≤ y) (h1 : y ≤ 31) (w : World) : Calls Try.prog 26 #[vecV x y z] w fun e w' => e = .returned (.tuple #[.int .i64 (idxF x y z), .bool true]) ∧ Below w.heap.size w w' := by
  have dx := fun k => r3_mod x 16 hx (by decide) k
  have dz := fun k => r3_mod z 16 hz (by decide) k
  rw [show modF x 16 = x % 16 from rfl] at dx
  rw [show modF z 16 = z % 16 from rfl] at dz
  have bx : 0 ≤ x % 16 ∧ x % 16 ≤ 15 := by omega
  have bz : 0 ≤ z % 16 ∧ z % 16 ≤ 15 := by omega
  unfold idxF
  obtain ⟨p, hp⟩ : ∃ p, x % 16 = p := ⟨_, rfl⟩
  obtain ⟨q, hq⟩ : ∃ q, z % 16 = q := ⟨_, rfl⟩
  rw [hp] at dx bx ⊢
  rw [hq] at dz bz ⊢
  have DX := Lib.hid dx
  have DZ := Lib.hid dz
  clear dx dz hp hq
  have m1 : IntKind.i64.wrap (y * 256) = y * 256 := IntWalk.i64_in _ (by omega)
  have m2 : IntKind.i64.wrap (q * 16) = q * 16 := IntWalk.i64_in _ (by omega)
  have m3 : IntKind.i64.wrap (y * 256 + q * 16) = y * 256 + q * 16 := IntWalk.i64_in _ (by omega)
  have m4 : IntKind.i64.wrap (y * 256 + q * 16 + p) = y * 256 + q * 16 + p := IntWalk.i64_in _ (by omega)
  go_enter Try.func26, Try.ntmps26
  go_wp2_with fail
  refine region_below 12 (by kernel_rfl) (by kernel_rfl) ?_
  simp only [List.take_succ_cons, List.take_zero, List.drop_succ_cons, List.drop_zero]
  repeat (first | (refine' InText.skip (by rfl) ?_; simp only [Act.put, List.setIfInBounds_toArray, List.set_cons_zero, List.set_cons_succ]) | (refine' InText.val (by rfl) (fun wr hr => ?_) ?_; rotate_left 1; (focus (obtain ⟨hrc, hrf⟩ := bcell hr; (go_simp <;> with_reducible rfl); done)); simp only [Act.put, List.setIfInBounds_toArray, List.set_cons_zero, List.set_cons_succ]) | (refine' InText.call (by rfl) (fun wr hr => ?_) (fun wr hr => ?_) ?_; rotate_left 3; (focus ((go_simp <;> (first | with_reducible rfl | exact ⟨rfl, rfl⟩)); done)); (focus (first | with_reducible exact pureB (DX.out _) | with_reducible exact pureB (DZ.out _))); simp only [Act.put, List.setIfInBounds_toArray, List.set_cons_zero, List.set_cons_succ]))
  refine fun wr hr => ?_
  obtain ⟨hrc, hrf⟩ := bcell hr
  go_wp2
  go_ret2
  exact ⟨rfl, by (repeat (first | with_reducible assumption | with_reducible exact Below.refl _ _ | with_reducible refine Below.drew ?_ | with_reducible refine below_drewN ?_ _ | with_reducible refine al ?_ _ | (with_reducible refine sc ?_ ?_; (focus (first | omega | (simp; done) | (simp; omega)))) | (with_reducible refine chain ?_ (by assumption))))⟩
theorem r3_index_no (x y z : Int) (h : y < 0 ∨ 31 < y) (w : World) : Calls Try.prog 26 #[vecV x y z] w fun e w' => e = .returned (.tuple #[.int .i64 0, .bool false]) ∧ Below w.heap.size w w' := by
  rcases h with h | h
  all_goals
    go_enter Try.func26, Try.ntmps26
    go_wp2
    go_ret2
    exact ⟨rfl, by (repeat (first | with_reducible assumption | with_reducible exact Below.refl _ _ | with_reducible refine Below.drew ?_ | with_reducible refine below_drewN ?_ _ | with_reducible refine al ?_ _ | (with_reducible refine sc ?_ ?_; (focus (first | omega | (simp; done) | (simp; omega)))) | (with_reducible refine chain ?_ (by assumption))))⟩
end Go.Proofs.Ytenpcmhfbbfpeaa
