/- Texts behind each other. -/
import Derived.Test.YtlmekadgcllndaaZ02
import Derived.Laws.Rows
import Derived.Laws.Tables
import Derived.Laws.CopyOwn
import Derived.KernelRfl
import Derived.Laws.AppendOwn
/- Contracts of layer 3's reference (cells). A cell is three whole numbers (vecV), a chunk's place two (posV). -/
set_option linter.unusedVariables false
namespace Go.Proofs.Ytlmekadgcllndaa
open Go.ChangeShapes Go.WideShapes Go.ChangeAt Go.RowKit
abbrev posV (x z : Int) : Value := .agg #[.int .i64 x, .int .i64 z]
def cellC (n : Int) : Int := min (max n (-2147483648)) 2147483648
def divF (a b : Int) : Int := if b < 1 then 0 else a / b
def modF (a b : Int) : Int := if b < 1 then 0 else a % b
theorem r3_div (a b : Int) (ha : i64 a) (hb : i64 b) (w : World) : Calls Try.prog 31 #[.int .i64 a, .int .i64 b] w fun e w' => e = .returned (.int .i64 (divF a b)) ∧ w = w' := by
  unfold divF
  by_cases h : b < 1
  · rw [if_pos h]
    go_enter Try.func31, Try.ntmps31
    go_wp2
    go_ret
    exact ⟨rfl, rfl⟩
  · rw [if_neg h]
    go_enter Try.func31, Try.ntmps31
    go_wp2_with (go_at_call 32; refine (r_div _ _ ha.1 ha.2 (by omega) hb.2 _).mono ?_; rintro e w' ⟨rfl, rfl⟩)
    go_ret
    exact ⟨rfl, rfl⟩
theorem r3_mod (a b : Int) (ha : i64 a) (hb : i64 b) (w : World) : Calls Try.prog 29 #[.int .i64 a, .int .i64 b] w fun e w' => e = .returned (.int .i64 (modF a b)) ∧ w = w' := by
  unfold modF
  by_cases h : b < 1
  · rw [if_pos h]
    go_enter Try.func29, Try.ntmps29
    go_wp2
    go_ret
    exact ⟨rfl, rfl⟩
  · rw [if_neg h]
    have hb0 : (b == 0) = false := by rw [beq_eq_false_iff_ne]; omega
    have e : a.tmod b = if 0 ≤ a ∨ a % b = 0 then a % b else a % b - b := by
      have nb : ((b.natAbs : Nat) : Int) = b := by omega
      rw [Int.tmod_eq_emod]
      by_cases h0 : 0 ≤ a
      · simp [h0]
      · by_cases hd : b ∣ a
        · have := Int.emod_eq_zero_of_dvd hd; simp [hd, this]
        · have : ¬ a % b = 0 := fun hh => hd (Int.dvd_of_emod_eq_zero hh)
          simp [h0, hd, this, nb]
    have r0 := Int.emod_nonneg a (show b ≠ 0 by omega)
    have r1 := Int.emod_lt_of_pos a (show 0 < b by omega)
    obtain ⟨t, ht⟩ : ∃ t, a.tmod b = t := ⟨_, rfl⟩
    obtain ⟨m, hm⟩ : ∃ m, a % b = m := ⟨_, rfl⟩
    rw [ht, hm] at e
    rw [hm] at r0 r1
    have HE := Lib.hid e
    by_cases hn : t < 0
    · have bt : (-9223372036854775808 ≤ t + b ∧ t + b ≤ 9223372036854775807) ∧ t + b = m := by split at e <;> omega
      obtain ⟨bt, ht2⟩ := bt
      have HT := Lib.hid ht2
      clear e ht2
      go_enter Try.func29, Try.ntmps29
      go_wp2
      go_ret
      exact ⟨ret_int HT.out, rfl⟩
    · have ht2 : t = m := by split at e <;> omega
      have HT := Lib.hid ht2
      clear e ht2
      go_enter Try.func29, Try.ntmps29
      go_wp2
      go_ret
      exact ⟨ret_int HT.out, rfl⟩
end Go.Proofs.Ytlmekadgcllndaa
/- Contracts of layer 10's reference (gen): Hash. -/
set_option linter.unusedVariables false
set_option linter.unusedSimpArgs false
namespace Go.Proofs.Ytlmekadgcllndaa
open Go.ChangeShapes Go.WideShapes Go.ChangeAt Go.RowKit
set_option maxRecDepth 10000 in
set_option maxHeartbeats 4000000 in
theorem rA_hash (s x z : Int) (hs : i64 s) (hx : i64 x) (hz : i64 z) (w : World) : Calls Try.prog 30 #[.int .i64 s, .int .i64 x, .int .i64 z] w fun e w' => e = .returned (.int .u64 (hashF s x z)) ∧ w = w' := by
  obtain ⟨R, hR⟩ : ∃ y, hashF s x z = y := ⟨_, rfl⟩
  rw [hR]
  unfold hashF hD hC hB hA at hR
  obtain ⟨S, hS⟩ : ∃ y, IntKind.u64.wrap s = y := ⟨_, rfl⟩
  obtain ⟨X, hX⟩ : ∃ y, IntKind.u64.wrap x = y := ⟨_, rfl⟩
  obtain ⟨Z, hZ⟩ : ∃ y, IntKind.u64.wrap z = y := ⟨_, rfl⟩
  rw [hS, hX, hZ] at hR
  obtain ⟨S1, hS1⟩ : ∃ y, IntKind.u64.wrap (S * 11400714819323198485) = y := ⟨_, rfl⟩
  obtain ⟨X1, hX1⟩ : ∃ y, IntKind.u64.wrap (X * 14029467366897019727) = y := ⟨_, rfl⟩
  obtain ⟨Z1, hZ1⟩ : ∃ y, IntKind.u64.wrap (Z * 1609587929392839161) = y := ⟨_, rfl⟩
  rw [hS1, hX1, hZ1] at hR
  obtain ⟨A, hA⟩ : ∃ y, IntKind.u64.wrap (S1 + X1) = y := ⟨_, rfl⟩
  rw [hA] at hR
  obtain ⟨B, hB⟩ : ∃ y, IntKind.u64.wrap (A + Z1) = y := ⟨_, rfl⟩
  have bB := u64_bd (A + Z1)
  rw [hB] at hR bB
  obtain ⟨b0, b1⟩ := bB
  obtain ⟨Q, hQ⟩ : ∃ y, B / 536870912 = y := ⟨_, rfl⟩
  have q0 : 0 ≤ Q := by omega
  have q1 : Q ≤ 18446744073709551615 := by omega
  rw [hQ] at hR
  obtain ⟨E, hE⟩ : ∃ y, bits .xor .u64 B Q = y := ⟨_, rfl⟩
  rw [hE] at hR
  obtain ⟨C, hC⟩ : ∃ y, IntKind.u64.wrap (E * 13787848793156543929) = y := ⟨_, rfl⟩
  have bC := u64_bd (E * 13787848793156543929)
  rw [hC] at hR bC
  obtain ⟨c0, c1⟩ := bC
  obtain ⟨Q2, hQ2⟩ : ∃ y, C / 4294967296 = y := ⟨_, rfl⟩
  have r0 : 0 ≤ Q2 := by omega
  have r1 : Q2 ≤ 18446744073709551615 := by omega
  rw [hQ2] at hR
  have wQ : IntKind.u64.wrap Q = Q := by rw [IntKind.wrap_u64]; omega
  have wQ2 : IntKind.u64.wrap Q2 = Q2 := by rw [IntKind.wrap_u64]; omega
  have tQ : B.tdiv 536870912 = Q := by rw [Int.tdiv_eq_ediv_of_nonneg b0]; exact hQ
  have tQ2 : C.tdiv 4294967296 = Q2 := by rw [Int.tdiv_eq_ediv_of_nonneg c0]; exact hQ2
  clear hs hx hz
  go_enter Try.func30, Try.ntmps30
  go_wp2
  go_ret
  exact ⟨rfl, rfl⟩
end Go.Proofs.Ytlmekadgcllndaa
/- Contracts of layer 10's reference (gen): Ground. -/
set_option linter.unusedVariables false
set_option linter.unusedSimpArgs false
namespace Go.Proofs.Ytlmekadgcllndaa
open Go.ChangeShapes Go.WideShapes Go.ChangeAt Go.RowKit
set_option maxRecDepth 10000 in
set_option maxHeartbeats 8000000 in
theorem rA_ground (s x z : Int) (hs : i64 s) (hx : i64 x) (hz : i64 z) (w : World) : Calls Try.prog 22 #[.int .i64 s, .int .i64 x, .int .i64 z] w fun e w' => e = .returned (.int .i64 (groundF s x z)) ∧ Below w.heap.size w w' := by
  have mx := fun u => r3_mod x 8 hx (by decide) u
  have mz := fun u => r3_mod z 8 hz (by decide) u
  have dx := fun u => r3_div x 8 hx (by decide) u
  have dz := fun u => r3_div z 8 hz (by decide) u
  rw [show modF x 8 = x % 8 from rfl] at mx
  rw [show modF z 8 = z % 8 from rfl] at mz
  rw [show divF x 8 = x / 8 from rfl] at dx
  rw [show divF z 8 = z / 8 from rfl] at dz
  have bU : 0 ≤ x % 8 ∧ x % 8 ≤ 7 := by omega
  have bV : 0 ≤ z % 8 ∧ z % 8 ≤ 7 := by omega
  have bI : -1152921504606846976 ≤ x / 8 ∧ x / 8 ≤ 1152921504606846975 := by obtain ⟨h0, h1⟩ := hx; omega
  have bK : -1152921504606846976 ≤ z / 8 ∧ z / 8 ≤ 1152921504606846975 := by obtain ⟨h0, h1⟩ := hz; omega
  obtain ⟨R, hR⟩ : ∃ y, groundF s x z = y := ⟨_, rfl⟩
  rw [hR]
  unfold groundF groundN h9F at hR
  generalize x % 8 = U at *
  generalize z % 8 = V at *
  generalize x / 8 = I at *
  generalize z / 8 = K at *
  obtain ⟨u0, u1⟩ := bU
  obtain ⟨v0, v1⟩ := bV
  obtain ⟨i0, i1⟩ := bI
  obtain ⟨k0, k1⟩ := bK
  have ha00 := fun u => rA_hash s I K hs ⟨by omega, by omega⟩ ⟨by omega, by omega⟩ u
  have bh00 := hash_bd s I K
  generalize hashF s I K = H00 at *
  obtain ⟨g00, g00'⟩ := bh00
  obtain ⟨h00, hh00⟩ : ∃ y, H00 % 9 = y := ⟨_, rfl⟩
  have c00 : 0 ≤ h00 := by omega
  have d00 : h00 ≤ 8 := by omega
  have t00 : H00.tmod 9 = h00 := by rw [Int.tmod_eq_emod_of_nonneg g00]; exact hh00
  rw [hh00] at hR
  have ha01 := fun u => rA_hash s I (K + 1) hs ⟨by omega, by omega⟩ ⟨by omega, by omega⟩ u
  have bh01 := hash_bd s I (K + 1)
  generalize hashF s I (K + 1) = H01 at *
  obtain ⟨g01, g01'⟩ := bh01
  obtain ⟨h01, hh01⟩ : ∃ y, H01 % 9 = y := ⟨_, rfl⟩
  have c01 : 0 ≤ h01 := by omega
  have d01 : h01 ≤ 8 := by omega
  have t01 : H01.tmod 9 = h01 := by rw [Int.tmod_eq_emod_of_nonneg g01]; exact hh01
  rw [hh01] at hR
  have ha10 := fun u => rA_hash s (I + 1) K hs ⟨by omega, by omega⟩ ⟨by omega, by omega⟩ u
  have bh10 := hash_bd s (I + 1) K
  generalize hashF s (I + 1) K = H10 at *
  obtain ⟨g10, g10'⟩ := bh10
  obtain ⟨h10, hh10⟩ : ∃ y, H10 % 9 = y := ⟨_, rfl⟩
  have c10 : 0 ≤ h10 := by omega
  have d10 : h10 ≤ 8 := by omega
  have t10 : H10.tmod 9 = h10 := by rw [Int.tmod_eq_emod_of_nonneg g10]; exact hh10
  rw [hh10] at hR
  have ha11 := fun u => rA_hash s (I + 1) (K + 1) hs ⟨by omega, by omega⟩ ⟨by omega, by omega⟩ u
  have bh11 := hash_bd s (I + 1) (K + 1)
  generalize hashF s (I + 1) (K + 1) = H11 at *
  obtain ⟨g11, g11'⟩ := bh11
  obtain ⟨h11, hh11⟩ : ∃ y, H11 % 9 = y := ⟨_, rfl⟩
  have c11 : 0 ≤ h11 := by omega
  have d11 : h11 ≤ 8 := by omega
  have t11 : H11.tmod 9 = h11 := by rw [Int.tmod_eq_emod_of_nonneg g11]; exact hh11
  rw [hh11] at hR
  obtain ⟨U', hU'⟩ : ∃ y, 8 - U = y := ⟨_, rfl⟩
  obtain ⟨V', hV'⟩ : ∃ y, 8 - V = y := ⟨_, rfl⟩
  rw [hU', hV'] at hR
  have u2 : 0 ≤ U' := by omega
  have u3 : U' ≤ 8 := by omega
  have v2 : 0 ≤ V' := by omega
  have v3 : V' ≤ 8 := by omega
  have bp00 := uv_bd (u := U') (v := V') ⟨by omega, by omega⟩ ⟨by omega, by omega⟩
  have bq00 := near_bd (u := U') (v := V') (h := h00) (by omega) (by omega) c00 d00
  obtain ⟨p00, hp00⟩ : ∃ y, U' * V' = y := ⟨_, rfl⟩
  rw [hp00] at hR bp00 bq00
  obtain ⟨q00, hq00⟩ : ∃ y, p00 * h00 = y := ⟨_, rfl⟩
  rw [hq00] at hR bq00
  have wp00 : IntKind.i64.wrap p00 = p00 := IntWalk.i64_in _ (by omega)
  have wq00 : IntKind.i64.wrap q00 = q00 := IntWalk.i64_in _ (by omega)
  have bp01 := uv_bd (u := U') (v := V) ⟨by omega, by omega⟩ ⟨by omega, by omega⟩
  have bq01 := near_bd (u := U') (v := V) (h := h01) (by omega) (by omega) c01 d01
  obtain ⟨p01, hp01⟩ : ∃ y, U' * V = y := ⟨_, rfl⟩
  rw [hp01] at hR bp01 bq01
  obtain ⟨q01, hq01⟩ : ∃ y, p01 * h01 = y := ⟨_, rfl⟩
  rw [hq01] at hR bq01
  have wp01 : IntKind.i64.wrap p01 = p01 := IntWalk.i64_in _ (by omega)
  have wq01 : IntKind.i64.wrap q01 = q01 := IntWalk.i64_in _ (by omega)
  have bp10 := uv_bd (u := U) (v := V') ⟨by omega, by omega⟩ ⟨by omega, by omega⟩
  have bq10 := near_bd (u := U) (v := V') (h := h10) (by omega) (by omega) c10 d10
  obtain ⟨p10, hp10⟩ : ∃ y, U * V' = y := ⟨_, rfl⟩
  rw [hp10] at hR bp10 bq10
  obtain ⟨q10, hq10⟩ : ∃ y, p10 * h10 = y := ⟨_, rfl⟩
  rw [hq10] at hR bq10
  have wp10 : IntKind.i64.wrap p10 = p10 := IntWalk.i64_in _ (by omega)
  have wq10 : IntKind.i64.wrap q10 = q10 := IntWalk.i64_in _ (by omega)
  have bp11 := uv_bd (u := U) (v := V) ⟨by omega, by omega⟩ ⟨by omega, by omega⟩
  have bq11 := near_bd (u := U) (v := V) (h := h11) (by omega) (by omega) c11 d11
  obtain ⟨p11, hp11⟩ : ∃ y, U * V = y := ⟨_, rfl⟩
  rw [hp11] at hR bp11 bq11
  obtain ⟨q11, hq11⟩ : ∃ y, p11 * h11 = y := ⟨_, rfl⟩
  rw [hq11] at hR bq11
  have wp11 : IntKind.i64.wrap p11 = p11 := IntWalk.i64_in _ (by omega)
  have wq11 : IntKind.i64.wrap q11 = q11 := IntWalk.i64_in _ (by omega)
  obtain ⟨n2, hn2⟩ : ∃ y, q00 + q01 = y := ⟨_, rfl⟩
  obtain ⟨n3, hn3⟩ : ∃ y, n2 + q10 = y := ⟨_, rfl⟩
  obtain ⟨n4, hn4⟩ : ∃ y, n3 + q11 = y := ⟨_, rfl⟩
  rw [hn2, hn3, hn4] at hR
  have b2 : 0 ≤ n2 ∧ n2 ≤ 1024 := by omega
  have b3 : 0 ≤ n3 ∧ n3 ≤ 1536 := by omega
  have b4 : 0 ≤ n4 ∧ n4 ≤ 2048 := by omega
  obtain ⟨N, hN⟩ : ∃ y, n4 / 64 = y := ⟨_, rfl⟩
  rw [hN] at hR
  obtain ⟨b20, b21⟩ := b2
  obtain ⟨b30, b31⟩ := b3
  obtain ⟨b40, b41⟩ := b4
  have tN : n4.tdiv 64 = N := by rw [Int.tdiv_eq_ediv_of_nonneg b40]; exact hN
  have wN : IntKind.i64.wrap (6 + N) = R := by rw [← hR]; exact IntWalk.i64_in _ (by omega)
  have MX := Lib.hid mx
  have MZ := Lib.hid mz
  have DX := Lib.hid dx
  have DZ := Lib.hid dz
  have A00 := Lib.hid ha00
  have A01 := Lib.hid ha01
  have A10 := Lib.hid ha10
  have A11 := Lib.hid ha11
  clear mx mz dx dz ha00 ha01 ha10 ha11 hR bp00 bp01 bp10 bp11 bq00 bq01 bq10 bq11 hs hx hz
  go_enter Try.func22, Try.ntmps22
  go_wp2_with fail
  refine wp_loop_rounds 3 ?_
  rw [rounds_succ]
  go_wp2_with fail
  refine wp_loop_rounds 3 ?_
  rw [rounds_succ]
  go_wp2_with fail
  (refine (MX.out _).mono ?_; rintro e w1 ⟨rfl, rfl⟩)
  go_wp2_with fail
  (refine (MZ.out _).mono ?_; rintro e w1 ⟨rfl, rfl⟩)
  go_wp2_with fail
  (refine (DX.out _).mono ?_; rintro e w1 ⟨rfl, rfl⟩)
  go_wp2_with fail
  (refine (DZ.out _).mono ?_; rintro e w1 ⟨rfl, rfl⟩)
  go_wp2_with fail
  (refine (A00.out _).mono ?_; rintro e w1 ⟨rfl, rfl⟩)
  go_wp2_with fail
  rw [rounds_succ]
  go_wp2_with fail
  (refine (MX.out _).mono ?_; rintro e w1 ⟨rfl, rfl⟩)
  go_wp2_with fail
  (refine (MZ.out _).mono ?_; rintro e w1 ⟨rfl, rfl⟩)
  go_wp2_with fail
  (refine (DX.out _).mono ?_; rintro e w1 ⟨rfl, rfl⟩)
  go_wp2_with fail
  (refine (DZ.out _).mono ?_; rintro e w1 ⟨rfl, rfl⟩)
  go_wp2_with fail
  (refine (A01.out _).mono ?_; rintro e w1 ⟨rfl, rfl⟩)
  go_wp2_with fail
  rw [rounds_succ]
  go_wp2_with fail
  rw [rounds_succ]
  go_wp2_with fail
  refine wp_loop_rounds 3 ?_
  rw [rounds_succ]
  go_wp2_with fail
  (refine (MX.out _).mono ?_; rintro e w1 ⟨rfl, rfl⟩)
  go_wp2_with fail
  (refine (MZ.out _).mono ?_; rintro e w1 ⟨rfl, rfl⟩)
  go_wp2_with fail
  (refine (DX.out _).mono ?_; rintro e w1 ⟨rfl, rfl⟩)
  go_wp2_with fail
  (refine (DZ.out _).mono ?_; rintro e w1 ⟨rfl, rfl⟩)
  go_wp2_with fail
  (refine (A10.out _).mono ?_; rintro e w1 ⟨rfl, rfl⟩)
  go_wp2_with fail
  rw [rounds_succ]
  go_wp2_with fail
  (refine (MX.out _).mono ?_; rintro e w1 ⟨rfl, rfl⟩)
  go_wp2_with fail
  (refine (MZ.out _).mono ?_; rintro e w1 ⟨rfl, rfl⟩)
  go_wp2_with fail
  (refine (DX.out _).mono ?_; rintro e w1 ⟨rfl, rfl⟩)
  go_wp2_with fail
  (refine (DZ.out _).mono ?_; rintro e w1 ⟨rfl, rfl⟩)
  go_wp2_with fail
  (refine (A11.out _).mono ?_; rintro e w1 ⟨rfl, rfl⟩)
  go_wp2_with fail
  rw [rounds_succ]
  go_wp2_with fail
  rw [rounds_succ]
  go_wp2_with fail
  go_ret
  exact ⟨rfl, Below.refl _ _⟩
end Go.Proofs.Ytlmekadgcllndaa
/- Contracts of layer 3's reference (cells): From, Beside, Good. -/
set_option linter.unusedVariables false
namespace Go.Proofs.Ytlmekadgcllndaa
open Go.ChangeShapes Go.WideShapes Go.ChangeAt Go.RowKit
theorem r3_from (x z i : Int) (hx : -134217728 ≤ x ∧ x ≤ 134217728) (hz : -134217728 ≤ z ∧ z ≤ 134217728) (h0 : 0 ≤ i) (h1 : i ≤ 8191) (w : World) : Calls Try.prog 11 #[posV x z, .int .i64 i] w fun e w' =>
    e = .returned (.tuple #[vecV (x * 16 + i % 16) (i / 256) (z * 16 + i % 256 / 16), .bool true]) ∧ Below w.heap.size w w' := by
  obtain ⟨hx0, hx1⟩ := hx
  obtain ⟨hz0, hz1⟩ := hz
  go_enter Try.func11, Try.ntmps11
  go_wp2
  refine bodyPost_ret (v := .tuple #[vecV (x * 16 + i % 16) (i / 256) (z * 16 + i % 256 / 16), .bool true]) (by simp [results, Try.results11, go_sem, *]; done) rfl ⟨rfl, ?_⟩
  (repeat (first | with_reducible assumption | with_reducible exact Below.refl _ _ | with_reducible refine Below.drew ?_ | with_reducible refine below_drewN ?_ _ | with_reducible refine al ?_ _ | (with_reducible refine sc ?_ ?_; (focus (first | omega | (simp; done) | (simp; omega)))) | (with_reducible refine chain ?_ (by assumption))))
theorem r3_from_no (x z i : Int) (h : i < 0 ∨ 8191 < i) (w : World) : Calls Try.prog 11 #[posV x z, .int .i64 i] w fun e w' =>
    e = .returned (.tuple #[vecV 0 0 0, .bool false]) ∧ Below w.heap.size w w' := by
  rcases h with h | h
  all_goals
    go_enter Try.func11, Try.ntmps11
    go_wp2
    refine bodyPost_ret (v := .tuple #[vecV 0 0 0, .bool false]) (by simp [results, Try.results11, go_sem, *]; done) rfl ⟨rfl, ?_⟩
    (repeat (first | with_reducible assumption | with_reducible exact Below.refl _ _ | with_reducible refine Below.drew ?_ | with_reducible refine below_drewN ?_ _ | with_reducible refine al ?_ _ | (with_reducible refine sc ?_ ?_; (focus (first | omega | (simp; done) | (simp; omega)))) | (with_reducible refine chain ?_ (by assumption))))
end Go.Proofs.Ytlmekadgcllndaa
/- Rows: a block's cells told whole, and carried from world to world. No program. -/
set_option linter.unusedVariables false
set_option linter.unusedSimpArgs false
namespace Go.Proofs.Ytlmekadgcllndaa
open Go Go.RowKit
/-- Block b holds those cells, and may be written. -/
def RowAt (w : World) (b : Nat) (cs : Array Value) (t : TypeId) : Prop := w.heap[b]? = some (.cells cs t (0, 0))
section
variable {w w' : World} {b : Nat} {cs : Array Value} {t : TypeId}
theorem RowAt.lt (h : RowAt w b cs t) : b < w.heap.size := (Array.getElem?_eq_some_iff.1 h).1
theorem RowAt.cell (h : RowAt w b cs t) (j : Nat) : w.cell? ⟨b, j, none⟩ = cs[j]? := cell_of_row w b j cs t (0, 0) h
theorem RowAt.frozen (h : RowAt w b cs t) (j : Nat) : w.frozen? ⟨b, j, none⟩ = false := by
  unfold RowAt at h
  simp [World.frozen?, h]
theorem RowAt.keep (h : RowAt w b cs t) (hb : Below w.heap.size w w') : RowAt w' b cs t := (hb.block b h.lt).trans h
theorem RowAt.other (h : RowAt w b cs t) {p : Addr} (hp : b ≠ p.block) (v : Value) : RowAt (w.setCell p v) b cs t := (Below.heap_setCell w p v b hp).trans h
theorem RowAt.alloc (h : RowAt w b cs t) (o : Obj) : RowAt (w.alloc o) b cs t := (Below.heap_alloc w o b h.lt).trans h
theorem RowAt.new (w : World) (cs : Array Value) (t : TypeId) : RowAt (w.alloc (.cells cs t)) w.heap.size cs t := by
  show (w.heap.push _)[w.heap.size]? = _
  simp
theorem RowAt.make (w : World) (cs : Array Value) (t : TypeId) {b : Nat} (h : w.heap.size = b) : RowAt (w.alloc (.cells cs t)) b cs t := h ▸ RowAt.new w cs t
theorem RowAt.set (h : RowAt w b cs t) (k : Nat) (v : Value) : RowAt (w.setCell ⟨b, k, none⟩ v) b (cs.setIfInBounds k v) t := by
  unfold RowAt at *
  have hlt : b < w.heap.size := (Array.getElem?_eq_some_iff.1 h).1
  have hv : w.heap[b] = .cells cs t (0, 0) := (Array.getElem?_eq_some_iff.1 h).2
  simp only [World.setCell]
  rw [Array.getElem?_eq_getElem (by simpa using hlt), Array.getElem_modify]
  simp [hv]
theorem RowAt.row (h : RowAt w b cs t) (cs' : Array Value) : RowAt (w.setRow b cs') b cs' t := setRow_heap w b cs cs' t (0, 0) h
theorem RowAt.row_other (h : RowAt w b cs t) {g : Nat} (hg : b ≠ g) (cs' : Array Value) : RowAt (w.setRow g cs') b cs t := (setRow_other w g b cs' hg).trans h
end
theorem RowAt.two {w : World} {b : Nat} {x y : Value} {t : TypeId} (h : RowAt w b #[x, y] t) : w.cell? ⟨b, 0, none⟩ = some x ∧ w.cell? ⟨b, 1, none⟩ = some y := ⟨by rw [h.cell]; rfl, by rw [h.cell]; rfl⟩
theorem RowAt.one {w : World} {b : Nat} {x : Value} {t : TypeId} (h : RowAt w b #[x] t) : w.cell? ⟨b, 0, none⟩ = some x := by rw [h.cell]; rfl
end Go.Proofs.Ytlmekadgcllndaa
/- Contracts of layer 4's reference (blocks). -/
set_option linter.unusedVariables false
set_option linter.unusedSimpArgs false
namespace Go.Proofs.Ytlmekadgcllndaa
open Go.ChangeShapes Go.WideShapes Go.ChangeAt Go.RowKit
def mayB (b : Int) : Bool := decide (0 ≤ b) && decide (b ≤ 15) && (b != 6) && (b != 7)
def solidB (b : Int) : Bool := b == -1 || b == 1 || b == 2 || b == 3 || b == 5
def wetB (b : Int) : Bool := decide (8 ≤ b) && decide (b ≤ 15)
def yieldsB (b : Int) : Bool := b == 0 || wetB b
def levelF (b : Int) : Int := if wetB b then b - 8 else -1
def goodF (n : Int) : Int := if 5 < aroundF n 14 then aroundF n 14 + 2 else aroundF n 14
theorem goodF_may (n : Int) : mayB (goodF n) = true := by
  have := around_bd n 14 (by omega)
  unfold mayB goodF
  generalize aroundF n 14 = k at *
  by_cases h : 5 < k
  · rw [if_pos h]; simp; omega
  · rw [if_neg h]; simp; omega
theorem mayB_bd {b : Int} (h : mayB b = true) : 0 ≤ b ∧ b ≤ 15 ∧ b ≠ 6 ∧ b ≠ 7 := by
  unfold mayB at h; simp at h; omega
def nameF (b : Int) : ByteArray :=
  if b = 0 then ⟨#[97, 105, 114]⟩ else if b = 1 then ⟨#[115, 116, 111, 110, 101]⟩ else if b = 2 then ⟨#[100, 105, 114, 116]⟩ else if b = 3 then ⟨#[115, 97, 110, 100]⟩
  else if b = 4 then ⟨#[108, 97, 100, 100, 101, 114]⟩ else if b = 5 then ⟨#[103, 108, 97, 115, 115]⟩
  else if 8 ≤ b ∧ b ≤ 15 then ⟨#[119, 97, 116, 101, 114, (40 + b).toNat.toUInt8]⟩ else ⟨#[]⟩
end Go.Proofs.Ytlmekadgcllndaa
/- Words of layer 5: rows of whole numbers, and of runs, as they are read and as they are owned. No program. -/
set_option linter.unusedVariables false
namespace Go.Proofs.Ytlmekadgcllndaa
open Go Go.RowKit
/-- The slice reads as those numbers. -/
def IntsAt (w : World) (v : Value) (l : List Int) : Prop :=
  ((∃ p cap, v = .slice p 0 cap) ∧ l = []) ∨ ∃ g off cap, v = .slice (some ⟨g, off, none⟩) l.length cap ∧ l.length ≤ cap ∧ g < w.heap.size ∧ ∀ j (h : j < l.length), w.cell? ⟨g, off + j, none⟩ = some (.int .i64 l[j])
abbrev Run := Int × Int
/-- The slice reads as those runs. -/
def RunsAt (w : World) (v : Value) (l : List Run) : Prop :=
  ((∃ p cap, v = .slice p 0 cap) ∧ l = []) ∨ ∃ g off cap, v = .slice (some ⟨g, off, none⟩) l.length cap ∧ l.length ≤ cap ∧ g < w.heap.size ∧
    ∀ j (h : j < l.length), w.cell? ⟨g, off + j * 2, none⟩ = some (.int .i64 l[j].1) ∧ w.cell? ⟨g, off + j * 2 + 1, none⟩ = some (.int .i64 l[j].2)
theorem IntsAt.keep {w w' : World} {v : Value} {l : List Int} (h : IntsAt w v l) (hb : Below w.heap.size w w') : IntsAt w' v l := by
  rcases h with h | ⟨g, off, cap, e, hc, hg, hx⟩
  · exact .inl h
  · exact .inr ⟨g, off, cap, e, hc, Nat.lt_of_lt_of_le hg hb.size, fun j hj => keepc hb hg (hx j hj)⟩
theorem RunsAt.keep {w w' : World} {v : Value} {l : List Run} (h : RunsAt w v l) (hb : Below w.heap.size w w') : RunsAt w' v l := by
  rcases h with h | ⟨g, off, cap, e, hc, hg, hx⟩
  · exact .inl h
  · exact .inr ⟨g, off, cap, e, hc, Nat.lt_of_lt_of_le hg hb.size, fun j hj => ⟨keepc hb hg (hx j hj).1, keepc hb hg (hx j hj).2⟩⟩
abbrev intVs (l : List Int) : List Value := l.map (fun n => .int .i64 n)
abbrev runVs (l : List Run) : List Value := l.flatMap (fun r => [.int .i64 r.1, .int .i64 r.2])
theorem runVs_length (l : List Run) : (runVs l).length = l.length * 2 := by
  induction l with
  | nil => rfl
  | cons a l ih => rw [show runVs (a :: l) = .int .i64 a.1 :: .int .i64 a.2 :: runVs l by simp [runVs], List.length_cons, List.length_cons, ih, List.length_cons]; omega
theorem runVs_at : ∀ (l : List Run) (j : Nat) (h : j < l.length), (runVs l)[j * 2]? = some (.int .i64 l[j].1) ∧ (runVs l)[j * 2 + 1]? = some (.int .i64 l[j].2)
  | a :: l, 0, _ => by simp [runVs]
  | a :: l, j + 1, h => by
    have := runVs_at l j (by simpa using h)
    simp only [runVs, List.flatMap_cons] at *
    rw [show (j + 1) * 2 = j * 2 + 2 by omega, show j * 2 + 2 + 1 = (j * 2 + 1) + 2 by omega]
    simpa using this
theorem ints_of_owned {w : World} {base : Nat} {e : TypeId} {v : Value} {l : List Int} (h : w.ownsRow base e 1 v l.length (intVs l)) : IntsAt w v l := by
  rcases h.2 with ⟨rfl, hn⟩ | ⟨g, cap, cur, rfl, hb, hg, hc, hm, hs, ht⟩
  · exact .inl ⟨⟨_, _, rfl⟩, List.length_eq_zero_iff.1 hn⟩
  · refine .inr ⟨g, 0, cap, rfl, hc, (Array.getElem?_eq_some_iff.1 hg).1, fun j hj => ?_⟩
    rw [Nat.zero_add, cell_of_row w g j cur e (0, 0) hg]
    have h1 : (intVs l)[j]? = some (.int .i64 l[j]) := by simp [intVs, hj]
    rw [← ht, List.getElem?_take] at h1
    split at h1
    · simpa using h1
    · cases h1
theorem runs_of_owned {w : World} {base : Nat} {e : TypeId} {v : Value} {l : List Run} (h : w.ownsRow base e 2 v l.length (runVs l)) : RunsAt w v l := by
  rcases h.2 with ⟨rfl, hn⟩ | ⟨g, cap, cur, rfl, hb, hg, hc, hm, hs, ht⟩
  · exact .inl ⟨⟨_, _, rfl⟩, List.length_eq_zero_iff.1 hn⟩
  · refine .inr ⟨g, 0, cap, rfl, hc, (Array.getElem?_eq_some_iff.1 hg).1, fun j hj => ?_⟩
    obtain ⟨h1, h2⟩ := runVs_at l j hj
    rw [Nat.zero_add, cell_of_row w g _ cur e (0, 0) hg, cell_of_row w g _ cur e (0, 0) hg]
    rw [← ht, List.getElem?_take] at h1 h2
    constructor
    · split at h1
      · simpa using h1
      · cases h1
    · split at h2
      · simpa using h2
      · cases h2
/-- What an append of the call's own row leaves of the world ahead of the call. -/
theorem Below.own {w u u' : World} {v : Value} {e : TypeId} {size n : Nat} {xs : List Value} (h : Below w.heap.size w u) (ho : u.ownsRow w.heap.size e size v n xs) (hg : u.grownBy u' v.ownBlock) : Below w.heap.size w u' :=
  h.trans ⟨hg.os, hg.tape, hg.output, hg.size, fun k hk => hg.block k (Nat.lt_of_lt_of_le hk h.size) (fun e' => by have := (ho.lt k e'.symm).1; omega)⟩
/-- A row that is owned stays so in later worlds. -/
theorem own_keep {w u u' : World} {v : Value} {e : TypeId} {size n : Nat} {xs : List Value} (ho : u.ownsRow w.heap.size e size v n xs) (hb : Below u.heap.size u u') : u'.ownsRow w.heap.size e size v n xs :=
  ho.kept (row := none) ⟨hb.os, hb.tape, hb.output, hb.size, fun k hk _ => hb.block k hk⟩ (by cases v.ownBlock <;> simp)
section
variable {P : Program} {ops : Array Oper} {rest : List Oper} {o : Oper} {a : Act} {Q : Exit → Act → World → Prop}
/-- One number more at the end of a row that is owned. -/
theorem app_int (w : World) (hgd : o.guard = none) (s x : Operand) (t : TypeId) (ho : o.op = .call { callee := .builtin .append, args := #[s, x], argTypes := #[t, t] }) (base : Nat) (e : TypeId) (i : TypeInfo) (z : Value)
    (ht : P.underlying t = some (.slice e)) (hi : P.info? e = some i) (hz : i.zero = some z) (hsize : i.size = 1) (hby : i.bytes = 8) (hzs : z.cells.size = 1)
    (v : Value) (n : Nat) (xs : List Value) (hs : a.eval s = v) (hown : w.ownsRow base e 1 v n xs) (g : Nat) (c : Value) (hx : a.eval x = .slice (some ⟨g, 0, none⟩) 1 1) (hc : w.cell? ⟨g, 0, none⟩ = some c) (h1 : c.oneCell' = true)
    (hN : n ≤ 1000000) (hbase : base ≤ w.heap.size)
    (h : ∀ v' w', w'.ownsRow base e 1 v' (n + 1) (xs ++ [c]) → w.grownBy w' v.ownBlock → wpList P ops Q rest (a.put o.dst v') w') : wpList P ops Q (o :: rest) a w :=
  wpList_append_own w hgd s x t ho base e i z 1 8 ht hi hz hsize hby hzs (by omega) v n xs hs hown ⟨g, 0, none⟩ 1 1 [c] hx rfl (fun j u hu => by
    match j, hu with
    | 0, hu => simp at hu; subst hu; simpa [Addr.add] using hc
    | j + 1, hu => simp at hu) (fun u hu => by simp at hu; subst hu; exact h1) (by simp only [maxLen]; omega) (by omega) hbase (fun v' w' h2 h3 _ => h v' w' h2 h3)
/-- The same of a run. -/
theorem app_run (w : World) (hgd : o.guard = none) (s x : Operand) (t : TypeId) (ho : o.op = .call { callee := .builtin .append, args := #[s, x], argTypes := #[t, t] }) (base : Nat) (e : TypeId) (i : TypeInfo) (z : Value)
    (ht : P.underlying t = some (.slice e)) (hi : P.info? e = some i) (hz : i.zero = some z) (hsize : i.size = 2) (hby : i.bytes = 16) (hzs : z.cells.size = 2)
    (v : Value) (n : Nat) (xs : List Value) (hs : a.eval s = v) (hown : w.ownsRow base e 2 v n xs) (g : Nat) (c d : Value) (hx : a.eval x = .slice (some ⟨g, 0, none⟩) 1 1) (hc : w.cell? ⟨g, 0, none⟩ = some c) (hd : w.cell? ⟨g, 1, none⟩ = some d)
    (h1 : c.oneCell' = true) (h2 : d.oneCell' = true) (hN : n ≤ 1000000) (hbase : base ≤ w.heap.size)
    (h : ∀ v' w', w'.ownsRow base e 2 v' (n + 1) (xs ++ [c, d]) → w.grownBy w' v.ownBlock → wpList P ops Q rest (a.put o.dst v') w') : wpList P ops Q (o :: rest) a w :=
  wpList_append_own w hgd s x t ho base e i z 2 16 ht hi hz hsize hby hzs (by omega) v n xs hs hown ⟨g, 0, none⟩ 1 1 [c, d] hx rfl (fun j u hu => by
    match j, hu with
    | 0, hu => simp at hu; subst hu; simpa [Addr.add] using hc
    | 1, hu => simp at hu; subst hu; simpa [Addr.add] using hd
    | j + 2, hu => simp at hu) (fun u hu => by
      simp at hu
      rcases hu with rfl | rfl
      · exact h1
      · exact h2) (by simp only [maxLen]; omega) (by omega) hbase (fun v' w' h2 h3 _ => h v' w' h2 h3)
end
def cellsF (l : List Run) : List Int := l.flatMap (fun r => List.replicate r.1.toNat r.2)
theorem take_succ_get {α : Type} (l : List α) (k : Nat) (h : k < l.length) : l.take (k + 1) = l.take k ++ [l[k]] := by
  rw [List.take_succ_eq_append_getElem h]
theorem cellsF_append (a b : List Run) : cellsF (a ++ b) = cellsF a ++ cellsF b := by simp [cellsF]
theorem cellsF_take_succ (l : List Run) (k : Nat) (h : k < l.length) : cellsF (l.take (k + 1)) = cellsF (l.take k) ++ List.replicate l[k].1.toNat l[k].2 := by
  rw [take_succ_get l k h, cellsF_append]; simp [cellsF]
theorem cellsF_take_le (l : List Run) (k : Nat) : (cellsF (l.take k)).length ≤ (cellsF l).length := by
  conv => rhs; rw [← List.take_append_drop k l, cellsF_append]
  simp
/-- A cell of a row that is owned, written. -/
theorem own_set {w : World} {base : Nat} {e : TypeId} {size : Nat} {g cap n : Nat} {xs : List Value} (h : w.ownsRow base e size (.slice (some ⟨g, 0, none⟩) n cap) n xs) (j : Nat) (hj : j < n * size) (u : Value) :
    (w.setCell ⟨g, j, none⟩ u).ownsRow base e size (.slice (some ⟨g, 0, none⟩) n cap) n (xs.set j u) := by
  refine ⟨by rw [List.length_set]; exact h.1, ?_⟩
  rcases h.2 with ⟨h1, _⟩ | ⟨g', cap', cur, hv, hb, hg, hc, hm, hs, ht⟩
  · cases h1
  · simp only [Value.slice.injEq, Option.some.injEq, Addr.mk.injEq] at hv
    obtain ⟨⟨rfl, _⟩, _, rfl⟩ := hv
    refine .inr ⟨g, cap, cur.setIfInBounds j u, rfl, hb, ?_, hc, hm, by simp [hs], ?_⟩
    · have hlt : g < w.heap.size := (Array.getElem?_eq_some_iff.1 hg).1
      have hv : w.heap[g] = .cells cur e (0, 0) := (Array.getElem?_eq_some_iff.1 hg).2
      simp only [World.setCell]
      rw [Array.getElem?_eq_getElem (by simpa using hlt), Array.getElem_modify]
      simp [hv]
    · rw [Array.toList_setIfInBounds, List.take_set, ht]
theorem Below.own_set {w u : World} {e : TypeId} {size n g cap : Nat} {xs : List Value} (h : Below w.heap.size w u) (ho : u.ownsRow w.heap.size e size (.slice (some ⟨g, 0, none⟩) n cap) n xs) (j : Nat) (x : Value) : Below w.heap.size w (u.setCell ⟨g, j, none⟩ x) :=
  h.setCell (p := ⟨g, j, none⟩) (ho.lt g rfl).1 x
/-- The runs of cells. -/
def stepF (out : List Run) (c : Int) : List Run :=
  match out.getLast? with
  | some r => if r.2 = c then out.dropLast ++ [(r.1 + 1, c)] else out ++ [(1, c)]
  | none => [(1, c)]
def ofF (l : List Int) : List Run := l.foldl stepF []
theorem ofF_snoc (l : List Int) (c : Int) : ofF (l ++ [c]) = stepF (ofF l) c := by simp [ofF]
theorem stepF_nil (c : Int) : stepF [] c = [(1, c)] := rfl
theorem stepF_same (D : List Run) (r : Int) (c : Int) : stepF (D ++ [(r, c)]) c = D ++ [(r + 1, c)] := by simp [stepF]
theorem stepF_other (D : List Run) (r : Int) (b c : Int) (h : b ≠ c) : stepF (D ++ [(r, b)]) c = D ++ [(r, b)] ++ [(1, c)] := by simp [stepF, h]
theorem ofF_form (l : List Int) : ∀ k, k < l.length → ∃ (D : List Run) (r : Int), ofF (l.take (k + 1)) = D ++ [(r, l[k]!)] ∧ 1 ≤ r ∧ r ≤ k + 1 ∧ D.length ≤ k
  | 0, h => by
    rw [take_succ_get l 0 h, ofF_snoc]
    exact ⟨[], 1, by simp [ofF, stepF, h], by omega, by omega, by simp⟩
  | k + 1, h => by
    obtain ⟨D, r, e, h1, h2, h3⟩ := ofF_form l k (by omega)
    rw [take_succ_get l (k + 1) h, ofF_snoc, e]
    by_cases hq : l[k]! = l[k + 1]
    · rw [hq, stepF_same]
      exact ⟨D, r + 1, by simp [h], by omega, by omega, by omega⟩
    · rw [stepF_other _ _ _ _ hq]
      exact ⟨D ++ [(r, l[k]!)], 1, by simp [h], by omega, by omega, by simp; omega⟩
theorem ofF_length (l : List Int) (k : Nat) (h : k ≤ l.length) : (ofF (l.take k)).length ≤ k := by
  match k, h with
  | 0, _ => simp [ofF]
  | k + 1, h =>
    obtain ⟨D, r, e, _, _, h3⟩ := ofF_form l k (by omega)
    rw [e]; simp; omega
theorem runVs_append (a b : List Run) : runVs (a ++ b) = runVs a ++ runVs b := by simp [runVs]
theorem runVs_set (D : List Run) (r c n : Int) : (runVs (D ++ [(r, c)])).set (D.length * 2) (.int .i64 n) = runVs (D ++ [(n, c)]) := by
  rw [runVs_append, runVs_append, ← runVs_length D, List.set_append_right _ _ (Nat.le_refl _)]
  simp [runVs]
theorem own_cell {w : World} {base : Nat} {e : TypeId} {size : Nat} {g cap n : Nat} {xs : List Value} (h : w.ownsRow base e size (.slice (some ⟨g, 0, none⟩) n cap) n xs) (j : Nat) {u : Value} (hu : xs[j]? = some u) : w.cell? ⟨g, j, none⟩ = some u := by
  have hadd : (⟨g, 0, none⟩ : Addr).add j = ⟨g, j, none⟩ := by unfold Addr.add; split <;> simp_all
  have := h.cells rfl j u hu
  rwa [hadd] at this
/-- Whatever it reads as: a slice of that length, and where it isn't empty it lies somewhere. -/
theorem IntsAt.form {w : World} {v : Value} {l : List Int} (h : IntsAt w v l) : ∃ p cap, v = .slice p l.length cap ∧ (0 < l.length → ∃ g off, p = some ⟨g, off, none⟩ ∧ l.length ≤ cap ∧ g < w.heap.size ∧ ∀ j (h : j < l.length), w.cell? ⟨g, off + j, none⟩ = some (.int .i64 l[j])) := by
  rcases h with ⟨⟨p, cap, rfl⟩, rfl⟩ | ⟨g, off, cap, e, hc, hg, hx⟩
  · exact ⟨p, cap, rfl, fun h => absurd h (by simp)⟩
  · exact ⟨some ⟨g, off, none⟩, cap, e, fun _ => ⟨g, off, rfl, hc, hg, hx⟩⟩
theorem RunsAt.form {w : World} {v : Value} {l : List Run} (h : RunsAt w v l) : ∃ p cap, v = .slice p l.length cap ∧ (0 < l.length → ∃ g off, p = some ⟨g, off, none⟩ ∧ l.length ≤ cap ∧ g < w.heap.size ∧
    ∀ j (h : j < l.length), w.cell? ⟨g, off + j * 2, none⟩ = some (.int .i64 l[j].1) ∧ w.cell? ⟨g, off + j * 2 + 1, none⟩ = some (.int .i64 l[j].2)) := by
  rcases h with ⟨⟨p, cap, rfl⟩, rfl⟩ | ⟨g, off, cap, e, hc, hg, hx⟩
  · exact ⟨p, cap, rfl, fun h => absurd h (by simp)⟩
  · exact ⟨some ⟨g, off, none⟩, cap, e, fun _ => ⟨g, off, rfl, hc, hg, hx⟩⟩
theorem list_same {α : Type} [DecidableEq α] {a b : List α} (h : a.length = b.length) (hs : ∀ j (h1 : j < a.length) (h2 : j < b.length), a[j] = b[j]) : decide (a = b) = true := by
  simp only [decide_eq_true_eq]
  exact List.ext_getElem h hs
theorem list_other {α : Type} [DecidableEq α] {a b : List α} (j : Nat) (h1 : j < a.length) (h2 : j < b.length) (hne : a[j] ≠ b[j]) : decide (a = b) = false := by
  simp only [decide_eq_false_iff_not]
  intro e
  subst e
  exact hne rfl
theorem own_base {w : World} {base base' : Nat} {e : TypeId} {size n : Nat} {v : Value} {xs : List Value} (h : w.ownsRow base e size v n xs) (hb : base' ≤ base) : w.ownsRow base' e size v n xs := by
  refine ⟨h.1, ?_⟩
  rcases h.2 with h1 | ⟨g, cap, cur, hv, hb2, rest⟩
  · exact .inl h1
  · exact .inr ⟨g, cap, cur, hv, Nat.le_trans hb hb2, rest⟩
theorem own_form {w : World} {base : Nat} {e : TypeId} {size n : Nat} {v : Value} {xs : List Value} (h : w.ownsRow base e size v n xs) : ∃ p cap, v = .slice p n cap := by
  rcases h.2 with ⟨rfl, rfl⟩ | ⟨g, cap, cur, hv, _⟩
  · exact ⟨none, 0, rfl⟩
  · exact ⟨_, _, hv⟩
/-- A row cut at its end. -/
theorem IntsAt.take {w : World} {p : Option Addr} {n cap : Nat} {l : List Int} (h : IntsAt w (.slice p n cap) l) {k : Nat} (hk : k ≤ n) : IntsAt w (.slice p k cap) (l.take k) := by
  rcases h with ⟨⟨p', c', e⟩, rfl⟩ | ⟨g, off, c', e, hc, hg, hx⟩
  · simp only [Value.slice.injEq] at e
    obtain ⟨rfl, rfl, rfl⟩ := e
    obtain rfl : k = 0 := by omega
    exact .inl ⟨⟨_, _, rfl⟩, by simp⟩
  · simp only [Value.slice.injEq] at e
    obtain ⟨rfl, rfl, rfl⟩ := e
    have hl : (l.take k).length = k := by simp; omega
    exact .inr ⟨g, off, cap, by rw [hl], by omega, hg, fun j hj => by rw [List.getElem_take]; exact hx j (by omega)⟩
theorem RunsAt.take {w : World} {p : Option Addr} {n cap : Nat} {l : List Run} (h : RunsAt w (.slice p n cap) l) {k : Nat} (hk : k ≤ n) : RunsAt w (.slice p k cap) (l.take k) := by
  rcases h with ⟨⟨p', c', e⟩, rfl⟩ | ⟨g, off, c', e, hc, hg, hx⟩
  · simp only [Value.slice.injEq] at e
    obtain ⟨rfl, rfl, rfl⟩ := e
    obtain rfl : k = 0 := by omega
    exact .inl ⟨⟨_, _, rfl⟩, by simp⟩
  · simp only [Value.slice.injEq] at e
    obtain ⟨rfl, rfl, rfl⟩ := e
    have hl : (l.take k).length = k := by simp; omega
    exact .inr ⟨g, off, cap, by rw [hl], by omega, hg, fun j hj => by rw [List.getElem_take]; exact hx j (by omega)⟩
end Go.Proofs.Ytlmekadgcllndaa
/- Contracts of layer 5's reference (runs): Cells. -/
set_option linter.unusedVariables false
set_option linter.unusedSimpArgs false
namespace Go.Proofs.Ytlmekadgcllndaa
open Go.ChangeShapes Go.WideShapes Go.ChangeAt Go.RowKit
/-- Facts of the types, as the appends ask them. -/
theorem int_info : ∃ i, Try.prog.info? 3 = some i ∧ i.zero = some (.int .i64 0) ∧ i.size = 1 ∧ i.bytes = 8 := by
  obtain ⟨i, hi⟩ : ∃ i, Try.prog.info? 3 = some i := Option.isSome_iff_exists.1 (by kernel_rfl)
  have h : (Try.prog.info? 3).map (fun i => (i.zero, i.size, i.bytes)) = some (some (.int .i64 0), 1, 8) := by kernel_rfl
  rw [hi] at h
  simp at h
  exact ⟨i, hi, h.1, h.2.1, h.2.2⟩
end Go.Proofs.Ytlmekadgcllndaa
