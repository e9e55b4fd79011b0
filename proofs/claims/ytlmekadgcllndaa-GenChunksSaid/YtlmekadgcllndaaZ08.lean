/- Texts behind each other. -/
import Derived.Test.YtlmekadgcllndaaZ03
import Derived.Test.YtlmekadgcllndaaZ04
import Derived.Test.YtlmekadgcllndaaZ05
import Derived.ChangeKeysEq
import Derived.Deep.WholeRow
import Derived.Test.YtlmekadgcllndaaZ07
/- Contracts of layer 10's landed code (gen): Hash, Ground, blockAt, Block. -/
set_option linter.unusedVariables false
set_option linter.unusedSimpArgs false
namespace Go.Proofs.Ytlmekadgcllndaa
open Go.ChangeShapes Go.WideShapes Go.ChangeAt Go.RowKit
theorem mulA_bd {a b A B : Int} (ha : 0 ≤ a ∧ a ≤ A) (hb : 0 ≤ b ∧ b ≤ B) : 0 ≤ a * b ∧ a * b ≤ A * B :=
  ⟨Int.mul_nonneg ha.1 hb.1, Int.mul_le_mul ha.2 hb.2 hb.1 (Int.le_trans ha.1 ha.2)⟩
theorem nearA_eq (u v U V a b c d : Int) : U * V * a + U * v * b + u * V * c + u * v * d = (a * U + c * u) * V + (b * U + d * u) * v := by
  have e1 : U * V * a = a * U * V := by ac_rfl
  have e2 : U * v * b = b * U * v := by ac_rfl
  have e3 : u * V * c = c * u * V := by ac_rfl
  have e4 : u * v * d = d * u * v := by ac_rfl
  rw [e1, e2, e3, e4, Int.add_mul, Int.add_mul]
  omega
set_option maxRecDepth 10000 in
set_option maxHeartbeats 4000000 in
theorem gA_hash (s x z : Int) (hs : i64 s) (hx : i64 x) (hz : i64 z) (w : World) : Calls Try.prog 23 #[.int .i64 s, .int .i64 x, .int .i64 z] w fun e w' => e = .returned (.int .u64 (hashF s x z)) ∧ w = w' := by
  obtain ⟨R, hR⟩ : ∃ y, hashF s x z = y := ⟨_, rfl⟩
  rw [hR]
  unfold hashF hD hC hB hA at hR
  obtain ⟨S, hS⟩ : ∃ y, IntKind.u64.wrap s = y := ⟨_, rfl⟩
  obtain ⟨X, hX⟩ : ∃ y, IntKind.u64.wrap x = y := ⟨_, rfl⟩
  obtain ⟨Z, hZ⟩ : ∃ y, IntKind.u64.wrap z = y := ⟨_, rfl⟩
  rw [hS, hX, hZ] at hR
  obtain ⟨S1, hS1⟩ : ∃ y, IntKind.u64.wrap (S * 11400714819323198485) = y := ⟨_, rfl⟩
  obtain ⟨X1, hX1⟩ : ∃ y, IntKind.u64.wrap (X * 14029467366897019727) = y := ⟨_, rfl⟩
  obtain ⟨Z1, hZ1⟩ : ∃ y, IntKind.u64.wrap (Z * 1609587929392839161) = y := ⟨_, rfl⟩
  rw [hS1, hX1, hZ1] at hR
  obtain ⟨A, hA⟩ : ∃ y, IntKind.u64.wrap (S1 + X1) = y := ⟨_, rfl⟩
  rw [hA] at hR
  obtain ⟨B, hB⟩ : ∃ y, IntKind.u64.wrap (A + Z1) = y := ⟨_, rfl⟩
  have bB := u64_bd (A + Z1)
  rw [hB] at hR bB
  obtain ⟨b0, b1⟩ := bB
  obtain ⟨Q, hQ⟩ : ∃ y, B / 536870912 = y := ⟨_, rfl⟩
  have q0 : 0 ≤ Q := by omega
  have q1 : Q ≤ 18446744073709551615 := by omega
  rw [hQ] at hR
  obtain ⟨E, hE⟩ : ∃ y, bits .xor .u64 B Q = y := ⟨_, rfl⟩
  rw [hE] at hR
  obtain ⟨C, hC⟩ : ∃ y, IntKind.u64.wrap (E * 13787848793156543929) = y := ⟨_, rfl⟩
  have bC := u64_bd (E * 13787848793156543929)
  rw [hC] at hR bC
  obtain ⟨c0, c1⟩ := bC
  obtain ⟨Q2, hQ2⟩ : ∃ y, C / 4294967296 = y := ⟨_, rfl⟩
  have r0 : 0 ≤ Q2 := by omega
  have r1 : Q2 ≤ 18446744073709551615 := by omega
  rw [hQ2] at hR
  have wQ : IntKind.u64.wrap Q = Q := by rw [IntKind.wrap_u64]; omega
  have wQ2 : IntKind.u64.wrap Q2 = Q2 := by rw [IntKind.wrap_u64]; omega
  have tQ : B.tdiv 536870912 = Q := by rw [Int.tdiv_eq_ediv_of_nonneg b0]; exact hQ
  have tQ2 : C.tdiv 4294967296 = Q2 := by rw [Int.tdiv_eq_ediv_of_nonneg c0]; exact hQ2
  clear hs hx hz
  go_enter Try.func23, Try.ntmps23
  go_wp2
  go_ret
  exact ⟨rfl, rfl⟩
theorem gA_corner (s i k : Int) (hs : i64 s) (hi : i64 i) (hk : i64 k) (b : Nat) (w : World) (hc : w.cell? ⟨b, 0, none⟩ = some (.int .i64 s)) : Calls Try.prog 26 #[.int .i64 i, .int .i64 k, .pointer (some ⟨b, 0, none⟩)] w fun e w' => e = .returned (.int .i64 (h9F s i k)) ∧ w = w' := by
  have hh := fun u => gA_hash s i k hs hi hk u
  have bh := hash_bd s i k
  unfold h9F
  generalize hashF s i k = H at *
  obtain ⟨g0, g1⟩ := bh
  obtain ⟨h, hH⟩ : ∃ y, H % 9 = y := ⟨_, rfl⟩
  have c0 : 0 ≤ h := by omega
  have d0 : h ≤ 8 := by omega
  have t0 : H.tmod 9 = h := by rw [Int.tmod_eq_emod_of_nonneg g0]; exact hH
  have wh : IntKind.i64.wrap h = h := IntWalk.i64_in _ (by omega)
  rw [hH]
  have HH := Lib.hid hh
  clear hh hs hi hk
  go_enter Try.func26, Try.ntmps26
  go_wp2_with fail
  (refine (HH.out _).mono ?_; rintro e w1 ⟨rfl, rfl⟩)
  go_wp2
  go_ret
  exact ⟨rfl, rfl⟩
set_option maxRecDepth 10000 in
set_option maxHeartbeats 8000000 in
theorem gA_ground (s x z : Int) (hs : i64 s) (hx : i64 x) (hz : i64 z) (w : World) : Calls Try.prog 16 #[.int .i64 s, .int .i64 x, .int .i64 z] w fun e w' => e = .returned (.int .i64 (groundF s x z)) ∧ Below w.heap.size w w' := by
  have mx := fun u => c3_mod x 8 hx (by decide) u
  have mz := fun u => c3_mod z 8 hz (by decide) u
  have dx := fun u => c3_div x 8 hx (by decide) u
  have dz := fun u => c3_div z 8 hz (by decide) u
  rw [show modF x 8 = x % 8 from rfl] at mx
  rw [show modF z 8 = z % 8 from rfl] at mz
  rw [show divF x 8 = x / 8 from rfl] at dx
  rw [show divF z 8 = z / 8 from rfl] at dz
  have bU : 0 ≤ x % 8 ∧ x % 8 ≤ 7 := by omega
  have bV : 0 ≤ z % 8 ∧ z % 8 ≤ 7 := by omega
  have bI : -1152921504606846976 ≤ x / 8 ∧ x / 8 ≤ 1152921504606846975 := by obtain ⟨h0, h1⟩ := hx; omega
  have bK : -1152921504606846976 ≤ z / 8 ∧ z / 8 ≤ 1152921504606846975 := by obtain ⟨h0, h1⟩ := hz; omega
  obtain ⟨R, hR⟩ : ∃ y, groundF s x z = y := ⟨_, rfl⟩
  rw [hR]
  unfold groundF groundN at hR
  rw [nearA_eq] at hR
  generalize x % 8 = U at *
  generalize z % 8 = V at *
  generalize x / 8 = I at *
  generalize z / 8 = K at *
  obtain ⟨u0, u1⟩ := bU
  obtain ⟨v0, v1⟩ := bV
  obtain ⟨i0, i1⟩ := bI
  obtain ⟨k0, k1⟩ := bK
  obtain ⟨I1, hI1⟩ : ∃ y, I + 1 = y := ⟨_, rfl⟩
  obtain ⟨K1, hK1⟩ : ∃ y, K + 1 = y := ⟨_, rfl⟩
  have wI1 : IntKind.i64.wrap (I + 1) = I1 := by rw [IntWalk.i64_in _ (by omega)]; exact hI1
  have wK1 : IntKind.i64.wrap (K + 1) = K1 := by rw [IntWalk.i64_in _ (by omega)]; exact hK1
  rw [hI1, hK1] at hR
  have ha00 := fun b u hc => gA_corner s I K hs ⟨by omega, by omega⟩ ⟨by omega, by omega⟩ b u hc
  have bh00 := h9_bd s I K
  generalize h9F s I K = h00 at *
  have ha01 := fun b u hc => gA_corner s I K1 hs ⟨by omega, by omega⟩ ⟨by omega, by omega⟩ b u hc
  have bh01 := h9_bd s I K1
  generalize h9F s I K1 = h01 at *
  have ha10 := fun b u hc => gA_corner s I1 K hs ⟨by omega, by omega⟩ ⟨by omega, by omega⟩ b u hc
  have bh10 := h9_bd s I1 K
  generalize h9F s I1 K = h10 at *
  have ha11 := fun b u hc => gA_corner s I1 K1 hs ⟨by omega, by omega⟩ ⟨by omega, by omega⟩ b u hc
  have bh11 := h9_bd s I1 K1
  generalize h9F s I1 K1 = h11 at *
  obtain ⟨U', hU'⟩ : ∃ y, 8 - U = y := ⟨_, rfl⟩
  obtain ⟨V', hV'⟩ : ∃ y, 8 - V = y := ⟨_, rfl⟩
  rw [hU', hV'] at hR
  have bu' : 0 ≤ U' ∧ U' ≤ 8 := by omega
  have bv' : 0 ≤ V' ∧ V' ≤ 8 := by omega
  have wU' : IntKind.i64.wrap (8 - U) = U' := by rw [IntWalk.i64_in _ (by omega)]; exact hU'
  have wV' : IntKind.i64.wrap (8 - V) = V' := by rw [IntWalk.i64_in _ (by omega)]; exact hV'
  have bp00 := mulA_bd (a := h00) (b := U') (A := 8) (B := 8) (by omega) (by omega)
  obtain ⟨p00, hp00⟩ : ∃ y, h00 * U' = y := ⟨_, rfl⟩
  rw [hp00] at hR bp00
  have wp00 : IntKind.i64.wrap (h00 * U') = p00 := by rw [IntWalk.i64_in _ (by omega)]; exact hp00
  have bp10 := mulA_bd (a := h10) (b := U) (A := 8) (B := 8) (by omega) (by omega)
  obtain ⟨p10, hp10⟩ : ∃ y, h10 * U = y := ⟨_, rfl⟩
  rw [hp10] at hR bp10
  have wp10 : IntKind.i64.wrap (h10 * U) = p10 := by rw [IntWalk.i64_in _ (by omega)]; exact hp10
  obtain ⟨n0, hn0⟩ : ∃ y, p00 + p10 = y := ⟨_, rfl⟩
  rw [hn0] at hR
  have bn0 : 0 ≤ n0 ∧ n0 ≤ 128 := by omega
  have wn0 : IntKind.i64.wrap (p00 + p10) = n0 := by rw [IntWalk.i64_in _ (by omega)]; exact hn0
  have bp01 := mulA_bd (a := h01) (b := U') (A := 8) (B := 8) (by omega) (by omega)
  obtain ⟨p01, hp01⟩ : ∃ y, h01 * U' = y := ⟨_, rfl⟩
  rw [hp01] at hR bp01
  have wp01 : IntKind.i64.wrap (h01 * U') = p01 := by rw [IntWalk.i64_in _ (by omega)]; exact hp01
  have bp11 := mulA_bd (a := h11) (b := U) (A := 8) (B := 8) (by omega) (by omega)
  obtain ⟨p11, hp11⟩ : ∃ y, h11 * U = y := ⟨_, rfl⟩
  rw [hp11] at hR bp11
  have wp11 : IntKind.i64.wrap (h11 * U) = p11 := by rw [IntWalk.i64_in _ (by omega)]; exact hp11
  obtain ⟨n1, hn1⟩ : ∃ y, p01 + p11 = y := ⟨_, rfl⟩
  rw [hn1] at hR
  have bn1 : 0 ≤ n1 ∧ n1 ≤ 128 := by omega
  have wn1 : IntKind.i64.wrap (p01 + p11) = n1 := by rw [IntWalk.i64_in _ (by omega)]; exact hn1
  have bp8 := mulA_bd (a := n0) (b := V') (A := 128) (B := 8) (by omega) (by omega)
  obtain ⟨p8, hp8⟩ : ∃ y, n0 * V' = y := ⟨_, rfl⟩
  rw [hp8] at hR bp8
  have wp8 : IntKind.i64.wrap (n0 * V') = p8 := by rw [IntWalk.i64_in _ (by omega)]; exact hp8
  have bp9 := mulA_bd (a := n1) (b := V) (A := 128) (B := 8) (by omega) (by omega)
  obtain ⟨p9, hp9⟩ : ∃ y, n1 * V = y := ⟨_, rfl⟩
  rw [hp9] at hR bp9
  have wp9 : IntKind.i64.wrap (n1 * V) = p9 := by rw [IntWalk.i64_in _ (by omega)]; exact hp9
  obtain ⟨n9, hn9⟩ : ∃ y, p8 + p9 = y := ⟨_, rfl⟩
  rw [hn9] at hR
  have bn9 : 0 ≤ n9 ∧ n9 ≤ 2048 := by omega
  have wn9 : IntKind.i64.wrap (p8 + p9) = n9 := by rw [IntWalk.i64_in _ (by omega)]; exact hn9
  obtain ⟨b90, b91⟩ := bn9
  obtain ⟨N, hN⟩ : ∃ y, n9 / 64 = y := ⟨_, rfl⟩
  rw [hN] at hR
  have tN : n9.tdiv 64 = N := by rw [Int.tdiv_eq_ediv_of_nonneg b90]; exact hN
  have wN1 : IntKind.i64.wrap N = N := IntWalk.i64_in _ (by omega)
  have wN : IntKind.i64.wrap (6 + N) = R := by rw [← hR]; exact IntWalk.i64_in _ (by omega)
  have MX := Lib.hid mx
  have MZ := Lib.hid mz
  have DX := Lib.hid dx
  have DZ := Lib.hid dz
  have A00 := Lib.hid ha00
  have A01 := Lib.hid ha01
  have A10 := Lib.hid ha10
  have A11 := Lib.hid ha11
  clear mx mz dx dz ha00 ha01 ha10 ha11 hR hs hx hz hI1 hK1 hU' hV' bu' bv' bh00 bh01 bh10 bh11 hN
  clear bp00 bp01 bp10 bp11 bp8 bp9 hp00 hp01 hp10 hp11 hp8 hp9 bn0 bn1 hn0 hn1 hn9
  obtain ⟨W0, hu⟩ : ∃ u, w.alloc (.cells #[.int .i64 s] 3) = u := ⟨_, rfl⟩
  have k9 : Below w.heap.size w W0 := by rw [← hu]; exact al (Below.refl _ _) _
  have rb0 : RowAt W0 w.heap.size #[.int .i64 s] 3 := by rw [← hu]; exact RowAt.make _ _ _ (by simp)
  have c0 := rb0.one
  have KK := Lib.hid k9
  have CC := Lib.hid c0
  have HU := Lib.hid hu
  clear hu k9 rb0 c0
  go_enter Try.func16, Try.ntmps16
  go_wp2_with fail
  rw [HU.out]
  (refine (DX.out _).mono ?_; rintro e w1 ⟨rfl, rfl⟩)
  go_wp2_with fail
  (refine (DZ.out _).mono ?_; rintro e w1 ⟨rfl, rfl⟩)
  go_wp2_with fail
  (refine (MX.out _).mono ?_; rintro e w1 ⟨rfl, rfl⟩)
  go_wp2_with fail
  (refine (MZ.out _).mono ?_; rintro e w1 ⟨rfl, rfl⟩)
  go_wp2_with fail
  (refine (A00.out w.heap.size _ CC.out).mono ?_; rintro e w1 ⟨rfl, rfl⟩)
  go_wp2_with fail
  (refine (A10.out w.heap.size _ CC.out).mono ?_; rintro e w1 ⟨rfl, rfl⟩)
  go_wp2_with fail
  (refine (A01.out w.heap.size _ CC.out).mono ?_; rintro e w1 ⟨rfl, rfl⟩)
  go_wp2_with fail
  (refine (A11.out w.heap.size _ CC.out).mono ?_; rintro e w1 ⟨rfl, rfl⟩)
  go_wp2
  go_ret
  exact ⟨rfl, KK.out⟩
set_option maxRecDepth 10000 in
set_option maxHeartbeats 8000000 in
theorem gA_blockAt (g y : Int) (g0 : 6 ≤ g) (g1 : g ≤ 14) (w : World) : Calls Try.prog 21 #[.int .i64 g, .int .i64 y] w fun e w' => e = .returned (.int .i64 (blockG g y)) ∧ w = w' := by
  obtain ⟨R, hR⟩ : ∃ y', blockG g y = y' := ⟨_, rfl⟩
  rw [hR]
  unfold blockG at hR
  obtain ⟨G3, hG3⟩ : ∃ y', g - 3 = y' := ⟨_, rfl⟩
  obtain ⟨G1, hG1⟩ : ∃ y', g - 1 = y' := ⟨_, rfl⟩
  rw [hG3] at hR
  rw [hG1] at hR
  have w3 : IntKind.i64.wrap (g - 3) = G3 := by rw [IntWalk.i64_in _ (by omega)]; exact hG3
  have w1 : IntKind.i64.wrap (g - 1) = G1 := by rw [IntWalk.i64_in _ (by omega)]; exact hG1
  have H3 := Lib.hid hG3
  have H1 := Lib.hid hG1
  have HR := Lib.hid hR
  have B0 := Lib.hid g0
  have B1 := Lib.hid g1
  clear hR g0 g1 hG3 hG1
  go_enter Try.func21, Try.ntmps21
  by_cases q_lt0 : y < 0
  · have hr : 0 = R := by have h := HR.out; have h3 := H3.out; have h1 := H1.out; have b0 := B0.out; have b1 := B1.out; rw [← h]; (repeat' split) <;> omega
    have f_lt0 : decide (y < 0) = true := by simpa using q_lt0
    clear q_lt0
    have HRR := Lib.hid hr
    clear hr
    go_wp2
    go_ret
    exact ⟨ret_int HRR.out, rfl⟩
  · by_cases q_ge32 : 32 ≤ y
    · have hr : 0 = R := by have h := HR.out; have h3 := H3.out; have h1 := H1.out; have b0 := B0.out; have b1 := B1.out; rw [← h]; (repeat' split) <;> omega
      have f_lt0 : decide (y < 0) = false := by simpa using q_lt0
      have f_ge32 : decide (32 ≤ y) = true := by simpa using q_ge32
      have f_ge320 : decide (y ≥ 32) = true := f_ge32
      clear q_lt0 q_ge32
      have HRR := Lib.hid hr
      clear hr
      go_wp2
      go_ret
      exact ⟨ret_int HRR.out, rfl⟩
    · by_cases q_eq0 : y = 0
      · have hr : 1 = R := by have h := HR.out; have h3 := H3.out; have h1 := H1.out; have b0 := B0.out; have b1 := B1.out; rw [← h]; (repeat' split) <;> omega
        have f_lt0 : decide (y < 0) = false := by simpa using q_lt0
        have f_ge32 : decide (32 ≤ y) = false := by simpa using q_ge32
        have f_ge320 : decide (y ≥ 32) = false := f_ge32
        have f_eq0 : (y == 0) = true := by simpa using q_eq0
        clear q_lt0 q_ge32 q_eq0
        have HRR := Lib.hid hr
        clear hr
        go_wp2
        go_ret
        exact ⟨ret_int HRR.out, rfl⟩
      · by_cases q_ltG3 : y < G3
        · have hr : 1 = R := by have h := HR.out; have h3 := H3.out; have h1 := H1.out; have b0 := B0.out; have b1 := B1.out; rw [← h]; (repeat' split) <;> omega
          have f_lt0 : decide (y < 0) = false := by simpa using q_lt0
          have f_ge32 : decide (32 ≤ y) = false := by simpa using q_ge32
          have f_ge320 : decide (y ≥ 32) = false := f_ge32
          have f_eq0 : (y == 0) = false := by simpa using q_eq0
          have f_ltG3 : decide (y < G3) = true := by simpa using q_ltG3
          clear q_lt0 q_ge32 q_eq0 q_ltG3
          have HRR := Lib.hid hr
          clear hr
          go_wp2
          go_ret
          exact ⟨ret_int HRR.out, rfl⟩
        · by_cases q_eqG1 : y = G1
          · by_cases q_le9 : g ≤ 9
            · have hr : 3 = R := by have h := HR.out; have h3 := H3.out; have h1 := H1.out; have b0 := B0.out; have b1 := B1.out; rw [← h]; (repeat' split) <;> omega
              have f_lt0 : decide (y < 0) = false := by simpa using q_lt0
              have f_ge32 : decide (32 ≤ y) = false := by simpa using q_ge32
              have f_ge320 : decide (y ≥ 32) = false := f_ge32
              have f_eq0 : (y == 0) = false := by simpa using q_eq0
              have f_ltG3 : decide (y < G3) = false := by simpa using q_ltG3
              have f_eqG1 : (y == G1) = true := by simpa using q_eqG1
              have f_le9 : decide (g ≤ 9) = true := by simpa using q_le9
              clear q_lt0 q_ge32 q_eq0 q_ltG3 q_eqG1 q_le9
              have HRR := Lib.hid hr
              clear hr
              go_wp2
              go_ret
              exact ⟨ret_int HRR.out, rfl⟩
            · by_cases q_ltg : y < g
              · have hr : 2 = R := by have h := HR.out; have h3 := H3.out; have h1 := H1.out; have b0 := B0.out; have b1 := B1.out; rw [← h]; (repeat' split) <;> omega
                have f_lt0 : decide (y < 0) = false := by simpa using q_lt0
                have f_ge32 : decide (32 ≤ y) = false := by simpa using q_ge32
                have f_ge320 : decide (y ≥ 32) = false := f_ge32
                have f_eq0 : (y == 0) = false := by simpa using q_eq0
                have f_ltG3 : decide (y < G3) = false := by simpa using q_ltG3
                have f_eqG1 : (y == G1) = true := by simpa using q_eqG1
                have f_le9 : decide (g ≤ 9) = false := by simpa using q_le9
                have f_ltg : decide (y < g) = true := by simpa using q_ltg
                clear q_lt0 q_ge32 q_eq0 q_ltG3 q_eqG1 q_le9 q_ltg
                have HRR := Lib.hid hr
                clear hr
                go_wp2
                go_ret
                exact ⟨ret_int HRR.out, rfl⟩
              · exact absurd q_ltg (by have h3 := H3.out; have h1 := H1.out; omega)
          · by_cases q_ltg : y < g
            · have hr : 2 = R := by have h := HR.out; have h3 := H3.out; have h1 := H1.out; have b0 := B0.out; have b1 := B1.out; rw [← h]; (repeat' split) <;> omega
              have f_lt0 : decide (y < 0) = false := by simpa using q_lt0
              have f_ge32 : decide (32 ≤ y) = false := by simpa using q_ge32
              have f_ge320 : decide (y ≥ 32) = false := f_ge32
              have f_eq0 : (y == 0) = false := by simpa using q_eq0
              have f_ltG3 : decide (y < G3) = false := by simpa using q_ltG3
              have f_eqG1 : (y == G1) = false := by simpa using q_eqG1
              have f_ltg : decide (y < g) = true := by simpa using q_ltg
              clear q_lt0 q_ge32 q_eq0 q_ltG3 q_eqG1 q_ltg
              have HRR := Lib.hid hr
              clear hr
              go_wp2
              go_ret
              exact ⟨ret_int HRR.out, rfl⟩
            · by_cases q_lt9 : y < 9
              · have hr : 8 = R := by have h := HR.out; have h3 := H3.out; have h1 := H1.out; have b0 := B0.out; have b1 := B1.out; rw [← h]; (repeat' split) <;> omega
                have f_lt0 : decide (y < 0) = false := by simpa using q_lt0
                have f_ge32 : decide (32 ≤ y) = false := by simpa using q_ge32
                have f_ge320 : decide (y ≥ 32) = false := f_ge32
                have f_eq0 : (y == 0) = false := by simpa using q_eq0
                have f_ltG3 : decide (y < G3) = false := by simpa using q_ltG3
                have f_eqG1 : (y == G1) = false := by simpa using q_eqG1
                have f_ltg : decide (y < g) = false := by simpa using q_ltg
                have f_lt9 : decide (y < 9) = true := by simpa using q_lt9
                clear q_lt0 q_ge32 q_eq0 q_ltG3 q_eqG1 q_ltg q_lt9
                have HRR := Lib.hid hr
                clear hr
                go_wp2
                go_ret
                exact ⟨ret_int HRR.out, rfl⟩
              · have hr : 0 = R := by have h := HR.out; have h3 := H3.out; have h1 := H1.out; have b0 := B0.out; have b1 := B1.out; rw [← h]; (repeat' split) <;> omega
                have f_lt0 : decide (y < 0) = false := by simpa using q_lt0
                have f_ge32 : decide (32 ≤ y) = false := by simpa using q_ge32
                have f_ge320 : decide (y ≥ 32) = false := f_ge32
                have f_eq0 : (y == 0) = false := by simpa using q_eq0
                have f_ltG3 : decide (y < G3) = false := by simpa using q_ltG3
                have f_eqG1 : (y == G1) = false := by simpa using q_eqG1
                have f_ltg : decide (y < g) = false := by simpa using q_ltg
                have f_lt9 : decide (y < 9) = false := by simpa using q_lt9
                clear q_lt0 q_ge32 q_eq0 q_ltG3 q_eqG1 q_ltg q_lt9
                have HRR := Lib.hid hr
                clear hr
                go_wp2
                go_ret
                exact ⟨ret_int HRR.out, rfl⟩
set_option maxRecDepth 10000 in
set_option maxHeartbeats 8000000 in
theorem gA_block (s x y z : Int) (hs : i64 s) (hx : i64 x) (hz : i64 z) (w : World) : Calls Try.prog 15 #[.int .i64 s, vecV x y z] w fun e w' => e = .returned (.int .i64 (blockF s x y z)) ∧ Below w.heap.size w w' := by
  have hg := fun u => gA_ground s x z hs hx hz u
  have bg := ground_bd s x z
  unfold blockF
  generalize groundF s x z = g at *
  have hb := fun u => gA_blockAt g y bg.1 bg.2 u
  generalize blockG g y = R at *
  have HG := Lib.hid hg
  have HB := Lib.hid hb
  clear hg hb bg hs hx hz
  go_enter Try.func15, Try.ntmps15
  go_upto_region 1 with (fail)
  obtain ⟨u0, hu⟩ : ∃ u, w.alloc (.cells #[.int .i64 x, .int .i64 y, .int .i64 z] 33) = u := ⟨_, rfl⟩
  rw [hu]
  have k00 : Below w.heap.size w u0 := by rw [← hu]; exact al (Below.refl _ _) _
  have rb0 : RowAt u0 w.heap.size #[.int .i64 x, .int .i64 y, .int .i64 z] 33 := by rw [← hu]; exact RowAt.new w _ _
  have c0 := rb0.cell
  have z0 := rb0.lt
  have KK := Lib.hid k00
  clear hu k00
  refine region_below 9 (by kernel_rfl) (by kernel_rfl) ?_
  simp only [List.take_succ_cons, List.take_zero, List.drop_succ_cons, List.drop_zero]
  repeat (first | (refine' InText.skip (by rfl) ?_; simp only [Act.put, List.setIfInBounds_toArray, List.set_cons_zero, List.set_cons_succ]) | (refine' InText.val (by rfl) (fun wr hr => ?_) ?_; rotate_left 1; (focus (obtain ⟨hrc, hrf⟩ := bcell hr; (go_simp <;> with_reducible rfl); done)); simp only [Act.put, List.setIfInBounds_toArray, List.set_cons_zero, List.set_cons_succ]) | (refine' InText.call (by rfl) (fun wr hr => ?_) (fun wr hr => ?_) ?_; rotate_left 3; (focus ((go_simp <;> (first | with_reducible rfl | exact ⟨rfl, rfl⟩)); done)); (focus (first | with_reducible exact HG.out _ | with_reducible exact pureB (HB.out _))); simp only [Act.put, List.setIfInBounds_toArray, List.set_cons_zero, List.set_cons_succ]))
  refine fun wr hr => ?_
  obtain ⟨hrc, hrf⟩ := bcell hr
  go_wp2
  go_ret
  exact ⟨rfl, chain KK.out hr⟩
end Go.Proofs.Ytlmekadgcllndaa
/- Contracts of layer 10's landed code (gen): groundsOf. -/
set_option linter.unusedVariables false
set_option linter.unusedSimpArgs false
namespace Go.Proofs.Ytlmekadgcllndaa
open Go.ChangeShapes Go.WideShapes Go.ChangeAt Go.RowKit
theorem run_index_row {P : Program} {T e : TypeId} {n k : Nat} {cs : Array Value} {x : Value} {i : TypeInfo} (hu : P.underlying T = some (.array n e)) (he : P.plainKey e = true) (hi : P.info? e = some i) (hc : P.cellsOf e = 1) (hk : k < n) (hx : cs[k]? = some x) (w : World) :
    (Instr.index T (.agg cs) (.int .i64 (k : Int))).run P w = .ok x w := by
  have h9 : (0 : Int) ≤ (k : Int) ∧ (k : Int) < (n : Int) := by omega
  simp [Instr.index, asIntOf, run_underlying hu, h9, hk, run_sizeOf w hi, hc, run_part_plain w he hx]
/-- The grounds of a chunk's columns. -/
def colA (s px pz : Int) (j : Nat) : Int := groundF s (px * 16 + (j : Int) % 16) (pz * 16 + (j : Int) / 16)
structure GroundsAt (cs : Array Value) (s px pz : Int) (n : Nat) : Prop where
  size : cs.size = 256
  ints : ∀ j, j < 256 → ∃ g, cs[j]? = some (.int .i64 g)
  col : ∀ j, j < n → cs[j]? = some (.int .i64 (colA s px pz j))
theorem GroundsAt.one {cs : Array Value} {s px pz : Int} {n : Nat} (h : GroundsAt cs s px pz n) : cs.all (·.oneCell') = true := by
  rw [Array.all_eq_true]
  intro j hj
  obtain ⟨g, hg⟩ := h.ints j (by have := h.size; omega)
  rw [Array.getElem?_eq_getElem hj] at hg
  rw [Option.some.inj hg]
  rfl
theorem GroundsAt.none (s px pz : Int) : GroundsAt (Array.replicate 256 (.int .i64 0)) s px pz 0 := ⟨by simp, fun j hj => ⟨0, by simp [Array.getElem?_replicate, hj]⟩, fun j hj => absurd hj (by omega)⟩
theorem GroundsAt.put {cs : Array Value} {s px pz : Int} {n : Nat} (h : GroundsAt cs s px pz n) (hn : n < 256) : GroundsAt (cs.setIfInBounds n (.int .i64 (colA s px pz n))) s px pz (n + 1) := by
  have hz := h.size
  refine ⟨by simpa using hz, fun j hj => ?_, fun j hj => ?_⟩
  · by_cases e : j = n
    · subst e
      exact ⟨_, by simp [hz, hj]; rfl⟩
    · rw [Array.getElem?_setIfInBounds_ne (by omega)]
      exact h.ints j hj
  · by_cases e : j = n
    · subst e
      simp [hz, hn]
    · rw [Array.getElem?_setIfInBounds_ne (by omega)]
      exact h.col j (by omega)
set_option maxRecDepth 10000 in
set_option maxHeartbeats 8000000 in
theorem gA_groundsOf (s px pz : Int) (hs : i64 s) (hx : -134217728 ≤ px ∧ px ≤ 134217728) (hz : -134217728 ≤ pz ∧ pz ≤ 134217728) (w : World) : Calls Try.prog 20 #[.int .i64 s, posV px pz] w fun e w' => ∃ cs, e = .returned (.agg cs) ∧ GroundsAt cs s px pz 256 ∧ Below w.heap.size w w' := by
  have i16 : (Try.prog.info? 47).map (·.size) = some 256 := by kernel_rfl
  obtain ⟨Z0, hZ0⟩ : ∃ Z : Array Value, Array.replicate 256 (.int .i64 0) = Z := ⟨_, rfl⟩
  have zv : ∀ u, (zeroValue 47).run Try.prog u = .ok (.agg Z0) u := (zero_of_info (n := 256) (by rw [← hZ0]; kernel_rfl)).1
  have gz := GroundsAt.none s px pz
  rw [hZ0] at gz
  have SZ := Lib.hid gz.size
  have GZ := Lib.hid gz
  have H16 := Lib.hid i16
  clear hZ0 gz i16
  have fr := fun (j : Nat) (hj : j < 256) u => c3_from px pz (j : Int) hx hz (by omega) (by omega) u
  have FR := Lib.hid fr
  have HX := Lib.hid hx
  have HZ := Lib.hid hz
  have HS := Lib.hid hs
  clear fr hx hz hs
  go_enter Try.func20, Try.ntmps20
  go_wp2_with fail
  go_loopw [9] (fun i wr => ∃ (k : Nat) (cs : Array Value), k ≤ 256 ∧ i = .int .i64 k ∧ GroundsAt cs s px pz k ∧ RowAt wr (w.heap.size + 1 + 1) cs 47 ∧ RowAt wr (w.heap.size + 1) Z0 47 ∧ RowAt wr w.heap.size #[.int .i64 px, .int .i64 pz] 23 ∧ Below w.heap.size w wr) (fun i _ => 256 - (intOf i).toNat)
  case atStart => exact ⟨0, Z0, by omega, rfl, GZ.out, RowAt.make _ _ _ (by simp), RowAt.alloc (RowAt.make _ _ _ (by simp)) _, RowAt.alloc (RowAt.alloc (RowAt.new _ _ _) _) _, by (repeat (first | with_reducible assumption | with_reducible exact Below.refl _ _ | with_reducible refine Below.drew ?_ | with_reducible refine below_drewN ?_ _ | with_reducible refine al ?_ _ | (with_reducible refine sc ?_ ?_; (focus (first | omega | (simp; done) | (simp; omega)))) | (with_reducible refine chain ?_ (by assumption))))⟩
  case round =>
    obtain ⟨k, cs, hk, rfl, hg, hr, hr1, hr0, kw⟩ := hrel
    by_cases hlt : k < 256
    · have hki : (k : Int) < 256 := by omega
      have wk : IntKind.i64.wrap ((k : Int) + 1) = (k : Int) + 1 := IntWalk.i64_in _ (by omega)
      have hfr := fun u => FR.out k hlt u
      have gg := fun u => gA_ground s (px * 16 + (k : Int) % 16) (pz * 16 + (k : Int) % 256 / 16) HS.out (by have := HX.out; constructor <;> omega) (by have := HZ.out; constructor <;> omega) u
      have hcol : groundF s (px * 16 + (k : Int) % 16) (pz * 16 + (k : Int) % 256 / 16) = colA s px pz k := by
        unfold colA
        rw [show (k : Int) % 256 = (k : Int) by omega]
      rw [hcol] at gg
      generalize px * 16 + (k : Int) % 16 = X at *
      generalize pz * 16 + (k : Int) % 256 / 16 = Z at *
      generalize (k : Int) / 256 = Y at *
      have FRK := Lib.hid hfr
      have GG := Lib.hid gg
      have HG := Lib.hid hg
      have KW := Lib.hid kw
      have c0 := hr0.cell
      have z0 := hr0.lt
      clear hfr gg hcol hg kw
      go_wp2_with fail
      refine (FRK.out _).mono ?_
      rintro e w1 ⟨rfl, hb1⟩
      have KW1 := Lib.hid (chain KW.out hb1)
      have q := hr.keep hb1
      have q1 := hr1.keep hb1
      have q0 := hr0.keep hb1
      clear hb1 c0 z0 hr hr1 hr0
      have z0 := q0.lt
      have c0 := q0.cell
      go_wp2_with fail
      obtain ⟨w2, hw2⟩ : ∃ u, w1.alloc (.cells #[.int .i64 X, .int .i64 Y, .int .i64 Z] 33) = u := ⟨_, rfl⟩
      rw [hw2]
      refine (GG.out _).mono ?_
      rintro e w3 ⟨rfl, hb3⟩
      have kq : Below w1.heap.size w1 w3 := by
        refine chain ?_ hb3
        rw [← hw2]
        exact al (Below.refl _ _) _
      have KW3 := Lib.hid (chain KW1.out kq)
      have p := q.keep kq
      have p1 := q1.keep kq
      have p0 := q0.keep kq
      clear hb3 hw2 kq q q1 q0 c0 z0
      have cc := p.cell k
      have cf := p.frozen k
      obtain ⟨x0, hx0⟩ := HG.out.ints k hlt
      rw [hx0] at cc
      go_wp2_with fail
      clear cc cf
      have HP := Lib.hid (p.set k (.int .i64 (colA s px pz k)))
      have HP1 := Lib.hid (p1.other (p := ⟨w.heap.size + 1 + 1, k, none⟩) (by show ¬ w.heap.size + 1 = w.heap.size + 1 + 1; omega) (.int .i64 (colA s px pz k)))
      have HP0 := Lib.hid (p0.other (p := ⟨w.heap.size + 1 + 1, k, none⟩) (by show ¬ w.heap.size = w.heap.size + 1 + 1; omega) (.int .i64 (colA s px pz k)))
      have KW4 := Lib.hid (KW3.out.setCell (p := ⟨w.heap.size + 1 + 1, k, none⟩) (by show w.heap.size ≤ w.heap.size + 1 + 1; omega) (.int .i64 (colA s px pz k)))
      clear p p1 p0
      go_roundw
      case rel => exact ⟨k + 1, _, by omega, by go_num, HG.out.put hlt, HP.out, HP1.out, HP0.out, KW4.out⟩
      case measure => simp [intOf]; omega
    · obtain rfl : k = 256 := by omega
      have hz := hg.size
      have i16 : (Try.prog.info? 47).map (·.size) = some cs.size := by rw [hz]; exact H16.out
      have I16 := Lib.hid i16
      have HG := Lib.hid hg
      have KW := Lib.hid kw
      clear i16 hg kw hz
      go_wp2_with (first | refine wpList_load_row rfl 47 _ rfl (w.heap.size + 1 + 1) rfl _ _ _ _ hr Try.underlying47 rfl I16.out ?_ | refine wpList_store_row rfl 47 _ _ rfl (w.heap.size + 1) cs rfl rfl _ _ hr1 I16.out (by rw [SZ.out, HG.out.size]) HG.out.one ?_)
      exact bodyPost_ret (v := .agg cs) (results_cell_row rfl _ _ (w.heap.size + 1) _ _ _ _ rfl (hr1.row _) Try.underlying47 rfl I16.out) rfl ⟨_, rfl, HG.out, below_setRow KW.out (by omega) _⟩
end Go.Proofs.Ytlmekadgcllndaa
/- Layer 10's landed code (gen): the iterator Cells. -/
set_option linter.unusedVariables false
set_option linter.unusedSimpArgs false
namespace Go.Proofs.Ytlmekadgcllndaa
open Go.ChangeShapes Go.WideShapes Go.ChangeAt Go.RowKit Go.Shelf
attribute [local go_sem] Oper.semAt_some
theorem cellA_col (s px pz : Int) (k m : Nat) (hm : m < 256) : cellA s px pz (k * 256 + m) = blockG (colA s px pz m) (k : Int) := by
  unfold cellA blockF colA
  rw [show ((k * 256 + m : Nat) : Int) % 16 = (m : Int) % 16 by omega, show ((k * 256 + m : Nat) : Int) / 256 = (k : Int) by omega, show ((k * 256 + m : Nat) : Int) % 256 / 16 = (m : Int) / 16 by omega]
theorem colA_bd (s px pz : Int) (m : Nat) : 6 ≤ colA s px pz m ∧ colA s px pz m ≤ 14 := by unfold colA; exact ground_bd _ _ _
theorem wpIn_load_row {n : Nat} {P : Program} {o : Oper} {a : Act} {u : World} {K : Act → World → Prop} {Q : Exit → Act → World → Prop} (T : TypeId) (x : Operand) (ho : o.op = .load T x) {b : Nat} (hx : a.eval x = .pointer (some ⟨b, 0, none⟩)) {cs : Array Value} {t : TypeId} (hg : RowAt u b cs t) {d : TypeDesc}
    (hu : P.underlying T = some d) (hd : (match d with | .struct _ | .array _ _ => true | _ => false) = true) (hi : (P.info? T).map (·.size) = some cs.size) (hk : K (a.put o.dst (.agg cs)) u) : o.wpIn Fence.wide n P a u K Q :=
  ⟨fun _ _ => trivial, by rw [show o.semAt (Fence.wide.round) a.eval = execOp a.eval o from Oper.semAt_none _ _, exec_load_row T x ho hx hg hu hd hi, Oper.uponIn_value]; exact hk⟩
set_option maxRecDepth 100000 in
set_option maxHeartbeats 8000000 in
theorem gA_cellsK (s px pz : Int) (hs : i64 s) (hx : -134217728 ≤ px ∧ px ≤ 134217728) (hz : -134217728 ≤ pz ∧ pz ≤ 134217728) (w : World) : Calls Try.prog 9 #[.int .i64 s, posV px pz] w fun e w' =>
    ∃ lb, e = .returned (.func (.func 19) #[] lb) ∧ Below w.heap.size w w' ∧ ∀ w2, Below w'.heap.size w' w2 → ∀ (Kp : World → World → Prop), (∀ A B b cs, w2.heap.size ≤ b → Kp A B → RowAt A b cs 47 → RowAt B b cs 47) → ∀ n, 1 ≤ n → SeqStopsK Fence.wide n Try.prog 19 lb (fun x : Int => #[.int .i64 x]) Kp (fun ys => ys = chunkF s px pz 8192) (fun pre => pre <+: chunkF s px pz 8192) (chunkF s px pz 8192).length w2 := by
  have cs := fun j => chunkF_succ s px pz j
  have clen := fun j => chunkF_len s px pz j
  have tk : ∀ j, j ≤ 8192 → (chunkF s px pz 8192).take j = chunkF s px pz j := fun j hj => by
    unfold chunkF
    rw [← List.map_take, List.take_range, Nat.min_eq_left hj]
  have go := fun u => gA_groundsOf s px pz hs hx hz u
  have bl := fun (k m : Nat) u => gA_blockAt (colA s px pz m) (k : Int) (colA_bd s px pz m).1 (colA_bd s px pz m).2 u
  obtain ⟨Z0, hZ0⟩ : ∃ Z : Array Value, Array.replicate 256 (.int .i64 0) = Z := ⟨_, rfl⟩
  have zv : ∀ u, (zeroValue 47).run Try.prog u = .ok (.agg Z0) u := (zero_of_info (n := 256) (by rw [← hZ0]; kernel_rfl)).1
  have i16 : (Try.prog.info? 47).map (·.size) = some 256 := by kernel_rfl
  obtain ⟨i0, hi0, hi1, hi2, hi3⟩ := int_info
  have e1 : Try.prog.cellsOf 3 = 1 := by kernel_rfl
  have pk : Try.prog.plainKey 3 = true := by kernel_rfl
  have ix := fun (cs : Array Value) (m : Nat) (g : Int) (hm : m < 256) (hg : cs[m]? = some (.int .i64 g)) u => run_index_row (T := 47) (e := 3) (n := 256) (k := m) (cs := cs) (x := .int .i64 g) (i := i0) Try.underlying47 pk hi0 e1 hm hg u
  have sz := (GroundsAt.none s px pz).size
  rw [hZ0] at sz
  have SZ := Lib.hid sz
  have H16 := Lib.hid i16
  have GO := Lib.hid go
  have BL := Lib.hid bl
  have IX := Lib.hid ix
  have CS := Lib.hid cs
  have CLN := Lib.hid clen
  have TK := Lib.hid tk
  clear cs clen tk hs hx hz go bl ix i16 sz hZ0 hi0 hi1 hi2 hi3 e1 pk
  go_enter Try.func9, Try.ntmps9
  obtain ⟨u, hu⟩ : ∃ u, (w.alloc (.cells #[.int .i64 s] 3)).alloc (.cells #[.int .i64 px, .int .i64 pz] 23) = u := ⟨_, rfl⟩
  have kw : Below w.heap.size w u := by rw [← hu]; exact al (al (Below.refl _ _) _) _
  have r2 : RowAt u w.heap.size #[.int .i64 s] 3 := by rw [← hu]; exact (RowAt.new w _ _).alloc _
  have r3 : RowAt u (w.heap.size + 1) #[.int .i64 px, .int .i64 pz] 23 := by rw [← hu]; exact RowAt.make _ _ _ (by simp)
  have HU := Lib.hid hu
  clear hu
  go_wp2
  rw [HU.out]
  go_ret
  refine ⟨_, rfl, kw, ?_⟩
  intro w2 hw2 Kp hKp n hn l1 J Jx W hW0 hJ hJx hY h0
  have hW : Below u.heap.size u W := chain hw2 hW0
  have q2 := r2.keep hW
  have q3 := r3.keep hW
  have HY := Lib.hid hY
  have HJ := Lib.hid hJ
  have s2 := hw2.size
  have s3 := hW0.size
  have H0 := Lib.hid h0
  have c2 := q2.one
  have z2 := q2.lt
  have c3 := q3.cell
  have z3 := q3.lt
  clear hY hJ hJx hW0 hw2 q2 q3 hW h0
  refine callsIn_of_wp Try.func19 rfl trivial ?_ rfl
  simp only [Try.ntmps19, List.size_toArray, List.length_cons, List.length_nil, Nat.reduceAdd, Nat.reduceSub, Array.replicate_succ, Array.replicate_zero, List.push_toArray, List.append_toArray, List.nil_append, List.cons_append]
  gi_wp2_with fail
  refine ⟨trivial, (callsIn_wide.2 (GO.out _)).mono ?_⟩
  rintro e V1 ⟨cs, rfl, hg, hv1⟩
  clear c2 z2 c3 z3
  have jv1 := abides HJ.out H0.out hv1
  have csz := hg.size
  have st2 : (storeCells ⟨V1.heap.size, 0, none⟩ cs.toList 0).run Try.prog (V1.alloc (.cells Z0 47)) = .ok () (V1.alloc (.cells cs 47)) := run_storeCells_new V1 _ Z0 cs (by rw [csz]; exact H16.out) (by rw [csz]; exact SZ.out) hg.one
  obtain ⟨V2, hV2⟩ : ∃ v, V1.alloc (.cells cs 47) = v := ⟨_, rfl⟩
  rw [hV2] at st2
  have hv2 : Below V1.heap.size V1 V2 := by rw [← hV2]; exact al (Below.refl _ _) _
  have RT := Lib.hid (show RowAt V2 V1.heap.size cs 47 by rw [← hV2]; exact RowAt.new V1 _ _)
  have s5 := hv2.size
  have HG := Lib.hid hg
  have s4 := hv1.size
  have JV := Lib.hid (abides HJ.out jv1 hv2)
  clear jv1 hg hv1 hv2 hV2
  gi_wp2_with fail
  gi_loopw [11] (fun i wr => ∃ k : Nat, k ≤ 32 ∧ i = .int .i64 k ∧ J (chunkF s px pz (k * 256)) wr ∧ RowAt wr V1.heap.size cs 47 ) (fun i _ => 32 - (intOf i).toNat)
  case atStart => exact ⟨0, by omega, rfl, JV.out, RT.out⟩
  case round =>
    obtain ⟨k, hk, rfl, hJs, hrt⟩ := hrel
    by_cases hlt : k < 32
    · have hlt2 : (k : Int) < 32 := by omega
      have i2 : (Try.prog.info? 47).map (·.size) = some cs.size := by rw [csz]; exact H16.out
      have I2 := Lib.hid i2
      clear i2
      have HJS := Lib.hid hJs
      have HRT := Lib.hid hrt
      clear hJs hrt
      gi_wp2_with fail
      refine wpIn_load_row 47 _ rfl rfl HRT.out Try.underlying47 rfl I2.out ?_
      gi_wp2_with fail
      gi_loopw [15] (fun i ws => ∃ m : Nat, m ≤ 256 ∧ i = .int .i64 m ∧ J (chunkF s px pz (k * 256 + m)) ws ∧ RowAt ws V1.heap.size cs 47 ) (fun i _ => 256 - (intOf i).toNat)
      case atStart => exact ⟨0, by omega, rfl, HJS.out, HRT.out⟩
      case round =>
        obtain ⟨m, hm, rfl, hJm, hrm⟩ := hrel
        by_cases hmt : m < 256
        · have hmt2 : (m : Int) < 256 := by omega
          have ixm := fun v => IX.out cs m _ hmt (HG.out.col m hmt) v
          have blm := fun v => BL.out k m v
          have hcs := CS.out (k * 256 + m)
          rw [cellA_col s px pz k m hmt] at hcs
          generalize blockG (colA s px pz m) (k : Int) = b at *
          generalize colA s px pz m = g at *
          have BLM := Lib.hid blm
          have HCS := Lib.hid hcs
          have HJM := Lib.hid hJm
          have HRM := Lib.hid hrm
          clear blm hcs hJm hrm
          gi_wp2_with fail
          refine ⟨trivial, (callsIn_wide.2 (BLM.out _)).mono ?_⟩
          rintro e V3 ⟨rfl, rfl⟩
          obtain ⟨fn, tmps, assign, body, hy, hR⟩ := HY.out _ b _ HJM.out (by rw [CLN.out, CLN.out]; omega)
          try dsimp only at hy
          clear ixm
          gi_wp2
          refine hR.mono ?_
          rintro e W3 (⟨rfl, hJ3, hk3⟩ | ⟨rfl, hJx3⟩)
          · rw [← HCS.out] at hJ3
            have rt3 := hKp _ _ _ _ (by omega) hk3 HRM.out
            clear hk3
            gi_wp2
            go_roundw
            case rel => exact ⟨m + 1, by omega, by go_num, hJ3, rt3⟩
            case measure => simp [intOf]; omega
          · rw [← HCS.out] at hJx3
            gi_wp2
            refine bodyPost_ret (results_none rfl _ _ _) rfl ?_
            exact ⟨⟨_, rfl⟩, .inr ⟨_, by rw [← TK.out (k * 256 + m + 1) (by omega)]; exact List.take_prefix _ _, hJx3⟩⟩
        · obtain rfl : m = 256 := by omega
          gi_wp2
          go_roundw
          case rel => exact ⟨k + 1, by omega, by go_num, by rw [show (k + 1) * 256 = k * 256 + 256 by omega]; exact hJm, hrm⟩
          case measure => simp [intOf]; omega
    · obtain rfl : k = 32 := by omega
      gi_wp2
      go_end0
      exact ⟨⟨_, rfl⟩, .inl ⟨_, rfl, hJs⟩⟩
theorem gA_cells (s px pz : Int) (hs : i64 s) (hx : -134217728 ≤ px ∧ px ≤ 134217728) (hz : -134217728 ≤ pz ∧ pz ≤ 134217728) (w : World) : Calls Try.prog 9 #[.int .i64 s, posV px pz] w fun e w' =>
    ∃ lb, e = .returned (.func (.func 19) #[] lb) ∧ Below w.heap.size w w' ∧ ∀ w2, Below w'.heap.size w' w2 → TellsA Try.prog 19 lb (chunkF s px pz 8192) w'.heap.size w2 := by
  refine (gA_cellsK s px pz hs hx hz w).mono ?_
  rintro e w' ⟨lb, rfl, hb, ht⟩
  exact ⟨lb, rfl, hb, fun w2 h2 n hn => ht w2 h2 (Kept w'.heap.size w2.heap.size) (fun A B b cs hb hk hr => hk.row hb hr) n hn⟩
end Go.Proofs.Ytlmekadgcllndaa
