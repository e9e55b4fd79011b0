/- Words of layer 7: the check, half a byte at once. No program. -/
import Derived.Test.YtnpondgnmoedhaaK07
set_option linter.unusedVariables false
namespace Go.Proofs.Ytnpondgnmoedhaa
open Go Go.RowKit
def st4 (c : W16) : W16 := iterB 4 c
theorem st4_st8 (c : W16) : st8 c = st4 (st4 c) := rfl
theorem st4_lin (a b : W16) : st4 (a ^^^ b) = st4 a ^^^ st4 b := by simp only [st4, iterB, stB_lin]
theorem stB_small {c : W16} (h : c.toNat < 32768) : (stB c).toNat = c.toNat * 2 := by rw [stB_nat, if_neg (by omega)]
theorem st4_small {c : W16} (h : c.toNat < 4096) : (st4 c).toNat = c.toNat * 16 := by
  have h1 := stB_small (c := c) (by omega)
  have h2 := stB_small (c := stB c) (by omega)
  have h3 := stB_small (c := stB (stB c)) (by omega)
  have h4 := stB_small (c := stB (stB (stB c))) (by omega)
  show (stB (stB (stB (stB c)))).toNat = _
  omega
/-- What a word's highest four bits turn it by. -/
def tab4 (x : Nat) : W16 := st4 (BitVec.ofNat 16 (x * 4096))
theorem low12 (n : Nat) : n ^^^ (n / 4096 * 4096) = n % 4096 := by
  rw [show (4096 : Nat) = 2 ^ 12 from rfl]
  apply Nat.eq_of_testBit_eq
  intro i
  rw [Nat.testBit_xor, Nat.testBit_mul_two_pow, Nat.testBit_mod_two_pow, Nat.testBit_div_two_pow]
  by_cases h : i < 12
  · simp [h, show ¬ 12 ≤ i by omega]
  · simp [h, show 12 ≤ i by omega, show i - 12 + 12 = i by omega]
theorem st4_half (c : W16) : st4 c = (c <<< 4) ^^^ tab4 (c.toNat / 4096) := by
  have hl := c.isLt
  obtain ⟨H, hH⟩ : ∃ H, BitVec.ofNat 16 (c.toNat / 4096 * 4096) = H := ⟨_, rfl⟩
  have hHn : H.toNat = c.toNat / 4096 * 4096 := by rw [← hH, BitVec.toNat_ofNat]; omega
  have hlo : (c ^^^ H).toNat = c.toNat % 4096 := by rw [BitVec.toNat_xor, hHn, low12]
  have e : c = (c ^^^ H) ^^^ H := by rw [BitVec.xor_assoc, BitVec.xor_self, BitVec.xor_zero]
  have h4 : st4 (c ^^^ H) = c <<< 4 := by
    apply BitVec.eq_of_toNat_eq
    rw [st4_small (by omega), hlo, BitVec.toNat_shiftLeft, Nat.shiftLeft_eq]
    omega
  conv => lhs; rw [e, st4_lin, h4]
  unfold tab4
  rw [hH]
/-- Half a byte more. -/
def hsF (c : W16) (x : Nat) : W16 := (c <<< 4) ^^^ tab4 ((c.toNat / 4096) ^^^ x)
theorem hs_step (c : W16) (x : Nat) (hx : x < 16) : st4 (c ^^^ BitVec.ofNat 16 (x * 4096)) = hsF c x := by
  obtain ⟨X, hX⟩ : ∃ X, BitVec.ofNat 16 (x * 4096) = X := ⟨_, rfl⟩
  have hXn : X.toNat = x * 4096 := by rw [← hX, BitVec.toNat_ofNat]; omega
  have h1 : X <<< 4 = 0#16 := by
    apply BitVec.eq_of_toNat_eq
    rw [BitVec.toNat_shiftLeft, Nat.shiftLeft_eq, hXn]
    show _ = 0
    omega
  have h2 : (c.toNat ^^^ x * 4096) / 4096 = (c.toNat / 4096) ^^^ x := by
    rw [show (4096 : Nat) = 2 ^ 12 from rfl, ← Nat.shiftRight_eq_div_pow, ← Nat.shiftRight_eq_div_pow, Nat.shiftRight_xor_distrib, Nat.shiftRight_eq_div_pow (x * 2 ^ 12), Nat.mul_div_cancel _ (by decide)]
  rw [hX, st4_half, BitVec.shiftLeft_xor_distrib, h1, BitVec.xor_zero, BitVec.toNat_xor, hXn, h2]
  rfl
theorem step_two (c : W16) {b : Int} (hb : 0 ≤ b ∧ b ≤ 255) : stepV c b = hsF (hsF c (b.toNat / 16)) (b.toNat % 16) := by
  obtain ⟨n, hn⟩ : ∃ n, b.toNat = n := ⟨_, rfl⟩
  have h1 : byB b = BitVec.ofNat 16 (n / 16 * 4096) ^^^ BitVec.ofNat 16 (n % 16 * 256) := by
    apply BitVec.eq_of_toNat_eq
    unfold byB
    rw [hn, BitVec.toNat_xor, BitVec.toNat_ofNat, BitVec.toNat_ofNat, BitVec.toNat_ofNat]
    have := low12 (n * 256)
    rw [show n * 256 / 4096 = n / 16 by omega, show n * 256 % 4096 = n % 16 * 256 by omega] at this
    rw [show n * 256 % 2 ^ 16 = n * 256 by omega, show n / 16 * 4096 % 2 ^ 16 = n / 16 * 4096 by omega, show n % 16 * 256 % 2 ^ 16 = n % 16 * 256 by omega, ← this, Nat.xor_comm (n * 256), ← Nat.xor_assoc, Nat.xor_self, Nat.zero_xor]
  unfold stepV
  rw [st4_st8, h1, ← BitVec.xor_assoc, st4_lin, hs_step _ _ (by omega)]
  have h2 : st4 (BitVec.ofNat 16 (n % 16 * 256)) = BitVec.ofNat 16 (n % 16 * 4096) := by
    apply BitVec.eq_of_toNat_eq
    rw [st4_small (by rw [BitVec.toNat_ofNat]; omega), BitVec.toNat_ofNat, BitVec.toNat_ofNat]
    omega
  rw [h2, hs_step _ _ (by omega), hn]
theorem ofInt_w (m n : Nat) (h : n < 2 ^ m) : (BitVec.ofInt m (n : Int)).toNat = n := by
  rw [BitVec.toNat_ofInt]
  have : ((n : Int) % ((2 ^ m : Nat) : Int)) = n := Int.emod_eq_of_lt (by omega) (by omega)
  rw [this]
  rfl
theorem u16_xor4 (a b : Nat) (ha : a < 65536) (hb : b < 65536) : bits .xor .u16 (a : Int) (b : Int) = ((a ^^^ b : Nat) : Int) := by
  have hx : a ^^^ b < 2 ^ 16 := Nat.xor_lt_two_pow (by omega) (by omega)
  show IntKind.u16.wrap ((BitVec.ofInt 16 (a : Int) ^^^ BitVec.ofInt 16 (b : Int)).toNat : Int) = _
  rw [BitVec.toNat_xor, ofInt_w 16 a (by omega), ofInt_w 16 b (by omega)]
  show _ % 65536 = _
  omega
theorem u8_xor4 (a b : Nat) (ha : a < 256) (hb : b < 256) : bits .xor .u8 (a : Int) (b : Int) = ((a ^^^ b : Nat) : Int) := by
  have hx : a ^^^ b < 2 ^ 8 := Nat.xor_lt_two_pow (by omega) (by omega)
  show IntKind.u8.wrap ((BitVec.ofInt 8 (a : Int) ^^^ BitVec.ofInt 8 (b : Int)).toNat : Int) = _
  rw [BitVec.toNat_xor, ofInt_w 8 a (by omega), ofInt_w 8 b (by omega)]
  show _ % 256 = _
  omega
end Go.Proofs.Ytnpondgnmoedhaa
