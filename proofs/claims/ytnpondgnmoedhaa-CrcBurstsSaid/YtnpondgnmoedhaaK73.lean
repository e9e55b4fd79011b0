/- A byte turned by another. No program. -/
import Derived.Test.YtnpondgnmoedhaaK72
set_option linter.unusedVariables false
namespace Go.Proofs.Ytnpondgnmoedhaa
open Go Go.RowKit
theorem u8_xor {a b : Int} (ha : 0 ≤ a ∧ a ≤ 255) (hb : 0 ≤ b ∧ b ≤ 255) : (0 ≤ bits .xor .u8 a b ∧ bits .xor .u8 a b ≤ 255) ∧ (bits .xor .u8 a b = a ↔ b = 0) := by
  obtain ⟨A, rfl⟩ : ∃ A : Nat, a = A := ⟨a.toNat, by omega⟩
  obtain ⟨B, rfl⟩ : ∃ A : Nat, b = A := ⟨b.toNat, by omega⟩
  have hx : A ^^^ B < 2 ^ 8 := Nat.xor_lt_two_pow (by omega) (by omega)
  have e : bits .xor .u8 (A : Int) (B : Int) = ((A ^^^ B : Nat) : Int) := by
    show IntKind.u8.wrap ((BitVec.ofInt 8 (A : Int) ^^^ BitVec.ofInt 8 (B : Int)).toNat : Int) = _
    rw [BitVec.toNat_xor, show (BitVec.ofInt 8 (A : Int)).toNat = A by (rw [BitVec.toNat_ofInt]; show ((A : Int) % 256).toNat = A; omega), show (BitVec.ofInt 8 (B : Int)).toNat = B by (rw [BitVec.toNat_ofInt]; show ((B : Int) % 256).toNat = B; omega)]
    show ((A ^^^ B : Nat) : Int) % 256 = _
    omega
  rw [e]
  refine ⟨by omega, fun h => ?_, fun h => ?_⟩
  · have h1 : A ^^^ B = A := by omega
    have h2 : A ^^^ (A ^^^ B) = A ^^^ A := by rw [h1]
    rw [← Nat.xor_assoc, Nat.xor_self, Nat.zero_xor] at h2
    omega
  · have h1 : B = 0 := by omega
    rw [h1, Nat.xor_zero]
end Go.Proofs.Ytnpondgnmoedhaa
