/- Contracts of layer 4's reference (blocks). -/
import Derived.Test.YtnpondgnmoedhaaC01
import Derived.Test.YtnpondgnmoedhaaR04
import Derived.Test.YtnpondgnmoedhaaS01
import Derived.KernelRfl
set_option linter.unusedVariables false
set_option linter.unusedSimpArgs false
namespace Go.Proofs.Ytnpondgnmoedhaa
open Go.ChangeShapes Go.WideShapes Go.ChangeAt Go.RowKit
def mayB (b : Int) : Bool := decide (0 ≤ b) && decide (b ≤ 15) && (b != 6) && (b != 7)
def solidB (b : Int) : Bool := b == -1 || b == 1 || b == 2 || b == 3 || b == 5
def wetB (b : Int) : Bool := decide (8 ≤ b) && decide (b ≤ 15)
def yieldsB (b : Int) : Bool := b == 0 || wetB b
def levelF (b : Int) : Int := if wetB b then b - 8 else -1
def goodF (n : Int) : Int := if 5 < aroundF n 14 then aroundF n 14 + 2 else aroundF n 14
theorem goodF_may (n : Int) : mayB (goodF n) = true := by
  have := around_bd n 14 (by omega)
  unfold mayB goodF
  generalize aroundF n 14 = k at *
  by_cases h : 5 < k
  · rw [if_pos h]; simp; omega
  · rw [if_neg h]; simp; omega
theorem mayB_bd {b : Int} (h : mayB b = true) : 0 ≤ b ∧ b ≤ 15 ∧ b ≠ 6 ∧ b ≠ 7 := by
  unfold mayB at h; simp at h; omega
def nameF (b : Int) : ByteArray :=
  if b = 0 then ⟨#[97, 105, 114]⟩ else if b = 1 then ⟨#[115, 116, 111, 110, 101]⟩ else if b = 2 then ⟨#[100, 105, 114, 116]⟩ else if b = 3 then ⟨#[115, 97, 110, 100]⟩
  else if b = 4 then ⟨#[108, 97, 100, 100, 101, 114]⟩ else if b = 5 then ⟨#[103, 108, 97, 115, 115]⟩
  else if 8 ≤ b ∧ b ≤ 15 then ⟨#[119, 97, 116, 101, 114, (40 + b).toNat.toUInt8]⟩ else ⟨#[]⟩
