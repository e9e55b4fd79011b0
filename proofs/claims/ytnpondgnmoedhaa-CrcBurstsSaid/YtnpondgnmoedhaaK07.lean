/- Words of layer 7: the check of bytes; what it finds. No program. -/
import Derived.Test.YtnpondgnmoedhaaK6B
import Derived.Laws.BitsAllLaws
import Derived.IntWalk
set_option linter.unusedVariables false
namespace Go.Proofs.Ytnpondgnmoedhaa
open Go Go.RowKit
abbrev W16 := BitVec 16
def stB (c : W16) : W16 := (c <<< 1) ^^^ (if c.msb = true then 0x1021#16 else 0#16)
def st8 (c : W16) : W16 := stB (stB (stB (stB (stB (stB (stB (stB c)))))))
def byB (b : Int) : W16 := BitVec.ofNat 16 (b.toNat * 256)
def stepV (c : W16) (b : Int) : W16 := st8 (c ^^^ byB b)
def sumV (c : W16) (l : List Int) : W16 := l.foldl stepV c
theorem sumV_append (c : W16) (a b : List Int) : sumV c (a ++ b) = sumV (sumV c a) b := by unfold sumV; rw [List.foldl_append]
theorem stB_lin (a b : W16) : stB (a ^^^ b) = stB a ^^^ stB b := by
  unfold stB
  rw [BitVec.shiftLeft_xor_distrib, BitVec.msb_xor]
  cases a.msb <;> cases b.msb <;> simp [BitVec.xor_assoc]
  · exact BitVec.xor_comm _ _
  · rw [BitVec.xor_comm (b <<< 1), ← BitVec.xor_assoc, BitVec.xor_self, BitVec.zero_xor]
theorem st8_lin (a b : W16) : st8 (a ^^^ b) = st8 a ^^^ st8 b := by simp only [st8, stB_lin]
theorem stB_nat (c : W16) : (stB c).toNat = if 65536 ≤ c.toNat * 2 then (c.toNat * 2 - 65536) ^^^ 4129 else c.toNat * 2 := by
  have hl := c.isLt
  have hs : (c <<< 1).toNat = c.toNat * 2 % 65536 := by rw [BitVec.toNat_shiftLeft, Nat.shiftLeft_eq]
  have hm : c.msb = decide (32768 ≤ c.toNat) := by rw [BitVec.msb_eq_decide]
  unfold stB
  rw [BitVec.toNat_xor, hs, hm]
  by_cases h : 32768 ≤ c.toNat
  · rw [if_pos (by simpa using h), if_pos (by omega), show c.toNat * 2 % 65536 = c.toNat * 2 - 65536 by omega]; rfl
  · rw [if_neg (by simpa using h), if_neg (by omega), show c.toNat * 2 % 65536 = c.toNat * 2 by omega]; simp
theorem nat_xor_none {a b : Nat} (h : a ^^^ b = 0) : a = b := by
  have := congrArg (· ^^^ b) h
  simpa [Nat.xor_assoc] using this
theorem stB_none {d : W16} (h : stB d = 0#16) : d = 0#16 := by
  have h1 := congrArg BitVec.toNat h
  rw [stB_nat] at h1
  apply BitVec.eq_of_toNat_eq
  have hz : (0#16).toNat = 0 := rfl
  rw [hz] at h1 ⊢
  split at h1
  · have := nat_xor_none h1
    omega
  · omega
theorem st8_none {d : W16} (h : st8 d = 0#16) : d = 0#16 := by
  unfold st8 at h
  exact stB_none (stB_none (stB_none (stB_none (stB_none (stB_none (stB_none (stB_none h)))))))
theorem xor_none {a b : W16} (h : a ^^^ b = 0#16) : a = b := by
  have := congrArg (· ^^^ b) h
  simpa [BitVec.xor_assoc] using this
theorem st8_inj {a b : W16} (h : st8 a = st8 b) : a = b := by
  apply xor_none
  apply st8_none
  rw [st8_lin, h, BitVec.xor_self]
theorem step_inj {c d : W16} {b : Int} (h : stepV c b = stepV d b) : c = d := by
  have := st8_inj h
  have h2 := congrArg (· ^^^ byB b) this
  simpa [BitVec.xor_assoc] using h2
theorem sum_inj : ∀ (l : List Int) {c d : W16}, sumV c l = sumV d l → c = d
  | [], _, _, h => h
  | b :: l, c, d, h => step_inj (sum_inj l (c := stepV c b) (d := stepV d b) h)
/-- No byte but 0 leaves the lower half as it was. -/
theorem low_turned : ∀ x : Fin 256, x.val ≠ 0 → (st8 (BitVec.ofNat 16 (x.val * 256))).toNat % 256 ≠ 0 := by decide +kernel
theorem small_up : ∀ y : Fin 256, st8 (BitVec.ofNat 16 y.val) = BitVec.ofNat 16 (y.val * 256) := by decide +kernel
theorem byB_zero {y : Nat} (hy : y < 256) (h : st8 (BitVec.ofNat 16 (0 * 256)) = BitVec.ofNat 16 (y * 256)) : y = 0 := by
  have h0 : st8 (BitVec.ofNat 16 (0 * 256)) = 0#16 := by decide +kernel
  rw [h0] at h
  have h7 := congrArg BitVec.toNat h
  simp only [BitVec.toNat_ofNat] at h7
  omega
theorem byB_xor {a b : Int} (ha : 0 ≤ a ∧ a ≤ 255) (hb : 0 ≤ b ∧ b ≤ 255) : byB a ^^^ byB b = BitVec.ofNat 16 ((a.toNat ^^^ b.toNat) * 256) ∧ a.toNat ^^^ b.toNat < 256 := by
  have hx : a.toNat ^^^ b.toNat < 2 ^ 8 := Nat.xor_lt_two_pow (by omega) (by omega)
  refine ⟨?_, by omega⟩
  unfold byB
  rw [← BitVec.ofNat_xor]
  congr 1
  rw [show (256 : Nat) = 2 ^ 8 from rfl, ← Nat.shiftLeft_eq, ← Nat.shiftLeft_eq, ← Nat.shiftLeft_eq, Nat.shiftLeft_xor_distrib]
/-- Two bytes side by side turn the check, if they are turned. -/
theorem two_inj {c : W16} {a b a' b' : Int} (ha : 0 ≤ a ∧ a ≤ 255) (hb : 0 ≤ b ∧ b ≤ 255) (ha' : 0 ≤ a' ∧ a' ≤ 255) (hb' : 0 ≤ b' ∧ b' ≤ 255) (h : stepV (stepV c a) b = stepV (stepV c a') b') : a = a' ∧ b = b' := by
  have h1 := st8_inj h
  obtain ⟨e1, l1⟩ := byB_xor ha ha'
  obtain ⟨e2, l2⟩ := byB_xor hb hb'
  have h2 : st8 (byB a ^^^ byB a') = byB b ^^^ byB b' := by
    have h3 : stepV c a ^^^ stepV c a' = byB b ^^^ byB b' := by
      have h4 := congrArg (fun z => (z ^^^ byB b) ^^^ stepV c a') h1
      have e5 : (stepV c a ^^^ byB b ^^^ byB b) ^^^ stepV c a' = stepV c a ^^^ stepV c a' := by simp [BitVec.xor_assoc]
      have e6 : (stepV c a' ^^^ byB b' ^^^ byB b) ^^^ stepV c a' = byB b ^^^ byB b' := by
        rw [BitVec.xor_assoc (stepV c a'), BitVec.xor_comm (stepV c a'), BitVec.xor_assoc, BitVec.xor_self, BitVec.xor_zero, BitVec.xor_comm]
      exact e5.symm.trans (h4.trans e6)
    rw [← h3]
    unfold stepV
    have e7 : (c ^^^ byB a) ^^^ (c ^^^ byB a') = byB a ^^^ byB a' := by
      rw [BitVec.xor_comm c, BitVec.xor_assoc, ← BitVec.xor_assoc c c, BitVec.xor_self, BitVec.zero_xor]
    rw [← st8_lin, e7]
  rw [e1, e2] at h2
  have hz : a.toNat ^^^ a'.toNat = 0 := by
    rcases Nat.eq_zero_or_pos (a.toNat ^^^ a'.toNat) with h0 | h0
    · exact h0
    · exfalso
      have h5 := low_turned ⟨a.toNat ^^^ a'.toNat, l1⟩ (by show a.toNat ^^^ a'.toNat ≠ 0; omega)
      simp only at h5
      rw [h2, BitVec.toNat_ofNat] at h5
      generalize b.toNat ^^^ b'.toNat = z at *
      omega
  rw [hz] at h2
  have hz2 := byB_zero l2 h2
  have q1 := nat_xor_none hz
  have q2 := nat_xor_none hz2
  omega
theorem one_inj {c : W16} {a a' : Int} (ha : 0 ≤ a ∧ a ≤ 255) (ha' : 0 ≤ a' ∧ a' ≤ 255) (h : stepV c a = stepV c a') : a = a' :=
  (two_inj (b := 0) (b' := 0) ha (by omega) ha' (by omega) (by rw [h])).1
/-- The check's own two bytes. -/
def hiC (c : W16) : Int := (c.toNat / 256 : Nat)
def loC (c : W16) : Int := (c.toNat % 256 : Nat)
theorem hiC_bd (c : W16) : 0 ≤ hiC c ∧ hiC c ≤ 255 := by have := c.isLt; unfold hiC; omega
theorem loC_bd (c : W16) : 0 ≤ loC c ∧ loC c ≤ 255 := by unfold loC; omega
theorem low_part (n : Nat) : n ^^^ (n / 256 * 256) = n % 256 := by
  rw [show (256 : Nat) = 2 ^ 8 from rfl]
  apply Nat.eq_of_testBit_eq
  intro i
  rw [Nat.testBit_xor, Nat.testBit_mul_two_pow, Nat.testBit_mod_two_pow, Nat.testBit_div_two_pow]
  by_cases h : i < 8
  · simp [h, show ¬ 8 ≤ i by omega]
  · simp [h, show 8 ≤ i by omega, show i - 8 + 8 = i by omega]
theorem step_hi (c : W16) : stepV c (hiC c) = byB (loC c) := by
  unfold stepV
  have e : c ^^^ byB (hiC c) = BitVec.ofNat 16 (c.toNat % 256) := by
    apply BitVec.eq_of_toNat_eq
    have hl := c.isLt
    unfold byB hiC
    rw [BitVec.toNat_xor, BitVec.toNat_ofNat, BitVec.toNat_ofNat]
    rw [show ((((c.toNat / 256 : Nat) : Int)).toNat * 256) % 2 ^ 16 = c.toNat / 256 * 256 by simp; omega, low_part]
    omega
  rw [e]
  have := small_up ⟨c.toNat % 256, by omega⟩
  simp only at this
  rw [this]
  unfold byB loC
  rw [Int.toNat_natCast]
theorem sum_check (c : W16) : stepV (stepV c (hiC c)) (loC c) = 0#16 := by
  rw [step_hi]
  unfold stepV
  rw [BitVec.xor_self]
  decide +kernel
/-- Checked bytes are such whose check is 0. -/
theorem check_iff {c : W16} {h l : Int} (hh : 0 ≤ h ∧ h ≤ 255) (hl : 0 ≤ l ∧ l ≤ 255) : h * 256 + l = (c.toNat : Int) ↔ stepV (stepV c h) l = 0#16 := by
  constructor
  · intro e
    have e1 : h = hiC c := by unfold hiC; omega
    have e2 : l = loC c := by unfold loC; omega
    rw [e1, e2, sum_check]
  · intro e
    obtain ⟨e1, e2⟩ := two_inj hh hl (hiC_bd c) (loC_bd c) (e.trans (sum_check c).symm)
    rw [e1, e2]
    unfold hiC loC
    omega
def ofV (l : List Int) : W16 := sumV 65535#16 l
def sealF (l : List Int) : List Int := l ++ [hiC (ofV l), loC (ofV l)]
/-- Is it checked? -/
def goodB (l : List Int) : Bool := decide (2 ≤ l.length) && (ofV l == 0#16)
def takeE (l : List Int) : Int := if l.length < 2 then 3 else if ofV l = 0#16 then 0 else 4
def takeF (l : List Int) : List Int := if goodB l = true then l.take (l.length - 2) else []
theorem put_zero (l : List Int) : ofV (sealF l) = 0#16 := by
  unfold sealF ofV
  rw [sumV_append]
  exact sum_check _
theorem put_len (l : List Int) : (sealF l).length = l.length + 2 := by simp [sealF]
theorem put_ok {l : List Int} (h : bytOk l) : bytOk (sealF l) := by
  refine h.append fun x hx => ?_
  simp at hx
  rcases hx with rfl | rfl
  · exact hiC_bd _
  · exact loC_bd _
theorem good_put (l : List Int) : goodB (sealF l) = true ∧ takeE (sealF l) = 0 ∧ takeF (sealF l) = l := by
  have h1 := put_zero l
  have h2 := put_len l
  have hg : goodB (sealF l) = true := by unfold goodB; rw [h1, h2]; simp
  refine ⟨hg, by unfold takeE; rw [if_neg (by omega), if_pos h1], ?_⟩
  unfold takeF
  rw [if_pos hg, h2]
  simp [sealF]
theorem goodB_iff (l : List Int) : goodB l = (takeE l == 0) := by
  unfold goodB takeE
  by_cases h : l.length < 2
  · rw [if_pos h]; simp; omega
  · rw [if_neg h]
    by_cases h2 : ofV l = 0#16
    · rw [if_pos h2, h2]; simp; omega
    · rw [if_neg h2]; simp [h2]
/-- What is told of the last two. -/
theorem last_two {l : List Int} (h : 2 ≤ l.length) (ok : bytOk l) : (l[l.length - 2] * 256 + l[l.length - 1] = ((ofV (l.take (l.length - 2))).toNat : Int)) ↔ ofV l = 0#16 := by
  have e : l = l.take (l.length - 2) ++ [l[l.length - 2], l[l.length - 1]] := by
    conv => lhs; rw [← List.take_append_drop (l.length - 2) l]
    congr 1
    rw [List.drop_eq_getElem_cons (by omega)]
    congr 1
    rw [show l.length - 2 + 1 = l.length - 1 by omega, List.drop_eq_getElem_cons (by omega), show l.length - 1 + 1 = l.length by omega, List.drop_length]
  have h2 : ofV l = stepV (stepV (ofV (l.take (l.length - 2))) l[l.length - 2]) l[l.length - 1] := by
    unfold ofV
    conv => lhs; rw [e]
    rw [sumV_append]; rfl
  rw [h2]
  exact check_iff (ok _ (List.getElem_mem _)) (ok _ (List.getElem_mem _))
theorem i64_xor (a b : Nat) (ha : a < 4294967296) (hb : b < 4294967296) : bits .xor .i64 (a : Int) (b : Int) = ((a ^^^ b : Nat) : Int) := by
  have hx : a ^^^ b < 2 ^ 32 := Nat.xor_lt_two_pow (by omega) (by omega)
  show IntKind.i64.wrap ((BitVec.ofInt 64 (a : Int) ^^^ BitVec.ofInt 64 (b : Int)).toNat : Int) = _
  rw [BitVec.toNat_xor, ofInt_u64 a (by omega), ofInt_u64 b (by omega)]
  exact IntWalk.i64_in _ (by omega)
def iterB : Nat → W16 → W16
  | 0, d => d
  | m + 1, d => stB (iterB m d)
theorem iter8 (d : W16) : iterB 8 d = st8 d := rfl
end Go.Proofs.Ytnpondgnmoedhaa
