/- Floats of 64 bits, as far as layer 1 needs them: what is exact. No program here. -/
import Derived.WalkKit
import Derived.Laws.FloatArith
set_option linter.unusedVariables false
namespace Go.Proofs.Ytdlgcgghbkjkfaa
open Go.RowKit Ieee

theorem d_least : double.leastPlace = -1074 := by decide
theorem d_binade : double.binade = 4503599627370496 := by decide
theorem d_inf : double.infRung = 9218868437227405312 := by decide
theorem d_sign : double.signWeight = 9223372036854775808 := by decide
theorem d_frac : double.fractionBits = 52 := rfl

/-- A magnitude and a place in a word's own form. -/
def Can (M : Nat) (E : Int) : Prop := M < 9007199254740992 ∧ -1074 ≤ E ∧ (4503599627370496 ≤ M ∨ E = -1074)

theorem read_word (s : Bool) (M : Nat) (E : Int) (h : Can M E) (he : E ≤ 971) : double.read (double.word s ((E + 1074).toNat * 4503599627370496 + M)) = .number s M E := by
  obtain ⟨h1, h2, h4⟩ := h
  have hr : ((E + 1074).toNat * 4503599627370496 + M) < 9218868437227405312 := by omega
  generalize hR : (E + 1074).toNat * 4503599627370496 + M = R at *
  have n1 : (double.word s R / 9223372036854775808 % 2 == 1) = s := by
    unfold Format.word; rw [d_sign]
    cases s
    · simp only [Bool.false_eq_true, if_false, beq_eq_false_iff_ne]; omega
    · simp only [if_true, beq_iff_eq]; omega
  have n2 : double.word s R % 9223372036854775808 = R := by
    unfold Format.word; rw [d_sign]
    cases s
    · simp only [Bool.false_eq_true, if_false]; omega
    · simp only [if_true]; omega
  unfold Format.read
  simp only [d_sign, d_binade, d_inf, d_least, n1, n2]
  by_cases hm : R < 4503599627370496
  · rw [if_pos hm]
    have e1 : M = R := by omega
    have e2 : E = -1074 := by omega
    rw [e1, e2]
  · rw [if_neg hm, if_pos hr]
    have e1 : 4503599627370496 + R % 4503599627370496 = M := by omega
    have e2 : (-1074 : Int) + ((R / 4503599627370496 - 1 : Nat) : Int) = E := by omega
    rw [e1, e2]

theorem read_inf (s : Bool) : double.read (double.word s 9218868437227405312) = .infinity s := by
  cases s <;> decide +kernel

/-- A word that stands for a number stands for one in that form. -/
theorem read_can {w : Nat} {s : Bool} {M : Nat} {E : Int} (h : double.read w = .number s M E) : Can M E ∧ E ≤ 971 := by
  unfold Format.read at h
  simp only [d_sign, d_binade, d_inf, d_least] at h
  split at h
  · cases h; exact ⟨⟨by omega, by omega, by omega⟩, by omega⟩
  · split at h
    · cases h; exact ⟨⟨by omega, by omega, by omega⟩, by omega⟩
    · split at h <;> cases h

theorem log2_scale (M a : Nat) (h : M ≠ 0) : (M * 2 ^ a).log2 = M.log2 + a := by
  induction a with
  | zero => simp
  | succ a ih =>
    have hp := Nat.two_pow_pos a
    rw [Nat.pow_succ, ← Nat.mul_assoc, Nat.mul_comm _ 2, Nat.log2_two_mul (Nat.mul_ne_zero h (by omega)), ih]; omega

theorem cut_exact (s : Bool) (M a : Nat) (h : M ≠ 0) : Toward.even.cut s (M * 2 ^ a) a = M := by
  unfold Toward.cut
  have l := log2_scale M a h
  have g : min a ((M * 2 ^ a).log2 + 2) = a := by omega
  have hp := Nat.two_pow_pos a
  simp only [g, Nat.one_shiftLeft, Nat.mul_mod_left, Nat.mul_div_cancel _ hp]
  have e1 : (2 ^ a < 2 * 0) = False := by simp
  have e2 : (2 ^ a == 2 * 0) = false := by rw [beq_eq_false_iff_ne]; omega
  simp [e2]

/-- Writing a number that the format has. -/
theorem write_same (s : Bool) (mag : Nat) (place : Int) (M : Nat) (E : Int) (h : Can M E) (hM : M ≠ 0)
    (hs : (place ≤ E ∧ mag = M * 2 ^ (E - place).toNat) ∨ (E ≤ place ∧ mag * 2 ^ (place - E).toNat = M)) :
    double.write (.number s mag place) = double.word s (min ((E + 1074).toNat * 4503599627370496 + M) 9218868437227405312) := by
  obtain ⟨h1, h2, h4⟩ := h
  have hm0 : mag ≠ 0 := by
    rcases hs with ⟨_, e⟩ | ⟨_, e⟩
    · rw [e]; exact Nat.mul_ne_zero hM (by have := Nat.two_pow_pos (E - place).toNat; omega)
    · intro h0; rw [h0, Nat.zero_mul] at e; exact hM e.symm
  have hL : (4503599627370496 ≤ M → M.log2 = 52) ∧ M.log2 ≤ 52 := by
    constructor
    · intro hb; exact (Nat.log2_eq_iff hM).2 ⟨by omega, by omega⟩
    · have := (Nat.log2_lt (k := 53) hM).2 (by omega); omega
  have hl : (place ≤ E → (mag.log2 : Int) = M.log2 + (E - place)) ∧ (E ≤ place → (mag.log2 : Int) + (place - E) = M.log2) := by
    rcases hs with ⟨hp, e⟩ | ⟨hp, e⟩
    · have := log2_scale M (E - place).toNat hM
      rw [← e] at this
      omega
    · have := log2_scale mag (place - E).toNat hm0
      rw [e] at this
      omega
  have last : max (place + mag.log2 - (52 : Nat)) (-1074) = E := by
    by_cases hp : place ≤ E
    · have := hl.1 hp; omega
    · have := hl.2 (by omega); omega
  show double.nearest s mag place = _
  unfold Format.nearest
  rw [if_neg hm0]
  simp only [d_frac, d_least, d_binade, d_inf, last]
  have kept : Toward.even.cut s (mag <<< (place - E).toNat) (E - place).toNat = M := by
    rcases hs with ⟨hp, e⟩ | ⟨hp, e⟩
    · rw [show (place - E).toNat = 0 by omega, Nat.shiftLeft_zero, e]; exact cut_exact s M _ hM
    · rw [Nat.shiftLeft_eq, e, show (E - place).toNat = 0 by omega]
      have := cut_exact s M 0 hM
      rwa [Nat.pow_zero, Nat.mul_one] at this
  rw [kept]
  congr 2

theorem write_near (s : Bool) (mag : Nat) (place : Int) (M : Nat) (E : Int) (h : Can M E) (hM : M ≠ 0) (hx : E ≤ 971)
    (hs : (place ≤ E ∧ mag = M * 2 ^ (E - place).toNat) ∨ (E ≤ place ∧ mag * 2 ^ (place - E).toNat = M)) :
    double.read (double.write (.number s mag place)) = .number s M E := by
  have hb : (E + 1074).toNat * 4503599627370496 + M ≤ 9218868437227405312 := by obtain ⟨h1, h2, h4⟩ := h; omega
  rw [write_same s mag place M E h hM hs, Nat.min_eq_left hb]
  exact read_word s M E h hx
theorem write_far (s : Bool) (mag : Nat) (place : Int) (M : Nat) (E : Int) (h : Can M E) (hM : M ≠ 0) (hx : 972 ≤ E)
    (hs : (place ≤ E ∧ mag = M * 2 ^ (E - place).toNat) ∨ (E ≤ place ∧ mag * 2 ^ (place - E).toNat = M)) :
    double.read (double.write (.number s mag place)) = .infinity s := by
  have hb : 9218868437227405312 ≤ (E + 1074).toNat * 4503599627370496 + M := by obtain ⟨h1, h2, h4⟩ := h; omega
  rw [write_same s mag place M E h hM hs, Nat.min_eq_right hb]
  exact read_inf s

/-- Powers of two under a name of their own: none is reckoned out. -/
def twoPow (k : Nat) : Nat := 2 ^ k
theorem twoPow_eq (k : Nat) : twoPow k = 2 ^ k := rfl
theorem twoPow_pos (k : Nat) : 0 < twoPow k := Nat.two_pow_pos k
theorem twoPow_add (a b : Nat) : twoPow (a + b) = twoPow a * twoPow b := Nat.pow_add 2 a b
theorem mul_cancel {a b k : Nat} (h : a * twoPow k = b * twoPow k) : a = b := Nat.eq_of_mul_eq_mul_right (twoPow_pos k) h
/-- What the least float above nought is a share of: one is so many of it. -/
def U : Int := (twoPow 1074 : Int)
theorem U_pos : 0 < U := Int.natCast_pos.2 (twoPow_pos 1074)

/-- A finite number, counted in the least one. -/
def scl (s : Bool) (M : Nat) (E : Int) : Int := if s then -((M * twoPow (E + 1074).toNat : Nat) : Int) else ((M * twoPow (E + 1074).toNat : Nat) : Int)
def Fin (w : Nat) (v : Int) : Prop := ∃ s M E, double.read w = .number s M E ∧ v = scl s M E

theorem write_val (s : Bool) (mag : Nat) (place : Int) (m : Nat) (e : Int) (hm : m < 9007199254740992) (he : -1074 ≤ e) (he2 : e ≤ 971) (hp : -3000 ≤ place)
    (h : mag * twoPow (place + 3000).toNat = m * twoPow (e + 3000).toNat) : Fin (double.write (.number s mag place)) (scl s m e) := by
  by_cases h0 : m = 0
  · have hz : mag = 0 := by
      rw [h0, Nat.zero_mul] at h
      rcases Nat.mul_eq_zero.1 h with h | h
      · exact h
      · have := twoPow_pos (place + 3000).toNat; omega
    refine ⟨s, 0, -1074, ?_, by rw [h0]; unfold scl; simp⟩
    have e : double.write (.number s mag place) = double.word s 0 := by
      show double.nearest s mag place = _
      unfold Format.nearest; rw [if_pos hz]
    rw [e]
    exact read_word s 0 (-1074) ⟨by omega, by omega, Or.inr rfl⟩ (by omega)
  · obtain ⟨k, hk⟩ : ∃ k, min (52 - m.log2) (e + 1074).toNat = k := ⟨_, rfl⟩
    have l1 := Nat.log2_self_le h0
    have l2 : m.log2 ≤ 52 := by have := (Nat.log2_lt (k := 53) h0).2 (by omega); omega
    have l3 : (m * 2 ^ k).log2 = m.log2 + k := log2_scale m k h0
    have hM : m * 2 ^ k ≠ 0 := Nat.mul_ne_zero h0 (by have := Nat.two_pow_pos k; omega)
    have b1 : m * 2 ^ k < 2 ^ 53 := (Nat.log2_lt hM).1 (by omega)
    have b2 : m.log2 + k = 52 → 2 ^ 52 ≤ m * 2 ^ k := fun hh => by have := Nat.log2_self_le hM; rwa [l3, hh] at this
    have hC : Can (m * 2 ^ k) (e - k) := by
      refine ⟨by omega, by omega, ?_⟩
      by_cases hh : m.log2 + k = 52
      · exact Or.inl (by have := b2 hh; omega)
      · exact Or.inr (by omega)
    have hE : m * twoPow (e + 3000).toNat = m * 2 ^ k * twoPow (e - k + 3000).toNat := by
      rw [show (e + 3000).toNat = k + (e - k + 3000).toNat by omega, twoPow_add, Nat.mul_assoc, twoPow_eq k]
    rw [hE] at h
    have hs : (place ≤ e - k ∧ mag = m * 2 ^ k * 2 ^ (e - k - place).toNat) ∨ (e - k ≤ place ∧ mag * 2 ^ (place - (e - k)).toNat = m * 2 ^ k) := by
      by_cases hl : place ≤ e - k
      · refine Or.inl ⟨hl, ?_⟩
        rw [show (e - k + 3000).toNat = (e - k - place).toNat + (place + 3000).toNat by omega, twoPow_add, ← Nat.mul_assoc] at h
        exact mul_cancel h
      · refine Or.inr ⟨by omega, ?_⟩
        rw [show (place + 3000).toNat = (place - (e - k)).toNat + (e - k + 3000).toNat by omega, twoPow_add, ← Nat.mul_assoc] at h
        exact mul_cancel h
    refine ⟨s, m * 2 ^ k, e - k, write_near s mag place (m * 2 ^ k) (e - k) hC hM (by omega) hs, ?_⟩
    unfold scl
    rw [show (e + 1074).toNat = k + (e - k + 1074).toNat by omega, twoPow_add, ← Nat.mul_assoc, twoPow_eq k]

theorem compare_scale (a b : Int) (k : Nat) : compare a b = compare (a * ((twoPow k : Nat) : Int)) (b * ((twoPow k : Nat) : Int)) := by
  have hp : (0 : Int) < ((twoPow k : Nat) : Int) := Int.natCast_pos.2 (twoPow_pos _)
  simp only [compare, compareOfLessAndEq]
  have h1 : a < b ↔ a * ((twoPow k : Nat) : Int) < b * ((twoPow k : Nat) : Int) := (Int.mul_lt_mul_right hp).symm
  have h2 : a = b ↔ a * ((twoPow k : Nat) : Int) = b * ((twoPow k : Nat) : Int) := (Int.mul_eq_mul_right_iff (by omega)).symm
  simp only [h1, h2]

theorem signed_scl (s : Bool) (M : Nat) (E base : Int) (h : base ≤ E) (hb : -1074 ≤ base) : signed s M (E - base).toNat * ((twoPow (base + 1074).toNat : Nat) : Int) = scl s M E := by
  unfold signed scl
  have e : M <<< (E - base).toNat * twoPow (base + 1074).toNat = M * twoPow (E + 1074).toNat := by
    rw [Nat.shiftLeft_eq, show (E + 1074).toNat = (E - base).toNat + (base + 1074).toNat by omega, twoPow_add, Nat.mul_assoc, twoPow_eq (E - base).toNat]
  cases s
  · simp only [Bool.false_eq_true, if_false]; rw [← Int.natCast_mul, e]
  · simp only [if_true]; rw [Int.neg_mul, ← Int.natCast_mul, e]

theorem order_val {a b : Nat} {u v : Int} (ha : Fin a u) (hb : Fin b v) : double.order a b = some (compare u v) := by
  obtain ⟨s, M, E, h1, rfl⟩ := ha
  obtain ⟨t, N, F, h2, rfl⟩ := hb
  obtain ⟨⟨_, e1, _⟩, _⟩ := read_can h1
  obtain ⟨⟨_, e2, _⟩, _⟩ := read_can h2
  unfold Format.order
  rw [h1, h2]
  show some (compare (signed s M (E - min E F).toNat) (signed t N (F - min E F).toNat)) = _
  rw [compare_scale _ _ (min E F + 1074).toNat, signed_scl s M E _ (by omega) (by omega), signed_scl t N F _ (by omega) (by omega)]

/-- What is no number, but not none either: compared as a number far out. -/
def Like (w : Nat) (x : Int) : Prop := Fin w x ∨ (double.read w = .infinity false ∧ 1152921504606846976 * U ≤ x) ∨ (double.read w = .infinity true ∧ x ≤ -(1152921504606846976 * U))
theorem cmp_gt {a b : Int} (h : b < a) : compare a b = .gt := by simp only [compare, compareOfLessAndEq]; rw [if_neg (by omega), if_neg (by omega)]
theorem cmp_lt {a b : Int} (h : a < b) : compare a b = .lt := by simp only [compare, compareOfLessAndEq]; rw [if_pos h]
theorem cmp_eq {a b : Int} (h : a = b) : compare a b = .eq := by simp only [compare, compareOfLessAndEq]; rw [if_neg (by omega), if_pos h]
theorem order_like {a b : Nat} {u v : Int} (ha : Like a u) (hb : Fin b v) (h1 : v < 1152921504606846976 * U) (h2 : -(1152921504606846976 * U) < v) :
    double.order a b = some (compare u v) ∧ double.order b a = some (compare v u) := by
  rcases ha with ha | ⟨ha, h⟩ | ⟨ha, h⟩
  · exact ⟨order_val ha hb, order_val hb ha⟩
  · obtain ⟨t, N, F, h3, rfl⟩ := hb
    unfold Format.order
    rw [ha, h3, cmp_gt (by omega), cmp_lt (by omega)]
    exact ⟨rfl, rfl⟩
  · obtain ⟨t, N, F, h3, rfl⟩ := hb
    unfold Format.order
    rw [ha, h3, cmp_lt (a := u) (by omega), cmp_gt (b := u) (by omega)]
    exact ⟨rfl, rfl⟩
theorem like_or_nan (w : Nat) : (∃ x, Like w x) ∨ ∃ s t, double.read w = .nan s t := by
  cases h : double.read w with
  | number s M E => exact Or.inl ⟨_, Or.inl ⟨s, M, E, h, rfl⟩⟩
  | infinity s =>
    cases s
    · exact Or.inl ⟨_, Or.inr (Or.inl ⟨h, Int.le_refl _⟩)⟩
    · exact Or.inl ⟨_, Or.inr (Or.inr ⟨h, Int.le_refl _⟩)⟩
  | nan s t => exact Or.inr ⟨s, t, rfl⟩
theorem order_nan {w b : Nat} {s : Bool} {t : Nat} (h : double.read w = .nan s t) : double.order w b = none ∧ double.order b w = none := by
  unfold Format.order; rw [h]
  constructor
  · rfl
  · cases double.read b <;> rfl
theorem order_self {w : Nat} {x : Int} (h : Like w x) : double.order w w = some .eq := by
  rcases h with h | ⟨h, _⟩ | ⟨h, _⟩
  · rw [order_val h h, cmp_eq rfl]
  · unfold Format.order; rw [h]; rfl
  · unfold Format.order; rw [h]; rfl
end Go.Proofs.Ytdlgcgghbkjkfaa
