/- What layer 1 does with floats: made of whole numbers, times and over a power of two, rounded down, made whole numbers again. No program here. -/
import Derived.Test.YtdlgcgghbkjkfaaF01
set_option linter.unusedVariables false
namespace Go.Proofs.Ytdlgcgghbkjkfaa
open Go.RowKit Ieee

theorem scl_int (n : Int) : scl (decide (n < 0)) n.natAbs 0 = n * U := by
  unfold scl U
  have e : ((0 : Int) + 1074).toNat = 1074 := rfl
  rw [e, Int.natCast_mul]
  generalize ((twoPow 1074 : Nat) : Int) = u
  by_cases h : n < 0
  · simp only [h, decide_true, if_true]
    rw [show (n.natAbs : Int) = -n by omega, Int.neg_mul, Int.neg_neg]
  · simp only [h, decide_false, Bool.false_eq_true, if_false]
    rw [show (n.natAbs : Int) = n by omega]
theorem fin_int (n : Int) (h0 : -9007199254740992 < n) (h1 : n < 9007199254740992) : Fin (floatOfInt .f64 n) (n * U) := by
  rw [← scl_int n]
  exact write_val (decide (n < 0)) n.natAbs 0 n.natAbs 0 (by omega) (by omega) (by omega) (by omega) rfl

theorem k_read : double.read 4679240012837945344 = .number false 4503599627370496 (-36) := by decide +kernel
theorem scl_up (s : Bool) (M : Nat) (E : Int) (h : -1074 ≤ E) : scl s M (E + 16) = scl s M E * 65536 := by
  unfold scl
  rw [show (E + 16 + 1074).toNat = (E + 1074).toNat + 16 by omega, twoPow_add, show twoPow 16 = 65536 from rfl, ← Nat.mul_assoc]
  cases s
  · simp only [Bool.false_eq_true, if_false]; rw [Int.natCast_mul (M * _)]; rfl
  · simp only [if_true]; rw [Int.natCast_mul (M * _), Int.neg_mul]; rfl
theorem scl_far (s : Bool) (M : Nat) (E : Int) (h : 956 ≤ E) (hM : 4503599627370496 ≤ M) : (s = false → 1152921504606846976 * U ≤ scl s M E) ∧ (s = true → scl s M E ≤ -(1152921504606846976 * U)) := by
  have e : twoPow (E + 1074).toNat = twoPow (E - 956).toNat * (twoPow 896 * (twoPow 60 * twoPow 1074)) := by
    rw [← twoPow_add, ← twoPow_add, ← twoPow_add]; congr 1; omega
  have p1 := twoPow_pos (E - 956).toNat
  have p2 := twoPow_pos 896
  have p3 : twoPow 60 = 1152921504606846976 := rfl
  have g : 1152921504606846976 * twoPow 1074 ≤ M * twoPow (E + 1074).toNat := by
    rw [e, p3, ← Nat.mul_assoc (twoPow (E - 956).toNat), ← Nat.mul_assoc M]
    refine Nat.le_mul_of_pos_left _ ?_
    exact Nat.mul_pos (by omega) (Nat.mul_pos p1 p2)
  have g' : 1152921504606846976 * U ≤ ((M * twoPow (E + 1074).toNat : Nat) : Int) := by unfold U; omega
  unfold scl
  refine ⟨fun h => ?_, fun h => ?_⟩
  · subst h; simp only [Bool.false_eq_true, if_false]; exact g'
  · subst h; simp only [if_true]; omega

/-- A number times 65536: just so, or too far out to be told from an infinity. -/
theorem like_mul {f : Nat} {x : Int} (h : Like f x) : ∃ r, double.mul f 4679240012837945344 = some r ∧ Like r (x * 65536) := by
  unfold Format.mul
  rw [k_read]
  have up := U_pos
  rcases h with ⟨s, M, E, h1, rfl⟩ | ⟨h1, h2⟩ | ⟨h1, h2⟩
  · obtain ⟨hc, he⟩ := read_can h1
    rw [h1]
    refine ⟨_, rfl, ?_⟩
    show Like (double.write (.number (s ^^ false) (M * 4503599627370496) (E + -36))) _
    rw [Bool.xor_false]
    by_cases hx : E + 16 ≤ 971
    · refine Or.inl ?_
      rw [← scl_up s M E hc.2.1]
      refine write_val s _ _ M (E + 16) hc.1 (by have := hc.2.1; omega) hx (by have := hc.2.1; omega) ?_
      rw [show (E + 16 + 3000).toNat = 52 + (E + -36 + 3000).toNat by have := hc.2.1; omega, twoPow_add, ← Nat.mul_assoc]; rfl
    · have hM : 4503599627370496 ≤ M := by have := hc.2.2; omega
      have hf := scl_far s M E (by omega) hM
      have hi := write_far s (M * 4503599627370496) (E + -36) M (E + 16) ⟨hc.1, by omega, Or.inl hM⟩ (by omega) (by omega)
        (Or.inl ⟨by omega, by rw [show (E + 16 - (E + -36)).toNat = 52 by omega]⟩)
      cases s
      · exact Or.inr (Or.inl ⟨hi, by have := hf.1 rfl; omega⟩)
      · exact Or.inr (Or.inr ⟨hi, by have := hf.2 rfl; omega⟩)
  · rw [h1]
    refine ⟨_, rfl, Or.inr (Or.inl ⟨?_, by omega⟩)⟩
    show double.read (double.write (.infinity (false ^^ false))) = _
    exact read_inf false
  · rw [h1]
    refine ⟨_, rfl, Or.inr (Or.inr ⟨?_, by omega⟩)⟩
    show double.read (double.write (.infinity (true ^^ false))) = _
    exact read_inf true

theorem gap_div (n drop : Nat) : n / (1 <<< min drop (n.log2 + 2)) = n / 2 ^ drop ∧ n % (1 <<< min drop (n.log2 + 2)) = n % 2 ^ drop := by
  rw [Nat.one_shiftLeft]
  by_cases h : drop ≤ n.log2 + 2
  · rw [Nat.min_eq_left h]; exact ⟨rfl, rfl⟩
  · rw [Nat.min_eq_right (by omega)]
    have h1 : n < 2 ^ (n.log2 + 2) := by have := Nat.lt_log2_self (n := n); rw [Nat.pow_succ]; omega
    have h2 : n < 2 ^ drop := Nat.lt_of_lt_of_le h1 (Nat.pow_le_pow_right (by omega) (by omega))
    rw [Nat.div_eq_of_lt h1, Nat.div_eq_of_lt h2, Nat.mod_eq_of_lt h1, Nat.mod_eq_of_lt h2]
    exact ⟨rfl, rfl⟩
theorem cut_down (s : Bool) (n drop : Nat) : Toward.down.cut s n drop = n / 2 ^ drop + (if s = true ∧ n % 2 ^ drop ≠ 0 then 1 else 0) := by
  unfold Toward.cut
  simp only [gap_div n drop]
  cases s
  · simp
  · by_cases h : n % 2 ^ drop = 0
    · simp [h]
    · rw [if_pos ⟨rfl, h⟩, show (true && n % 2 ^ drop != 0) = true by simp [h]]; rfl
theorem cut_zero (s : Bool) (n drop : Nat) : Toward.zero.cut s n drop = n / 2 ^ drop := by
  unfold Toward.cut
  simp only [gap_div n drop]
  rfl

/-- A finite number's size over one. -/
theorem scl_split (s : Bool) (M : Nat) (E : Int) (h : -1074 ≤ E) : ∃ k : Nat, k ≤ 1074 ∧ M <<< E.toNat * twoPow (1074 - (-E).toNat) = M * twoPow (E + 1074).toNat ∧ twoPow 1074 = 2 ^ (-E).toNat * twoPow (1074 - (-E).toNat) ∧ k = (-E).toNat := by
  refine ⟨(-E).toNat, by omega, ?_, ?_, rfl⟩
  · rw [Nat.shiftLeft_eq, ← twoPow_eq, Nat.mul_assoc, ← twoPow_add]; congr 2; omega
  · rw [← twoPow_eq, ← twoPow_add]; congr 1; omega

theorem floor_val {x : Nat} {v : Int} (h : Fin x v) (h0 : -(281474976710656 * U) ≤ v) (h1 : v ≤ 281474976710656 * U) :
    Fin (double.write ((double.read x).integral .down)) (v / U * U) := by
  obtain ⟨s, M, E, hr, rfl⟩ := h
  obtain ⟨hc, he⟩ := read_can hr
  obtain ⟨k, k1, k2, k3, k4⟩ := scl_split s M E hc.2.1
  rw [hr]
  show Fin (double.write (.number s (Toward.down.cut s (M <<< E.toNat) (-E).toNat) 0)) _
  rw [cut_down, ← k4]
  rw [← k4] at k2 k3
  obtain ⟨n, hn⟩ : ∃ n, M <<< E.toNat = n := ⟨_, rfl⟩
  rw [hn] at k2 ⊢
  have hp := twoPow_pos (1074 - k)
  obtain ⟨t, ht⟩ : ∃ t, twoPow (1074 - k) = t := ⟨_, rfl⟩
  rw [ht] at k2 k3 hp
  have hd := Nat.two_pow_pos k
  obtain ⟨d, hde⟩ : ∃ d, 2 ^ k = d := ⟨_, rfl⟩
  rw [hde] at k3 hd ⊢
  have hU : U = (d : Int) * (t : Int) := by unfold U; rw [k3, Int.natCast_mul]
  have hv : scl s M E / U = (if s then -(n : Int) else n) / (d : Int) := by
    unfold scl
    rw [← k2, hU]
    cases s
    · simp only [Bool.false_eq_true, if_false]
      rw [Int.natCast_mul, Int.mul_ediv_mul_of_pos_left _ _ (by omega)]
    · simp only [if_true]
      rw [Int.natCast_mul, ← Int.neg_mul, Int.mul_ediv_mul_of_pos_left _ _ (by omega)]
  have hF : (if s then -((n / d + (if s = true ∧ n % d ≠ 0 then 1 else 0) : Nat) : Int) else ((n / d + (if s = true ∧ n % d ≠ 0 then 1 else 0) : Nat) : Int)) = scl s M E / U := by
    rw [hv]
    cases s
    · simp only [Bool.false_eq_true, if_false, false_and]; rfl
    · simp only [if_true, true_and]
      rw [Int.neg_ediv, Int.sign_eq_one_of_pos (by omega)]
      have q : ((n : Int) / (d : Int)) = ((n / d : Nat) : Int) := rfl
      have dd : ((d : Int) ∣ (n : Int)) ↔ n % d = 0 := by
        rw [Int.ofNat_dvd]; exact ⟨Nat.mod_eq_zero_of_dvd, Nat.dvd_of_mod_eq_zero⟩
      rw [q]
      by_cases hz : n % d = 0
      · rw [if_neg (by omega), if_pos (dd.2 hz)]; omega
      · rw [if_pos hz, if_neg (fun x => hz (dd.1 x))]; omega
  have up := U_pos
  have b0 : -281474976710656 ≤ scl s M E / U := (Int.le_ediv_iff_mul_le up).2 (by omega)
  have b1 : scl s M E / U ≤ 281474976710656 := by
    have := Int.ediv_le_ediv up h1
    rwa [Int.mul_ediv_cancel _ (by omega)] at this
  obtain ⟨F, hFe⟩ : ∃ F, n / d + (if s = true ∧ n % d ≠ 0 then 1 else 0) = F := ⟨_, rfl⟩
  rw [hFe] at hF ⊢
  have bF : F ≤ 281474976710656 := by
    cases s
    · simp only [Bool.false_eq_true, if_false] at hF; omega
    · simp only [if_true] at hF; omega
  have := write_val s F 0 F 0 (by omega) (by omega) (by omega) (by omega) rfl
  have e : scl s F 0 = scl s M E / U * U := by
    rw [← hF]
    unfold scl U
    rw [show ((0 : Int) + 1074).toNat = 1074 from rfl, Int.natCast_mul]
    cases s
    · simp only [Bool.false_eq_true, if_false]
    · simp only [if_true]; rw [Int.neg_mul]
  rwa [e] at this

theorem toInt_val {y : Nat} {n : Int} (h : Fin y (n * U)) : (double.read y).toInt .zero = some n := by
  obtain ⟨s, M, E, hr, hv⟩ := h
  obtain ⟨hc, he⟩ := read_can hr
  obtain ⟨k, k1, k2, k3, k4⟩ := scl_split s M E hc.2.1
  rw [hr]
  show some (signed s (Toward.zero.cut s (M <<< E.toNat) (-E).toNat) 0) = _
  rw [cut_zero, ← k4]
  rw [← k4] at k2 k3
  have hp := twoPow_pos (1074 - k)
  have hd := Nat.two_pow_pos k
  have up := U_pos
  unfold scl at hv
  rw [← k2] at hv
  have hn : n.natAbs * twoPow 1074 = M <<< E.toNat * twoPow (1074 - k) := by
    have e : (n * U).natAbs = n.natAbs * twoPow 1074 := by rw [Int.natAbs_mul]; rfl
    rw [← e, hv]
    cases s
    · simp only [Bool.false_eq_true, if_false, Int.natAbs_natCast]
    · simp only [if_true, Int.natAbs_neg, Int.natAbs_natCast]
  rw [k3, ← Nat.mul_assoc] at hn
  have hm := mul_cancel hn
  rw [← hm, Nat.mul_div_cancel _ hd]
  unfold signed
  rw [Nat.shiftLeft_zero]
  refine congrArg some ?_
  cases s
  · simp only [Bool.false_eq_true, if_false] at hv ⊢
    have : 0 ≤ n * U := by rw [hv]; exact Int.natCast_nonneg _
    have : 0 ≤ n := Int.nonneg_of_mul_nonneg_left this up
    omega
  · simp only [if_true] at hv ⊢
    have : n * U ≤ 0 := by rw [hv]; omega
    have : n ≤ 0 := by
      apply Int.le_of_not_gt; intro hgt
      have := Int.mul_pos hgt up
      omega
    omega

theorem log_k : Nat.log2 4503599627370496 = 52 := by decide +kernel
theorem scl_abs {s : Bool} {M : Nat} {E : Int} {n : Int} {t : Nat} (ht : 0 < t) (h : n * (t : Int) = scl s M E) :
    M * twoPow (E + 1074).toNat = n.natAbs * t ∧ (s = false → 0 ≤ n) ∧ (s = true → n ≤ 0) := by
  have ht' : (0 : Int) < t := by omega
  refine ⟨?_, fun hs => ?_, fun hs => ?_⟩
  · have e : (n * (t : Int)).natAbs = n.natAbs * t := by rw [Int.natAbs_mul]; rfl
    rw [← e, h]; unfold scl
    cases s
    · simp only [Bool.false_eq_true, if_false, Int.natAbs_natCast]
    · simp only [if_true, Int.natAbs_neg, Int.natAbs_natCast]
  · subst hs
    unfold scl at h
    simp only [Bool.false_eq_true, if_false] at h
    have : 0 ≤ n * (t : Int) := by rw [h]; exact Int.natCast_nonneg _
    exact Int.nonneg_of_mul_nonneg_left this ht'
  · subst hs
    unfold scl at h
    simp only [if_true] at h
    apply Int.le_of_not_gt; intro hgt
    have := Int.mul_pos hgt ht'
    have : n * (t : Int) ≤ 0 := by rw [h]; omega
    omega
/-- A number over a power of two: just so. -/
theorem div_val (f : Nat) (n : Int) (j k c : Nat) (hc : double.read c = .number false 4503599627370496 ((k : Int) - 52)) (h0 : -9007199254740992 < n) (h1 : n < 9007199254740992) (hj : j + k ≤ 100)
    (h : Fin f (n * (twoPow (1074 - j) : Int))) : ∃ r, double.div f c = some r ∧ Fin r (n * (twoPow (1074 - (j + k)) : Int)) := by
  obtain ⟨s, M, E, hr, hv⟩ := h
  obtain ⟨hcan, he⟩ := read_can hr
  obtain ⟨a1, a2, a3⟩ := scl_abs (twoPow_pos _) hv
  unfold Format.div
  rw [hr, hc, d_frac]
  refine ⟨_, rfl, ?_⟩
  show Fin (double.write (.number (s ^^ false) (2 * (M <<< (54 + Nat.log2 4503599627370496 - M.log2) / 4503599627370496) + (M <<< (54 + Nat.log2 4503599627370496 - M.log2) % 4503599627370496 != 0).toNat) (E - ((k : Int) - 52) - ((54 + Nat.log2 4503599627370496 - M.log2 : Nat) : Int) - 1))) _
  rw [log_k, Bool.xor_false]
  have hl : M.log2 ≤ 52 := by
    by_cases hz : M = 0
    · rw [hz]; decide
    · have := (Nat.log2_lt (k := 53) hz).2 (by have := hcan.1; omega); omega
  obtain ⟨q, hq⟩ : ∃ q, 54 + 52 - M.log2 = q + 52 := ⟨54 - M.log2, by omega⟩
  rw [hq]
  have sh : M <<< (q + 52) = M * twoPow q * 4503599627370496 := by
    rw [Nat.shiftLeft_eq, ← twoPow_eq, twoPow_add, ← Nat.mul_assoc]; rfl
  rw [sh, Nat.mul_div_cancel _ (by omega), Nat.mul_mod_left]
  rw [show (0 != 0) = false from rfl, show (false).toNat = 0 from rfl, Nat.add_zero]
  have goal : Fin (double.write (.number s (2 * (M * twoPow q)) (E - ((k : Int) - 52) - ((q + 52 : Nat) : Int) - 1))) (scl s n.natAbs (-((j + k : Nat) : Int))) := by
    have c2 := hcan.2.1
    refine write_val s _ _ n.natAbs (-((j + k : Nat) : Int)) (by omega) (by omega) (by omega) (by omega) ?_
    obtain ⟨z, hz⟩ : ∃ z : Nat, (E - ((k : Int) - 52) - ((q + 52 : Nat) : Int) - 1 + 3000).toNat = z := ⟨_, rfl⟩
    rw [hz, show (2 : Nat) = twoPow 1 from rfl, ← Nat.mul_assoc, Nat.mul_comm (twoPow 1) M, Nat.mul_assoc M, Nat.mul_assoc M, ← twoPow_add, ← twoPow_add]
    rw [show 1 + q + z = (E + 1074).toNat + (1926 - k) by omega, twoPow_add, ← Nat.mul_assoc, a1, Nat.mul_assoc, ← twoPow_add]
    congr 2; omega
  have e : scl s n.natAbs (-((j + k : Nat) : Int)) = n * (twoPow (1074 - (j + k)) : Int) := by
    unfold scl
    rw [show (-((j + k : Nat) : Int) + 1074).toNat = 1074 - (j + k) by omega, Int.natCast_mul]
    cases s
    · simp only [Bool.false_eq_true, if_false]
      rw [show (n.natAbs : Int) = n by have := a2 rfl; omega]
    · simp only [if_true]
      rw [show (n.natAbs : Int) = -n by have := a3 rfl; omega, Int.neg_mul, Int.neg_neg]
  rwa [e] at goal

theorem z_read : double.read 0 = .number false 0 (-1074) := by decide +kernel
theorem mul_nought {f : Nat} {x : Int} (h : Fin f x) : ∃ r, double.mul f 0 = some r ∧ Fin r 0 := by
  obtain ⟨s, M, E, hr, _⟩ := h
  obtain ⟨hc, _⟩ := read_can hr
  unfold Format.mul
  rw [hr, z_read]
  refine ⟨_, rfl, ?_⟩
  show Fin (double.write (.number (s ^^ false) (M * 0) (E + -1074))) _
  have := write_val (s ^^ false) (M * 0) (E + -1074) 0 0 (by omega) (by omega) (by omega) (by have := hc.2.1; omega) (by rw [Nat.mul_zero, Nat.zero_mul, Nat.zero_mul])
  have e : scl (s ^^ false) 0 0 = 0 := by unfold scl; rw [Nat.zero_mul]; simp
  rwa [e] at this
theorem mul_none {f : Nat} (h : (∃ s, double.read f = .infinity s) ∨ ∃ s t, double.read f = .nan s t) : double.mul f 0 = none := by
  unfold Format.mul
  rw [z_read]
  rcases h with ⟨s, h⟩ | ⟨s, t, h⟩ <;> rw [h] <;> rfl
theorem mul_nan {f c : Nat} {s : Bool} {t : Nat} (h : double.read f = .nan s t) : double.mul f c = none := by
  unfold Format.mul
  rw [h]; rfl
theorem like_cases {f : Nat} {x : Int} (h : Like f x) : Fin f x ∨ ∃ s, double.read f = .infinity s := by
  rcases h with h | ⟨h, _⟩ | ⟨h, _⟩
  · exact Or.inl h
  · exact Or.inr ⟨_, h⟩
  · exact Or.inr ⟨_, h⟩

/-- The bits that an operation without an answer draws, and that they are none. -/
def nanOf (x y : Nat) (w : World) : Nat := (Question.nanBits .f64 x y).cut (w.tape w.drawn (.nanBits .f64 x y))
theorem nanOf_nan (x y : Nat) (w : World) : ∃ s t, double.read (nanOf x y w) = .nan s t := by
  unfold nanOf
  generalize w.tape w.drawn (.nanBits .f64 x y) = t
  have e : (Question.nanBits .f64 x y).cut t = (t % 2) * 9223372036854775808 + 9218868437227405312 + 1 + (t / 2) % 4503599627370495 := rfl
  rw [e]
  obtain ⟨r, hr⟩ : ∃ r, (t / 2) % 4503599627370495 = r := ⟨_, rfl⟩
  have hb : r < 4503599627370495 := by omega
  rw [hr]
  obtain ⟨b, hb2⟩ : ∃ b, t % 2 = b := ⟨_, rfl⟩
  have : b = 0 ∨ b = 1 := by omega
  rw [hb2]
  unfold Format.read
  simp only [d_sign, d_binade, d_inf, d_least]
  have m : (b * 9223372036854775808 + 9218868437227405312 + 1 + r) % 9223372036854775808 = 9218868437227405312 + 1 + r := by omega
  rw [m, if_neg (by omega), if_neg (by omega), if_neg (by omega)]
  exact ⟨_, _, rfl⟩
theorem run_mul_nan {P : Program} (x y : Nat) (h : double.mul x y = none) (w : World) (t : TypeId) : (binOp .mul t (.float .f64 x) (.float .f64 y)).run P w = .ok (.float .f64 (nanOf x y w)) w.drew := by
  have h' : FloatKind.f64.format.mul x y = none := h
  simp [binOp, Op.floatArith, h', Question.forced, nanOf]
end Go.Proofs.Ytdlgcgghbkjkfaa
