/- Texts behind each other. -/
import Derived.Test.YtlmekadgcllndaaRows
import Derived.WalkKit
import Derived.ProofKit
import Derived.OpenShut
import Derived.Carry
import Derived.Deep.Strs
import Derived.Laws.Bits64
import Derived.IntWalk
/- What comes in, opened: whole numbers, ways, boxes. -/
set_option linter.unusedVariables false
namespace Go.Proofs.Ytlmekadgcllndaa
open Go.ChangeShapes Go.WideShapes Go.ChangeAt Go.RowKit Go.Deep
set_option maxRecDepth 10000 in
theorem laidOut : laidOutB Try.prog = true := by kernel_rfl
section
variable {H : Type} {enc : TypeId × Value → H} {w : World} {base : Nat} {spare : Nat → Bool} {held : Bool} {r : Reach} {b0 : Nat}
set_option maxRecDepth 10000 in
theorem wf_i64 {n : Int} (h : (Lit.int .i64 n).wf = true) : -9223372036854775808 ≤ n ∧ n ≤ 9223372036854775807 := by
  have h1 : IntKind.i64.min = -9223372036854775808 := rfl
  have h2 : IntKind.i64.max = 9223372036854775807 := rfl
  simp only [Lit.wf, Bool.and_eq_true, decide_eq_true_eq] at h
  omega
set_option maxRecDepth 10000 in
theorem int_trod {n : Nat} {cs : List Value} {x : DataW H × List MemPlace} (h : DataW.trod enc Try.prog w base spare held n 3 cs = some x) :
    ∃ a : Int, cs = [.int .i64 a] ∧ -9223372036854775808 ≤ a ∧ a ≤ 9223372036854775807 := by
  obtain ⟨a, e, _, wf⟩ := DataW.trod_int Try.underlying3 h
  exact ⟨a, e, wf_i64 wf⟩
set_option maxRecDepth 10000 in
theorem open_num {v : Value} {d : DataW H} {p : List MemPlace} (hv : Value.okWide Try.prog w r b0 3 v) (h : DataW.Trod enc Try.prog w base spare held 3 v d p) :
    ∃ a : Int, v = .int .i64 a ∧ -9223372036854775808 ≤ a ∧ a ≤ 9223372036854775807 := by
  obtain ⟨a, rfl, _, _, wf⟩ := open_int Try.underlying3 hv h
  exact ⟨a, rfl, wf_i64 wf⟩
structure V3 where
  x : Int
  y : Int
  z : Int
abbrev V3.val (a : V3) : Value := .agg #[.int .i64 a.x, .int .i64 a.y, .int .i64 a.z]
abbrev V3.wf (a : V3) : Prop := (-9223372036854775808 ≤ a.x ∧ a.x ≤ 9223372036854775807) ∧ (-9223372036854775808 ≤ a.y ∧ a.y ≤ 9223372036854775807) ∧ (-9223372036854775808 ≤ a.z ∧ a.z ≤ 9223372036854775807)
set_option maxRecDepth 10000 in
theorem three_trod {t : TypeId} {f0 f1 f2 : Field} {n : Nat} {cs : List Value} {x : DataW H × List MemPlace} (hs : Try.prog.underlying t = some (.struct #[f0, f1, f2])) (hC : Try.prog.cellsOf t = 3)
    (t0 : f0.type = 3) (t1 : f1.type = 3) (t2 : f2.type = 3) (o0 : f0.offset = 0) (o1 : f1.offset = 1) (o2 : f2.offset = 2) (h1 : Try.prog.cellsOf 3 = 1)
    (h : DataW.trod enc Try.prog w base spare held n t cs = some x) : ∃ a : V3, cs = [.int .i64 a.x, .int .i64 a.y, .int .i64 a.z] ∧ a.wf := by
  obtain ⟨y0, y1, y2, m, _, hl, g0, g1, g2⟩ := trod_struct3 hs h
  rw [hC] at hl
  rw [t0, o0, h1] at g0
  rw [t1, o1, h1] at g1
  rw [t2, o2, h1] at g2
  match cs, hl with
  | [c0, c1, c2], _ =>
    obtain ⟨a, ea, wa⟩ := int_trod g0
    obtain ⟨b, eb, wb⟩ := int_trod g1
    obtain ⟨c, ec, wc⟩ := int_trod g2
    simp at ea eb ec
    subst ea eb ec
    exact ⟨⟨a, b, c⟩, rfl, wa, wb, wc⟩
set_option maxRecDepth 10000 in
theorem one_int : Try.prog.cellsOf 3 = 1 := by kernel_rfl
set_option maxRecDepth 10000 in
theorem cell_cells : Try.prog.cellsOf 33 = 3 := by kernel_rfl
set_option maxRecDepth 10000 in
theorem cell_trod {n : Nat} {cs : List Value} {x : DataW H × List MemPlace} (h : DataW.trod enc Try.prog w base spare held n 33 cs = some x) :
    ∃ a : V3, cs = [.int .i64 a.x, .int .i64 a.y, .int .i64 a.z] ∧ a.wf :=
  three_trod Try.underlying33 cell_cells rfl rfl rfl rfl rfl rfl one_int h
set_option maxRecDepth 10000 in
theorem open_cell {v : Value} {d : DataW H} {p : List MemPlace} (hv : Value.okWide Try.prog w r b0 33 v) (h : DataW.Trod enc Try.prog w base spare held 33 v d p) : ∃ a : V3, v = a.val ∧ a.wf := by
  obtain ⟨cs, rfl, hsz⟩ := okWide_struct Try.underlying33 hv
  obtain ⟨fuel, hf⟩ := h
  obtain ⟨a, e, wa⟩ := cell_trod hf
  exact ⟨a, by rw [V3.val]; congr 1; cases cs; simpa [Value.cells] using e, wa⟩
structure V2 where
  x : Int
  z : Int
abbrev V2.val (a : V2) : Value := .agg #[.int .i64 a.x, .int .i64 a.z]
abbrev V2.wf (a : V2) : Prop := (-9223372036854775808 ≤ a.x ∧ a.x ≤ 9223372036854775807) ∧ (-9223372036854775808 ≤ a.z ∧ a.z ≤ 9223372036854775807)
set_option maxRecDepth 10000 in
theorem pos_cells : Try.prog.cellsOf 23 = 2 := by kernel_rfl
set_option maxRecDepth 10000 in
theorem pos_trod {n : Nat} {cs : List Value} {x : DataW H × List MemPlace} (h : DataW.trod enc Try.prog w base spare held n 23 cs = some x) :
    ∃ a : V2, cs = [.int .i64 a.x, .int .i64 a.z] ∧ a.wf := by
  obtain ⟨y0, y1, m, _, hl, g0, g1⟩ := trod_struct2 Try.underlying23 h
  rw [pos_cells] at hl
  simp only [one_int] at g0 g1
  obtain ⟨a, ea, wa⟩ := int_trod g0
  obtain ⟨b, eb, wb⟩ := int_trod g1
  match cs, hl with
  | [c0, c1], _ =>
    simp at ea eb
    subst ea eb
    exact ⟨⟨a, b⟩, rfl, wa, wb⟩
set_option maxRecDepth 10000 in
theorem open_pos {v : Value} {d : DataW H} {p : List MemPlace} (hv : Value.okWide Try.prog w r b0 23 v) (h : DataW.Trod enc Try.prog w base spare held 23 v d p) : ∃ a : V2, v = a.val ∧ a.wf := by
  obtain ⟨cs, rfl, hsz⟩ := okWide_struct Try.underlying23 hv
  obtain ⟨fuel, hf⟩ := h
  obtain ⟨a, e, wa⟩ := pos_trod hf
  exact ⟨a, by rw [V2.val]; congr 1; cases cs; simpa [Value.cells] using e, wa⟩
end
end Go.Proofs.Ytlmekadgcllndaa
/- Plain numbers of layer 1 (fixed): cut, shares, their signs. No program here. -/
set_option linter.unusedVariables false
namespace Go.Proofs.Ytlmekadgcllndaa
open Go.RowKit

def cut (n : Int) : Int := min (max n (-140737488355328)) 140737488355328
theorem cut_bd (n : Int) : -140737488355328 ≤ cut n ∧ cut n ≤ 140737488355328 := by unfold cut; omega
theorem cut_id {n : Int} (h : -140737488355328 ≤ n ∧ n ≤ 140737488355328) : cut n = n := by unfold cut; omega
theorem cut_cut (n : Int) : cut (cut n) = cut n := cut_id (cut_bd n)
theorem cut_mono {a b : Int} (h : a ≤ b) : cut a ≤ cut b := by unfold cut; omega
theorem ret_int {k : IntKind} {a b : Int} (h : a = b) : Ending.returned (.int k a) = .returned (.int k b) := by rw [h]
theorem ret_bool {a b : Bool} (h : a = b) : Ending.returned (.bool a) = .returned (.bool b) := by rw [h]

/-- The sign of an exclusive or. -/
theorem xor_i64 (a b : Int) (ha : -9223372036854775808 ≤ a ∧ a ≤ 9223372036854775807) (hb : -9223372036854775808 ≤ b ∧ b ≤ 9223372036854775807) :
    (-9223372036854775808 ≤ bits .xor .i64 a b ∧ bits .xor .i64 a b ≤ 9223372036854775807) ∧ decide (bits .xor .i64 a b < 0) = (decide (a < 0) != decide (b < 0)) := by
  have e : bits .xor .i64 a b = (BitVec.ofInt 64 a ^^^ BitVec.ofInt 64 b).toInt := by
    show IntKind.i64.wrap ((BitVec.ofInt 64 a ^^^ BitVec.ofInt 64 b).toNat : Int) = _
    rw [IntKind.wrap_i64, BitVec.toInt_eq_toNat_bmod, Int.bmod_def]
    have := (BitVec.ofInt 64 a ^^^ BitVec.ofInt 64 b).isLt
    omega
  have sgn : ∀ x : Int, -9223372036854775808 ≤ x ∧ x ≤ 9223372036854775807 → (BitVec.ofInt 64 x).msb = decide (x < 0) := by
    intro x hx
    have hx2 : (BitVec.ofInt 64 x).toInt = x := BitVec.toInt_ofInt_eq_self (by omega) (by omega) (by omega)
    rw [BitVec.msb_eq_toInt, hx2]
  have lo := BitVec.le_toInt (BitVec.ofInt 64 a ^^^ BitVec.ofInt 64 b)
  have hi := BitVec.toInt_lt (x := BitVec.ofInt 64 a ^^^ BitVec.ofInt 64 b)
  rw [e]
  refine ⟨by omega, ?_⟩
  rw [← BitVec.msb_eq_toInt, BitVec.msb_xor, sgn a ha, sgn b hb]

/-- The last 16 bits. -/
theorem and_i64 (a : Int) : bits .and .i64 a 65535 = a % 65536 := by
  show IntKind.i64.wrap ((BitVec.ofInt 64 a &&& BitVec.ofInt 64 65535).toNat : Int) = _
  have e : (BitVec.ofInt 64 65535).toNat = 65535 := by decide
  have h : (BitVec.ofInt 64 a).toNat &&& 65535 = (BitVec.ofInt 64 a).toNat % 65536 := Nat.and_two_pow_sub_one_eq_mod _ 16
  have k : ((BitVec.ofInt 64 a).toNat : Int) = a % 18446744073709551616 := by
    rw [BitVec.toNat_ofInt]; omega
  rw [IntKind.wrap_i64, BitVec.toNat_and, e, h]
  omega

/-- A share of sizes, its sign put on last. -/
def shr (neg : Bool) (P C : Nat) : Int :=
  if neg then cut (-(min ((P / C : Nat) : Int) 140737488355328 + (if P % C = 0 then 0 else 1))) else min ((P / C : Nat) : Int) 140737488355328
def mulF (a b : Int) : Int := cut (cut a * cut b / 65536)
def quoF (a b : Int) : Int := if 0 ≤ b then cut (cut a * 65536 / cut b) else cut (-cut a * 65536 / -cut b)

theorem shr_div (neg : Bool) (P C : Nat) (h : 0 < C) (p : Int) (hp : p = if neg then -(P : Int) else P) : shr neg P C = cut (p / C) := by
  have hc : (C : Int) ≠ 0 := by omega
  have q : ((P : Int) / (C : Int)) = ((P / C : Nat) : Int) := rfl
  cases neg
  · simp only [shr, Bool.false_eq_true, if_false] at hp ⊢
    rw [hp, q]
    generalize P / C = n; unfold cut; omega
  · simp only [shr, if_true] at hp ⊢
    rw [hp, Int.neg_ediv, q, Int.sign_eq_one_of_pos (by omega)]
    have d : ((C : Int) ∣ (P : Int)) ↔ P % C = 0 := by
      rw [Int.ofNat_dvd]; exact ⟨Nat.mod_eq_zero_of_dvd, Nat.dvd_of_mod_eq_zero⟩
    by_cases h0 : P % C = 0
    · rw [if_pos h0, if_pos (d.2 h0)]; generalize P / C = n; unfold cut; omega
    · rw [if_neg h0, if_neg (fun x => h0 (d.1 x))]; generalize P / C = n; unfold cut; omega

theorem abs_mul (a b : Int) : a * b = if (decide (a < 0) != decide (b < 0)) then -((a.natAbs * b.natAbs : Nat) : Int) else ((a.natAbs * b.natAbs : Nat) : Int) := by
  rw [Int.natCast_mul]
  by_cases ha : a < 0 <;> by_cases hb : b < 0
  · simp only [ha, hb, decide_true, bne_self_eq_false, Bool.false_eq_true, if_false]
    rw [show (a.natAbs : Int) = -a by omega, show (b.natAbs : Int) = -b by omega, Int.neg_mul_neg]
  · simp only [ha, hb, decide_true, decide_false, Bool.bne_false, if_true]
    rw [show (a.natAbs : Int) = -a by omega, show (b.natAbs : Int) = b by omega, Int.neg_mul, Int.neg_neg]
  · simp only [ha, hb, decide_true, decide_false, Bool.bne_true, Bool.not_false, if_true]
    rw [show (a.natAbs : Int) = a by omega, show (b.natAbs : Int) = -b by omega, Int.mul_neg, Int.neg_neg]
  · simp only [ha, hb, decide_false, bne_self_eq_false, Bool.false_eq_true, if_false]
    rw [show (a.natAbs : Int) = a by omega, show (b.natAbs : Int) = b by omega]

theorem shr_mul (a b : Int) : shr (decide (cut a < 0) != decide (cut b < 0)) ((cut a).natAbs * (cut b).natAbs) 65536 = mulF a b :=
  shr_div _ _ _ (by omega) _ (abs_mul _ _)
theorem shr_quo (a b : Int) (hb : b ≠ 0) : shr (decide (cut a < 0) != decide (cut b < 0)) ((cut a).natAbs * 65536) (cut b).natAbs = quoF a b := by
  have hc : cut b < 0 ↔ b < 0 := by unfold cut; omega
  have h0 : 0 < (cut b).natAbs := by unfold cut; omega
  unfold quoF
  by_cases h : b < 0
  · rw [if_neg (by omega), shr_div _ _ _ h0 (-cut a * 65536) ?_]
    · rw [show (((cut b).natAbs : Nat) : Int) = -cut b by have := hc.2 h; omega]
    · have := hc.2 h
      by_cases ha : cut a < 0 <;> simp only [ha, this, decide_true, decide_false, bne_self_eq_false, Bool.bne_true, Bool.not_false, Bool.false_eq_true, if_true, if_false] <;> omega
  · rw [if_pos (by omega), shr_div _ _ _ h0 (cut a * 65536) ?_]
    · rw [show (((cut b).natAbs : Nat) : Int) = cut b by omega]
    · have : ¬ cut b < 0 := by omega
      by_cases ha : cut a < 0 <;> simp only [ha, this, decide_true, decide_false, bne_self_eq_false, Bool.bne_false, Bool.false_eq_true, if_true, if_false] <;> omega
theorem mulF_bd (a b : Int) : -140737488355328 ≤ mulF a b ∧ mulF a b ≤ 140737488355328 := cut_bd _
theorem quoF_bd (a b : Int) : -140737488355328 ≤ quoF a b ∧ quoF a b ≤ 140737488355328 := by unfold quoF; split <;> exact cut_bd _
theorem tdiv_floor (x : Int) : (x - x % 65536).tdiv 65536 = x / 65536 := by
  rw [show x - x % 65536 = 65536 * (x / 65536) by omega, Int.mul_tdiv_cancel_left _ (by omega)]
/-- A whole number, within the bounds. -/
def whole (n : Int) : Int := min (max n (-2147483648)) 2147483648
def towardF (n to by_ : Int) : Int := if cut n < cut to then min (cut n + max (cut by_) 0) (cut to) else max (cut n - max (cut by_) 0) (cut to)
theorem or_high (hi lo : Int) (h0 : 0 ≤ lo) (h1 : lo < 18446744073709551616) (hh : 1 ≤ hi) (hh1 : hi < 65536) :
    bits .or .u64 (hi * 140737488355328) (lo / 131072) = hi * 140737488355328 + lo / 131072 := by
  show IntKind.u64.wrap ((BitVec.ofInt 64 (hi * 140737488355328) ||| BitVec.ofInt 64 (lo / 131072)).toNat : Int) = _
  obtain ⟨a, rfl⟩ := Int.eq_ofNat_of_zero_le (show 0 ≤ hi by omega)
  obtain ⟨b, rfl⟩ := Int.eq_ofNat_of_zero_le h0
  have e1 : (BitVec.ofInt 64 ((a : Int) * 140737488355328)).toNat = 2 ^ 47 * a := by rw [BitVec.toNat_ofInt]; omega
  have e2 : (BitVec.ofInt 64 ((b : Int) / 131072)).toNat = b / 131072 := by rw [BitVec.toNat_ofInt]; omega
  have e3 : 2 ^ 47 * a ||| b / 131072 = 2 ^ 47 * a + b / 131072 := (Nat.two_pow_add_eq_or_of_lt (by omega) a).symm
  rw [BitVec.toNat_or, e1, e2, e3, IntKind.wrap_u64]
  omega
theorem and_low (x : Int) (h0 : 0 ≤ x) (h1 : x < 131072) : bits .and .u64 (x * 140737488355328) 4294967295 = 0 := by
  show IntKind.u64.wrap ((BitVec.ofInt 64 (x * 140737488355328) &&& BitVec.ofInt 64 4294967295).toNat : Int) = _
  have e : (BitVec.ofInt 64 4294967295).toNat = 4294967295 := by decide
  have h : (BitVec.ofInt 64 (x * 140737488355328)).toNat &&& 4294967295 = (BitVec.ofInt 64 (x * 140737488355328)).toNat % 4294967296 := Nat.and_two_pow_sub_one_eq_mod _ 32
  have k : ((BitVec.ofInt 64 (x * 140737488355328)).toNat : Int) = x * 140737488355328 := by rw [BitVec.toNat_ofInt]; omega
  rw [IntKind.wrap_u64, BitVec.toNat_and, e, h]
  omega
theorem and_top : bits .and .u64 9223372036854775808 4294967295 = 0 := and_low 65536 (by omega) (by omega)
theorem ret_2 {k l : IntKind} {a b c d : Int} (h : a = c) (g : b = d) : Ending.returned (.tuple #[.int k a, .int l b]) = .returned (.tuple #[.int k c, .int l d]) := by rw [h, g]
def roundF (neg : Bool) (q r : Int) : Int := if neg then cut (-(min q 140737488355328 + (if r = 0 then 0 else 1))) else min q 140737488355328
theorem round_shr (neg : Bool) (P C : Nat) (q r : Int) (hq : q = ((P / C : Nat) : Int)) (hr : r = ((P % C : Nat) : Int)) : roundF neg q r = shr neg P C := by
  subst hq hr
  unfold roundF shr
  cases neg
  · rfl
  · simp only [if_true]
    congr 4
    exact propext (by omega)
theorem round_far (neg : Bool) (P C : Nat) (q r : Int) (hq : 140737488355328 ≤ q) (hp : 140737488355328 ≤ P / C) : roundF neg q r = shr neg P C := by
  unfold roundF shr
  generalize P / C = n at *
  cases neg
  · simp only [Bool.false_eq_true, if_false]; omega
  · simp only [if_true]; unfold cut; split <;> split <;> omega
theorem tdiv_facts (a b : Int) (hb : 1 ≤ b) : (a < 0 → a ≤ a.tdiv b * b ∧ a.tdiv b * b ≤ 0) ∧ (0 ≤ a → 0 ≤ a.tdiv b * b ∧ a.tdiv b * b ≤ a) ∧
    (a < a.tdiv b * b → a.tdiv b - 1 = a / b) ∧ (a.tdiv b * b ≤ a → a.tdiv b = a / b) ∧ (a < 0 → a ≤ a.tdiv b ∧ a.tdiv b ≤ 0) ∧ (0 ≤ a → 0 ≤ a.tdiv b ∧ a.tdiv b ≤ a) := by
  have e := Int.mul_ediv_add_emod a b
  have r0 := Int.emod_nonneg a (show b ≠ 0 by omega)
  have r1 := Int.emod_lt_of_pos a (show 0 < b by omega)
  have q0 : 0 ≤ a → 0 ≤ a / b := fun h => Int.ediv_nonneg h (by omega)
  have q1 : 0 ≤ a → a / b ≤ a := fun h => Int.ediv_le_self b h
  have q2 : a < 0 → a / b < 0 := fun h => Int.ediv_neg_of_neg_of_pos h (by omega)
  have q3 : a < 0 → a ≤ a / b := fun h => by
    have : (a / b + 1) * b ≥ a := by rw [Int.add_mul, Int.mul_comm]; omega
    apply Int.le_of_not_gt
    intro hlt
    have h2 : (a / b + 1) * b ≤ (a / b + 1) * 1 := Int.mul_le_mul_of_nonpos_left (by omega) hb
    have h3 : b * (a / b) + b > a := by omega
    have h4 : (a / b + 1) * b = b * (a / b) + b := by rw [Int.add_mul, Int.mul_comm]; omega
    omega
  have t := @Int.tdiv_eq_ediv a b
  rw [Int.mul_comm] at e
  by_cases h : 0 ≤ a ∨ b ∣ a
  · rw [if_pos h] at t
    simp only [Int.add_zero] at t
    rw [t]
    refine ⟨fun hn => ?_, fun hp => by have := Int.mul_nonneg (q0 hp) (show 0 ≤ b by omega); omega, fun hl => by omega, fun _ => rfl, fun hn => ⟨q3 hn, by have := q2 hn; omega⟩, fun hp => ⟨q0 hp, q1 hp⟩⟩
    have : a % b = 0 := Int.emod_eq_zero_of_dvd (h.resolve_left (by omega))
    omega
  · rw [if_neg h, Int.sign_eq_one_of_pos (by omega)] at t
    have hn : a < 0 := by omega
    have hr : a % b ≠ 0 := fun hz => h (Or.inr (Int.dvd_of_emod_eq_zero hz))
    rw [t, Int.add_mul]
    have := q2 hn
    have := q3 hn
    refine ⟨fun _ => ⟨by omega, ?_⟩, fun hp => by omega, fun _ => by omega, fun hl => by omega, fun _ => by omega, fun hp => by omega⟩
    have : (a / b + 1) * b ≤ 0 := Int.mul_nonpos_of_nonpos_of_nonneg (by omega) (by omega)
    rw [Int.add_mul] at this
    omega
/-- The reference's product: where the sizes' product would be too wide, the bound. -/
theorem mulF_far (a b : Int) (h : 9223372036854775807 < (cut a).natAbs * (cut b).natAbs) : mulF a b = if decide (cut a < 0) != decide (cut b < 0) then -140737488355328 else 140737488355328 := by
  have e := abs_mul (cut a) (cut b)
  unfold mulF
  generalize (cut a).natAbs * (cut b).natAbs = P at *
  generalize cut a * cut b = p at *
  cases hx : (decide (cut a < 0) != decide (cut b < 0)) <;> simp only [hx, Bool.false_eq_true, if_true, if_false] at e ⊢ <;> unfold cut <;> omega
theorem mulF_near (a b : Int) : mulF a b = cut ((if decide (cut a < 0) != decide (cut b < 0) then -(((cut a).natAbs * (cut b).natAbs : Nat) : Int) else (((cut a).natAbs * (cut b).natAbs : Nat) : Int)) / 65536) := by
  unfold mulF; rw [abs_mul (cut a) (cut b)]
/-- A number that is not nought: its size, and its sign. -/
theorem sign_cases (x : Int) (h : x ≠ 0) : ∃ u : Nat, 1 ≤ u ∧ x.natAbs = u ∧ ((x = (u : Int) ∧ decide (x < 0) = false) ∨ (x = -(u : Int) ∧ decide (x < 0) = true)) := by
  refine ⟨x.natAbs, by omega, rfl, ?_⟩
  by_cases hx : x < 0
  · exact Or.inr ⟨by omega, by simp [hx]⟩
  · exact Or.inl ⟨by omega, by simp; omega⟩
theorem far_iff (u v : Nat) (hv : 1 ≤ v) : (9223372036854775807 : Int) / (v : Int) < (u : Int) ↔ 9223372036854775807 < u * v := by
  rw [Int.ediv_lt_iff_lt_mul (by omega), ← Int.natCast_mul]; omega
theorem sign_int (x : Int) : ∃ u : Int, 0 ≤ u ∧ (x.natAbs : Int) = u ∧ ((u = x ∧ decide (x < 0) = false) ∨ (x = -u ∧ decide (x < 0) = true ∧ 1 ≤ u)) := by
  refine ⟨x.natAbs, by omega, rfl, ?_⟩
  by_cases hx : x < 0
  · exact Or.inr ⟨by omega, by simp [hx], by omega⟩
  · exact Or.inl ⟨by omega, by simp; omega⟩
/-- What the reference's long division holds behind k digits. -/
def QInv (x y : Int) (k : Nat) (q r : Int) : Prop :=
  0 ≤ r ∧ r < y ∧ 0 ≤ q ∧ q ≤ 1152921504606846977 ∧ ∃ T : Int, 0 ≤ T ∧ x * 2 ^ k = T * y + r ∧ (q = T ∨ (576460752303423488 ≤ q ∧ 576460752303423488 ≤ T))
theorem qinv_start (x y : Int) (hx : 0 ≤ x) (hx1 : x ≤ 140737488355328) (hy : 1 ≤ y) : QInv x y 0 (x / y) (x % y) := by
  have q1 := Int.ediv_le_self y hx
  refine ⟨Int.emod_nonneg _ (by omega), Int.emod_lt_of_pos _ (by omega), Int.ediv_nonneg hx (by omega), by omega, x / y, Int.ediv_nonneg hx (by omega), ?_, Or.inl rfl⟩
  have := Int.mul_ediv_add_emod x y
  rw [Int.pow_zero, Int.mul_one, Int.mul_comm]; omega
theorem qinv_low {x y : Int} {k : Nat} {q r : Int} (h : QInv x y k q r) (hr : r * 2 < y) : QInv x y (k + 1) (min (q * 2) 1152921504606846976) (r * 2) := by
  obtain ⟨a, b, c, d, T, t0, t1, t2⟩ := h
  refine ⟨by omega, hr, by omega, by omega, T * 2, by omega, ?_, by omega⟩
  rw [Int.pow_succ, ← Int.mul_assoc, t1, Int.mul_right_comm, Int.add_mul]
theorem qinv_high {x y : Int} {k : Nat} {q r : Int} (h : QInv x y k q r) (hr : y ≤ r * 2) : QInv x y (k + 1) (min (q * 2) 1152921504606846976 + 1) (r * 2 - y) := by
  obtain ⟨a, b, c, d, T, t0, t1, t2⟩ := h
  refine ⟨by omega, by omega, by omega, by omega, T * 2 + 1, by omega, ?_, by omega⟩
  rw [Int.pow_succ, ← Int.mul_assoc, t1, Int.add_mul (T * 2), Int.mul_right_comm, Int.add_mul]
  omega
theorem qinv_end (X Y : Nat) (hY : 1 ≤ Y) (q r : Int) (h : QInv X Y 16 q r) :
    cut q = shr false (X * 65536) Y ∧ (0 < r → cut (-(q + 1)) = shr true (X * 65536) Y) ∧ (¬ 0 < r → cut (-q) = shr true (X * 65536) Y) := by
  obtain ⟨a, b, c, d, T, t0, t1, t2⟩ := h
  have e : ((X * 65536 : Nat) : Int) = (X : Int) * 2 ^ 16 := by rw [Int.natCast_mul]; rfl
  have u := (Int.ediv_emod_unique (a := ((X * 65536 : Nat) : Int)) (b := (Y : Int)) (q := T) (r := r) (by omega)).2 ⟨by rw [e, t1, Int.mul_comm]; omega, a, b⟩
  have u1 : ((X * 65536 / Y : Nat) : Int) = T := u.1
  have u2 : ((X * 65536 % Y : Nat) : Int) = r := u.2
  clear u e t1
  unfold shr
  generalize X * 65536 / Y = D at *
  generalize X * 65536 % Y = R at *
  subst u1 u2
  simp only [Bool.false_eq_true, if_false, if_true]
  refine ⟨by unfold cut; omega, fun h => ?_, fun h => ?_⟩
  · rw [if_neg (by omega)]; unfold cut; omega
  · rw [if_pos (by omega)]; unfold cut; omega
theorem chain {w a b : World} (h : Below w.heap.size w a) (k : Below a.heap.size a b) : Below w.heap.size w b := h.trans (k.mono h.size)
theorem mulF_comm (a b : Int) : mulF b a = mulF a b := by unfold mulF; rw [Int.mul_comm]
theorem mulF_one (a : Int) : mulF a 65536 = cut a := by
  unfold mulF
  rw [show cut 65536 = 65536 from by decide +kernel, Int.mul_ediv_cancel _ (by omega), cut_cut]
theorem mulF_zero (a : Int) : mulF a 0 = 0 := by
  unfold mulF
  rw [show cut 0 = 0 from by decide +kernel, Int.mul_zero]; decide +kernel
theorem quoF_one (a : Int) : quoF a 65536 = cut a := by
  unfold quoF
  rw [if_pos (by omega), show cut 65536 = 65536 from by decide +kernel, Int.mul_ediv_cancel _ (by omega), cut_cut]
theorem mulF_mono {a b : Int} (c : Int) (h : a ≤ b) (hc : 0 ≤ c) : mulF a c ≤ mulF b c := by
  unfold mulF
  have h0 : 0 ≤ cut c := by unfold cut; omega
  have h1 := Int.mul_le_mul_of_nonneg_right (cut_mono h) h0
  exact cut_mono (Int.ediv_le_ediv (by omega) h1)
theorem quoF_mono {a b : Int} (c : Int) (h : a ≤ b) (hc : 1 ≤ c) : quoF a c ≤ quoF b c := by
  unfold quoF
  rw [if_pos (by omega), if_pos (by omega)]
  have h0 : 0 < cut c := by unfold cut; omega
  have h1 := cut_mono h
  exact cut_mono (Int.ediv_le_ediv h0 (by omega))
end Go.Proofs.Ytlmekadgcllndaa
