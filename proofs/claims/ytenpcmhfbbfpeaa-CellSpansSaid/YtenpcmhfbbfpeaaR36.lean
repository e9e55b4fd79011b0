/- Contracts of layer 3's reference (cells): Span. -/
import Derived.Test.YtenpcmhfbbfpeaaR33
import Derived.Test.YtenpcmhfbbfpeaaP03
import Derived.Test.YtenpcmhfbbfpeaaS03
import Derived.Deep.RegionHeld3
set_option linter.unusedVariables false
set_option linter.unusedSimpArgs false
namespace Go.Proofs.Ytenpcmhfbbfpeaa
open Go.ChangeShapes Go.WideShapes Go.ChangeAt Go.RowKit
theorem span_ax (n m : Int) (hn : -140737488355328 ≤ n ∧ n ≤ 140737488355328) (hm : -140737488355328 ≤ m ∧ m ≤ 140737488355328) (h : n ≤ m) :
    (n / 65536 ≤ belowF m ∧ (m / 65536 * 65536 == m) = true ∧ decide (n / 65536 < m / 65536) = true ∧ m / 65536 - 1 = belowF m ∧ (n == m) = false) ∨
    (n / 65536 ≤ belowF m ∧ (m / 65536 * 65536 == m) = false ∧ m / 65536 = belowF m ∧ (n == m) = false) ∨
    (n / 65536 ≤ belowF m ∧ (m / 65536 * 65536 == m) = false ∧ m / 65536 = belowF m ∧ (n == m) = true ∧ (n / 65536 * 65536 == n) = false) ∨
    (¬ n / 65536 ≤ belowF m ∧ (m / 65536 * 65536 == m) = true ∧ decide (n / 65536 < m / 65536) = false ∧ (n == m) = true ∧ (n / 65536 * 65536 == n) = true) := by
  have e : belowF m = if 0 < m % 65536 then m / 65536 else m / 65536 - 1 := by unfold belowF; rw [cut_in hm.1 hm.2]
  rw [e]
  simp only [beq_iff_eq, beq_eq_false_iff_ne, ne_eq, decide_eq_true_eq, decide_eq_false_iff_not]
  by_cases h0 : 0 < m % 65536
  · rw [if_pos h0]
    by_cases h1 : n = m
    · subst h1; refine .inr (.inr (.inl ?_)); omega
    · refine .inr (.inl ?_); omega
  · rw [if_neg h0]
    by_cases h1 : n / 65536 < m / 65536
    · refine .inl ?_; omega
    · refine .inr (.inr (.inr ?_)); omega
def lowF (a b c : Int) (k : Nat) : Array Value := #[.int .i64 (if 0 < k then a else 0), .int .i64 (if 1 < k then b else 0), .int .i64 (if 2 < k then c else 0)]
def spanR (A B C D E F : Int) : Value := if A ≤ D ∧ B ≤ E ∧ C ≤ F then spanV A B C D E F else spanN
set_option maxHeartbeats 16000000 in
theorem r3_span (x y z x' y' z' : Int) (hx : -140737488355328 ≤ x ∧ x ≤ 140737488355328) (hy : -140737488355328 ≤ y ∧ y ≤ 140737488355328) (hz : -140737488355328 ≤ z ∧ z ≤ 140737488355328)
    (hx' : -140737488355328 ≤ x' ∧ x' ≤ 140737488355328) (hy' : -140737488355328 ≤ y' ∧ y' ≤ 140737488355328) (hz' : -140737488355328 ≤ z' ∧ z' ≤ 140737488355328) (ox : x ≤ x') (oy : y ≤ y') (oz : z ≤ z') (w : World) :
    Calls Try.prog 37 #[boxV x y z x' y' z'] w fun e w' =>
    e = .returned (spanR (x / 65536) (y / 65536) (z / 65536) (belowF x') (belowF y') (belowF z')) ∧ Below w.heap.size w w' := by
  have s0 := span_ax x x' hx hx' ox
  have fl0 := fun k => r3_floor x k
  have ft0 := fun k => r3_floor x' k
  rw [cut_in hx.1 hx.2] at fl0
  rw [cut_in hx'.1 hx'.2] at ft0
  have bL0 : -2147483648 ≤ x / 65536 ∧ x / 65536 ≤ 2147483648 := by omega
  have bT0 : -2147483648 ≤ x' / 65536 ∧ x' / 65536 ≤ 2147483648 := by omega
  generalize x / 65536 = L0 at *
  generalize x' / 65536 = T0 at *
  generalize belowF x' = M0 at *
  have wL0 : IntKind.i64.wrap (L0 * 65536) = L0 * 65536 := IntWalk.i64_in _ (by omega)
  have wT0 : IntKind.i64.wrap (T0 * 65536) = T0 * 65536 := IntWalk.i64_in _ (by omega)
  have a0 := fun k => to_v (r2_axis x y z 0 k) (congrArg (Value.int .i64) (ax0 x y z))
  have e0 := fun k => to_v (r2_axis x' y' z' 0 k) (congrArg (Value.int .i64) (ax0 x' y' z'))
  have S0 := Lib.hid s0
  have FL0 := Lib.hid fl0
  have FT0 := Lib.hid ft0
  have A0 := Lib.hid a0
  have E0 := Lib.hid e0
  have s1 := span_ax y y' hy hy' oy
  have fl1 := fun k => r3_floor y k
  have ft1 := fun k => r3_floor y' k
  rw [cut_in hy.1 hy.2] at fl1
  rw [cut_in hy'.1 hy'.2] at ft1
  have bL1 : -2147483648 ≤ y / 65536 ∧ y / 65536 ≤ 2147483648 := by omega
  have bT1 : -2147483648 ≤ y' / 65536 ∧ y' / 65536 ≤ 2147483648 := by omega
  generalize y / 65536 = L1 at *
  generalize y' / 65536 = T1 at *
  generalize belowF y' = M1 at *
  have wL1 : IntKind.i64.wrap (L1 * 65536) = L1 * 65536 := IntWalk.i64_in _ (by omega)
  have wT1 : IntKind.i64.wrap (T1 * 65536) = T1 * 65536 := IntWalk.i64_in _ (by omega)
  have a1 := fun k => to_v (r2_axis x y z 1 k) (congrArg (Value.int .i64) (ax1 x y z))
  have e1 := fun k => to_v (r2_axis x' y' z' 1 k) (congrArg (Value.int .i64) (ax1 x' y' z'))
  have S1 := Lib.hid s1
  have FL1 := Lib.hid fl1
  have FT1 := Lib.hid ft1
  have A1 := Lib.hid a1
  have E1 := Lib.hid e1
  have s2 := span_ax z z' hz hz' oz
  have fl2 := fun k => r3_floor z k
  have ft2 := fun k => r3_floor z' k
  rw [cut_in hz.1 hz.2] at fl2
  rw [cut_in hz'.1 hz'.2] at ft2
  have bL2 : -2147483648 ≤ z / 65536 ∧ z / 65536 ≤ 2147483648 := by omega
  have bT2 : -2147483648 ≤ z' / 65536 ∧ z' / 65536 ≤ 2147483648 := by omega
  generalize z / 65536 = L2 at *
  generalize z' / 65536 = T2 at *
  generalize belowF z' = M2 at *
  have wL2 : IntKind.i64.wrap (L2 * 65536) = L2 * 65536 := IntWalk.i64_in _ (by omega)
  have wT2 : IntKind.i64.wrap (T2 * 65536) = T2 * 65536 := IntWalk.i64_in _ (by omega)
  have a2 := fun k => to_v (r2_axis x y z 2 k) (congrArg (Value.int .i64) (ax2 x y z))
  have e2 := fun k => to_v (r2_axis x' y' z' 2 k) (congrArg (Value.int .i64) (ax2 x' y' z'))
  have S2 := Lib.hid s2
  have FL2 := Lib.hid fl2
  have FT2 := Lib.hid ft2
  have A2 := Lib.hid a2
  have E2 := Lib.hid e2
  clear ox oy oz hx hy hz hx' hy' hz' s0 fl0 ft0 a0 e0 s1 fl1 ft1 a1 e1 s2 fl2 ft2 a2 e2
  go_enter Try.func37, Try.ntmps37
  go_wp2_with fail
  have rb : RowAt (w.alloc (.cells #[.int .i64 x, .int .i64 y, .int .i64 z, .int .i64 (x'), .int .i64 (y'), .int .i64 (z')] 31)) (w.heap.size) #[.int .i64 x, .int .i64 y, .int .i64 z, .int .i64 (x'), .int .i64 (y'), .int .i64 (z')] 31 := RowAt.make _ _ _ (by simp)
  have rb : RowAt ((w.alloc (.cells #[.int .i64 x, .int .i64 y, .int .i64 z, .int .i64 (x'), .int .i64 (y'), .int .i64 (z')] 31)).alloc (.cells #[.int .i64 0, .int .i64 0, .int .i64 0] 28)) (w.heap.size) #[.int .i64 x, .int .i64 y, .int .i64 z, .int .i64 (x'), .int .i64 (y'), .int .i64 (z')] 31 := rb.alloc _
  have rr : RowAt ((w.alloc (.cells #[.int .i64 x, .int .i64 y, .int .i64 z, .int .i64 (x'), .int .i64 (y'), .int .i64 (z')] 31)).alloc (.cells #[.int .i64 0, .int .i64 0, .int .i64 0] 28)) (w.heap.size + 1) #[.int .i64 0, .int .i64 0, .int .i64 0] 28 := RowAt.make _ _ _ (by simp)
  have rb : RowAt (((w.alloc (.cells #[.int .i64 x, .int .i64 y, .int .i64 z, .int .i64 (x'), .int .i64 (y'), .int .i64 (z')] 31)).alloc (.cells #[.int .i64 0, .int .i64 0, .int .i64 0] 28)).alloc (.cells #[.int .i64 0, .int .i64 0, .int .i64 0] 28)) (w.heap.size) #[.int .i64 x, .int .i64 y, .int .i64 z, .int .i64 (x'), .int .i64 (y'), .int .i64 (z')] 31 := rb.alloc _
  have rr : RowAt (((w.alloc (.cells #[.int .i64 x, .int .i64 y, .int .i64 z, .int .i64 (x'), .int .i64 (y'), .int .i64 (z')] 31)).alloc (.cells #[.int .i64 0, .int .i64 0, .int .i64 0] 28)).alloc (.cells #[.int .i64 0, .int .i64 0, .int .i64 0] 28)) (w.heap.size + 1) #[.int .i64 0, .int .i64 0, .int .i64 0] 28 := rr.alloc _
  have rq : RowAt (((w.alloc (.cells #[.int .i64 x, .int .i64 y, .int .i64 z, .int .i64 (x'), .int .i64 (y'), .int .i64 (z')] 31)).alloc (.cells #[.int .i64 0, .int .i64 0, .int .i64 0] 28)).alloc (.cells #[.int .i64 0, .int .i64 0, .int .i64 0] 28)) (w.heap.size + 1 + 1) #[.int .i64 0, .int .i64 0, .int .i64 0] 28 := RowAt.make _ _ _ (by simp)
  have rb : RowAt ((((w.alloc (.cells #[.int .i64 x, .int .i64 y, .int .i64 z, .int .i64 (x'), .int .i64 (y'), .int .i64 (z')] 31)).alloc (.cells #[.int .i64 0, .int .i64 0, .int .i64 0] 28)).alloc (.cells #[.int .i64 0, .int .i64 0, .int .i64 0] 28)).alloc (.cells #[.int .i64 0, .int .i64 0, .int .i64 0] 64)) (w.heap.size) #[.int .i64 x, .int .i64 y, .int .i64 z, .int .i64 (x'), .int .i64 (y'), .int .i64 (z')] 31 := rb.alloc _
  have rr : RowAt ((((w.alloc (.cells #[.int .i64 x, .int .i64 y, .int .i64 z, .int .i64 (x'), .int .i64 (y'), .int .i64 (z')] 31)).alloc (.cells #[.int .i64 0, .int .i64 0, .int .i64 0] 28)).alloc (.cells #[.int .i64 0, .int .i64 0, .int .i64 0] 28)).alloc (.cells #[.int .i64 0, .int .i64 0, .int .i64 0] 64)) (w.heap.size + 1) #[.int .i64 0, .int .i64 0, .int .i64 0] 28 := rr.alloc _
  have rq : RowAt ((((w.alloc (.cells #[.int .i64 x, .int .i64 y, .int .i64 z, .int .i64 (x'), .int .i64 (y'), .int .i64 (z')] 31)).alloc (.cells #[.int .i64 0, .int .i64 0, .int .i64 0] 28)).alloc (.cells #[.int .i64 0, .int .i64 0, .int .i64 0] 28)).alloc (.cells #[.int .i64 0, .int .i64 0, .int .i64 0] 64)) (w.heap.size + 1 + 1) #[.int .i64 0, .int .i64 0, .int .i64 0] 28 := rq.alloc _
  have rl : RowAt ((((w.alloc (.cells #[.int .i64 x, .int .i64 y, .int .i64 z, .int .i64 (x'), .int .i64 (y'), .int .i64 (z')] 31)).alloc (.cells #[.int .i64 0, .int .i64 0, .int .i64 0] 28)).alloc (.cells #[.int .i64 0, .int .i64 0, .int .i64 0] 28)).alloc (.cells #[.int .i64 0, .int .i64 0, .int .i64 0] 64)) (w.heap.size + 1 + 1 + 1) #[.int .i64 0, .int .i64 0, .int .i64 0] 64 := RowAt.make _ _ _ (by simp)
  have rb : RowAt (((((w.alloc (.cells #[.int .i64 x, .int .i64 y, .int .i64 z, .int .i64 (x'), .int .i64 (y'), .int .i64 (z')] 31)).alloc (.cells #[.int .i64 0, .int .i64 0, .int .i64 0] 28)).alloc (.cells #[.int .i64 0, .int .i64 0, .int .i64 0] 28)).alloc (.cells #[.int .i64 0, .int .i64 0, .int .i64 0] 64)).alloc (.cells #[.int .i64 0, .int .i64 0, .int .i64 0] 64)) (w.heap.size) #[.int .i64 x, .int .i64 y, .int .i64 z, .int .i64 (x'), .int .i64 (y'), .int .i64 (z')] 31 := rb.alloc _
  have rr : RowAt (((((w.alloc (.cells #[.int .i64 x, .int .i64 y, .int .i64 z, .int .i64 (x'), .int .i64 (y'), .int .i64 (z')] 31)).alloc (.cells #[.int .i64 0, .int .i64 0, .int .i64 0] 28)).alloc (.cells #[.int .i64 0, .int .i64 0, .int .i64 0] 28)).alloc (.cells #[.int .i64 0, .int .i64 0, .int .i64 0] 64)).alloc (.cells #[.int .i64 0, .int .i64 0, .int .i64 0] 64)) (w.heap.size + 1) #[.int .i64 0, .int .i64 0, .int .i64 0] 28 := rr.alloc _
  have rq : RowAt (((((w.alloc (.cells #[.int .i64 x, .int .i64 y, .int .i64 z, .int .i64 (x'), .int .i64 (y'), .int .i64 (z')] 31)).alloc (.cells #[.int .i64 0, .int .i64 0, .int .i64 0] 28)).alloc (.cells #[.int .i64 0, .int .i64 0, .int .i64 0] 28)).alloc (.cells #[.int .i64 0, .int .i64 0, .int .i64 0] 64)).alloc (.cells #[.int .i64 0, .int .i64 0, .int .i64 0] 64)) (w.heap.size + 1 + 1) #[.int .i64 0, .int .i64 0, .int .i64 0] 28 := rq.alloc _
  have rl : RowAt (((((w.alloc (.cells #[.int .i64 x, .int .i64 y, .int .i64 z, .int .i64 (x'), .int .i64 (y'), .int .i64 (z')] 31)).alloc (.cells #[.int .i64 0, .int .i64 0, .int .i64 0] 28)).alloc (.cells #[.int .i64 0, .int .i64 0, .int .i64 0] 28)).alloc (.cells #[.int .i64 0, .int .i64 0, .int .i64 0] 64)).alloc (.cells #[.int .i64 0, .int .i64 0, .int .i64 0] 64)) (w.heap.size + 1 + 1 + 1) #[.int .i64 0, .int .i64 0, .int .i64 0] 64 := rl.alloc _
  have rt : RowAt (((((w.alloc (.cells #[.int .i64 x, .int .i64 y, .int .i64 z, .int .i64 (x'), .int .i64 (y'), .int .i64 (z')] 31)).alloc (.cells #[.int .i64 0, .int .i64 0, .int .i64 0] 28)).alloc (.cells #[.int .i64 0, .int .i64 0, .int .i64 0] 28)).alloc (.cells #[.int .i64 0, .int .i64 0, .int .i64 0] 64)).alloc (.cells #[.int .i64 0, .int .i64 0, .int .i64 0] 64)) (w.heap.size + 1 + 1 + 1 + 1) #[.int .i64 0, .int .i64 0, .int .i64 0] 64 := RowAt.make _ _ _ (by simp)
  have kw : Below w.heap.size w (((((w.alloc (.cells #[.int .i64 x, .int .i64 y, .int .i64 z, .int .i64 (x'), .int .i64 (y'), .int .i64 (z')] 31)).alloc (.cells #[.int .i64 0, .int .i64 0, .int .i64 0] 28)).alloc (.cells #[.int .i64 0, .int .i64 0, .int .i64 0] 28)).alloc (.cells #[.int .i64 0, .int .i64 0, .int .i64 0] 64)).alloc (.cells #[.int .i64 0, .int .i64 0, .int .i64 0] 64)) := by (repeat (first | with_reducible assumption | with_reducible exact Below.refl _ _ | with_reducible refine Below.drew ?_ | with_reducible refine below_drewN ?_ _ | with_reducible refine al ?_ _ | (with_reducible refine sc ?_ ?_; (focus (first | omega | (simp; done) | (simp; omega)))) | (with_reducible refine chain ?_ (by assumption))))
  generalize (((((w.alloc (.cells #[.int .i64 x, .int .i64 y, .int .i64 z, .int .i64 (x'), .int .i64 (y'), .int .i64 (z')] 31)).alloc (.cells #[.int .i64 0, .int .i64 0, .int .i64 0] 28)).alloc (.cells #[.int .i64 0, .int .i64 0, .int .i64 0] 28)).alloc (.cells #[.int .i64 0, .int .i64 0, .int .i64 0] 64)).alloc (.cells #[.int .i64 0, .int .i64 0, .int .i64 0] 64)) = W1 at *
  have cb : ∀ j, W1.cell? ⟨w.heap.size, j, none⟩ = (#[.int .i64 x, .int .i64 y, .int .i64 z, .int .i64 (x'), .int .i64 (y'), .int .i64 (z')] : Array Value)[j]? := rb.cell
  have fb : ∀ j, W1.frozen? ⟨w.heap.size, j, none⟩ = false := rb.frozen
  have zb : w.heap.size < W1.heap.size := rb.lt
  have cr : ∀ j, W1.cell? ⟨w.heap.size + 1, j, none⟩ = (#[.int .i64 0, .int .i64 0, .int .i64 0] : Array Value)[j]? := rr.cell
  have fr : ∀ j, W1.frozen? ⟨w.heap.size + 1, j, none⟩ = false := rr.frozen
  have zr : w.heap.size + 1 < W1.heap.size := rr.lt
  have cq : ∀ j, W1.cell? ⟨w.heap.size + 1 + 1, j, none⟩ = (#[.int .i64 0, .int .i64 0, .int .i64 0] : Array Value)[j]? := rq.cell
  have fq : ∀ j, W1.frozen? ⟨w.heap.size + 1 + 1, j, none⟩ = false := rq.frozen
  have zq : w.heap.size + 1 + 1 < W1.heap.size := rq.lt
  have cl : ∀ j, W1.cell? ⟨w.heap.size + 1 + 1 + 1, j, none⟩ = (#[.int .i64 0, .int .i64 0, .int .i64 0] : Array Value)[j]? := rl.cell
  have fl : ∀ j, W1.frozen? ⟨w.heap.size + 1 + 1 + 1, j, none⟩ = false := rl.frozen
  have zl : w.heap.size + 1 + 1 + 1 < W1.heap.size := rl.lt
  have ct : ∀ j, W1.cell? ⟨w.heap.size + 1 + 1 + 1 + 1, j, none⟩ = (#[.int .i64 0, .int .i64 0, .int .i64 0] : Array Value)[j]? := rt.cell
  have ft : ∀ j, W1.frozen? ⟨w.heap.size + 1 + 1 + 1 + 1, j, none⟩ = false := rt.frozen
  have zt : w.heap.size + 1 + 1 + 1 + 1 < W1.heap.size := rt.lt
  go_loopw [7] (fun i wr => ∃ k : Nat, k ≤ 3 ∧ i = .int .i64 k ∧ ((0 < k → L0 ≤ M0) ∧ (1 < k → L1 ≤ M1) ∧ (2 < k → L2 ≤ M2)) ∧ Below w.heap.size w wr ∧ RowAt wr (w.heap.size) #[.int .i64 x, .int .i64 y, .int .i64 z, .int .i64 (x'), .int .i64 (y'), .int .i64 (z')] 31 ∧ RowAt wr (w.heap.size + 1) #[.int .i64 0, .int .i64 0, .int .i64 0] 28 ∧ RowAt wr (w.heap.size + 1 + 1) #[.int .i64 0, .int .i64 0, .int .i64 0] 28 ∧ RowAt wr (w.heap.size + 1 + 1 + 1) (lowF L0 L1 L2 k) 64 ∧ RowAt wr (w.heap.size + 1 + 1 + 1 + 1) (lowF M0 M1 M2 k) 64) (fun i _ => 3 - (intOf i).toNat)
  case atStart =>
    exact ⟨0, by omega, rfl, ⟨fun h => absurd h (by omega), fun h => absurd h (by omega), fun h => absurd h (by omega)⟩, kw, rb, rr, rq, rl, rt⟩
  case round =>
    clear kw rb rr rq rl rt cb fb zb cr fr zr cq fq zq cl fl zl ct ft zt
    obtain ⟨k, hk, rfl, hok, kw, rb, rr, rq, rl, rt⟩ := hrel
    by_cases hlt : k < 3
    · rcases (show k = 0 ∨ k = 1 ∨ k = 2 by omega) with rfl | rfl | rfl
      · replace rl : RowAt wr (w.heap.size + 1 + 1 + 1) #[.int .i64 0, .int .i64 0, .int .i64 0] 64 := rl
        replace rt : RowAt wr (w.heap.size + 1 + 1 + 1 + 1) #[.int .i64 0, .int .i64 0, .int .i64 0] 64 := rt
        rcases S0.out with ⟨i0, i1, i2, i3, i4⟩ | ⟨i0, i1, i3, i4⟩ | ⟨i0, i1, i3, i4, i5⟩ | ⟨i0, i1, i2, i4, i5⟩
        · clear S0 S1 S2
          have cb : ∀ j, wr.cell? ⟨w.heap.size, j, none⟩ = (#[.int .i64 x, .int .i64 y, .int .i64 z, .int .i64 (x'), .int .i64 (y'), .int .i64 (z')] : Array Value)[j]? := rb.cell
          have fb : ∀ j, wr.frozen? ⟨w.heap.size, j, none⟩ = false := rb.frozen
          have zb : w.heap.size < wr.heap.size := rb.lt
          have cr : ∀ j, wr.cell? ⟨w.heap.size + 1, j, none⟩ = (#[.int .i64 0, .int .i64 0, .int .i64 0] : Array Value)[j]? := rr.cell
          have fr : ∀ j, wr.frozen? ⟨w.heap.size + 1, j, none⟩ = false := rr.frozen
          have zr : w.heap.size + 1 < wr.heap.size := rr.lt
          have cq : ∀ j, wr.cell? ⟨w.heap.size + 1 + 1, j, none⟩ = (#[.int .i64 0, .int .i64 0, .int .i64 0] : Array Value)[j]? := rq.cell
          have fq : ∀ j, wr.frozen? ⟨w.heap.size + 1 + 1, j, none⟩ = false := rq.frozen
          have zq : w.heap.size + 1 + 1 < wr.heap.size := rq.lt
          have cl : ∀ j, wr.cell? ⟨w.heap.size + 1 + 1 + 1, j, none⟩ = (#[.int .i64 0, .int .i64 0, .int .i64 0] : Array Value)[j]? := rl.cell
          have fl : ∀ j, wr.frozen? ⟨w.heap.size + 1 + 1 + 1, j, none⟩ = false := rl.frozen
          have zl : w.heap.size + 1 + 1 + 1 < wr.heap.size := rl.lt
          have ct : ∀ j, wr.cell? ⟨w.heap.size + 1 + 1 + 1 + 1, j, none⟩ = (#[.int .i64 0, .int .i64 0, .int .i64 0] : Array Value)[j]? := rt.cell
          have ft : ∀ j, wr.frozen? ⟨w.heap.size + 1 + 1 + 1 + 1, j, none⟩ = false := rt.frozen
          have zt : w.heap.size + 1 + 1 + 1 + 1 < wr.heap.size := rt.lt
          go_wp2_with fail
          (refine (A0.out _).mono ?_; rintro e W11 ⟨rfl, hW11⟩)
          clear cb fb zb cr fr zr cq fq zq cl fl zl ct ft zt
          replace rb := rb.keep hW11
          replace rr := rr.keep hW11
          replace rq := rq.keep hW11
          replace rl := rl.keep hW11
          replace rt := rt.keep hW11
          replace kw := kw.trans (hW11.mono kw.size)
          have cb : ∀ j, W11.cell? ⟨w.heap.size, j, none⟩ = (#[.int .i64 x, .int .i64 y, .int .i64 z, .int .i64 (x'), .int .i64 (y'), .int .i64 (z')] : Array Value)[j]? := rb.cell
          have fb : ∀ j, W11.frozen? ⟨w.heap.size, j, none⟩ = false := rb.frozen
          have zb : w.heap.size < W11.heap.size := rb.lt
          have cr : ∀ j, W11.cell? ⟨w.heap.size + 1, j, none⟩ = (#[.int .i64 0, .int .i64 0, .int .i64 0] : Array Value)[j]? := rr.cell
          have fr : ∀ j, W11.frozen? ⟨w.heap.size + 1, j, none⟩ = false := rr.frozen
          have zr : w.heap.size + 1 < W11.heap.size := rr.lt
          have cq : ∀ j, W11.cell? ⟨w.heap.size + 1 + 1, j, none⟩ = (#[.int .i64 0, .int .i64 0, .int .i64 0] : Array Value)[j]? := rq.cell
          have fq : ∀ j, W11.frozen? ⟨w.heap.size + 1 + 1, j, none⟩ = false := rq.frozen
          have zq : w.heap.size + 1 + 1 < W11.heap.size := rq.lt
          have cl : ∀ j, W11.cell? ⟨w.heap.size + 1 + 1 + 1, j, none⟩ = (#[.int .i64 0, .int .i64 0, .int .i64 0] : Array Value)[j]? := rl.cell
          have fl : ∀ j, W11.frozen? ⟨w.heap.size + 1 + 1 + 1, j, none⟩ = false := rl.frozen
          have zl : w.heap.size + 1 + 1 + 1 < W11.heap.size := rl.lt
          have ct : ∀ j, W11.cell? ⟨w.heap.size + 1 + 1 + 1 + 1, j, none⟩ = (#[.int .i64 0, .int .i64 0, .int .i64 0] : Array Value)[j]? := rt.cell
          have ft : ∀ j, W11.frozen? ⟨w.heap.size + 1 + 1 + 1 + 1, j, none⟩ = false := rt.frozen
          have zt : w.heap.size + 1 + 1 + 1 + 1 < W11.heap.size := rt.lt
          clear hW11
          go_wp2_with fail
          (refine (E0.out _).mono ?_; rintro e W12 ⟨rfl, hW12⟩)
          clear cb fb zb cr fr zr cq fq zq cl fl zl ct ft zt
          replace rb := rb.keep hW12
          replace rr := rr.keep hW12
          replace rq := rq.keep hW12
          replace rl := rl.keep hW12
          replace rt := rt.keep hW12
          replace kw := kw.trans (hW12.mono kw.size)
          have cb : ∀ j, W12.cell? ⟨w.heap.size, j, none⟩ = (#[.int .i64 x, .int .i64 y, .int .i64 z, .int .i64 (x'), .int .i64 (y'), .int .i64 (z')] : Array Value)[j]? := rb.cell
          have fb : ∀ j, W12.frozen? ⟨w.heap.size, j, none⟩ = false := rb.frozen
          have zb : w.heap.size < W12.heap.size := rb.lt
          have cr : ∀ j, W12.cell? ⟨w.heap.size + 1, j, none⟩ = (#[.int .i64 0, .int .i64 0, .int .i64 0] : Array Value)[j]? := rr.cell
          have fr : ∀ j, W12.frozen? ⟨w.heap.size + 1, j, none⟩ = false := rr.frozen
          have zr : w.heap.size + 1 < W12.heap.size := rr.lt
          have cq : ∀ j, W12.cell? ⟨w.heap.size + 1 + 1, j, none⟩ = (#[.int .i64 0, .int .i64 0, .int .i64 0] : Array Value)[j]? := rq.cell
          have fq : ∀ j, W12.frozen? ⟨w.heap.size + 1 + 1, j, none⟩ = false := rq.frozen
          have zq : w.heap.size + 1 + 1 < W12.heap.size := rq.lt
          have cl : ∀ j, W12.cell? ⟨w.heap.size + 1 + 1 + 1, j, none⟩ = (#[.int .i64 0, .int .i64 0, .int .i64 0] : Array Value)[j]? := rl.cell
          have fl : ∀ j, W12.frozen? ⟨w.heap.size + 1 + 1 + 1, j, none⟩ = false := rl.frozen
          have zl : w.heap.size + 1 + 1 + 1 < W12.heap.size := rl.lt
          have ct : ∀ j, W12.cell? ⟨w.heap.size + 1 + 1 + 1 + 1, j, none⟩ = (#[.int .i64 0, .int .i64 0, .int .i64 0] : Array Value)[j]? := rt.cell
          have ft : ∀ j, W12.frozen? ⟨w.heap.size + 1 + 1 + 1 + 1, j, none⟩ = false := rt.frozen
          have zt : w.heap.size + 1 + 1 + 1 + 1 < W12.heap.size := rt.lt
          clear hW12
          go_wp2_with (go_at_call 46; refine (FL0.out _).mono ?_; rintro e w' ⟨rfl, rfl⟩)
          replace kw : Below w.heap.size w (W12.setCell ⟨w.heap.size + 1 + 1 + 1, 0, none⟩ (.int .i64 L0)) := by (repeat (first | with_reducible assumption | with_reducible exact Below.refl _ _ | with_reducible refine Below.drew ?_ | with_reducible refine below_drewN ?_ _ | with_reducible refine al ?_ _ | (with_reducible refine sc ?_ ?_; (focus (first | omega | (simp; done) | (simp; omega)))) | (with_reducible refine chain ?_ (by assumption))))
          replace rb : RowAt (W12.setCell ⟨w.heap.size + 1 + 1 + 1, 0, none⟩ (.int .i64 L0)) (w.heap.size) #[.int .i64 x, .int .i64 y, .int .i64 z, .int .i64 (x'), .int .i64 (y'), .int .i64 (z')] 31 := (rb.other (p := ⟨w.heap.size + 1 + 1 + 1, 0, none⟩) (by first | omega | (simp; done) | (simp; omega)) (.int .i64 L0))
          replace rr : RowAt (W12.setCell ⟨w.heap.size + 1 + 1 + 1, 0, none⟩ (.int .i64 L0)) (w.heap.size + 1) #[.int .i64 0, .int .i64 0, .int .i64 0] 28 := (rr.other (p := ⟨w.heap.size + 1 + 1 + 1, 0, none⟩) (by first | omega | (simp; done) | (simp; omega)) (.int .i64 L0))
          replace rq : RowAt (W12.setCell ⟨w.heap.size + 1 + 1 + 1, 0, none⟩ (.int .i64 L0)) (w.heap.size + 1 + 1) #[.int .i64 0, .int .i64 0, .int .i64 0] 28 := (rq.other (p := ⟨w.heap.size + 1 + 1 + 1, 0, none⟩) (by first | omega | (simp; done) | (simp; omega)) (.int .i64 L0))
          replace rl : RowAt (W12.setCell ⟨w.heap.size + 1 + 1 + 1, 0, none⟩ (.int .i64 L0)) (w.heap.size + 1 + 1 + 1) #[.int .i64 L0, .int .i64 0, .int .i64 0] 64 := (rl.set 0 (.int .i64 L0))
          replace rt : RowAt (W12.setCell ⟨w.heap.size + 1 + 1 + 1, 0, none⟩ (.int .i64 L0)) (w.heap.size + 1 + 1 + 1 + 1) #[.int .i64 0, .int .i64 0, .int .i64 0] 64 := (rt.other (p := ⟨w.heap.size + 1 + 1 + 1, 0, none⟩) (by first | omega | (simp; done) | (simp; omega)) (.int .i64 L0))
          clear cb fb zb cr fr zr cq fq zq cl fl zl ct ft zt
          generalize (W12.setCell ⟨w.heap.size + 1 + 1 + 1, 0, none⟩ (.int .i64 L0)) = W13 at *
          have cb : ∀ j, W13.cell? ⟨w.heap.size, j, none⟩ = (#[.int .i64 x, .int .i64 y, .int .i64 z, .int .i64 (x'), .int .i64 (y'), .int .i64 (z')] : Array Value)[j]? := rb.cell
          have fb : ∀ j, W13.frozen? ⟨w.heap.size, j, none⟩ = false := rb.frozen
          have zb : w.heap.size < W13.heap.size := rb.lt
          have cr : ∀ j, W13.cell? ⟨w.heap.size + 1, j, none⟩ = (#[.int .i64 0, .int .i64 0, .int .i64 0] : Array Value)[j]? := rr.cell
          have fr : ∀ j, W13.frozen? ⟨w.heap.size + 1, j, none⟩ = false := rr.frozen
          have zr : w.heap.size + 1 < W13.heap.size := rr.lt
          have cq : ∀ j, W13.cell? ⟨w.heap.size + 1 + 1, j, none⟩ = (#[.int .i64 0, .int .i64 0, .int .i64 0] : Array Value)[j]? := rq.cell
          have fq : ∀ j, W13.frozen? ⟨w.heap.size + 1 + 1, j, none⟩ = false := rq.frozen
          have zq : w.heap.size + 1 + 1 < W13.heap.size := rq.lt
          have cl : ∀ j, W13.cell? ⟨w.heap.size + 1 + 1 + 1, j, none⟩ = (#[.int .i64 L0, .int .i64 0, .int .i64 0] : Array Value)[j]? := rl.cell
          have fl : ∀ j, W13.frozen? ⟨w.heap.size + 1 + 1 + 1, j, none⟩ = false := rl.frozen
          have zl : w.heap.size + 1 + 1 + 1 < W13.heap.size := rl.lt
          have ct : ∀ j, W13.cell? ⟨w.heap.size + 1 + 1 + 1 + 1, j, none⟩ = (#[.int .i64 0, .int .i64 0, .int .i64 0] : Array Value)[j]? := rt.cell
          have ft : ∀ j, W13.frozen? ⟨w.heap.size + 1 + 1 + 1 + 1, j, none⟩ = false := rt.frozen
          have zt : w.heap.size + 1 + 1 + 1 + 1 < W13.heap.size := rt.lt
          go_wp2_with (go_at_call 46; refine (FT0.out _).mono ?_; rintro e w' ⟨rfl, rfl⟩)
          replace kw : Below w.heap.size w (W13.setCell ⟨w.heap.size + 1 + 1 + 1 + 1, 0, none⟩ (.int .i64 T0)) := by (repeat (first | with_reducible assumption | with_reducible exact Below.refl _ _ | with_reducible refine Below.drew ?_ | with_reducible refine below_drewN ?_ _ | with_reducible refine al ?_ _ | (with_reducible refine sc ?_ ?_; (focus (first | omega | (simp; done) | (simp; omega)))) | (with_reducible refine chain ?_ (by assumption))))
          replace rb : RowAt (W13.setCell ⟨w.heap.size + 1 + 1 + 1 + 1, 0, none⟩ (.int .i64 T0)) (w.heap.size) #[.int .i64 x, .int .i64 y, .int .i64 z, .int .i64 (x'), .int .i64 (y'), .int .i64 (z')] 31 := (rb.other (p := ⟨w.heap.size + 1 + 1 + 1 + 1, 0, none⟩) (by first | omega | (simp; done) | (simp; omega)) (.int .i64 T0))
          replace rr : RowAt (W13.setCell ⟨w.heap.size + 1 + 1 + 1 + 1, 0, none⟩ (.int .i64 T0)) (w.heap.size + 1) #[.int .i64 0, .int .i64 0, .int .i64 0] 28 := (rr.other (p := ⟨w.heap.size + 1 + 1 + 1 + 1, 0, none⟩) (by first | omega | (simp; done) | (simp; omega)) (.int .i64 T0))
          replace rq : RowAt (W13.setCell ⟨w.heap.size + 1 + 1 + 1 + 1, 0, none⟩ (.int .i64 T0)) (w.heap.size + 1 + 1) #[.int .i64 0, .int .i64 0, .int .i64 0] 28 := (rq.other (p := ⟨w.heap.size + 1 + 1 + 1 + 1, 0, none⟩) (by first | omega | (simp; done) | (simp; omega)) (.int .i64 T0))
          replace rl : RowAt (W13.setCell ⟨w.heap.size + 1 + 1 + 1 + 1, 0, none⟩ (.int .i64 T0)) (w.heap.size + 1 + 1 + 1) #[.int .i64 L0, .int .i64 0, .int .i64 0] 64 := (rl.other (p := ⟨w.heap.size + 1 + 1 + 1 + 1, 0, none⟩) (by first | omega | (simp; done) | (simp; omega)) (.int .i64 T0))
          replace rt : RowAt (W13.setCell ⟨w.heap.size + 1 + 1 + 1 + 1, 0, none⟩ (.int .i64 T0)) (w.heap.size + 1 + 1 + 1 + 1) #[.int .i64 T0, .int .i64 0, .int .i64 0] 64 := (rt.set 0 (.int .i64 T0))
          clear cb fb zb cr fr zr cq fq zq cl fl zl ct ft zt
          generalize (W13.setCell ⟨w.heap.size + 1 + 1 + 1 + 1, 0, none⟩ (.int .i64 T0)) = W14 at *
          have cb : ∀ j, W14.cell? ⟨w.heap.size, j, none⟩ = (#[.int .i64 x, .int .i64 y, .int .i64 z, .int .i64 (x'), .int .i64 (y'), .int .i64 (z')] : Array Value)[j]? := rb.cell
          have fb : ∀ j, W14.frozen? ⟨w.heap.size, j, none⟩ = false := rb.frozen
          have zb : w.heap.size < W14.heap.size := rb.lt
          have cr : ∀ j, W14.cell? ⟨w.heap.size + 1, j, none⟩ = (#[.int .i64 0, .int .i64 0, .int .i64 0] : Array Value)[j]? := rr.cell
          have fr : ∀ j, W14.frozen? ⟨w.heap.size + 1, j, none⟩ = false := rr.frozen
          have zr : w.heap.size + 1 < W14.heap.size := rr.lt
          have cq : ∀ j, W14.cell? ⟨w.heap.size + 1 + 1, j, none⟩ = (#[.int .i64 0, .int .i64 0, .int .i64 0] : Array Value)[j]? := rq.cell
          have fq : ∀ j, W14.frozen? ⟨w.heap.size + 1 + 1, j, none⟩ = false := rq.frozen
          have zq : w.heap.size + 1 + 1 < W14.heap.size := rq.lt
          have cl : ∀ j, W14.cell? ⟨w.heap.size + 1 + 1 + 1, j, none⟩ = (#[.int .i64 L0, .int .i64 0, .int .i64 0] : Array Value)[j]? := rl.cell
          have fl : ∀ j, W14.frozen? ⟨w.heap.size + 1 + 1 + 1, j, none⟩ = false := rl.frozen
          have zl : w.heap.size + 1 + 1 + 1 < W14.heap.size := rl.lt
          have ct : ∀ j, W14.cell? ⟨w.heap.size + 1 + 1 + 1 + 1, j, none⟩ = (#[.int .i64 T0, .int .i64 0, .int .i64 0] : Array Value)[j]? := rt.cell
          have ft : ∀ j, W14.frozen? ⟨w.heap.size + 1 + 1 + 1 + 1, j, none⟩ = false := rt.frozen
          have zt : w.heap.size + 1 + 1 + 1 + 1 < W14.heap.size := rt.lt
          refine region_below 14 (by kernel_rfl) (by kernel_rfl) ?_
          simp only [List.take_succ_cons, List.take_zero, List.drop_succ_cons, List.drop_zero]
          repeat (first | (refine' InText.skip (by rfl) ?_; simp only [Act.put, List.setIfInBounds_toArray, List.set_cons_zero, List.set_cons_succ]) | (refine' InText.val (by rfl) (fun wr hr => ?_) ?_; rotate_left 1; (focus (obtain ⟨hrc, hrf⟩ := bcell hr; (go_simp <;> with_reducible rfl); done)); simp only [Act.put, List.setIfInBounds_toArray, List.set_cons_zero, List.set_cons_succ]))
          refine fun wra hra => ?_
          obtain ⟨hrca, hrfa⟩ := bcell hra
          clear cb fb zb cr fr zr cq fq zq cl fl zl ct ft zt
          replace rb := rb.keep hra
          replace rr := rr.keep hra
          replace rq := rq.keep hra
          replace rl := rl.keep hra
          replace rt := rt.keep hra
          replace kw := kw.trans (hra.mono kw.size)
          have cb : ∀ j, wra.cell? ⟨w.heap.size, j, none⟩ = (#[.int .i64 x, .int .i64 y, .int .i64 z, .int .i64 (x'), .int .i64 (y'), .int .i64 (z')] : Array Value)[j]? := rb.cell
          have fb : ∀ j, wra.frozen? ⟨w.heap.size, j, none⟩ = false := rb.frozen
          have zb : w.heap.size < wra.heap.size := rb.lt
          have cr : ∀ j, wra.cell? ⟨w.heap.size + 1, j, none⟩ = (#[.int .i64 0, .int .i64 0, .int .i64 0] : Array Value)[j]? := rr.cell
          have fr : ∀ j, wra.frozen? ⟨w.heap.size + 1, j, none⟩ = false := rr.frozen
          have zr : w.heap.size + 1 < wra.heap.size := rr.lt
          have cq : ∀ j, wra.cell? ⟨w.heap.size + 1 + 1, j, none⟩ = (#[.int .i64 0, .int .i64 0, .int .i64 0] : Array Value)[j]? := rq.cell
          have fq : ∀ j, wra.frozen? ⟨w.heap.size + 1 + 1, j, none⟩ = false := rq.frozen
          have zq : w.heap.size + 1 + 1 < wra.heap.size := rq.lt
          have cl : ∀ j, wra.cell? ⟨w.heap.size + 1 + 1 + 1, j, none⟩ = (#[.int .i64 L0, .int .i64 0, .int .i64 0] : Array Value)[j]? := rl.cell
          have fl : ∀ j, wra.frozen? ⟨w.heap.size + 1 + 1 + 1, j, none⟩ = false := rl.frozen
          have zl : w.heap.size + 1 + 1 + 1 < wra.heap.size := rl.lt
          have ct : ∀ j, wra.cell? ⟨w.heap.size + 1 + 1 + 1 + 1, j, none⟩ = (#[.int .i64 T0, .int .i64 0, .int .i64 0] : Array Value)[j]? := rt.cell
          have ft : ∀ j, wra.frozen? ⟨w.heap.size + 1 + 1 + 1 + 1, j, none⟩ = false := rt.frozen
          have zt : w.heap.size + 1 + 1 + 1 + 1 < wra.heap.size := rt.lt
          clear hra hrca hrfa
          go_wp2_with fail
          replace kw : Below w.heap.size w (wra.setCell ⟨w.heap.size + 1 + 1 + 1 + 1, 0, none⟩ (.int .i64 M0)) := by (repeat (first | with_reducible assumption | with_reducible exact Below.refl _ _ | with_reducible refine Below.drew ?_ | with_reducible refine below_drewN ?_ _ | with_reducible refine al ?_ _ | (with_reducible refine sc ?_ ?_; (focus (first | omega | (simp; done) | (simp; omega)))) | (with_reducible refine chain ?_ (by assumption))))
          replace rb : RowAt (wra.setCell ⟨w.heap.size + 1 + 1 + 1 + 1, 0, none⟩ (.int .i64 M0)) (w.heap.size) #[.int .i64 x, .int .i64 y, .int .i64 z, .int .i64 (x'), .int .i64 (y'), .int .i64 (z')] 31 := (rb.other (p := ⟨w.heap.size + 1 + 1 + 1 + 1, 0, none⟩) (by first | omega | (simp; done) | (simp; omega)) (.int .i64 M0))
          replace rr : RowAt (wra.setCell ⟨w.heap.size + 1 + 1 + 1 + 1, 0, none⟩ (.int .i64 M0)) (w.heap.size + 1) #[.int .i64 0, .int .i64 0, .int .i64 0] 28 := (rr.other (p := ⟨w.heap.size + 1 + 1 + 1 + 1, 0, none⟩) (by first | omega | (simp; done) | (simp; omega)) (.int .i64 M0))
          replace rq : RowAt (wra.setCell ⟨w.heap.size + 1 + 1 + 1 + 1, 0, none⟩ (.int .i64 M0)) (w.heap.size + 1 + 1) #[.int .i64 0, .int .i64 0, .int .i64 0] 28 := (rq.other (p := ⟨w.heap.size + 1 + 1 + 1 + 1, 0, none⟩) (by first | omega | (simp; done) | (simp; omega)) (.int .i64 M0))
          replace rl : RowAt (wra.setCell ⟨w.heap.size + 1 + 1 + 1 + 1, 0, none⟩ (.int .i64 M0)) (w.heap.size + 1 + 1 + 1) #[.int .i64 L0, .int .i64 0, .int .i64 0] 64 := (rl.other (p := ⟨w.heap.size + 1 + 1 + 1 + 1, 0, none⟩) (by first | omega | (simp; done) | (simp; omega)) (.int .i64 M0))
          replace rt : RowAt (wra.setCell ⟨w.heap.size + 1 + 1 + 1 + 1, 0, none⟩ (.int .i64 M0)) (w.heap.size + 1 + 1 + 1 + 1) #[.int .i64 M0, .int .i64 0, .int .i64 0] 64 := (rt.set 0 (.int .i64 M0))
          clear cb fb zb cr fr zr cq fq zq cl fl zl ct ft zt
          generalize (wra.setCell ⟨w.heap.size + 1 + 1 + 1 + 1, 0, none⟩ (.int .i64 M0)) = W15 at *
          have cb : ∀ j, W15.cell? ⟨w.heap.size, j, none⟩ = (#[.int .i64 x, .int .i64 y, .int .i64 z, .int .i64 (x'), .int .i64 (y'), .int .i64 (z')] : Array Value)[j]? := rb.cell
          have fb : ∀ j, W15.frozen? ⟨w.heap.size, j, none⟩ = false := rb.frozen
          have zb : w.heap.size < W15.heap.size := rb.lt
          have cr : ∀ j, W15.cell? ⟨w.heap.size + 1, j, none⟩ = (#[.int .i64 0, .int .i64 0, .int .i64 0] : Array Value)[j]? := rr.cell
          have fr : ∀ j, W15.frozen? ⟨w.heap.size + 1, j, none⟩ = false := rr.frozen
          have zr : w.heap.size + 1 < W15.heap.size := rr.lt
          have cq : ∀ j, W15.cell? ⟨w.heap.size + 1 + 1, j, none⟩ = (#[.int .i64 0, .int .i64 0, .int .i64 0] : Array Value)[j]? := rq.cell
          have fq : ∀ j, W15.frozen? ⟨w.heap.size + 1 + 1, j, none⟩ = false := rq.frozen
          have zq : w.heap.size + 1 + 1 < W15.heap.size := rq.lt
          have cl : ∀ j, W15.cell? ⟨w.heap.size + 1 + 1 + 1, j, none⟩ = (#[.int .i64 L0, .int .i64 0, .int .i64 0] : Array Value)[j]? := rl.cell
          have fl : ∀ j, W15.frozen? ⟨w.heap.size + 1 + 1 + 1, j, none⟩ = false := rl.frozen
          have zl : w.heap.size + 1 + 1 + 1 < W15.heap.size := rl.lt
          have ct : ∀ j, W15.cell? ⟨w.heap.size + 1 + 1 + 1 + 1, j, none⟩ = (#[.int .i64 M0, .int .i64 0, .int .i64 0] : Array Value)[j]? := rt.cell
          have ft : ∀ j, W15.frozen? ⟨w.heap.size + 1 + 1 + 1 + 1, j, none⟩ = false := rt.frozen
          have zt : w.heap.size + 1 + 1 + 1 + 1 < W15.heap.size := rt.lt
          go_wp2_with fail
          go_roundw
          case rel =>
            exact ⟨1, by omega, by go_num, ⟨fun _ => i0, fun h => absurd h (by omega), fun h => absurd h (by omega)⟩, by (repeat (first | with_reducible assumption | with_reducible exact Below.refl _ _ | with_reducible refine Below.drew ?_ | with_reducible refine below_drewN ?_ _ | with_reducible refine al ?_ _ | (with_reducible refine sc ?_ ?_; (focus (first | omega | (simp; done) | (simp; omega)))) | (with_reducible refine chain ?_ (by assumption)))), rb, rr, rq, rl, rt⟩
          case measure => simp [intOf]
        · clear S0 S1 S2
          subst i3
          have cb : ∀ j, wr.cell? ⟨w.heap.size, j, none⟩ = (#[.int .i64 x, .int .i64 y, .int .i64 z, .int .i64 (x'), .int .i64 (y'), .int .i64 (z')] : Array Value)[j]? := rb.cell
          have fb : ∀ j, wr.frozen? ⟨w.heap.size, j, none⟩ = false := rb.frozen
          have zb : w.heap.size < wr.heap.size := rb.lt
          have cr : ∀ j, wr.cell? ⟨w.heap.size + 1, j, none⟩ = (#[.int .i64 0, .int .i64 0, .int .i64 0] : Array Value)[j]? := rr.cell
          have fr : ∀ j, wr.frozen? ⟨w.heap.size + 1, j, none⟩ = false := rr.frozen
          have zr : w.heap.size + 1 < wr.heap.size := rr.lt
          have cq : ∀ j, wr.cell? ⟨w.heap.size + 1 + 1, j, none⟩ = (#[.int .i64 0, .int .i64 0, .int .i64 0] : Array Value)[j]? := rq.cell
          have fq : ∀ j, wr.frozen? ⟨w.heap.size + 1 + 1, j, none⟩ = false := rq.frozen
          have zq : w.heap.size + 1 + 1 < wr.heap.size := rq.lt
          have cl : ∀ j, wr.cell? ⟨w.heap.size + 1 + 1 + 1, j, none⟩ = (#[.int .i64 0, .int .i64 0, .int .i64 0] : Array Value)[j]? := rl.cell
          have fl : ∀ j, wr.frozen? ⟨w.heap.size + 1 + 1 + 1, j, none⟩ = false := rl.frozen
          have zl : w.heap.size + 1 + 1 + 1 < wr.heap.size := rl.lt
          have ct : ∀ j, wr.cell? ⟨w.heap.size + 1 + 1 + 1 + 1, j, none⟩ = (#[.int .i64 0, .int .i64 0, .int .i64 0] : Array Value)[j]? := rt.cell
          have ft : ∀ j, wr.frozen? ⟨w.heap.size + 1 + 1 + 1 + 1, j, none⟩ = false := rt.frozen
          have zt : w.heap.size + 1 + 1 + 1 + 1 < wr.heap.size := rt.lt
          go_wp2_with fail
          (refine (A0.out _).mono ?_; rintro e W11 ⟨rfl, hW11⟩)
          clear cb fb zb cr fr zr cq fq zq cl fl zl ct ft zt
          replace rb := rb.keep hW11
          replace rr := rr.keep hW11
          replace rq := rq.keep hW11
          replace rl := rl.keep hW11
          replace rt := rt.keep hW11
          replace kw := kw.trans (hW11.mono kw.size)
          have cb : ∀ j, W11.cell? ⟨w.heap.size, j, none⟩ = (#[.int .i64 x, .int .i64 y, .int .i64 z, .int .i64 (x'), .int .i64 (y'), .int .i64 (z')] : Array Value)[j]? := rb.cell
          have fb : ∀ j, W11.frozen? ⟨w.heap.size, j, none⟩ = false := rb.frozen
          have zb : w.heap.size < W11.heap.size := rb.lt
          have cr : ∀ j, W11.cell? ⟨w.heap.size + 1, j, none⟩ = (#[.int .i64 0, .int .i64 0, .int .i64 0] : Array Value)[j]? := rr.cell
          have fr : ∀ j, W11.frozen? ⟨w.heap.size + 1, j, none⟩ = false := rr.frozen
          have zr : w.heap.size + 1 < W11.heap.size := rr.lt
          have cq : ∀ j, W11.cell? ⟨w.heap.size + 1 + 1, j, none⟩ = (#[.int .i64 0, .int .i64 0, .int .i64 0] : Array Value)[j]? := rq.cell
          have fq : ∀ j, W11.frozen? ⟨w.heap.size + 1 + 1, j, none⟩ = false := rq.frozen
          have zq : w.heap.size + 1 + 1 < W11.heap.size := rq.lt
          have cl : ∀ j, W11.cell? ⟨w.heap.size + 1 + 1 + 1, j, none⟩ = (#[.int .i64 0, .int .i64 0, .int .i64 0] : Array Value)[j]? := rl.cell
          have fl : ∀ j, W11.frozen? ⟨w.heap.size + 1 + 1 + 1, j, none⟩ = false := rl.frozen
          have zl : w.heap.size + 1 + 1 + 1 < W11.heap.size := rl.lt
          have ct : ∀ j, W11.cell? ⟨w.heap.size + 1 + 1 + 1 + 1, j, none⟩ = (#[.int .i64 0, .int .i64 0, .int .i64 0] : Array Value)[j]? := rt.cell
          have ft : ∀ j, W11.frozen? ⟨w.heap.size + 1 + 1 + 1 + 1, j, none⟩ = false := rt.frozen
          have zt : w.heap.size + 1 + 1 + 1 + 1 < W11.heap.size := rt.lt
          clear hW11
          go_wp2_with fail
          (refine (E0.out _).mono ?_; rintro e W12 ⟨rfl, hW12⟩)
          clear cb fb zb cr fr zr cq fq zq cl fl zl ct ft zt
          replace rb := rb.keep hW12
          replace rr := rr.keep hW12
          replace rq := rq.keep hW12
          replace rl := rl.keep hW12
          replace rt := rt.keep hW12
          replace kw := kw.trans (hW12.mono kw.size)
          have cb : ∀ j, W12.cell? ⟨w.heap.size, j, none⟩ = (#[.int .i64 x, .int .i64 y, .int .i64 z, .int .i64 (x'), .int .i64 (y'), .int .i64 (z')] : Array Value)[j]? := rb.cell
          have fb : ∀ j, W12.frozen? ⟨w.heap.size, j, none⟩ = false := rb.frozen
          have zb : w.heap.size < W12.heap.size := rb.lt
          have cr : ∀ j, W12.cell? ⟨w.heap.size + 1, j, none⟩ = (#[.int .i64 0, .int .i64 0, .int .i64 0] : Array Value)[j]? := rr.cell
          have fr : ∀ j, W12.frozen? ⟨w.heap.size + 1, j, none⟩ = false := rr.frozen
          have zr : w.heap.size + 1 < W12.heap.size := rr.lt
          have cq : ∀ j, W12.cell? ⟨w.heap.size + 1 + 1, j, none⟩ = (#[.int .i64 0, .int .i64 0, .int .i64 0] : Array Value)[j]? := rq.cell
          have fq : ∀ j, W12.frozen? ⟨w.heap.size + 1 + 1, j, none⟩ = false := rq.frozen
          have zq : w.heap.size + 1 + 1 < W12.heap.size := rq.lt
          have cl : ∀ j, W12.cell? ⟨w.heap.size + 1 + 1 + 1, j, none⟩ = (#[.int .i64 0, .int .i64 0, .int .i64 0] : Array Value)[j]? := rl.cell
          have fl : ∀ j, W12.frozen? ⟨w.heap.size + 1 + 1 + 1, j, none⟩ = false := rl.frozen
          have zl : w.heap.size + 1 + 1 + 1 < W12.heap.size := rl.lt
          have ct : ∀ j, W12.cell? ⟨w.heap.size + 1 + 1 + 1 + 1, j, none⟩ = (#[.int .i64 0, .int .i64 0, .int .i64 0] : Array Value)[j]? := rt.cell
          have ft : ∀ j, W12.frozen? ⟨w.heap.size + 1 + 1 + 1 + 1, j, none⟩ = false := rt.frozen
          have zt : w.heap.size + 1 + 1 + 1 + 1 < W12.heap.size := rt.lt
          clear hW12
          go_wp2_with (go_at_call 46; refine (FL0.out _).mono ?_; rintro e w' ⟨rfl, rfl⟩)
          replace kw : Below w.heap.size w (W12.setCell ⟨w.heap.size + 1 + 1 + 1, 0, none⟩ (.int .i64 L0)) := by (repeat (first | with_reducible assumption | with_reducible exact Below.refl _ _ | with_reducible refine Below.drew ?_ | with_reducible refine below_drewN ?_ _ | with_reducible refine al ?_ _ | (with_reducible refine sc ?_ ?_; (focus (first | omega | (simp; done) | (simp; omega)))) | (with_reducible refine chain ?_ (by assumption))))
          replace rb : RowAt (W12.setCell ⟨w.heap.size + 1 + 1 + 1, 0, none⟩ (.int .i64 L0)) (w.heap.size) #[.int .i64 x, .int .i64 y, .int .i64 z, .int .i64 (x'), .int .i64 (y'), .int .i64 (z')] 31 := (rb.other (p := ⟨w.heap.size + 1 + 1 + 1, 0, none⟩) (by first | omega | (simp; done) | (simp; omega)) (.int .i64 L0))
          replace rr : RowAt (W12.setCell ⟨w.heap.size + 1 + 1 + 1, 0, none⟩ (.int .i64 L0)) (w.heap.size + 1) #[.int .i64 0, .int .i64 0, .int .i64 0] 28 := (rr.other (p := ⟨w.heap.size + 1 + 1 + 1, 0, none⟩) (by first | omega | (simp; done) | (simp; omega)) (.int .i64 L0))
          replace rq : RowAt (W12.setCell ⟨w.heap.size + 1 + 1 + 1, 0, none⟩ (.int .i64 L0)) (w.heap.size + 1 + 1) #[.int .i64 0, .int .i64 0, .int .i64 0] 28 := (rq.other (p := ⟨w.heap.size + 1 + 1 + 1, 0, none⟩) (by first | omega | (simp; done) | (simp; omega)) (.int .i64 L0))
          replace rl : RowAt (W12.setCell ⟨w.heap.size + 1 + 1 + 1, 0, none⟩ (.int .i64 L0)) (w.heap.size + 1 + 1 + 1) #[.int .i64 L0, .int .i64 0, .int .i64 0] 64 := (rl.set 0 (.int .i64 L0))
          replace rt : RowAt (W12.setCell ⟨w.heap.size + 1 + 1 + 1, 0, none⟩ (.int .i64 L0)) (w.heap.size + 1 + 1 + 1 + 1) #[.int .i64 0, .int .i64 0, .int .i64 0] 64 := (rt.other (p := ⟨w.heap.size + 1 + 1 + 1, 0, none⟩) (by first | omega | (simp; done) | (simp; omega)) (.int .i64 L0))
          clear cb fb zb cr fr zr cq fq zq cl fl zl ct ft zt
          generalize (W12.setCell ⟨w.heap.size + 1 + 1 + 1, 0, none⟩ (.int .i64 L0)) = W13 at *
          have cb : ∀ j, W13.cell? ⟨w.heap.size, j, none⟩ = (#[.int .i64 x, .int .i64 y, .int .i64 z, .int .i64 (x'), .int .i64 (y'), .int .i64 (z')] : Array Value)[j]? := rb.cell
          have fb : ∀ j, W13.frozen? ⟨w.heap.size, j, none⟩ = false := rb.frozen
          have zb : w.heap.size < W13.heap.size := rb.lt
          have cr : ∀ j, W13.cell? ⟨w.heap.size + 1, j, none⟩ = (#[.int .i64 0, .int .i64 0, .int .i64 0] : Array Value)[j]? := rr.cell
          have fr : ∀ j, W13.frozen? ⟨w.heap.size + 1, j, none⟩ = false := rr.frozen
          have zr : w.heap.size + 1 < W13.heap.size := rr.lt
          have cq : ∀ j, W13.cell? ⟨w.heap.size + 1 + 1, j, none⟩ = (#[.int .i64 0, .int .i64 0, .int .i64 0] : Array Value)[j]? := rq.cell
          have fq : ∀ j, W13.frozen? ⟨w.heap.size + 1 + 1, j, none⟩ = false := rq.frozen
          have zq : w.heap.size + 1 + 1 < W13.heap.size := rq.lt
          have cl : ∀ j, W13.cell? ⟨w.heap.size + 1 + 1 + 1, j, none⟩ = (#[.int .i64 L0, .int .i64 0, .int .i64 0] : Array Value)[j]? := rl.cell
          have fl : ∀ j, W13.frozen? ⟨w.heap.size + 1 + 1 + 1, j, none⟩ = false := rl.frozen
          have zl : w.heap.size + 1 + 1 + 1 < W13.heap.size := rl.lt
          have ct : ∀ j, W13.cell? ⟨w.heap.size + 1 + 1 + 1 + 1, j, none⟩ = (#[.int .i64 0, .int .i64 0, .int .i64 0] : Array Value)[j]? := rt.cell
          have ft : ∀ j, W13.frozen? ⟨w.heap.size + 1 + 1 + 1 + 1, j, none⟩ = false := rt.frozen
          have zt : w.heap.size + 1 + 1 + 1 + 1 < W13.heap.size := rt.lt
          go_wp2_with (go_at_call 46; refine (FT0.out _).mono ?_; rintro e w' ⟨rfl, rfl⟩)
          replace kw : Below w.heap.size w (W13.setCell ⟨w.heap.size + 1 + 1 + 1 + 1, 0, none⟩ (.int .i64 T0)) := by (repeat (first | with_reducible assumption | with_reducible exact Below.refl _ _ | with_reducible refine Below.drew ?_ | with_reducible refine below_drewN ?_ _ | with_reducible refine al ?_ _ | (with_reducible refine sc ?_ ?_; (focus (first | omega | (simp; done) | (simp; omega)))) | (with_reducible refine chain ?_ (by assumption))))
          replace rb : RowAt (W13.setCell ⟨w.heap.size + 1 + 1 + 1 + 1, 0, none⟩ (.int .i64 T0)) (w.heap.size) #[.int .i64 x, .int .i64 y, .int .i64 z, .int .i64 (x'), .int .i64 (y'), .int .i64 (z')] 31 := (rb.other (p := ⟨w.heap.size + 1 + 1 + 1 + 1, 0, none⟩) (by first | omega | (simp; done) | (simp; omega)) (.int .i64 T0))
          replace rr : RowAt (W13.setCell ⟨w.heap.size + 1 + 1 + 1 + 1, 0, none⟩ (.int .i64 T0)) (w.heap.size + 1) #[.int .i64 0, .int .i64 0, .int .i64 0] 28 := (rr.other (p := ⟨w.heap.size + 1 + 1 + 1 + 1, 0, none⟩) (by first | omega | (simp; done) | (simp; omega)) (.int .i64 T0))
          replace rq : RowAt (W13.setCell ⟨w.heap.size + 1 + 1 + 1 + 1, 0, none⟩ (.int .i64 T0)) (w.heap.size + 1 + 1) #[.int .i64 0, .int .i64 0, .int .i64 0] 28 := (rq.other (p := ⟨w.heap.size + 1 + 1 + 1 + 1, 0, none⟩) (by first | omega | (simp; done) | (simp; omega)) (.int .i64 T0))
          replace rl : RowAt (W13.setCell ⟨w.heap.size + 1 + 1 + 1 + 1, 0, none⟩ (.int .i64 T0)) (w.heap.size + 1 + 1 + 1) #[.int .i64 L0, .int .i64 0, .int .i64 0] 64 := (rl.other (p := ⟨w.heap.size + 1 + 1 + 1 + 1, 0, none⟩) (by first | omega | (simp; done) | (simp; omega)) (.int .i64 T0))
          replace rt : RowAt (W13.setCell ⟨w.heap.size + 1 + 1 + 1 + 1, 0, none⟩ (.int .i64 T0)) (w.heap.size + 1 + 1 + 1 + 1) #[.int .i64 T0, .int .i64 0, .int .i64 0] 64 := (rt.set 0 (.int .i64 T0))
          clear cb fb zb cr fr zr cq fq zq cl fl zl ct ft zt
          generalize (W13.setCell ⟨w.heap.size + 1 + 1 + 1 + 1, 0, none⟩ (.int .i64 T0)) = W14 at *
          have cb : ∀ j, W14.cell? ⟨w.heap.size, j, none⟩ = (#[.int .i64 x, .int .i64 y, .int .i64 z, .int .i64 (x'), .int .i64 (y'), .int .i64 (z')] : Array Value)[j]? := rb.cell
          have fb : ∀ j, W14.frozen? ⟨w.heap.size, j, none⟩ = false := rb.frozen
          have zb : w.heap.size < W14.heap.size := rb.lt
          have cr : ∀ j, W14.cell? ⟨w.heap.size + 1, j, none⟩ = (#[.int .i64 0, .int .i64 0, .int .i64 0] : Array Value)[j]? := rr.cell
          have fr : ∀ j, W14.frozen? ⟨w.heap.size + 1, j, none⟩ = false := rr.frozen
          have zr : w.heap.size + 1 < W14.heap.size := rr.lt
          have cq : ∀ j, W14.cell? ⟨w.heap.size + 1 + 1, j, none⟩ = (#[.int .i64 0, .int .i64 0, .int .i64 0] : Array Value)[j]? := rq.cell
          have fq : ∀ j, W14.frozen? ⟨w.heap.size + 1 + 1, j, none⟩ = false := rq.frozen
          have zq : w.heap.size + 1 + 1 < W14.heap.size := rq.lt
          have cl : ∀ j, W14.cell? ⟨w.heap.size + 1 + 1 + 1, j, none⟩ = (#[.int .i64 L0, .int .i64 0, .int .i64 0] : Array Value)[j]? := rl.cell
          have fl : ∀ j, W14.frozen? ⟨w.heap.size + 1 + 1 + 1, j, none⟩ = false := rl.frozen
          have zl : w.heap.size + 1 + 1 + 1 < W14.heap.size := rl.lt
          have ct : ∀ j, W14.cell? ⟨w.heap.size + 1 + 1 + 1 + 1, j, none⟩ = (#[.int .i64 T0, .int .i64 0, .int .i64 0] : Array Value)[j]? := rt.cell
          have ft : ∀ j, W14.frozen? ⟨w.heap.size + 1 + 1 + 1 + 1, j, none⟩ = false := rt.frozen
          have zt : w.heap.size + 1 + 1 + 1 + 1 < W14.heap.size := rt.lt
          refine region_below 14 (by kernel_rfl) (by kernel_rfl) ?_
          simp only [List.take_succ_cons, List.take_zero, List.drop_succ_cons, List.drop_zero]
          repeat (first | (refine' InText.skip (by rfl) ?_; simp only [Act.put, List.setIfInBounds_toArray, List.set_cons_zero, List.set_cons_succ]) | (refine' InText.val (by rfl) (fun wr hr => ?_) ?_; rotate_left 1; (focus (obtain ⟨hrc, hrf⟩ := bcell hr; (go_simp <;> with_reducible rfl); done)); simp only [Act.put, List.setIfInBounds_toArray, List.set_cons_zero, List.set_cons_succ]))
          refine fun wra hra => ?_
          obtain ⟨hrca, hrfa⟩ := bcell hra
          clear cb fb zb cr fr zr cq fq zq cl fl zl ct ft zt
          replace rb := rb.keep hra
          replace rr := rr.keep hra
          replace rq := rq.keep hra
          replace rl := rl.keep hra
          replace rt := rt.keep hra
          replace kw := kw.trans (hra.mono kw.size)
          have cb : ∀ j, wra.cell? ⟨w.heap.size, j, none⟩ = (#[.int .i64 x, .int .i64 y, .int .i64 z, .int .i64 (x'), .int .i64 (y'), .int .i64 (z')] : Array Value)[j]? := rb.cell
          have fb : ∀ j, wra.frozen? ⟨w.heap.size, j, none⟩ = false := rb.frozen
          have zb : w.heap.size < wra.heap.size := rb.lt
          have cr : ∀ j, wra.cell? ⟨w.heap.size + 1, j, none⟩ = (#[.int .i64 0, .int .i64 0, .int .i64 0] : Array Value)[j]? := rr.cell
          have fr : ∀ j, wra.frozen? ⟨w.heap.size + 1, j, none⟩ = false := rr.frozen
          have zr : w.heap.size + 1 < wra.heap.size := rr.lt
          have cq : ∀ j, wra.cell? ⟨w.heap.size + 1 + 1, j, none⟩ = (#[.int .i64 0, .int .i64 0, .int .i64 0] : Array Value)[j]? := rq.cell
          have fq : ∀ j, wra.frozen? ⟨w.heap.size + 1 + 1, j, none⟩ = false := rq.frozen
          have zq : w.heap.size + 1 + 1 < wra.heap.size := rq.lt
          have cl : ∀ j, wra.cell? ⟨w.heap.size + 1 + 1 + 1, j, none⟩ = (#[.int .i64 L0, .int .i64 0, .int .i64 0] : Array Value)[j]? := rl.cell
          have fl : ∀ j, wra.frozen? ⟨w.heap.size + 1 + 1 + 1, j, none⟩ = false := rl.frozen
          have zl : w.heap.size + 1 + 1 + 1 < wra.heap.size := rl.lt
          have ct : ∀ j, wra.cell? ⟨w.heap.size + 1 + 1 + 1 + 1, j, none⟩ = (#[.int .i64 T0, .int .i64 0, .int .i64 0] : Array Value)[j]? := rt.cell
          have ft : ∀ j, wra.frozen? ⟨w.heap.size + 1 + 1 + 1 + 1, j, none⟩ = false := rt.frozen
          have zt : w.heap.size + 1 + 1 + 1 + 1 < wra.heap.size := rt.lt
          clear hra hrca hrfa
          go_wp2_with fail
          go_wp2_with fail
          go_roundw
          case rel =>
            exact ⟨1, by omega, by go_num, ⟨fun _ => i0, fun h => absurd h (by omega), fun h => absurd h (by omega)⟩, by (repeat (first | with_reducible assumption | with_reducible exact Below.refl _ _ | with_reducible refine Below.drew ?_ | with_reducible refine below_drewN ?_ _ | with_reducible refine al ?_ _ | (with_reducible refine sc ?_ ?_; (focus (first | omega | (simp; done) | (simp; omega)))) | (with_reducible refine chain ?_ (by assumption)))), rb, rr, rq, rl, rt⟩
          case measure => simp [intOf]
        · clear S0 S1 S2
          subst i3
          have cb : ∀ j, wr.cell? ⟨w.heap.size, j, none⟩ = (#[.int .i64 x, .int .i64 y, .int .i64 z, .int .i64 (x'), .int .i64 (y'), .int .i64 (z')] : Array Value)[j]? := rb.cell
          have fb : ∀ j, wr.frozen? ⟨w.heap.size, j, none⟩ = false := rb.frozen
          have zb : w.heap.size < wr.heap.size := rb.lt
          have cr : ∀ j, wr.cell? ⟨w.heap.size + 1, j, none⟩ = (#[.int .i64 0, .int .i64 0, .int .i64 0] : Array Value)[j]? := rr.cell
          have fr : ∀ j, wr.frozen? ⟨w.heap.size + 1, j, none⟩ = false := rr.frozen
          have zr : w.heap.size + 1 < wr.heap.size := rr.lt
          have cq : ∀ j, wr.cell? ⟨w.heap.size + 1 + 1, j, none⟩ = (#[.int .i64 0, .int .i64 0, .int .i64 0] : Array Value)[j]? := rq.cell
          have fq : ∀ j, wr.frozen? ⟨w.heap.size + 1 + 1, j, none⟩ = false := rq.frozen
          have zq : w.heap.size + 1 + 1 < wr.heap.size := rq.lt
          have cl : ∀ j, wr.cell? ⟨w.heap.size + 1 + 1 + 1, j, none⟩ = (#[.int .i64 0, .int .i64 0, .int .i64 0] : Array Value)[j]? := rl.cell
          have fl : ∀ j, wr.frozen? ⟨w.heap.size + 1 + 1 + 1, j, none⟩ = false := rl.frozen
          have zl : w.heap.size + 1 + 1 + 1 < wr.heap.size := rl.lt
          have ct : ∀ j, wr.cell? ⟨w.heap.size + 1 + 1 + 1 + 1, j, none⟩ = (#[.int .i64 0, .int .i64 0, .int .i64 0] : Array Value)[j]? := rt.cell
          have ft : ∀ j, wr.frozen? ⟨w.heap.size + 1 + 1 + 1 + 1, j, none⟩ = false := rt.frozen
          have zt : w.heap.size + 1 + 1 + 1 + 1 < wr.heap.size := rt.lt
          go_wp2_with fail
          (refine (A0.out _).mono ?_; rintro e W11 ⟨rfl, hW11⟩)
          clear cb fb zb cr fr zr cq fq zq cl fl zl ct ft zt
          replace rb := rb.keep hW11
          replace rr := rr.keep hW11
          replace rq := rq.keep hW11
          replace rl := rl.keep hW11
          replace rt := rt.keep hW11
          replace kw := kw.trans (hW11.mono kw.size)
          have cb : ∀ j, W11.cell? ⟨w.heap.size, j, none⟩ = (#[.int .i64 x, .int .i64 y, .int .i64 z, .int .i64 (x'), .int .i64 (y'), .int .i64 (z')] : Array Value)[j]? := rb.cell
          have fb : ∀ j, W11.frozen? ⟨w.heap.size, j, none⟩ = false := rb.frozen
          have zb : w.heap.size < W11.heap.size := rb.lt
          have cr : ∀ j, W11.cell? ⟨w.heap.size + 1, j, none⟩ = (#[.int .i64 0, .int .i64 0, .int .i64 0] : Array Value)[j]? := rr.cell
          have fr : ∀ j, W11.frozen? ⟨w.heap.size + 1, j, none⟩ = false := rr.frozen
          have zr : w.heap.size + 1 < W11.heap.size := rr.lt
          have cq : ∀ j, W11.cell? ⟨w.heap.size + 1 + 1, j, none⟩ = (#[.int .i64 0, .int .i64 0, .int .i64 0] : Array Value)[j]? := rq.cell
          have fq : ∀ j, W11.frozen? ⟨w.heap.size + 1 + 1, j, none⟩ = false := rq.frozen
          have zq : w.heap.size + 1 + 1 < W11.heap.size := rq.lt
          have cl : ∀ j, W11.cell? ⟨w.heap.size + 1 + 1 + 1, j, none⟩ = (#[.int .i64 0, .int .i64 0, .int .i64 0] : Array Value)[j]? := rl.cell
          have fl : ∀ j, W11.frozen? ⟨w.heap.size + 1 + 1 + 1, j, none⟩ = false := rl.frozen
          have zl : w.heap.size + 1 + 1 + 1 < W11.heap.size := rl.lt
          have ct : ∀ j, W11.cell? ⟨w.heap.size + 1 + 1 + 1 + 1, j, none⟩ = (#[.int .i64 0, .int .i64 0, .int .i64 0] : Array Value)[j]? := rt.cell
          have ft : ∀ j, W11.frozen? ⟨w.heap.size + 1 + 1 + 1 + 1, j, none⟩ = false := rt.frozen
          have zt : w.heap.size + 1 + 1 + 1 + 1 < W11.heap.size := rt.lt
          clear hW11
          go_wp2_with fail
          (refine (E0.out _).mono ?_; rintro e W12 ⟨rfl, hW12⟩)
          clear cb fb zb cr fr zr cq fq zq cl fl zl ct ft zt
          replace rb := rb.keep hW12
          replace rr := rr.keep hW12
          replace rq := rq.keep hW12
          replace rl := rl.keep hW12
          replace rt := rt.keep hW12
          replace kw := kw.trans (hW12.mono kw.size)
          have cb : ∀ j, W12.cell? ⟨w.heap.size, j, none⟩ = (#[.int .i64 x, .int .i64 y, .int .i64 z, .int .i64 (x'), .int .i64 (y'), .int .i64 (z')] : Array Value)[j]? := rb.cell
          have fb : ∀ j, W12.frozen? ⟨w.heap.size, j, none⟩ = false := rb.frozen
          have zb : w.heap.size < W12.heap.size := rb.lt
          have cr : ∀ j, W12.cell? ⟨w.heap.size + 1, j, none⟩ = (#[.int .i64 0, .int .i64 0, .int .i64 0] : Array Value)[j]? := rr.cell
          have fr : ∀ j, W12.frozen? ⟨w.heap.size + 1, j, none⟩ = false := rr.frozen
          have zr : w.heap.size + 1 < W12.heap.size := rr.lt
          have cq : ∀ j, W12.cell? ⟨w.heap.size + 1 + 1, j, none⟩ = (#[.int .i64 0, .int .i64 0, .int .i64 0] : Array Value)[j]? := rq.cell
          have fq : ∀ j, W12.frozen? ⟨w.heap.size + 1 + 1, j, none⟩ = false := rq.frozen
          have zq : w.heap.size + 1 + 1 < W12.heap.size := rq.lt
          have cl : ∀ j, W12.cell? ⟨w.heap.size + 1 + 1 + 1, j, none⟩ = (#[.int .i64 0, .int .i64 0, .int .i64 0] : Array Value)[j]? := rl.cell
          have fl : ∀ j, W12.frozen? ⟨w.heap.size + 1 + 1 + 1, j, none⟩ = false := rl.frozen
          have zl : w.heap.size + 1 + 1 + 1 < W12.heap.size := rl.lt
          have ct : ∀ j, W12.cell? ⟨w.heap.size + 1 + 1 + 1 + 1, j, none⟩ = (#[.int .i64 0, .int .i64 0, .int .i64 0] : Array Value)[j]? := rt.cell
          have ft : ∀ j, W12.frozen? ⟨w.heap.size + 1 + 1 + 1 + 1, j, none⟩ = false := rt.frozen
          have zt : w.heap.size + 1 + 1 + 1 + 1 < W12.heap.size := rt.lt
          clear hW12
          go_wp2_with (go_at_call 46; refine (FL0.out _).mono ?_; rintro e w' ⟨rfl, rfl⟩)
          replace kw : Below w.heap.size w (W12.setCell ⟨w.heap.size + 1 + 1 + 1, 0, none⟩ (.int .i64 L0)) := by (repeat (first | with_reducible assumption | with_reducible exact Below.refl _ _ | with_reducible refine Below.drew ?_ | with_reducible refine below_drewN ?_ _ | with_reducible refine al ?_ _ | (with_reducible refine sc ?_ ?_; (focus (first | omega | (simp; done) | (simp; omega)))) | (with_reducible refine chain ?_ (by assumption))))
          replace rb : RowAt (W12.setCell ⟨w.heap.size + 1 + 1 + 1, 0, none⟩ (.int .i64 L0)) (w.heap.size) #[.int .i64 x, .int .i64 y, .int .i64 z, .int .i64 (x'), .int .i64 (y'), .int .i64 (z')] 31 := (rb.other (p := ⟨w.heap.size + 1 + 1 + 1, 0, none⟩) (by first | omega | (simp; done) | (simp; omega)) (.int .i64 L0))
          replace rr : RowAt (W12.setCell ⟨w.heap.size + 1 + 1 + 1, 0, none⟩ (.int .i64 L0)) (w.heap.size + 1) #[.int .i64 0, .int .i64 0, .int .i64 0] 28 := (rr.other (p := ⟨w.heap.size + 1 + 1 + 1, 0, none⟩) (by first | omega | (simp; done) | (simp; omega)) (.int .i64 L0))
          replace rq : RowAt (W12.setCell ⟨w.heap.size + 1 + 1 + 1, 0, none⟩ (.int .i64 L0)) (w.heap.size + 1 + 1) #[.int .i64 0, .int .i64 0, .int .i64 0] 28 := (rq.other (p := ⟨w.heap.size + 1 + 1 + 1, 0, none⟩) (by first | omega | (simp; done) | (simp; omega)) (.int .i64 L0))
          replace rl : RowAt (W12.setCell ⟨w.heap.size + 1 + 1 + 1, 0, none⟩ (.int .i64 L0)) (w.heap.size + 1 + 1 + 1) #[.int .i64 L0, .int .i64 0, .int .i64 0] 64 := (rl.set 0 (.int .i64 L0))
          replace rt : RowAt (W12.setCell ⟨w.heap.size + 1 + 1 + 1, 0, none⟩ (.int .i64 L0)) (w.heap.size + 1 + 1 + 1 + 1) #[.int .i64 0, .int .i64 0, .int .i64 0] 64 := (rt.other (p := ⟨w.heap.size + 1 + 1 + 1, 0, none⟩) (by first | omega | (simp; done) | (simp; omega)) (.int .i64 L0))
          clear cb fb zb cr fr zr cq fq zq cl fl zl ct ft zt
          generalize (W12.setCell ⟨w.heap.size + 1 + 1 + 1, 0, none⟩ (.int .i64 L0)) = W13 at *
          have cb : ∀ j, W13.cell? ⟨w.heap.size, j, none⟩ = (#[.int .i64 x, .int .i64 y, .int .i64 z, .int .i64 (x'), .int .i64 (y'), .int .i64 (z')] : Array Value)[j]? := rb.cell
          have fb : ∀ j, W13.frozen? ⟨w.heap.size, j, none⟩ = false := rb.frozen
          have zb : w.heap.size < W13.heap.size := rb.lt
          have cr : ∀ j, W13.cell? ⟨w.heap.size + 1, j, none⟩ = (#[.int .i64 0, .int .i64 0, .int .i64 0] : Array Value)[j]? := rr.cell
          have fr : ∀ j, W13.frozen? ⟨w.heap.size + 1, j, none⟩ = false := rr.frozen
          have zr : w.heap.size + 1 < W13.heap.size := rr.lt
          have cq : ∀ j, W13.cell? ⟨w.heap.size + 1 + 1, j, none⟩ = (#[.int .i64 0, .int .i64 0, .int .i64 0] : Array Value)[j]? := rq.cell
          have fq : ∀ j, W13.frozen? ⟨w.heap.size + 1 + 1, j, none⟩ = false := rq.frozen
          have zq : w.heap.size + 1 + 1 < W13.heap.size := rq.lt
          have cl : ∀ j, W13.cell? ⟨w.heap.size + 1 + 1 + 1, j, none⟩ = (#[.int .i64 L0, .int .i64 0, .int .i64 0] : Array Value)[j]? := rl.cell
          have fl : ∀ j, W13.frozen? ⟨w.heap.size + 1 + 1 + 1, j, none⟩ = false := rl.frozen
          have zl : w.heap.size + 1 + 1 + 1 < W13.heap.size := rl.lt
          have ct : ∀ j, W13.cell? ⟨w.heap.size + 1 + 1 + 1 + 1, j, none⟩ = (#[.int .i64 0, .int .i64 0, .int .i64 0] : Array Value)[j]? := rt.cell
          have ft : ∀ j, W13.frozen? ⟨w.heap.size + 1 + 1 + 1 + 1, j, none⟩ = false := rt.frozen
          have zt : w.heap.size + 1 + 1 + 1 + 1 < W13.heap.size := rt.lt
          go_wp2_with (go_at_call 46; refine (FT0.out _).mono ?_; rintro e w' ⟨rfl, rfl⟩)
          replace kw : Below w.heap.size w (W13.setCell ⟨w.heap.size + 1 + 1 + 1 + 1, 0, none⟩ (.int .i64 T0)) := by (repeat (first | with_reducible assumption | with_reducible exact Below.refl _ _ | with_reducible refine Below.drew ?_ | with_reducible refine below_drewN ?_ _ | with_reducible refine al ?_ _ | (with_reducible refine sc ?_ ?_; (focus (first | omega | (simp; done) | (simp; omega)))) | (with_reducible refine chain ?_ (by assumption))))
          replace rb : RowAt (W13.setCell ⟨w.heap.size + 1 + 1 + 1 + 1, 0, none⟩ (.int .i64 T0)) (w.heap.size) #[.int .i64 x, .int .i64 y, .int .i64 z, .int .i64 (x'), .int .i64 (y'), .int .i64 (z')] 31 := (rb.other (p := ⟨w.heap.size + 1 + 1 + 1 + 1, 0, none⟩) (by first | omega | (simp; done) | (simp; omega)) (.int .i64 T0))
          replace rr : RowAt (W13.setCell ⟨w.heap.size + 1 + 1 + 1 + 1, 0, none⟩ (.int .i64 T0)) (w.heap.size + 1) #[.int .i64 0, .int .i64 0, .int .i64 0] 28 := (rr.other (p := ⟨w.heap.size + 1 + 1 + 1 + 1, 0, none⟩) (by first | omega | (simp; done) | (simp; omega)) (.int .i64 T0))
          replace rq : RowAt (W13.setCell ⟨w.heap.size + 1 + 1 + 1 + 1, 0, none⟩ (.int .i64 T0)) (w.heap.size + 1 + 1) #[.int .i64 0, .int .i64 0, .int .i64 0] 28 := (rq.other (p := ⟨w.heap.size + 1 + 1 + 1 + 1, 0, none⟩) (by first | omega | (simp; done) | (simp; omega)) (.int .i64 T0))
          replace rl : RowAt (W13.setCell ⟨w.heap.size + 1 + 1 + 1 + 1, 0, none⟩ (.int .i64 T0)) (w.heap.size + 1 + 1 + 1) #[.int .i64 L0, .int .i64 0, .int .i64 0] 64 := (rl.other (p := ⟨w.heap.size + 1 + 1 + 1 + 1, 0, none⟩) (by first | omega | (simp; done) | (simp; omega)) (.int .i64 T0))
          replace rt : RowAt (W13.setCell ⟨w.heap.size + 1 + 1 + 1 + 1, 0, none⟩ (.int .i64 T0)) (w.heap.size + 1 + 1 + 1 + 1) #[.int .i64 T0, .int .i64 0, .int .i64 0] 64 := (rt.set 0 (.int .i64 T0))
          clear cb fb zb cr fr zr cq fq zq cl fl zl ct ft zt
          generalize (W13.setCell ⟨w.heap.size + 1 + 1 + 1 + 1, 0, none⟩ (.int .i64 T0)) = W14 at *
          have cb : ∀ j, W14.cell? ⟨w.heap.size, j, none⟩ = (#[.int .i64 x, .int .i64 y, .int .i64 z, .int .i64 (x'), .int .i64 (y'), .int .i64 (z')] : Array Value)[j]? := rb.cell
          have fb : ∀ j, W14.frozen? ⟨w.heap.size, j, none⟩ = false := rb.frozen
          have zb : w.heap.size < W14.heap.size := rb.lt
          have cr : ∀ j, W14.cell? ⟨w.heap.size + 1, j, none⟩ = (#[.int .i64 0, .int .i64 0, .int .i64 0] : Array Value)[j]? := rr.cell
          have fr : ∀ j, W14.frozen? ⟨w.heap.size + 1, j, none⟩ = false := rr.frozen
          have zr : w.heap.size + 1 < W14.heap.size := rr.lt
          have cq : ∀ j, W14.cell? ⟨w.heap.size + 1 + 1, j, none⟩ = (#[.int .i64 0, .int .i64 0, .int .i64 0] : Array Value)[j]? := rq.cell
          have fq : ∀ j, W14.frozen? ⟨w.heap.size + 1 + 1, j, none⟩ = false := rq.frozen
          have zq : w.heap.size + 1 + 1 < W14.heap.size := rq.lt
          have cl : ∀ j, W14.cell? ⟨w.heap.size + 1 + 1 + 1, j, none⟩ = (#[.int .i64 L0, .int .i64 0, .int .i64 0] : Array Value)[j]? := rl.cell
          have fl : ∀ j, W14.frozen? ⟨w.heap.size + 1 + 1 + 1, j, none⟩ = false := rl.frozen
          have zl : w.heap.size + 1 + 1 + 1 < W14.heap.size := rl.lt
          have ct : ∀ j, W14.cell? ⟨w.heap.size + 1 + 1 + 1 + 1, j, none⟩ = (#[.int .i64 T0, .int .i64 0, .int .i64 0] : Array Value)[j]? := rt.cell
          have ft : ∀ j, W14.frozen? ⟨w.heap.size + 1 + 1 + 1 + 1, j, none⟩ = false := rt.frozen
          have zt : w.heap.size + 1 + 1 + 1 + 1 < W14.heap.size := rt.lt
          refine region_below 14 (by kernel_rfl) (by kernel_rfl) ?_
          simp only [List.take_succ_cons, List.take_zero, List.drop_succ_cons, List.drop_zero]
          repeat (first | (refine' InText.skip (by rfl) ?_; simp only [Act.put, List.setIfInBounds_toArray, List.set_cons_zero, List.set_cons_succ]) | (refine' InText.val (by rfl) (fun wr hr => ?_) ?_; rotate_left 1; (focus (obtain ⟨hrc, hrf⟩ := bcell hr; (go_simp <;> with_reducible rfl); done)); simp only [Act.put, List.setIfInBounds_toArray, List.set_cons_zero, List.set_cons_succ]))
          refine fun wra hra => ?_
          obtain ⟨hrca, hrfa⟩ := bcell hra
          clear cb fb zb cr fr zr cq fq zq cl fl zl ct ft zt
          replace rb := rb.keep hra
          replace rr := rr.keep hra
          replace rq := rq.keep hra
          replace rl := rl.keep hra
          replace rt := rt.keep hra
          replace kw := kw.trans (hra.mono kw.size)
          have cb : ∀ j, wra.cell? ⟨w.heap.size, j, none⟩ = (#[.int .i64 x, .int .i64 y, .int .i64 z, .int .i64 (x'), .int .i64 (y'), .int .i64 (z')] : Array Value)[j]? := rb.cell
          have fb : ∀ j, wra.frozen? ⟨w.heap.size, j, none⟩ = false := rb.frozen
          have zb : w.heap.size < wra.heap.size := rb.lt
          have cr : ∀ j, wra.cell? ⟨w.heap.size + 1, j, none⟩ = (#[.int .i64 0, .int .i64 0, .int .i64 0] : Array Value)[j]? := rr.cell
          have fr : ∀ j, wra.frozen? ⟨w.heap.size + 1, j, none⟩ = false := rr.frozen
          have zr : w.heap.size + 1 < wra.heap.size := rr.lt
          have cq : ∀ j, wra.cell? ⟨w.heap.size + 1 + 1, j, none⟩ = (#[.int .i64 0, .int .i64 0, .int .i64 0] : Array Value)[j]? := rq.cell
          have fq : ∀ j, wra.frozen? ⟨w.heap.size + 1 + 1, j, none⟩ = false := rq.frozen
          have zq : w.heap.size + 1 + 1 < wra.heap.size := rq.lt
          have cl : ∀ j, wra.cell? ⟨w.heap.size + 1 + 1 + 1, j, none⟩ = (#[.int .i64 L0, .int .i64 0, .int .i64 0] : Array Value)[j]? := rl.cell
          have fl : ∀ j, wra.frozen? ⟨w.heap.size + 1 + 1 + 1, j, none⟩ = false := rl.frozen
          have zl : w.heap.size + 1 + 1 + 1 < wra.heap.size := rl.lt
          have ct : ∀ j, wra.cell? ⟨w.heap.size + 1 + 1 + 1 + 1, j, none⟩ = (#[.int .i64 T0, .int .i64 0, .int .i64 0] : Array Value)[j]? := rt.cell
          have ft : ∀ j, wra.frozen? ⟨w.heap.size + 1 + 1 + 1 + 1, j, none⟩ = false := rt.frozen
          have zt : w.heap.size + 1 + 1 + 1 + 1 < wra.heap.size := rt.lt
          clear hra hrca hrfa
          go_wp2_with fail
          go_wp2_with fail
          go_roundw
          case rel =>
            exact ⟨1, by omega, by go_num, ⟨fun _ => i0, fun h => absurd h (by omega), fun h => absurd h (by omega)⟩, by (repeat (first | with_reducible assumption | with_reducible exact Below.refl _ _ | with_reducible refine Below.drew ?_ | with_reducible refine below_drewN ?_ _ | with_reducible refine al ?_ _ | (with_reducible refine sc ?_ ?_; (focus (first | omega | (simp; done) | (simp; omega)))) | (with_reducible refine chain ?_ (by assumption)))), rb, rr, rq, rl, rt⟩
          case measure => simp [intOf]
        · clear S0 S1 S2
          have cb : ∀ j, wr.cell? ⟨w.heap.size, j, none⟩ = (#[.int .i64 x, .int .i64 y, .int .i64 z, .int .i64 (x'), .int .i64 (y'), .int .i64 (z')] : Array Value)[j]? := rb.cell
          have fb : ∀ j, wr.frozen? ⟨w.heap.size, j, none⟩ = false := rb.frozen
          have zb : w.heap.size < wr.heap.size := rb.lt
          have cr : ∀ j, wr.cell? ⟨w.heap.size + 1, j, none⟩ = (#[.int .i64 0, .int .i64 0, .int .i64 0] : Array Value)[j]? := rr.cell
          have fr : ∀ j, wr.frozen? ⟨w.heap.size + 1, j, none⟩ = false := rr.frozen
          have zr : w.heap.size + 1 < wr.heap.size := rr.lt
          have cq : ∀ j, wr.cell? ⟨w.heap.size + 1 + 1, j, none⟩ = (#[.int .i64 0, .int .i64 0, .int .i64 0] : Array Value)[j]? := rq.cell
          have fq : ∀ j, wr.frozen? ⟨w.heap.size + 1 + 1, j, none⟩ = false := rq.frozen
          have zq : w.heap.size + 1 + 1 < wr.heap.size := rq.lt
          have cl : ∀ j, wr.cell? ⟨w.heap.size + 1 + 1 + 1, j, none⟩ = (#[.int .i64 0, .int .i64 0, .int .i64 0] : Array Value)[j]? := rl.cell
          have fl : ∀ j, wr.frozen? ⟨w.heap.size + 1 + 1 + 1, j, none⟩ = false := rl.frozen
          have zl : w.heap.size + 1 + 1 + 1 < wr.heap.size := rl.lt
          have ct : ∀ j, wr.cell? ⟨w.heap.size + 1 + 1 + 1 + 1, j, none⟩ = (#[.int .i64 0, .int .i64 0, .int .i64 0] : Array Value)[j]? := rt.cell
          have ft : ∀ j, wr.frozen? ⟨w.heap.size + 1 + 1 + 1 + 1, j, none⟩ = false := rt.frozen
          have zt : w.heap.size + 1 + 1 + 1 + 1 < wr.heap.size := rt.lt
          go_wp2_with fail
          (refine (A0.out _).mono ?_; rintro e W11 ⟨rfl, hW11⟩)
          clear cb fb zb cr fr zr cq fq zq cl fl zl ct ft zt
          replace rb := rb.keep hW11
          replace rr := rr.keep hW11
          replace rq := rq.keep hW11
          replace rl := rl.keep hW11
          replace rt := rt.keep hW11
          replace kw := kw.trans (hW11.mono kw.size)
          have cb : ∀ j, W11.cell? ⟨w.heap.size, j, none⟩ = (#[.int .i64 x, .int .i64 y, .int .i64 z, .int .i64 (x'), .int .i64 (y'), .int .i64 (z')] : Array Value)[j]? := rb.cell
          have fb : ∀ j, W11.frozen? ⟨w.heap.size, j, none⟩ = false := rb.frozen
          have zb : w.heap.size < W11.heap.size := rb.lt
          have cr : ∀ j, W11.cell? ⟨w.heap.size + 1, j, none⟩ = (#[.int .i64 0, .int .i64 0, .int .i64 0] : Array Value)[j]? := rr.cell
          have fr : ∀ j, W11.frozen? ⟨w.heap.size + 1, j, none⟩ = false := rr.frozen
          have zr : w.heap.size + 1 < W11.heap.size := rr.lt
          have cq : ∀ j, W11.cell? ⟨w.heap.size + 1 + 1, j, none⟩ = (#[.int .i64 0, .int .i64 0, .int .i64 0] : Array Value)[j]? := rq.cell
          have fq : ∀ j, W11.frozen? ⟨w.heap.size + 1 + 1, j, none⟩ = false := rq.frozen
          have zq : w.heap.size + 1 + 1 < W11.heap.size := rq.lt
          have cl : ∀ j, W11.cell? ⟨w.heap.size + 1 + 1 + 1, j, none⟩ = (#[.int .i64 0, .int .i64 0, .int .i64 0] : Array Value)[j]? := rl.cell
          have fl : ∀ j, W11.frozen? ⟨w.heap.size + 1 + 1 + 1, j, none⟩ = false := rl.frozen
          have zl : w.heap.size + 1 + 1 + 1 < W11.heap.size := rl.lt
          have ct : ∀ j, W11.cell? ⟨w.heap.size + 1 + 1 + 1 + 1, j, none⟩ = (#[.int .i64 0, .int .i64 0, .int .i64 0] : Array Value)[j]? := rt.cell
          have ft : ∀ j, W11.frozen? ⟨w.heap.size + 1 + 1 + 1 + 1, j, none⟩ = false := rt.frozen
          have zt : w.heap.size + 1 + 1 + 1 + 1 < W11.heap.size := rt.lt
          clear hW11
          go_wp2_with fail
          (refine (E0.out _).mono ?_; rintro e W12 ⟨rfl, hW12⟩)
          clear cb fb zb cr fr zr cq fq zq cl fl zl ct ft zt
          replace rb := rb.keep hW12
          replace rr := rr.keep hW12
          replace rq := rq.keep hW12
          replace rl := rl.keep hW12
          replace rt := rt.keep hW12
          replace kw := kw.trans (hW12.mono kw.size)
          have cb : ∀ j, W12.cell? ⟨w.heap.size, j, none⟩ = (#[.int .i64 x, .int .i64 y, .int .i64 z, .int .i64 (x'), .int .i64 (y'), .int .i64 (z')] : Array Value)[j]? := rb.cell
          have fb : ∀ j, W12.frozen? ⟨w.heap.size, j, none⟩ = false := rb.frozen
          have zb : w.heap.size < W12.heap.size := rb.lt
          have cr : ∀ j, W12.cell? ⟨w.heap.size + 1, j, none⟩ = (#[.int .i64 0, .int .i64 0, .int .i64 0] : Array Value)[j]? := rr.cell
          have fr : ∀ j, W12.frozen? ⟨w.heap.size + 1, j, none⟩ = false := rr.frozen
          have zr : w.heap.size + 1 < W12.heap.size := rr.lt
          have cq : ∀ j, W12.cell? ⟨w.heap.size + 1 + 1, j, none⟩ = (#[.int .i64 0, .int .i64 0, .int .i64 0] : Array Value)[j]? := rq.cell
          have fq : ∀ j, W12.frozen? ⟨w.heap.size + 1 + 1, j, none⟩ = false := rq.frozen
          have zq : w.heap.size + 1 + 1 < W12.heap.size := rq.lt
          have cl : ∀ j, W12.cell? ⟨w.heap.size + 1 + 1 + 1, j, none⟩ = (#[.int .i64 0, .int .i64 0, .int .i64 0] : Array Value)[j]? := rl.cell
          have fl : ∀ j, W12.frozen? ⟨w.heap.size + 1 + 1 + 1, j, none⟩ = false := rl.frozen
          have zl : w.heap.size + 1 + 1 + 1 < W12.heap.size := rl.lt
          have ct : ∀ j, W12.cell? ⟨w.heap.size + 1 + 1 + 1 + 1, j, none⟩ = (#[.int .i64 0, .int .i64 0, .int .i64 0] : Array Value)[j]? := rt.cell
          have ft : ∀ j, W12.frozen? ⟨w.heap.size + 1 + 1 + 1 + 1, j, none⟩ = false := rt.frozen
          have zt : w.heap.size + 1 + 1 + 1 + 1 < W12.heap.size := rt.lt
          clear hW12
          go_wp2_with (go_at_call 46; refine (FL0.out _).mono ?_; rintro e w' ⟨rfl, rfl⟩)
          replace kw : Below w.heap.size w (W12.setCell ⟨w.heap.size + 1 + 1 + 1, 0, none⟩ (.int .i64 L0)) := by (repeat (first | with_reducible assumption | with_reducible exact Below.refl _ _ | with_reducible refine Below.drew ?_ | with_reducible refine below_drewN ?_ _ | with_reducible refine al ?_ _ | (with_reducible refine sc ?_ ?_; (focus (first | omega | (simp; done) | (simp; omega)))) | (with_reducible refine chain ?_ (by assumption))))
          replace rb : RowAt (W12.setCell ⟨w.heap.size + 1 + 1 + 1, 0, none⟩ (.int .i64 L0)) (w.heap.size) #[.int .i64 x, .int .i64 y, .int .i64 z, .int .i64 (x'), .int .i64 (y'), .int .i64 (z')] 31 := (rb.other (p := ⟨w.heap.size + 1 + 1 + 1, 0, none⟩) (by first | omega | (simp; done) | (simp; omega)) (.int .i64 L0))
          replace rr : RowAt (W12.setCell ⟨w.heap.size + 1 + 1 + 1, 0, none⟩ (.int .i64 L0)) (w.heap.size + 1) #[.int .i64 0, .int .i64 0, .int .i64 0] 28 := (rr.other (p := ⟨w.heap.size + 1 + 1 + 1, 0, none⟩) (by first | omega | (simp; done) | (simp; omega)) (.int .i64 L0))
          replace rq : RowAt (W12.setCell ⟨w.heap.size + 1 + 1 + 1, 0, none⟩ (.int .i64 L0)) (w.heap.size + 1 + 1) #[.int .i64 0, .int .i64 0, .int .i64 0] 28 := (rq.other (p := ⟨w.heap.size + 1 + 1 + 1, 0, none⟩) (by first | omega | (simp; done) | (simp; omega)) (.int .i64 L0))
          replace rl : RowAt (W12.setCell ⟨w.heap.size + 1 + 1 + 1, 0, none⟩ (.int .i64 L0)) (w.heap.size + 1 + 1 + 1) #[.int .i64 L0, .int .i64 0, .int .i64 0] 64 := (rl.set 0 (.int .i64 L0))
          replace rt : RowAt (W12.setCell ⟨w.heap.size + 1 + 1 + 1, 0, none⟩ (.int .i64 L0)) (w.heap.size + 1 + 1 + 1 + 1) #[.int .i64 0, .int .i64 0, .int .i64 0] 64 := (rt.other (p := ⟨w.heap.size + 1 + 1 + 1, 0, none⟩) (by first | omega | (simp; done) | (simp; omega)) (.int .i64 L0))
          clear cb fb zb cr fr zr cq fq zq cl fl zl ct ft zt
          generalize (W12.setCell ⟨w.heap.size + 1 + 1 + 1, 0, none⟩ (.int .i64 L0)) = W13 at *
          have cb : ∀ j, W13.cell? ⟨w.heap.size, j, none⟩ = (#[.int .i64 x, .int .i64 y, .int .i64 z, .int .i64 (x'), .int .i64 (y'), .int .i64 (z')] : Array Value)[j]? := rb.cell
          have fb : ∀ j, W13.frozen? ⟨w.heap.size, j, none⟩ = false := rb.frozen
          have zb : w.heap.size < W13.heap.size := rb.lt
          have cr : ∀ j, W13.cell? ⟨w.heap.size + 1, j, none⟩ = (#[.int .i64 0, .int .i64 0, .int .i64 0] : Array Value)[j]? := rr.cell
          have fr : ∀ j, W13.frozen? ⟨w.heap.size + 1, j, none⟩ = false := rr.frozen
          have zr : w.heap.size + 1 < W13.heap.size := rr.lt
          have cq : ∀ j, W13.cell? ⟨w.heap.size + 1 + 1, j, none⟩ = (#[.int .i64 0, .int .i64 0, .int .i64 0] : Array Value)[j]? := rq.cell
          have fq : ∀ j, W13.frozen? ⟨w.heap.size + 1 + 1, j, none⟩ = false := rq.frozen
          have zq : w.heap.size + 1 + 1 < W13.heap.size := rq.lt
          have cl : ∀ j, W13.cell? ⟨w.heap.size + 1 + 1 + 1, j, none⟩ = (#[.int .i64 L0, .int .i64 0, .int .i64 0] : Array Value)[j]? := rl.cell
          have fl : ∀ j, W13.frozen? ⟨w.heap.size + 1 + 1 + 1, j, none⟩ = false := rl.frozen
          have zl : w.heap.size + 1 + 1 + 1 < W13.heap.size := rl.lt
          have ct : ∀ j, W13.cell? ⟨w.heap.size + 1 + 1 + 1 + 1, j, none⟩ = (#[.int .i64 0, .int .i64 0, .int .i64 0] : Array Value)[j]? := rt.cell
          have ft : ∀ j, W13.frozen? ⟨w.heap.size + 1 + 1 + 1 + 1, j, none⟩ = false := rt.frozen
          have zt : w.heap.size + 1 + 1 + 1 + 1 < W13.heap.size := rt.lt
          go_wp2_with (go_at_call 46; refine (FT0.out _).mono ?_; rintro e w' ⟨rfl, rfl⟩)
          replace kw : Below w.heap.size w (W13.setCell ⟨w.heap.size + 1 + 1 + 1 + 1, 0, none⟩ (.int .i64 T0)) := by (repeat (first | with_reducible assumption | with_reducible exact Below.refl _ _ | with_reducible refine Below.drew ?_ | with_reducible refine below_drewN ?_ _ | with_reducible refine al ?_ _ | (with_reducible refine sc ?_ ?_; (focus (first | omega | (simp; done) | (simp; omega)))) | (with_reducible refine chain ?_ (by assumption))))
          replace rb : RowAt (W13.setCell ⟨w.heap.size + 1 + 1 + 1 + 1, 0, none⟩ (.int .i64 T0)) (w.heap.size) #[.int .i64 x, .int .i64 y, .int .i64 z, .int .i64 (x'), .int .i64 (y'), .int .i64 (z')] 31 := (rb.other (p := ⟨w.heap.size + 1 + 1 + 1 + 1, 0, none⟩) (by first | omega | (simp; done) | (simp; omega)) (.int .i64 T0))
          replace rr : RowAt (W13.setCell ⟨w.heap.size + 1 + 1 + 1 + 1, 0, none⟩ (.int .i64 T0)) (w.heap.size + 1) #[.int .i64 0, .int .i64 0, .int .i64 0] 28 := (rr.other (p := ⟨w.heap.size + 1 + 1 + 1 + 1, 0, none⟩) (by first | omega | (simp; done) | (simp; omega)) (.int .i64 T0))
          replace rq : RowAt (W13.setCell ⟨w.heap.size + 1 + 1 + 1 + 1, 0, none⟩ (.int .i64 T0)) (w.heap.size + 1 + 1) #[.int .i64 0, .int .i64 0, .int .i64 0] 28 := (rq.other (p := ⟨w.heap.size + 1 + 1 + 1 + 1, 0, none⟩) (by first | omega | (simp; done) | (simp; omega)) (.int .i64 T0))
          replace rl : RowAt (W13.setCell ⟨w.heap.size + 1 + 1 + 1 + 1, 0, none⟩ (.int .i64 T0)) (w.heap.size + 1 + 1 + 1) #[.int .i64 L0, .int .i64 0, .int .i64 0] 64 := (rl.other (p := ⟨w.heap.size + 1 + 1 + 1 + 1, 0, none⟩) (by first | omega | (simp; done) | (simp; omega)) (.int .i64 T0))
          replace rt : RowAt (W13.setCell ⟨w.heap.size + 1 + 1 + 1 + 1, 0, none⟩ (.int .i64 T0)) (w.heap.size + 1 + 1 + 1 + 1) #[.int .i64 T0, .int .i64 0, .int .i64 0] 64 := (rt.set 0 (.int .i64 T0))
          clear cb fb zb cr fr zr cq fq zq cl fl zl ct ft zt
          generalize (W13.setCell ⟨w.heap.size + 1 + 1 + 1 + 1, 0, none⟩ (.int .i64 T0)) = W14 at *
          have cb : ∀ j, W14.cell? ⟨w.heap.size, j, none⟩ = (#[.int .i64 x, .int .i64 y, .int .i64 z, .int .i64 (x'), .int .i64 (y'), .int .i64 (z')] : Array Value)[j]? := rb.cell
          have fb : ∀ j, W14.frozen? ⟨w.heap.size, j, none⟩ = false := rb.frozen
          have zb : w.heap.size < W14.heap.size := rb.lt
          have cr : ∀ j, W14.cell? ⟨w.heap.size + 1, j, none⟩ = (#[.int .i64 0, .int .i64 0, .int .i64 0] : Array Value)[j]? := rr.cell
          have fr : ∀ j, W14.frozen? ⟨w.heap.size + 1, j, none⟩ = false := rr.frozen
          have zr : w.heap.size + 1 < W14.heap.size := rr.lt
          have cq : ∀ j, W14.cell? ⟨w.heap.size + 1 + 1, j, none⟩ = (#[.int .i64 0, .int .i64 0, .int .i64 0] : Array Value)[j]? := rq.cell
          have fq : ∀ j, W14.frozen? ⟨w.heap.size + 1 + 1, j, none⟩ = false := rq.frozen
          have zq : w.heap.size + 1 + 1 < W14.heap.size := rq.lt
          have cl : ∀ j, W14.cell? ⟨w.heap.size + 1 + 1 + 1, j, none⟩ = (#[.int .i64 L0, .int .i64 0, .int .i64 0] : Array Value)[j]? := rl.cell
          have fl : ∀ j, W14.frozen? ⟨w.heap.size + 1 + 1 + 1, j, none⟩ = false := rl.frozen
          have zl : w.heap.size + 1 + 1 + 1 < W14.heap.size := rl.lt
          have ct : ∀ j, W14.cell? ⟨w.heap.size + 1 + 1 + 1 + 1, j, none⟩ = (#[.int .i64 T0, .int .i64 0, .int .i64 0] : Array Value)[j]? := rt.cell
          have ft : ∀ j, W14.frozen? ⟨w.heap.size + 1 + 1 + 1 + 1, j, none⟩ = false := rt.frozen
          have zt : w.heap.size + 1 + 1 + 1 + 1 < W14.heap.size := rt.lt
          refine region_below 14 (by kernel_rfl) (by kernel_rfl) ?_
          simp only [List.take_succ_cons, List.take_zero, List.drop_succ_cons, List.drop_zero]
          repeat (first | (refine' InText.skip (by rfl) ?_; simp only [Act.put, List.setIfInBounds_toArray, List.set_cons_zero, List.set_cons_succ]) | (refine' InText.val (by rfl) (fun wr hr => ?_) ?_; rotate_left 1; (focus (obtain ⟨hrc, hrf⟩ := bcell hr; (go_simp <;> with_reducible rfl); done)); simp only [Act.put, List.setIfInBounds_toArray, List.set_cons_zero, List.set_cons_succ]))
          refine fun wra hra => ?_
          obtain ⟨hrca, hrfa⟩ := bcell hra
          clear cb fb zb cr fr zr cq fq zq cl fl zl ct ft zt
          replace rb := rb.keep hra
          replace rr := rr.keep hra
          replace rq := rq.keep hra
          replace rl := rl.keep hra
          replace rt := rt.keep hra
          replace kw := kw.trans (hra.mono kw.size)
          have cb : ∀ j, wra.cell? ⟨w.heap.size, j, none⟩ = (#[.int .i64 x, .int .i64 y, .int .i64 z, .int .i64 (x'), .int .i64 (y'), .int .i64 (z')] : Array Value)[j]? := rb.cell
          have fb : ∀ j, wra.frozen? ⟨w.heap.size, j, none⟩ = false := rb.frozen
          have zb : w.heap.size < wra.heap.size := rb.lt
          have cr : ∀ j, wra.cell? ⟨w.heap.size + 1, j, none⟩ = (#[.int .i64 0, .int .i64 0, .int .i64 0] : Array Value)[j]? := rr.cell
          have fr : ∀ j, wra.frozen? ⟨w.heap.size + 1, j, none⟩ = false := rr.frozen
          have zr : w.heap.size + 1 < wra.heap.size := rr.lt
          have cq : ∀ j, wra.cell? ⟨w.heap.size + 1 + 1, j, none⟩ = (#[.int .i64 0, .int .i64 0, .int .i64 0] : Array Value)[j]? := rq.cell
          have fq : ∀ j, wra.frozen? ⟨w.heap.size + 1 + 1, j, none⟩ = false := rq.frozen
          have zq : w.heap.size + 1 + 1 < wra.heap.size := rq.lt
          have cl : ∀ j, wra.cell? ⟨w.heap.size + 1 + 1 + 1, j, none⟩ = (#[.int .i64 L0, .int .i64 0, .int .i64 0] : Array Value)[j]? := rl.cell
          have fl : ∀ j, wra.frozen? ⟨w.heap.size + 1 + 1 + 1, j, none⟩ = false := rl.frozen
          have zl : w.heap.size + 1 + 1 + 1 < wra.heap.size := rl.lt
          have ct : ∀ j, wra.cell? ⟨w.heap.size + 1 + 1 + 1 + 1, j, none⟩ = (#[.int .i64 T0, .int .i64 0, .int .i64 0] : Array Value)[j]? := rt.cell
          have ft : ∀ j, wra.frozen? ⟨w.heap.size + 1 + 1 + 1 + 1, j, none⟩ = false := rt.frozen
          have zt : w.heap.size + 1 + 1 + 1 + 1 < wra.heap.size := rt.lt
          clear hra hrca hrfa
          go_wp2_with fail
          refine bodyPost_ret (v := spanR L0 L1 L2 M0 M1 M2) (by unfold spanR; rw [if_neg (fun h => absurd h.1 (by omega))]; simp [results, Try.results37, go_sem, *]; done) rfl ⟨rfl, ?_⟩
          (repeat (first | with_reducible assumption | with_reducible exact Below.refl _ _ | with_reducible refine Below.drew ?_ | with_reducible refine below_drewN ?_ _ | with_reducible refine al ?_ _ | (with_reducible refine sc ?_ ?_; (focus (first | omega | (simp; done) | (simp; omega)))) | (with_reducible refine chain ?_ (by assumption))))
      · replace rl : RowAt wr (w.heap.size + 1 + 1 + 1) #[.int .i64 L0, .int .i64 0, .int .i64 0] 64 := rl
        replace rt : RowAt wr (w.heap.size + 1 + 1 + 1 + 1) #[.int .i64 M0, .int .i64 0, .int .i64 0] 64 := rt
        rcases S1.out with ⟨i0, i1, i2, i3, i4⟩ | ⟨i0, i1, i3, i4⟩ | ⟨i0, i1, i3, i4, i5⟩ | ⟨i0, i1, i2, i4, i5⟩
        · clear S0 S1 S2
          have cb : ∀ j, wr.cell? ⟨w.heap.size, j, none⟩ = (#[.int .i64 x, .int .i64 y, .int .i64 z, .int .i64 (x'), .int .i64 (y'), .int .i64 (z')] : Array Value)[j]? := rb.cell
          have fb : ∀ j, wr.frozen? ⟨w.heap.size, j, none⟩ = false := rb.frozen
          have zb : w.heap.size < wr.heap.size := rb.lt
          have cr : ∀ j, wr.cell? ⟨w.heap.size + 1, j, none⟩ = (#[.int .i64 0, .int .i64 0, .int .i64 0] : Array Value)[j]? := rr.cell
          have fr : ∀ j, wr.frozen? ⟨w.heap.size + 1, j, none⟩ = false := rr.frozen
          have zr : w.heap.size + 1 < wr.heap.size := rr.lt
          have cq : ∀ j, wr.cell? ⟨w.heap.size + 1 + 1, j, none⟩ = (#[.int .i64 0, .int .i64 0, .int .i64 0] : Array Value)[j]? := rq.cell
          have fq : ∀ j, wr.frozen? ⟨w.heap.size + 1 + 1, j, none⟩ = false := rq.frozen
          have zq : w.heap.size + 1 + 1 < wr.heap.size := rq.lt
          have cl : ∀ j, wr.cell? ⟨w.heap.size + 1 + 1 + 1, j, none⟩ = (#[.int .i64 L0, .int .i64 0, .int .i64 0] : Array Value)[j]? := rl.cell
          have fl : ∀ j, wr.frozen? ⟨w.heap.size + 1 + 1 + 1, j, none⟩ = false := rl.frozen
          have zl : w.heap.size + 1 + 1 + 1 < wr.heap.size := rl.lt
          have ct : ∀ j, wr.cell? ⟨w.heap.size + 1 + 1 + 1 + 1, j, none⟩ = (#[.int .i64 M0, .int .i64 0, .int .i64 0] : Array Value)[j]? := rt.cell
          have ft : ∀ j, wr.frozen? ⟨w.heap.size + 1 + 1 + 1 + 1, j, none⟩ = false := rt.frozen
          have zt : w.heap.size + 1 + 1 + 1 + 1 < wr.heap.size := rt.lt
          go_wp2_with fail
          (refine (A1.out _).mono ?_; rintro e W11 ⟨rfl, hW11⟩)
          clear cb fb zb cr fr zr cq fq zq cl fl zl ct ft zt
          replace rb := rb.keep hW11
          replace rr := rr.keep hW11
          replace rq := rq.keep hW11
          replace rl := rl.keep hW11
          replace rt := rt.keep hW11
          replace kw := kw.trans (hW11.mono kw.size)
          have cb : ∀ j, W11.cell? ⟨w.heap.size, j, none⟩ = (#[.int .i64 x, .int .i64 y, .int .i64 z, .int .i64 (x'), .int .i64 (y'), .int .i64 (z')] : Array Value)[j]? := rb.cell
          have fb : ∀ j, W11.frozen? ⟨w.heap.size, j, none⟩ = false := rb.frozen
          have zb : w.heap.size < W11.heap.size := rb.lt
          have cr : ∀ j, W11.cell? ⟨w.heap.size + 1, j, none⟩ = (#[.int .i64 0, .int .i64 0, .int .i64 0] : Array Value)[j]? := rr.cell
          have fr : ∀ j, W11.frozen? ⟨w.heap.size + 1, j, none⟩ = false := rr.frozen
          have zr : w.heap.size + 1 < W11.heap.size := rr.lt
          have cq : ∀ j, W11.cell? ⟨w.heap.size + 1 + 1, j, none⟩ = (#[.int .i64 0, .int .i64 0, .int .i64 0] : Array Value)[j]? := rq.cell
          have fq : ∀ j, W11.frozen? ⟨w.heap.size + 1 + 1, j, none⟩ = false := rq.frozen
          have zq : w.heap.size + 1 + 1 < W11.heap.size := rq.lt
          have cl : ∀ j, W11.cell? ⟨w.heap.size + 1 + 1 + 1, j, none⟩ = (#[.int .i64 L0, .int .i64 0, .int .i64 0] : Array Value)[j]? := rl.cell
          have fl : ∀ j, W11.frozen? ⟨w.heap.size + 1 + 1 + 1, j, none⟩ = false := rl.frozen
          have zl : w.heap.size + 1 + 1 + 1 < W11.heap.size := rl.lt
          have ct : ∀ j, W11.cell? ⟨w.heap.size + 1 + 1 + 1 + 1, j, none⟩ = (#[.int .i64 M0, .int .i64 0, .int .i64 0] : Array Value)[j]? := rt.cell
          have ft : ∀ j, W11.frozen? ⟨w.heap.size + 1 + 1 + 1 + 1, j, none⟩ = false := rt.frozen
          have zt : w.heap.size + 1 + 1 + 1 + 1 < W11.heap.size := rt.lt
          clear hW11
          go_wp2_with fail
          (refine (E1.out _).mono ?_; rintro e W12 ⟨rfl, hW12⟩)
          clear cb fb zb cr fr zr cq fq zq cl fl zl ct ft zt
          replace rb := rb.keep hW12
          replace rr := rr.keep hW12
          replace rq := rq.keep hW12
          replace rl := rl.keep hW12
          replace rt := rt.keep hW12
          replace kw := kw.trans (hW12.mono kw.size)
          have cb : ∀ j, W12.cell? ⟨w.heap.size, j, none⟩ = (#[.int .i64 x, .int .i64 y, .int .i64 z, .int .i64 (x'), .int .i64 (y'), .int .i64 (z')] : Array Value)[j]? := rb.cell
          have fb : ∀ j, W12.frozen? ⟨w.heap.size, j, none⟩ = false := rb.frozen
          have zb : w.heap.size < W12.heap.size := rb.lt
          have cr : ∀ j, W12.cell? ⟨w.heap.size + 1, j, none⟩ = (#[.int .i64 0, .int .i64 0, .int .i64 0] : Array Value)[j]? := rr.cell
          have fr : ∀ j, W12.frozen? ⟨w.heap.size + 1, j, none⟩ = false := rr.frozen
          have zr : w.heap.size + 1 < W12.heap.size := rr.lt
          have cq : ∀ j, W12.cell? ⟨w.heap.size + 1 + 1, j, none⟩ = (#[.int .i64 0, .int .i64 0, .int .i64 0] : Array Value)[j]? := rq.cell
          have fq : ∀ j, W12.frozen? ⟨w.heap.size + 1 + 1, j, none⟩ = false := rq.frozen
          have zq : w.heap.size + 1 + 1 < W12.heap.size := rq.lt
          have cl : ∀ j, W12.cell? ⟨w.heap.size + 1 + 1 + 1, j, none⟩ = (#[.int .i64 L0, .int .i64 0, .int .i64 0] : Array Value)[j]? := rl.cell
          have fl : ∀ j, W12.frozen? ⟨w.heap.size + 1 + 1 + 1, j, none⟩ = false := rl.frozen
          have zl : w.heap.size + 1 + 1 + 1 < W12.heap.size := rl.lt
          have ct : ∀ j, W12.cell? ⟨w.heap.size + 1 + 1 + 1 + 1, j, none⟩ = (#[.int .i64 M0, .int .i64 0, .int .i64 0] : Array Value)[j]? := rt.cell
          have ft : ∀ j, W12.frozen? ⟨w.heap.size + 1 + 1 + 1 + 1, j, none⟩ = false := rt.frozen
          have zt : w.heap.size + 1 + 1 + 1 + 1 < W12.heap.size := rt.lt
          clear hW12
          go_wp2_with (go_at_call 46; refine (FL1.out _).mono ?_; rintro e w' ⟨rfl, rfl⟩)
          replace kw : Below w.heap.size w (W12.setCell ⟨w.heap.size + 1 + 1 + 1, 1, none⟩ (.int .i64 L1)) := by (repeat (first | with_reducible assumption | with_reducible exact Below.refl _ _ | with_reducible refine Below.drew ?_ | with_reducible refine below_drewN ?_ _ | with_reducible refine al ?_ _ | (with_reducible refine sc ?_ ?_; (focus (first | omega | (simp; done) | (simp; omega)))) | (with_reducible refine chain ?_ (by assumption))))
          replace rb : RowAt (W12.setCell ⟨w.heap.size + 1 + 1 + 1, 1, none⟩ (.int .i64 L1)) (w.heap.size) #[.int .i64 x, .int .i64 y, .int .i64 z, .int .i64 (x'), .int .i64 (y'), .int .i64 (z')] 31 := (rb.other (p := ⟨w.heap.size + 1 + 1 + 1, 1, none⟩) (by first | omega | (simp; done) | (simp; omega)) (.int .i64 L1))
          replace rr : RowAt (W12.setCell ⟨w.heap.size + 1 + 1 + 1, 1, none⟩ (.int .i64 L1)) (w.heap.size + 1) #[.int .i64 0, .int .i64 0, .int .i64 0] 28 := (rr.other (p := ⟨w.heap.size + 1 + 1 + 1, 1, none⟩) (by first | omega | (simp; done) | (simp; omega)) (.int .i64 L1))
          replace rq : RowAt (W12.setCell ⟨w.heap.size + 1 + 1 + 1, 1, none⟩ (.int .i64 L1)) (w.heap.size + 1 + 1) #[.int .i64 0, .int .i64 0, .int .i64 0] 28 := (rq.other (p := ⟨w.heap.size + 1 + 1 + 1, 1, none⟩) (by first | omega | (simp; done) | (simp; omega)) (.int .i64 L1))
          replace rl : RowAt (W12.setCell ⟨w.heap.size + 1 + 1 + 1, 1, none⟩ (.int .i64 L1)) (w.heap.size + 1 + 1 + 1) #[.int .i64 L0, .int .i64 L1, .int .i64 0] 64 := (rl.set 1 (.int .i64 L1))
          replace rt : RowAt (W12.setCell ⟨w.heap.size + 1 + 1 + 1, 1, none⟩ (.int .i64 L1)) (w.heap.size + 1 + 1 + 1 + 1) #[.int .i64 M0, .int .i64 0, .int .i64 0] 64 := (rt.other (p := ⟨w.heap.size + 1 + 1 + 1, 1, none⟩) (by first | omega | (simp; done) | (simp; omega)) (.int .i64 L1))
          clear cb fb zb cr fr zr cq fq zq cl fl zl ct ft zt
          generalize (W12.setCell ⟨w.heap.size + 1 + 1 + 1, 1, none⟩ (.int .i64 L1)) = W13 at *
          have cb : ∀ j, W13.cell? ⟨w.heap.size, j, none⟩ = (#[.int .i64 x, .int .i64 y, .int .i64 z, .int .i64 (x'), .int .i64 (y'), .int .i64 (z')] : Array Value)[j]? := rb.cell
          have fb : ∀ j, W13.frozen? ⟨w.heap.size, j, none⟩ = false := rb.frozen
          have zb : w.heap.size < W13.heap.size := rb.lt
          have cr : ∀ j, W13.cell? ⟨w.heap.size + 1, j, none⟩ = (#[.int .i64 0, .int .i64 0, .int .i64 0] : Array Value)[j]? := rr.cell
          have fr : ∀ j, W13.frozen? ⟨w.heap.size + 1, j, none⟩ = false := rr.frozen
          have zr : w.heap.size + 1 < W13.heap.size := rr.lt
          have cq : ∀ j, W13.cell? ⟨w.heap.size + 1 + 1, j, none⟩ = (#[.int .i64 0, .int .i64 0, .int .i64 0] : Array Value)[j]? := rq.cell
          have fq : ∀ j, W13.frozen? ⟨w.heap.size + 1 + 1, j, none⟩ = false := rq.frozen
          have zq : w.heap.size + 1 + 1 < W13.heap.size := rq.lt
          have cl : ∀ j, W13.cell? ⟨w.heap.size + 1 + 1 + 1, j, none⟩ = (#[.int .i64 L0, .int .i64 L1, .int .i64 0] : Array Value)[j]? := rl.cell
          have fl : ∀ j, W13.frozen? ⟨w.heap.size + 1 + 1 + 1, j, none⟩ = false := rl.frozen
          have zl : w.heap.size + 1 + 1 + 1 < W13.heap.size := rl.lt
          have ct : ∀ j, W13.cell? ⟨w.heap.size + 1 + 1 + 1 + 1, j, none⟩ = (#[.int .i64 M0, .int .i64 0, .int .i64 0] : Array Value)[j]? := rt.cell
          have ft : ∀ j, W13.frozen? ⟨w.heap.size + 1 + 1 + 1 + 1, j, none⟩ = false := rt.frozen
          have zt : w.heap.size + 1 + 1 + 1 + 1 < W13.heap.size := rt.lt
          go_wp2_with (go_at_call 46; refine (FT1.out _).mono ?_; rintro e w' ⟨rfl, rfl⟩)
          replace kw : Below w.heap.size w (W13.setCell ⟨w.heap.size + 1 + 1 + 1 + 1, 1, none⟩ (.int .i64 T1)) := by (repeat (first | with_reducible assumption | with_reducible exact Below.refl _ _ | with_reducible refine Below.drew ?_ | with_reducible refine below_drewN ?_ _ | with_reducible refine al ?_ _ | (with_reducible refine sc ?_ ?_; (focus (first | omega | (simp; done) | (simp; omega)))) | (with_reducible refine chain ?_ (by assumption))))
          replace rb : RowAt (W13.setCell ⟨w.heap.size + 1 + 1 + 1 + 1, 1, none⟩ (.int .i64 T1)) (w.heap.size) #[.int .i64 x, .int .i64 y, .int .i64 z, .int .i64 (x'), .int .i64 (y'), .int .i64 (z')] 31 := (rb.other (p := ⟨w.heap.size + 1 + 1 + 1 + 1, 1, none⟩) (by first | omega | (simp; done) | (simp; omega)) (.int .i64 T1))
          replace rr : RowAt (W13.setCell ⟨w.heap.size + 1 + 1 + 1 + 1, 1, none⟩ (.int .i64 T1)) (w.heap.size + 1) #[.int .i64 0, .int .i64 0, .int .i64 0] 28 := (rr.other (p := ⟨w.heap.size + 1 + 1 + 1 + 1, 1, none⟩) (by first | omega | (simp; done) | (simp; omega)) (.int .i64 T1))
          replace rq : RowAt (W13.setCell ⟨w.heap.size + 1 + 1 + 1 + 1, 1, none⟩ (.int .i64 T1)) (w.heap.size + 1 + 1) #[.int .i64 0, .int .i64 0, .int .i64 0] 28 := (rq.other (p := ⟨w.heap.size + 1 + 1 + 1 + 1, 1, none⟩) (by first | omega | (simp; done) | (simp; omega)) (.int .i64 T1))
          replace rl : RowAt (W13.setCell ⟨w.heap.size + 1 + 1 + 1 + 1, 1, none⟩ (.int .i64 T1)) (w.heap.size + 1 + 1 + 1) #[.int .i64 L0, .int .i64 L1, .int .i64 0] 64 := (rl.other (p := ⟨w.heap.size + 1 + 1 + 1 + 1, 1, none⟩) (by first | omega | (simp; done) | (simp; omega)) (.int .i64 T1))
          replace rt : RowAt (W13.setCell ⟨w.heap.size + 1 + 1 + 1 + 1, 1, none⟩ (.int .i64 T1)) (w.heap.size + 1 + 1 + 1 + 1) #[.int .i64 M0, .int .i64 T1, .int .i64 0] 64 := (rt.set 1 (.int .i64 T1))
          clear cb fb zb cr fr zr cq fq zq cl fl zl ct ft zt
          generalize (W13.setCell ⟨w.heap.size + 1 + 1 + 1 + 1, 1, none⟩ (.int .i64 T1)) = W14 at *
          have cb : ∀ j, W14.cell? ⟨w.heap.size, j, none⟩ = (#[.int .i64 x, .int .i64 y, .int .i64 z, .int .i64 (x'), .int .i64 (y'), .int .i64 (z')] : Array Value)[j]? := rb.cell
          have fb : ∀ j, W14.frozen? ⟨w.heap.size, j, none⟩ = false := rb.frozen
          have zb : w.heap.size < W14.heap.size := rb.lt
          have cr : ∀ j, W14.cell? ⟨w.heap.size + 1, j, none⟩ = (#[.int .i64 0, .int .i64 0, .int .i64 0] : Array Value)[j]? := rr.cell
          have fr : ∀ j, W14.frozen? ⟨w.heap.size + 1, j, none⟩ = false := rr.frozen
          have zr : w.heap.size + 1 < W14.heap.size := rr.lt
          have cq : ∀ j, W14.cell? ⟨w.heap.size + 1 + 1, j, none⟩ = (#[.int .i64 0, .int .i64 0, .int .i64 0] : Array Value)[j]? := rq.cell
          have fq : ∀ j, W14.frozen? ⟨w.heap.size + 1 + 1, j, none⟩ = false := rq.frozen
          have zq : w.heap.size + 1 + 1 < W14.heap.size := rq.lt
          have cl : ∀ j, W14.cell? ⟨w.heap.size + 1 + 1 + 1, j, none⟩ = (#[.int .i64 L0, .int .i64 L1, .int .i64 0] : Array Value)[j]? := rl.cell
          have fl : ∀ j, W14.frozen? ⟨w.heap.size + 1 + 1 + 1, j, none⟩ = false := rl.frozen
          have zl : w.heap.size + 1 + 1 + 1 < W14.heap.size := rl.lt
          have ct : ∀ j, W14.cell? ⟨w.heap.size + 1 + 1 + 1 + 1, j, none⟩ = (#[.int .i64 M0, .int .i64 T1, .int .i64 0] : Array Value)[j]? := rt.cell
          have ft : ∀ j, W14.frozen? ⟨w.heap.size + 1 + 1 + 1 + 1, j, none⟩ = false := rt.frozen
          have zt : w.heap.size + 1 + 1 + 1 + 1 < W14.heap.size := rt.lt
          refine region_below 14 (by kernel_rfl) (by kernel_rfl) ?_
          simp only [List.take_succ_cons, List.take_zero, List.drop_succ_cons, List.drop_zero]
          repeat (first | (refine' InText.skip (by rfl) ?_; simp only [Act.put, List.setIfInBounds_toArray, List.set_cons_zero, List.set_cons_succ]) | (refine' InText.val (by rfl) (fun wr hr => ?_) ?_; rotate_left 1; (focus (obtain ⟨hrc, hrf⟩ := bcell hr; (go_simp <;> with_reducible rfl); done)); simp only [Act.put, List.setIfInBounds_toArray, List.set_cons_zero, List.set_cons_succ]))
          refine fun wra hra => ?_
          obtain ⟨hrca, hrfa⟩ := bcell hra
          clear cb fb zb cr fr zr cq fq zq cl fl zl ct ft zt
          replace rb := rb.keep hra
          replace rr := rr.keep hra
          replace rq := rq.keep hra
          replace rl := rl.keep hra
          replace rt := rt.keep hra
          replace kw := kw.trans (hra.mono kw.size)
          have cb : ∀ j, wra.cell? ⟨w.heap.size, j, none⟩ = (#[.int .i64 x, .int .i64 y, .int .i64 z, .int .i64 (x'), .int .i64 (y'), .int .i64 (z')] : Array Value)[j]? := rb.cell
          have fb : ∀ j, wra.frozen? ⟨w.heap.size, j, none⟩ = false := rb.frozen
          have zb : w.heap.size < wra.heap.size := rb.lt
          have cr : ∀ j, wra.cell? ⟨w.heap.size + 1, j, none⟩ = (#[.int .i64 0, .int .i64 0, .int .i64 0] : Array Value)[j]? := rr.cell
          have fr : ∀ j, wra.frozen? ⟨w.heap.size + 1, j, none⟩ = false := rr.frozen
          have zr : w.heap.size + 1 < wra.heap.size := rr.lt
          have cq : ∀ j, wra.cell? ⟨w.heap.size + 1 + 1, j, none⟩ = (#[.int .i64 0, .int .i64 0, .int .i64 0] : Array Value)[j]? := rq.cell
          have fq : ∀ j, wra.frozen? ⟨w.heap.size + 1 + 1, j, none⟩ = false := rq.frozen
          have zq : w.heap.size + 1 + 1 < wra.heap.size := rq.lt
          have cl : ∀ j, wra.cell? ⟨w.heap.size + 1 + 1 + 1, j, none⟩ = (#[.int .i64 L0, .int .i64 L1, .int .i64 0] : Array Value)[j]? := rl.cell
          have fl : ∀ j, wra.frozen? ⟨w.heap.size + 1 + 1 + 1, j, none⟩ = false := rl.frozen
          have zl : w.heap.size + 1 + 1 + 1 < wra.heap.size := rl.lt
          have ct : ∀ j, wra.cell? ⟨w.heap.size + 1 + 1 + 1 + 1, j, none⟩ = (#[.int .i64 M0, .int .i64 T1, .int .i64 0] : Array Value)[j]? := rt.cell
          have ft : ∀ j, wra.frozen? ⟨w.heap.size + 1 + 1 + 1 + 1, j, none⟩ = false := rt.frozen
          have zt : w.heap.size + 1 + 1 + 1 + 1 < wra.heap.size := rt.lt
          clear hra hrca hrfa
          go_wp2_with fail
          replace kw : Below w.heap.size w (wra.setCell ⟨w.heap.size + 1 + 1 + 1 + 1, 1, none⟩ (.int .i64 M1)) := by (repeat (first | with_reducible assumption | with_reducible exact Below.refl _ _ | with_reducible refine Below.drew ?_ | with_reducible refine below_drewN ?_ _ | with_reducible refine al ?_ _ | (with_reducible refine sc ?_ ?_; (focus (first | omega | (simp; done) | (simp; omega)))) | (with_reducible refine chain ?_ (by assumption))))
          replace rb : RowAt (wra.setCell ⟨w.heap.size + 1 + 1 + 1 + 1, 1, none⟩ (.int .i64 M1)) (w.heap.size) #[.int .i64 x, .int .i64 y, .int .i64 z, .int .i64 (x'), .int .i64 (y'), .int .i64 (z')] 31 := (rb.other (p := ⟨w.heap.size + 1 + 1 + 1 + 1, 1, none⟩) (by first | omega | (simp; done) | (simp; omega)) (.int .i64 M1))
          replace rr : RowAt (wra.setCell ⟨w.heap.size + 1 + 1 + 1 + 1, 1, none⟩ (.int .i64 M1)) (w.heap.size + 1) #[.int .i64 0, .int .i64 0, .int .i64 0] 28 := (rr.other (p := ⟨w.heap.size + 1 + 1 + 1 + 1, 1, none⟩) (by first | omega | (simp; done) | (simp; omega)) (.int .i64 M1))
          replace rq : RowAt (wra.setCell ⟨w.heap.size + 1 + 1 + 1 + 1, 1, none⟩ (.int .i64 M1)) (w.heap.size + 1 + 1) #[.int .i64 0, .int .i64 0, .int .i64 0] 28 := (rq.other (p := ⟨w.heap.size + 1 + 1 + 1 + 1, 1, none⟩) (by first | omega | (simp; done) | (simp; omega)) (.int .i64 M1))
          replace rl : RowAt (wra.setCell ⟨w.heap.size + 1 + 1 + 1 + 1, 1, none⟩ (.int .i64 M1)) (w.heap.size + 1 + 1 + 1) #[.int .i64 L0, .int .i64 L1, .int .i64 0] 64 := (rl.other (p := ⟨w.heap.size + 1 + 1 + 1 + 1, 1, none⟩) (by first | omega | (simp; done) | (simp; omega)) (.int .i64 M1))
          replace rt : RowAt (wra.setCell ⟨w.heap.size + 1 + 1 + 1 + 1, 1, none⟩ (.int .i64 M1)) (w.heap.size + 1 + 1 + 1 + 1) #[.int .i64 M0, .int .i64 M1, .int .i64 0] 64 := (rt.set 1 (.int .i64 M1))
          clear cb fb zb cr fr zr cq fq zq cl fl zl ct ft zt
          generalize (wra.setCell ⟨w.heap.size + 1 + 1 + 1 + 1, 1, none⟩ (.int .i64 M1)) = W15 at *
          have cb : ∀ j, W15.cell? ⟨w.heap.size, j, none⟩ = (#[.int .i64 x, .int .i64 y, .int .i64 z, .int .i64 (x'), .int .i64 (y'), .int .i64 (z')] : Array Value)[j]? := rb.cell
          have fb : ∀ j, W15.frozen? ⟨w.heap.size, j, none⟩ = false := rb.frozen
          have zb : w.heap.size < W15.heap.size := rb.lt
          have cr : ∀ j, W15.cell? ⟨w.heap.size + 1, j, none⟩ = (#[.int .i64 0, .int .i64 0, .int .i64 0] : Array Value)[j]? := rr.cell
          have fr : ∀ j, W15.frozen? ⟨w.heap.size + 1, j, none⟩ = false := rr.frozen
          have zr : w.heap.size + 1 < W15.heap.size := rr.lt
          have cq : ∀ j, W15.cell? ⟨w.heap.size + 1 + 1, j, none⟩ = (#[.int .i64 0, .int .i64 0, .int .i64 0] : Array Value)[j]? := rq.cell
          have fq : ∀ j, W15.frozen? ⟨w.heap.size + 1 + 1, j, none⟩ = false := rq.frozen
          have zq : w.heap.size + 1 + 1 < W15.heap.size := rq.lt
          have cl : ∀ j, W15.cell? ⟨w.heap.size + 1 + 1 + 1, j, none⟩ = (#[.int .i64 L0, .int .i64 L1, .int .i64 0] : Array Value)[j]? := rl.cell
          have fl : ∀ j, W15.frozen? ⟨w.heap.size + 1 + 1 + 1, j, none⟩ = false := rl.frozen
          have zl : w.heap.size + 1 + 1 + 1 < W15.heap.size := rl.lt
          have ct : ∀ j, W15.cell? ⟨w.heap.size + 1 + 1 + 1 + 1, j, none⟩ = (#[.int .i64 M0, .int .i64 M1, .int .i64 0] : Array Value)[j]? := rt.cell
          have ft : ∀ j, W15.frozen? ⟨w.heap.size + 1 + 1 + 1 + 1, j, none⟩ = false := rt.frozen
          have zt : w.heap.size + 1 + 1 + 1 + 1 < W15.heap.size := rt.lt
          go_wp2_with fail
          go_roundw
          case rel =>
            exact ⟨2, by omega, by go_num, ⟨fun h => hok.1 (by omega), fun _ => i0, fun h => absurd h (by omega)⟩, by (repeat (first | with_reducible assumption | with_reducible exact Below.refl _ _ | with_reducible refine Below.drew ?_ | with_reducible refine below_drewN ?_ _ | with_reducible refine al ?_ _ | (with_reducible refine sc ?_ ?_; (focus (first | omega | (simp; done) | (simp; omega)))) | (with_reducible refine chain ?_ (by assumption)))), rb, rr, rq, rl, rt⟩
          case measure => simp [intOf]
        · clear S0 S1 S2
          subst i3
          have cb : ∀ j, wr.cell? ⟨w.heap.size, j, none⟩ = (#[.int .i64 x, .int .i64 y, .int .i64 z, .int .i64 (x'), .int .i64 (y'), .int .i64 (z')] : Array Value)[j]? := rb.cell
          have fb : ∀ j, wr.frozen? ⟨w.heap.size, j, none⟩ = false := rb.frozen
          have zb : w.heap.size < wr.heap.size := rb.lt
          have cr : ∀ j, wr.cell? ⟨w.heap.size + 1, j, none⟩ = (#[.int .i64 0, .int .i64 0, .int .i64 0] : Array Value)[j]? := rr.cell
          have fr : ∀ j, wr.frozen? ⟨w.heap.size + 1, j, none⟩ = false := rr.frozen
          have zr : w.heap.size + 1 < wr.heap.size := rr.lt
          have cq : ∀ j, wr.cell? ⟨w.heap.size + 1 + 1, j, none⟩ = (#[.int .i64 0, .int .i64 0, .int .i64 0] : Array Value)[j]? := rq.cell
          have fq : ∀ j, wr.frozen? ⟨w.heap.size + 1 + 1, j, none⟩ = false := rq.frozen
          have zq : w.heap.size + 1 + 1 < wr.heap.size := rq.lt
          have cl : ∀ j, wr.cell? ⟨w.heap.size + 1 + 1 + 1, j, none⟩ = (#[.int .i64 L0, .int .i64 0, .int .i64 0] : Array Value)[j]? := rl.cell
          have fl : ∀ j, wr.frozen? ⟨w.heap.size + 1 + 1 + 1, j, none⟩ = false := rl.frozen
          have zl : w.heap.size + 1 + 1 + 1 < wr.heap.size := rl.lt
          have ct : ∀ j, wr.cell? ⟨w.heap.size + 1 + 1 + 1 + 1, j, none⟩ = (#[.int .i64 M0, .int .i64 0, .int .i64 0] : Array Value)[j]? := rt.cell
          have ft : ∀ j, wr.frozen? ⟨w.heap.size + 1 + 1 + 1 + 1, j, none⟩ = false := rt.frozen
          have zt : w.heap.size + 1 + 1 + 1 + 1 < wr.heap.size := rt.lt
          go_wp2_with fail
          (refine (A1.out _).mono ?_; rintro e W11 ⟨rfl, hW11⟩)
          clear cb fb zb cr fr zr cq fq zq cl fl zl ct ft zt
          replace rb := rb.keep hW11
          replace rr := rr.keep hW11
          replace rq := rq.keep hW11
          replace rl := rl.keep hW11
          replace rt := rt.keep hW11
          replace kw := kw.trans (hW11.mono kw.size)
          have cb : ∀ j, W11.cell? ⟨w.heap.size, j, none⟩ = (#[.int .i64 x, .int .i64 y, .int .i64 z, .int .i64 (x'), .int .i64 (y'), .int .i64 (z')] : Array Value)[j]? := rb.cell
          have fb : ∀ j, W11.frozen? ⟨w.heap.size, j, none⟩ = false := rb.frozen
          have zb : w.heap.size < W11.heap.size := rb.lt
          have cr : ∀ j, W11.cell? ⟨w.heap.size + 1, j, none⟩ = (#[.int .i64 0, .int .i64 0, .int .i64 0] : Array Value)[j]? := rr.cell
          have fr : ∀ j, W11.frozen? ⟨w.heap.size + 1, j, none⟩ = false := rr.frozen
          have zr : w.heap.size + 1 < W11.heap.size := rr.lt
          have cq : ∀ j, W11.cell? ⟨w.heap.size + 1 + 1, j, none⟩ = (#[.int .i64 0, .int .i64 0, .int .i64 0] : Array Value)[j]? := rq.cell
          have fq : ∀ j, W11.frozen? ⟨w.heap.size + 1 + 1, j, none⟩ = false := rq.frozen
          have zq : w.heap.size + 1 + 1 < W11.heap.size := rq.lt
          have cl : ∀ j, W11.cell? ⟨w.heap.size + 1 + 1 + 1, j, none⟩ = (#[.int .i64 L0, .int .i64 0, .int .i64 0] : Array Value)[j]? := rl.cell
          have fl : ∀ j, W11.frozen? ⟨w.heap.size + 1 + 1 + 1, j, none⟩ = false := rl.frozen
          have zl : w.heap.size + 1 + 1 + 1 < W11.heap.size := rl.lt
          have ct : ∀ j, W11.cell? ⟨w.heap.size + 1 + 1 + 1 + 1, j, none⟩ = (#[.int .i64 M0, .int .i64 0, .int .i64 0] : Array Value)[j]? := rt.cell
          have ft : ∀ j, W11.frozen? ⟨w.heap.size + 1 + 1 + 1 + 1, j, none⟩ = false := rt.frozen
          have zt : w.heap.size + 1 + 1 + 1 + 1 < W11.heap.size := rt.lt
          clear hW11
          go_wp2_with fail
          (refine (E1.out _).mono ?_; rintro e W12 ⟨rfl, hW12⟩)
          clear cb fb zb cr fr zr cq fq zq cl fl zl ct ft zt
          replace rb := rb.keep hW12
          replace rr := rr.keep hW12
          replace rq := rq.keep hW12
          replace rl := rl.keep hW12
          replace rt := rt.keep hW12
          replace kw := kw.trans (hW12.mono kw.size)
          have cb : ∀ j, W12.cell? ⟨w.heap.size, j, none⟩ = (#[.int .i64 x, .int .i64 y, .int .i64 z, .int .i64 (x'), .int .i64 (y'), .int .i64 (z')] : Array Value)[j]? := rb.cell
          have fb : ∀ j, W12.frozen? ⟨w.heap.size, j, none⟩ = false := rb.frozen
          have zb : w.heap.size < W12.heap.size := rb.lt
          have cr : ∀ j, W12.cell? ⟨w.heap.size + 1, j, none⟩ = (#[.int .i64 0, .int .i64 0, .int .i64 0] : Array Value)[j]? := rr.cell
          have fr : ∀ j, W12.frozen? ⟨w.heap.size + 1, j, none⟩ = false := rr.frozen
          have zr : w.heap.size + 1 < W12.heap.size := rr.lt
          have cq : ∀ j, W12.cell? ⟨w.heap.size + 1 + 1, j, none⟩ = (#[.int .i64 0, .int .i64 0, .int .i64 0] : Array Value)[j]? := rq.cell
          have fq : ∀ j, W12.frozen? ⟨w.heap.size + 1 + 1, j, none⟩ = false := rq.frozen
          have zq : w.heap.size + 1 + 1 < W12.heap.size := rq.lt
          have cl : ∀ j, W12.cell? ⟨w.heap.size + 1 + 1 + 1, j, none⟩ = (#[.int .i64 L0, .int .i64 0, .int .i64 0] : Array Value)[j]? := rl.cell
          have fl : ∀ j, W12.frozen? ⟨w.heap.size + 1 + 1 + 1, j, none⟩ = false := rl.frozen
          have zl : w.heap.size + 1 + 1 + 1 < W12.heap.size := rl.lt
          have ct : ∀ j, W12.cell? ⟨w.heap.size + 1 + 1 + 1 + 1, j, none⟩ = (#[.int .i64 M0, .int .i64 0, .int .i64 0] : Array Value)[j]? := rt.cell
          have ft : ∀ j, W12.frozen? ⟨w.heap.size + 1 + 1 + 1 + 1, j, none⟩ = false := rt.frozen
          have zt : w.heap.size + 1 + 1 + 1 + 1 < W12.heap.size := rt.lt
          clear hW12
          go_wp2_with (go_at_call 46; refine (FL1.out _).mono ?_; rintro e w' ⟨rfl, rfl⟩)
          replace kw : Below w.heap.size w (W12.setCell ⟨w.heap.size + 1 + 1 + 1, 1, none⟩ (.int .i64 L1)) := by (repeat (first | with_reducible assumption | with_reducible exact Below.refl _ _ | with_reducible refine Below.drew ?_ | with_reducible refine below_drewN ?_ _ | with_reducible refine al ?_ _ | (with_reducible refine sc ?_ ?_; (focus (first | omega | (simp; done) | (simp; omega)))) | (with_reducible refine chain ?_ (by assumption))))
          replace rb : RowAt (W12.setCell ⟨w.heap.size + 1 + 1 + 1, 1, none⟩ (.int .i64 L1)) (w.heap.size) #[.int .i64 x, .int .i64 y, .int .i64 z, .int .i64 (x'), .int .i64 (y'), .int .i64 (z')] 31 := (rb.other (p := ⟨w.heap.size + 1 + 1 + 1, 1, none⟩) (by first | omega | (simp; done) | (simp; omega)) (.int .i64 L1))
          replace rr : RowAt (W12.setCell ⟨w.heap.size + 1 + 1 + 1, 1, none⟩ (.int .i64 L1)) (w.heap.size + 1) #[.int .i64 0, .int .i64 0, .int .i64 0] 28 := (rr.other (p := ⟨w.heap.size + 1 + 1 + 1, 1, none⟩) (by first | omega | (simp; done) | (simp; omega)) (.int .i64 L1))
          replace rq : RowAt (W12.setCell ⟨w.heap.size + 1 + 1 + 1, 1, none⟩ (.int .i64 L1)) (w.heap.size + 1 + 1) #[.int .i64 0, .int .i64 0, .int .i64 0] 28 := (rq.other (p := ⟨w.heap.size + 1 + 1 + 1, 1, none⟩) (by first | omega | (simp; done) | (simp; omega)) (.int .i64 L1))
          replace rl : RowAt (W12.setCell ⟨w.heap.size + 1 + 1 + 1, 1, none⟩ (.int .i64 L1)) (w.heap.size + 1 + 1 + 1) #[.int .i64 L0, .int .i64 L1, .int .i64 0] 64 := (rl.set 1 (.int .i64 L1))
          replace rt : RowAt (W12.setCell ⟨w.heap.size + 1 + 1 + 1, 1, none⟩ (.int .i64 L1)) (w.heap.size + 1 + 1 + 1 + 1) #[.int .i64 M0, .int .i64 0, .int .i64 0] 64 := (rt.other (p := ⟨w.heap.size + 1 + 1 + 1, 1, none⟩) (by first | omega | (simp; done) | (simp; omega)) (.int .i64 L1))
          clear cb fb zb cr fr zr cq fq zq cl fl zl ct ft zt
          generalize (W12.setCell ⟨w.heap.size + 1 + 1 + 1, 1, none⟩ (.int .i64 L1)) = W13 at *
          have cb : ∀ j, W13.cell? ⟨w.heap.size, j, none⟩ = (#[.int .i64 x, .int .i64 y, .int .i64 z, .int .i64 (x'), .int .i64 (y'), .int .i64 (z')] : Array Value)[j]? := rb.cell
          have fb : ∀ j, W13.frozen? ⟨w.heap.size, j, none⟩ = false := rb.frozen
          have zb : w.heap.size < W13.heap.size := rb.lt
          have cr : ∀ j, W13.cell? ⟨w.heap.size + 1, j, none⟩ = (#[.int .i64 0, .int .i64 0, .int .i64 0] : Array Value)[j]? := rr.cell
          have fr : ∀ j, W13.frozen? ⟨w.heap.size + 1, j, none⟩ = false := rr.frozen
          have zr : w.heap.size + 1 < W13.heap.size := rr.lt
          have cq : ∀ j, W13.cell? ⟨w.heap.size + 1 + 1, j, none⟩ = (#[.int .i64 0, .int .i64 0, .int .i64 0] : Array Value)[j]? := rq.cell
          have fq : ∀ j, W13.frozen? ⟨w.heap.size + 1 + 1, j, none⟩ = false := rq.frozen
          have zq : w.heap.size + 1 + 1 < W13.heap.size := rq.lt
          have cl : ∀ j, W13.cell? ⟨w.heap.size + 1 + 1 + 1, j, none⟩ = (#[.int .i64 L0, .int .i64 L1, .int .i64 0] : Array Value)[j]? := rl.cell
          have fl : ∀ j, W13.frozen? ⟨w.heap.size + 1 + 1 + 1, j, none⟩ = false := rl.frozen
          have zl : w.heap.size + 1 + 1 + 1 < W13.heap.size := rl.lt
          have ct : ∀ j, W13.cell? ⟨w.heap.size + 1 + 1 + 1 + 1, j, none⟩ = (#[.int .i64 M0, .int .i64 0, .int .i64 0] : Array Value)[j]? := rt.cell
          have ft : ∀ j, W13.frozen? ⟨w.heap.size + 1 + 1 + 1 + 1, j, none⟩ = false := rt.frozen
          have zt : w.heap.size + 1 + 1 + 1 + 1 < W13.heap.size := rt.lt
          go_wp2_with (go_at_call 46; refine (FT1.out _).mono ?_; rintro e w' ⟨rfl, rfl⟩)
          replace kw : Below w.heap.size w (W13.setCell ⟨w.heap.size + 1 + 1 + 1 + 1, 1, none⟩ (.int .i64 T1)) := by (repeat (first | with_reducible assumption | with_reducible exact Below.refl _ _ | with_reducible refine Below.drew ?_ | with_reducible refine below_drewN ?_ _ | with_reducible refine al ?_ _ | (with_reducible refine sc ?_ ?_; (focus (first | omega | (simp; done) | (simp; omega)))) | (with_reducible refine chain ?_ (by assumption))))
          replace rb : RowAt (W13.setCell ⟨w.heap.size + 1 + 1 + 1 + 1, 1, none⟩ (.int .i64 T1)) (w.heap.size) #[.int .i64 x, .int .i64 y, .int .i64 z, .int .i64 (x'), .int .i64 (y'), .int .i64 (z')] 31 := (rb.other (p := ⟨w.heap.size + 1 + 1 + 1 + 1, 1, none⟩) (by first | omega | (simp; done) | (simp; omega)) (.int .i64 T1))
          replace rr : RowAt (W13.setCell ⟨w.heap.size + 1 + 1 + 1 + 1, 1, none⟩ (.int .i64 T1)) (w.heap.size + 1) #[.int .i64 0, .int .i64 0, .int .i64 0] 28 := (rr.other (p := ⟨w.heap.size + 1 + 1 + 1 + 1, 1, none⟩) (by first | omega | (simp; done) | (simp; omega)) (.int .i64 T1))
          replace rq : RowAt (W13.setCell ⟨w.heap.size + 1 + 1 + 1 + 1, 1, none⟩ (.int .i64 T1)) (w.heap.size + 1 + 1) #[.int .i64 0, .int .i64 0, .int .i64 0] 28 := (rq.other (p := ⟨w.heap.size + 1 + 1 + 1 + 1, 1, none⟩) (by first | omega | (simp; done) | (simp; omega)) (.int .i64 T1))
          replace rl : RowAt (W13.setCell ⟨w.heap.size + 1 + 1 + 1 + 1, 1, none⟩ (.int .i64 T1)) (w.heap.size + 1 + 1 + 1) #[.int .i64 L0, .int .i64 L1, .int .i64 0] 64 := (rl.other (p := ⟨w.heap.size + 1 + 1 + 1 + 1, 1, none⟩) (by first | omega | (simp; done) | (simp; omega)) (.int .i64 T1))
          replace rt : RowAt (W13.setCell ⟨w.heap.size + 1 + 1 + 1 + 1, 1, none⟩ (.int .i64 T1)) (w.heap.size + 1 + 1 + 1 + 1) #[.int .i64 M0, .int .i64 T1, .int .i64 0] 64 := (rt.set 1 (.int .i64 T1))
          clear cb fb zb cr fr zr cq fq zq cl fl zl ct ft zt
          generalize (W13.setCell ⟨w.heap.size + 1 + 1 + 1 + 1, 1, none⟩ (.int .i64 T1)) = W14 at *
          have cb : ∀ j, W14.cell? ⟨w.heap.size, j, none⟩ = (#[.int .i64 x, .int .i64 y, .int .i64 z, .int .i64 (x'), .int .i64 (y'), .int .i64 (z')] : Array Value)[j]? := rb.cell
          have fb : ∀ j, W14.frozen? ⟨w.heap.size, j, none⟩ = false := rb.frozen
          have zb : w.heap.size < W14.heap.size := rb.lt
          have cr : ∀ j, W14.cell? ⟨w.heap.size + 1, j, none⟩ = (#[.int .i64 0, .int .i64 0, .int .i64 0] : Array Value)[j]? := rr.cell
          have fr : ∀ j, W14.frozen? ⟨w.heap.size + 1, j, none⟩ = false := rr.frozen
          have zr : w.heap.size + 1 < W14.heap.size := rr.lt
          have cq : ∀ j, W14.cell? ⟨w.heap.size + 1 + 1, j, none⟩ = (#[.int .i64 0, .int .i64 0, .int .i64 0] : Array Value)[j]? := rq.cell
          have fq : ∀ j, W14.frozen? ⟨w.heap.size + 1 + 1, j, none⟩ = false := rq.frozen
          have zq : w.heap.size + 1 + 1 < W14.heap.size := rq.lt
          have cl : ∀ j, W14.cell? ⟨w.heap.size + 1 + 1 + 1, j, none⟩ = (#[.int .i64 L0, .int .i64 L1, .int .i64 0] : Array Value)[j]? := rl.cell
          have fl : ∀ j, W14.frozen? ⟨w.heap.size + 1 + 1 + 1, j, none⟩ = false := rl.frozen
          have zl : w.heap.size + 1 + 1 + 1 < W14.heap.size := rl.lt
          have ct : ∀ j, W14.cell? ⟨w.heap.size + 1 + 1 + 1 + 1, j, none⟩ = (#[.int .i64 M0, .int .i64 T1, .int .i64 0] : Array Value)[j]? := rt.cell
          have ft : ∀ j, W14.frozen? ⟨w.heap.size + 1 + 1 + 1 + 1, j, none⟩ = false := rt.frozen
          have zt : w.heap.size + 1 + 1 + 1 + 1 < W14.heap.size := rt.lt
          refine region_below 14 (by kernel_rfl) (by kernel_rfl) ?_
          simp only [List.take_succ_cons, List.take_zero, List.drop_succ_cons, List.drop_zero]
          repeat (first | (refine' InText.skip (by rfl) ?_; simp only [Act.put, List.setIfInBounds_toArray, List.set_cons_zero, List.set_cons_succ]) | (refine' InText.val (by rfl) (fun wr hr => ?_) ?_; rotate_left 1; (focus (obtain ⟨hrc, hrf⟩ := bcell hr; (go_simp <;> with_reducible rfl); done)); simp only [Act.put, List.setIfInBounds_toArray, List.set_cons_zero, List.set_cons_succ]))
          refine fun wra hra => ?_
          obtain ⟨hrca, hrfa⟩ := bcell hra
          clear cb fb zb cr fr zr cq fq zq cl fl zl ct ft zt
          replace rb := rb.keep hra
          replace rr := rr.keep hra
          replace rq := rq.keep hra
          replace rl := rl.keep hra
          replace rt := rt.keep hra
          replace kw := kw.trans (hra.mono kw.size)
          have cb : ∀ j, wra.cell? ⟨w.heap.size, j, none⟩ = (#[.int .i64 x, .int .i64 y, .int .i64 z, .int .i64 (x'), .int .i64 (y'), .int .i64 (z')] : Array Value)[j]? := rb.cell
          have fb : ∀ j, wra.frozen? ⟨w.heap.size, j, none⟩ = false := rb.frozen
          have zb : w.heap.size < wra.heap.size := rb.lt
          have cr : ∀ j, wra.cell? ⟨w.heap.size + 1, j, none⟩ = (#[.int .i64 0, .int .i64 0, .int .i64 0] : Array Value)[j]? := rr.cell
          have fr : ∀ j, wra.frozen? ⟨w.heap.size + 1, j, none⟩ = false := rr.frozen
          have zr : w.heap.size + 1 < wra.heap.size := rr.lt
          have cq : ∀ j, wra.cell? ⟨w.heap.size + 1 + 1, j, none⟩ = (#[.int .i64 0, .int .i64 0, .int .i64 0] : Array Value)[j]? := rq.cell
          have fq : ∀ j, wra.frozen? ⟨w.heap.size + 1 + 1, j, none⟩ = false := rq.frozen
          have zq : w.heap.size + 1 + 1 < wra.heap.size := rq.lt
          have cl : ∀ j, wra.cell? ⟨w.heap.size + 1 + 1 + 1, j, none⟩ = (#[.int .i64 L0, .int .i64 L1, .int .i64 0] : Array Value)[j]? := rl.cell
          have fl : ∀ j, wra.frozen? ⟨w.heap.size + 1 + 1 + 1, j, none⟩ = false := rl.frozen
          have zl : w.heap.size + 1 + 1 + 1 < wra.heap.size := rl.lt
          have ct : ∀ j, wra.cell? ⟨w.heap.size + 1 + 1 + 1 + 1, j, none⟩ = (#[.int .i64 M0, .int .i64 T1, .int .i64 0] : Array Value)[j]? := rt.cell
          have ft : ∀ j, wra.frozen? ⟨w.heap.size + 1 + 1 + 1 + 1, j, none⟩ = false := rt.frozen
          have zt : w.heap.size + 1 + 1 + 1 + 1 < wra.heap.size := rt.lt
          clear hra hrca hrfa
          go_wp2_with fail
          go_wp2_with fail
          go_roundw
          case rel =>
            exact ⟨2, by omega, by go_num, ⟨fun h => hok.1 (by omega), fun _ => i0, fun h => absurd h (by omega)⟩, by (repeat (first | with_reducible assumption | with_reducible exact Below.refl _ _ | with_reducible refine Below.drew ?_ | with_reducible refine below_drewN ?_ _ | with_reducible refine al ?_ _ | (with_reducible refine sc ?_ ?_; (focus (first | omega | (simp; done) | (simp; omega)))) | (with_reducible refine chain ?_ (by assumption)))), rb, rr, rq, rl, rt⟩
          case measure => simp [intOf]
        · clear S0 S1 S2
          subst i3
          have cb : ∀ j, wr.cell? ⟨w.heap.size, j, none⟩ = (#[.int .i64 x, .int .i64 y, .int .i64 z, .int .i64 (x'), .int .i64 (y'), .int .i64 (z')] : Array Value)[j]? := rb.cell
          have fb : ∀ j, wr.frozen? ⟨w.heap.size, j, none⟩ = false := rb.frozen
          have zb : w.heap.size < wr.heap.size := rb.lt
          have cr : ∀ j, wr.cell? ⟨w.heap.size + 1, j, none⟩ = (#[.int .i64 0, .int .i64 0, .int .i64 0] : Array Value)[j]? := rr.cell
          have fr : ∀ j, wr.frozen? ⟨w.heap.size + 1, j, none⟩ = false := rr.frozen
          have zr : w.heap.size + 1 < wr.heap.size := rr.lt
          have cq : ∀ j, wr.cell? ⟨w.heap.size + 1 + 1, j, none⟩ = (#[.int .i64 0, .int .i64 0, .int .i64 0] : Array Value)[j]? := rq.cell
          have fq : ∀ j, wr.frozen? ⟨w.heap.size + 1 + 1, j, none⟩ = false := rq.frozen
          have zq : w.heap.size + 1 + 1 < wr.heap.size := rq.lt
          have cl : ∀ j, wr.cell? ⟨w.heap.size + 1 + 1 + 1, j, none⟩ = (#[.int .i64 L0, .int .i64 0, .int .i64 0] : Array Value)[j]? := rl.cell
          have fl : ∀ j, wr.frozen? ⟨w.heap.size + 1 + 1 + 1, j, none⟩ = false := rl.frozen
          have zl : w.heap.size + 1 + 1 + 1 < wr.heap.size := rl.lt
          have ct : ∀ j, wr.cell? ⟨w.heap.size + 1 + 1 + 1 + 1, j, none⟩ = (#[.int .i64 M0, .int .i64 0, .int .i64 0] : Array Value)[j]? := rt.cell
          have ft : ∀ j, wr.frozen? ⟨w.heap.size + 1 + 1 + 1 + 1, j, none⟩ = false := rt.frozen
          have zt : w.heap.size + 1 + 1 + 1 + 1 < wr.heap.size := rt.lt
          go_wp2_with fail
          (refine (A1.out _).mono ?_; rintro e W11 ⟨rfl, hW11⟩)
          clear cb fb zb cr fr zr cq fq zq cl fl zl ct ft zt
          replace rb := rb.keep hW11
          replace rr := rr.keep hW11
          replace rq := rq.keep hW11
          replace rl := rl.keep hW11
          replace rt := rt.keep hW11
          replace kw := kw.trans (hW11.mono kw.size)
          have cb : ∀ j, W11.cell? ⟨w.heap.size, j, none⟩ = (#[.int .i64 x, .int .i64 y, .int .i64 z, .int .i64 (x'), .int .i64 (y'), .int .i64 (z')] : Array Value)[j]? := rb.cell
          have fb : ∀ j, W11.frozen? ⟨w.heap.size, j, none⟩ = false := rb.frozen
          have zb : w.heap.size < W11.heap.size := rb.lt
          have cr : ∀ j, W11.cell? ⟨w.heap.size + 1, j, none⟩ = (#[.int .i64 0, .int .i64 0, .int .i64 0] : Array Value)[j]? := rr.cell
          have fr : ∀ j, W11.frozen? ⟨w.heap.size + 1, j, none⟩ = false := rr.frozen
          have zr : w.heap.size + 1 < W11.heap.size := rr.lt
          have cq : ∀ j, W11.cell? ⟨w.heap.size + 1 + 1, j, none⟩ = (#[.int .i64 0, .int .i64 0, .int .i64 0] : Array Value)[j]? := rq.cell
          have fq : ∀ j, W11.frozen? ⟨w.heap.size + 1 + 1, j, none⟩ = false := rq.frozen
          have zq : w.heap.size + 1 + 1 < W11.heap.size := rq.lt
          have cl : ∀ j, W11.cell? ⟨w.heap.size + 1 + 1 + 1, j, none⟩ = (#[.int .i64 L0, .int .i64 0, .int .i64 0] : Array Value)[j]? := rl.cell
          have fl : ∀ j, W11.frozen? ⟨w.heap.size + 1 + 1 + 1, j, none⟩ = false := rl.frozen
          have zl : w.heap.size + 1 + 1 + 1 < W11.heap.size := rl.lt
          have ct : ∀ j, W11.cell? ⟨w.heap.size + 1 + 1 + 1 + 1, j, none⟩ = (#[.int .i64 M0, .int .i64 0, .int .i64 0] : Array Value)[j]? := rt.cell
          have ft : ∀ j, W11.frozen? ⟨w.heap.size + 1 + 1 + 1 + 1, j, none⟩ = false := rt.frozen
          have zt : w.heap.size + 1 + 1 + 1 + 1 < W11.heap.size := rt.lt
          clear hW11
          go_wp2_with fail
          (refine (E1.out _).mono ?_; rintro e W12 ⟨rfl, hW12⟩)
          clear cb fb zb cr fr zr cq fq zq cl fl zl ct ft zt
          replace rb := rb.keep hW12
          replace rr := rr.keep hW12
          replace rq := rq.keep hW12
          replace rl := rl.keep hW12
          replace rt := rt.keep hW12
          replace kw := kw.trans (hW12.mono kw.size)
          have cb : ∀ j, W12.cell? ⟨w.heap.size, j, none⟩ = (#[.int .i64 x, .int .i64 y, .int .i64 z, .int .i64 (x'), .int .i64 (y'), .int .i64 (z')] : Array Value)[j]? := rb.cell
          have fb : ∀ j, W12.frozen? ⟨w.heap.size, j, none⟩ = false := rb.frozen
          have zb : w.heap.size < W12.heap.size := rb.lt
          have cr : ∀ j, W12.cell? ⟨w.heap.size + 1, j, none⟩ = (#[.int .i64 0, .int .i64 0, .int .i64 0] : Array Value)[j]? := rr.cell
          have fr : ∀ j, W12.frozen? ⟨w.heap.size + 1, j, none⟩ = false := rr.frozen
          have zr : w.heap.size + 1 < W12.heap.size := rr.lt
          have cq : ∀ j, W12.cell? ⟨w.heap.size + 1 + 1, j, none⟩ = (#[.int .i64 0, .int .i64 0, .int .i64 0] : Array Value)[j]? := rq.cell
          have fq : ∀ j, W12.frozen? ⟨w.heap.size + 1 + 1, j, none⟩ = false := rq.frozen
          have zq : w.heap.size + 1 + 1 < W12.heap.size := rq.lt
          have cl : ∀ j, W12.cell? ⟨w.heap.size + 1 + 1 + 1, j, none⟩ = (#[.int .i64 L0, .int .i64 0, .int .i64 0] : Array Value)[j]? := rl.cell
          have fl : ∀ j, W12.frozen? ⟨w.heap.size + 1 + 1 + 1, j, none⟩ = false := rl.frozen
          have zl : w.heap.size + 1 + 1 + 1 < W12.heap.size := rl.lt
          have ct : ∀ j, W12.cell? ⟨w.heap.size + 1 + 1 + 1 + 1, j, none⟩ = (#[.int .i64 M0, .int .i64 0, .int .i64 0] : Array Value)[j]? := rt.cell
          have ft : ∀ j, W12.frozen? ⟨w.heap.size + 1 + 1 + 1 + 1, j, none⟩ = false := rt.frozen
          have zt : w.heap.size + 1 + 1 + 1 + 1 < W12.heap.size := rt.lt
          clear hW12
          go_wp2_with (go_at_call 46; refine (FL1.out _).mono ?_; rintro e w' ⟨rfl, rfl⟩)
          replace kw : Below w.heap.size w (W12.setCell ⟨w.heap.size + 1 + 1 + 1, 1, none⟩ (.int .i64 L1)) := by (repeat (first | with_reducible assumption | with_reducible exact Below.refl _ _ | with_reducible refine Below.drew ?_ | with_reducible refine below_drewN ?_ _ | with_reducible refine al ?_ _ | (with_reducible refine sc ?_ ?_; (focus (first | omega | (simp; done) | (simp; omega)))) | (with_reducible refine chain ?_ (by assumption))))
          replace rb : RowAt (W12.setCell ⟨w.heap.size + 1 + 1 + 1, 1, none⟩ (.int .i64 L1)) (w.heap.size) #[.int .i64 x, .int .i64 y, .int .i64 z, .int .i64 (x'), .int .i64 (y'), .int .i64 (z')] 31 := (rb.other (p := ⟨w.heap.size + 1 + 1 + 1, 1, none⟩) (by first | omega | (simp; done) | (simp; omega)) (.int .i64 L1))
          replace rr : RowAt (W12.setCell ⟨w.heap.size + 1 + 1 + 1, 1, none⟩ (.int .i64 L1)) (w.heap.size + 1) #[.int .i64 0, .int .i64 0, .int .i64 0] 28 := (rr.other (p := ⟨w.heap.size + 1 + 1 + 1, 1, none⟩) (by first | omega | (simp; done) | (simp; omega)) (.int .i64 L1))
          replace rq : RowAt (W12.setCell ⟨w.heap.size + 1 + 1 + 1, 1, none⟩ (.int .i64 L1)) (w.heap.size + 1 + 1) #[.int .i64 0, .int .i64 0, .int .i64 0] 28 := (rq.other (p := ⟨w.heap.size + 1 + 1 + 1, 1, none⟩) (by first | omega | (simp; done) | (simp; omega)) (.int .i64 L1))
          replace rl : RowAt (W12.setCell ⟨w.heap.size + 1 + 1 + 1, 1, none⟩ (.int .i64 L1)) (w.heap.size + 1 + 1 + 1) #[.int .i64 L0, .int .i64 L1, .int .i64 0] 64 := (rl.set 1 (.int .i64 L1))
          replace rt : RowAt (W12.setCell ⟨w.heap.size + 1 + 1 + 1, 1, none⟩ (.int .i64 L1)) (w.heap.size + 1 + 1 + 1 + 1) #[.int .i64 M0, .int .i64 0, .int .i64 0] 64 := (rt.other (p := ⟨w.heap.size + 1 + 1 + 1, 1, none⟩) (by first | omega | (simp; done) | (simp; omega)) (.int .i64 L1))
          clear cb fb zb cr fr zr cq fq zq cl fl zl ct ft zt
          generalize (W12.setCell ⟨w.heap.size + 1 + 1 + 1, 1, none⟩ (.int .i64 L1)) = W13 at *
          have cb : ∀ j, W13.cell? ⟨w.heap.size, j, none⟩ = (#[.int .i64 x, .int .i64 y, .int .i64 z, .int .i64 (x'), .int .i64 (y'), .int .i64 (z')] : Array Value)[j]? := rb.cell
          have fb : ∀ j, W13.frozen? ⟨w.heap.size, j, none⟩ = false := rb.frozen
          have zb : w.heap.size < W13.heap.size := rb.lt
          have cr : ∀ j, W13.cell? ⟨w.heap.size + 1, j, none⟩ = (#[.int .i64 0, .int .i64 0, .int .i64 0] : Array Value)[j]? := rr.cell
          have fr : ∀ j, W13.frozen? ⟨w.heap.size + 1, j, none⟩ = false := rr.frozen
          have zr : w.heap.size + 1 < W13.heap.size := rr.lt
          have cq : ∀ j, W13.cell? ⟨w.heap.size + 1 + 1, j, none⟩ = (#[.int .i64 0, .int .i64 0, .int .i64 0] : Array Value)[j]? := rq.cell
          have fq : ∀ j, W13.frozen? ⟨w.heap.size + 1 + 1, j, none⟩ = false := rq.frozen
          have zq : w.heap.size + 1 + 1 < W13.heap.size := rq.lt
          have cl : ∀ j, W13.cell? ⟨w.heap.size + 1 + 1 + 1, j, none⟩ = (#[.int .i64 L0, .int .i64 L1, .int .i64 0] : Array Value)[j]? := rl.cell
          have fl : ∀ j, W13.frozen? ⟨w.heap.size + 1 + 1 + 1, j, none⟩ = false := rl.frozen
          have zl : w.heap.size + 1 + 1 + 1 < W13.heap.size := rl.lt
          have ct : ∀ j, W13.cell? ⟨w.heap.size + 1 + 1 + 1 + 1, j, none⟩ = (#[.int .i64 M0, .int .i64 0, .int .i64 0] : Array Value)[j]? := rt.cell
          have ft : ∀ j, W13.frozen? ⟨w.heap.size + 1 + 1 + 1 + 1, j, none⟩ = false := rt.frozen
          have zt : w.heap.size + 1 + 1 + 1 + 1 < W13.heap.size := rt.lt
          go_wp2_with (go_at_call 46; refine (FT1.out _).mono ?_; rintro e w' ⟨rfl, rfl⟩)
          replace kw : Below w.heap.size w (W13.setCell ⟨w.heap.size + 1 + 1 + 1 + 1, 1, none⟩ (.int .i64 T1)) := by (repeat (first | with_reducible assumption | with_reducible exact Below.refl _ _ | with_reducible refine Below.drew ?_ | with_reducible refine below_drewN ?_ _ | with_reducible refine al ?_ _ | (with_reducible refine sc ?_ ?_; (focus (first | omega | (simp; done) | (simp; omega)))) | (with_reducible refine chain ?_ (by assumption))))
          replace rb : RowAt (W13.setCell ⟨w.heap.size + 1 + 1 + 1 + 1, 1, none⟩ (.int .i64 T1)) (w.heap.size) #[.int .i64 x, .int .i64 y, .int .i64 z, .int .i64 (x'), .int .i64 (y'), .int .i64 (z')] 31 := (rb.other (p := ⟨w.heap.size + 1 + 1 + 1 + 1, 1, none⟩) (by first | omega | (simp; done) | (simp; omega)) (.int .i64 T1))
          replace rr : RowAt (W13.setCell ⟨w.heap.size + 1 + 1 + 1 + 1, 1, none⟩ (.int .i64 T1)) (w.heap.size + 1) #[.int .i64 0, .int .i64 0, .int .i64 0] 28 := (rr.other (p := ⟨w.heap.size + 1 + 1 + 1 + 1, 1, none⟩) (by first | omega | (simp; done) | (simp; omega)) (.int .i64 T1))
          replace rq : RowAt (W13.setCell ⟨w.heap.size + 1 + 1 + 1 + 1, 1, none⟩ (.int .i64 T1)) (w.heap.size + 1 + 1) #[.int .i64 0, .int .i64 0, .int .i64 0] 28 := (rq.other (p := ⟨w.heap.size + 1 + 1 + 1 + 1, 1, none⟩) (by first | omega | (simp; done) | (simp; omega)) (.int .i64 T1))
          replace rl : RowAt (W13.setCell ⟨w.heap.size + 1 + 1 + 1 + 1, 1, none⟩ (.int .i64 T1)) (w.heap.size + 1 + 1 + 1) #[.int .i64 L0, .int .i64 L1, .int .i64 0] 64 := (rl.other (p := ⟨w.heap.size + 1 + 1 + 1 + 1, 1, none⟩) (by first | omega | (simp; done) | (simp; omega)) (.int .i64 T1))
          replace rt : RowAt (W13.setCell ⟨w.heap.size + 1 + 1 + 1 + 1, 1, none⟩ (.int .i64 T1)) (w.heap.size + 1 + 1 + 1 + 1) #[.int .i64 M0, .int .i64 T1, .int .i64 0] 64 := (rt.set 1 (.int .i64 T1))
          clear cb fb zb cr fr zr cq fq zq cl fl zl ct ft zt
          generalize (W13.setCell ⟨w.heap.size + 1 + 1 + 1 + 1, 1, none⟩ (.int .i64 T1)) = W14 at *
          have cb : ∀ j, W14.cell? ⟨w.heap.size, j, none⟩ = (#[.int .i64 x, .int .i64 y, .int .i64 z, .int .i64 (x'), .int .i64 (y'), .int .i64 (z')] : Array Value)[j]? := rb.cell
          have fb : ∀ j, W14.frozen? ⟨w.heap.size, j, none⟩ = false := rb.frozen
          have zb : w.heap.size < W14.heap.size := rb.lt
          have cr : ∀ j, W14.cell? ⟨w.heap.size + 1, j, none⟩ = (#[.int .i64 0, .int .i64 0, .int .i64 0] : Array Value)[j]? := rr.cell
          have fr : ∀ j, W14.frozen? ⟨w.heap.size + 1, j, none⟩ = false := rr.frozen
          have zr : w.heap.size + 1 < W14.heap.size := rr.lt
          have cq : ∀ j, W14.cell? ⟨w.heap.size + 1 + 1, j, none⟩ = (#[.int .i64 0, .int .i64 0, .int .i64 0] : Array Value)[j]? := rq.cell
          have fq : ∀ j, W14.frozen? ⟨w.heap.size + 1 + 1, j, none⟩ = false := rq.frozen
          have zq : w.heap.size + 1 + 1 < W14.heap.size := rq.lt
          have cl : ∀ j, W14.cell? ⟨w.heap.size + 1 + 1 + 1, j, none⟩ = (#[.int .i64 L0, .int .i64 L1, .int .i64 0] : Array Value)[j]? := rl.cell
          have fl : ∀ j, W14.frozen? ⟨w.heap.size + 1 + 1 + 1, j, none⟩ = false := rl.frozen
          have zl : w.heap.size + 1 + 1 + 1 < W14.heap.size := rl.lt
          have ct : ∀ j, W14.cell? ⟨w.heap.size + 1 + 1 + 1 + 1, j, none⟩ = (#[.int .i64 M0, .int .i64 T1, .int .i64 0] : Array Value)[j]? := rt.cell
          have ft : ∀ j, W14.frozen? ⟨w.heap.size + 1 + 1 + 1 + 1, j, none⟩ = false := rt.frozen
          have zt : w.heap.size + 1 + 1 + 1 + 1 < W14.heap.size := rt.lt
          refine region_below 14 (by kernel_rfl) (by kernel_rfl) ?_
          simp only [List.take_succ_cons, List.take_zero, List.drop_succ_cons, List.drop_zero]
          repeat (first | (refine' InText.skip (by rfl) ?_; simp only [Act.put, List.setIfInBounds_toArray, List.set_cons_zero, List.set_cons_succ]) | (refine' InText.val (by rfl) (fun wr hr => ?_) ?_; rotate_left 1; (focus (obtain ⟨hrc, hrf⟩ := bcell hr; (go_simp <;> with_reducible rfl); done)); simp only [Act.put, List.setIfInBounds_toArray, List.set_cons_zero, List.set_cons_succ]))
          refine fun wra hra => ?_
          obtain ⟨hrca, hrfa⟩ := bcell hra
          clear cb fb zb cr fr zr cq fq zq cl fl zl ct ft zt
          replace rb := rb.keep hra
          replace rr := rr.keep hra
          replace rq := rq.keep hra
          replace rl := rl.keep hra
          replace rt := rt.keep hra
          replace kw := kw.trans (hra.mono kw.size)
          have cb : ∀ j, wra.cell? ⟨w.heap.size, j, none⟩ = (#[.int .i64 x, .int .i64 y, .int .i64 z, .int .i64 (x'), .int .i64 (y'), .int .i64 (z')] : Array Value)[j]? := rb.cell
          have fb : ∀ j, wra.frozen? ⟨w.heap.size, j, none⟩ = false := rb.frozen
          have zb : w.heap.size < wra.heap.size := rb.lt
          have cr : ∀ j, wra.cell? ⟨w.heap.size + 1, j, none⟩ = (#[.int .i64 0, .int .i64 0, .int .i64 0] : Array Value)[j]? := rr.cell
          have fr : ∀ j, wra.frozen? ⟨w.heap.size + 1, j, none⟩ = false := rr.frozen
          have zr : w.heap.size + 1 < wra.heap.size := rr.lt
          have cq : ∀ j, wra.cell? ⟨w.heap.size + 1 + 1, j, none⟩ = (#[.int .i64 0, .int .i64 0, .int .i64 0] : Array Value)[j]? := rq.cell
          have fq : ∀ j, wra.frozen? ⟨w.heap.size + 1 + 1, j, none⟩ = false := rq.frozen
          have zq : w.heap.size + 1 + 1 < wra.heap.size := rq.lt
          have cl : ∀ j, wra.cell? ⟨w.heap.size + 1 + 1 + 1, j, none⟩ = (#[.int .i64 L0, .int .i64 L1, .int .i64 0] : Array Value)[j]? := rl.cell
          have fl : ∀ j, wra.frozen? ⟨w.heap.size + 1 + 1 + 1, j, none⟩ = false := rl.frozen
          have zl : w.heap.size + 1 + 1 + 1 < wra.heap.size := rl.lt
          have ct : ∀ j, wra.cell? ⟨w.heap.size + 1 + 1 + 1 + 1, j, none⟩ = (#[.int .i64 M0, .int .i64 T1, .int .i64 0] : Array Value)[j]? := rt.cell
          have ft : ∀ j, wra.frozen? ⟨w.heap.size + 1 + 1 + 1 + 1, j, none⟩ = false := rt.frozen
          have zt : w.heap.size + 1 + 1 + 1 + 1 < wra.heap.size := rt.lt
          clear hra hrca hrfa
          go_wp2_with fail
          go_wp2_with fail
          go_roundw
          case rel =>
            exact ⟨2, by omega, by go_num, ⟨fun h => hok.1 (by omega), fun _ => i0, fun h => absurd h (by omega)⟩, by (repeat (first | with_reducible assumption | with_reducible exact Below.refl _ _ | with_reducible refine Below.drew ?_ | with_reducible refine below_drewN ?_ _ | with_reducible refine al ?_ _ | (with_reducible refine sc ?_ ?_; (focus (first | omega | (simp; done) | (simp; omega)))) | (with_reducible refine chain ?_ (by assumption)))), rb, rr, rq, rl, rt⟩
          case measure => simp [intOf]
        · clear S0 S1 S2
          have cb : ∀ j, wr.cell? ⟨w.heap.size, j, none⟩ = (#[.int .i64 x, .int .i64 y, .int .i64 z, .int .i64 (x'), .int .i64 (y'), .int .i64 (z')] : Array Value)[j]? := rb.cell
          have fb : ∀ j, wr.frozen? ⟨w.heap.size, j, none⟩ = false := rb.frozen
          have zb : w.heap.size < wr.heap.size := rb.lt
          have cr : ∀ j, wr.cell? ⟨w.heap.size + 1, j, none⟩ = (#[.int .i64 0, .int .i64 0, .int .i64 0] : Array Value)[j]? := rr.cell
          have fr : ∀ j, wr.frozen? ⟨w.heap.size + 1, j, none⟩ = false := rr.frozen
          have zr : w.heap.size + 1 < wr.heap.size := rr.lt
          have cq : ∀ j, wr.cell? ⟨w.heap.size + 1 + 1, j, none⟩ = (#[.int .i64 0, .int .i64 0, .int .i64 0] : Array Value)[j]? := rq.cell
          have fq : ∀ j, wr.frozen? ⟨w.heap.size + 1 + 1, j, none⟩ = false := rq.frozen
          have zq : w.heap.size + 1 + 1 < wr.heap.size := rq.lt
          have cl : ∀ j, wr.cell? ⟨w.heap.size + 1 + 1 + 1, j, none⟩ = (#[.int .i64 L0, .int .i64 0, .int .i64 0] : Array Value)[j]? := rl.cell
          have fl : ∀ j, wr.frozen? ⟨w.heap.size + 1 + 1 + 1, j, none⟩ = false := rl.frozen
          have zl : w.heap.size + 1 + 1 + 1 < wr.heap.size := rl.lt
          have ct : ∀ j, wr.cell? ⟨w.heap.size + 1 + 1 + 1 + 1, j, none⟩ = (#[.int .i64 M0, .int .i64 0, .int .i64 0] : Array Value)[j]? := rt.cell
          have ft : ∀ j, wr.frozen? ⟨w.heap.size + 1 + 1 + 1 + 1, j, none⟩ = false := rt.frozen
          have zt : w.heap.size + 1 + 1 + 1 + 1 < wr.heap.size := rt.lt
          go_wp2_with fail
          (refine (A1.out _).mono ?_; rintro e W11 ⟨rfl, hW11⟩)
          clear cb fb zb cr fr zr cq fq zq cl fl zl ct ft zt
          replace rb := rb.keep hW11
          replace rr := rr.keep hW11
          replace rq := rq.keep hW11
          replace rl := rl.keep hW11
          replace rt := rt.keep hW11
          replace kw := kw.trans (hW11.mono kw.size)
          have cb : ∀ j, W11.cell? ⟨w.heap.size, j, none⟩ = (#[.int .i64 x, .int .i64 y, .int .i64 z, .int .i64 (x'), .int .i64 (y'), .int .i64 (z')] : Array Value)[j]? := rb.cell
          have fb : ∀ j, W11.frozen? ⟨w.heap.size, j, none⟩ = false := rb.frozen
          have zb : w.heap.size < W11.heap.size := rb.lt
          have cr : ∀ j, W11.cell? ⟨w.heap.size + 1, j, none⟩ = (#[.int .i64 0, .int .i64 0, .int .i64 0] : Array Value)[j]? := rr.cell
          have fr : ∀ j, W11.frozen? ⟨w.heap.size + 1, j, none⟩ = false := rr.frozen
          have zr : w.heap.size + 1 < W11.heap.size := rr.lt
          have cq : ∀ j, W11.cell? ⟨w.heap.size + 1 + 1, j, none⟩ = (#[.int .i64 0, .int .i64 0, .int .i64 0] : Array Value)[j]? := rq.cell
          have fq : ∀ j, W11.frozen? ⟨w.heap.size + 1 + 1, j, none⟩ = false := rq.frozen
          have zq : w.heap.size + 1 + 1 < W11.heap.size := rq.lt
          have cl : ∀ j, W11.cell? ⟨w.heap.size + 1 + 1 + 1, j, none⟩ = (#[.int .i64 L0, .int .i64 0, .int .i64 0] : Array Value)[j]? := rl.cell
          have fl : ∀ j, W11.frozen? ⟨w.heap.size + 1 + 1 + 1, j, none⟩ = false := rl.frozen
          have zl : w.heap.size + 1 + 1 + 1 < W11.heap.size := rl.lt
          have ct : ∀ j, W11.cell? ⟨w.heap.size + 1 + 1 + 1 + 1, j, none⟩ = (#[.int .i64 M0, .int .i64 0, .int .i64 0] : Array Value)[j]? := rt.cell
          have ft : ∀ j, W11.frozen? ⟨w.heap.size + 1 + 1 + 1 + 1, j, none⟩ = false := rt.frozen
          have zt : w.heap.size + 1 + 1 + 1 + 1 < W11.heap.size := rt.lt
          clear hW11
          go_wp2_with fail
          (refine (E1.out _).mono ?_; rintro e W12 ⟨rfl, hW12⟩)
          clear cb fb zb cr fr zr cq fq zq cl fl zl ct ft zt
          replace rb := rb.keep hW12
          replace rr := rr.keep hW12
          replace rq := rq.keep hW12
          replace rl := rl.keep hW12
          replace rt := rt.keep hW12
          replace kw := kw.trans (hW12.mono kw.size)
          have cb : ∀ j, W12.cell? ⟨w.heap.size, j, none⟩ = (#[.int .i64 x, .int .i64 y, .int .i64 z, .int .i64 (x'), .int .i64 (y'), .int .i64 (z')] : Array Value)[j]? := rb.cell
          have fb : ∀ j, W12.frozen? ⟨w.heap.size, j, none⟩ = false := rb.frozen
          have zb : w.heap.size < W12.heap.size := rb.lt
          have cr : ∀ j, W12.cell? ⟨w.heap.size + 1, j, none⟩ = (#[.int .i64 0, .int .i64 0, .int .i64 0] : Array Value)[j]? := rr.cell
          have fr : ∀ j, W12.frozen? ⟨w.heap.size + 1, j, none⟩ = false := rr.frozen
          have zr : w.heap.size + 1 < W12.heap.size := rr.lt
          have cq : ∀ j, W12.cell? ⟨w.heap.size + 1 + 1, j, none⟩ = (#[.int .i64 0, .int .i64 0, .int .i64 0] : Array Value)[j]? := rq.cell
          have fq : ∀ j, W12.frozen? ⟨w.heap.size + 1 + 1, j, none⟩ = false := rq.frozen
          have zq : w.heap.size + 1 + 1 < W12.heap.size := rq.lt
          have cl : ∀ j, W12.cell? ⟨w.heap.size + 1 + 1 + 1, j, none⟩ = (#[.int .i64 L0, .int .i64 0, .int .i64 0] : Array Value)[j]? := rl.cell
          have fl : ∀ j, W12.frozen? ⟨w.heap.size + 1 + 1 + 1, j, none⟩ = false := rl.frozen
          have zl : w.heap.size + 1 + 1 + 1 < W12.heap.size := rl.lt
          have ct : ∀ j, W12.cell? ⟨w.heap.size + 1 + 1 + 1 + 1, j, none⟩ = (#[.int .i64 M0, .int .i64 0, .int .i64 0] : Array Value)[j]? := rt.cell
          have ft : ∀ j, W12.frozen? ⟨w.heap.size + 1 + 1 + 1 + 1, j, none⟩ = false := rt.frozen
          have zt : w.heap.size + 1 + 1 + 1 + 1 < W12.heap.size := rt.lt
          clear hW12
          go_wp2_with (go_at_call 46; refine (FL1.out _).mono ?_; rintro e w' ⟨rfl, rfl⟩)
          replace kw : Below w.heap.size w (W12.setCell ⟨w.heap.size + 1 + 1 + 1, 1, none⟩ (.int .i64 L1)) := by (repeat (first | with_reducible assumption | with_reducible exact Below.refl _ _ | with_reducible refine Below.drew ?_ | with_reducible refine below_drewN ?_ _ | with_reducible refine al ?_ _ | (with_reducible refine sc ?_ ?_; (focus (first | omega | (simp; done) | (simp; omega)))) | (with_reducible refine chain ?_ (by assumption))))
          replace rb : RowAt (W12.setCell ⟨w.heap.size + 1 + 1 + 1, 1, none⟩ (.int .i64 L1)) (w.heap.size) #[.int .i64 x, .int .i64 y, .int .i64 z, .int .i64 (x'), .int .i64 (y'), .int .i64 (z')] 31 := (rb.other (p := ⟨w.heap.size + 1 + 1 + 1, 1, none⟩) (by first | omega | (simp; done) | (simp; omega)) (.int .i64 L1))
          replace rr : RowAt (W12.setCell ⟨w.heap.size + 1 + 1 + 1, 1, none⟩ (.int .i64 L1)) (w.heap.size + 1) #[.int .i64 0, .int .i64 0, .int .i64 0] 28 := (rr.other (p := ⟨w.heap.size + 1 + 1 + 1, 1, none⟩) (by first | omega | (simp; done) | (simp; omega)) (.int .i64 L1))
          replace rq : RowAt (W12.setCell ⟨w.heap.size + 1 + 1 + 1, 1, none⟩ (.int .i64 L1)) (w.heap.size + 1 + 1) #[.int .i64 0, .int .i64 0, .int .i64 0] 28 := (rq.other (p := ⟨w.heap.size + 1 + 1 + 1, 1, none⟩) (by first | omega | (simp; done) | (simp; omega)) (.int .i64 L1))
          replace rl : RowAt (W12.setCell ⟨w.heap.size + 1 + 1 + 1, 1, none⟩ (.int .i64 L1)) (w.heap.size + 1 + 1 + 1) #[.int .i64 L0, .int .i64 L1, .int .i64 0] 64 := (rl.set 1 (.int .i64 L1))
          replace rt : RowAt (W12.setCell ⟨w.heap.size + 1 + 1 + 1, 1, none⟩ (.int .i64 L1)) (w.heap.size + 1 + 1 + 1 + 1) #[.int .i64 M0, .int .i64 0, .int .i64 0] 64 := (rt.other (p := ⟨w.heap.size + 1 + 1 + 1, 1, none⟩) (by first | omega | (simp; done) | (simp; omega)) (.int .i64 L1))
          clear cb fb zb cr fr zr cq fq zq cl fl zl ct ft zt
          generalize (W12.setCell ⟨w.heap.size + 1 + 1 + 1, 1, none⟩ (.int .i64 L1)) = W13 at *
          have cb : ∀ j, W13.cell? ⟨w.heap.size, j, none⟩ = (#[.int .i64 x, .int .i64 y, .int .i64 z, .int .i64 (x'), .int .i64 (y'), .int .i64 (z')] : Array Value)[j]? := rb.cell
          have fb : ∀ j, W13.frozen? ⟨w.heap.size, j, none⟩ = false := rb.frozen
          have zb : w.heap.size < W13.heap.size := rb.lt
          have cr : ∀ j, W13.cell? ⟨w.heap.size + 1, j, none⟩ = (#[.int .i64 0, .int .i64 0, .int .i64 0] : Array Value)[j]? := rr.cell
          have fr : ∀ j, W13.frozen? ⟨w.heap.size + 1, j, none⟩ = false := rr.frozen
          have zr : w.heap.size + 1 < W13.heap.size := rr.lt
          have cq : ∀ j, W13.cell? ⟨w.heap.size + 1 + 1, j, none⟩ = (#[.int .i64 0, .int .i64 0, .int .i64 0] : Array Value)[j]? := rq.cell
          have fq : ∀ j, W13.frozen? ⟨w.heap.size + 1 + 1, j, none⟩ = false := rq.frozen
          have zq : w.heap.size + 1 + 1 < W13.heap.size := rq.lt
          have cl : ∀ j, W13.cell? ⟨w.heap.size + 1 + 1 + 1, j, none⟩ = (#[.int .i64 L0, .int .i64 L1, .int .i64 0] : Array Value)[j]? := rl.cell
          have fl : ∀ j, W13.frozen? ⟨w.heap.size + 1 + 1 + 1, j, none⟩ = false := rl.frozen
          have zl : w.heap.size + 1 + 1 + 1 < W13.heap.size := rl.lt
          have ct : ∀ j, W13.cell? ⟨w.heap.size + 1 + 1 + 1 + 1, j, none⟩ = (#[.int .i64 M0, .int .i64 0, .int .i64 0] : Array Value)[j]? := rt.cell
          have ft : ∀ j, W13.frozen? ⟨w.heap.size + 1 + 1 + 1 + 1, j, none⟩ = false := rt.frozen
          have zt : w.heap.size + 1 + 1 + 1 + 1 < W13.heap.size := rt.lt
          go_wp2_with (go_at_call 46; refine (FT1.out _).mono ?_; rintro e w' ⟨rfl, rfl⟩)
          replace kw : Below w.heap.size w (W13.setCell ⟨w.heap.size + 1 + 1 + 1 + 1, 1, none⟩ (.int .i64 T1)) := by (repeat (first | with_reducible assumption | with_reducible exact Below.refl _ _ | with_reducible refine Below.drew ?_ | with_reducible refine below_drewN ?_ _ | with_reducible refine al ?_ _ | (with_reducible refine sc ?_ ?_; (focus (first | omega | (simp; done) | (simp; omega)))) | (with_reducible refine chain ?_ (by assumption))))
          replace rb : RowAt (W13.setCell ⟨w.heap.size + 1 + 1 + 1 + 1, 1, none⟩ (.int .i64 T1)) (w.heap.size) #[.int .i64 x, .int .i64 y, .int .i64 z, .int .i64 (x'), .int .i64 (y'), .int .i64 (z')] 31 := (rb.other (p := ⟨w.heap.size + 1 + 1 + 1 + 1, 1, none⟩) (by first | omega | (simp; done) | (simp; omega)) (.int .i64 T1))
          replace rr : RowAt (W13.setCell ⟨w.heap.size + 1 + 1 + 1 + 1, 1, none⟩ (.int .i64 T1)) (w.heap.size + 1) #[.int .i64 0, .int .i64 0, .int .i64 0] 28 := (rr.other (p := ⟨w.heap.size + 1 + 1 + 1 + 1, 1, none⟩) (by first | omega | (simp; done) | (simp; omega)) (.int .i64 T1))
          replace rq : RowAt (W13.setCell ⟨w.heap.size + 1 + 1 + 1 + 1, 1, none⟩ (.int .i64 T1)) (w.heap.size + 1 + 1) #[.int .i64 0, .int .i64 0, .int .i64 0] 28 := (rq.other (p := ⟨w.heap.size + 1 + 1 + 1 + 1, 1, none⟩) (by first | omega | (simp; done) | (simp; omega)) (.int .i64 T1))
          replace rl : RowAt (W13.setCell ⟨w.heap.size + 1 + 1 + 1 + 1, 1, none⟩ (.int .i64 T1)) (w.heap.size + 1 + 1 + 1) #[.int .i64 L0, .int .i64 L1, .int .i64 0] 64 := (rl.other (p := ⟨w.heap.size + 1 + 1 + 1 + 1, 1, none⟩) (by first | omega | (simp; done) | (simp; omega)) (.int .i64 T1))
          replace rt : RowAt (W13.setCell ⟨w.heap.size + 1 + 1 + 1 + 1, 1, none⟩ (.int .i64 T1)) (w.heap.size + 1 + 1 + 1 + 1) #[.int .i64 M0, .int .i64 T1, .int .i64 0] 64 := (rt.set 1 (.int .i64 T1))
          clear cb fb zb cr fr zr cq fq zq cl fl zl ct ft zt
          generalize (W13.setCell ⟨w.heap.size + 1 + 1 + 1 + 1, 1, none⟩ (.int .i64 T1)) = W14 at *
          have cb : ∀ j, W14.cell? ⟨w.heap.size, j, none⟩ = (#[.int .i64 x, .int .i64 y, .int .i64 z, .int .i64 (x'), .int .i64 (y'), .int .i64 (z')] : Array Value)[j]? := rb.cell
          have fb : ∀ j, W14.frozen? ⟨w.heap.size, j, none⟩ = false := rb.frozen
          have zb : w.heap.size < W14.heap.size := rb.lt
          have cr : ∀ j, W14.cell? ⟨w.heap.size + 1, j, none⟩ = (#[.int .i64 0, .int .i64 0, .int .i64 0] : Array Value)[j]? := rr.cell
          have fr : ∀ j, W14.frozen? ⟨w.heap.size + 1, j, none⟩ = false := rr.frozen
          have zr : w.heap.size + 1 < W14.heap.size := rr.lt
          have cq : ∀ j, W14.cell? ⟨w.heap.size + 1 + 1, j, none⟩ = (#[.int .i64 0, .int .i64 0, .int .i64 0] : Array Value)[j]? := rq.cell
          have fq : ∀ j, W14.frozen? ⟨w.heap.size + 1 + 1, j, none⟩ = false := rq.frozen
          have zq : w.heap.size + 1 + 1 < W14.heap.size := rq.lt
          have cl : ∀ j, W14.cell? ⟨w.heap.size + 1 + 1 + 1, j, none⟩ = (#[.int .i64 L0, .int .i64 L1, .int .i64 0] : Array Value)[j]? := rl.cell
          have fl : ∀ j, W14.frozen? ⟨w.heap.size + 1 + 1 + 1, j, none⟩ = false := rl.frozen
          have zl : w.heap.size + 1 + 1 + 1 < W14.heap.size := rl.lt
          have ct : ∀ j, W14.cell? ⟨w.heap.size + 1 + 1 + 1 + 1, j, none⟩ = (#[.int .i64 M0, .int .i64 T1, .int .i64 0] : Array Value)[j]? := rt.cell
          have ft : ∀ j, W14.frozen? ⟨w.heap.size + 1 + 1 + 1 + 1, j, none⟩ = false := rt.frozen
          have zt : w.heap.size + 1 + 1 + 1 + 1 < W14.heap.size := rt.lt
          refine region_below 14 (by kernel_rfl) (by kernel_rfl) ?_
          simp only [List.take_succ_cons, List.take_zero, List.drop_succ_cons, List.drop_zero]
          repeat (first | (refine' InText.skip (by rfl) ?_; simp only [Act.put, List.setIfInBounds_toArray, List.set_cons_zero, List.set_cons_succ]) | (refine' InText.val (by rfl) (fun wr hr => ?_) ?_; rotate_left 1; (focus (obtain ⟨hrc, hrf⟩ := bcell hr; (go_simp <;> with_reducible rfl); done)); simp only [Act.put, List.setIfInBounds_toArray, List.set_cons_zero, List.set_cons_succ]))
          refine fun wra hra => ?_
          obtain ⟨hrca, hrfa⟩ := bcell hra
          clear cb fb zb cr fr zr cq fq zq cl fl zl ct ft zt
          replace rb := rb.keep hra
          replace rr := rr.keep hra
          replace rq := rq.keep hra
          replace rl := rl.keep hra
          replace rt := rt.keep hra
          replace kw := kw.trans (hra.mono kw.size)
          have cb : ∀ j, wra.cell? ⟨w.heap.size, j, none⟩ = (#[.int .i64 x, .int .i64 y, .int .i64 z, .int .i64 (x'), .int .i64 (y'), .int .i64 (z')] : Array Value)[j]? := rb.cell
          have fb : ∀ j, wra.frozen? ⟨w.heap.size, j, none⟩ = false := rb.frozen
          have zb : w.heap.size < wra.heap.size := rb.lt
          have cr : ∀ j, wra.cell? ⟨w.heap.size + 1, j, none⟩ = (#[.int .i64 0, .int .i64 0, .int .i64 0] : Array Value)[j]? := rr.cell
          have fr : ∀ j, wra.frozen? ⟨w.heap.size + 1, j, none⟩ = false := rr.frozen
          have zr : w.heap.size + 1 < wra.heap.size := rr.lt
          have cq : ∀ j, wra.cell? ⟨w.heap.size + 1 + 1, j, none⟩ = (#[.int .i64 0, .int .i64 0, .int .i64 0] : Array Value)[j]? := rq.cell
          have fq : ∀ j, wra.frozen? ⟨w.heap.size + 1 + 1, j, none⟩ = false := rq.frozen
          have zq : w.heap.size + 1 + 1 < wra.heap.size := rq.lt
          have cl : ∀ j, wra.cell? ⟨w.heap.size + 1 + 1 + 1, j, none⟩ = (#[.int .i64 L0, .int .i64 L1, .int .i64 0] : Array Value)[j]? := rl.cell
          have fl : ∀ j, wra.frozen? ⟨w.heap.size + 1 + 1 + 1, j, none⟩ = false := rl.frozen
          have zl : w.heap.size + 1 + 1 + 1 < wra.heap.size := rl.lt
          have ct : ∀ j, wra.cell? ⟨w.heap.size + 1 + 1 + 1 + 1, j, none⟩ = (#[.int .i64 M0, .int .i64 T1, .int .i64 0] : Array Value)[j]? := rt.cell
          have ft : ∀ j, wra.frozen? ⟨w.heap.size + 1 + 1 + 1 + 1, j, none⟩ = false := rt.frozen
          have zt : w.heap.size + 1 + 1 + 1 + 1 < wra.heap.size := rt.lt
          clear hra hrca hrfa
          go_wp2_with fail
          refine bodyPost_ret (v := spanR L0 L1 L2 M0 M1 M2) (by unfold spanR; rw [if_neg (fun h => absurd h.2.1 (by omega))]; simp [results, Try.results37, go_sem, *]; done) rfl ⟨rfl, ?_⟩
          (repeat (first | with_reducible assumption | with_reducible exact Below.refl _ _ | with_reducible refine Below.drew ?_ | with_reducible refine below_drewN ?_ _ | with_reducible refine al ?_ _ | (with_reducible refine sc ?_ ?_; (focus (first | omega | (simp; done) | (simp; omega)))) | (with_reducible refine chain ?_ (by assumption))))
      · replace rl : RowAt wr (w.heap.size + 1 + 1 + 1) #[.int .i64 L0, .int .i64 L1, .int .i64 0] 64 := rl
        replace rt : RowAt wr (w.heap.size + 1 + 1 + 1 + 1) #[.int .i64 M0, .int .i64 M1, .int .i64 0] 64 := rt
        rcases S2.out with ⟨i0, i1, i2, i3, i4⟩ | ⟨i0, i1, i3, i4⟩ | ⟨i0, i1, i3, i4, i5⟩ | ⟨i0, i1, i2, i4, i5⟩
        · clear S0 S1 S2
          have cb : ∀ j, wr.cell? ⟨w.heap.size, j, none⟩ = (#[.int .i64 x, .int .i64 y, .int .i64 z, .int .i64 (x'), .int .i64 (y'), .int .i64 (z')] : Array Value)[j]? := rb.cell
          have fb : ∀ j, wr.frozen? ⟨w.heap.size, j, none⟩ = false := rb.frozen
          have zb : w.heap.size < wr.heap.size := rb.lt
          have cr : ∀ j, wr.cell? ⟨w.heap.size + 1, j, none⟩ = (#[.int .i64 0, .int .i64 0, .int .i64 0] : Array Value)[j]? := rr.cell
          have fr : ∀ j, wr.frozen? ⟨w.heap.size + 1, j, none⟩ = false := rr.frozen
          have zr : w.heap.size + 1 < wr.heap.size := rr.lt
          have cq : ∀ j, wr.cell? ⟨w.heap.size + 1 + 1, j, none⟩ = (#[.int .i64 0, .int .i64 0, .int .i64 0] : Array Value)[j]? := rq.cell
          have fq : ∀ j, wr.frozen? ⟨w.heap.size + 1 + 1, j, none⟩ = false := rq.frozen
          have zq : w.heap.size + 1 + 1 < wr.heap.size := rq.lt
          have cl : ∀ j, wr.cell? ⟨w.heap.size + 1 + 1 + 1, j, none⟩ = (#[.int .i64 L0, .int .i64 L1, .int .i64 0] : Array Value)[j]? := rl.cell
          have fl : ∀ j, wr.frozen? ⟨w.heap.size + 1 + 1 + 1, j, none⟩ = false := rl.frozen
          have zl : w.heap.size + 1 + 1 + 1 < wr.heap.size := rl.lt
          have ct : ∀ j, wr.cell? ⟨w.heap.size + 1 + 1 + 1 + 1, j, none⟩ = (#[.int .i64 M0, .int .i64 M1, .int .i64 0] : Array Value)[j]? := rt.cell
          have ft : ∀ j, wr.frozen? ⟨w.heap.size + 1 + 1 + 1 + 1, j, none⟩ = false := rt.frozen
          have zt : w.heap.size + 1 + 1 + 1 + 1 < wr.heap.size := rt.lt
          go_wp2_with fail
          (refine (A2.out _).mono ?_; rintro e W11 ⟨rfl, hW11⟩)
          clear cb fb zb cr fr zr cq fq zq cl fl zl ct ft zt
          replace rb := rb.keep hW11
          replace rr := rr.keep hW11
          replace rq := rq.keep hW11
          replace rl := rl.keep hW11
          replace rt := rt.keep hW11
          replace kw := kw.trans (hW11.mono kw.size)
          have cb : ∀ j, W11.cell? ⟨w.heap.size, j, none⟩ = (#[.int .i64 x, .int .i64 y, .int .i64 z, .int .i64 (x'), .int .i64 (y'), .int .i64 (z')] : Array Value)[j]? := rb.cell
          have fb : ∀ j, W11.frozen? ⟨w.heap.size, j, none⟩ = false := rb.frozen
          have zb : w.heap.size < W11.heap.size := rb.lt
          have cr : ∀ j, W11.cell? ⟨w.heap.size + 1, j, none⟩ = (#[.int .i64 0, .int .i64 0, .int .i64 0] : Array Value)[j]? := rr.cell
          have fr : ∀ j, W11.frozen? ⟨w.heap.size + 1, j, none⟩ = false := rr.frozen
          have zr : w.heap.size + 1 < W11.heap.size := rr.lt
          have cq : ∀ j, W11.cell? ⟨w.heap.size + 1 + 1, j, none⟩ = (#[.int .i64 0, .int .i64 0, .int .i64 0] : Array Value)[j]? := rq.cell
          have fq : ∀ j, W11.frozen? ⟨w.heap.size + 1 + 1, j, none⟩ = false := rq.frozen
          have zq : w.heap.size + 1 + 1 < W11.heap.size := rq.lt
          have cl : ∀ j, W11.cell? ⟨w.heap.size + 1 + 1 + 1, j, none⟩ = (#[.int .i64 L0, .int .i64 L1, .int .i64 0] : Array Value)[j]? := rl.cell
          have fl : ∀ j, W11.frozen? ⟨w.heap.size + 1 + 1 + 1, j, none⟩ = false := rl.frozen
          have zl : w.heap.size + 1 + 1 + 1 < W11.heap.size := rl.lt
          have ct : ∀ j, W11.cell? ⟨w.heap.size + 1 + 1 + 1 + 1, j, none⟩ = (#[.int .i64 M0, .int .i64 M1, .int .i64 0] : Array Value)[j]? := rt.cell
          have ft : ∀ j, W11.frozen? ⟨w.heap.size + 1 + 1 + 1 + 1, j, none⟩ = false := rt.frozen
          have zt : w.heap.size + 1 + 1 + 1 + 1 < W11.heap.size := rt.lt
          clear hW11
          go_wp2_with fail
          (refine (E2.out _).mono ?_; rintro e W12 ⟨rfl, hW12⟩)
          clear cb fb zb cr fr zr cq fq zq cl fl zl ct ft zt
          replace rb := rb.keep hW12
          replace rr := rr.keep hW12
          replace rq := rq.keep hW12
          replace rl := rl.keep hW12
          replace rt := rt.keep hW12
          replace kw := kw.trans (hW12.mono kw.size)
          have cb : ∀ j, W12.cell? ⟨w.heap.size, j, none⟩ = (#[.int .i64 x, .int .i64 y, .int .i64 z, .int .i64 (x'), .int .i64 (y'), .int .i64 (z')] : Array Value)[j]? := rb.cell
          have fb : ∀ j, W12.frozen? ⟨w.heap.size, j, none⟩ = false := rb.frozen
          have zb : w.heap.size < W12.heap.size := rb.lt
          have cr : ∀ j, W12.cell? ⟨w.heap.size + 1, j, none⟩ = (#[.int .i64 0, .int .i64 0, .int .i64 0] : Array Value)[j]? := rr.cell
          have fr : ∀ j, W12.frozen? ⟨w.heap.size + 1, j, none⟩ = false := rr.frozen
          have zr : w.heap.size + 1 < W12.heap.size := rr.lt
          have cq : ∀ j, W12.cell? ⟨w.heap.size + 1 + 1, j, none⟩ = (#[.int .i64 0, .int .i64 0, .int .i64 0] : Array Value)[j]? := rq.cell
          have fq : ∀ j, W12.frozen? ⟨w.heap.size + 1 + 1, j, none⟩ = false := rq.frozen
          have zq : w.heap.size + 1 + 1 < W12.heap.size := rq.lt
          have cl : ∀ j, W12.cell? ⟨w.heap.size + 1 + 1 + 1, j, none⟩ = (#[.int .i64 L0, .int .i64 L1, .int .i64 0] : Array Value)[j]? := rl.cell
          have fl : ∀ j, W12.frozen? ⟨w.heap.size + 1 + 1 + 1, j, none⟩ = false := rl.frozen
          have zl : w.heap.size + 1 + 1 + 1 < W12.heap.size := rl.lt
          have ct : ∀ j, W12.cell? ⟨w.heap.size + 1 + 1 + 1 + 1, j, none⟩ = (#[.int .i64 M0, .int .i64 M1, .int .i64 0] : Array Value)[j]? := rt.cell
          have ft : ∀ j, W12.frozen? ⟨w.heap.size + 1 + 1 + 1 + 1, j, none⟩ = false := rt.frozen
          have zt : w.heap.size + 1 + 1 + 1 + 1 < W12.heap.size := rt.lt
          clear hW12
          go_wp2_with (go_at_call 46; refine (FL2.out _).mono ?_; rintro e w' ⟨rfl, rfl⟩)
          replace kw : Below w.heap.size w (W12.setCell ⟨w.heap.size + 1 + 1 + 1, 2, none⟩ (.int .i64 L2)) := by (repeat (first | with_reducible assumption | with_reducible exact Below.refl _ _ | with_reducible refine Below.drew ?_ | with_reducible refine below_drewN ?_ _ | with_reducible refine al ?_ _ | (with_reducible refine sc ?_ ?_; (focus (first | omega | (simp; done) | (simp; omega)))) | (with_reducible refine chain ?_ (by assumption))))
          replace rb : RowAt (W12.setCell ⟨w.heap.size + 1 + 1 + 1, 2, none⟩ (.int .i64 L2)) (w.heap.size) #[.int .i64 x, .int .i64 y, .int .i64 z, .int .i64 (x'), .int .i64 (y'), .int .i64 (z')] 31 := (rb.other (p := ⟨w.heap.size + 1 + 1 + 1, 2, none⟩) (by first | omega | (simp; done) | (simp; omega)) (.int .i64 L2))
          replace rr : RowAt (W12.setCell ⟨w.heap.size + 1 + 1 + 1, 2, none⟩ (.int .i64 L2)) (w.heap.size + 1) #[.int .i64 0, .int .i64 0, .int .i64 0] 28 := (rr.other (p := ⟨w.heap.size + 1 + 1 + 1, 2, none⟩) (by first | omega | (simp; done) | (simp; omega)) (.int .i64 L2))
          replace rq : RowAt (W12.setCell ⟨w.heap.size + 1 + 1 + 1, 2, none⟩ (.int .i64 L2)) (w.heap.size + 1 + 1) #[.int .i64 0, .int .i64 0, .int .i64 0] 28 := (rq.other (p := ⟨w.heap.size + 1 + 1 + 1, 2, none⟩) (by first | omega | (simp; done) | (simp; omega)) (.int .i64 L2))
          replace rl : RowAt (W12.setCell ⟨w.heap.size + 1 + 1 + 1, 2, none⟩ (.int .i64 L2)) (w.heap.size + 1 + 1 + 1) #[.int .i64 L0, .int .i64 L1, .int .i64 L2] 64 := (rl.set 2 (.int .i64 L2))
          replace rt : RowAt (W12.setCell ⟨w.heap.size + 1 + 1 + 1, 2, none⟩ (.int .i64 L2)) (w.heap.size + 1 + 1 + 1 + 1) #[.int .i64 M0, .int .i64 M1, .int .i64 0] 64 := (rt.other (p := ⟨w.heap.size + 1 + 1 + 1, 2, none⟩) (by first | omega | (simp; done) | (simp; omega)) (.int .i64 L2))
          clear cb fb zb cr fr zr cq fq zq cl fl zl ct ft zt
          generalize (W12.setCell ⟨w.heap.size + 1 + 1 + 1, 2, none⟩ (.int .i64 L2)) = W13 at *
          have cb : ∀ j, W13.cell? ⟨w.heap.size, j, none⟩ = (#[.int .i64 x, .int .i64 y, .int .i64 z, .int .i64 (x'), .int .i64 (y'), .int .i64 (z')] : Array Value)[j]? := rb.cell
          have fb : ∀ j, W13.frozen? ⟨w.heap.size, j, none⟩ = false := rb.frozen
          have zb : w.heap.size < W13.heap.size := rb.lt
          have cr : ∀ j, W13.cell? ⟨w.heap.size + 1, j, none⟩ = (#[.int .i64 0, .int .i64 0, .int .i64 0] : Array Value)[j]? := rr.cell
          have fr : ∀ j, W13.frozen? ⟨w.heap.size + 1, j, none⟩ = false := rr.frozen
          have zr : w.heap.size + 1 < W13.heap.size := rr.lt
          have cq : ∀ j, W13.cell? ⟨w.heap.size + 1 + 1, j, none⟩ = (#[.int .i64 0, .int .i64 0, .int .i64 0] : Array Value)[j]? := rq.cell
          have fq : ∀ j, W13.frozen? ⟨w.heap.size + 1 + 1, j, none⟩ = false := rq.frozen
          have zq : w.heap.size + 1 + 1 < W13.heap.size := rq.lt
          have cl : ∀ j, W13.cell? ⟨w.heap.size + 1 + 1 + 1, j, none⟩ = (#[.int .i64 L0, .int .i64 L1, .int .i64 L2] : Array Value)[j]? := rl.cell
          have fl : ∀ j, W13.frozen? ⟨w.heap.size + 1 + 1 + 1, j, none⟩ = false := rl.frozen
          have zl : w.heap.size + 1 + 1 + 1 < W13.heap.size := rl.lt
          have ct : ∀ j, W13.cell? ⟨w.heap.size + 1 + 1 + 1 + 1, j, none⟩ = (#[.int .i64 M0, .int .i64 M1, .int .i64 0] : Array Value)[j]? := rt.cell
          have ft : ∀ j, W13.frozen? ⟨w.heap.size + 1 + 1 + 1 + 1, j, none⟩ = false := rt.frozen
          have zt : w.heap.size + 1 + 1 + 1 + 1 < W13.heap.size := rt.lt
          go_wp2_with (go_at_call 46; refine (FT2.out _).mono ?_; rintro e w' ⟨rfl, rfl⟩)
          replace kw : Below w.heap.size w (W13.setCell ⟨w.heap.size + 1 + 1 + 1 + 1, 2, none⟩ (.int .i64 T2)) := by (repeat (first | with_reducible assumption | with_reducible exact Below.refl _ _ | with_reducible refine Below.drew ?_ | with_reducible refine below_drewN ?_ _ | with_reducible refine al ?_ _ | (with_reducible refine sc ?_ ?_; (focus (first | omega | (simp; done) | (simp; omega)))) | (with_reducible refine chain ?_ (by assumption))))
          replace rb : RowAt (W13.setCell ⟨w.heap.size + 1 + 1 + 1 + 1, 2, none⟩ (.int .i64 T2)) (w.heap.size) #[.int .i64 x, .int .i64 y, .int .i64 z, .int .i64 (x'), .int .i64 (y'), .int .i64 (z')] 31 := (rb.other (p := ⟨w.heap.size + 1 + 1 + 1 + 1, 2, none⟩) (by first | omega | (simp; done) | (simp; omega)) (.int .i64 T2))
          replace rr : RowAt (W13.setCell ⟨w.heap.size + 1 + 1 + 1 + 1, 2, none⟩ (.int .i64 T2)) (w.heap.size + 1) #[.int .i64 0, .int .i64 0, .int .i64 0] 28 := (rr.other (p := ⟨w.heap.size + 1 + 1 + 1 + 1, 2, none⟩) (by first | omega | (simp; done) | (simp; omega)) (.int .i64 T2))
          replace rq : RowAt (W13.setCell ⟨w.heap.size + 1 + 1 + 1 + 1, 2, none⟩ (.int .i64 T2)) (w.heap.size + 1 + 1) #[.int .i64 0, .int .i64 0, .int .i64 0] 28 := (rq.other (p := ⟨w.heap.size + 1 + 1 + 1 + 1, 2, none⟩) (by first | omega | (simp; done) | (simp; omega)) (.int .i64 T2))
          replace rl : RowAt (W13.setCell ⟨w.heap.size + 1 + 1 + 1 + 1, 2, none⟩ (.int .i64 T2)) (w.heap.size + 1 + 1 + 1) #[.int .i64 L0, .int .i64 L1, .int .i64 L2] 64 := (rl.other (p := ⟨w.heap.size + 1 + 1 + 1 + 1, 2, none⟩) (by first | omega | (simp; done) | (simp; omega)) (.int .i64 T2))
          replace rt : RowAt (W13.setCell ⟨w.heap.size + 1 + 1 + 1 + 1, 2, none⟩ (.int .i64 T2)) (w.heap.size + 1 + 1 + 1 + 1) #[.int .i64 M0, .int .i64 M1, .int .i64 T2] 64 := (rt.set 2 (.int .i64 T2))
          clear cb fb zb cr fr zr cq fq zq cl fl zl ct ft zt
          generalize (W13.setCell ⟨w.heap.size + 1 + 1 + 1 + 1, 2, none⟩ (.int .i64 T2)) = W14 at *
          have cb : ∀ j, W14.cell? ⟨w.heap.size, j, none⟩ = (#[.int .i64 x, .int .i64 y, .int .i64 z, .int .i64 (x'), .int .i64 (y'), .int .i64 (z')] : Array Value)[j]? := rb.cell
          have fb : ∀ j, W14.frozen? ⟨w.heap.size, j, none⟩ = false := rb.frozen
          have zb : w.heap.size < W14.heap.size := rb.lt
          have cr : ∀ j, W14.cell? ⟨w.heap.size + 1, j, none⟩ = (#[.int .i64 0, .int .i64 0, .int .i64 0] : Array Value)[j]? := rr.cell
          have fr : ∀ j, W14.frozen? ⟨w.heap.size + 1, j, none⟩ = false := rr.frozen
          have zr : w.heap.size + 1 < W14.heap.size := rr.lt
          have cq : ∀ j, W14.cell? ⟨w.heap.size + 1 + 1, j, none⟩ = (#[.int .i64 0, .int .i64 0, .int .i64 0] : Array Value)[j]? := rq.cell
          have fq : ∀ j, W14.frozen? ⟨w.heap.size + 1 + 1, j, none⟩ = false := rq.frozen
          have zq : w.heap.size + 1 + 1 < W14.heap.size := rq.lt
          have cl : ∀ j, W14.cell? ⟨w.heap.size + 1 + 1 + 1, j, none⟩ = (#[.int .i64 L0, .int .i64 L1, .int .i64 L2] : Array Value)[j]? := rl.cell
          have fl : ∀ j, W14.frozen? ⟨w.heap.size + 1 + 1 + 1, j, none⟩ = false := rl.frozen
          have zl : w.heap.size + 1 + 1 + 1 < W14.heap.size := rl.lt
          have ct : ∀ j, W14.cell? ⟨w.heap.size + 1 + 1 + 1 + 1, j, none⟩ = (#[.int .i64 M0, .int .i64 M1, .int .i64 T2] : Array Value)[j]? := rt.cell
          have ft : ∀ j, W14.frozen? ⟨w.heap.size + 1 + 1 + 1 + 1, j, none⟩ = false := rt.frozen
          have zt : w.heap.size + 1 + 1 + 1 + 1 < W14.heap.size := rt.lt
          refine region_below 14 (by kernel_rfl) (by kernel_rfl) ?_
          simp only [List.take_succ_cons, List.take_zero, List.drop_succ_cons, List.drop_zero]
          repeat (first | (refine' InText.skip (by rfl) ?_; simp only [Act.put, List.setIfInBounds_toArray, List.set_cons_zero, List.set_cons_succ]) | (refine' InText.val (by rfl) (fun wr hr => ?_) ?_; rotate_left 1; (focus (obtain ⟨hrc, hrf⟩ := bcell hr; (go_simp <;> with_reducible rfl); done)); simp only [Act.put, List.setIfInBounds_toArray, List.set_cons_zero, List.set_cons_succ]))
          refine fun wra hra => ?_
          obtain ⟨hrca, hrfa⟩ := bcell hra
          clear cb fb zb cr fr zr cq fq zq cl fl zl ct ft zt
          replace rb := rb.keep hra
          replace rr := rr.keep hra
          replace rq := rq.keep hra
          replace rl := rl.keep hra
          replace rt := rt.keep hra
          replace kw := kw.trans (hra.mono kw.size)
          have cb : ∀ j, wra.cell? ⟨w.heap.size, j, none⟩ = (#[.int .i64 x, .int .i64 y, .int .i64 z, .int .i64 (x'), .int .i64 (y'), .int .i64 (z')] : Array Value)[j]? := rb.cell
          have fb : ∀ j, wra.frozen? ⟨w.heap.size, j, none⟩ = false := rb.frozen
          have zb : w.heap.size < wra.heap.size := rb.lt
          have cr : ∀ j, wra.cell? ⟨w.heap.size + 1, j, none⟩ = (#[.int .i64 0, .int .i64 0, .int .i64 0] : Array Value)[j]? := rr.cell
          have fr : ∀ j, wra.frozen? ⟨w.heap.size + 1, j, none⟩ = false := rr.frozen
          have zr : w.heap.size + 1 < wra.heap.size := rr.lt
          have cq : ∀ j, wra.cell? ⟨w.heap.size + 1 + 1, j, none⟩ = (#[.int .i64 0, .int .i64 0, .int .i64 0] : Array Value)[j]? := rq.cell
          have fq : ∀ j, wra.frozen? ⟨w.heap.size + 1 + 1, j, none⟩ = false := rq.frozen
          have zq : w.heap.size + 1 + 1 < wra.heap.size := rq.lt
          have cl : ∀ j, wra.cell? ⟨w.heap.size + 1 + 1 + 1, j, none⟩ = (#[.int .i64 L0, .int .i64 L1, .int .i64 L2] : Array Value)[j]? := rl.cell
          have fl : ∀ j, wra.frozen? ⟨w.heap.size + 1 + 1 + 1, j, none⟩ = false := rl.frozen
          have zl : w.heap.size + 1 + 1 + 1 < wra.heap.size := rl.lt
          have ct : ∀ j, wra.cell? ⟨w.heap.size + 1 + 1 + 1 + 1, j, none⟩ = (#[.int .i64 M0, .int .i64 M1, .int .i64 T2] : Array Value)[j]? := rt.cell
          have ft : ∀ j, wra.frozen? ⟨w.heap.size + 1 + 1 + 1 + 1, j, none⟩ = false := rt.frozen
          have zt : w.heap.size + 1 + 1 + 1 + 1 < wra.heap.size := rt.lt
          clear hra hrca hrfa
          go_wp2_with fail
          replace kw : Below w.heap.size w (wra.setCell ⟨w.heap.size + 1 + 1 + 1 + 1, 2, none⟩ (.int .i64 M2)) := by (repeat (first | with_reducible assumption | with_reducible exact Below.refl _ _ | with_reducible refine Below.drew ?_ | with_reducible refine below_drewN ?_ _ | with_reducible refine al ?_ _ | (with_reducible refine sc ?_ ?_; (focus (first | omega | (simp; done) | (simp; omega)))) | (with_reducible refine chain ?_ (by assumption))))
          replace rb : RowAt (wra.setCell ⟨w.heap.size + 1 + 1 + 1 + 1, 2, none⟩ (.int .i64 M2)) (w.heap.size) #[.int .i64 x, .int .i64 y, .int .i64 z, .int .i64 (x'), .int .i64 (y'), .int .i64 (z')] 31 := (rb.other (p := ⟨w.heap.size + 1 + 1 + 1 + 1, 2, none⟩) (by first | omega | (simp; done) | (simp; omega)) (.int .i64 M2))
          replace rr : RowAt (wra.setCell ⟨w.heap.size + 1 + 1 + 1 + 1, 2, none⟩ (.int .i64 M2)) (w.heap.size + 1) #[.int .i64 0, .int .i64 0, .int .i64 0] 28 := (rr.other (p := ⟨w.heap.size + 1 + 1 + 1 + 1, 2, none⟩) (by first | omega | (simp; done) | (simp; omega)) (.int .i64 M2))
          replace rq : RowAt (wra.setCell ⟨w.heap.size + 1 + 1 + 1 + 1, 2, none⟩ (.int .i64 M2)) (w.heap.size + 1 + 1) #[.int .i64 0, .int .i64 0, .int .i64 0] 28 := (rq.other (p := ⟨w.heap.size + 1 + 1 + 1 + 1, 2, none⟩) (by first | omega | (simp; done) | (simp; omega)) (.int .i64 M2))
          replace rl : RowAt (wra.setCell ⟨w.heap.size + 1 + 1 + 1 + 1, 2, none⟩ (.int .i64 M2)) (w.heap.size + 1 + 1 + 1) #[.int .i64 L0, .int .i64 L1, .int .i64 L2] 64 := (rl.other (p := ⟨w.heap.size + 1 + 1 + 1 + 1, 2, none⟩) (by first | omega | (simp; done) | (simp; omega)) (.int .i64 M2))
          replace rt : RowAt (wra.setCell ⟨w.heap.size + 1 + 1 + 1 + 1, 2, none⟩ (.int .i64 M2)) (w.heap.size + 1 + 1 + 1 + 1) #[.int .i64 M0, .int .i64 M1, .int .i64 M2] 64 := (rt.set 2 (.int .i64 M2))
          clear cb fb zb cr fr zr cq fq zq cl fl zl ct ft zt
          generalize (wra.setCell ⟨w.heap.size + 1 + 1 + 1 + 1, 2, none⟩ (.int .i64 M2)) = W15 at *
          have cb : ∀ j, W15.cell? ⟨w.heap.size, j, none⟩ = (#[.int .i64 x, .int .i64 y, .int .i64 z, .int .i64 (x'), .int .i64 (y'), .int .i64 (z')] : Array Value)[j]? := rb.cell
          have fb : ∀ j, W15.frozen? ⟨w.heap.size, j, none⟩ = false := rb.frozen
          have zb : w.heap.size < W15.heap.size := rb.lt
          have cr : ∀ j, W15.cell? ⟨w.heap.size + 1, j, none⟩ = (#[.int .i64 0, .int .i64 0, .int .i64 0] : Array Value)[j]? := rr.cell
          have fr : ∀ j, W15.frozen? ⟨w.heap.size + 1, j, none⟩ = false := rr.frozen
          have zr : w.heap.size + 1 < W15.heap.size := rr.lt
          have cq : ∀ j, W15.cell? ⟨w.heap.size + 1 + 1, j, none⟩ = (#[.int .i64 0, .int .i64 0, .int .i64 0] : Array Value)[j]? := rq.cell
          have fq : ∀ j, W15.frozen? ⟨w.heap.size + 1 + 1, j, none⟩ = false := rq.frozen
          have zq : w.heap.size + 1 + 1 < W15.heap.size := rq.lt
          have cl : ∀ j, W15.cell? ⟨w.heap.size + 1 + 1 + 1, j, none⟩ = (#[.int .i64 L0, .int .i64 L1, .int .i64 L2] : Array Value)[j]? := rl.cell
          have fl : ∀ j, W15.frozen? ⟨w.heap.size + 1 + 1 + 1, j, none⟩ = false := rl.frozen
          have zl : w.heap.size + 1 + 1 + 1 < W15.heap.size := rl.lt
          have ct : ∀ j, W15.cell? ⟨w.heap.size + 1 + 1 + 1 + 1, j, none⟩ = (#[.int .i64 M0, .int .i64 M1, .int .i64 M2] : Array Value)[j]? := rt.cell
          have ft : ∀ j, W15.frozen? ⟨w.heap.size + 1 + 1 + 1 + 1, j, none⟩ = false := rt.frozen
          have zt : w.heap.size + 1 + 1 + 1 + 1 < W15.heap.size := rt.lt
          go_wp2_with fail
          go_roundw
          case rel =>
            exact ⟨3, by omega, by go_num, ⟨fun h => hok.1 (by omega), fun h => hok.2.1 (by omega), fun _ => i0⟩, by (repeat (first | with_reducible assumption | with_reducible exact Below.refl _ _ | with_reducible refine Below.drew ?_ | with_reducible refine below_drewN ?_ _ | with_reducible refine al ?_ _ | (with_reducible refine sc ?_ ?_; (focus (first | omega | (simp; done) | (simp; omega)))) | (with_reducible refine chain ?_ (by assumption)))), rb, rr, rq, rl, rt⟩
          case measure => simp [intOf]
        · clear S0 S1 S2
          subst i3
          have cb : ∀ j, wr.cell? ⟨w.heap.size, j, none⟩ = (#[.int .i64 x, .int .i64 y, .int .i64 z, .int .i64 (x'), .int .i64 (y'), .int .i64 (z')] : Array Value)[j]? := rb.cell
          have fb : ∀ j, wr.frozen? ⟨w.heap.size, j, none⟩ = false := rb.frozen
          have zb : w.heap.size < wr.heap.size := rb.lt
          have cr : ∀ j, wr.cell? ⟨w.heap.size + 1, j, none⟩ = (#[.int .i64 0, .int .i64 0, .int .i64 0] : Array Value)[j]? := rr.cell
          have fr : ∀ j, wr.frozen? ⟨w.heap.size + 1, j, none⟩ = false := rr.frozen
          have zr : w.heap.size + 1 < wr.heap.size := rr.lt
          have cq : ∀ j, wr.cell? ⟨w.heap.size + 1 + 1, j, none⟩ = (#[.int .i64 0, .int .i64 0, .int .i64 0] : Array Value)[j]? := rq.cell
          have fq : ∀ j, wr.frozen? ⟨w.heap.size + 1 + 1, j, none⟩ = false := rq.frozen
          have zq : w.heap.size + 1 + 1 < wr.heap.size := rq.lt
          have cl : ∀ j, wr.cell? ⟨w.heap.size + 1 + 1 + 1, j, none⟩ = (#[.int .i64 L0, .int .i64 L1, .int .i64 0] : Array Value)[j]? := rl.cell
          have fl : ∀ j, wr.frozen? ⟨w.heap.size + 1 + 1 + 1, j, none⟩ = false := rl.frozen
          have zl : w.heap.size + 1 + 1 + 1 < wr.heap.size := rl.lt
          have ct : ∀ j, wr.cell? ⟨w.heap.size + 1 + 1 + 1 + 1, j, none⟩ = (#[.int .i64 M0, .int .i64 M1, .int .i64 0] : Array Value)[j]? := rt.cell
          have ft : ∀ j, wr.frozen? ⟨w.heap.size + 1 + 1 + 1 + 1, j, none⟩ = false := rt.frozen
          have zt : w.heap.size + 1 + 1 + 1 + 1 < wr.heap.size := rt.lt
          go_wp2_with fail
          (refine (A2.out _).mono ?_; rintro e W11 ⟨rfl, hW11⟩)
          clear cb fb zb cr fr zr cq fq zq cl fl zl ct ft zt
          replace rb := rb.keep hW11
          replace rr := rr.keep hW11
          replace rq := rq.keep hW11
          replace rl := rl.keep hW11
          replace rt := rt.keep hW11
          replace kw := kw.trans (hW11.mono kw.size)
          have cb : ∀ j, W11.cell? ⟨w.heap.size, j, none⟩ = (#[.int .i64 x, .int .i64 y, .int .i64 z, .int .i64 (x'), .int .i64 (y'), .int .i64 (z')] : Array Value)[j]? := rb.cell
          have fb : ∀ j, W11.frozen? ⟨w.heap.size, j, none⟩ = false := rb.frozen
          have zb : w.heap.size < W11.heap.size := rb.lt
          have cr : ∀ j, W11.cell? ⟨w.heap.size + 1, j, none⟩ = (#[.int .i64 0, .int .i64 0, .int .i64 0] : Array Value)[j]? := rr.cell
          have fr : ∀ j, W11.frozen? ⟨w.heap.size + 1, j, none⟩ = false := rr.frozen
          have zr : w.heap.size + 1 < W11.heap.size := rr.lt
          have cq : ∀ j, W11.cell? ⟨w.heap.size + 1 + 1, j, none⟩ = (#[.int .i64 0, .int .i64 0, .int .i64 0] : Array Value)[j]? := rq.cell
          have fq : ∀ j, W11.frozen? ⟨w.heap.size + 1 + 1, j, none⟩ = false := rq.frozen
          have zq : w.heap.size + 1 + 1 < W11.heap.size := rq.lt
          have cl : ∀ j, W11.cell? ⟨w.heap.size + 1 + 1 + 1, j, none⟩ = (#[.int .i64 L0, .int .i64 L1, .int .i64 0] : Array Value)[j]? := rl.cell
          have fl : ∀ j, W11.frozen? ⟨w.heap.size + 1 + 1 + 1, j, none⟩ = false := rl.frozen
          have zl : w.heap.size + 1 + 1 + 1 < W11.heap.size := rl.lt
          have ct : ∀ j, W11.cell? ⟨w.heap.size + 1 + 1 + 1 + 1, j, none⟩ = (#[.int .i64 M0, .int .i64 M1, .int .i64 0] : Array Value)[j]? := rt.cell
          have ft : ∀ j, W11.frozen? ⟨w.heap.size + 1 + 1 + 1 + 1, j, none⟩ = false := rt.frozen
          have zt : w.heap.size + 1 + 1 + 1 + 1 < W11.heap.size := rt.lt
          clear hW11
          go_wp2_with fail
          (refine (E2.out _).mono ?_; rintro e W12 ⟨rfl, hW12⟩)
          clear cb fb zb cr fr zr cq fq zq cl fl zl ct ft zt
          replace rb := rb.keep hW12
          replace rr := rr.keep hW12
          replace rq := rq.keep hW12
          replace rl := rl.keep hW12
          replace rt := rt.keep hW12
          replace kw := kw.trans (hW12.mono kw.size)
          have cb : ∀ j, W12.cell? ⟨w.heap.size, j, none⟩ = (#[.int .i64 x, .int .i64 y, .int .i64 z, .int .i64 (x'), .int .i64 (y'), .int .i64 (z')] : Array Value)[j]? := rb.cell
          have fb : ∀ j, W12.frozen? ⟨w.heap.size, j, none⟩ = false := rb.frozen
          have zb : w.heap.size < W12.heap.size := rb.lt
          have cr : ∀ j, W12.cell? ⟨w.heap.size + 1, j, none⟩ = (#[.int .i64 0, .int .i64 0, .int .i64 0] : Array Value)[j]? := rr.cell
          have fr : ∀ j, W12.frozen? ⟨w.heap.size + 1, j, none⟩ = false := rr.frozen
          have zr : w.heap.size + 1 < W12.heap.size := rr.lt
          have cq : ∀ j, W12.cell? ⟨w.heap.size + 1 + 1, j, none⟩ = (#[.int .i64 0, .int .i64 0, .int .i64 0] : Array Value)[j]? := rq.cell
          have fq : ∀ j, W12.frozen? ⟨w.heap.size + 1 + 1, j, none⟩ = false := rq.frozen
          have zq : w.heap.size + 1 + 1 < W12.heap.size := rq.lt
          have cl : ∀ j, W12.cell? ⟨w.heap.size + 1 + 1 + 1, j, none⟩ = (#[.int .i64 L0, .int .i64 L1, .int .i64 0] : Array Value)[j]? := rl.cell
          have fl : ∀ j, W12.frozen? ⟨w.heap.size + 1 + 1 + 1, j, none⟩ = false := rl.frozen
          have zl : w.heap.size + 1 + 1 + 1 < W12.heap.size := rl.lt
          have ct : ∀ j, W12.cell? ⟨w.heap.size + 1 + 1 + 1 + 1, j, none⟩ = (#[.int .i64 M0, .int .i64 M1, .int .i64 0] : Array Value)[j]? := rt.cell
          have ft : ∀ j, W12.frozen? ⟨w.heap.size + 1 + 1 + 1 + 1, j, none⟩ = false := rt.frozen
          have zt : w.heap.size + 1 + 1 + 1 + 1 < W12.heap.size := rt.lt
          clear hW12
          go_wp2_with (go_at_call 46; refine (FL2.out _).mono ?_; rintro e w' ⟨rfl, rfl⟩)
          replace kw : Below w.heap.size w (W12.setCell ⟨w.heap.size + 1 + 1 + 1, 2, none⟩ (.int .i64 L2)) := by (repeat (first | with_reducible assumption | with_reducible exact Below.refl _ _ | with_reducible refine Below.drew ?_ | with_reducible refine below_drewN ?_ _ | with_reducible refine al ?_ _ | (with_reducible refine sc ?_ ?_; (focus (first | omega | (simp; done) | (simp; omega)))) | (with_reducible refine chain ?_ (by assumption))))
          replace rb : RowAt (W12.setCell ⟨w.heap.size + 1 + 1 + 1, 2, none⟩ (.int .i64 L2)) (w.heap.size) #[.int .i64 x, .int .i64 y, .int .i64 z, .int .i64 (x'), .int .i64 (y'), .int .i64 (z')] 31 := (rb.other (p := ⟨w.heap.size + 1 + 1 + 1, 2, none⟩) (by first | omega | (simp; done) | (simp; omega)) (.int .i64 L2))
          replace rr : RowAt (W12.setCell ⟨w.heap.size + 1 + 1 + 1, 2, none⟩ (.int .i64 L2)) (w.heap.size + 1) #[.int .i64 0, .int .i64 0, .int .i64 0] 28 := (rr.other (p := ⟨w.heap.size + 1 + 1 + 1, 2, none⟩) (by first | omega | (simp; done) | (simp; omega)) (.int .i64 L2))
          replace rq : RowAt (W12.setCell ⟨w.heap.size + 1 + 1 + 1, 2, none⟩ (.int .i64 L2)) (w.heap.size + 1 + 1) #[.int .i64 0, .int .i64 0, .int .i64 0] 28 := (rq.other (p := ⟨w.heap.size + 1 + 1 + 1, 2, none⟩) (by first | omega | (simp; done) | (simp; omega)) (.int .i64 L2))
          replace rl : RowAt (W12.setCell ⟨w.heap.size + 1 + 1 + 1, 2, none⟩ (.int .i64 L2)) (w.heap.size + 1 + 1 + 1) #[.int .i64 L0, .int .i64 L1, .int .i64 L2] 64 := (rl.set 2 (.int .i64 L2))
          replace rt : RowAt (W12.setCell ⟨w.heap.size + 1 + 1 + 1, 2, none⟩ (.int .i64 L2)) (w.heap.size + 1 + 1 + 1 + 1) #[.int .i64 M0, .int .i64 M1, .int .i64 0] 64 := (rt.other (p := ⟨w.heap.size + 1 + 1 + 1, 2, none⟩) (by first | omega | (simp; done) | (simp; omega)) (.int .i64 L2))
          clear cb fb zb cr fr zr cq fq zq cl fl zl ct ft zt
          generalize (W12.setCell ⟨w.heap.size + 1 + 1 + 1, 2, none⟩ (.int .i64 L2)) = W13 at *
          have cb : ∀ j, W13.cell? ⟨w.heap.size, j, none⟩ = (#[.int .i64 x, .int .i64 y, .int .i64 z, .int .i64 (x'), .int .i64 (y'), .int .i64 (z')] : Array Value)[j]? := rb.cell
          have fb : ∀ j, W13.frozen? ⟨w.heap.size, j, none⟩ = false := rb.frozen
          have zb : w.heap.size < W13.heap.size := rb.lt
          have cr : ∀ j, W13.cell? ⟨w.heap.size + 1, j, none⟩ = (#[.int .i64 0, .int .i64 0, .int .i64 0] : Array Value)[j]? := rr.cell
          have fr : ∀ j, W13.frozen? ⟨w.heap.size + 1, j, none⟩ = false := rr.frozen
          have zr : w.heap.size + 1 < W13.heap.size := rr.lt
          have cq : ∀ j, W13.cell? ⟨w.heap.size + 1 + 1, j, none⟩ = (#[.int .i64 0, .int .i64 0, .int .i64 0] : Array Value)[j]? := rq.cell
          have fq : ∀ j, W13.frozen? ⟨w.heap.size + 1 + 1, j, none⟩ = false := rq.frozen
          have zq : w.heap.size + 1 + 1 < W13.heap.size := rq.lt
          have cl : ∀ j, W13.cell? ⟨w.heap.size + 1 + 1 + 1, j, none⟩ = (#[.int .i64 L0, .int .i64 L1, .int .i64 L2] : Array Value)[j]? := rl.cell
          have fl : ∀ j, W13.frozen? ⟨w.heap.size + 1 + 1 + 1, j, none⟩ = false := rl.frozen
          have zl : w.heap.size + 1 + 1 + 1 < W13.heap.size := rl.lt
          have ct : ∀ j, W13.cell? ⟨w.heap.size + 1 + 1 + 1 + 1, j, none⟩ = (#[.int .i64 M0, .int .i64 M1, .int .i64 0] : Array Value)[j]? := rt.cell
          have ft : ∀ j, W13.frozen? ⟨w.heap.size + 1 + 1 + 1 + 1, j, none⟩ = false := rt.frozen
          have zt : w.heap.size + 1 + 1 + 1 + 1 < W13.heap.size := rt.lt
          go_wp2_with (go_at_call 46; refine (FT2.out _).mono ?_; rintro e w' ⟨rfl, rfl⟩)
          replace kw : Below w.heap.size w (W13.setCell ⟨w.heap.size + 1 + 1 + 1 + 1, 2, none⟩ (.int .i64 T2)) := by (repeat (first | with_reducible assumption | with_reducible exact Below.refl _ _ | with_reducible refine Below.drew ?_ | with_reducible refine below_drewN ?_ _ | with_reducible refine al ?_ _ | (with_reducible refine sc ?_ ?_; (focus (first | omega | (simp; done) | (simp; omega)))) | (with_reducible refine chain ?_ (by assumption))))
          replace rb : RowAt (W13.setCell ⟨w.heap.size + 1 + 1 + 1 + 1, 2, none⟩ (.int .i64 T2)) (w.heap.size) #[.int .i64 x, .int .i64 y, .int .i64 z, .int .i64 (x'), .int .i64 (y'), .int .i64 (z')] 31 := (rb.other (p := ⟨w.heap.size + 1 + 1 + 1 + 1, 2, none⟩) (by first | omega | (simp; done) | (simp; omega)) (.int .i64 T2))
          replace rr : RowAt (W13.setCell ⟨w.heap.size + 1 + 1 + 1 + 1, 2, none⟩ (.int .i64 T2)) (w.heap.size + 1) #[.int .i64 0, .int .i64 0, .int .i64 0] 28 := (rr.other (p := ⟨w.heap.size + 1 + 1 + 1 + 1, 2, none⟩) (by first | omega | (simp; done) | (simp; omega)) (.int .i64 T2))
          replace rq : RowAt (W13.setCell ⟨w.heap.size + 1 + 1 + 1 + 1, 2, none⟩ (.int .i64 T2)) (w.heap.size + 1 + 1) #[.int .i64 0, .int .i64 0, .int .i64 0] 28 := (rq.other (p := ⟨w.heap.size + 1 + 1 + 1 + 1, 2, none⟩) (by first | omega | (simp; done) | (simp; omega)) (.int .i64 T2))
          replace rl : RowAt (W13.setCell ⟨w.heap.size + 1 + 1 + 1 + 1, 2, none⟩ (.int .i64 T2)) (w.heap.size + 1 + 1 + 1) #[.int .i64 L0, .int .i64 L1, .int .i64 L2] 64 := (rl.other (p := ⟨w.heap.size + 1 + 1 + 1 + 1, 2, none⟩) (by first | omega | (simp; done) | (simp; omega)) (.int .i64 T2))
          replace rt : RowAt (W13.setCell ⟨w.heap.size + 1 + 1 + 1 + 1, 2, none⟩ (.int .i64 T2)) (w.heap.size + 1 + 1 + 1 + 1) #[.int .i64 M0, .int .i64 M1, .int .i64 T2] 64 := (rt.set 2 (.int .i64 T2))
          clear cb fb zb cr fr zr cq fq zq cl fl zl ct ft zt
          generalize (W13.setCell ⟨w.heap.size + 1 + 1 + 1 + 1, 2, none⟩ (.int .i64 T2)) = W14 at *
          have cb : ∀ j, W14.cell? ⟨w.heap.size, j, none⟩ = (#[.int .i64 x, .int .i64 y, .int .i64 z, .int .i64 (x'), .int .i64 (y'), .int .i64 (z')] : Array Value)[j]? := rb.cell
          have fb : ∀ j, W14.frozen? ⟨w.heap.size, j, none⟩ = false := rb.frozen
          have zb : w.heap.size < W14.heap.size := rb.lt
          have cr : ∀ j, W14.cell? ⟨w.heap.size + 1, j, none⟩ = (#[.int .i64 0, .int .i64 0, .int .i64 0] : Array Value)[j]? := rr.cell
          have fr : ∀ j, W14.frozen? ⟨w.heap.size + 1, j, none⟩ = false := rr.frozen
          have zr : w.heap.size + 1 < W14.heap.size := rr.lt
          have cq : ∀ j, W14.cell? ⟨w.heap.size + 1 + 1, j, none⟩ = (#[.int .i64 0, .int .i64 0, .int .i64 0] : Array Value)[j]? := rq.cell
          have fq : ∀ j, W14.frozen? ⟨w.heap.size + 1 + 1, j, none⟩ = false := rq.frozen
          have zq : w.heap.size + 1 + 1 < W14.heap.size := rq.lt
          have cl : ∀ j, W14.cell? ⟨w.heap.size + 1 + 1 + 1, j, none⟩ = (#[.int .i64 L0, .int .i64 L1, .int .i64 L2] : Array Value)[j]? := rl.cell
          have fl : ∀ j, W14.frozen? ⟨w.heap.size + 1 + 1 + 1, j, none⟩ = false := rl.frozen
          have zl : w.heap.size + 1 + 1 + 1 < W14.heap.size := rl.lt
          have ct : ∀ j, W14.cell? ⟨w.heap.size + 1 + 1 + 1 + 1, j, none⟩ = (#[.int .i64 M0, .int .i64 M1, .int .i64 T2] : Array Value)[j]? := rt.cell
          have ft : ∀ j, W14.frozen? ⟨w.heap.size + 1 + 1 + 1 + 1, j, none⟩ = false := rt.frozen
          have zt : w.heap.size + 1 + 1 + 1 + 1 < W14.heap.size := rt.lt
          refine region_below 14 (by kernel_rfl) (by kernel_rfl) ?_
          simp only [List.take_succ_cons, List.take_zero, List.drop_succ_cons, List.drop_zero]
          repeat (first | (refine' InText.skip (by rfl) ?_; simp only [Act.put, List.setIfInBounds_toArray, List.set_cons_zero, List.set_cons_succ]) | (refine' InText.val (by rfl) (fun wr hr => ?_) ?_; rotate_left 1; (focus (obtain ⟨hrc, hrf⟩ := bcell hr; (go_simp <;> with_reducible rfl); done)); simp only [Act.put, List.setIfInBounds_toArray, List.set_cons_zero, List.set_cons_succ]))
          refine fun wra hra => ?_
          obtain ⟨hrca, hrfa⟩ := bcell hra
          clear cb fb zb cr fr zr cq fq zq cl fl zl ct ft zt
          replace rb := rb.keep hra
          replace rr := rr.keep hra
          replace rq := rq.keep hra
          replace rl := rl.keep hra
          replace rt := rt.keep hra
          replace kw := kw.trans (hra.mono kw.size)
          have cb : ∀ j, wra.cell? ⟨w.heap.size, j, none⟩ = (#[.int .i64 x, .int .i64 y, .int .i64 z, .int .i64 (x'), .int .i64 (y'), .int .i64 (z')] : Array Value)[j]? := rb.cell
          have fb : ∀ j, wra.frozen? ⟨w.heap.size, j, none⟩ = false := rb.frozen
          have zb : w.heap.size < wra.heap.size := rb.lt
          have cr : ∀ j, wra.cell? ⟨w.heap.size + 1, j, none⟩ = (#[.int .i64 0, .int .i64 0, .int .i64 0] : Array Value)[j]? := rr.cell
          have fr : ∀ j, wra.frozen? ⟨w.heap.size + 1, j, none⟩ = false := rr.frozen
          have zr : w.heap.size + 1 < wra.heap.size := rr.lt
          have cq : ∀ j, wra.cell? ⟨w.heap.size + 1 + 1, j, none⟩ = (#[.int .i64 0, .int .i64 0, .int .i64 0] : Array Value)[j]? := rq.cell
          have fq : ∀ j, wra.frozen? ⟨w.heap.size + 1 + 1, j, none⟩ = false := rq.frozen
          have zq : w.heap.size + 1 + 1 < wra.heap.size := rq.lt
          have cl : ∀ j, wra.cell? ⟨w.heap.size + 1 + 1 + 1, j, none⟩ = (#[.int .i64 L0, .int .i64 L1, .int .i64 L2] : Array Value)[j]? := rl.cell
          have fl : ∀ j, wra.frozen? ⟨w.heap.size + 1 + 1 + 1, j, none⟩ = false := rl.frozen
          have zl : w.heap.size + 1 + 1 + 1 < wra.heap.size := rl.lt
          have ct : ∀ j, wra.cell? ⟨w.heap.size + 1 + 1 + 1 + 1, j, none⟩ = (#[.int .i64 M0, .int .i64 M1, .int .i64 T2] : Array Value)[j]? := rt.cell
          have ft : ∀ j, wra.frozen? ⟨w.heap.size + 1 + 1 + 1 + 1, j, none⟩ = false := rt.frozen
          have zt : w.heap.size + 1 + 1 + 1 + 1 < wra.heap.size := rt.lt
          clear hra hrca hrfa
          go_wp2_with fail
          go_wp2_with fail
          go_roundw
          case rel =>
            exact ⟨3, by omega, by go_num, ⟨fun h => hok.1 (by omega), fun h => hok.2.1 (by omega), fun _ => i0⟩, by (repeat (first | with_reducible assumption | with_reducible exact Below.refl _ _ | with_reducible refine Below.drew ?_ | with_reducible refine below_drewN ?_ _ | with_reducible refine al ?_ _ | (with_reducible refine sc ?_ ?_; (focus (first | omega | (simp; done) | (simp; omega)))) | (with_reducible refine chain ?_ (by assumption)))), rb, rr, rq, rl, rt⟩
          case measure => simp [intOf]
        · clear S0 S1 S2
          subst i3
          have cb : ∀ j, wr.cell? ⟨w.heap.size, j, none⟩ = (#[.int .i64 x, .int .i64 y, .int .i64 z, .int .i64 (x'), .int .i64 (y'), .int .i64 (z')] : Array Value)[j]? := rb.cell
          have fb : ∀ j, wr.frozen? ⟨w.heap.size, j, none⟩ = false := rb.frozen
          have zb : w.heap.size < wr.heap.size := rb.lt
          have cr : ∀ j, wr.cell? ⟨w.heap.size + 1, j, none⟩ = (#[.int .i64 0, .int .i64 0, .int .i64 0] : Array Value)[j]? := rr.cell
          have fr : ∀ j, wr.frozen? ⟨w.heap.size + 1, j, none⟩ = false := rr.frozen
          have zr : w.heap.size + 1 < wr.heap.size := rr.lt
          have cq : ∀ j, wr.cell? ⟨w.heap.size + 1 + 1, j, none⟩ = (#[.int .i64 0, .int .i64 0, .int .i64 0] : Array Value)[j]? := rq.cell
          have fq : ∀ j, wr.frozen? ⟨w.heap.size + 1 + 1, j, none⟩ = false := rq.frozen
          have zq : w.heap.size + 1 + 1 < wr.heap.size := rq.lt
          have cl : ∀ j, wr.cell? ⟨w.heap.size + 1 + 1 + 1, j, none⟩ = (#[.int .i64 L0, .int .i64 L1, .int .i64 0] : Array Value)[j]? := rl.cell
          have fl : ∀ j, wr.frozen? ⟨w.heap.size + 1 + 1 + 1, j, none⟩ = false := rl.frozen
          have zl : w.heap.size + 1 + 1 + 1 < wr.heap.size := rl.lt
          have ct : ∀ j, wr.cell? ⟨w.heap.size + 1 + 1 + 1 + 1, j, none⟩ = (#[.int .i64 M0, .int .i64 M1, .int .i64 0] : Array Value)[j]? := rt.cell
          have ft : ∀ j, wr.frozen? ⟨w.heap.size + 1 + 1 + 1 + 1, j, none⟩ = false := rt.frozen
          have zt : w.heap.size + 1 + 1 + 1 + 1 < wr.heap.size := rt.lt
          go_wp2_with fail
          (refine (A2.out _).mono ?_; rintro e W11 ⟨rfl, hW11⟩)
          clear cb fb zb cr fr zr cq fq zq cl fl zl ct ft zt
          replace rb := rb.keep hW11
          replace rr := rr.keep hW11
          replace rq := rq.keep hW11
          replace rl := rl.keep hW11
          replace rt := rt.keep hW11
          replace kw := kw.trans (hW11.mono kw.size)
          have cb : ∀ j, W11.cell? ⟨w.heap.size, j, none⟩ = (#[.int .i64 x, .int .i64 y, .int .i64 z, .int .i64 (x'), .int .i64 (y'), .int .i64 (z')] : Array Value)[j]? := rb.cell
          have fb : ∀ j, W11.frozen? ⟨w.heap.size, j, none⟩ = false := rb.frozen
          have zb : w.heap.size < W11.heap.size := rb.lt
          have cr : ∀ j, W11.cell? ⟨w.heap.size + 1, j, none⟩ = (#[.int .i64 0, .int .i64 0, .int .i64 0] : Array Value)[j]? := rr.cell
          have fr : ∀ j, W11.frozen? ⟨w.heap.size + 1, j, none⟩ = false := rr.frozen
          have zr : w.heap.size + 1 < W11.heap.size := rr.lt
          have cq : ∀ j, W11.cell? ⟨w.heap.size + 1 + 1, j, none⟩ = (#[.int .i64 0, .int .i64 0, .int .i64 0] : Array Value)[j]? := rq.cell
          have fq : ∀ j, W11.frozen? ⟨w.heap.size + 1 + 1, j, none⟩ = false := rq.frozen
          have zq : w.heap.size + 1 + 1 < W11.heap.size := rq.lt
          have cl : ∀ j, W11.cell? ⟨w.heap.size + 1 + 1 + 1, j, none⟩ = (#[.int .i64 L0, .int .i64 L1, .int .i64 0] : Array Value)[j]? := rl.cell
          have fl : ∀ j, W11.frozen? ⟨w.heap.size + 1 + 1 + 1, j, none⟩ = false := rl.frozen
          have zl : w.heap.size + 1 + 1 + 1 < W11.heap.size := rl.lt
          have ct : ∀ j, W11.cell? ⟨w.heap.size + 1 + 1 + 1 + 1, j, none⟩ = (#[.int .i64 M0, .int .i64 M1, .int .i64 0] : Array Value)[j]? := rt.cell
          have ft : ∀ j, W11.frozen? ⟨w.heap.size + 1 + 1 + 1 + 1, j, none⟩ = false := rt.frozen
          have zt : w.heap.size + 1 + 1 + 1 + 1 < W11.heap.size := rt.lt
          clear hW11
          go_wp2_with fail
          (refine (E2.out _).mono ?_; rintro e W12 ⟨rfl, hW12⟩)
          clear cb fb zb cr fr zr cq fq zq cl fl zl ct ft zt
          replace rb := rb.keep hW12
          replace rr := rr.keep hW12
          replace rq := rq.keep hW12
          replace rl := rl.keep hW12
          replace rt := rt.keep hW12
          replace kw := kw.trans (hW12.mono kw.size)
          have cb : ∀ j, W12.cell? ⟨w.heap.size, j, none⟩ = (#[.int .i64 x, .int .i64 y, .int .i64 z, .int .i64 (x'), .int .i64 (y'), .int .i64 (z')] : Array Value)[j]? := rb.cell
          have fb : ∀ j, W12.frozen? ⟨w.heap.size, j, none⟩ = false := rb.frozen
          have zb : w.heap.size < W12.heap.size := rb.lt
          have cr : ∀ j, W12.cell? ⟨w.heap.size + 1, j, none⟩ = (#[.int .i64 0, .int .i64 0, .int .i64 0] : Array Value)[j]? := rr.cell
          have fr : ∀ j, W12.frozen? ⟨w.heap.size + 1, j, none⟩ = false := rr.frozen
          have zr : w.heap.size + 1 < W12.heap.size := rr.lt
          have cq : ∀ j, W12.cell? ⟨w.heap.size + 1 + 1, j, none⟩ = (#[.int .i64 0, .int .i64 0, .int .i64 0] : Array Value)[j]? := rq.cell
          have fq : ∀ j, W12.frozen? ⟨w.heap.size + 1 + 1, j, none⟩ = false := rq.frozen
          have zq : w.heap.size + 1 + 1 < W12.heap.size := rq.lt
          have cl : ∀ j, W12.cell? ⟨w.heap.size + 1 + 1 + 1, j, none⟩ = (#[.int .i64 L0, .int .i64 L1, .int .i64 0] : Array Value)[j]? := rl.cell
          have fl : ∀ j, W12.frozen? ⟨w.heap.size + 1 + 1 + 1, j, none⟩ = false := rl.frozen
          have zl : w.heap.size + 1 + 1 + 1 < W12.heap.size := rl.lt
          have ct : ∀ j, W12.cell? ⟨w.heap.size + 1 + 1 + 1 + 1, j, none⟩ = (#[.int .i64 M0, .int .i64 M1, .int .i64 0] : Array Value)[j]? := rt.cell
          have ft : ∀ j, W12.frozen? ⟨w.heap.size + 1 + 1 + 1 + 1, j, none⟩ = false := rt.frozen
          have zt : w.heap.size + 1 + 1 + 1 + 1 < W12.heap.size := rt.lt
          clear hW12
          go_wp2_with (go_at_call 46; refine (FL2.out _).mono ?_; rintro e w' ⟨rfl, rfl⟩)
          replace kw : Below w.heap.size w (W12.setCell ⟨w.heap.size + 1 + 1 + 1, 2, none⟩ (.int .i64 L2)) := by (repeat (first | with_reducible assumption | with_reducible exact Below.refl _ _ | with_reducible refine Below.drew ?_ | with_reducible refine below_drewN ?_ _ | with_reducible refine al ?_ _ | (with_reducible refine sc ?_ ?_; (focus (first | omega | (simp; done) | (simp; omega)))) | (with_reducible refine chain ?_ (by assumption))))
          replace rb : RowAt (W12.setCell ⟨w.heap.size + 1 + 1 + 1, 2, none⟩ (.int .i64 L2)) (w.heap.size) #[.int .i64 x, .int .i64 y, .int .i64 z, .int .i64 (x'), .int .i64 (y'), .int .i64 (z')] 31 := (rb.other (p := ⟨w.heap.size + 1 + 1 + 1, 2, none⟩) (by first | omega | (simp; done) | (simp; omega)) (.int .i64 L2))
          replace rr : RowAt (W12.setCell ⟨w.heap.size + 1 + 1 + 1, 2, none⟩ (.int .i64 L2)) (w.heap.size + 1) #[.int .i64 0, .int .i64 0, .int .i64 0] 28 := (rr.other (p := ⟨w.heap.size + 1 + 1 + 1, 2, none⟩) (by first | omega | (simp; done) | (simp; omega)) (.int .i64 L2))
          replace rq : RowAt (W12.setCell ⟨w.heap.size + 1 + 1 + 1, 2, none⟩ (.int .i64 L2)) (w.heap.size + 1 + 1) #[.int .i64 0, .int .i64 0, .int .i64 0] 28 := (rq.other (p := ⟨w.heap.size + 1 + 1 + 1, 2, none⟩) (by first | omega | (simp; done) | (simp; omega)) (.int .i64 L2))
          replace rl : RowAt (W12.setCell ⟨w.heap.size + 1 + 1 + 1, 2, none⟩ (.int .i64 L2)) (w.heap.size + 1 + 1 + 1) #[.int .i64 L0, .int .i64 L1, .int .i64 L2] 64 := (rl.set 2 (.int .i64 L2))
          replace rt : RowAt (W12.setCell ⟨w.heap.size + 1 + 1 + 1, 2, none⟩ (.int .i64 L2)) (w.heap.size + 1 + 1 + 1 + 1) #[.int .i64 M0, .int .i64 M1, .int .i64 0] 64 := (rt.other (p := ⟨w.heap.size + 1 + 1 + 1, 2, none⟩) (by first | omega | (simp; done) | (simp; omega)) (.int .i64 L2))
          clear cb fb zb cr fr zr cq fq zq cl fl zl ct ft zt
          generalize (W12.setCell ⟨w.heap.size + 1 + 1 + 1, 2, none⟩ (.int .i64 L2)) = W13 at *
          have cb : ∀ j, W13.cell? ⟨w.heap.size, j, none⟩ = (#[.int .i64 x, .int .i64 y, .int .i64 z, .int .i64 (x'), .int .i64 (y'), .int .i64 (z')] : Array Value)[j]? := rb.cell
          have fb : ∀ j, W13.frozen? ⟨w.heap.size, j, none⟩ = false := rb.frozen
          have zb : w.heap.size < W13.heap.size := rb.lt
          have cr : ∀ j, W13.cell? ⟨w.heap.size + 1, j, none⟩ = (#[.int .i64 0, .int .i64 0, .int .i64 0] : Array Value)[j]? := rr.cell
          have fr : ∀ j, W13.frozen? ⟨w.heap.size + 1, j, none⟩ = false := rr.frozen
          have zr : w.heap.size + 1 < W13.heap.size := rr.lt
          have cq : ∀ j, W13.cell? ⟨w.heap.size + 1 + 1, j, none⟩ = (#[.int .i64 0, .int .i64 0, .int .i64 0] : Array Value)[j]? := rq.cell
          have fq : ∀ j, W13.frozen? ⟨w.heap.size + 1 + 1, j, none⟩ = false := rq.frozen
          have zq : w.heap.size + 1 + 1 < W13.heap.size := rq.lt
          have cl : ∀ j, W13.cell? ⟨w.heap.size + 1 + 1 + 1, j, none⟩ = (#[.int .i64 L0, .int .i64 L1, .int .i64 L2] : Array Value)[j]? := rl.cell
          have fl : ∀ j, W13.frozen? ⟨w.heap.size + 1 + 1 + 1, j, none⟩ = false := rl.frozen
          have zl : w.heap.size + 1 + 1 + 1 < W13.heap.size := rl.lt
          have ct : ∀ j, W13.cell? ⟨w.heap.size + 1 + 1 + 1 + 1, j, none⟩ = (#[.int .i64 M0, .int .i64 M1, .int .i64 0] : Array Value)[j]? := rt.cell
          have ft : ∀ j, W13.frozen? ⟨w.heap.size + 1 + 1 + 1 + 1, j, none⟩ = false := rt.frozen
          have zt : w.heap.size + 1 + 1 + 1 + 1 < W13.heap.size := rt.lt
          go_wp2_with (go_at_call 46; refine (FT2.out _).mono ?_; rintro e w' ⟨rfl, rfl⟩)
          replace kw : Below w.heap.size w (W13.setCell ⟨w.heap.size + 1 + 1 + 1 + 1, 2, none⟩ (.int .i64 T2)) := by (repeat (first | with_reducible assumption | with_reducible exact Below.refl _ _ | with_reducible refine Below.drew ?_ | with_reducible refine below_drewN ?_ _ | with_reducible refine al ?_ _ | (with_reducible refine sc ?_ ?_; (focus (first | omega | (simp; done) | (simp; omega)))) | (with_reducible refine chain ?_ (by assumption))))
          replace rb : RowAt (W13.setCell ⟨w.heap.size + 1 + 1 + 1 + 1, 2, none⟩ (.int .i64 T2)) (w.heap.size) #[.int .i64 x, .int .i64 y, .int .i64 z, .int .i64 (x'), .int .i64 (y'), .int .i64 (z')] 31 := (rb.other (p := ⟨w.heap.size + 1 + 1 + 1 + 1, 2, none⟩) (by first | omega | (simp; done) | (simp; omega)) (.int .i64 T2))
          replace rr : RowAt (W13.setCell ⟨w.heap.size + 1 + 1 + 1 + 1, 2, none⟩ (.int .i64 T2)) (w.heap.size + 1) #[.int .i64 0, .int .i64 0, .int .i64 0] 28 := (rr.other (p := ⟨w.heap.size + 1 + 1 + 1 + 1, 2, none⟩) (by first | omega | (simp; done) | (simp; omega)) (.int .i64 T2))
          replace rq : RowAt (W13.setCell ⟨w.heap.size + 1 + 1 + 1 + 1, 2, none⟩ (.int .i64 T2)) (w.heap.size + 1 + 1) #[.int .i64 0, .int .i64 0, .int .i64 0] 28 := (rq.other (p := ⟨w.heap.size + 1 + 1 + 1 + 1, 2, none⟩) (by first | omega | (simp; done) | (simp; omega)) (.int .i64 T2))
          replace rl : RowAt (W13.setCell ⟨w.heap.size + 1 + 1 + 1 + 1, 2, none⟩ (.int .i64 T2)) (w.heap.size + 1 + 1 + 1) #[.int .i64 L0, .int .i64 L1, .int .i64 L2] 64 := (rl.other (p := ⟨w.heap.size + 1 + 1 + 1 + 1, 2, none⟩) (by first | omega | (simp; done) | (simp; omega)) (.int .i64 T2))
          replace rt : RowAt (W13.setCell ⟨w.heap.size + 1 + 1 + 1 + 1, 2, none⟩ (.int .i64 T2)) (w.heap.size + 1 + 1 + 1 + 1) #[.int .i64 M0, .int .i64 M1, .int .i64 T2] 64 := (rt.set 2 (.int .i64 T2))
          clear cb fb zb cr fr zr cq fq zq cl fl zl ct ft zt
          generalize (W13.setCell ⟨w.heap.size + 1 + 1 + 1 + 1, 2, none⟩ (.int .i64 T2)) = W14 at *
          have cb : ∀ j, W14.cell? ⟨w.heap.size, j, none⟩ = (#[.int .i64 x, .int .i64 y, .int .i64 z, .int .i64 (x'), .int .i64 (y'), .int .i64 (z')] : Array Value)[j]? := rb.cell
          have fb : ∀ j, W14.frozen? ⟨w.heap.size, j, none⟩ = false := rb.frozen
          have zb : w.heap.size < W14.heap.size := rb.lt
          have cr : ∀ j, W14.cell? ⟨w.heap.size + 1, j, none⟩ = (#[.int .i64 0, .int .i64 0, .int .i64 0] : Array Value)[j]? := rr.cell
          have fr : ∀ j, W14.frozen? ⟨w.heap.size + 1, j, none⟩ = false := rr.frozen
          have zr : w.heap.size + 1 < W14.heap.size := rr.lt
          have cq : ∀ j, W14.cell? ⟨w.heap.size + 1 + 1, j, none⟩ = (#[.int .i64 0, .int .i64 0, .int .i64 0] : Array Value)[j]? := rq.cell
          have fq : ∀ j, W14.frozen? ⟨w.heap.size + 1 + 1, j, none⟩ = false := rq.frozen
          have zq : w.heap.size + 1 + 1 < W14.heap.size := rq.lt
          have cl : ∀ j, W14.cell? ⟨w.heap.size + 1 + 1 + 1, j, none⟩ = (#[.int .i64 L0, .int .i64 L1, .int .i64 L2] : Array Value)[j]? := rl.cell
          have fl : ∀ j, W14.frozen? ⟨w.heap.size + 1 + 1 + 1, j, none⟩ = false := rl.frozen
          have zl : w.heap.size + 1 + 1 + 1 < W14.heap.size := rl.lt
          have ct : ∀ j, W14.cell? ⟨w.heap.size + 1 + 1 + 1 + 1, j, none⟩ = (#[.int .i64 M0, .int .i64 M1, .int .i64 T2] : Array Value)[j]? := rt.cell
          have ft : ∀ j, W14.frozen? ⟨w.heap.size + 1 + 1 + 1 + 1, j, none⟩ = false := rt.frozen
          have zt : w.heap.size + 1 + 1 + 1 + 1 < W14.heap.size := rt.lt
          refine region_below 14 (by kernel_rfl) (by kernel_rfl) ?_
          simp only [List.take_succ_cons, List.take_zero, List.drop_succ_cons, List.drop_zero]
          repeat (first | (refine' InText.skip (by rfl) ?_; simp only [Act.put, List.setIfInBounds_toArray, List.set_cons_zero, List.set_cons_succ]) | (refine' InText.val (by rfl) (fun wr hr => ?_) ?_; rotate_left 1; (focus (obtain ⟨hrc, hrf⟩ := bcell hr; (go_simp <;> with_reducible rfl); done)); simp only [Act.put, List.setIfInBounds_toArray, List.set_cons_zero, List.set_cons_succ]))
          refine fun wra hra => ?_
          obtain ⟨hrca, hrfa⟩ := bcell hra
          clear cb fb zb cr fr zr cq fq zq cl fl zl ct ft zt
          replace rb := rb.keep hra
          replace rr := rr.keep hra
          replace rq := rq.keep hra
          replace rl := rl.keep hra
          replace rt := rt.keep hra
          replace kw := kw.trans (hra.mono kw.size)
          have cb : ∀ j, wra.cell? ⟨w.heap.size, j, none⟩ = (#[.int .i64 x, .int .i64 y, .int .i64 z, .int .i64 (x'), .int .i64 (y'), .int .i64 (z')] : Array Value)[j]? := rb.cell
          have fb : ∀ j, wra.frozen? ⟨w.heap.size, j, none⟩ = false := rb.frozen
          have zb : w.heap.size < wra.heap.size := rb.lt
          have cr : ∀ j, wra.cell? ⟨w.heap.size + 1, j, none⟩ = (#[.int .i64 0, .int .i64 0, .int .i64 0] : Array Value)[j]? := rr.cell
          have fr : ∀ j, wra.frozen? ⟨w.heap.size + 1, j, none⟩ = false := rr.frozen
          have zr : w.heap.size + 1 < wra.heap.size := rr.lt
          have cq : ∀ j, wra.cell? ⟨w.heap.size + 1 + 1, j, none⟩ = (#[.int .i64 0, .int .i64 0, .int .i64 0] : Array Value)[j]? := rq.cell
          have fq : ∀ j, wra.frozen? ⟨w.heap.size + 1 + 1, j, none⟩ = false := rq.frozen
          have zq : w.heap.size + 1 + 1 < wra.heap.size := rq.lt
          have cl : ∀ j, wra.cell? ⟨w.heap.size + 1 + 1 + 1, j, none⟩ = (#[.int .i64 L0, .int .i64 L1, .int .i64 L2] : Array Value)[j]? := rl.cell
          have fl : ∀ j, wra.frozen? ⟨w.heap.size + 1 + 1 + 1, j, none⟩ = false := rl.frozen
          have zl : w.heap.size + 1 + 1 + 1 < wra.heap.size := rl.lt
          have ct : ∀ j, wra.cell? ⟨w.heap.size + 1 + 1 + 1 + 1, j, none⟩ = (#[.int .i64 M0, .int .i64 M1, .int .i64 T2] : Array Value)[j]? := rt.cell
          have ft : ∀ j, wra.frozen? ⟨w.heap.size + 1 + 1 + 1 + 1, j, none⟩ = false := rt.frozen
          have zt : w.heap.size + 1 + 1 + 1 + 1 < wra.heap.size := rt.lt
          clear hra hrca hrfa
          go_wp2_with fail
          go_wp2_with fail
          go_roundw
          case rel =>
            exact ⟨3, by omega, by go_num, ⟨fun h => hok.1 (by omega), fun h => hok.2.1 (by omega), fun _ => i0⟩, by (repeat (first | with_reducible assumption | with_reducible exact Below.refl _ _ | with_reducible refine Below.drew ?_ | with_reducible refine below_drewN ?_ _ | with_reducible refine al ?_ _ | (with_reducible refine sc ?_ ?_; (focus (first | omega | (simp; done) | (simp; omega)))) | (with_reducible refine chain ?_ (by assumption)))), rb, rr, rq, rl, rt⟩
          case measure => simp [intOf]
        · clear S0 S1 S2
          have cb : ∀ j, wr.cell? ⟨w.heap.size, j, none⟩ = (#[.int .i64 x, .int .i64 y, .int .i64 z, .int .i64 (x'), .int .i64 (y'), .int .i64 (z')] : Array Value)[j]? := rb.cell
          have fb : ∀ j, wr.frozen? ⟨w.heap.size, j, none⟩ = false := rb.frozen
          have zb : w.heap.size < wr.heap.size := rb.lt
          have cr : ∀ j, wr.cell? ⟨w.heap.size + 1, j, none⟩ = (#[.int .i64 0, .int .i64 0, .int .i64 0] : Array Value)[j]? := rr.cell
          have fr : ∀ j, wr.frozen? ⟨w.heap.size + 1, j, none⟩ = false := rr.frozen
          have zr : w.heap.size + 1 < wr.heap.size := rr.lt
          have cq : ∀ j, wr.cell? ⟨w.heap.size + 1 + 1, j, none⟩ = (#[.int .i64 0, .int .i64 0, .int .i64 0] : Array Value)[j]? := rq.cell
          have fq : ∀ j, wr.frozen? ⟨w.heap.size + 1 + 1, j, none⟩ = false := rq.frozen
          have zq : w.heap.size + 1 + 1 < wr.heap.size := rq.lt
          have cl : ∀ j, wr.cell? ⟨w.heap.size + 1 + 1 + 1, j, none⟩ = (#[.int .i64 L0, .int .i64 L1, .int .i64 0] : Array Value)[j]? := rl.cell
          have fl : ∀ j, wr.frozen? ⟨w.heap.size + 1 + 1 + 1, j, none⟩ = false := rl.frozen
          have zl : w.heap.size + 1 + 1 + 1 < wr.heap.size := rl.lt
          have ct : ∀ j, wr.cell? ⟨w.heap.size + 1 + 1 + 1 + 1, j, none⟩ = (#[.int .i64 M0, .int .i64 M1, .int .i64 0] : Array Value)[j]? := rt.cell
          have ft : ∀ j, wr.frozen? ⟨w.heap.size + 1 + 1 + 1 + 1, j, none⟩ = false := rt.frozen
          have zt : w.heap.size + 1 + 1 + 1 + 1 < wr.heap.size := rt.lt
          go_wp2_with fail
          (refine (A2.out _).mono ?_; rintro e W11 ⟨rfl, hW11⟩)
          clear cb fb zb cr fr zr cq fq zq cl fl zl ct ft zt
          replace rb := rb.keep hW11
          replace rr := rr.keep hW11
          replace rq := rq.keep hW11
          replace rl := rl.keep hW11
          replace rt := rt.keep hW11
          replace kw := kw.trans (hW11.mono kw.size)
          have cb : ∀ j, W11.cell? ⟨w.heap.size, j, none⟩ = (#[.int .i64 x, .int .i64 y, .int .i64 z, .int .i64 (x'), .int .i64 (y'), .int .i64 (z')] : Array Value)[j]? := rb.cell
          have fb : ∀ j, W11.frozen? ⟨w.heap.size, j, none⟩ = false := rb.frozen
          have zb : w.heap.size < W11.heap.size := rb.lt
          have cr : ∀ j, W11.cell? ⟨w.heap.size + 1, j, none⟩ = (#[.int .i64 0, .int .i64 0, .int .i64 0] : Array Value)[j]? := rr.cell
          have fr : ∀ j, W11.frozen? ⟨w.heap.size + 1, j, none⟩ = false := rr.frozen
          have zr : w.heap.size + 1 < W11.heap.size := rr.lt
          have cq : ∀ j, W11.cell? ⟨w.heap.size + 1 + 1, j, none⟩ = (#[.int .i64 0, .int .i64 0, .int .i64 0] : Array Value)[j]? := rq.cell
          have fq : ∀ j, W11.frozen? ⟨w.heap.size + 1 + 1, j, none⟩ = false := rq.frozen
          have zq : w.heap.size + 1 + 1 < W11.heap.size := rq.lt
          have cl : ∀ j, W11.cell? ⟨w.heap.size + 1 + 1 + 1, j, none⟩ = (#[.int .i64 L0, .int .i64 L1, .int .i64 0] : Array Value)[j]? := rl.cell
          have fl : ∀ j, W11.frozen? ⟨w.heap.size + 1 + 1 + 1, j, none⟩ = false := rl.frozen
          have zl : w.heap.size + 1 + 1 + 1 < W11.heap.size := rl.lt
          have ct : ∀ j, W11.cell? ⟨w.heap.size + 1 + 1 + 1 + 1, j, none⟩ = (#[.int .i64 M0, .int .i64 M1, .int .i64 0] : Array Value)[j]? := rt.cell
          have ft : ∀ j, W11.frozen? ⟨w.heap.size + 1 + 1 + 1 + 1, j, none⟩ = false := rt.frozen
          have zt : w.heap.size + 1 + 1 + 1 + 1 < W11.heap.size := rt.lt
          clear hW11
          go_wp2_with fail
          (refine (E2.out _).mono ?_; rintro e W12 ⟨rfl, hW12⟩)
          clear cb fb zb cr fr zr cq fq zq cl fl zl ct ft zt
          replace rb := rb.keep hW12
          replace rr := rr.keep hW12
          replace rq := rq.keep hW12
          replace rl := rl.keep hW12
          replace rt := rt.keep hW12
          replace kw := kw.trans (hW12.mono kw.size)
          have cb : ∀ j, W12.cell? ⟨w.heap.size, j, none⟩ = (#[.int .i64 x, .int .i64 y, .int .i64 z, .int .i64 (x'), .int .i64 (y'), .int .i64 (z')] : Array Value)[j]? := rb.cell
          have fb : ∀ j, W12.frozen? ⟨w.heap.size, j, none⟩ = false := rb.frozen
          have zb : w.heap.size < W12.heap.size := rb.lt
          have cr : ∀ j, W12.cell? ⟨w.heap.size + 1, j, none⟩ = (#[.int .i64 0, .int .i64 0, .int .i64 0] : Array Value)[j]? := rr.cell
          have fr : ∀ j, W12.frozen? ⟨w.heap.size + 1, j, none⟩ = false := rr.frozen
          have zr : w.heap.size + 1 < W12.heap.size := rr.lt
          have cq : ∀ j, W12.cell? ⟨w.heap.size + 1 + 1, j, none⟩ = (#[.int .i64 0, .int .i64 0, .int .i64 0] : Array Value)[j]? := rq.cell
          have fq : ∀ j, W12.frozen? ⟨w.heap.size + 1 + 1, j, none⟩ = false := rq.frozen
          have zq : w.heap.size + 1 + 1 < W12.heap.size := rq.lt
          have cl : ∀ j, W12.cell? ⟨w.heap.size + 1 + 1 + 1, j, none⟩ = (#[.int .i64 L0, .int .i64 L1, .int .i64 0] : Array Value)[j]? := rl.cell
          have fl : ∀ j, W12.frozen? ⟨w.heap.size + 1 + 1 + 1, j, none⟩ = false := rl.frozen
          have zl : w.heap.size + 1 + 1 + 1 < W12.heap.size := rl.lt
          have ct : ∀ j, W12.cell? ⟨w.heap.size + 1 + 1 + 1 + 1, j, none⟩ = (#[.int .i64 M0, .int .i64 M1, .int .i64 0] : Array Value)[j]? := rt.cell
          have ft : ∀ j, W12.frozen? ⟨w.heap.size + 1 + 1 + 1 + 1, j, none⟩ = false := rt.frozen
          have zt : w.heap.size + 1 + 1 + 1 + 1 < W12.heap.size := rt.lt
          clear hW12
          go_wp2_with (go_at_call 46; refine (FL2.out _).mono ?_; rintro e w' ⟨rfl, rfl⟩)
          replace kw : Below w.heap.size w (W12.setCell ⟨w.heap.size + 1 + 1 + 1, 2, none⟩ (.int .i64 L2)) := by (repeat (first | with_reducible assumption | with_reducible exact Below.refl _ _ | with_reducible refine Below.drew ?_ | with_reducible refine below_drewN ?_ _ | with_reducible refine al ?_ _ | (with_reducible refine sc ?_ ?_; (focus (first | omega | (simp; done) | (simp; omega)))) | (with_reducible refine chain ?_ (by assumption))))
          replace rb : RowAt (W12.setCell ⟨w.heap.size + 1 + 1 + 1, 2, none⟩ (.int .i64 L2)) (w.heap.size) #[.int .i64 x, .int .i64 y, .int .i64 z, .int .i64 (x'), .int .i64 (y'), .int .i64 (z')] 31 := (rb.other (p := ⟨w.heap.size + 1 + 1 + 1, 2, none⟩) (by first | omega | (simp; done) | (simp; omega)) (.int .i64 L2))
          replace rr : RowAt (W12.setCell ⟨w.heap.size + 1 + 1 + 1, 2, none⟩ (.int .i64 L2)) (w.heap.size + 1) #[.int .i64 0, .int .i64 0, .int .i64 0] 28 := (rr.other (p := ⟨w.heap.size + 1 + 1 + 1, 2, none⟩) (by first | omega | (simp; done) | (simp; omega)) (.int .i64 L2))
          replace rq : RowAt (W12.setCell ⟨w.heap.size + 1 + 1 + 1, 2, none⟩ (.int .i64 L2)) (w.heap.size + 1 + 1) #[.int .i64 0, .int .i64 0, .int .i64 0] 28 := (rq.other (p := ⟨w.heap.size + 1 + 1 + 1, 2, none⟩) (by first | omega | (simp; done) | (simp; omega)) (.int .i64 L2))
          replace rl : RowAt (W12.setCell ⟨w.heap.size + 1 + 1 + 1, 2, none⟩ (.int .i64 L2)) (w.heap.size + 1 + 1 + 1) #[.int .i64 L0, .int .i64 L1, .int .i64 L2] 64 := (rl.set 2 (.int .i64 L2))
          replace rt : RowAt (W12.setCell ⟨w.heap.size + 1 + 1 + 1, 2, none⟩ (.int .i64 L2)) (w.heap.size + 1 + 1 + 1 + 1) #[.int .i64 M0, .int .i64 M1, .int .i64 0] 64 := (rt.other (p := ⟨w.heap.size + 1 + 1 + 1, 2, none⟩) (by first | omega | (simp; done) | (simp; omega)) (.int .i64 L2))
          clear cb fb zb cr fr zr cq fq zq cl fl zl ct ft zt
          generalize (W12.setCell ⟨w.heap.size + 1 + 1 + 1, 2, none⟩ (.int .i64 L2)) = W13 at *
          have cb : ∀ j, W13.cell? ⟨w.heap.size, j, none⟩ = (#[.int .i64 x, .int .i64 y, .int .i64 z, .int .i64 (x'), .int .i64 (y'), .int .i64 (z')] : Array Value)[j]? := rb.cell
          have fb : ∀ j, W13.frozen? ⟨w.heap.size, j, none⟩ = false := rb.frozen
          have zb : w.heap.size < W13.heap.size := rb.lt
          have cr : ∀ j, W13.cell? ⟨w.heap.size + 1, j, none⟩ = (#[.int .i64 0, .int .i64 0, .int .i64 0] : Array Value)[j]? := rr.cell
          have fr : ∀ j, W13.frozen? ⟨w.heap.size + 1, j, none⟩ = false := rr.frozen
          have zr : w.heap.size + 1 < W13.heap.size := rr.lt
          have cq : ∀ j, W13.cell? ⟨w.heap.size + 1 + 1, j, none⟩ = (#[.int .i64 0, .int .i64 0, .int .i64 0] : Array Value)[j]? := rq.cell
          have fq : ∀ j, W13.frozen? ⟨w.heap.size + 1 + 1, j, none⟩ = false := rq.frozen
          have zq : w.heap.size + 1 + 1 < W13.heap.size := rq.lt
          have cl : ∀ j, W13.cell? ⟨w.heap.size + 1 + 1 + 1, j, none⟩ = (#[.int .i64 L0, .int .i64 L1, .int .i64 L2] : Array Value)[j]? := rl.cell
          have fl : ∀ j, W13.frozen? ⟨w.heap.size + 1 + 1 + 1, j, none⟩ = false := rl.frozen
          have zl : w.heap.size + 1 + 1 + 1 < W13.heap.size := rl.lt
          have ct : ∀ j, W13.cell? ⟨w.heap.size + 1 + 1 + 1 + 1, j, none⟩ = (#[.int .i64 M0, .int .i64 M1, .int .i64 0] : Array Value)[j]? := rt.cell
          have ft : ∀ j, W13.frozen? ⟨w.heap.size + 1 + 1 + 1 + 1, j, none⟩ = false := rt.frozen
          have zt : w.heap.size + 1 + 1 + 1 + 1 < W13.heap.size := rt.lt
          go_wp2_with (go_at_call 46; refine (FT2.out _).mono ?_; rintro e w' ⟨rfl, rfl⟩)
          replace kw : Below w.heap.size w (W13.setCell ⟨w.heap.size + 1 + 1 + 1 + 1, 2, none⟩ (.int .i64 T2)) := by (repeat (first | with_reducible assumption | with_reducible exact Below.refl _ _ | with_reducible refine Below.drew ?_ | with_reducible refine below_drewN ?_ _ | with_reducible refine al ?_ _ | (with_reducible refine sc ?_ ?_; (focus (first | omega | (simp; done) | (simp; omega)))) | (with_reducible refine chain ?_ (by assumption))))
          replace rb : RowAt (W13.setCell ⟨w.heap.size + 1 + 1 + 1 + 1, 2, none⟩ (.int .i64 T2)) (w.heap.size) #[.int .i64 x, .int .i64 y, .int .i64 z, .int .i64 (x'), .int .i64 (y'), .int .i64 (z')] 31 := (rb.other (p := ⟨w.heap.size + 1 + 1 + 1 + 1, 2, none⟩) (by first | omega | (simp; done) | (simp; omega)) (.int .i64 T2))
          replace rr : RowAt (W13.setCell ⟨w.heap.size + 1 + 1 + 1 + 1, 2, none⟩ (.int .i64 T2)) (w.heap.size + 1) #[.int .i64 0, .int .i64 0, .int .i64 0] 28 := (rr.other (p := ⟨w.heap.size + 1 + 1 + 1 + 1, 2, none⟩) (by first | omega | (simp; done) | (simp; omega)) (.int .i64 T2))
          replace rq : RowAt (W13.setCell ⟨w.heap.size + 1 + 1 + 1 + 1, 2, none⟩ (.int .i64 T2)) (w.heap.size + 1 + 1) #[.int .i64 0, .int .i64 0, .int .i64 0] 28 := (rq.other (p := ⟨w.heap.size + 1 + 1 + 1 + 1, 2, none⟩) (by first | omega | (simp; done) | (simp; omega)) (.int .i64 T2))
          replace rl : RowAt (W13.setCell ⟨w.heap.size + 1 + 1 + 1 + 1, 2, none⟩ (.int .i64 T2)) (w.heap.size + 1 + 1 + 1) #[.int .i64 L0, .int .i64 L1, .int .i64 L2] 64 := (rl.other (p := ⟨w.heap.size + 1 + 1 + 1 + 1, 2, none⟩) (by first | omega | (simp; done) | (simp; omega)) (.int .i64 T2))
          replace rt : RowAt (W13.setCell ⟨w.heap.size + 1 + 1 + 1 + 1, 2, none⟩ (.int .i64 T2)) (w.heap.size + 1 + 1 + 1 + 1) #[.int .i64 M0, .int .i64 M1, .int .i64 T2] 64 := (rt.set 2 (.int .i64 T2))
          clear cb fb zb cr fr zr cq fq zq cl fl zl ct ft zt
          generalize (W13.setCell ⟨w.heap.size + 1 + 1 + 1 + 1, 2, none⟩ (.int .i64 T2)) = W14 at *
          have cb : ∀ j, W14.cell? ⟨w.heap.size, j, none⟩ = (#[.int .i64 x, .int .i64 y, .int .i64 z, .int .i64 (x'), .int .i64 (y'), .int .i64 (z')] : Array Value)[j]? := rb.cell
          have fb : ∀ j, W14.frozen? ⟨w.heap.size, j, none⟩ = false := rb.frozen
          have zb : w.heap.size < W14.heap.size := rb.lt
          have cr : ∀ j, W14.cell? ⟨w.heap.size + 1, j, none⟩ = (#[.int .i64 0, .int .i64 0, .int .i64 0] : Array Value)[j]? := rr.cell
          have fr : ∀ j, W14.frozen? ⟨w.heap.size + 1, j, none⟩ = false := rr.frozen
          have zr : w.heap.size + 1 < W14.heap.size := rr.lt
          have cq : ∀ j, W14.cell? ⟨w.heap.size + 1 + 1, j, none⟩ = (#[.int .i64 0, .int .i64 0, .int .i64 0] : Array Value)[j]? := rq.cell
          have fq : ∀ j, W14.frozen? ⟨w.heap.size + 1 + 1, j, none⟩ = false := rq.frozen
          have zq : w.heap.size + 1 + 1 < W14.heap.size := rq.lt
          have cl : ∀ j, W14.cell? ⟨w.heap.size + 1 + 1 + 1, j, none⟩ = (#[.int .i64 L0, .int .i64 L1, .int .i64 L2] : Array Value)[j]? := rl.cell
          have fl : ∀ j, W14.frozen? ⟨w.heap.size + 1 + 1 + 1, j, none⟩ = false := rl.frozen
          have zl : w.heap.size + 1 + 1 + 1 < W14.heap.size := rl.lt
          have ct : ∀ j, W14.cell? ⟨w.heap.size + 1 + 1 + 1 + 1, j, none⟩ = (#[.int .i64 M0, .int .i64 M1, .int .i64 T2] : Array Value)[j]? := rt.cell
          have ft : ∀ j, W14.frozen? ⟨w.heap.size + 1 + 1 + 1 + 1, j, none⟩ = false := rt.frozen
          have zt : w.heap.size + 1 + 1 + 1 + 1 < W14.heap.size := rt.lt
          refine region_below 14 (by kernel_rfl) (by kernel_rfl) ?_
          simp only [List.take_succ_cons, List.take_zero, List.drop_succ_cons, List.drop_zero]
          repeat (first | (refine' InText.skip (by rfl) ?_; simp only [Act.put, List.setIfInBounds_toArray, List.set_cons_zero, List.set_cons_succ]) | (refine' InText.val (by rfl) (fun wr hr => ?_) ?_; rotate_left 1; (focus (obtain ⟨hrc, hrf⟩ := bcell hr; (go_simp <;> with_reducible rfl); done)); simp only [Act.put, List.setIfInBounds_toArray, List.set_cons_zero, List.set_cons_succ]))
          refine fun wra hra => ?_
          obtain ⟨hrca, hrfa⟩ := bcell hra
          clear cb fb zb cr fr zr cq fq zq cl fl zl ct ft zt
          replace rb := rb.keep hra
          replace rr := rr.keep hra
          replace rq := rq.keep hra
          replace rl := rl.keep hra
          replace rt := rt.keep hra
          replace kw := kw.trans (hra.mono kw.size)
          have cb : ∀ j, wra.cell? ⟨w.heap.size, j, none⟩ = (#[.int .i64 x, .int .i64 y, .int .i64 z, .int .i64 (x'), .int .i64 (y'), .int .i64 (z')] : Array Value)[j]? := rb.cell
          have fb : ∀ j, wra.frozen? ⟨w.heap.size, j, none⟩ = false := rb.frozen
          have zb : w.heap.size < wra.heap.size := rb.lt
          have cr : ∀ j, wra.cell? ⟨w.heap.size + 1, j, none⟩ = (#[.int .i64 0, .int .i64 0, .int .i64 0] : Array Value)[j]? := rr.cell
          have fr : ∀ j, wra.frozen? ⟨w.heap.size + 1, j, none⟩ = false := rr.frozen
          have zr : w.heap.size + 1 < wra.heap.size := rr.lt
          have cq : ∀ j, wra.cell? ⟨w.heap.size + 1 + 1, j, none⟩ = (#[.int .i64 0, .int .i64 0, .int .i64 0] : Array Value)[j]? := rq.cell
          have fq : ∀ j, wra.frozen? ⟨w.heap.size + 1 + 1, j, none⟩ = false := rq.frozen
          have zq : w.heap.size + 1 + 1 < wra.heap.size := rq.lt
          have cl : ∀ j, wra.cell? ⟨w.heap.size + 1 + 1 + 1, j, none⟩ = (#[.int .i64 L0, .int .i64 L1, .int .i64 L2] : Array Value)[j]? := rl.cell
          have fl : ∀ j, wra.frozen? ⟨w.heap.size + 1 + 1 + 1, j, none⟩ = false := rl.frozen
          have zl : w.heap.size + 1 + 1 + 1 < wra.heap.size := rl.lt
          have ct : ∀ j, wra.cell? ⟨w.heap.size + 1 + 1 + 1 + 1, j, none⟩ = (#[.int .i64 M0, .int .i64 M1, .int .i64 T2] : Array Value)[j]? := rt.cell
          have ft : ∀ j, wra.frozen? ⟨w.heap.size + 1 + 1 + 1 + 1, j, none⟩ = false := rt.frozen
          have zt : w.heap.size + 1 + 1 + 1 + 1 < wra.heap.size := rt.lt
          clear hra hrca hrfa
          go_wp2_with fail
          refine bodyPost_ret (v := spanR L0 L1 L2 M0 M1 M2) (by unfold spanR; rw [if_neg (fun h => absurd h.2.2 (by omega))]; simp [results, Try.results37, go_sem, *]; done) rfl ⟨rfl, ?_⟩
          (repeat (first | with_reducible assumption | with_reducible exact Below.refl _ _ | with_reducible refine Below.drew ?_ | with_reducible refine below_drewN ?_ _ | with_reducible refine al ?_ _ | (with_reducible refine sc ?_ ?_; (focus (first | omega | (simp; done) | (simp; omega)))) | (with_reducible refine chain ?_ (by assumption))))
    · obtain rfl : k = 3 := by omega
      replace rl : RowAt wr (w.heap.size + 1 + 1 + 1) #[.int .i64 L0, .int .i64 L1, .int .i64 L2] 64 := rl
      replace rt : RowAt wr (w.heap.size + 1 + 1 + 1 + 1) #[.int .i64 M0, .int .i64 M1, .int .i64 M2] 64 := rt
      have cb : ∀ j, wr.cell? ⟨w.heap.size, j, none⟩ = (#[.int .i64 x, .int .i64 y, .int .i64 z, .int .i64 (x'), .int .i64 (y'), .int .i64 (z')] : Array Value)[j]? := rb.cell
      have fb : ∀ j, wr.frozen? ⟨w.heap.size, j, none⟩ = false := rb.frozen
      have zb : w.heap.size < wr.heap.size := rb.lt
      have cr : ∀ j, wr.cell? ⟨w.heap.size + 1, j, none⟩ = (#[.int .i64 0, .int .i64 0, .int .i64 0] : Array Value)[j]? := rr.cell
      have fr : ∀ j, wr.frozen? ⟨w.heap.size + 1, j, none⟩ = false := rr.frozen
      have zr : w.heap.size + 1 < wr.heap.size := rr.lt
      have cq : ∀ j, wr.cell? ⟨w.heap.size + 1 + 1, j, none⟩ = (#[.int .i64 0, .int .i64 0, .int .i64 0] : Array Value)[j]? := rq.cell
      have fq : ∀ j, wr.frozen? ⟨w.heap.size + 1 + 1, j, none⟩ = false := rq.frozen
      have zq : w.heap.size + 1 + 1 < wr.heap.size := rq.lt
      have cl : ∀ j, wr.cell? ⟨w.heap.size + 1 + 1 + 1, j, none⟩ = (#[.int .i64 L0, .int .i64 L1, .int .i64 L2] : Array Value)[j]? := rl.cell
      have fl : ∀ j, wr.frozen? ⟨w.heap.size + 1 + 1 + 1, j, none⟩ = false := rl.frozen
      have zl : w.heap.size + 1 + 1 + 1 < wr.heap.size := rl.lt
      have ct : ∀ j, wr.cell? ⟨w.heap.size + 1 + 1 + 1 + 1, j, none⟩ = (#[.int .i64 M0, .int .i64 M1, .int .i64 M2] : Array Value)[j]? := rt.cell
      have ft : ∀ j, wr.frozen? ⟨w.heap.size + 1 + 1 + 1 + 1, j, none⟩ = false := rt.frozen
      have zt : w.heap.size + 1 + 1 + 1 + 1 < wr.heap.size := rt.lt
      clear S0 S1 S2
      go_wp2_with fail
      go_region_held3 (fun w' => w'.cell? ⟨w.heap.size + 1 + 1 + 1, 0, none⟩ = some (.int .i64 L0) ∧ w'.cell? ⟨w.heap.size + 1 + 1 + 1, 1, none⟩ = some (.int .i64 L1) ∧ w'.cell? ⟨w.heap.size + 1 + 1 + 1, 2, none⟩ = some (.int .i64 L2) ∧ w'.cell? ⟨w.heap.size + 1 + 1 + 1 + 1, 0, none⟩ = some (.int .i64 M0) ∧ w'.cell? ⟨w.heap.size + 1 + 1 + 1 + 1, 1, none⟩ = some (.int .i64 M1) ∧ w'.cell? ⟨w.heap.size + 1 + 1 + 1 + 1, 2, none⟩ = some (.int .i64 M2)) (go_keep) (fail)
      all_goals
        go_wp2_with fail
        refine bodyPost_ret (v := spanR L0 L1 L2 M0 M1 M2) (by unfold spanR; rw [if_pos ⟨hok.1 (by omega), hok.2.1 (by omega), hok.2.2 (by omega)⟩]; simp [results, Try.results37, go_sem, *]; done) rfl ⟨rfl, ?_⟩
        (repeat (first | with_reducible assumption | with_reducible exact Below.refl _ _ | with_reducible refine Below.drew ?_ | with_reducible refine below_drewN ?_ _ | with_reducible refine al ?_ _ | (with_reducible refine sc ?_ ?_; (focus (first | omega | (simp; done) | (simp; omega)))) | (with_reducible refine chain ?_ (by assumption))))
end Go.Proofs.Ytenpcmhfbbfpeaa
