/- For every three cells the law CellRow of layer 3 answers true: the row of cells is an order, in one chunk that of their indices. Conditions: none: every input. -/
import Derived.Test.YtenpcmhfbbfpeaaRows
import Derived.Test.YtenpcmhfbbfpeaaO02
import Derived.Test.YtenpcmhfbbfpeaaL03
import Derived.Test.YtenpcmhfbbfpeaaR30
import Derived.Test.YtenpcmhfbbfpeaaQ03
import Derived.Test.YtenpcmhfbbfpeaaQ32
import Derived.Test.YtenpcmhfbbfpeaaS03
import Derived.WalkKit
import Derived.ProofKit
import Derived.OpenShut
import Derived.Below
import Derived.Carry
namespace Go.Proofs.Ytenpcmhfbbfpeaa.cellRow
open Go.Proofs.Ytenpcmhfbbfpeaa Go.ChangeShapes Go.WideShapes Go.ChangeAt Go.RowKit
set_option linter.unusedVariables false
set_option linter.unusedSimpArgs false
attribute [local go_sem ↓] Go.wp_at_zero Go.wp_at_succ
theorem comp_bd (x y z x' y' z' : Int) : -1 ≤ compF x y z x' y' z' ∧ compF x y z x' y' z' ≤ 1 := by
  unfold compF; repeat' split
  all_goals omega
theorem comp_swap (x y z x' y' z' : Int) : compF x' y' z' x y z = - compF x y z x' y' z' := by
  unfold compF
  by_cases h0 : y < y'
  · rw [if_neg (by omega : ¬ y' < y), if_pos h0, if_pos h0]; (try rfl)
  by_cases h1 : y' < y
  · rw [if_pos h1, if_neg h0, if_pos h1]; (try rfl)
  rw [if_neg h1, if_neg h0, if_neg h0, if_neg h1]
  by_cases h2 : z < z'
  · rw [if_neg (by omega : ¬ z' < z), if_pos h2, if_pos h2]; (try rfl)
  by_cases h3 : z' < z
  · rw [if_pos h3, if_neg h2, if_pos h3]; (try rfl)
  rw [if_neg h3, if_neg h2, if_neg h2, if_neg h3]
  by_cases h4 : x < x'
  · rw [if_neg (by omega : ¬ x' < x), if_pos h4, if_pos h4]; (try rfl)
  by_cases h5 : x' < x
  · rw [if_pos h5, if_neg h4, if_pos h5]; (try rfl)
  rw [if_neg h5, if_neg h4, if_neg h4, if_neg h5]; (try rfl)
theorem comp_le (x y z x' y' z' : Int) : compF x y z x' y' z' ≤ 0 ↔ (y < y' ∨ (y = y' ∧ (z < z' ∨ (z = z' ∧ x ≤ x')))) := by
  unfold compF; repeat' split
  all_goals omega
theorem comp_lt (x y z x' y' z' : Int) : compF x y z x' y' z' < 0 ↔ (y < y' ∨ (y = y' ∧ (z < z' ∨ (z = z' ∧ x < x')))) := by
  unfold compF; repeat' split
  all_goals omega
theorem comp_zero (x y z x' y' z' : Int) : (compF x y z x' y' z' == 0) = eq3B x y z x' y' z' := by
  unfold compF eq3B
  rw [Bool.eq_iff_iff]; simp only [beq_iff_eq, decide_eq_true_eq]
  repeat' split
  all_goals omega
set_option maxHeartbeats 16000000 in
theorem walk (a0 : V3) (w0 : a0.wf) (a1 : V3) (w1 : a1.wf) (a2 : V3) (w2 : a2.wf) (w : World) :
    Calls Try.prog 8 #[a0.val, a1.val, a2.val] w fun e w' => e = .returned (.bool true) ∧ Below w.heap.size w w' := by
  obtain ⟨x, y, z⟩ := a0
  obtain ⟨u, v, t⟩ := a1
  obtain ⟨p, q, r⟩ := a2
  obtain ⟨wx, wy, wz⟩ := w0
  obtain ⟨wu, wv0, wt⟩ := w1
  have c0 := fun k => c3_compare x y z u v t k
  have c1 := fun k => c3_compare u v t p q r k
  have c2 := fun k => to_v (c3_compare u v t x y z k) (congrArg (Value.int .i64) (comp_swap x y z u v t))
  have c3 := fun k => c3_compare x y z p q r k
  have r0 := fun k => r3_compare x y z u v t k
  have e0 := comp_zero x y z u v t
  have bd := comp_bd x y z u v t
  have tr : compF x y z u v t ≤ 0 → compF u v t p q r ≤ 0 → ¬ 0 < compF x y z p q r := fun h1 h2 => by
    rw [comp_le] at h1 h2
    have : compF x y z p q r ≤ 0 := by rw [comp_le]; omega
    omega
  have h3 := fun k => r3_chunk x y z wx wz k
  have h4 := fun k => r3_chunk u v t wu wt k
  have key : (0 ≤ y ∧ y ≤ 31) → (0 ≤ v ∧ v ≤ 31) → x / 16 = u / 16 ∧ z / 16 = t / 16 → decide (idxF x y z < idxF u v t) = decide (compF x y z u v t < 0) ∧ (idxF x y z == idxF u v t) = (compF x y z u v t == 0) := fun hy hv hc => by
    refine ⟨?_, ?_⟩
    · rw [Bool.eq_iff_iff]; simp only [decide_eq_true_eq]; rw [comp_lt]; unfold idxF; omega
    · rw [comp_zero, Bool.eq_iff_iff]; unfold eq3B idxF; simp only [beq_iff_eq, decide_eq_true_eq]; omega
  have i0 := fun (hy : 0 ≤ y ∧ y ≤ 31) k => r3_index x y z wx wz hy.1 hy.2 k
  have i1 := fun (hy : 0 ≤ v ∧ v ≤ 31) k => r3_index u v t wu wt hy.1 hy.2 k
  have n0 := fun h k => r3_index_no x y z h k
  have n1 := fun h k => r3_index_no u v t h k
  have eqc : eq2B (x / 16) (z / 16) (u / 16) (t / 16) = decide (x / 16 = u / 16 ∧ z / 16 = t / 16) := rfl
  generalize idxF x y z = i at *
  generalize idxF u v t = k0 at *
  obtain ⟨eb, heb⟩ : ∃ eb, eq3B x y z u v t = eb := ⟨_, rfl⟩
  rw [heb] at e0
  generalize compF x y z u v t = X at *
  generalize compF u v t p q r = Y at *
  generalize compF x y z p q r = Z at *
  generalize x / 16 = P at *
  generalize z / 16 = Q at *
  generalize u / 16 = R at *
  generalize t / 16 = T at *
  have wX : IntKind.i64.wrap (-X) = -X := IntWalk.i64_in _ (by omega)
  have ways : decide (X ≤ 0) = false ∨ (decide (X ≤ 0) = true ∧ decide (Y ≤ 0) = false) ∨ (decide (X ≤ 0) = true ∧ decide (Y ≤ 0) = true ∧ decide (0 < Z) = false) := by
    by_cases h1 : X ≤ 0
    · by_cases h2 : Y ≤ 0
      · have := tr h1 h2; right; right; simp [h1, h2]; (try omega)
      · right; left; simp [h1, h2]; (try omega)
    · left; simp [h1]; (try omega)
  have way2 : (y < 0 ∨ 31 < y) ∨ ((0 ≤ y ∧ y ≤ 31) ∧ (v < 0 ∨ 31 < v)) ∨ ((0 ≤ y ∧ y ≤ 31) ∧ (0 ≤ v ∧ v ≤ 31) ∧ eq2B P Q R T = false) ∨ ((0 ≤ y ∧ y ≤ 31) ∧ (0 ≤ v ∧ v ≤ 31) ∧ eq2B P Q R T = true ∧ decide (i < k0) = decide (X < 0) ∧ (i == k0) = (X == 0)) := by
    by_cases hy : 0 ≤ y ∧ y ≤ 31
    · by_cases hv : 0 ≤ v ∧ v ≤ 31
      · by_cases hc : P = R ∧ Q = T
        · have := key hy hv hc; exact .inr (.inr (.inr ⟨hy, hv, by rw [eqc]; simpa using hc, this.1, this.2⟩))
        · exact .inr (.inr (.inl ⟨hy, hv, by rw [eqc]; simpa using hc⟩))
      · exact .inr (.inl ⟨hy, by omega⟩)
    · exact .inl (by omega)
  clear tr key eqc wx wy wz wu wv0 wt w2 bd
  have HW1 := Lib.hid ways
  have HW2 := Lib.hid way2
  have Hc0 := Lib.hid c0
  have Hc1 := Lib.hid c1
  have Hc2 := Lib.hid c2
  have Hc3 := Lib.hid c3
  have Hr0 := Lib.hid r0
  have Hh3 := Lib.hid h3
  have Hh4 := Lib.hid h4
  have Hi0 := Lib.hid i0
  have Hi1 := Lib.hid i1
  have Hn0 := Lib.hid n0
  have Hn1 := Lib.hid n1
  clear c0 c1 c2 c3 r0 h3 h4 i0 i1 n0 n1
  clear ways way2
  have q3 := eq3c_run
  have q5 := ne2p_run
  go_enter Try.func8, Try.ntmps8
  go_wp2_with fail
  have rb : RowAt (w.alloc (.cells #[.int .i64 x, .int .i64 y, .int .i64 z] 28)) (w.heap.size) #[.int .i64 x, .int .i64 y, .int .i64 z] 28 := RowAt.make _ _ _ (by simp)
  have rb : RowAt ((w.alloc (.cells #[.int .i64 x, .int .i64 y, .int .i64 z] 28)).alloc (.cells #[.int .i64 u, .int .i64 v, .int .i64 t] 28)) (w.heap.size) #[.int .i64 x, .int .i64 y, .int .i64 z] 28 := rb.alloc _
  have rc : RowAt ((w.alloc (.cells #[.int .i64 x, .int .i64 y, .int .i64 z] 28)).alloc (.cells #[.int .i64 u, .int .i64 v, .int .i64 t] 28)) (w.heap.size + 1) #[.int .i64 u, .int .i64 v, .int .i64 t] 28 := RowAt.make _ _ _ (by simp)
  have rb : RowAt (((w.alloc (.cells #[.int .i64 x, .int .i64 y, .int .i64 z] 28)).alloc (.cells #[.int .i64 u, .int .i64 v, .int .i64 t] 28)).alloc (.cells #[.int .i64 p, .int .i64 q, .int .i64 r] 28)) (w.heap.size) #[.int .i64 x, .int .i64 y, .int .i64 z] 28 := rb.alloc _
  have rc : RowAt (((w.alloc (.cells #[.int .i64 x, .int .i64 y, .int .i64 z] 28)).alloc (.cells #[.int .i64 u, .int .i64 v, .int .i64 t] 28)).alloc (.cells #[.int .i64 p, .int .i64 q, .int .i64 r] 28)) (w.heap.size + 1) #[.int .i64 u, .int .i64 v, .int .i64 t] 28 := rc.alloc _
  have rd : RowAt (((w.alloc (.cells #[.int .i64 x, .int .i64 y, .int .i64 z] 28)).alloc (.cells #[.int .i64 u, .int .i64 v, .int .i64 t] 28)).alloc (.cells #[.int .i64 p, .int .i64 q, .int .i64 r] 28)) (w.heap.size + 1 + 1) #[.int .i64 p, .int .i64 q, .int .i64 r] 28 := RowAt.make _ _ _ (by simp)
  have kw : Below w.heap.size w (((w.alloc (.cells #[.int .i64 x, .int .i64 y, .int .i64 z] 28)).alloc (.cells #[.int .i64 u, .int .i64 v, .int .i64 t] 28)).alloc (.cells #[.int .i64 p, .int .i64 q, .int .i64 r] 28)) := by (repeat (first | with_reducible assumption | with_reducible exact Below.refl _ _ | with_reducible refine Below.drew ?_ | with_reducible refine below_drewN ?_ _ | with_reducible refine al ?_ _ | (with_reducible refine sc ?_ ?_; (focus (first | omega | (simp; done) | (simp; omega)))) | (with_reducible refine chain ?_ (by assumption))))
  generalize (((w.alloc (.cells #[.int .i64 x, .int .i64 y, .int .i64 z] 28)).alloc (.cells #[.int .i64 u, .int .i64 v, .int .i64 t] 28)).alloc (.cells #[.int .i64 p, .int .i64 q, .int .i64 r] 28)) = W1 at *
  have cb : ∀ j, W1.cell? ⟨w.heap.size, j, none⟩ = (#[.int .i64 x, .int .i64 y, .int .i64 z] : Array Value)[j]? := rb.cell
  have fb : ∀ j, W1.frozen? ⟨w.heap.size, j, none⟩ = false := rb.frozen
  have zb : w.heap.size < W1.heap.size := rb.lt
  have cc : ∀ j, W1.cell? ⟨w.heap.size + 1, j, none⟩ = (#[.int .i64 u, .int .i64 v, .int .i64 t] : Array Value)[j]? := rc.cell
  have fc : ∀ j, W1.frozen? ⟨w.heap.size + 1, j, none⟩ = false := rc.frozen
  have zc : w.heap.size + 1 < W1.heap.size := rc.lt
  have cd : ∀ j, W1.cell? ⟨w.heap.size + 1 + 1, j, none⟩ = (#[.int .i64 p, .int .i64 q, .int .i64 r] : Array Value)[j]? := rd.cell
  have fd : ∀ j, W1.frozen? ⟨w.heap.size + 1 + 1, j, none⟩ = false := rd.frozen
  have zd : w.heap.size + 1 + 1 < W1.heap.size := rd.lt
  (refine (Hc0.out _).mono ?_; rintro e W2 ⟨rfl, hW2⟩)
  clear cb fb zb cc fc zc cd fd zd
  replace rb := rb.keep hW2
  replace rc := rc.keep hW2
  replace rd := rd.keep hW2
  replace kw := kw.trans (hW2.mono kw.size)
  have cb : ∀ j, W2.cell? ⟨w.heap.size, j, none⟩ = (#[.int .i64 x, .int .i64 y, .int .i64 z] : Array Value)[j]? := rb.cell
  have fb : ∀ j, W2.frozen? ⟨w.heap.size, j, none⟩ = false := rb.frozen
  have zb : w.heap.size < W2.heap.size := rb.lt
  have cc : ∀ j, W2.cell? ⟨w.heap.size + 1, j, none⟩ = (#[.int .i64 u, .int .i64 v, .int .i64 t] : Array Value)[j]? := rc.cell
  have fc : ∀ j, W2.frozen? ⟨w.heap.size + 1, j, none⟩ = false := rc.frozen
  have zc : w.heap.size + 1 < W2.heap.size := rc.lt
  have cd : ∀ j, W2.cell? ⟨w.heap.size + 1 + 1, j, none⟩ = (#[.int .i64 p, .int .i64 q, .int .i64 r] : Array Value)[j]? := rd.cell
  have fd : ∀ j, W2.frozen? ⟨w.heap.size + 1 + 1, j, none⟩ = false := rd.frozen
  have zd : w.heap.size + 1 + 1 < W2.heap.size := rd.lt
  clear hW2
  go_wp2_with fail
  (refine (Hc1.out _).mono ?_; rintro e W3 ⟨rfl, hW3⟩)
  clear cb fb zb cc fc zc cd fd zd
  replace rb := rb.keep hW3
  replace rc := rc.keep hW3
  replace rd := rd.keep hW3
  replace kw := kw.trans (hW3.mono kw.size)
  have cb : ∀ j, W3.cell? ⟨w.heap.size, j, none⟩ = (#[.int .i64 x, .int .i64 y, .int .i64 z] : Array Value)[j]? := rb.cell
  have fb : ∀ j, W3.frozen? ⟨w.heap.size, j, none⟩ = false := rb.frozen
  have zb : w.heap.size < W3.heap.size := rb.lt
  have cc : ∀ j, W3.cell? ⟨w.heap.size + 1, j, none⟩ = (#[.int .i64 u, .int .i64 v, .int .i64 t] : Array Value)[j]? := rc.cell
  have fc : ∀ j, W3.frozen? ⟨w.heap.size + 1, j, none⟩ = false := rc.frozen
  have zc : w.heap.size + 1 < W3.heap.size := rc.lt
  have cd : ∀ j, W3.cell? ⟨w.heap.size + 1 + 1, j, none⟩ = (#[.int .i64 p, .int .i64 q, .int .i64 r] : Array Value)[j]? := rd.cell
  have fd : ∀ j, W3.frozen? ⟨w.heap.size + 1 + 1, j, none⟩ = false := rd.frozen
  have zd : w.heap.size + 1 + 1 < W3.heap.size := rd.lt
  clear hW3
  go_wp2_with fail
  (refine (Hr0.out _).mono ?_; rintro e W4 ⟨rfl, hW4⟩)
  clear cb fb zb cc fc zc cd fd zd
  replace rb := rb.keep hW4
  replace rc := rc.keep hW4
  replace rd := rd.keep hW4
  replace kw := kw.trans (hW4.mono kw.size)
  have cb : ∀ j, W4.cell? ⟨w.heap.size, j, none⟩ = (#[.int .i64 x, .int .i64 y, .int .i64 z] : Array Value)[j]? := rb.cell
  have fb : ∀ j, W4.frozen? ⟨w.heap.size, j, none⟩ = false := rb.frozen
  have zb : w.heap.size < W4.heap.size := rb.lt
  have cc : ∀ j, W4.cell? ⟨w.heap.size + 1, j, none⟩ = (#[.int .i64 u, .int .i64 v, .int .i64 t] : Array Value)[j]? := rc.cell
  have fc : ∀ j, W4.frozen? ⟨w.heap.size + 1, j, none⟩ = false := rc.frozen
  have zc : w.heap.size + 1 < W4.heap.size := rc.lt
  have cd : ∀ j, W4.cell? ⟨w.heap.size + 1 + 1, j, none⟩ = (#[.int .i64 p, .int .i64 q, .int .i64 r] : Array Value)[j]? := rd.cell
  have fd : ∀ j, W4.frozen? ⟨w.heap.size + 1 + 1, j, none⟩ = false := rd.frozen
  have zd : w.heap.size + 1 + 1 < W4.heap.size := rd.lt
  clear hW4
  go_wp2_with fail
  (refine (Hc2.out _).mono ?_; rintro e W5 ⟨rfl, hW5⟩)
  clear cb fb zb cc fc zc cd fd zd
  replace rb := rb.keep hW5
  replace rc := rc.keep hW5
  replace rd := rd.keep hW5
  replace kw := kw.trans (hW5.mono kw.size)
  have cb : ∀ j, W5.cell? ⟨w.heap.size, j, none⟩ = (#[.int .i64 x, .int .i64 y, .int .i64 z] : Array Value)[j]? := rb.cell
  have fb : ∀ j, W5.frozen? ⟨w.heap.size, j, none⟩ = false := rb.frozen
  have zb : w.heap.size < W5.heap.size := rb.lt
  have cc : ∀ j, W5.cell? ⟨w.heap.size + 1, j, none⟩ = (#[.int .i64 u, .int .i64 v, .int .i64 t] : Array Value)[j]? := rc.cell
  have fc : ∀ j, W5.frozen? ⟨w.heap.size + 1, j, none⟩ = false := rc.frozen
  have zc : w.heap.size + 1 < W5.heap.size := rc.lt
  have cd : ∀ j, W5.cell? ⟨w.heap.size + 1 + 1, j, none⟩ = (#[.int .i64 p, .int .i64 q, .int .i64 r] : Array Value)[j]? := rd.cell
  have fd : ∀ j, W5.frozen? ⟨w.heap.size + 1 + 1, j, none⟩ = false := rd.frozen
  have zd : w.heap.size + 1 + 1 < W5.heap.size := rd.lt
  clear hW5
  rcases HW1.out with h0 | ⟨h0, h1⟩ | ⟨h0, h1, h2⟩
  · go_wp2_with fail
    rcases HW2.out with g0 | ⟨g0, g1⟩ | ⟨g0, g1, g2⟩ | ⟨g0, g1, g2, g3, g4⟩
    · (refine (Hn0.out g0 _).mono ?_; rintro e W6 ⟨rfl, hW6⟩)
      clear cb fb zb cc fc zc cd fd zd
      replace rb := rb.keep hW6
      replace rc := rc.keep hW6
      replace rd := rd.keep hW6
      replace kw := kw.trans (hW6.mono kw.size)
      have cb : ∀ j, W6.cell? ⟨w.heap.size, j, none⟩ = (#[.int .i64 x, .int .i64 y, .int .i64 z] : Array Value)[j]? := rb.cell
      have fb : ∀ j, W6.frozen? ⟨w.heap.size, j, none⟩ = false := rb.frozen
      have zb : w.heap.size < W6.heap.size := rb.lt
      have cc : ∀ j, W6.cell? ⟨w.heap.size + 1, j, none⟩ = (#[.int .i64 u, .int .i64 v, .int .i64 t] : Array Value)[j]? := rc.cell
      have fc : ∀ j, W6.frozen? ⟨w.heap.size + 1, j, none⟩ = false := rc.frozen
      have zc : w.heap.size + 1 < W6.heap.size := rc.lt
      have cd : ∀ j, W6.cell? ⟨w.heap.size + 1 + 1, j, none⟩ = (#[.int .i64 p, .int .i64 q, .int .i64 r] : Array Value)[j]? := rd.cell
      have fd : ∀ j, W6.frozen? ⟨w.heap.size + 1 + 1, j, none⟩ = false := rd.frozen
      have zd : w.heap.size + 1 + 1 < W6.heap.size := rd.lt
      clear hW6
      go_wp2_with fail
      obtain ⟨j, jb, hj⟩ : ∃ (j : Int) (jb : Bool), ∀ k, Calls Try.prog 26 #[vecV u v t] k fun e w' => e = .returned (.tuple #[.int .i64 j, .bool jb]) ∧ Below k.heap.size k w' := by
        by_cases g1 : 0 ≤ v ∧ v ≤ 31
        · exact ⟨_, _, fun k => Hi1.out g1 k⟩
        · exact ⟨_, _, fun k => Hn1.out (by omega) k⟩
      have Hj := Lib.hid hj
      clear hj
      (refine (Hj.out _).mono ?_; rintro e W7 ⟨rfl, hW7⟩)
      clear cb fb zb cc fc zc cd fd zd
      replace rb := rb.keep hW7
      replace rc := rc.keep hW7
      replace rd := rd.keep hW7
      replace kw := kw.trans (hW7.mono kw.size)
      have cb : ∀ j, W7.cell? ⟨w.heap.size, j, none⟩ = (#[.int .i64 x, .int .i64 y, .int .i64 z] : Array Value)[j]? := rb.cell
      have fb : ∀ j, W7.frozen? ⟨w.heap.size, j, none⟩ = false := rb.frozen
      have zb : w.heap.size < W7.heap.size := rb.lt
      have cc : ∀ j, W7.cell? ⟨w.heap.size + 1, j, none⟩ = (#[.int .i64 u, .int .i64 v, .int .i64 t] : Array Value)[j]? := rc.cell
      have fc : ∀ j, W7.frozen? ⟨w.heap.size + 1, j, none⟩ = false := rc.frozen
      have zc : w.heap.size + 1 < W7.heap.size := rc.lt
      have cd : ∀ j, W7.cell? ⟨w.heap.size + 1 + 1, j, none⟩ = (#[.int .i64 p, .int .i64 q, .int .i64 r] : Array Value)[j]? := rd.cell
      have fd : ∀ j, W7.frozen? ⟨w.heap.size + 1 + 1, j, none⟩ = false := rd.frozen
      have zd : w.heap.size + 1 + 1 < W7.heap.size := rd.lt
      clear hW7
      go_wp2_with fail
      refine region_below 12 (by kernel_rfl) (by kernel_rfl) ?_
      simp only [List.take_succ_cons, List.take_zero, List.drop_succ_cons, List.drop_zero]
      repeat (first | (refine' InText.skip (by rfl) ?_; simp only [Act.put, List.setIfInBounds_toArray, List.set_cons_zero, List.set_cons_succ]) | (refine' InText.val (by rfl) (fun wr hr => ?_) ?_; rotate_left 1; (focus (obtain ⟨hrc, hrf⟩ := bcell hr; (go_simp <;> with_reducible rfl); done)); simp only [Act.put, List.setIfInBounds_toArray, List.set_cons_zero, List.set_cons_succ]))
      refine fun wrz hrz => ?_
      obtain ⟨hrcz, hrfz⟩ := bcell hrz
      have kz : Below w.heap.size w wrz := by (repeat (first | with_reducible assumption | with_reducible exact Below.refl _ _ | with_reducible refine Below.drew ?_ | with_reducible refine below_drewN ?_ _ | with_reducible refine al ?_ _ | (with_reducible refine sc ?_ ?_; (focus (first | omega | (simp; done) | (simp; omega)))) | (with_reducible refine chain ?_ (by assumption))))
      go_wp2_with fail
      (refine (l3_lives _).mono ?_; rintro e u1 ⟨rfl, hu1⟩)
      go_wp2
      go_ret
      exact ⟨rfl, by (repeat (first | with_reducible assumption | with_reducible exact Below.refl _ _ | with_reducible refine Below.drew ?_ | with_reducible refine below_drewN ?_ _ | with_reducible refine al ?_ _ | (with_reducible refine sc ?_ ?_; (focus (first | omega | (simp; done) | (simp; omega)))) | (with_reducible refine chain ?_ (by assumption))))⟩
    · (refine (Hi0.out g0 _).mono ?_; rintro e W6 ⟨rfl, hW6⟩)
      clear cb fb zb cc fc zc cd fd zd
      replace rb := rb.keep hW6
      replace rc := rc.keep hW6
      replace rd := rd.keep hW6
      replace kw := kw.trans (hW6.mono kw.size)
      have cb : ∀ j, W6.cell? ⟨w.heap.size, j, none⟩ = (#[.int .i64 x, .int .i64 y, .int .i64 z] : Array Value)[j]? := rb.cell
      have fb : ∀ j, W6.frozen? ⟨w.heap.size, j, none⟩ = false := rb.frozen
      have zb : w.heap.size < W6.heap.size := rb.lt
      have cc : ∀ j, W6.cell? ⟨w.heap.size + 1, j, none⟩ = (#[.int .i64 u, .int .i64 v, .int .i64 t] : Array Value)[j]? := rc.cell
      have fc : ∀ j, W6.frozen? ⟨w.heap.size + 1, j, none⟩ = false := rc.frozen
      have zc : w.heap.size + 1 < W6.heap.size := rc.lt
      have cd : ∀ j, W6.cell? ⟨w.heap.size + 1 + 1, j, none⟩ = (#[.int .i64 p, .int .i64 q, .int .i64 r] : Array Value)[j]? := rd.cell
      have fd : ∀ j, W6.frozen? ⟨w.heap.size + 1 + 1, j, none⟩ = false := rd.frozen
      have zd : w.heap.size + 1 + 1 < W6.heap.size := rd.lt
      clear hW6
      go_wp2_with fail
      (refine (Hn1.out g1 _).mono ?_; rintro e W7 ⟨rfl, hW7⟩)
      clear cb fb zb cc fc zc cd fd zd
      replace rb := rb.keep hW7
      replace rc := rc.keep hW7
      replace rd := rd.keep hW7
      replace kw := kw.trans (hW7.mono kw.size)
      have cb : ∀ j, W7.cell? ⟨w.heap.size, j, none⟩ = (#[.int .i64 x, .int .i64 y, .int .i64 z] : Array Value)[j]? := rb.cell
      have fb : ∀ j, W7.frozen? ⟨w.heap.size, j, none⟩ = false := rb.frozen
      have zb : w.heap.size < W7.heap.size := rb.lt
      have cc : ∀ j, W7.cell? ⟨w.heap.size + 1, j, none⟩ = (#[.int .i64 u, .int .i64 v, .int .i64 t] : Array Value)[j]? := rc.cell
      have fc : ∀ j, W7.frozen? ⟨w.heap.size + 1, j, none⟩ = false := rc.frozen
      have zc : w.heap.size + 1 < W7.heap.size := rc.lt
      have cd : ∀ j, W7.cell? ⟨w.heap.size + 1 + 1, j, none⟩ = (#[.int .i64 p, .int .i64 q, .int .i64 r] : Array Value)[j]? := rd.cell
      have fd : ∀ j, W7.frozen? ⟨w.heap.size + 1 + 1, j, none⟩ = false := rd.frozen
      have zd : w.heap.size + 1 + 1 < W7.heap.size := rd.lt
      clear hW7
      go_wp2_with fail
      refine region_below 12 (by kernel_rfl) (by kernel_rfl) ?_
      simp only [List.take_succ_cons, List.take_zero, List.drop_succ_cons, List.drop_zero]
      repeat (first | (refine' InText.skip (by rfl) ?_; simp only [Act.put, List.setIfInBounds_toArray, List.set_cons_zero, List.set_cons_succ]) | (refine' InText.val (by rfl) (fun wr hr => ?_) ?_; rotate_left 1; (focus (obtain ⟨hrc, hrf⟩ := bcell hr; (go_simp <;> with_reducible rfl); done)); simp only [Act.put, List.setIfInBounds_toArray, List.set_cons_zero, List.set_cons_succ]))
      refine fun wrz hrz => ?_
      obtain ⟨hrcz, hrfz⟩ := bcell hrz
      have kz : Below w.heap.size w wrz := by (repeat (first | with_reducible assumption | with_reducible exact Below.refl _ _ | with_reducible refine Below.drew ?_ | with_reducible refine below_drewN ?_ _ | with_reducible refine al ?_ _ | (with_reducible refine sc ?_ ?_; (focus (first | omega | (simp; done) | (simp; omega)))) | (with_reducible refine chain ?_ (by assumption))))
      go_wp2_with fail
      (refine (l3_lives _).mono ?_; rintro e u1 ⟨rfl, hu1⟩)
      go_wp2
      go_ret
      exact ⟨rfl, by (repeat (first | with_reducible assumption | with_reducible exact Below.refl _ _ | with_reducible refine Below.drew ?_ | with_reducible refine below_drewN ?_ _ | with_reducible refine al ?_ _ | (with_reducible refine sc ?_ ?_; (focus (first | omega | (simp; done) | (simp; omega)))) | (with_reducible refine chain ?_ (by assumption))))⟩
    · (refine (Hi0.out g0 _).mono ?_; rintro e W6 ⟨rfl, hW6⟩)
      clear cb fb zb cc fc zc cd fd zd
      replace rb := rb.keep hW6
      replace rc := rc.keep hW6
      replace rd := rd.keep hW6
      replace kw := kw.trans (hW6.mono kw.size)
      have cb : ∀ j, W6.cell? ⟨w.heap.size, j, none⟩ = (#[.int .i64 x, .int .i64 y, .int .i64 z] : Array Value)[j]? := rb.cell
      have fb : ∀ j, W6.frozen? ⟨w.heap.size, j, none⟩ = false := rb.frozen
      have zb : w.heap.size < W6.heap.size := rb.lt
      have cc : ∀ j, W6.cell? ⟨w.heap.size + 1, j, none⟩ = (#[.int .i64 u, .int .i64 v, .int .i64 t] : Array Value)[j]? := rc.cell
      have fc : ∀ j, W6.frozen? ⟨w.heap.size + 1, j, none⟩ = false := rc.frozen
      have zc : w.heap.size + 1 < W6.heap.size := rc.lt
      have cd : ∀ j, W6.cell? ⟨w.heap.size + 1 + 1, j, none⟩ = (#[.int .i64 p, .int .i64 q, .int .i64 r] : Array Value)[j]? := rd.cell
      have fd : ∀ j, W6.frozen? ⟨w.heap.size + 1 + 1, j, none⟩ = false := rd.frozen
      have zd : w.heap.size + 1 + 1 < W6.heap.size := rd.lt
      clear hW6
      go_wp2_with fail
      (refine (Hi1.out g1 _).mono ?_; rintro e W7 ⟨rfl, hW7⟩)
      clear cb fb zb cc fc zc cd fd zd
      replace rb := rb.keep hW7
      replace rc := rc.keep hW7
      replace rd := rd.keep hW7
      replace kw := kw.trans (hW7.mono kw.size)
      have cb : ∀ j, W7.cell? ⟨w.heap.size, j, none⟩ = (#[.int .i64 x, .int .i64 y, .int .i64 z] : Array Value)[j]? := rb.cell
      have fb : ∀ j, W7.frozen? ⟨w.heap.size, j, none⟩ = false := rb.frozen
      have zb : w.heap.size < W7.heap.size := rb.lt
      have cc : ∀ j, W7.cell? ⟨w.heap.size + 1, j, none⟩ = (#[.int .i64 u, .int .i64 v, .int .i64 t] : Array Value)[j]? := rc.cell
      have fc : ∀ j, W7.frozen? ⟨w.heap.size + 1, j, none⟩ = false := rc.frozen
      have zc : w.heap.size + 1 < W7.heap.size := rc.lt
      have cd : ∀ j, W7.cell? ⟨w.heap.size + 1 + 1, j, none⟩ = (#[.int .i64 p, .int .i64 q, .int .i64 r] : Array Value)[j]? := rd.cell
      have fd : ∀ j, W7.frozen? ⟨w.heap.size + 1 + 1, j, none⟩ = false := rd.frozen
      have zd : w.heap.size + 1 + 1 < W7.heap.size := rd.lt
      clear hW7
      go_wp2_with fail
      refine region_below 12 (by kernel_rfl) (by kernel_rfl) ?_
      simp only [List.take_succ_cons, List.take_zero, List.drop_succ_cons, List.drop_zero]
      repeat (first | (refine' InText.skip (by rfl) ?_; simp only [Act.put, List.setIfInBounds_toArray, List.set_cons_zero, List.set_cons_succ]) | (refine' InText.val (by rfl) (fun wr hr => ?_) ?_; rotate_left 1; (focus (obtain ⟨hrc, hrf⟩ := bcell hr; (go_simp <;> with_reducible rfl); done)); simp only [Act.put, List.setIfInBounds_toArray, List.set_cons_zero, List.set_cons_succ]) | (refine' InText.call (by rfl) (fun wr hr => ?_) (fun wr hr => ?_) ?_; rotate_left 3; (focus ((go_simp <;> (first | with_reducible rfl | exact ⟨rfl, rfl⟩)); done)); (focus (first | with_reducible exact Hh3.out _ | with_reducible exact Hh4.out _)); simp only [Act.put, List.setIfInBounds_toArray, List.set_cons_zero, List.set_cons_succ]))
      refine fun wrz hrz => ?_
      obtain ⟨hrcz, hrfz⟩ := bcell hrz
      have kz : Below w.heap.size w wrz := by (repeat (first | with_reducible assumption | with_reducible exact Below.refl _ _ | with_reducible refine Below.drew ?_ | with_reducible refine below_drewN ?_ _ | with_reducible refine al ?_ _ | (with_reducible refine sc ?_ ?_; (focus (first | omega | (simp; done) | (simp; omega)))) | (with_reducible refine chain ?_ (by assumption))))
      go_wp2_with fail
      (refine (l3_lives _).mono ?_; rintro e u1 ⟨rfl, hu1⟩)
      go_wp2
      go_ret
      exact ⟨rfl, by (repeat (first | with_reducible assumption | with_reducible exact Below.refl _ _ | with_reducible refine Below.drew ?_ | with_reducible refine below_drewN ?_ _ | with_reducible refine al ?_ _ | (with_reducible refine sc ?_ ?_; (focus (first | omega | (simp; done) | (simp; omega)))) | (with_reducible refine chain ?_ (by assumption))))⟩
    · (refine (Hi0.out g0 _).mono ?_; rintro e W6 ⟨rfl, hW6⟩)
      clear cb fb zb cc fc zc cd fd zd
      replace rb := rb.keep hW6
      replace rc := rc.keep hW6
      replace rd := rd.keep hW6
      replace kw := kw.trans (hW6.mono kw.size)
      have cb : ∀ j, W6.cell? ⟨w.heap.size, j, none⟩ = (#[.int .i64 x, .int .i64 y, .int .i64 z] : Array Value)[j]? := rb.cell
      have fb : ∀ j, W6.frozen? ⟨w.heap.size, j, none⟩ = false := rb.frozen
      have zb : w.heap.size < W6.heap.size := rb.lt
      have cc : ∀ j, W6.cell? ⟨w.heap.size + 1, j, none⟩ = (#[.int .i64 u, .int .i64 v, .int .i64 t] : Array Value)[j]? := rc.cell
      have fc : ∀ j, W6.frozen? ⟨w.heap.size + 1, j, none⟩ = false := rc.frozen
      have zc : w.heap.size + 1 < W6.heap.size := rc.lt
      have cd : ∀ j, W6.cell? ⟨w.heap.size + 1 + 1, j, none⟩ = (#[.int .i64 p, .int .i64 q, .int .i64 r] : Array Value)[j]? := rd.cell
      have fd : ∀ j, W6.frozen? ⟨w.heap.size + 1 + 1, j, none⟩ = false := rd.frozen
      have zd : w.heap.size + 1 + 1 < W6.heap.size := rd.lt
      clear hW6
      go_wp2_with fail
      (refine (Hi1.out g1 _).mono ?_; rintro e W7 ⟨rfl, hW7⟩)
      clear cb fb zb cc fc zc cd fd zd
      replace rb := rb.keep hW7
      replace rc := rc.keep hW7
      replace rd := rd.keep hW7
      replace kw := kw.trans (hW7.mono kw.size)
      have cb : ∀ j, W7.cell? ⟨w.heap.size, j, none⟩ = (#[.int .i64 x, .int .i64 y, .int .i64 z] : Array Value)[j]? := rb.cell
      have fb : ∀ j, W7.frozen? ⟨w.heap.size, j, none⟩ = false := rb.frozen
      have zb : w.heap.size < W7.heap.size := rb.lt
      have cc : ∀ j, W7.cell? ⟨w.heap.size + 1, j, none⟩ = (#[.int .i64 u, .int .i64 v, .int .i64 t] : Array Value)[j]? := rc.cell
      have fc : ∀ j, W7.frozen? ⟨w.heap.size + 1, j, none⟩ = false := rc.frozen
      have zc : w.heap.size + 1 < W7.heap.size := rc.lt
      have cd : ∀ j, W7.cell? ⟨w.heap.size + 1 + 1, j, none⟩ = (#[.int .i64 p, .int .i64 q, .int .i64 r] : Array Value)[j]? := rd.cell
      have fd : ∀ j, W7.frozen? ⟨w.heap.size + 1 + 1, j, none⟩ = false := rd.frozen
      have zd : w.heap.size + 1 + 1 < W7.heap.size := rd.lt
      clear hW7
      go_wp2_with fail
      refine region_below 12 (by kernel_rfl) (by kernel_rfl) ?_
      simp only [List.take_succ_cons, List.take_zero, List.drop_succ_cons, List.drop_zero]
      repeat (first | (refine' InText.skip (by rfl) ?_; simp only [Act.put, List.setIfInBounds_toArray, List.set_cons_zero, List.set_cons_succ]) | (refine' InText.val (by rfl) (fun wr hr => ?_) ?_; rotate_left 1; (focus (obtain ⟨hrc, hrf⟩ := bcell hr; (go_simp <;> with_reducible rfl); done)); simp only [Act.put, List.setIfInBounds_toArray, List.set_cons_zero, List.set_cons_succ]) | (refine' InText.call (by rfl) (fun wr hr => ?_) (fun wr hr => ?_) ?_; rotate_left 3; (focus ((go_simp <;> (first | with_reducible rfl | exact ⟨rfl, rfl⟩)); done)); (focus (first | with_reducible exact Hh3.out _ | with_reducible exact Hh4.out _)); simp only [Act.put, List.setIfInBounds_toArray, List.set_cons_zero, List.set_cons_succ]))
      refine fun wrz hrz => ?_
      obtain ⟨hrcz, hrfz⟩ := bcell hrz
      have kz : Below w.heap.size w wrz := by (repeat (first | with_reducible assumption | with_reducible exact Below.refl _ _ | with_reducible refine Below.drew ?_ | with_reducible refine below_drewN ?_ _ | with_reducible refine al ?_ _ | (with_reducible refine sc ?_ ?_; (focus (first | omega | (simp; done) | (simp; omega)))) | (with_reducible refine chain ?_ (by assumption))))
      go_wp2_with fail
      (refine (l3_lives _).mono ?_; rintro e u1 ⟨rfl, hu1⟩)
      go_wp2
      go_ret
      exact ⟨rfl, by (repeat (first | with_reducible assumption | with_reducible exact Below.refl _ _ | with_reducible refine Below.drew ?_ | with_reducible refine below_drewN ?_ _ | with_reducible refine al ?_ _ | (with_reducible refine sc ?_ ?_; (focus (first | omega | (simp; done) | (simp; omega)))) | (with_reducible refine chain ?_ (by assumption))))⟩
  · go_wp2_with fail
    rcases HW2.out with g0 | ⟨g0, g1⟩ | ⟨g0, g1, g2⟩ | ⟨g0, g1, g2, g3, g4⟩
    · (refine (Hn0.out g0 _).mono ?_; rintro e W6 ⟨rfl, hW6⟩)
      clear cb fb zb cc fc zc cd fd zd
      replace rb := rb.keep hW6
      replace rc := rc.keep hW6
      replace rd := rd.keep hW6
      replace kw := kw.trans (hW6.mono kw.size)
      have cb : ∀ j, W6.cell? ⟨w.heap.size, j, none⟩ = (#[.int .i64 x, .int .i64 y, .int .i64 z] : Array Value)[j]? := rb.cell
      have fb : ∀ j, W6.frozen? ⟨w.heap.size, j, none⟩ = false := rb.frozen
      have zb : w.heap.size < W6.heap.size := rb.lt
      have cc : ∀ j, W6.cell? ⟨w.heap.size + 1, j, none⟩ = (#[.int .i64 u, .int .i64 v, .int .i64 t] : Array Value)[j]? := rc.cell
      have fc : ∀ j, W6.frozen? ⟨w.heap.size + 1, j, none⟩ = false := rc.frozen
      have zc : w.heap.size + 1 < W6.heap.size := rc.lt
      have cd : ∀ j, W6.cell? ⟨w.heap.size + 1 + 1, j, none⟩ = (#[.int .i64 p, .int .i64 q, .int .i64 r] : Array Value)[j]? := rd.cell
      have fd : ∀ j, W6.frozen? ⟨w.heap.size + 1 + 1, j, none⟩ = false := rd.frozen
      have zd : w.heap.size + 1 + 1 < W6.heap.size := rd.lt
      clear hW6
      go_wp2_with fail
      obtain ⟨j, jb, hj⟩ : ∃ (j : Int) (jb : Bool), ∀ k, Calls Try.prog 26 #[vecV u v t] k fun e w' => e = .returned (.tuple #[.int .i64 j, .bool jb]) ∧ Below k.heap.size k w' := by
        by_cases g1 : 0 ≤ v ∧ v ≤ 31
        · exact ⟨_, _, fun k => Hi1.out g1 k⟩
        · exact ⟨_, _, fun k => Hn1.out (by omega) k⟩
      have Hj := Lib.hid hj
      clear hj
      (refine (Hj.out _).mono ?_; rintro e W7 ⟨rfl, hW7⟩)
      clear cb fb zb cc fc zc cd fd zd
      replace rb := rb.keep hW7
      replace rc := rc.keep hW7
      replace rd := rd.keep hW7
      replace kw := kw.trans (hW7.mono kw.size)
      have cb : ∀ j, W7.cell? ⟨w.heap.size, j, none⟩ = (#[.int .i64 x, .int .i64 y, .int .i64 z] : Array Value)[j]? := rb.cell
      have fb : ∀ j, W7.frozen? ⟨w.heap.size, j, none⟩ = false := rb.frozen
      have zb : w.heap.size < W7.heap.size := rb.lt
      have cc : ∀ j, W7.cell? ⟨w.heap.size + 1, j, none⟩ = (#[.int .i64 u, .int .i64 v, .int .i64 t] : Array Value)[j]? := rc.cell
      have fc : ∀ j, W7.frozen? ⟨w.heap.size + 1, j, none⟩ = false := rc.frozen
      have zc : w.heap.size + 1 < W7.heap.size := rc.lt
      have cd : ∀ j, W7.cell? ⟨w.heap.size + 1 + 1, j, none⟩ = (#[.int .i64 p, .int .i64 q, .int .i64 r] : Array Value)[j]? := rd.cell
      have fd : ∀ j, W7.frozen? ⟨w.heap.size + 1 + 1, j, none⟩ = false := rd.frozen
      have zd : w.heap.size + 1 + 1 < W7.heap.size := rd.lt
      clear hW7
      go_wp2_with fail
      refine region_below 12 (by kernel_rfl) (by kernel_rfl) ?_
      simp only [List.take_succ_cons, List.take_zero, List.drop_succ_cons, List.drop_zero]
      repeat (first | (refine' InText.skip (by rfl) ?_; simp only [Act.put, List.setIfInBounds_toArray, List.set_cons_zero, List.set_cons_succ]) | (refine' InText.val (by rfl) (fun wr hr => ?_) ?_; rotate_left 1; (focus (obtain ⟨hrc, hrf⟩ := bcell hr; (go_simp <;> with_reducible rfl); done)); simp only [Act.put, List.setIfInBounds_toArray, List.set_cons_zero, List.set_cons_succ]))
      refine fun wrz hrz => ?_
      obtain ⟨hrcz, hrfz⟩ := bcell hrz
      have kz : Below w.heap.size w wrz := by (repeat (first | with_reducible assumption | with_reducible exact Below.refl _ _ | with_reducible refine Below.drew ?_ | with_reducible refine below_drewN ?_ _ | with_reducible refine al ?_ _ | (with_reducible refine sc ?_ ?_; (focus (first | omega | (simp; done) | (simp; omega)))) | (with_reducible refine chain ?_ (by assumption))))
      go_wp2_with fail
      (refine (l3_lives _).mono ?_; rintro e u1 ⟨rfl, hu1⟩)
      go_wp2
      go_ret
      exact ⟨rfl, by (repeat (first | with_reducible assumption | with_reducible exact Below.refl _ _ | with_reducible refine Below.drew ?_ | with_reducible refine below_drewN ?_ _ | with_reducible refine al ?_ _ | (with_reducible refine sc ?_ ?_; (focus (first | omega | (simp; done) | (simp; omega)))) | (with_reducible refine chain ?_ (by assumption))))⟩
    · (refine (Hi0.out g0 _).mono ?_; rintro e W6 ⟨rfl, hW6⟩)
      clear cb fb zb cc fc zc cd fd zd
      replace rb := rb.keep hW6
      replace rc := rc.keep hW6
      replace rd := rd.keep hW6
      replace kw := kw.trans (hW6.mono kw.size)
      have cb : ∀ j, W6.cell? ⟨w.heap.size, j, none⟩ = (#[.int .i64 x, .int .i64 y, .int .i64 z] : Array Value)[j]? := rb.cell
      have fb : ∀ j, W6.frozen? ⟨w.heap.size, j, none⟩ = false := rb.frozen
      have zb : w.heap.size < W6.heap.size := rb.lt
      have cc : ∀ j, W6.cell? ⟨w.heap.size + 1, j, none⟩ = (#[.int .i64 u, .int .i64 v, .int .i64 t] : Array Value)[j]? := rc.cell
      have fc : ∀ j, W6.frozen? ⟨w.heap.size + 1, j, none⟩ = false := rc.frozen
      have zc : w.heap.size + 1 < W6.heap.size := rc.lt
      have cd : ∀ j, W6.cell? ⟨w.heap.size + 1 + 1, j, none⟩ = (#[.int .i64 p, .int .i64 q, .int .i64 r] : Array Value)[j]? := rd.cell
      have fd : ∀ j, W6.frozen? ⟨w.heap.size + 1 + 1, j, none⟩ = false := rd.frozen
      have zd : w.heap.size + 1 + 1 < W6.heap.size := rd.lt
      clear hW6
      go_wp2_with fail
      (refine (Hn1.out g1 _).mono ?_; rintro e W7 ⟨rfl, hW7⟩)
      clear cb fb zb cc fc zc cd fd zd
      replace rb := rb.keep hW7
      replace rc := rc.keep hW7
      replace rd := rd.keep hW7
      replace kw := kw.trans (hW7.mono kw.size)
      have cb : ∀ j, W7.cell? ⟨w.heap.size, j, none⟩ = (#[.int .i64 x, .int .i64 y, .int .i64 z] : Array Value)[j]? := rb.cell
      have fb : ∀ j, W7.frozen? ⟨w.heap.size, j, none⟩ = false := rb.frozen
      have zb : w.heap.size < W7.heap.size := rb.lt
      have cc : ∀ j, W7.cell? ⟨w.heap.size + 1, j, none⟩ = (#[.int .i64 u, .int .i64 v, .int .i64 t] : Array Value)[j]? := rc.cell
      have fc : ∀ j, W7.frozen? ⟨w.heap.size + 1, j, none⟩ = false := rc.frozen
      have zc : w.heap.size + 1 < W7.heap.size := rc.lt
      have cd : ∀ j, W7.cell? ⟨w.heap.size + 1 + 1, j, none⟩ = (#[.int .i64 p, .int .i64 q, .int .i64 r] : Array Value)[j]? := rd.cell
      have fd : ∀ j, W7.frozen? ⟨w.heap.size + 1 + 1, j, none⟩ = false := rd.frozen
      have zd : w.heap.size + 1 + 1 < W7.heap.size := rd.lt
      clear hW7
      go_wp2_with fail
      refine region_below 12 (by kernel_rfl) (by kernel_rfl) ?_
      simp only [List.take_succ_cons, List.take_zero, List.drop_succ_cons, List.drop_zero]
      repeat (first | (refine' InText.skip (by rfl) ?_; simp only [Act.put, List.setIfInBounds_toArray, List.set_cons_zero, List.set_cons_succ]) | (refine' InText.val (by rfl) (fun wr hr => ?_) ?_; rotate_left 1; (focus (obtain ⟨hrc, hrf⟩ := bcell hr; (go_simp <;> with_reducible rfl); done)); simp only [Act.put, List.setIfInBounds_toArray, List.set_cons_zero, List.set_cons_succ]))
      refine fun wrz hrz => ?_
      obtain ⟨hrcz, hrfz⟩ := bcell hrz
      have kz : Below w.heap.size w wrz := by (repeat (first | with_reducible assumption | with_reducible exact Below.refl _ _ | with_reducible refine Below.drew ?_ | with_reducible refine below_drewN ?_ _ | with_reducible refine al ?_ _ | (with_reducible refine sc ?_ ?_; (focus (first | omega | (simp; done) | (simp; omega)))) | (with_reducible refine chain ?_ (by assumption))))
      go_wp2_with fail
      (refine (l3_lives _).mono ?_; rintro e u1 ⟨rfl, hu1⟩)
      go_wp2
      go_ret
      exact ⟨rfl, by (repeat (first | with_reducible assumption | with_reducible exact Below.refl _ _ | with_reducible refine Below.drew ?_ | with_reducible refine below_drewN ?_ _ | with_reducible refine al ?_ _ | (with_reducible refine sc ?_ ?_; (focus (first | omega | (simp; done) | (simp; omega)))) | (with_reducible refine chain ?_ (by assumption))))⟩
    · (refine (Hi0.out g0 _).mono ?_; rintro e W6 ⟨rfl, hW6⟩)
      clear cb fb zb cc fc zc cd fd zd
      replace rb := rb.keep hW6
      replace rc := rc.keep hW6
      replace rd := rd.keep hW6
      replace kw := kw.trans (hW6.mono kw.size)
      have cb : ∀ j, W6.cell? ⟨w.heap.size, j, none⟩ = (#[.int .i64 x, .int .i64 y, .int .i64 z] : Array Value)[j]? := rb.cell
      have fb : ∀ j, W6.frozen? ⟨w.heap.size, j, none⟩ = false := rb.frozen
      have zb : w.heap.size < W6.heap.size := rb.lt
      have cc : ∀ j, W6.cell? ⟨w.heap.size + 1, j, none⟩ = (#[.int .i64 u, .int .i64 v, .int .i64 t] : Array Value)[j]? := rc.cell
      have fc : ∀ j, W6.frozen? ⟨w.heap.size + 1, j, none⟩ = false := rc.frozen
      have zc : w.heap.size + 1 < W6.heap.size := rc.lt
      have cd : ∀ j, W6.cell? ⟨w.heap.size + 1 + 1, j, none⟩ = (#[.int .i64 p, .int .i64 q, .int .i64 r] : Array Value)[j]? := rd.cell
      have fd : ∀ j, W6.frozen? ⟨w.heap.size + 1 + 1, j, none⟩ = false := rd.frozen
      have zd : w.heap.size + 1 + 1 < W6.heap.size := rd.lt
      clear hW6
      go_wp2_with fail
      (refine (Hi1.out g1 _).mono ?_; rintro e W7 ⟨rfl, hW7⟩)
      clear cb fb zb cc fc zc cd fd zd
      replace rb := rb.keep hW7
      replace rc := rc.keep hW7
      replace rd := rd.keep hW7
      replace kw := kw.trans (hW7.mono kw.size)
      have cb : ∀ j, W7.cell? ⟨w.heap.size, j, none⟩ = (#[.int .i64 x, .int .i64 y, .int .i64 z] : Array Value)[j]? := rb.cell
      have fb : ∀ j, W7.frozen? ⟨w.heap.size, j, none⟩ = false := rb.frozen
      have zb : w.heap.size < W7.heap.size := rb.lt
      have cc : ∀ j, W7.cell? ⟨w.heap.size + 1, j, none⟩ = (#[.int .i64 u, .int .i64 v, .int .i64 t] : Array Value)[j]? := rc.cell
      have fc : ∀ j, W7.frozen? ⟨w.heap.size + 1, j, none⟩ = false := rc.frozen
      have zc : w.heap.size + 1 < W7.heap.size := rc.lt
      have cd : ∀ j, W7.cell? ⟨w.heap.size + 1 + 1, j, none⟩ = (#[.int .i64 p, .int .i64 q, .int .i64 r] : Array Value)[j]? := rd.cell
      have fd : ∀ j, W7.frozen? ⟨w.heap.size + 1 + 1, j, none⟩ = false := rd.frozen
      have zd : w.heap.size + 1 + 1 < W7.heap.size := rd.lt
      clear hW7
      go_wp2_with fail
      refine region_below 12 (by kernel_rfl) (by kernel_rfl) ?_
      simp only [List.take_succ_cons, List.take_zero, List.drop_succ_cons, List.drop_zero]
      repeat (first | (refine' InText.skip (by rfl) ?_; simp only [Act.put, List.setIfInBounds_toArray, List.set_cons_zero, List.set_cons_succ]) | (refine' InText.val (by rfl) (fun wr hr => ?_) ?_; rotate_left 1; (focus (obtain ⟨hrc, hrf⟩ := bcell hr; (go_simp <;> with_reducible rfl); done)); simp only [Act.put, List.setIfInBounds_toArray, List.set_cons_zero, List.set_cons_succ]) | (refine' InText.call (by rfl) (fun wr hr => ?_) (fun wr hr => ?_) ?_; rotate_left 3; (focus ((go_simp <;> (first | with_reducible rfl | exact ⟨rfl, rfl⟩)); done)); (focus (first | with_reducible exact Hh3.out _ | with_reducible exact Hh4.out _)); simp only [Act.put, List.setIfInBounds_toArray, List.set_cons_zero, List.set_cons_succ]))
      refine fun wrz hrz => ?_
      obtain ⟨hrcz, hrfz⟩ := bcell hrz
      have kz : Below w.heap.size w wrz := by (repeat (first | with_reducible assumption | with_reducible exact Below.refl _ _ | with_reducible refine Below.drew ?_ | with_reducible refine below_drewN ?_ _ | with_reducible refine al ?_ _ | (with_reducible refine sc ?_ ?_; (focus (first | omega | (simp; done) | (simp; omega)))) | (with_reducible refine chain ?_ (by assumption))))
      go_wp2_with fail
      (refine (l3_lives _).mono ?_; rintro e u1 ⟨rfl, hu1⟩)
      go_wp2
      go_ret
      exact ⟨rfl, by (repeat (first | with_reducible assumption | with_reducible exact Below.refl _ _ | with_reducible refine Below.drew ?_ | with_reducible refine below_drewN ?_ _ | with_reducible refine al ?_ _ | (with_reducible refine sc ?_ ?_; (focus (first | omega | (simp; done) | (simp; omega)))) | (with_reducible refine chain ?_ (by assumption))))⟩
    · (refine (Hi0.out g0 _).mono ?_; rintro e W6 ⟨rfl, hW6⟩)
      clear cb fb zb cc fc zc cd fd zd
      replace rb := rb.keep hW6
      replace rc := rc.keep hW6
      replace rd := rd.keep hW6
      replace kw := kw.trans (hW6.mono kw.size)
      have cb : ∀ j, W6.cell? ⟨w.heap.size, j, none⟩ = (#[.int .i64 x, .int .i64 y, .int .i64 z] : Array Value)[j]? := rb.cell
      have fb : ∀ j, W6.frozen? ⟨w.heap.size, j, none⟩ = false := rb.frozen
      have zb : w.heap.size < W6.heap.size := rb.lt
      have cc : ∀ j, W6.cell? ⟨w.heap.size + 1, j, none⟩ = (#[.int .i64 u, .int .i64 v, .int .i64 t] : Array Value)[j]? := rc.cell
      have fc : ∀ j, W6.frozen? ⟨w.heap.size + 1, j, none⟩ = false := rc.frozen
      have zc : w.heap.size + 1 < W6.heap.size := rc.lt
      have cd : ∀ j, W6.cell? ⟨w.heap.size + 1 + 1, j, none⟩ = (#[.int .i64 p, .int .i64 q, .int .i64 r] : Array Value)[j]? := rd.cell
      have fd : ∀ j, W6.frozen? ⟨w.heap.size + 1 + 1, j, none⟩ = false := rd.frozen
      have zd : w.heap.size + 1 + 1 < W6.heap.size := rd.lt
      clear hW6
      go_wp2_with fail
      (refine (Hi1.out g1 _).mono ?_; rintro e W7 ⟨rfl, hW7⟩)
      clear cb fb zb cc fc zc cd fd zd
      replace rb := rb.keep hW7
      replace rc := rc.keep hW7
      replace rd := rd.keep hW7
      replace kw := kw.trans (hW7.mono kw.size)
      have cb : ∀ j, W7.cell? ⟨w.heap.size, j, none⟩ = (#[.int .i64 x, .int .i64 y, .int .i64 z] : Array Value)[j]? := rb.cell
      have fb : ∀ j, W7.frozen? ⟨w.heap.size, j, none⟩ = false := rb.frozen
      have zb : w.heap.size < W7.heap.size := rb.lt
      have cc : ∀ j, W7.cell? ⟨w.heap.size + 1, j, none⟩ = (#[.int .i64 u, .int .i64 v, .int .i64 t] : Array Value)[j]? := rc.cell
      have fc : ∀ j, W7.frozen? ⟨w.heap.size + 1, j, none⟩ = false := rc.frozen
      have zc : w.heap.size + 1 < W7.heap.size := rc.lt
      have cd : ∀ j, W7.cell? ⟨w.heap.size + 1 + 1, j, none⟩ = (#[.int .i64 p, .int .i64 q, .int .i64 r] : Array Value)[j]? := rd.cell
      have fd : ∀ j, W7.frozen? ⟨w.heap.size + 1 + 1, j, none⟩ = false := rd.frozen
      have zd : w.heap.size + 1 + 1 < W7.heap.size := rd.lt
      clear hW7
      go_wp2_with fail
      refine region_below 12 (by kernel_rfl) (by kernel_rfl) ?_
      simp only [List.take_succ_cons, List.take_zero, List.drop_succ_cons, List.drop_zero]
      repeat (first | (refine' InText.skip (by rfl) ?_; simp only [Act.put, List.setIfInBounds_toArray, List.set_cons_zero, List.set_cons_succ]) | (refine' InText.val (by rfl) (fun wr hr => ?_) ?_; rotate_left 1; (focus (obtain ⟨hrc, hrf⟩ := bcell hr; (go_simp <;> with_reducible rfl); done)); simp only [Act.put, List.setIfInBounds_toArray, List.set_cons_zero, List.set_cons_succ]) | (refine' InText.call (by rfl) (fun wr hr => ?_) (fun wr hr => ?_) ?_; rotate_left 3; (focus ((go_simp <;> (first | with_reducible rfl | exact ⟨rfl, rfl⟩)); done)); (focus (first | with_reducible exact Hh3.out _ | with_reducible exact Hh4.out _)); simp only [Act.put, List.setIfInBounds_toArray, List.set_cons_zero, List.set_cons_succ]))
      refine fun wrz hrz => ?_
      obtain ⟨hrcz, hrfz⟩ := bcell hrz
      have kz : Below w.heap.size w wrz := by (repeat (first | with_reducible assumption | with_reducible exact Below.refl _ _ | with_reducible refine Below.drew ?_ | with_reducible refine below_drewN ?_ _ | with_reducible refine al ?_ _ | (with_reducible refine sc ?_ ?_; (focus (first | omega | (simp; done) | (simp; omega)))) | (with_reducible refine chain ?_ (by assumption))))
      go_wp2_with fail
      (refine (l3_lives _).mono ?_; rintro e u1 ⟨rfl, hu1⟩)
      go_wp2
      go_ret
      exact ⟨rfl, by (repeat (first | with_reducible assumption | with_reducible exact Below.refl _ _ | with_reducible refine Below.drew ?_ | with_reducible refine below_drewN ?_ _ | with_reducible refine al ?_ _ | (with_reducible refine sc ?_ ?_; (focus (first | omega | (simp; done) | (simp; omega)))) | (with_reducible refine chain ?_ (by assumption))))⟩
  · go_wp2_with fail
    (refine (Hc3.out _).mono ?_; rintro e W6 ⟨rfl, hW6⟩)
    clear cb fb zb cc fc zc cd fd zd
    replace rb := rb.keep hW6
    replace rc := rc.keep hW6
    replace rd := rd.keep hW6
    replace kw := kw.trans (hW6.mono kw.size)
    have cb : ∀ j, W6.cell? ⟨w.heap.size, j, none⟩ = (#[.int .i64 x, .int .i64 y, .int .i64 z] : Array Value)[j]? := rb.cell
    have fb : ∀ j, W6.frozen? ⟨w.heap.size, j, none⟩ = false := rb.frozen
    have zb : w.heap.size < W6.heap.size := rb.lt
    have cc : ∀ j, W6.cell? ⟨w.heap.size + 1, j, none⟩ = (#[.int .i64 u, .int .i64 v, .int .i64 t] : Array Value)[j]? := rc.cell
    have fc : ∀ j, W6.frozen? ⟨w.heap.size + 1, j, none⟩ = false := rc.frozen
    have zc : w.heap.size + 1 < W6.heap.size := rc.lt
    have cd : ∀ j, W6.cell? ⟨w.heap.size + 1 + 1, j, none⟩ = (#[.int .i64 p, .int .i64 q, .int .i64 r] : Array Value)[j]? := rd.cell
    have fd : ∀ j, W6.frozen? ⟨w.heap.size + 1 + 1, j, none⟩ = false := rd.frozen
    have zd : w.heap.size + 1 + 1 < W6.heap.size := rd.lt
    clear hW6
    go_wp2_with fail
    rcases HW2.out with g0 | ⟨g0, g1⟩ | ⟨g0, g1, g2⟩ | ⟨g0, g1, g2, g3, g4⟩
    · (refine (Hn0.out g0 _).mono ?_; rintro e W7 ⟨rfl, hW7⟩)
      clear cb fb zb cc fc zc cd fd zd
      replace rb := rb.keep hW7
      replace rc := rc.keep hW7
      replace rd := rd.keep hW7
      replace kw := kw.trans (hW7.mono kw.size)
      have cb : ∀ j, W7.cell? ⟨w.heap.size, j, none⟩ = (#[.int .i64 x, .int .i64 y, .int .i64 z] : Array Value)[j]? := rb.cell
      have fb : ∀ j, W7.frozen? ⟨w.heap.size, j, none⟩ = false := rb.frozen
      have zb : w.heap.size < W7.heap.size := rb.lt
      have cc : ∀ j, W7.cell? ⟨w.heap.size + 1, j, none⟩ = (#[.int .i64 u, .int .i64 v, .int .i64 t] : Array Value)[j]? := rc.cell
      have fc : ∀ j, W7.frozen? ⟨w.heap.size + 1, j, none⟩ = false := rc.frozen
      have zc : w.heap.size + 1 < W7.heap.size := rc.lt
      have cd : ∀ j, W7.cell? ⟨w.heap.size + 1 + 1, j, none⟩ = (#[.int .i64 p, .int .i64 q, .int .i64 r] : Array Value)[j]? := rd.cell
      have fd : ∀ j, W7.frozen? ⟨w.heap.size + 1 + 1, j, none⟩ = false := rd.frozen
      have zd : w.heap.size + 1 + 1 < W7.heap.size := rd.lt
      clear hW7
      go_wp2_with fail
      obtain ⟨j, jb, hj⟩ : ∃ (j : Int) (jb : Bool), ∀ k, Calls Try.prog 26 #[vecV u v t] k fun e w' => e = .returned (.tuple #[.int .i64 j, .bool jb]) ∧ Below k.heap.size k w' := by
        by_cases g1 : 0 ≤ v ∧ v ≤ 31
        · exact ⟨_, _, fun k => Hi1.out g1 k⟩
        · exact ⟨_, _, fun k => Hn1.out (by omega) k⟩
      have Hj := Lib.hid hj
      clear hj
      (refine (Hj.out _).mono ?_; rintro e W8 ⟨rfl, hW8⟩)
      clear cb fb zb cc fc zc cd fd zd
      replace rb := rb.keep hW8
      replace rc := rc.keep hW8
      replace rd := rd.keep hW8
      replace kw := kw.trans (hW8.mono kw.size)
      have cb : ∀ j, W8.cell? ⟨w.heap.size, j, none⟩ = (#[.int .i64 x, .int .i64 y, .int .i64 z] : Array Value)[j]? := rb.cell
      have fb : ∀ j, W8.frozen? ⟨w.heap.size, j, none⟩ = false := rb.frozen
      have zb : w.heap.size < W8.heap.size := rb.lt
      have cc : ∀ j, W8.cell? ⟨w.heap.size + 1, j, none⟩ = (#[.int .i64 u, .int .i64 v, .int .i64 t] : Array Value)[j]? := rc.cell
      have fc : ∀ j, W8.frozen? ⟨w.heap.size + 1, j, none⟩ = false := rc.frozen
      have zc : w.heap.size + 1 < W8.heap.size := rc.lt
      have cd : ∀ j, W8.cell? ⟨w.heap.size + 1 + 1, j, none⟩ = (#[.int .i64 p, .int .i64 q, .int .i64 r] : Array Value)[j]? := rd.cell
      have fd : ∀ j, W8.frozen? ⟨w.heap.size + 1 + 1, j, none⟩ = false := rd.frozen
      have zd : w.heap.size + 1 + 1 < W8.heap.size := rd.lt
      clear hW8
      go_wp2_with fail
      refine region_below 12 (by kernel_rfl) (by kernel_rfl) ?_
      simp only [List.take_succ_cons, List.take_zero, List.drop_succ_cons, List.drop_zero]
      repeat (first | (refine' InText.skip (by rfl) ?_; simp only [Act.put, List.setIfInBounds_toArray, List.set_cons_zero, List.set_cons_succ]) | (refine' InText.val (by rfl) (fun wr hr => ?_) ?_; rotate_left 1; (focus (obtain ⟨hrc, hrf⟩ := bcell hr; (go_simp <;> with_reducible rfl); done)); simp only [Act.put, List.setIfInBounds_toArray, List.set_cons_zero, List.set_cons_succ]))
      refine fun wrz hrz => ?_
      obtain ⟨hrcz, hrfz⟩ := bcell hrz
      have kz : Below w.heap.size w wrz := by (repeat (first | with_reducible assumption | with_reducible exact Below.refl _ _ | with_reducible refine Below.drew ?_ | with_reducible refine below_drewN ?_ _ | with_reducible refine al ?_ _ | (with_reducible refine sc ?_ ?_; (focus (first | omega | (simp; done) | (simp; omega)))) | (with_reducible refine chain ?_ (by assumption))))
      go_wp2_with fail
      (refine (l3_lives _).mono ?_; rintro e u1 ⟨rfl, hu1⟩)
      go_wp2
      go_ret
      exact ⟨rfl, by (repeat (first | with_reducible assumption | with_reducible exact Below.refl _ _ | with_reducible refine Below.drew ?_ | with_reducible refine below_drewN ?_ _ | with_reducible refine al ?_ _ | (with_reducible refine sc ?_ ?_; (focus (first | omega | (simp; done) | (simp; omega)))) | (with_reducible refine chain ?_ (by assumption))))⟩
    · (refine (Hi0.out g0 _).mono ?_; rintro e W7 ⟨rfl, hW7⟩)
      clear cb fb zb cc fc zc cd fd zd
      replace rb := rb.keep hW7
      replace rc := rc.keep hW7
      replace rd := rd.keep hW7
      replace kw := kw.trans (hW7.mono kw.size)
      have cb : ∀ j, W7.cell? ⟨w.heap.size, j, none⟩ = (#[.int .i64 x, .int .i64 y, .int .i64 z] : Array Value)[j]? := rb.cell
      have fb : ∀ j, W7.frozen? ⟨w.heap.size, j, none⟩ = false := rb.frozen
      have zb : w.heap.size < W7.heap.size := rb.lt
      have cc : ∀ j, W7.cell? ⟨w.heap.size + 1, j, none⟩ = (#[.int .i64 u, .int .i64 v, .int .i64 t] : Array Value)[j]? := rc.cell
      have fc : ∀ j, W7.frozen? ⟨w.heap.size + 1, j, none⟩ = false := rc.frozen
      have zc : w.heap.size + 1 < W7.heap.size := rc.lt
      have cd : ∀ j, W7.cell? ⟨w.heap.size + 1 + 1, j, none⟩ = (#[.int .i64 p, .int .i64 q, .int .i64 r] : Array Value)[j]? := rd.cell
      have fd : ∀ j, W7.frozen? ⟨w.heap.size + 1 + 1, j, none⟩ = false := rd.frozen
      have zd : w.heap.size + 1 + 1 < W7.heap.size := rd.lt
      clear hW7
      go_wp2_with fail
      (refine (Hn1.out g1 _).mono ?_; rintro e W8 ⟨rfl, hW8⟩)
      clear cb fb zb cc fc zc cd fd zd
      replace rb := rb.keep hW8
      replace rc := rc.keep hW8
      replace rd := rd.keep hW8
      replace kw := kw.trans (hW8.mono kw.size)
      have cb : ∀ j, W8.cell? ⟨w.heap.size, j, none⟩ = (#[.int .i64 x, .int .i64 y, .int .i64 z] : Array Value)[j]? := rb.cell
      have fb : ∀ j, W8.frozen? ⟨w.heap.size, j, none⟩ = false := rb.frozen
      have zb : w.heap.size < W8.heap.size := rb.lt
      have cc : ∀ j, W8.cell? ⟨w.heap.size + 1, j, none⟩ = (#[.int .i64 u, .int .i64 v, .int .i64 t] : Array Value)[j]? := rc.cell
      have fc : ∀ j, W8.frozen? ⟨w.heap.size + 1, j, none⟩ = false := rc.frozen
      have zc : w.heap.size + 1 < W8.heap.size := rc.lt
      have cd : ∀ j, W8.cell? ⟨w.heap.size + 1 + 1, j, none⟩ = (#[.int .i64 p, .int .i64 q, .int .i64 r] : Array Value)[j]? := rd.cell
      have fd : ∀ j, W8.frozen? ⟨w.heap.size + 1 + 1, j, none⟩ = false := rd.frozen
      have zd : w.heap.size + 1 + 1 < W8.heap.size := rd.lt
      clear hW8
      go_wp2_with fail
      refine region_below 12 (by kernel_rfl) (by kernel_rfl) ?_
      simp only [List.take_succ_cons, List.take_zero, List.drop_succ_cons, List.drop_zero]
      repeat (first | (refine' InText.skip (by rfl) ?_; simp only [Act.put, List.setIfInBounds_toArray, List.set_cons_zero, List.set_cons_succ]) | (refine' InText.val (by rfl) (fun wr hr => ?_) ?_; rotate_left 1; (focus (obtain ⟨hrc, hrf⟩ := bcell hr; (go_simp <;> with_reducible rfl); done)); simp only [Act.put, List.setIfInBounds_toArray, List.set_cons_zero, List.set_cons_succ]))
      refine fun wrz hrz => ?_
      obtain ⟨hrcz, hrfz⟩ := bcell hrz
      have kz : Below w.heap.size w wrz := by (repeat (first | with_reducible assumption | with_reducible exact Below.refl _ _ | with_reducible refine Below.drew ?_ | with_reducible refine below_drewN ?_ _ | with_reducible refine al ?_ _ | (with_reducible refine sc ?_ ?_; (focus (first | omega | (simp; done) | (simp; omega)))) | (with_reducible refine chain ?_ (by assumption))))
      go_wp2_with fail
      (refine (l3_lives _).mono ?_; rintro e u1 ⟨rfl, hu1⟩)
      go_wp2
      go_ret
      exact ⟨rfl, by (repeat (first | with_reducible assumption | with_reducible exact Below.refl _ _ | with_reducible refine Below.drew ?_ | with_reducible refine below_drewN ?_ _ | with_reducible refine al ?_ _ | (with_reducible refine sc ?_ ?_; (focus (first | omega | (simp; done) | (simp; omega)))) | (with_reducible refine chain ?_ (by assumption))))⟩
    · (refine (Hi0.out g0 _).mono ?_; rintro e W7 ⟨rfl, hW7⟩)
      clear cb fb zb cc fc zc cd fd zd
      replace rb := rb.keep hW7
      replace rc := rc.keep hW7
      replace rd := rd.keep hW7
      replace kw := kw.trans (hW7.mono kw.size)
      have cb : ∀ j, W7.cell? ⟨w.heap.size, j, none⟩ = (#[.int .i64 x, .int .i64 y, .int .i64 z] : Array Value)[j]? := rb.cell
      have fb : ∀ j, W7.frozen? ⟨w.heap.size, j, none⟩ = false := rb.frozen
      have zb : w.heap.size < W7.heap.size := rb.lt
      have cc : ∀ j, W7.cell? ⟨w.heap.size + 1, j, none⟩ = (#[.int .i64 u, .int .i64 v, .int .i64 t] : Array Value)[j]? := rc.cell
      have fc : ∀ j, W7.frozen? ⟨w.heap.size + 1, j, none⟩ = false := rc.frozen
      have zc : w.heap.size + 1 < W7.heap.size := rc.lt
      have cd : ∀ j, W7.cell? ⟨w.heap.size + 1 + 1, j, none⟩ = (#[.int .i64 p, .int .i64 q, .int .i64 r] : Array Value)[j]? := rd.cell
      have fd : ∀ j, W7.frozen? ⟨w.heap.size + 1 + 1, j, none⟩ = false := rd.frozen
      have zd : w.heap.size + 1 + 1 < W7.heap.size := rd.lt
      clear hW7
      go_wp2_with fail
      (refine (Hi1.out g1 _).mono ?_; rintro e W8 ⟨rfl, hW8⟩)
      clear cb fb zb cc fc zc cd fd zd
      replace rb := rb.keep hW8
      replace rc := rc.keep hW8
      replace rd := rd.keep hW8
      replace kw := kw.trans (hW8.mono kw.size)
      have cb : ∀ j, W8.cell? ⟨w.heap.size, j, none⟩ = (#[.int .i64 x, .int .i64 y, .int .i64 z] : Array Value)[j]? := rb.cell
      have fb : ∀ j, W8.frozen? ⟨w.heap.size, j, none⟩ = false := rb.frozen
      have zb : w.heap.size < W8.heap.size := rb.lt
      have cc : ∀ j, W8.cell? ⟨w.heap.size + 1, j, none⟩ = (#[.int .i64 u, .int .i64 v, .int .i64 t] : Array Value)[j]? := rc.cell
      have fc : ∀ j, W8.frozen? ⟨w.heap.size + 1, j, none⟩ = false := rc.frozen
      have zc : w.heap.size + 1 < W8.heap.size := rc.lt
      have cd : ∀ j, W8.cell? ⟨w.heap.size + 1 + 1, j, none⟩ = (#[.int .i64 p, .int .i64 q, .int .i64 r] : Array Value)[j]? := rd.cell
      have fd : ∀ j, W8.frozen? ⟨w.heap.size + 1 + 1, j, none⟩ = false := rd.frozen
      have zd : w.heap.size + 1 + 1 < W8.heap.size := rd.lt
      clear hW8
      go_wp2_with fail
      refine region_below 12 (by kernel_rfl) (by kernel_rfl) ?_
      simp only [List.take_succ_cons, List.take_zero, List.drop_succ_cons, List.drop_zero]
      repeat (first | (refine' InText.skip (by rfl) ?_; simp only [Act.put, List.setIfInBounds_toArray, List.set_cons_zero, List.set_cons_succ]) | (refine' InText.val (by rfl) (fun wr hr => ?_) ?_; rotate_left 1; (focus (obtain ⟨hrc, hrf⟩ := bcell hr; (go_simp <;> with_reducible rfl); done)); simp only [Act.put, List.setIfInBounds_toArray, List.set_cons_zero, List.set_cons_succ]) | (refine' InText.call (by rfl) (fun wr hr => ?_) (fun wr hr => ?_) ?_; rotate_left 3; (focus ((go_simp <;> (first | with_reducible rfl | exact ⟨rfl, rfl⟩)); done)); (focus (first | with_reducible exact Hh3.out _ | with_reducible exact Hh4.out _)); simp only [Act.put, List.setIfInBounds_toArray, List.set_cons_zero, List.set_cons_succ]))
      refine fun wrz hrz => ?_
      obtain ⟨hrcz, hrfz⟩ := bcell hrz
      have kz : Below w.heap.size w wrz := by (repeat (first | with_reducible assumption | with_reducible exact Below.refl _ _ | with_reducible refine Below.drew ?_ | with_reducible refine below_drewN ?_ _ | with_reducible refine al ?_ _ | (with_reducible refine sc ?_ ?_; (focus (first | omega | (simp; done) | (simp; omega)))) | (with_reducible refine chain ?_ (by assumption))))
      go_wp2_with fail
      (refine (l3_lives _).mono ?_; rintro e u1 ⟨rfl, hu1⟩)
      go_wp2
      go_ret
      exact ⟨rfl, by (repeat (first | with_reducible assumption | with_reducible exact Below.refl _ _ | with_reducible refine Below.drew ?_ | with_reducible refine below_drewN ?_ _ | with_reducible refine al ?_ _ | (with_reducible refine sc ?_ ?_; (focus (first | omega | (simp; done) | (simp; omega)))) | (with_reducible refine chain ?_ (by assumption))))⟩
    · (refine (Hi0.out g0 _).mono ?_; rintro e W7 ⟨rfl, hW7⟩)
      clear cb fb zb cc fc zc cd fd zd
      replace rb := rb.keep hW7
      replace rc := rc.keep hW7
      replace rd := rd.keep hW7
      replace kw := kw.trans (hW7.mono kw.size)
      have cb : ∀ j, W7.cell? ⟨w.heap.size, j, none⟩ = (#[.int .i64 x, .int .i64 y, .int .i64 z] : Array Value)[j]? := rb.cell
      have fb : ∀ j, W7.frozen? ⟨w.heap.size, j, none⟩ = false := rb.frozen
      have zb : w.heap.size < W7.heap.size := rb.lt
      have cc : ∀ j, W7.cell? ⟨w.heap.size + 1, j, none⟩ = (#[.int .i64 u, .int .i64 v, .int .i64 t] : Array Value)[j]? := rc.cell
      have fc : ∀ j, W7.frozen? ⟨w.heap.size + 1, j, none⟩ = false := rc.frozen
      have zc : w.heap.size + 1 < W7.heap.size := rc.lt
      have cd : ∀ j, W7.cell? ⟨w.heap.size + 1 + 1, j, none⟩ = (#[.int .i64 p, .int .i64 q, .int .i64 r] : Array Value)[j]? := rd.cell
      have fd : ∀ j, W7.frozen? ⟨w.heap.size + 1 + 1, j, none⟩ = false := rd.frozen
      have zd : w.heap.size + 1 + 1 < W7.heap.size := rd.lt
      clear hW7
      go_wp2_with fail
      (refine (Hi1.out g1 _).mono ?_; rintro e W8 ⟨rfl, hW8⟩)
      clear cb fb zb cc fc zc cd fd zd
      replace rb := rb.keep hW8
      replace rc := rc.keep hW8
      replace rd := rd.keep hW8
      replace kw := kw.trans (hW8.mono kw.size)
      have cb : ∀ j, W8.cell? ⟨w.heap.size, j, none⟩ = (#[.int .i64 x, .int .i64 y, .int .i64 z] : Array Value)[j]? := rb.cell
      have fb : ∀ j, W8.frozen? ⟨w.heap.size, j, none⟩ = false := rb.frozen
      have zb : w.heap.size < W8.heap.size := rb.lt
      have cc : ∀ j, W8.cell? ⟨w.heap.size + 1, j, none⟩ = (#[.int .i64 u, .int .i64 v, .int .i64 t] : Array Value)[j]? := rc.cell
      have fc : ∀ j, W8.frozen? ⟨w.heap.size + 1, j, none⟩ = false := rc.frozen
      have zc : w.heap.size + 1 < W8.heap.size := rc.lt
      have cd : ∀ j, W8.cell? ⟨w.heap.size + 1 + 1, j, none⟩ = (#[.int .i64 p, .int .i64 q, .int .i64 r] : Array Value)[j]? := rd.cell
      have fd : ∀ j, W8.frozen? ⟨w.heap.size + 1 + 1, j, none⟩ = false := rd.frozen
      have zd : w.heap.size + 1 + 1 < W8.heap.size := rd.lt
      clear hW8
      go_wp2_with fail
      refine region_below 12 (by kernel_rfl) (by kernel_rfl) ?_
      simp only [List.take_succ_cons, List.take_zero, List.drop_succ_cons, List.drop_zero]
      repeat (first | (refine' InText.skip (by rfl) ?_; simp only [Act.put, List.setIfInBounds_toArray, List.set_cons_zero, List.set_cons_succ]) | (refine' InText.val (by rfl) (fun wr hr => ?_) ?_; rotate_left 1; (focus (obtain ⟨hrc, hrf⟩ := bcell hr; (go_simp <;> with_reducible rfl); done)); simp only [Act.put, List.setIfInBounds_toArray, List.set_cons_zero, List.set_cons_succ]) | (refine' InText.call (by rfl) (fun wr hr => ?_) (fun wr hr => ?_) ?_; rotate_left 3; (focus ((go_simp <;> (first | with_reducible rfl | exact ⟨rfl, rfl⟩)); done)); (focus (first | with_reducible exact Hh3.out _ | with_reducible exact Hh4.out _)); simp only [Act.put, List.setIfInBounds_toArray, List.set_cons_zero, List.set_cons_succ]))
      refine fun wrz hrz => ?_
      obtain ⟨hrcz, hrfz⟩ := bcell hrz
      have kz : Below w.heap.size w wrz := by (repeat (first | with_reducible assumption | with_reducible exact Below.refl _ _ | with_reducible refine Below.drew ?_ | with_reducible refine below_drewN ?_ _ | with_reducible refine al ?_ _ | (with_reducible refine sc ?_ ?_; (focus (first | omega | (simp; done) | (simp; omega)))) | (with_reducible refine chain ?_ (by assumption))))
      go_wp2_with fail
      (refine (l3_lives _).mono ?_; rintro e u1 ⟨rfl, hu1⟩)
      go_wp2
      go_ret
      exact ⟨rfl, by (repeat (first | with_reducible assumption | with_reducible exact Below.refl _ _ | with_reducible refine Below.drew ?_ | with_reducible refine below_drewN ?_ _ | with_reducible refine al ?_ _ | (with_reducible refine sc ?_ ?_; (focus (first | omega | (simp; done) | (simp; omega)))) | (with_reducible refine chain ?_ (by assumption))))⟩
theorem own : ownKnob Try.prog.godebug = none := by kernel_rfl
set_option maxRecDepth 100000 in
theorem lifted (os : Os) (started : os.Started) (H : Type) (enc : TypeId × Value → H) :
    ReturnsInHanded {} Try.checked os 8 .any (Rows.cellRowSpec.pre6 enc Try.prog Try.f8 Rows.cellRowRow.domain false) (Rows.cellRowSpec.post enc Try.prog Try.f8 false true false false) := by
  refine returnsInHanded_of_change (C := Try.checked) own started (by kernel_rfl) Try.func8
    (ChangeSpec.witness6 (enc := enc) (C := Try.checked) false ⟨#[], #[.agg #[.int .i64 0, .int .i64 0, .int .i64 0], .agg #[.int .i64 0, .int .i64 0, .int .i64 0], .agg #[.int .i64 0, .int .i64 0, .int .i64 0]], []⟩ 8 (by kernel_rfl) (by kernel_rfl) (by kernel_rfl) (by kernel_rfl)) ?_
  intro W base args ds gs before hval0 hW hcnd _
  have hval : ∀ (j : Nat) t v, Try.f8.params[j]? = some t → args[j]? = some v → Value.okWide Try.prog W .any base t v := hval0
  have hW' := hW
  obtain ⟨p, q, hA0, hV, rfl, hfz, hnd⟩ := hW
  have hA : DataW.TrodAll enc Try.prog W 0 (fun _ => true) true Try.f8.params.toList args.toList ds p := hA0
  rw [Try.params8] at hA hval
  obtain ⟨v0, vs0, d0, ds0, p0, q0, hargs, rfl, rfl, h0, r0⟩ := trodAll_cons hA
  obtain ⟨v1, vs1, d1, ds1, p1, q1, rfl, rfl, rfl, h1, r1⟩ := trodAll_cons r0
  obtain ⟨v2, vs2, d2, ds2, p2, q2, rfl, rfl, rfl, h2, r2⟩ := trodAll_cons r1
  obtain ⟨rfl, rfl, rfl⟩ := trodAll_nil r2
  obtain rfl : args = #[v0, v1, v2] := by cases args; simp_all
  obtain ⟨rfl, rfl⟩ := trodVars_none hV
  simp only [List.append_nil] at hW'
  have hlt : ∀ x ∈ p0 ++ (p1 ++ (p2 ++ ([]))), x.block < W.heap.size := fun x hx => hW'.lt x (by simpa using hx)
  have hlt0 : ∀ x ∈ p0, x.block < W.heap.size := fun x hx => hlt x (List.mem_append.2 (.inl hx))
  have hlt1 : ∀ x ∈ p1, x.block < W.heap.size := fun x hx => hlt x (List.mem_append.2 (.inr (List.mem_append.2 (.inl hx))))
  have hlt2 : ∀ x ∈ p2, x.block < W.heap.size := fun x hx => hlt x (List.mem_append.2 (.inr (List.mem_append.2 (.inr (List.mem_append.2 (.inl hx))))))
  have k0 := h0
  have k1 := h1
  have k2 := h2
  obtain ⟨a0, rfl, w0⟩ := open_cell (hval 0 28 v0 rfl rfl) h0
  obtain ⟨a1, rfl, w1⟩ := open_cell (hval 1 28 v1 rfl rfl) h1
  obtain ⟨a2, rfl, w2⟩ := open_cell (hval 2 28 v2 rfl rfl) h2
  clear hA0 hval0
  refine (walk a0 w0 a1 w1 a2 w2 W).mono fun e W' ⟨he, hg⟩ => ?_
  subst he
  exact ⟨_, rfl, _, _, _, [], _, [], hW', (trodAll_cons_mk (shut_bool Try.underlying4 _) trodAll_mk0), (trodAll_cons_mk (Below.trod laidOut (by kernel_rfl) (of_decide_eq_true (by kernel_rfl)) k0 hg hlt0) (trodAll_cons_mk (Below.trod laidOut (by kernel_rfl) (of_decide_eq_true (by kernel_rfl)) k1 hg hlt1) (trodAll_cons_mk (Below.trod laidOut (by kernel_rfl) (of_decide_eq_true (by kernel_rfl)) k2 hg hlt2) trodAll_mk0))), rfl, hg.frame _, fun h => by cases h⟩
theorem over : Rows.cellRowRow.holds Try.pinned (OpenSpec.ofChange Rows.cellRowSpec) :=
  OpenClaim.holds_of_wide 8 Try.f8 rfl rfl rfl rfl rfl rfl rfl ⟨rfl, rfl, rfl, rfl, rfl⟩ rfl rfl rfl rfl rfl (by kernel_rfl) Try.func8 (by kernel_rfl)
    (of_decide_eq_true (by kernel_rfl)) (by unfold Func.isWrapper; first | (rw [if_pos (by decide +kernel)]; kernel_rfl) | (rw [if_neg (by decide +kernel)]; exact ⟨rfl, rfl⟩))
    (fun os started H enc _ => lifted os started H enc)
theorem proved : Rows.CellRowSaid := over
#print axioms proved
end Go.Proofs.Ytenpcmhfbbfpeaa.cellRow
