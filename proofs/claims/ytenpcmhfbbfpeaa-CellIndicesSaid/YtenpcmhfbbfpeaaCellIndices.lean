/- For every cell, chunk and index the law CellIndices of layer 3 answers true: a cell's chunk and index tell the cell again. Conditions: none: every input. -/
import Derived.Test.YtenpcmhfbbfpeaaRows
import Derived.Test.YtenpcmhfbbfpeaaO02
import Derived.Test.YtenpcmhfbbfpeaaL03
import Derived.Test.YtenpcmhfbbfpeaaE03
import Derived.Test.YtenpcmhfbbfpeaaQ32
import Derived.Test.YtenpcmhfbbfpeaaS03
import Derived.WalkKit
import Derived.ProofKit
import Derived.OpenShut
import Derived.Below
import Derived.Carry
namespace Go.Proofs.Ytenpcmhfbbfpeaa.cellIndices
open Go.Proofs.Ytenpcmhfbbfpeaa Go.ChangeShapes Go.WideShapes Go.ChangeAt Go.RowKit
set_option linter.unusedVariables false
set_option linter.unusedSimpArgs false
attribute [local go_sem ↓] Go.wp_at_zero Go.wp_at_succ
set_option maxHeartbeats 16000000 in
theorem walk (a0 : V3) (w0 : a0.wf) (a1 : V2) (w1 : a1.wf) (a2 : Int) (w2 : -9223372036854775808 ≤ a2 ∧ a2 ≤ 9223372036854775807) (w : World) :
    Calls Try.prog 5 #[a0.val, a1.val, .int .i64 a2] w fun e w' => e = .returned (.bool true) ∧ Below w.heap.size w w' := by
  obtain ⟨x, y, z⟩ := a0
  obtain ⟨p, q⟩ := a1
  obtain ⟨wp, wq⟩ := w1
  have bX := cellC_bd x
  have bY := cellC_bd y
  have bZ := cellC_bd z
  have cc := fun k => r3_cut x y z k
  have kp := fun k => r_around p 268435457 wp.1 wp.2 (by omega) (by omega) k
  have kq := fun k => r_around q 268435457 wq.1 wq.2 (by omega) (by omega) k
  have bp := around_bd p 268435457 (by omega)
  have bq := around_bd q 268435457 (by omega)
  generalize cellC x = X at *
  generalize cellC y = Y at *
  generalize cellC z = Z at *
  generalize aroundF p 268435457 = P at *
  generalize aroundF q 268435457 = Q at *
  obtain ⟨U, hU⟩ : ∃ U, P - 134217728 = U := ⟨_, rfl⟩
  obtain ⟨V, hV⟩ : ∃ V, Q - 134217728 = V := ⟨_, rfl⟩
  have bU : -134217728 ≤ U ∧ U ≤ 134217728 := by omega
  have bV : -134217728 ≤ V ∧ V ≤ 134217728 := by omega
  have wU : IntKind.i64.wrap (P - 134217728) = U := by rw [IntWalk.i64_in _ (by omega)]; exact hU
  have wV : IntKind.i64.wrap (Q - 134217728) = V := by rw [IntWalk.i64_in _ (by omega)]; exact hV
  have ch := fun k => c3_chunk X Y Z (by constructor <;> omega) (by constructor <;> omega) k
  have rh := fun k => r3_chunk X Y Z (by constructor <;> omega) (by constructor <;> omega) k
  -- the index of the cell, whichever
  have bC : -134217728 ≤ X / 16 ∧ X / 16 ≤ 134217728 := by omega
  have bD : -134217728 ≤ Z / 16 ∧ Z / 16 ≤ 134217728 := by omega
  have one : ∃ (n : Int) (b : Bool) (f0 f1 f2 : Int), (∀ k, Calls Try.prog 25 #[vecV X Y Z] k fun e w' => e = .returned (.tuple #[.int .i64 n, .bool b]) ∧ Below k.heap.size k w') ∧
      (∀ k, Calls Try.prog 26 #[vecV X Y Z] k fun e w' => e = .returned (.tuple #[.int .i64 n, .bool b]) ∧ Below k.heap.size k w') ∧
      (∀ k, Calls Try.prog 28 #[posV (X / 16) (Z / 16), .int .i64 n] k fun e w' => e = .returned (.tuple #[vecV f0 f1 f2, .bool true]) ∧ Below k.heap.size k w') ∧ (b = false ∨ (b = true ∧ (f0 = X ∧ f1 = Y ∧ f2 = Z))) := by
    by_cases hy : 0 ≤ Y ∧ Y ≤ 31
    · have hi : 0 ≤ idxF X Y Z ∧ idxF X Y Z ≤ 8191 := by unfold idxF; omega
      refine ⟨_, _, _, _, _, fun k => c3_index X Y Z (by constructor <;> omega) (by constructor <;> omega) hy.1 hy.2 k, fun k => r3_index X Y Z (by constructor <;> omega) (by constructor <;> omega) hy.1 hy.2 k, fun k => c3_from (X / 16) (Z / 16) (idxF X Y Z) bC bD hi.1 hi.2 k, .inr ⟨rfl, ?_⟩⟩
      unfold idxF; omega
    · exact ⟨_, _, _, _, _, fun k => c3_index_no X Y Z (by omega) k, fun k => r3_index_no X Y Z (by omega) k, fun k => c3_from (X / 16) (Z / 16) 0 bC bD (by omega) (by omega) k, .inl rfl⟩
  -- the cell of the index, whichever
  have two : ∃ (g0 g1 g2 k0 : Int) (b kb : Bool), (∀ k, Calls Try.prog 28 #[posV U V, .int .i64 a2] k fun e w' => e = .returned (.tuple #[vecV g0 g1 g2, .bool b]) ∧ Below k.heap.size k w') ∧
      (∀ k, Calls Try.prog 30 #[posV U V, .int .i64 a2] k fun e w' => e = .returned (.tuple #[vecV g0 g1 g2, .bool b]) ∧ Below k.heap.size k w') ∧
      (∀ k, Calls Try.prog 25 #[vecV g0 g1 g2] k fun e w' => e = .returned (.tuple #[.int .i64 k0, .bool kb]) ∧ Below k.heap.size k w') ∧
      ((b = false ∧ decide (0 ≤ a2) = false) ∨ (b = false ∧ decide (0 ≤ a2) = true ∧ decide (a2 ≤ 8191) = false) ∨ (b = true ∧ decide (0 ≤ a2) = true ∧ decide (a2 ≤ 8191) = true ∧ kb = true ∧ k0 = a2 ∧
        (∀ k, Calls Try.prog 24 #[vecV g0 g1 g2] k fun e w' => e = .returned (posV U V) ∧ Below k.heap.size k w'))) := by
    by_cases h0 : 0 ≤ a2
    · by_cases h1 : a2 ≤ 8191
      · have e0 : idxF (U * 16 + a2 % 16) (a2 / 256) (V * 16 + a2 % 256 / 16) = a2 := by unfold idxF; omega
        refine ⟨_, _, _, _, _, _, fun k => c3_from U V a2 bU bV h0 h1 k, fun k => r3_from U V a2 bU bV h0 h1 k, fun k => c3_index _ _ _ (by constructor <;> omega) (by constructor <;> omega) (by omega) (by omega) k, .inr (.inr ⟨rfl, by simpa using h0, by simpa using h1, rfl, e0, fun k => ?_⟩)⟩
        have := c3_chunk (U * 16 + a2 % 16) (a2 / 256) (V * 16 + a2 % 256 / 16) (by constructor <;> omega) (by constructor <;> omega) k
        rwa [show (U * 16 + a2 % 16) / 16 = U by omega, show (V * 16 + a2 % 256 / 16) / 16 = V by omega] at this
      · exact ⟨_, _, _, _, _, _, fun k => c3_from_no U V a2 (by omega) k, fun k => r3_from_no U V a2 (by omega) k, fun k => c3_index 0 0 0 (by decide) (by decide) (by omega) (by omega) k, .inr (.inl ⟨rfl, by simpa using h0, by simp; omega⟩)⟩
    · exact ⟨_, _, _, _, _, _, fun k => c3_from_no U V a2 (by omega) k, fun k => r3_from_no U V a2 (by omega) k, fun k => c3_index 0 0 0 (by decide) (by decide) (by omega) (by omega) k, .inl ⟨rfl, by simpa using h0⟩⟩
  obtain ⟨n, b, f0, f1, f2, ix, rx, fr, wy1⟩ := one
  obtain ⟨g0, g1, g2, k0, b2, kb, fr2, rf2, ix2, wy2⟩ := two
  generalize X / 16 = C at *
  generalize Z / 16 = D at *
  clear hU hV bU bV bp bq bX bY bZ bC bD wp wq w0
  have q3 := ne3c_run
  have q4 := eq3_self
  have HY1 := Lib.hid wy1
  have HY2 := Lib.hid wy2
  clear wy1 wy2
  have Hcc := Lib.hid cc
  have Hkp := Lib.hid kp
  have Hkq := Lib.hid kq
  have Hch := Lib.hid ch
  have Hrh := Lib.hid rh
  have Hix := Lib.hid ix
  have Hrx := Lib.hid rx
  have Hfr := Lib.hid fr
  have Hfr2 := Lib.hid fr2
  have Hrf2 := Lib.hid rf2
  have Hix2 := Lib.hid ix2
  clear cc kp kq ch rh ix rx fr fr2 rf2 ix2
  go_enter Try.func5, Try.ntmps5
  go_wp2_with fail
  have rb : RowAt (w.alloc (.cells #[.int .i64 x, .int .i64 y, .int .i64 z] 28)) (w.heap.size) #[.int .i64 x, .int .i64 y, .int .i64 z] 28 := RowAt.make _ _ _ (by simp)
  have rb : RowAt ((w.alloc (.cells #[.int .i64 x, .int .i64 y, .int .i64 z] 28)).alloc (.cells #[.int .i64 p, .int .i64 q] 38)) (w.heap.size) #[.int .i64 x, .int .i64 y, .int .i64 z] 28 := rb.alloc _
  have rc : RowAt ((w.alloc (.cells #[.int .i64 x, .int .i64 y, .int .i64 z] 28)).alloc (.cells #[.int .i64 p, .int .i64 q] 38)) (w.heap.size + 1) #[.int .i64 p, .int .i64 q] 38 := RowAt.make _ _ _ (by simp)
  have kw : Below w.heap.size w ((w.alloc (.cells #[.int .i64 x, .int .i64 y, .int .i64 z] 28)).alloc (.cells #[.int .i64 p, .int .i64 q] 38)) := by (repeat (first | with_reducible assumption | with_reducible exact Below.refl _ _ | with_reducible refine Below.drew ?_ | with_reducible refine below_drewN ?_ _ | with_reducible refine al ?_ _ | (with_reducible refine sc ?_ ?_; (focus (first | omega | (simp; done) | (simp; omega)))) | (with_reducible refine chain ?_ (by assumption))))
  generalize ((w.alloc (.cells #[.int .i64 x, .int .i64 y, .int .i64 z] 28)).alloc (.cells #[.int .i64 p, .int .i64 q] 38)) = W1 at *
  have cb : ∀ j, W1.cell? ⟨w.heap.size, j, none⟩ = (#[.int .i64 x, .int .i64 y, .int .i64 z] : Array Value)[j]? := rb.cell
  have fb : ∀ j, W1.frozen? ⟨w.heap.size, j, none⟩ = false := rb.frozen
  have zb : w.heap.size < W1.heap.size := rb.lt
  have cc : ∀ j, W1.cell? ⟨w.heap.size + 1, j, none⟩ = (#[.int .i64 p, .int .i64 q] : Array Value)[j]? := rc.cell
  have fc : ∀ j, W1.frozen? ⟨w.heap.size + 1, j, none⟩ = false := rc.frozen
  have zc : w.heap.size + 1 < W1.heap.size := rc.lt
  (refine (Hcc.out _).mono ?_; rintro e W2 ⟨rfl, hW2⟩)
  clear cb fb zb cc fc zc
  replace rb := rb.keep hW2
  replace rc := rc.keep hW2
  replace kw := kw.trans (hW2.mono kw.size)
  have cb : ∀ j, W2.cell? ⟨w.heap.size, j, none⟩ = (#[.int .i64 x, .int .i64 y, .int .i64 z] : Array Value)[j]? := rb.cell
  have fb : ∀ j, W2.frozen? ⟨w.heap.size, j, none⟩ = false := rb.frozen
  have zb : w.heap.size < W2.heap.size := rb.lt
  have cc : ∀ j, W2.cell? ⟨w.heap.size + 1, j, none⟩ = (#[.int .i64 p, .int .i64 q] : Array Value)[j]? := rc.cell
  have fc : ∀ j, W2.frozen? ⟨w.heap.size + 1, j, none⟩ = false := rc.frozen
  have zc : w.heap.size + 1 < W2.heap.size := rc.lt
  clear hW2
  go_wp2_with fail
  have ydb : w.heap.size < W2.heap.size := by omega
  have ydc : w.heap.size + 1 < W2.heap.size := by omega
  replace kw : Below w.heap.size w (W2.alloc (.cells #[.int .i64 X, .int .i64 Y, .int .i64 Z] 28)) := by (repeat (first | with_reducible assumption | with_reducible exact Below.refl _ _ | with_reducible refine Below.drew ?_ | with_reducible refine below_drewN ?_ _ | with_reducible refine al ?_ _ | (with_reducible refine sc ?_ ?_; (focus (first | omega | (simp; done) | (simp; omega)))) | (with_reducible refine chain ?_ (by assumption))))
  replace rb : RowAt (W2.alloc (.cells #[.int .i64 X, .int .i64 Y, .int .i64 Z] 28)) (w.heap.size) #[.int .i64 x, .int .i64 y, .int .i64 z] 28 := (rb.alloc _)
  replace rc : RowAt (W2.alloc (.cells #[.int .i64 X, .int .i64 Y, .int .i64 Z] 28)) (w.heap.size + 1) #[.int .i64 p, .int .i64 q] 38 := (rc.alloc _)
  have rd : RowAt (W2.alloc (.cells #[.int .i64 X, .int .i64 Y, .int .i64 Z] 28)) (W2.heap.size) #[.int .i64 X, .int .i64 Y, .int .i64 Z] 28 := (RowAt.make _ _ _ (by first | rfl | (simp [World.setCell]; done)))
  clear cb fb zb cc fc zc
  generalize (W2.alloc (.cells #[.int .i64 X, .int .i64 Y, .int .i64 Z] 28)) = W3 at *
  have cb : ∀ j, W3.cell? ⟨w.heap.size, j, none⟩ = (#[.int .i64 x, .int .i64 y, .int .i64 z] : Array Value)[j]? := rb.cell
  have fb : ∀ j, W3.frozen? ⟨w.heap.size, j, none⟩ = false := rb.frozen
  have zb : w.heap.size < W3.heap.size := rb.lt
  have cc : ∀ j, W3.cell? ⟨w.heap.size + 1, j, none⟩ = (#[.int .i64 p, .int .i64 q] : Array Value)[j]? := rc.cell
  have fc : ∀ j, W3.frozen? ⟨w.heap.size + 1, j, none⟩ = false := rc.frozen
  have zc : w.heap.size + 1 < W3.heap.size := rc.lt
  have cd : ∀ j, W3.cell? ⟨W2.heap.size, j, none⟩ = (#[.int .i64 X, .int .i64 Y, .int .i64 Z] : Array Value)[j]? := rd.cell
  have fd : ∀ j, W3.frozen? ⟨W2.heap.size, j, none⟩ = false := rd.frozen
  have zd : W2.heap.size < W3.heap.size := rd.lt
  (refine (Hch.out _).mono ?_; rintro e W4 ⟨rfl, hW4⟩)
  clear cb fb zb cc fc zc cd fd zd
  replace rb := rb.keep hW4
  replace rc := rc.keep hW4
  replace rd := rd.keep hW4
  replace kw := kw.trans (hW4.mono kw.size)
  have cb : ∀ j, W4.cell? ⟨w.heap.size, j, none⟩ = (#[.int .i64 x, .int .i64 y, .int .i64 z] : Array Value)[j]? := rb.cell
  have fb : ∀ j, W4.frozen? ⟨w.heap.size, j, none⟩ = false := rb.frozen
  have zb : w.heap.size < W4.heap.size := rb.lt
  have cc : ∀ j, W4.cell? ⟨w.heap.size + 1, j, none⟩ = (#[.int .i64 p, .int .i64 q] : Array Value)[j]? := rc.cell
  have fc : ∀ j, W4.frozen? ⟨w.heap.size + 1, j, none⟩ = false := rc.frozen
  have zc : w.heap.size + 1 < W4.heap.size := rc.lt
  have cd : ∀ j, W4.cell? ⟨W2.heap.size, j, none⟩ = (#[.int .i64 X, .int .i64 Y, .int .i64 Z] : Array Value)[j]? := rd.cell
  have fd : ∀ j, W4.frozen? ⟨W2.heap.size, j, none⟩ = false := rd.frozen
  have zd : W2.heap.size < W4.heap.size := rd.lt
  clear hW4
  go_wp2_with fail
  have yqb : w.heap.size < W4.heap.size := by omega
  have yqc : w.heap.size + 1 < W4.heap.size := by omega
  have yqd : W2.heap.size < W4.heap.size := by omega
  replace kw : Below w.heap.size w (W4.alloc (.cells #[.int .i64 C, .int .i64 D] 38)) := by (repeat (first | with_reducible assumption | with_reducible exact Below.refl _ _ | with_reducible refine Below.drew ?_ | with_reducible refine below_drewN ?_ _ | with_reducible refine al ?_ _ | (with_reducible refine sc ?_ ?_; (focus (first | omega | (simp; done) | (simp; omega)))) | (with_reducible refine chain ?_ (by assumption))))
  replace rb : RowAt (W4.alloc (.cells #[.int .i64 C, .int .i64 D] 38)) (w.heap.size) #[.int .i64 x, .int .i64 y, .int .i64 z] 28 := (rb.alloc _)
  replace rc : RowAt (W4.alloc (.cells #[.int .i64 C, .int .i64 D] 38)) (w.heap.size + 1) #[.int .i64 p, .int .i64 q] 38 := (rc.alloc _)
  replace rd : RowAt (W4.alloc (.cells #[.int .i64 C, .int .i64 D] 38)) (W2.heap.size) #[.int .i64 X, .int .i64 Y, .int .i64 Z] 28 := (rd.alloc _)
  have rq : RowAt (W4.alloc (.cells #[.int .i64 C, .int .i64 D] 38)) (W4.heap.size) #[.int .i64 C, .int .i64 D] 38 := (RowAt.make _ _ _ (by first | rfl | (simp [World.setCell]; done)))
  clear cb fb zb cc fc zc cd fd zd
  generalize (W4.alloc (.cells #[.int .i64 C, .int .i64 D] 38)) = W5 at *
  have cb : ∀ j, W5.cell? ⟨w.heap.size, j, none⟩ = (#[.int .i64 x, .int .i64 y, .int .i64 z] : Array Value)[j]? := rb.cell
  have fb : ∀ j, W5.frozen? ⟨w.heap.size, j, none⟩ = false := rb.frozen
  have zb : w.heap.size < W5.heap.size := rb.lt
  have cc : ∀ j, W5.cell? ⟨w.heap.size + 1, j, none⟩ = (#[.int .i64 p, .int .i64 q] : Array Value)[j]? := rc.cell
  have fc : ∀ j, W5.frozen? ⟨w.heap.size + 1, j, none⟩ = false := rc.frozen
  have zc : w.heap.size + 1 < W5.heap.size := rc.lt
  have cd : ∀ j, W5.cell? ⟨W2.heap.size, j, none⟩ = (#[.int .i64 X, .int .i64 Y, .int .i64 Z] : Array Value)[j]? := rd.cell
  have fd : ∀ j, W5.frozen? ⟨W2.heap.size, j, none⟩ = false := rd.frozen
  have zd : W2.heap.size < W5.heap.size := rd.lt
  have cq : ∀ j, W5.cell? ⟨W4.heap.size, j, none⟩ = (#[.int .i64 C, .int .i64 D] : Array Value)[j]? := rq.cell
  have fq : ∀ j, W5.frozen? ⟨W4.heap.size, j, none⟩ = false := rq.frozen
  have zq : W4.heap.size < W5.heap.size := rq.lt
  (refine (Hix.out _).mono ?_; rintro e W6 ⟨rfl, hW6⟩)
  clear cb fb zb cc fc zc cd fd zd cq fq zq
  replace rb := rb.keep hW6
  replace rc := rc.keep hW6
  replace rd := rd.keep hW6
  replace rq := rq.keep hW6
  replace kw := kw.trans (hW6.mono kw.size)
  have cb : ∀ j, W6.cell? ⟨w.heap.size, j, none⟩ = (#[.int .i64 x, .int .i64 y, .int .i64 z] : Array Value)[j]? := rb.cell
  have fb : ∀ j, W6.frozen? ⟨w.heap.size, j, none⟩ = false := rb.frozen
  have zb : w.heap.size < W6.heap.size := rb.lt
  have cc : ∀ j, W6.cell? ⟨w.heap.size + 1, j, none⟩ = (#[.int .i64 p, .int .i64 q] : Array Value)[j]? := rc.cell
  have fc : ∀ j, W6.frozen? ⟨w.heap.size + 1, j, none⟩ = false := rc.frozen
  have zc : w.heap.size + 1 < W6.heap.size := rc.lt
  have cd : ∀ j, W6.cell? ⟨W2.heap.size, j, none⟩ = (#[.int .i64 X, .int .i64 Y, .int .i64 Z] : Array Value)[j]? := rd.cell
  have fd : ∀ j, W6.frozen? ⟨W2.heap.size, j, none⟩ = false := rd.frozen
  have zd : W2.heap.size < W6.heap.size := rd.lt
  have cq : ∀ j, W6.cell? ⟨W4.heap.size, j, none⟩ = (#[.int .i64 C, .int .i64 D] : Array Value)[j]? := rq.cell
  have fq : ∀ j, W6.frozen? ⟨W4.heap.size, j, none⟩ = false := rq.frozen
  have zq : W4.heap.size < W6.heap.size := rq.lt
  clear hW6
  go_wp2_with fail
  (refine (Hrx.out _).mono ?_; rintro e W7 ⟨rfl, hW7⟩)
  clear cb fb zb cc fc zc cd fd zd cq fq zq
  replace rb := rb.keep hW7
  replace rc := rc.keep hW7
  replace rd := rd.keep hW7
  replace rq := rq.keep hW7
  replace kw := kw.trans (hW7.mono kw.size)
  have cb : ∀ j, W7.cell? ⟨w.heap.size, j, none⟩ = (#[.int .i64 x, .int .i64 y, .int .i64 z] : Array Value)[j]? := rb.cell
  have fb : ∀ j, W7.frozen? ⟨w.heap.size, j, none⟩ = false := rb.frozen
  have zb : w.heap.size < W7.heap.size := rb.lt
  have cc : ∀ j, W7.cell? ⟨w.heap.size + 1, j, none⟩ = (#[.int .i64 p, .int .i64 q] : Array Value)[j]? := rc.cell
  have fc : ∀ j, W7.frozen? ⟨w.heap.size + 1, j, none⟩ = false := rc.frozen
  have zc : w.heap.size + 1 < W7.heap.size := rc.lt
  have cd : ∀ j, W7.cell? ⟨W2.heap.size, j, none⟩ = (#[.int .i64 X, .int .i64 Y, .int .i64 Z] : Array Value)[j]? := rd.cell
  have fd : ∀ j, W7.frozen? ⟨W2.heap.size, j, none⟩ = false := rd.frozen
  have zd : W2.heap.size < W7.heap.size := rd.lt
  have cq : ∀ j, W7.cell? ⟨W4.heap.size, j, none⟩ = (#[.int .i64 C, .int .i64 D] : Array Value)[j]? := rq.cell
  have fq : ∀ j, W7.frozen? ⟨W4.heap.size, j, none⟩ = false := rq.frozen
  have zq : W4.heap.size < W7.heap.size := rq.lt
  clear hW7
  go_wp2_with fail
  refine region_below 13 (by kernel_rfl) (by kernel_rfl) ?_
  simp only [List.take_succ_cons, List.take_zero, List.drop_succ_cons, List.drop_zero]
  repeat (first | (refine' InText.skip (by rfl) ?_; simp only [Act.put, List.setIfInBounds_toArray, List.set_cons_zero, List.set_cons_succ]) | (refine' InText.val (by rfl) (fun wr hr => ?_) ?_; rotate_left 1; (focus (obtain ⟨hrc, hrf⟩ := bcell hr; (go_simp <;> with_reducible rfl); done)); simp only [Act.put, List.setIfInBounds_toArray, List.set_cons_zero, List.set_cons_succ]) | (refine' InText.call (by rfl) (fun wr hr => ?_) (fun wr hr => ?_) ?_; rotate_left 3; (focus ((go_simp <;> (first | with_reducible rfl | exact ⟨rfl, rfl⟩)); done)); (focus (first | with_reducible exact Hrh.out _)); simp only [Act.put, List.setIfInBounds_toArray, List.set_cons_zero, List.set_cons_succ]))
  refine fun wrs hrs => ?_
  obtain ⟨hrcs, hrfs⟩ := bcell hrs
  clear cb fb zb cc fc zc cd fd zd cq fq zq
  replace rb := rb.keep hrs
  replace rc := rc.keep hrs
  replace rd := rd.keep hrs
  replace rq := rq.keep hrs
  replace kw := kw.trans (hrs.mono kw.size)
  have cb : ∀ j, wrs.cell? ⟨w.heap.size, j, none⟩ = (#[.int .i64 x, .int .i64 y, .int .i64 z] : Array Value)[j]? := rb.cell
  have fb : ∀ j, wrs.frozen? ⟨w.heap.size, j, none⟩ = false := rb.frozen
  have zb : w.heap.size < wrs.heap.size := rb.lt
  have cc : ∀ j, wrs.cell? ⟨w.heap.size + 1, j, none⟩ = (#[.int .i64 p, .int .i64 q] : Array Value)[j]? := rc.cell
  have fc : ∀ j, wrs.frozen? ⟨w.heap.size + 1, j, none⟩ = false := rc.frozen
  have zc : w.heap.size + 1 < wrs.heap.size := rc.lt
  have cd : ∀ j, wrs.cell? ⟨W2.heap.size, j, none⟩ = (#[.int .i64 X, .int .i64 Y, .int .i64 Z] : Array Value)[j]? := rd.cell
  have fd : ∀ j, wrs.frozen? ⟨W2.heap.size, j, none⟩ = false := rd.frozen
  have zd : W2.heap.size < wrs.heap.size := rd.lt
  have cq : ∀ j, wrs.cell? ⟨W4.heap.size, j, none⟩ = (#[.int .i64 C, .int .i64 D] : Array Value)[j]? := rq.cell
  have fq : ∀ j, wrs.frozen? ⟨W4.heap.size, j, none⟩ = false := rq.frozen
  have zq : W4.heap.size < wrs.heap.size := rq.lt
  clear hrs hrcs hrfs
  go_wp2_with fail
  (refine (Hfr.out _).mono ?_; rintro e W8 ⟨rfl, hW8⟩)
  clear cb fb zb cc fc zc cd fd zd cq fq zq
  replace rb := rb.keep hW8
  replace rc := rc.keep hW8
  replace rd := rd.keep hW8
  replace rq := rq.keep hW8
  replace kw := kw.trans (hW8.mono kw.size)
  have cb : ∀ j, W8.cell? ⟨w.heap.size, j, none⟩ = (#[.int .i64 x, .int .i64 y, .int .i64 z] : Array Value)[j]? := rb.cell
  have fb : ∀ j, W8.frozen? ⟨w.heap.size, j, none⟩ = false := rb.frozen
  have zb : w.heap.size < W8.heap.size := rb.lt
  have cc : ∀ j, W8.cell? ⟨w.heap.size + 1, j, none⟩ = (#[.int .i64 p, .int .i64 q] : Array Value)[j]? := rc.cell
  have fc : ∀ j, W8.frozen? ⟨w.heap.size + 1, j, none⟩ = false := rc.frozen
  have zc : w.heap.size + 1 < W8.heap.size := rc.lt
  have cd : ∀ j, W8.cell? ⟨W2.heap.size, j, none⟩ = (#[.int .i64 X, .int .i64 Y, .int .i64 Z] : Array Value)[j]? := rd.cell
  have fd : ∀ j, W8.frozen? ⟨W2.heap.size, j, none⟩ = false := rd.frozen
  have zd : W2.heap.size < W8.heap.size := rd.lt
  have cq : ∀ j, W8.cell? ⟨W4.heap.size, j, none⟩ = (#[.int .i64 C, .int .i64 D] : Array Value)[j]? := rq.cell
  have fq : ∀ j, W8.frozen? ⟨W4.heap.size, j, none⟩ = false := rq.frozen
  have zq : W4.heap.size < W8.heap.size := rq.lt
  clear hW8
  rcases HY1.out with rfl | ⟨rfl, rfl, rfl, rfl⟩
  · go_upto_region 8 with (fail)
    have ykb : w.heap.size < W8.heap.size := by omega
    have ykc : w.heap.size + 1 < W8.heap.size := by omega
    have ykd : W2.heap.size < W8.heap.size := by omega
    have ykq : W4.heap.size < W8.heap.size := by omega
    replace kw : Below w.heap.size w (W8.alloc (.cells #[.int .i64 f0, .int .i64 f1, .int .i64 f2] 28)) := by (repeat (first | with_reducible assumption | with_reducible exact Below.refl _ _ | with_reducible refine Below.drew ?_ | with_reducible refine below_drewN ?_ _ | with_reducible refine al ?_ _ | (with_reducible refine sc ?_ ?_; (focus (first | omega | (simp; done) | (simp; omega)))) | (with_reducible refine chain ?_ (by assumption))))
    replace rb : RowAt (W8.alloc (.cells #[.int .i64 f0, .int .i64 f1, .int .i64 f2] 28)) (w.heap.size) #[.int .i64 x, .int .i64 y, .int .i64 z] 28 := (rb.alloc _)
    replace rc : RowAt (W8.alloc (.cells #[.int .i64 f0, .int .i64 f1, .int .i64 f2] 28)) (w.heap.size + 1) #[.int .i64 p, .int .i64 q] 38 := (rc.alloc _)
    replace rd : RowAt (W8.alloc (.cells #[.int .i64 f0, .int .i64 f1, .int .i64 f2] 28)) (W2.heap.size) #[.int .i64 X, .int .i64 Y, .int .i64 Z] 28 := (rd.alloc _)
    replace rq : RowAt (W8.alloc (.cells #[.int .i64 f0, .int .i64 f1, .int .i64 f2] 28)) (W4.heap.size) #[.int .i64 C, .int .i64 D] 38 := (rq.alloc _)
    have rk : RowAt (W8.alloc (.cells #[.int .i64 f0, .int .i64 f1, .int .i64 f2] 28)) (W8.heap.size) #[.int .i64 f0, .int .i64 f1, .int .i64 f2] 28 := (RowAt.make _ _ _ (by first | rfl | (simp [World.setCell]; done)))
    clear cb fb zb cc fc zc cd fd zd cq fq zq
    generalize (W8.alloc (.cells #[.int .i64 f0, .int .i64 f1, .int .i64 f2] 28)) = W9 at *
    have cb : ∀ j, W9.cell? ⟨w.heap.size, j, none⟩ = (#[.int .i64 x, .int .i64 y, .int .i64 z] : Array Value)[j]? := rb.cell
    have fb : ∀ j, W9.frozen? ⟨w.heap.size, j, none⟩ = false := rb.frozen
    have zb : w.heap.size < W9.heap.size := rb.lt
    have cc : ∀ j, W9.cell? ⟨w.heap.size + 1, j, none⟩ = (#[.int .i64 p, .int .i64 q] : Array Value)[j]? := rc.cell
    have fc : ∀ j, W9.frozen? ⟨w.heap.size + 1, j, none⟩ = false := rc.frozen
    have zc : w.heap.size + 1 < W9.heap.size := rc.lt
    have cd : ∀ j, W9.cell? ⟨W2.heap.size, j, none⟩ = (#[.int .i64 X, .int .i64 Y, .int .i64 Z] : Array Value)[j]? := rd.cell
    have fd : ∀ j, W9.frozen? ⟨W2.heap.size, j, none⟩ = false := rd.frozen
    have zd : W2.heap.size < W9.heap.size := rd.lt
    have cq : ∀ j, W9.cell? ⟨W4.heap.size, j, none⟩ = (#[.int .i64 C, .int .i64 D] : Array Value)[j]? := rq.cell
    have fq : ∀ j, W9.frozen? ⟨W4.heap.size, j, none⟩ = false := rq.frozen
    have zq : W4.heap.size < W9.heap.size := rq.lt
    have ck : ∀ j, W9.cell? ⟨W8.heap.size, j, none⟩ = (#[.int .i64 f0, .int .i64 f1, .int .i64 f2] : Array Value)[j]? := rk.cell
    have fk : ∀ j, W9.frozen? ⟨W8.heap.size, j, none⟩ = false := rk.frozen
    have zk : W8.heap.size < W9.heap.size := rk.lt
    go_wp2_with fail
    refine region_alloc 9 15 (.cells #[.int .i64 0, .int .i64 0] 38) _ _ (by kernel_rfl) (by kernel_rfl) rfl (fun _ _ => by go_simp) ?_
    simp only [List.take_succ_cons, List.take_zero]
    repeat (first | (refine' InText.skip (by rfl) ?_; simp only [Act.put, List.setIfInBounds_toArray, List.set_cons_zero, List.set_cons_succ]) | (refine' InText.val (by rfl) (fun wr hr => ?_) ?_; rotate_left 1; (focus (obtain ⟨hrc, hrf⟩ := bcell hr; (go_simp <;> with_reducible rfl); done)); simp only [Act.put, List.setIfInBounds_toArray, List.set_cons_zero, List.set_cons_succ]) | (refine' InText.call (by rfl) (fun wr hr => ?_) (fun wr hr => ?_) ?_; rotate_left 3; (focus ((go_simp <;> (first | with_reducible rfl | exact ⟨rfl, rfl⟩)); done)); (focus (first | with_reducible exact pureB (Hkp.out _) | with_reducible exact pureB (Hkq.out _))); simp only [Act.put, List.setIfInBounds_toArray, List.set_cons_zero, List.set_cons_succ]))
    refine fun wv1 wr1 hv1 hr1 => ?_
    simp only [Act.put, List.setIfInBounds_toArray, List.set_cons_zero, List.set_cons_succ]
    have yob : w.heap.size < wv1.heap.size := (rb.keep hv1).lt
    have yoc : w.heap.size + 1 < wv1.heap.size := (rc.keep hv1).lt
    have yod : W2.heap.size < wv1.heap.size := (rd.keep hv1).lt
    have yoq : W4.heap.size < wv1.heap.size := (rq.keep hv1).lt
    have yok : W8.heap.size < wv1.heap.size := (rk.keep hv1).lt
    clear cb fb zb cc fc zc cd fd zd cq fq zq ck fk zk
    replace rb := ((rb.keep hv1).alloc _).keep hr1
    replace rc := ((rc.keep hv1).alloc _).keep hr1
    replace rd := ((rd.keep hv1).alloc _).keep hr1
    replace rq := ((rq.keep hv1).alloc _).keep hr1
    replace rk := ((rk.keep hv1).alloc _).keep hr1
    have ro : RowAt wr1 (wv1.heap.size) #[.int .i64 0, .int .i64 0] 38 := (RowAt.new wv1 _ _).keep hr1
    replace kw : Below w.heap.size w wr1 := kw.trans ((chain (al hv1 _) hr1).mono kw.size)
    clear hv1 hr1
    have cb : ∀ j, wr1.cell? ⟨w.heap.size, j, none⟩ = (#[.int .i64 x, .int .i64 y, .int .i64 z] : Array Value)[j]? := rb.cell
    have fb : ∀ j, wr1.frozen? ⟨w.heap.size, j, none⟩ = false := rb.frozen
    have zb : w.heap.size < wr1.heap.size := rb.lt
    have cc : ∀ j, wr1.cell? ⟨w.heap.size + 1, j, none⟩ = (#[.int .i64 p, .int .i64 q] : Array Value)[j]? := rc.cell
    have fc : ∀ j, wr1.frozen? ⟨w.heap.size + 1, j, none⟩ = false := rc.frozen
    have zc : w.heap.size + 1 < wr1.heap.size := rc.lt
    have cd : ∀ j, wr1.cell? ⟨W2.heap.size, j, none⟩ = (#[.int .i64 X, .int .i64 Y, .int .i64 Z] : Array Value)[j]? := rd.cell
    have fd : ∀ j, wr1.frozen? ⟨W2.heap.size, j, none⟩ = false := rd.frozen
    have zd : W2.heap.size < wr1.heap.size := rd.lt
    have cq : ∀ j, wr1.cell? ⟨W4.heap.size, j, none⟩ = (#[.int .i64 C, .int .i64 D] : Array Value)[j]? := rq.cell
    have fq : ∀ j, wr1.frozen? ⟨W4.heap.size, j, none⟩ = false := rq.frozen
    have zq : W4.heap.size < wr1.heap.size := rq.lt
    have ck : ∀ j, wr1.cell? ⟨W8.heap.size, j, none⟩ = (#[.int .i64 f0, .int .i64 f1, .int .i64 f2] : Array Value)[j]? := rk.cell
    have fk : ∀ j, wr1.frozen? ⟨W8.heap.size, j, none⟩ = false := rk.frozen
    have zk : W8.heap.size < wr1.heap.size := rk.lt
    have co : ∀ j, wr1.cell? ⟨wv1.heap.size, j, none⟩ = (#[.int .i64 0, .int .i64 0] : Array Value)[j]? := ro.cell
    have fo : ∀ j, wr1.frozen? ⟨wv1.heap.size, j, none⟩ = false := ro.frozen
    have zo : wv1.heap.size < wr1.heap.size := ro.lt
    go_wp2_with fail
    replace kw : Below w.heap.size w ((wr1.setCell ⟨wv1.heap.size, 0, none⟩ (.int .i64 U)).setCell ⟨wv1.heap.size, 1, none⟩ (.int .i64 V)) := by (repeat (first | with_reducible assumption | with_reducible exact Below.refl _ _ | with_reducible refine Below.drew ?_ | with_reducible refine below_drewN ?_ _ | with_reducible refine al ?_ _ | (with_reducible refine sc ?_ ?_; (focus (first | omega | (simp; done) | (simp; omega)))) | (with_reducible refine chain ?_ (by assumption))))
    replace rb : RowAt ((wr1.setCell ⟨wv1.heap.size, 0, none⟩ (.int .i64 U)).setCell ⟨wv1.heap.size, 1, none⟩ (.int .i64 V)) (w.heap.size) #[.int .i64 x, .int .i64 y, .int .i64 z] 28 := ((rb.other (p := ⟨wv1.heap.size, 0, none⟩) (by first | omega | (simp; done) | (simp; omega)) (.int .i64 U)).other (p := ⟨wv1.heap.size, 1, none⟩) (by first | omega | (simp; done) | (simp; omega)) (.int .i64 V))
    replace rc : RowAt ((wr1.setCell ⟨wv1.heap.size, 0, none⟩ (.int .i64 U)).setCell ⟨wv1.heap.size, 1, none⟩ (.int .i64 V)) (w.heap.size + 1) #[.int .i64 p, .int .i64 q] 38 := ((rc.other (p := ⟨wv1.heap.size, 0, none⟩) (by first | omega | (simp; done) | (simp; omega)) (.int .i64 U)).other (p := ⟨wv1.heap.size, 1, none⟩) (by first | omega | (simp; done) | (simp; omega)) (.int .i64 V))
    replace rd : RowAt ((wr1.setCell ⟨wv1.heap.size, 0, none⟩ (.int .i64 U)).setCell ⟨wv1.heap.size, 1, none⟩ (.int .i64 V)) (W2.heap.size) #[.int .i64 X, .int .i64 Y, .int .i64 Z] 28 := ((rd.other (p := ⟨wv1.heap.size, 0, none⟩) (by first | omega | (simp; done) | (simp; omega)) (.int .i64 U)).other (p := ⟨wv1.heap.size, 1, none⟩) (by first | omega | (simp; done) | (simp; omega)) (.int .i64 V))
    replace rq : RowAt ((wr1.setCell ⟨wv1.heap.size, 0, none⟩ (.int .i64 U)).setCell ⟨wv1.heap.size, 1, none⟩ (.int .i64 V)) (W4.heap.size) #[.int .i64 C, .int .i64 D] 38 := ((rq.other (p := ⟨wv1.heap.size, 0, none⟩) (by first | omega | (simp; done) | (simp; omega)) (.int .i64 U)).other (p := ⟨wv1.heap.size, 1, none⟩) (by first | omega | (simp; done) | (simp; omega)) (.int .i64 V))
    replace rk : RowAt ((wr1.setCell ⟨wv1.heap.size, 0, none⟩ (.int .i64 U)).setCell ⟨wv1.heap.size, 1, none⟩ (.int .i64 V)) (W8.heap.size) #[.int .i64 f0, .int .i64 f1, .int .i64 f2] 28 := ((rk.other (p := ⟨wv1.heap.size, 0, none⟩) (by first | omega | (simp; done) | (simp; omega)) (.int .i64 U)).other (p := ⟨wv1.heap.size, 1, none⟩) (by first | omega | (simp; done) | (simp; omega)) (.int .i64 V))
    replace ro : RowAt ((wr1.setCell ⟨wv1.heap.size, 0, none⟩ (.int .i64 U)).setCell ⟨wv1.heap.size, 1, none⟩ (.int .i64 V)) (wv1.heap.size) #[.int .i64 U, .int .i64 V] 38 := ((ro.set 0 (.int .i64 U)).set 1 (.int .i64 V))
    clear cb fb zb cc fc zc cd fd zd cq fq zq ck fk zk co fo zo
    generalize ((wr1.setCell ⟨wv1.heap.size, 0, none⟩ (.int .i64 U)).setCell ⟨wv1.heap.size, 1, none⟩ (.int .i64 V)) = W10 at *
    have cb : ∀ j, W10.cell? ⟨w.heap.size, j, none⟩ = (#[.int .i64 x, .int .i64 y, .int .i64 z] : Array Value)[j]? := rb.cell
    have fb : ∀ j, W10.frozen? ⟨w.heap.size, j, none⟩ = false := rb.frozen
    have zb : w.heap.size < W10.heap.size := rb.lt
    have cc : ∀ j, W10.cell? ⟨w.heap.size + 1, j, none⟩ = (#[.int .i64 p, .int .i64 q] : Array Value)[j]? := rc.cell
    have fc : ∀ j, W10.frozen? ⟨w.heap.size + 1, j, none⟩ = false := rc.frozen
    have zc : w.heap.size + 1 < W10.heap.size := rc.lt
    have cd : ∀ j, W10.cell? ⟨W2.heap.size, j, none⟩ = (#[.int .i64 X, .int .i64 Y, .int .i64 Z] : Array Value)[j]? := rd.cell
    have fd : ∀ j, W10.frozen? ⟨W2.heap.size, j, none⟩ = false := rd.frozen
    have zd : W2.heap.size < W10.heap.size := rd.lt
    have cq : ∀ j, W10.cell? ⟨W4.heap.size, j, none⟩ = (#[.int .i64 C, .int .i64 D] : Array Value)[j]? := rq.cell
    have fq : ∀ j, W10.frozen? ⟨W4.heap.size, j, none⟩ = false := rq.frozen
    have zq : W4.heap.size < W10.heap.size := rq.lt
    have ck : ∀ j, W10.cell? ⟨W8.heap.size, j, none⟩ = (#[.int .i64 f0, .int .i64 f1, .int .i64 f2] : Array Value)[j]? := rk.cell
    have fk : ∀ j, W10.frozen? ⟨W8.heap.size, j, none⟩ = false := rk.frozen
    have zk : W8.heap.size < W10.heap.size := rk.lt
    have co : ∀ j, W10.cell? ⟨wv1.heap.size, j, none⟩ = (#[.int .i64 U, .int .i64 V] : Array Value)[j]? := ro.cell
    have fo : ∀ j, W10.frozen? ⟨wv1.heap.size, j, none⟩ = false := ro.frozen
    have zo : wv1.heap.size < W10.heap.size := ro.lt
    (refine (Hfr2.out _).mono ?_; rintro e W11 ⟨rfl, hW11⟩)
    clear cb fb zb cc fc zc cd fd zd cq fq zq ck fk zk co fo zo
    replace rb := rb.keep hW11
    replace rc := rc.keep hW11
    replace rd := rd.keep hW11
    replace rq := rq.keep hW11
    replace rk := rk.keep hW11
    replace ro := ro.keep hW11
    replace kw := kw.trans (hW11.mono kw.size)
    have cb : ∀ j, W11.cell? ⟨w.heap.size, j, none⟩ = (#[.int .i64 x, .int .i64 y, .int .i64 z] : Array Value)[j]? := rb.cell
    have fb : ∀ j, W11.frozen? ⟨w.heap.size, j, none⟩ = false := rb.frozen
    have zb : w.heap.size < W11.heap.size := rb.lt
    have cc : ∀ j, W11.cell? ⟨w.heap.size + 1, j, none⟩ = (#[.int .i64 p, .int .i64 q] : Array Value)[j]? := rc.cell
    have fc : ∀ j, W11.frozen? ⟨w.heap.size + 1, j, none⟩ = false := rc.frozen
    have zc : w.heap.size + 1 < W11.heap.size := rc.lt
    have cd : ∀ j, W11.cell? ⟨W2.heap.size, j, none⟩ = (#[.int .i64 X, .int .i64 Y, .int .i64 Z] : Array Value)[j]? := rd.cell
    have fd : ∀ j, W11.frozen? ⟨W2.heap.size, j, none⟩ = false := rd.frozen
    have zd : W2.heap.size < W11.heap.size := rd.lt
    have cq : ∀ j, W11.cell? ⟨W4.heap.size, j, none⟩ = (#[.int .i64 C, .int .i64 D] : Array Value)[j]? := rq.cell
    have fq : ∀ j, W11.frozen? ⟨W4.heap.size, j, none⟩ = false := rq.frozen
    have zq : W4.heap.size < W11.heap.size := rq.lt
    have ck : ∀ j, W11.cell? ⟨W8.heap.size, j, none⟩ = (#[.int .i64 f0, .int .i64 f1, .int .i64 f2] : Array Value)[j]? := rk.cell
    have fk : ∀ j, W11.frozen? ⟨W8.heap.size, j, none⟩ = false := rk.frozen
    have zk : W8.heap.size < W11.heap.size := rk.lt
    have co : ∀ j, W11.cell? ⟨wv1.heap.size, j, none⟩ = (#[.int .i64 U, .int .i64 V] : Array Value)[j]? := ro.cell
    have fo : ∀ j, W11.frozen? ⟨wv1.heap.size, j, none⟩ = false := ro.frozen
    have zo : wv1.heap.size < W11.heap.size := ro.lt
    clear hW11
    go_wp2_with fail
    have ymb : w.heap.size < W11.heap.size := by omega
    have ymc : w.heap.size + 1 < W11.heap.size := by omega
    have ymd : W2.heap.size < W11.heap.size := by omega
    have ymq : W4.heap.size < W11.heap.size := by omega
    have ymk : W8.heap.size < W11.heap.size := by omega
    have ymo : wv1.heap.size < W11.heap.size := by omega
    replace kw : Below w.heap.size w (W11.alloc (.cells #[.int .i64 g0, .int .i64 g1, .int .i64 g2] 28)) := by (repeat (first | with_reducible assumption | with_reducible exact Below.refl _ _ | with_reducible refine Below.drew ?_ | with_reducible refine below_drewN ?_ _ | with_reducible refine al ?_ _ | (with_reducible refine sc ?_ ?_; (focus (first | omega | (simp; done) | (simp; omega)))) | (with_reducible refine chain ?_ (by assumption))))
    replace rb : RowAt (W11.alloc (.cells #[.int .i64 g0, .int .i64 g1, .int .i64 g2] 28)) (w.heap.size) #[.int .i64 x, .int .i64 y, .int .i64 z] 28 := (rb.alloc _)
    replace rc : RowAt (W11.alloc (.cells #[.int .i64 g0, .int .i64 g1, .int .i64 g2] 28)) (w.heap.size + 1) #[.int .i64 p, .int .i64 q] 38 := (rc.alloc _)
    replace rd : RowAt (W11.alloc (.cells #[.int .i64 g0, .int .i64 g1, .int .i64 g2] 28)) (W2.heap.size) #[.int .i64 X, .int .i64 Y, .int .i64 Z] 28 := (rd.alloc _)
    replace rq : RowAt (W11.alloc (.cells #[.int .i64 g0, .int .i64 g1, .int .i64 g2] 28)) (W4.heap.size) #[.int .i64 C, .int .i64 D] 38 := (rq.alloc _)
    replace rk : RowAt (W11.alloc (.cells #[.int .i64 g0, .int .i64 g1, .int .i64 g2] 28)) (W8.heap.size) #[.int .i64 f0, .int .i64 f1, .int .i64 f2] 28 := (rk.alloc _)
    replace ro : RowAt (W11.alloc (.cells #[.int .i64 g0, .int .i64 g1, .int .i64 g2] 28)) (wv1.heap.size) #[.int .i64 U, .int .i64 V] 38 := (ro.alloc _)
    have rm : RowAt (W11.alloc (.cells #[.int .i64 g0, .int .i64 g1, .int .i64 g2] 28)) (W11.heap.size) #[.int .i64 g0, .int .i64 g1, .int .i64 g2] 28 := (RowAt.make _ _ _ (by first | rfl | (simp [World.setCell]; done)))
    clear cb fb zb cc fc zc cd fd zd cq fq zq ck fk zk co fo zo
    generalize (W11.alloc (.cells #[.int .i64 g0, .int .i64 g1, .int .i64 g2] 28)) = W12 at *
    have cb : ∀ j, W12.cell? ⟨w.heap.size, j, none⟩ = (#[.int .i64 x, .int .i64 y, .int .i64 z] : Array Value)[j]? := rb.cell
    have fb : ∀ j, W12.frozen? ⟨w.heap.size, j, none⟩ = false := rb.frozen
    have zb : w.heap.size < W12.heap.size := rb.lt
    have cc : ∀ j, W12.cell? ⟨w.heap.size + 1, j, none⟩ = (#[.int .i64 p, .int .i64 q] : Array Value)[j]? := rc.cell
    have fc : ∀ j, W12.frozen? ⟨w.heap.size + 1, j, none⟩ = false := rc.frozen
    have zc : w.heap.size + 1 < W12.heap.size := rc.lt
    have cd : ∀ j, W12.cell? ⟨W2.heap.size, j, none⟩ = (#[.int .i64 X, .int .i64 Y, .int .i64 Z] : Array Value)[j]? := rd.cell
    have fd : ∀ j, W12.frozen? ⟨W2.heap.size, j, none⟩ = false := rd.frozen
    have zd : W2.heap.size < W12.heap.size := rd.lt
    have cq : ∀ j, W12.cell? ⟨W4.heap.size, j, none⟩ = (#[.int .i64 C, .int .i64 D] : Array Value)[j]? := rq.cell
    have fq : ∀ j, W12.frozen? ⟨W4.heap.size, j, none⟩ = false := rq.frozen
    have zq : W4.heap.size < W12.heap.size := rq.lt
    have ck : ∀ j, W12.cell? ⟨W8.heap.size, j, none⟩ = (#[.int .i64 f0, .int .i64 f1, .int .i64 f2] : Array Value)[j]? := rk.cell
    have fk : ∀ j, W12.frozen? ⟨W8.heap.size, j, none⟩ = false := rk.frozen
    have zk : W8.heap.size < W12.heap.size := rk.lt
    have co : ∀ j, W12.cell? ⟨wv1.heap.size, j, none⟩ = (#[.int .i64 U, .int .i64 V] : Array Value)[j]? := ro.cell
    have fo : ∀ j, W12.frozen? ⟨wv1.heap.size, j, none⟩ = false := ro.frozen
    have zo : wv1.heap.size < W12.heap.size := ro.lt
    have cm : ∀ j, W12.cell? ⟨W11.heap.size, j, none⟩ = (#[.int .i64 g0, .int .i64 g1, .int .i64 g2] : Array Value)[j]? := rm.cell
    have fm : ∀ j, W12.frozen? ⟨W11.heap.size, j, none⟩ = false := rm.frozen
    have zm : W11.heap.size < W12.heap.size := rm.lt
    (refine (Hrf2.out _).mono ?_; rintro e W13 ⟨rfl, hW13⟩)
    clear cb fb zb cc fc zc cd fd zd cq fq zq ck fk zk co fo zo cm fm zm
    replace rb := rb.keep hW13
    replace rc := rc.keep hW13
    replace rd := rd.keep hW13
    replace rq := rq.keep hW13
    replace rk := rk.keep hW13
    replace ro := ro.keep hW13
    replace rm := rm.keep hW13
    replace kw := kw.trans (hW13.mono kw.size)
    have cb : ∀ j, W13.cell? ⟨w.heap.size, j, none⟩ = (#[.int .i64 x, .int .i64 y, .int .i64 z] : Array Value)[j]? := rb.cell
    have fb : ∀ j, W13.frozen? ⟨w.heap.size, j, none⟩ = false := rb.frozen
    have zb : w.heap.size < W13.heap.size := rb.lt
    have cc : ∀ j, W13.cell? ⟨w.heap.size + 1, j, none⟩ = (#[.int .i64 p, .int .i64 q] : Array Value)[j]? := rc.cell
    have fc : ∀ j, W13.frozen? ⟨w.heap.size + 1, j, none⟩ = false := rc.frozen
    have zc : w.heap.size + 1 < W13.heap.size := rc.lt
    have cd : ∀ j, W13.cell? ⟨W2.heap.size, j, none⟩ = (#[.int .i64 X, .int .i64 Y, .int .i64 Z] : Array Value)[j]? := rd.cell
    have fd : ∀ j, W13.frozen? ⟨W2.heap.size, j, none⟩ = false := rd.frozen
    have zd : W2.heap.size < W13.heap.size := rd.lt
    have cq : ∀ j, W13.cell? ⟨W4.heap.size, j, none⟩ = (#[.int .i64 C, .int .i64 D] : Array Value)[j]? := rq.cell
    have fq : ∀ j, W13.frozen? ⟨W4.heap.size, j, none⟩ = false := rq.frozen
    have zq : W4.heap.size < W13.heap.size := rq.lt
    have ck : ∀ j, W13.cell? ⟨W8.heap.size, j, none⟩ = (#[.int .i64 f0, .int .i64 f1, .int .i64 f2] : Array Value)[j]? := rk.cell
    have fk : ∀ j, W13.frozen? ⟨W8.heap.size, j, none⟩ = false := rk.frozen
    have zk : W8.heap.size < W13.heap.size := rk.lt
    have co : ∀ j, W13.cell? ⟨wv1.heap.size, j, none⟩ = (#[.int .i64 U, .int .i64 V] : Array Value)[j]? := ro.cell
    have fo : ∀ j, W13.frozen? ⟨wv1.heap.size, j, none⟩ = false := ro.frozen
    have zo : wv1.heap.size < W13.heap.size := ro.lt
    have cm : ∀ j, W13.cell? ⟨W11.heap.size, j, none⟩ = (#[.int .i64 g0, .int .i64 g1, .int .i64 g2] : Array Value)[j]? := rm.cell
    have fm : ∀ j, W13.frozen? ⟨W11.heap.size, j, none⟩ = false := rm.frozen
    have zm : W11.heap.size < W13.heap.size := rm.lt
    clear hW13
    rcases HY2.out with ⟨rfl, h0⟩ | ⟨rfl, h0, h1⟩ | ⟨rfl, h0, h1, rfl, rfl, h2⟩
    · go_wp2_with fail
      (refine (Hix2.out _).mono ?_; rintro e u1 ⟨rfl, hu1⟩)
      obtain ⟨_hcu1, _hfu1⟩ := bcell hu1
      have _zu10 : w.heap.size < u1.heap.size := size_lt (by first | (simp; done) | (simp; omega) | omega | (simp [World.setCell]; done) | (simp [World.setCell]; omega)) hu1
      have _zu11 : w.heap.size + 1 < u1.heap.size := size_lt (by first | (simp; done) | (simp; omega) | omega | (simp [World.setCell]; done) | (simp [World.setCell]; omega)) hu1
      have _zu12 : wv1.heap.size < u1.heap.size := size_lt (by first | (simp; done) | (simp; omega) | omega | (simp [World.setCell]; done) | (simp [World.setCell]; omega)) hu1
      have _zu13 : W11.heap.size < u1.heap.size := size_lt (by first | (simp; done) | (simp; omega) | omega | (simp [World.setCell]; done) | (simp [World.setCell]; omega)) hu1
      have ku1 : Below w.heap.size w u1 := by (repeat (first | with_reducible assumption | with_reducible exact Below.refl _ _ | with_reducible refine Below.drew ?_ | with_reducible refine below_drewN ?_ _ | with_reducible refine al ?_ _ | (with_reducible refine sc ?_ ?_; (focus (first | omega | (simp; done) | (simp; omega)))) | (with_reducible refine chain ?_ (by assumption))))
      go_wp2_with fail
      refine region_below 19 (by kernel_rfl) (by kernel_rfl) ?_
      simp only [List.take_succ_cons, List.take_zero, List.drop_succ_cons, List.drop_zero]
      repeat (first | (refine' InText.skip (by rfl) ?_; simp only [Act.put, List.setIfInBounds_toArray, List.set_cons_zero, List.set_cons_succ]) | (refine' InText.val (by rfl) (fun wr hr => ?_) ?_; rotate_left 1; (focus (obtain ⟨hrc, hrf⟩ := bcell hr; (go_simp <;> with_reducible rfl); done)); simp only [Act.put, List.setIfInBounds_toArray, List.set_cons_zero, List.set_cons_succ]) | (refine' InText.call (by rfl) (fun wr hr => ?_) (fun wr hr => ?_) ?_; rotate_left 3; (focus ((go_simp <;> (first | with_reducible rfl | exact ⟨rfl, rfl⟩)); done)); (focus (first | with_reducible exact l3_lives _)); simp only [Act.put, List.setIfInBounds_toArray, List.set_cons_zero, List.set_cons_succ]))
      refine fun wr hr => ?_
      obtain ⟨hrc, hrf⟩ := bcell hr
      go_wp2
      go_ret
      exact ⟨rfl, by (repeat (first | with_reducible assumption | with_reducible exact Below.refl _ _ | with_reducible refine Below.drew ?_ | with_reducible refine below_drewN ?_ _ | with_reducible refine al ?_ _ | (with_reducible refine sc ?_ ?_; (focus (first | omega | (simp; done) | (simp; omega)))) | (with_reducible refine chain ?_ (by assumption))))⟩
    · go_wp2_with fail
      (refine (Hix2.out _).mono ?_; rintro e u1 ⟨rfl, hu1⟩)
      obtain ⟨_hcu1, _hfu1⟩ := bcell hu1
      have _zu10 : w.heap.size < u1.heap.size := size_lt (by first | (simp; done) | (simp; omega) | omega | (simp [World.setCell]; done) | (simp [World.setCell]; omega)) hu1
      have _zu11 : w.heap.size + 1 < u1.heap.size := size_lt (by first | (simp; done) | (simp; omega) | omega | (simp [World.setCell]; done) | (simp [World.setCell]; omega)) hu1
      have _zu12 : wv1.heap.size < u1.heap.size := size_lt (by first | (simp; done) | (simp; omega) | omega | (simp [World.setCell]; done) | (simp [World.setCell]; omega)) hu1
      have _zu13 : W11.heap.size < u1.heap.size := size_lt (by first | (simp; done) | (simp; omega) | omega | (simp [World.setCell]; done) | (simp [World.setCell]; omega)) hu1
      have ku1 : Below w.heap.size w u1 := by (repeat (first | with_reducible assumption | with_reducible exact Below.refl _ _ | with_reducible refine Below.drew ?_ | with_reducible refine below_drewN ?_ _ | with_reducible refine al ?_ _ | (with_reducible refine sc ?_ ?_; (focus (first | omega | (simp; done) | (simp; omega)))) | (with_reducible refine chain ?_ (by assumption))))
      go_wp2_with fail
      refine region_below 19 (by kernel_rfl) (by kernel_rfl) ?_
      simp only [List.take_succ_cons, List.take_zero, List.drop_succ_cons, List.drop_zero]
      repeat (first | (refine' InText.skip (by rfl) ?_; simp only [Act.put, List.setIfInBounds_toArray, List.set_cons_zero, List.set_cons_succ]) | (refine' InText.val (by rfl) (fun wr hr => ?_) ?_; rotate_left 1; (focus (obtain ⟨hrc, hrf⟩ := bcell hr; (go_simp <;> with_reducible rfl); done)); simp only [Act.put, List.setIfInBounds_toArray, List.set_cons_zero, List.set_cons_succ]) | (refine' InText.call (by rfl) (fun wr hr => ?_) (fun wr hr => ?_) ?_; rotate_left 3; (focus ((go_simp <;> (first | with_reducible rfl | exact ⟨rfl, rfl⟩)); done)); (focus (first | with_reducible exact l3_lives _)); simp only [Act.put, List.setIfInBounds_toArray, List.set_cons_zero, List.set_cons_succ]))
      refine fun wr hr => ?_
      obtain ⟨hrc, hrf⟩ := bcell hr
      go_wp2
      go_ret
      exact ⟨rfl, by (repeat (first | with_reducible assumption | with_reducible exact Below.refl _ _ | with_reducible refine Below.drew ?_ | with_reducible refine below_drewN ?_ _ | with_reducible refine al ?_ _ | (with_reducible refine sc ?_ ?_; (focus (first | omega | (simp; done) | (simp; omega)))) | (with_reducible refine chain ?_ (by assumption))))⟩
    · have H2 := Lib.hid h2
      clear h2
      go_wp2_with fail
      (refine (Hix2.out _).mono ?_; rintro e u1 ⟨rfl, hu1⟩)
      obtain ⟨_hcu1, _hfu1⟩ := bcell hu1
      have _zu10 : w.heap.size < u1.heap.size := size_lt (by first | (simp; done) | (simp; omega) | omega | (simp [World.setCell]; done) | (simp [World.setCell]; omega)) hu1
      have _zu11 : w.heap.size + 1 < u1.heap.size := size_lt (by first | (simp; done) | (simp; omega) | omega | (simp [World.setCell]; done) | (simp [World.setCell]; omega)) hu1
      have _zu12 : wv1.heap.size < u1.heap.size := size_lt (by first | (simp; done) | (simp; omega) | omega | (simp [World.setCell]; done) | (simp [World.setCell]; omega)) hu1
      have _zu13 : W11.heap.size < u1.heap.size := size_lt (by first | (simp; done) | (simp; omega) | omega | (simp [World.setCell]; done) | (simp [World.setCell]; omega)) hu1
      have ku1 : Below w.heap.size w u1 := by (repeat (first | with_reducible assumption | with_reducible exact Below.refl _ _ | with_reducible refine Below.drew ?_ | with_reducible refine below_drewN ?_ _ | with_reducible refine al ?_ _ | (with_reducible refine sc ?_ ?_; (focus (first | omega | (simp; done) | (simp; omega)))) | (with_reducible refine chain ?_ (by assumption))))
      go_wp2_with fail
      refine region_below 19 (by kernel_rfl) (by kernel_rfl) ?_
      simp only [List.take_succ_cons, List.take_zero, List.drop_succ_cons, List.drop_zero]
      repeat (first | (refine' InText.skip (by rfl) ?_; simp only [Act.put, List.setIfInBounds_toArray, List.set_cons_zero, List.set_cons_succ]) | (refine' InText.val (by rfl) (fun wr hr => ?_) ?_; rotate_left 1; (focus (obtain ⟨hrc, hrf⟩ := bcell hr; (go_simp <;> with_reducible rfl); done)); simp only [Act.put, List.setIfInBounds_toArray, List.set_cons_zero, List.set_cons_succ]) | (refine' InText.call (by rfl) (fun wr hr => ?_) (fun wr hr => ?_) ?_; rotate_left 3; (focus ((go_simp <;> (first | with_reducible rfl | exact ⟨rfl, rfl⟩)); done)); (focus (first | with_reducible exact H2.out _ | with_reducible exact l3_lives _)); simp only [Act.put, List.setIfInBounds_toArray, List.set_cons_zero, List.set_cons_succ]))
      refine fun wr hr => ?_
      obtain ⟨hrc, hrf⟩ := bcell hr
      go_wp2
      go_ret
      exact ⟨rfl, by (repeat (first | with_reducible assumption | with_reducible exact Below.refl _ _ | with_reducible refine Below.drew ?_ | with_reducible refine below_drewN ?_ _ | with_reducible refine al ?_ _ | (with_reducible refine sc ?_ ?_; (focus (first | omega | (simp; done) | (simp; omega)))) | (with_reducible refine chain ?_ (by assumption))))⟩
  · go_upto_region 8 with (fail)
    have ykb : w.heap.size < W8.heap.size := by omega
    have ykc : w.heap.size + 1 < W8.heap.size := by omega
    have ykd : W2.heap.size < W8.heap.size := by omega
    have ykq : W4.heap.size < W8.heap.size := by omega
    replace kw : Below w.heap.size w (W8.alloc (.cells #[.int .i64 f0, .int .i64 f1, .int .i64 f2] 28)) := by (repeat (first | with_reducible assumption | with_reducible exact Below.refl _ _ | with_reducible refine Below.drew ?_ | with_reducible refine below_drewN ?_ _ | with_reducible refine al ?_ _ | (with_reducible refine sc ?_ ?_; (focus (first | omega | (simp; done) | (simp; omega)))) | (with_reducible refine chain ?_ (by assumption))))
    replace rb : RowAt (W8.alloc (.cells #[.int .i64 f0, .int .i64 f1, .int .i64 f2] 28)) (w.heap.size) #[.int .i64 x, .int .i64 y, .int .i64 z] 28 := (rb.alloc _)
    replace rc : RowAt (W8.alloc (.cells #[.int .i64 f0, .int .i64 f1, .int .i64 f2] 28)) (w.heap.size + 1) #[.int .i64 p, .int .i64 q] 38 := (rc.alloc _)
    replace rd : RowAt (W8.alloc (.cells #[.int .i64 f0, .int .i64 f1, .int .i64 f2] 28)) (W2.heap.size) #[.int .i64 f0, .int .i64 f1, .int .i64 f2] 28 := (rd.alloc _)
    replace rq : RowAt (W8.alloc (.cells #[.int .i64 f0, .int .i64 f1, .int .i64 f2] 28)) (W4.heap.size) #[.int .i64 C, .int .i64 D] 38 := (rq.alloc _)
    have rk : RowAt (W8.alloc (.cells #[.int .i64 f0, .int .i64 f1, .int .i64 f2] 28)) (W8.heap.size) #[.int .i64 f0, .int .i64 f1, .int .i64 f2] 28 := (RowAt.make _ _ _ (by first | rfl | (simp [World.setCell]; done)))
    clear cb fb zb cc fc zc cd fd zd cq fq zq
    generalize (W8.alloc (.cells #[.int .i64 f0, .int .i64 f1, .int .i64 f2] 28)) = W9 at *
    have cb : ∀ j, W9.cell? ⟨w.heap.size, j, none⟩ = (#[.int .i64 x, .int .i64 y, .int .i64 z] : Array Value)[j]? := rb.cell
    have fb : ∀ j, W9.frozen? ⟨w.heap.size, j, none⟩ = false := rb.frozen
    have zb : w.heap.size < W9.heap.size := rb.lt
    have cc : ∀ j, W9.cell? ⟨w.heap.size + 1, j, none⟩ = (#[.int .i64 p, .int .i64 q] : Array Value)[j]? := rc.cell
    have fc : ∀ j, W9.frozen? ⟨w.heap.size + 1, j, none⟩ = false := rc.frozen
    have zc : w.heap.size + 1 < W9.heap.size := rc.lt
    have cd : ∀ j, W9.cell? ⟨W2.heap.size, j, none⟩ = (#[.int .i64 f0, .int .i64 f1, .int .i64 f2] : Array Value)[j]? := rd.cell
    have fd : ∀ j, W9.frozen? ⟨W2.heap.size, j, none⟩ = false := rd.frozen
    have zd : W2.heap.size < W9.heap.size := rd.lt
    have cq : ∀ j, W9.cell? ⟨W4.heap.size, j, none⟩ = (#[.int .i64 C, .int .i64 D] : Array Value)[j]? := rq.cell
    have fq : ∀ j, W9.frozen? ⟨W4.heap.size, j, none⟩ = false := rq.frozen
    have zq : W4.heap.size < W9.heap.size := rq.lt
    have ck : ∀ j, W9.cell? ⟨W8.heap.size, j, none⟩ = (#[.int .i64 f0, .int .i64 f1, .int .i64 f2] : Array Value)[j]? := rk.cell
    have fk : ∀ j, W9.frozen? ⟨W8.heap.size, j, none⟩ = false := rk.frozen
    have zk : W8.heap.size < W9.heap.size := rk.lt
    go_wp2_with fail
    refine region_alloc 9 15 (.cells #[.int .i64 0, .int .i64 0] 38) _ _ (by kernel_rfl) (by kernel_rfl) rfl (fun _ _ => by go_simp) ?_
    simp only [List.take_succ_cons, List.take_zero]
    repeat (first | (refine' InText.skip (by rfl) ?_; simp only [Act.put, List.setIfInBounds_toArray, List.set_cons_zero, List.set_cons_succ]) | (refine' InText.val (by rfl) (fun wr hr => ?_) ?_; rotate_left 1; (focus (obtain ⟨hrc, hrf⟩ := bcell hr; (go_simp <;> with_reducible rfl); done)); simp only [Act.put, List.setIfInBounds_toArray, List.set_cons_zero, List.set_cons_succ]) | (refine' InText.call (by rfl) (fun wr hr => ?_) (fun wr hr => ?_) ?_; rotate_left 3; (focus ((go_simp <;> (first | with_reducible rfl | exact ⟨rfl, rfl⟩)); done)); (focus (first | with_reducible exact pureB (Hkp.out _) | with_reducible exact pureB (Hkq.out _))); simp only [Act.put, List.setIfInBounds_toArray, List.set_cons_zero, List.set_cons_succ]))
    refine fun wv1 wr1 hv1 hr1 => ?_
    simp only [Act.put, List.setIfInBounds_toArray, List.set_cons_zero, List.set_cons_succ]
    have yob : w.heap.size < wv1.heap.size := (rb.keep hv1).lt
    have yoc : w.heap.size + 1 < wv1.heap.size := (rc.keep hv1).lt
    have yod : W2.heap.size < wv1.heap.size := (rd.keep hv1).lt
    have yoq : W4.heap.size < wv1.heap.size := (rq.keep hv1).lt
    have yok : W8.heap.size < wv1.heap.size := (rk.keep hv1).lt
    clear cb fb zb cc fc zc cd fd zd cq fq zq ck fk zk
    replace rb := ((rb.keep hv1).alloc _).keep hr1
    replace rc := ((rc.keep hv1).alloc _).keep hr1
    replace rd := ((rd.keep hv1).alloc _).keep hr1
    replace rq := ((rq.keep hv1).alloc _).keep hr1
    replace rk := ((rk.keep hv1).alloc _).keep hr1
    have ro : RowAt wr1 (wv1.heap.size) #[.int .i64 0, .int .i64 0] 38 := (RowAt.new wv1 _ _).keep hr1
    replace kw : Below w.heap.size w wr1 := kw.trans ((chain (al hv1 _) hr1).mono kw.size)
    clear hv1 hr1
    have cb : ∀ j, wr1.cell? ⟨w.heap.size, j, none⟩ = (#[.int .i64 x, .int .i64 y, .int .i64 z] : Array Value)[j]? := rb.cell
    have fb : ∀ j, wr1.frozen? ⟨w.heap.size, j, none⟩ = false := rb.frozen
    have zb : w.heap.size < wr1.heap.size := rb.lt
    have cc : ∀ j, wr1.cell? ⟨w.heap.size + 1, j, none⟩ = (#[.int .i64 p, .int .i64 q] : Array Value)[j]? := rc.cell
    have fc : ∀ j, wr1.frozen? ⟨w.heap.size + 1, j, none⟩ = false := rc.frozen
    have zc : w.heap.size + 1 < wr1.heap.size := rc.lt
    have cd : ∀ j, wr1.cell? ⟨W2.heap.size, j, none⟩ = (#[.int .i64 f0, .int .i64 f1, .int .i64 f2] : Array Value)[j]? := rd.cell
    have fd : ∀ j, wr1.frozen? ⟨W2.heap.size, j, none⟩ = false := rd.frozen
    have zd : W2.heap.size < wr1.heap.size := rd.lt
    have cq : ∀ j, wr1.cell? ⟨W4.heap.size, j, none⟩ = (#[.int .i64 C, .int .i64 D] : Array Value)[j]? := rq.cell
    have fq : ∀ j, wr1.frozen? ⟨W4.heap.size, j, none⟩ = false := rq.frozen
    have zq : W4.heap.size < wr1.heap.size := rq.lt
    have ck : ∀ j, wr1.cell? ⟨W8.heap.size, j, none⟩ = (#[.int .i64 f0, .int .i64 f1, .int .i64 f2] : Array Value)[j]? := rk.cell
    have fk : ∀ j, wr1.frozen? ⟨W8.heap.size, j, none⟩ = false := rk.frozen
    have zk : W8.heap.size < wr1.heap.size := rk.lt
    have co : ∀ j, wr1.cell? ⟨wv1.heap.size, j, none⟩ = (#[.int .i64 0, .int .i64 0] : Array Value)[j]? := ro.cell
    have fo : ∀ j, wr1.frozen? ⟨wv1.heap.size, j, none⟩ = false := ro.frozen
    have zo : wv1.heap.size < wr1.heap.size := ro.lt
    go_wp2_with fail
    replace kw : Below w.heap.size w ((wr1.setCell ⟨wv1.heap.size, 0, none⟩ (.int .i64 U)).setCell ⟨wv1.heap.size, 1, none⟩ (.int .i64 V)) := by (repeat (first | with_reducible assumption | with_reducible exact Below.refl _ _ | with_reducible refine Below.drew ?_ | with_reducible refine below_drewN ?_ _ | with_reducible refine al ?_ _ | (with_reducible refine sc ?_ ?_; (focus (first | omega | (simp; done) | (simp; omega)))) | (with_reducible refine chain ?_ (by assumption))))
    replace rb : RowAt ((wr1.setCell ⟨wv1.heap.size, 0, none⟩ (.int .i64 U)).setCell ⟨wv1.heap.size, 1, none⟩ (.int .i64 V)) (w.heap.size) #[.int .i64 x, .int .i64 y, .int .i64 z] 28 := ((rb.other (p := ⟨wv1.heap.size, 0, none⟩) (by first | omega | (simp; done) | (simp; omega)) (.int .i64 U)).other (p := ⟨wv1.heap.size, 1, none⟩) (by first | omega | (simp; done) | (simp; omega)) (.int .i64 V))
    replace rc : RowAt ((wr1.setCell ⟨wv1.heap.size, 0, none⟩ (.int .i64 U)).setCell ⟨wv1.heap.size, 1, none⟩ (.int .i64 V)) (w.heap.size + 1) #[.int .i64 p, .int .i64 q] 38 := ((rc.other (p := ⟨wv1.heap.size, 0, none⟩) (by first | omega | (simp; done) | (simp; omega)) (.int .i64 U)).other (p := ⟨wv1.heap.size, 1, none⟩) (by first | omega | (simp; done) | (simp; omega)) (.int .i64 V))
    replace rd : RowAt ((wr1.setCell ⟨wv1.heap.size, 0, none⟩ (.int .i64 U)).setCell ⟨wv1.heap.size, 1, none⟩ (.int .i64 V)) (W2.heap.size) #[.int .i64 f0, .int .i64 f1, .int .i64 f2] 28 := ((rd.other (p := ⟨wv1.heap.size, 0, none⟩) (by first | omega | (simp; done) | (simp; omega)) (.int .i64 U)).other (p := ⟨wv1.heap.size, 1, none⟩) (by first | omega | (simp; done) | (simp; omega)) (.int .i64 V))
    replace rq : RowAt ((wr1.setCell ⟨wv1.heap.size, 0, none⟩ (.int .i64 U)).setCell ⟨wv1.heap.size, 1, none⟩ (.int .i64 V)) (W4.heap.size) #[.int .i64 C, .int .i64 D] 38 := ((rq.other (p := ⟨wv1.heap.size, 0, none⟩) (by first | omega | (simp; done) | (simp; omega)) (.int .i64 U)).other (p := ⟨wv1.heap.size, 1, none⟩) (by first | omega | (simp; done) | (simp; omega)) (.int .i64 V))
    replace rk : RowAt ((wr1.setCell ⟨wv1.heap.size, 0, none⟩ (.int .i64 U)).setCell ⟨wv1.heap.size, 1, none⟩ (.int .i64 V)) (W8.heap.size) #[.int .i64 f0, .int .i64 f1, .int .i64 f2] 28 := ((rk.other (p := ⟨wv1.heap.size, 0, none⟩) (by first | omega | (simp; done) | (simp; omega)) (.int .i64 U)).other (p := ⟨wv1.heap.size, 1, none⟩) (by first | omega | (simp; done) | (simp; omega)) (.int .i64 V))
    replace ro : RowAt ((wr1.setCell ⟨wv1.heap.size, 0, none⟩ (.int .i64 U)).setCell ⟨wv1.heap.size, 1, none⟩ (.int .i64 V)) (wv1.heap.size) #[.int .i64 U, .int .i64 V] 38 := ((ro.set 0 (.int .i64 U)).set 1 (.int .i64 V))
    clear cb fb zb cc fc zc cd fd zd cq fq zq ck fk zk co fo zo
    generalize ((wr1.setCell ⟨wv1.heap.size, 0, none⟩ (.int .i64 U)).setCell ⟨wv1.heap.size, 1, none⟩ (.int .i64 V)) = W10 at *
    have cb : ∀ j, W10.cell? ⟨w.heap.size, j, none⟩ = (#[.int .i64 x, .int .i64 y, .int .i64 z] : Array Value)[j]? := rb.cell
    have fb : ∀ j, W10.frozen? ⟨w.heap.size, j, none⟩ = false := rb.frozen
    have zb : w.heap.size < W10.heap.size := rb.lt
    have cc : ∀ j, W10.cell? ⟨w.heap.size + 1, j, none⟩ = (#[.int .i64 p, .int .i64 q] : Array Value)[j]? := rc.cell
    have fc : ∀ j, W10.frozen? ⟨w.heap.size + 1, j, none⟩ = false := rc.frozen
    have zc : w.heap.size + 1 < W10.heap.size := rc.lt
    have cd : ∀ j, W10.cell? ⟨W2.heap.size, j, none⟩ = (#[.int .i64 f0, .int .i64 f1, .int .i64 f2] : Array Value)[j]? := rd.cell
    have fd : ∀ j, W10.frozen? ⟨W2.heap.size, j, none⟩ = false := rd.frozen
    have zd : W2.heap.size < W10.heap.size := rd.lt
    have cq : ∀ j, W10.cell? ⟨W4.heap.size, j, none⟩ = (#[.int .i64 C, .int .i64 D] : Array Value)[j]? := rq.cell
    have fq : ∀ j, W10.frozen? ⟨W4.heap.size, j, none⟩ = false := rq.frozen
    have zq : W4.heap.size < W10.heap.size := rq.lt
    have ck : ∀ j, W10.cell? ⟨W8.heap.size, j, none⟩ = (#[.int .i64 f0, .int .i64 f1, .int .i64 f2] : Array Value)[j]? := rk.cell
    have fk : ∀ j, W10.frozen? ⟨W8.heap.size, j, none⟩ = false := rk.frozen
    have zk : W8.heap.size < W10.heap.size := rk.lt
    have co : ∀ j, W10.cell? ⟨wv1.heap.size, j, none⟩ = (#[.int .i64 U, .int .i64 V] : Array Value)[j]? := ro.cell
    have fo : ∀ j, W10.frozen? ⟨wv1.heap.size, j, none⟩ = false := ro.frozen
    have zo : wv1.heap.size < W10.heap.size := ro.lt
    (refine (Hfr2.out _).mono ?_; rintro e W11 ⟨rfl, hW11⟩)
    clear cb fb zb cc fc zc cd fd zd cq fq zq ck fk zk co fo zo
    replace rb := rb.keep hW11
    replace rc := rc.keep hW11
    replace rd := rd.keep hW11
    replace rq := rq.keep hW11
    replace rk := rk.keep hW11
    replace ro := ro.keep hW11
    replace kw := kw.trans (hW11.mono kw.size)
    have cb : ∀ j, W11.cell? ⟨w.heap.size, j, none⟩ = (#[.int .i64 x, .int .i64 y, .int .i64 z] : Array Value)[j]? := rb.cell
    have fb : ∀ j, W11.frozen? ⟨w.heap.size, j, none⟩ = false := rb.frozen
    have zb : w.heap.size < W11.heap.size := rb.lt
    have cc : ∀ j, W11.cell? ⟨w.heap.size + 1, j, none⟩ = (#[.int .i64 p, .int .i64 q] : Array Value)[j]? := rc.cell
    have fc : ∀ j, W11.frozen? ⟨w.heap.size + 1, j, none⟩ = false := rc.frozen
    have zc : w.heap.size + 1 < W11.heap.size := rc.lt
    have cd : ∀ j, W11.cell? ⟨W2.heap.size, j, none⟩ = (#[.int .i64 f0, .int .i64 f1, .int .i64 f2] : Array Value)[j]? := rd.cell
    have fd : ∀ j, W11.frozen? ⟨W2.heap.size, j, none⟩ = false := rd.frozen
    have zd : W2.heap.size < W11.heap.size := rd.lt
    have cq : ∀ j, W11.cell? ⟨W4.heap.size, j, none⟩ = (#[.int .i64 C, .int .i64 D] : Array Value)[j]? := rq.cell
    have fq : ∀ j, W11.frozen? ⟨W4.heap.size, j, none⟩ = false := rq.frozen
    have zq : W4.heap.size < W11.heap.size := rq.lt
    have ck : ∀ j, W11.cell? ⟨W8.heap.size, j, none⟩ = (#[.int .i64 f0, .int .i64 f1, .int .i64 f2] : Array Value)[j]? := rk.cell
    have fk : ∀ j, W11.frozen? ⟨W8.heap.size, j, none⟩ = false := rk.frozen
    have zk : W8.heap.size < W11.heap.size := rk.lt
    have co : ∀ j, W11.cell? ⟨wv1.heap.size, j, none⟩ = (#[.int .i64 U, .int .i64 V] : Array Value)[j]? := ro.cell
    have fo : ∀ j, W11.frozen? ⟨wv1.heap.size, j, none⟩ = false := ro.frozen
    have zo : wv1.heap.size < W11.heap.size := ro.lt
    clear hW11
    go_wp2_with fail
    have ymb : w.heap.size < W11.heap.size := by omega
    have ymc : w.heap.size + 1 < W11.heap.size := by omega
    have ymd : W2.heap.size < W11.heap.size := by omega
    have ymq : W4.heap.size < W11.heap.size := by omega
    have ymk : W8.heap.size < W11.heap.size := by omega
    have ymo : wv1.heap.size < W11.heap.size := by omega
    replace kw : Below w.heap.size w (W11.alloc (.cells #[.int .i64 g0, .int .i64 g1, .int .i64 g2] 28)) := by (repeat (first | with_reducible assumption | with_reducible exact Below.refl _ _ | with_reducible refine Below.drew ?_ | with_reducible refine below_drewN ?_ _ | with_reducible refine al ?_ _ | (with_reducible refine sc ?_ ?_; (focus (first | omega | (simp; done) | (simp; omega)))) | (with_reducible refine chain ?_ (by assumption))))
    replace rb : RowAt (W11.alloc (.cells #[.int .i64 g0, .int .i64 g1, .int .i64 g2] 28)) (w.heap.size) #[.int .i64 x, .int .i64 y, .int .i64 z] 28 := (rb.alloc _)
    replace rc : RowAt (W11.alloc (.cells #[.int .i64 g0, .int .i64 g1, .int .i64 g2] 28)) (w.heap.size + 1) #[.int .i64 p, .int .i64 q] 38 := (rc.alloc _)
    replace rd : RowAt (W11.alloc (.cells #[.int .i64 g0, .int .i64 g1, .int .i64 g2] 28)) (W2.heap.size) #[.int .i64 f0, .int .i64 f1, .int .i64 f2] 28 := (rd.alloc _)
    replace rq : RowAt (W11.alloc (.cells #[.int .i64 g0, .int .i64 g1, .int .i64 g2] 28)) (W4.heap.size) #[.int .i64 C, .int .i64 D] 38 := (rq.alloc _)
    replace rk : RowAt (W11.alloc (.cells #[.int .i64 g0, .int .i64 g1, .int .i64 g2] 28)) (W8.heap.size) #[.int .i64 f0, .int .i64 f1, .int .i64 f2] 28 := (rk.alloc _)
    replace ro : RowAt (W11.alloc (.cells #[.int .i64 g0, .int .i64 g1, .int .i64 g2] 28)) (wv1.heap.size) #[.int .i64 U, .int .i64 V] 38 := (ro.alloc _)
    have rm : RowAt (W11.alloc (.cells #[.int .i64 g0, .int .i64 g1, .int .i64 g2] 28)) (W11.heap.size) #[.int .i64 g0, .int .i64 g1, .int .i64 g2] 28 := (RowAt.make _ _ _ (by first | rfl | (simp [World.setCell]; done)))
    clear cb fb zb cc fc zc cd fd zd cq fq zq ck fk zk co fo zo
    generalize (W11.alloc (.cells #[.int .i64 g0, .int .i64 g1, .int .i64 g2] 28)) = W12 at *
    have cb : ∀ j, W12.cell? ⟨w.heap.size, j, none⟩ = (#[.int .i64 x, .int .i64 y, .int .i64 z] : Array Value)[j]? := rb.cell
    have fb : ∀ j, W12.frozen? ⟨w.heap.size, j, none⟩ = false := rb.frozen
    have zb : w.heap.size < W12.heap.size := rb.lt
    have cc : ∀ j, W12.cell? ⟨w.heap.size + 1, j, none⟩ = (#[.int .i64 p, .int .i64 q] : Array Value)[j]? := rc.cell
    have fc : ∀ j, W12.frozen? ⟨w.heap.size + 1, j, none⟩ = false := rc.frozen
    have zc : w.heap.size + 1 < W12.heap.size := rc.lt
    have cd : ∀ j, W12.cell? ⟨W2.heap.size, j, none⟩ = (#[.int .i64 f0, .int .i64 f1, .int .i64 f2] : Array Value)[j]? := rd.cell
    have fd : ∀ j, W12.frozen? ⟨W2.heap.size, j, none⟩ = false := rd.frozen
    have zd : W2.heap.size < W12.heap.size := rd.lt
    have cq : ∀ j, W12.cell? ⟨W4.heap.size, j, none⟩ = (#[.int .i64 C, .int .i64 D] : Array Value)[j]? := rq.cell
    have fq : ∀ j, W12.frozen? ⟨W4.heap.size, j, none⟩ = false := rq.frozen
    have zq : W4.heap.size < W12.heap.size := rq.lt
    have ck : ∀ j, W12.cell? ⟨W8.heap.size, j, none⟩ = (#[.int .i64 f0, .int .i64 f1, .int .i64 f2] : Array Value)[j]? := rk.cell
    have fk : ∀ j, W12.frozen? ⟨W8.heap.size, j, none⟩ = false := rk.frozen
    have zk : W8.heap.size < W12.heap.size := rk.lt
    have co : ∀ j, W12.cell? ⟨wv1.heap.size, j, none⟩ = (#[.int .i64 U, .int .i64 V] : Array Value)[j]? := ro.cell
    have fo : ∀ j, W12.frozen? ⟨wv1.heap.size, j, none⟩ = false := ro.frozen
    have zo : wv1.heap.size < W12.heap.size := ro.lt
    have cm : ∀ j, W12.cell? ⟨W11.heap.size, j, none⟩ = (#[.int .i64 g0, .int .i64 g1, .int .i64 g2] : Array Value)[j]? := rm.cell
    have fm : ∀ j, W12.frozen? ⟨W11.heap.size, j, none⟩ = false := rm.frozen
    have zm : W11.heap.size < W12.heap.size := rm.lt
    (refine (Hrf2.out _).mono ?_; rintro e W13 ⟨rfl, hW13⟩)
    clear cb fb zb cc fc zc cd fd zd cq fq zq ck fk zk co fo zo cm fm zm
    replace rb := rb.keep hW13
    replace rc := rc.keep hW13
    replace rd := rd.keep hW13
    replace rq := rq.keep hW13
    replace rk := rk.keep hW13
    replace ro := ro.keep hW13
    replace rm := rm.keep hW13
    replace kw := kw.trans (hW13.mono kw.size)
    have cb : ∀ j, W13.cell? ⟨w.heap.size, j, none⟩ = (#[.int .i64 x, .int .i64 y, .int .i64 z] : Array Value)[j]? := rb.cell
    have fb : ∀ j, W13.frozen? ⟨w.heap.size, j, none⟩ = false := rb.frozen
    have zb : w.heap.size < W13.heap.size := rb.lt
    have cc : ∀ j, W13.cell? ⟨w.heap.size + 1, j, none⟩ = (#[.int .i64 p, .int .i64 q] : Array Value)[j]? := rc.cell
    have fc : ∀ j, W13.frozen? ⟨w.heap.size + 1, j, none⟩ = false := rc.frozen
    have zc : w.heap.size + 1 < W13.heap.size := rc.lt
    have cd : ∀ j, W13.cell? ⟨W2.heap.size, j, none⟩ = (#[.int .i64 f0, .int .i64 f1, .int .i64 f2] : Array Value)[j]? := rd.cell
    have fd : ∀ j, W13.frozen? ⟨W2.heap.size, j, none⟩ = false := rd.frozen
    have zd : W2.heap.size < W13.heap.size := rd.lt
    have cq : ∀ j, W13.cell? ⟨W4.heap.size, j, none⟩ = (#[.int .i64 C, .int .i64 D] : Array Value)[j]? := rq.cell
    have fq : ∀ j, W13.frozen? ⟨W4.heap.size, j, none⟩ = false := rq.frozen
    have zq : W4.heap.size < W13.heap.size := rq.lt
    have ck : ∀ j, W13.cell? ⟨W8.heap.size, j, none⟩ = (#[.int .i64 f0, .int .i64 f1, .int .i64 f2] : Array Value)[j]? := rk.cell
    have fk : ∀ j, W13.frozen? ⟨W8.heap.size, j, none⟩ = false := rk.frozen
    have zk : W8.heap.size < W13.heap.size := rk.lt
    have co : ∀ j, W13.cell? ⟨wv1.heap.size, j, none⟩ = (#[.int .i64 U, .int .i64 V] : Array Value)[j]? := ro.cell
    have fo : ∀ j, W13.frozen? ⟨wv1.heap.size, j, none⟩ = false := ro.frozen
    have zo : wv1.heap.size < W13.heap.size := ro.lt
    have cm : ∀ j, W13.cell? ⟨W11.heap.size, j, none⟩ = (#[.int .i64 g0, .int .i64 g1, .int .i64 g2] : Array Value)[j]? := rm.cell
    have fm : ∀ j, W13.frozen? ⟨W11.heap.size, j, none⟩ = false := rm.frozen
    have zm : W11.heap.size < W13.heap.size := rm.lt
    clear hW13
    rcases HY2.out with ⟨rfl, h0⟩ | ⟨rfl, h0, h1⟩ | ⟨rfl, h0, h1, rfl, rfl, h2⟩
    · go_wp2_with fail
      (refine (Hix2.out _).mono ?_; rintro e u1 ⟨rfl, hu1⟩)
      obtain ⟨_hcu1, _hfu1⟩ := bcell hu1
      have _zu10 : w.heap.size < u1.heap.size := size_lt (by first | (simp; done) | (simp; omega) | omega | (simp [World.setCell]; done) | (simp [World.setCell]; omega)) hu1
      have _zu11 : w.heap.size + 1 < u1.heap.size := size_lt (by first | (simp; done) | (simp; omega) | omega | (simp [World.setCell]; done) | (simp [World.setCell]; omega)) hu1
      have _zu12 : wv1.heap.size < u1.heap.size := size_lt (by first | (simp; done) | (simp; omega) | omega | (simp [World.setCell]; done) | (simp [World.setCell]; omega)) hu1
      have _zu13 : W11.heap.size < u1.heap.size := size_lt (by first | (simp; done) | (simp; omega) | omega | (simp [World.setCell]; done) | (simp [World.setCell]; omega)) hu1
      have ku1 : Below w.heap.size w u1 := by (repeat (first | with_reducible assumption | with_reducible exact Below.refl _ _ | with_reducible refine Below.drew ?_ | with_reducible refine below_drewN ?_ _ | with_reducible refine al ?_ _ | (with_reducible refine sc ?_ ?_; (focus (first | omega | (simp; done) | (simp; omega)))) | (with_reducible refine chain ?_ (by assumption))))
      go_wp2_with fail
      refine region_below 19 (by kernel_rfl) (by kernel_rfl) ?_
      simp only [List.take_succ_cons, List.take_zero, List.drop_succ_cons, List.drop_zero]
      repeat (first | (refine' InText.skip (by rfl) ?_; simp only [Act.put, List.setIfInBounds_toArray, List.set_cons_zero, List.set_cons_succ]) | (refine' InText.val (by rfl) (fun wr hr => ?_) ?_; rotate_left 1; (focus (obtain ⟨hrc, hrf⟩ := bcell hr; (go_simp <;> with_reducible rfl); done)); simp only [Act.put, List.setIfInBounds_toArray, List.set_cons_zero, List.set_cons_succ]) | (refine' InText.call (by rfl) (fun wr hr => ?_) (fun wr hr => ?_) ?_; rotate_left 3; (focus ((go_simp <;> (first | with_reducible rfl | exact ⟨rfl, rfl⟩)); done)); (focus (first | with_reducible exact l3_lives _)); simp only [Act.put, List.setIfInBounds_toArray, List.set_cons_zero, List.set_cons_succ]))
      refine fun wr hr => ?_
      obtain ⟨hrc, hrf⟩ := bcell hr
      go_wp2
      go_ret
      exact ⟨rfl, by (repeat (first | with_reducible assumption | with_reducible exact Below.refl _ _ | with_reducible refine Below.drew ?_ | with_reducible refine below_drewN ?_ _ | with_reducible refine al ?_ _ | (with_reducible refine sc ?_ ?_; (focus (first | omega | (simp; done) | (simp; omega)))) | (with_reducible refine chain ?_ (by assumption))))⟩
    · go_wp2_with fail
      (refine (Hix2.out _).mono ?_; rintro e u1 ⟨rfl, hu1⟩)
      obtain ⟨_hcu1, _hfu1⟩ := bcell hu1
      have _zu10 : w.heap.size < u1.heap.size := size_lt (by first | (simp; done) | (simp; omega) | omega | (simp [World.setCell]; done) | (simp [World.setCell]; omega)) hu1
      have _zu11 : w.heap.size + 1 < u1.heap.size := size_lt (by first | (simp; done) | (simp; omega) | omega | (simp [World.setCell]; done) | (simp [World.setCell]; omega)) hu1
      have _zu12 : wv1.heap.size < u1.heap.size := size_lt (by first | (simp; done) | (simp; omega) | omega | (simp [World.setCell]; done) | (simp [World.setCell]; omega)) hu1
      have _zu13 : W11.heap.size < u1.heap.size := size_lt (by first | (simp; done) | (simp; omega) | omega | (simp [World.setCell]; done) | (simp [World.setCell]; omega)) hu1
      have ku1 : Below w.heap.size w u1 := by (repeat (first | with_reducible assumption | with_reducible exact Below.refl _ _ | with_reducible refine Below.drew ?_ | with_reducible refine below_drewN ?_ _ | with_reducible refine al ?_ _ | (with_reducible refine sc ?_ ?_; (focus (first | omega | (simp; done) | (simp; omega)))) | (with_reducible refine chain ?_ (by assumption))))
      go_wp2_with fail
      refine region_below 19 (by kernel_rfl) (by kernel_rfl) ?_
      simp only [List.take_succ_cons, List.take_zero, List.drop_succ_cons, List.drop_zero]
      repeat (first | (refine' InText.skip (by rfl) ?_; simp only [Act.put, List.setIfInBounds_toArray, List.set_cons_zero, List.set_cons_succ]) | (refine' InText.val (by rfl) (fun wr hr => ?_) ?_; rotate_left 1; (focus (obtain ⟨hrc, hrf⟩ := bcell hr; (go_simp <;> with_reducible rfl); done)); simp only [Act.put, List.setIfInBounds_toArray, List.set_cons_zero, List.set_cons_succ]) | (refine' InText.call (by rfl) (fun wr hr => ?_) (fun wr hr => ?_) ?_; rotate_left 3; (focus ((go_simp <;> (first | with_reducible rfl | exact ⟨rfl, rfl⟩)); done)); (focus (first | with_reducible exact l3_lives _)); simp only [Act.put, List.setIfInBounds_toArray, List.set_cons_zero, List.set_cons_succ]))
      refine fun wr hr => ?_
      obtain ⟨hrc, hrf⟩ := bcell hr
      go_wp2
      go_ret
      exact ⟨rfl, by (repeat (first | with_reducible assumption | with_reducible exact Below.refl _ _ | with_reducible refine Below.drew ?_ | with_reducible refine below_drewN ?_ _ | with_reducible refine al ?_ _ | (with_reducible refine sc ?_ ?_; (focus (first | omega | (simp; done) | (simp; omega)))) | (with_reducible refine chain ?_ (by assumption))))⟩
    · have H2 := Lib.hid h2
      clear h2
      go_wp2_with fail
      (refine (Hix2.out _).mono ?_; rintro e u1 ⟨rfl, hu1⟩)
      obtain ⟨_hcu1, _hfu1⟩ := bcell hu1
      have _zu10 : w.heap.size < u1.heap.size := size_lt (by first | (simp; done) | (simp; omega) | omega | (simp [World.setCell]; done) | (simp [World.setCell]; omega)) hu1
      have _zu11 : w.heap.size + 1 < u1.heap.size := size_lt (by first | (simp; done) | (simp; omega) | omega | (simp [World.setCell]; done) | (simp [World.setCell]; omega)) hu1
      have _zu12 : wv1.heap.size < u1.heap.size := size_lt (by first | (simp; done) | (simp; omega) | omega | (simp [World.setCell]; done) | (simp [World.setCell]; omega)) hu1
      have _zu13 : W11.heap.size < u1.heap.size := size_lt (by first | (simp; done) | (simp; omega) | omega | (simp [World.setCell]; done) | (simp [World.setCell]; omega)) hu1
      have ku1 : Below w.heap.size w u1 := by (repeat (first | with_reducible assumption | with_reducible exact Below.refl _ _ | with_reducible refine Below.drew ?_ | with_reducible refine below_drewN ?_ _ | with_reducible refine al ?_ _ | (with_reducible refine sc ?_ ?_; (focus (first | omega | (simp; done) | (simp; omega)))) | (with_reducible refine chain ?_ (by assumption))))
      go_wp2_with fail
      refine region_below 19 (by kernel_rfl) (by kernel_rfl) ?_
      simp only [List.take_succ_cons, List.take_zero, List.drop_succ_cons, List.drop_zero]
      repeat (first | (refine' InText.skip (by rfl) ?_; simp only [Act.put, List.setIfInBounds_toArray, List.set_cons_zero, List.set_cons_succ]) | (refine' InText.val (by rfl) (fun wr hr => ?_) ?_; rotate_left 1; (focus (obtain ⟨hrc, hrf⟩ := bcell hr; (go_simp <;> with_reducible rfl); done)); simp only [Act.put, List.setIfInBounds_toArray, List.set_cons_zero, List.set_cons_succ]) | (refine' InText.call (by rfl) (fun wr hr => ?_) (fun wr hr => ?_) ?_; rotate_left 3; (focus ((go_simp <;> (first | with_reducible rfl | exact ⟨rfl, rfl⟩)); done)); (focus (first | with_reducible exact H2.out _ | with_reducible exact l3_lives _)); simp only [Act.put, List.setIfInBounds_toArray, List.set_cons_zero, List.set_cons_succ]))
      refine fun wr hr => ?_
      obtain ⟨hrc, hrf⟩ := bcell hr
      go_wp2
      go_ret
      exact ⟨rfl, by (repeat (first | with_reducible assumption | with_reducible exact Below.refl _ _ | with_reducible refine Below.drew ?_ | with_reducible refine below_drewN ?_ _ | with_reducible refine al ?_ _ | (with_reducible refine sc ?_ ?_; (focus (first | omega | (simp; done) | (simp; omega)))) | (with_reducible refine chain ?_ (by assumption))))⟩
theorem own : ownKnob Try.prog.godebug = none := by kernel_rfl
set_option maxRecDepth 100000 in
theorem lifted (os : Os) (started : os.Started) (H : Type) (enc : TypeId × Value → H) :
    ReturnsInHanded {} Try.checked os 5 .any (Rows.cellIndicesSpec.pre6 enc Try.prog Try.f5 Rows.cellIndicesRow.domain false) (Rows.cellIndicesSpec.post enc Try.prog Try.f5 false true false false) := by
  refine returnsInHanded_of_change (C := Try.checked) own started (by kernel_rfl) Try.func5
    (ChangeSpec.witness6 (enc := enc) (C := Try.checked) false ⟨#[], #[.agg #[.int .i64 0, .int .i64 0, .int .i64 0], .agg #[.int .i64 0, .int .i64 0], .int .i64 0], []⟩ 8 (by kernel_rfl) (by kernel_rfl) (by kernel_rfl) (by kernel_rfl)) ?_
  intro W base args ds gs before hval0 hW hcnd _
  have hval : ∀ (j : Nat) t v, Try.f5.params[j]? = some t → args[j]? = some v → Value.okWide Try.prog W .any base t v := hval0
  have hW' := hW
  obtain ⟨p, q, hA0, hV, rfl, hfz, hnd⟩ := hW
  have hA : DataW.TrodAll enc Try.prog W 0 (fun _ => true) true Try.f5.params.toList args.toList ds p := hA0
  rw [Try.params5] at hA hval
  obtain ⟨v0, vs0, d0, ds0, p0, q0, hargs, rfl, rfl, h0, r0⟩ := trodAll_cons hA
  obtain ⟨v1, vs1, d1, ds1, p1, q1, rfl, rfl, rfl, h1, r1⟩ := trodAll_cons r0
  obtain ⟨v2, vs2, d2, ds2, p2, q2, rfl, rfl, rfl, h2, r2⟩ := trodAll_cons r1
  obtain ⟨rfl, rfl, rfl⟩ := trodAll_nil r2
  obtain rfl : args = #[v0, v1, v2] := by cases args; simp_all
  obtain ⟨rfl, rfl⟩ := trodVars_none hV
  simp only [List.append_nil] at hW'
  have hlt : ∀ x ∈ p0 ++ (p1 ++ (p2 ++ ([]))), x.block < W.heap.size := fun x hx => hW'.lt x (by simpa using hx)
  have hlt0 : ∀ x ∈ p0, x.block < W.heap.size := fun x hx => hlt x (List.mem_append.2 (.inl hx))
  have hlt1 : ∀ x ∈ p1, x.block < W.heap.size := fun x hx => hlt x (List.mem_append.2 (.inr (List.mem_append.2 (.inl hx))))
  have hlt2 : ∀ x ∈ p2, x.block < W.heap.size := fun x hx => hlt x (List.mem_append.2 (.inr (List.mem_append.2 (.inr (List.mem_append.2 (.inl hx))))))
  have k0 := h0
  have k1 := h1
  have k2 := h2
  obtain ⟨a0, rfl, w0⟩ := open_cell (hval 0 28 v0 rfl rfl) h0
  obtain ⟨a1, rfl, w1⟩ := open_pos (hval 1 38 v1 rfl rfl) h1
  obtain ⟨a2, rfl, w2⟩ := open_num (hval 2 3 v2 rfl rfl) h2
  clear hA0 hval0
  refine (walk a0 w0 a1 w1 a2 w2 W).mono fun e W' ⟨he, hg⟩ => ?_
  subst he
  exact ⟨_, rfl, _, _, _, [], _, [], hW', (trodAll_cons_mk (shut_bool Try.underlying4 _) trodAll_mk0), (trodAll_cons_mk (Below.trod laidOut (by kernel_rfl) (of_decide_eq_true (by kernel_rfl)) k0 hg hlt0) (trodAll_cons_mk (Below.trod laidOut (by kernel_rfl) (of_decide_eq_true (by kernel_rfl)) k1 hg hlt1) (trodAll_cons_mk (Below.trod laidOut (by kernel_rfl) (of_decide_eq_true (by kernel_rfl)) k2 hg hlt2) trodAll_mk0))), rfl, hg.frame _, fun h => by cases h⟩
theorem over : Rows.cellIndicesRow.holds Try.pinned (OpenSpec.ofChange Rows.cellIndicesSpec) :=
  OpenClaim.holds_of_wide 5 Try.f5 rfl rfl rfl rfl rfl rfl rfl ⟨rfl, rfl, rfl, rfl, rfl⟩ rfl rfl rfl rfl rfl (by kernel_rfl) Try.func5 (by kernel_rfl)
    (of_decide_eq_true (by kernel_rfl)) (by unfold Func.isWrapper; first | (rw [if_pos (by decide +kernel)]; kernel_rfl) | (rw [if_neg (by decide +kernel)]; exact ⟨rfl, rfl⟩))
    (fun os started H enc _ => lifted os started H enc)
theorem proved : Rows.CellIndicesSaid := over
#print axioms proved
end Go.Proofs.Ytenpcmhfbbfpeaa.cellIndices
