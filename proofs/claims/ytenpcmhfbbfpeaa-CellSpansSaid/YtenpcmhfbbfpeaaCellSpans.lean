/- For every box and every cell the law CellSpans of layer 3 answers true: the cells that a box overlaps are just those from the least to the greatest one. Conditions: none: every input. -/
import Derived.Test.YtenpcmhfbbfpeaaRows
import Derived.Test.YtenpcmhfbbfpeaaO02
import Derived.Test.YtenpcmhfbbfpeaaL03
import Derived.Test.YtenpcmhfbbfpeaaR33
import Derived.Test.YtenpcmhfbbfpeaaR35
import Derived.Test.YtenpcmhfbbfpeaaR36
import Derived.Test.YtenpcmhfbbfpeaaR02
import Derived.Test.YtenpcmhfbbfpeaaR04
import Derived.Test.YtenpcmhfbbfpeaaQ32
import Derived.Test.YtenpcmhfbbfpeaaS03
import Derived.WalkKit
import Derived.ProofKit
import Derived.OpenShut
import Derived.Below
import Derived.Carry
namespace Go.Proofs.Ytenpcmhfbbfpeaa.cellSpans
open Go.Proofs.Ytenpcmhfbbfpeaa Go.ChangeShapes Go.WideShapes Go.ChangeAt Go.RowKit
set_option linter.unusedVariables false
set_option linter.unusedSimpArgs false
attribute [local go_sem ↓] Go.wp_at_zero Go.wp_at_succ
theorem span_both (x y z x' y' z' : Int) (k : World) : Calls Try.prog 36 #[boxV x y z x' y' z'] k fun e w' => e = .returned (spanR (cut x / 65536) (cut y / 65536) (cut z / 65536) (belowF x') (belowF y') (belowF z')) ∧ Below k.heap.size k w' := by
  unfold spanR
  by_cases h : cut x / 65536 ≤ belowF x' ∧ cut y / 65536 ≤ belowF y' ∧ cut z / 65536 ≤ belowF z'
  · rw [if_pos h]; exact c3_span x y z x' y' z' h.1 h.2.1 h.2.2 k
  · rw [if_neg h]; exact c3_span_no x y z x' y' z' (by omega) k
theorem spanR_is (A B C D E F : Int) : ∃ p0 p1 p2 p3 p4 p5 b, spanR A B C D E F = .tuple #[vecV p0 p1 p2, vecV p3 p4 p5, .bool b] ∧
    ((b = false ∧ ¬ (A ≤ D ∧ B ≤ E ∧ C ≤ F)) ∨ (b = true ∧ (p0 = A ∧ p1 = B ∧ p2 = C ∧ p3 = D ∧ p4 = E ∧ p5 = F))) := by
  unfold spanR
  by_cases h : A ≤ D ∧ B ≤ E ∧ C ≤ F
  · rw [if_pos h]; exact ⟨_, _, _, _, _, _, _, rfl, .inr ⟨rfl, rfl, rfl, rfl, rfl, rfl, rfl⟩⟩
  · rw [if_neg h]; exact ⟨_, _, _, _, _, _, _, rfl, .inl ⟨rfl, h⟩⟩
theorem below_ax (n m d : Int) (hn : -1000000 ≤ n ∧ n ≤ 1000000) (hm : -1000000 ≤ m ∧ m ≤ 1000000) (hd : -9 ≤ d ∧ d ≤ 8) :
    decide (n < topF d) = decide (cut n / 65536 ≤ d) ∧ decide (d * 65536 < m) = decide (d ≤ belowF m) := by
  refine ⟨?_, ?_⟩
  · unfold topF; rw [cut_in (by omega) (by omega), cut_in (by omega) (by omega), Bool.eq_iff_iff]; simp only [decide_eq_true_eq]; omega
  · unfold belowF; rw [cut_in (by omega) (by omega), Bool.eq_iff_iff]; simp only [decide_eq_true_eq]
    split <;> omega
set_option maxHeartbeats 16000000 in
theorem walk (a0 : V6) (w0 : a0.wf) (a1 : V3) (w1 : a1.wf) (w : World) :
    Calls Try.prog 7 #[a0.val, a1.val] w fun e w' => e = .returned (.bool true) ∧ Below w.heap.size w w' := by
  obtain ⟨⟨x, y, z⟩, ⟨x', y', z'⟩⟩ := a0
  obtain ⟨⟨wx, wy, wz⟩, ⟨wx', wy', wz'⟩⟩ := w0
  obtain ⟨u, v, t⟩ := a1
  obtain ⟨wu, wv0, wt⟩ := w1
  have go := fun k => r2_good x y z x' y' z' k
  have sm := fun k => r2_small x y z x' y' z' wx wy wz wx' wy' wz' k
  have cx := cut_bd x
  have cx' := cut_bd x'
  generalize cut x = kx at *
  generalize cut x' = kx' at *
  obtain ⟨A, hA⟩ : ∃ A, min kx kx' = A := ⟨_, rfl⟩
  obtain ⟨D, hD⟩ : ∃ A, max kx kx' = A := ⟨_, rfl⟩
  have bA : -140737488355328 ≤ A ∧ A ≤ 140737488355328 := by omega
  have bD : -140737488355328 ≤ D ∧ D ≤ 140737488355328 := by omega
  have oA : A ≤ D := by omega
  have nx := nearF_bd x
  have mx := widF_bd x'
  have cy := cut_bd y
  have cy' := cut_bd y'
  generalize cut y = ky at *
  generalize cut y' = ky' at *
  obtain ⟨B, hB⟩ : ∃ A, min ky ky' = A := ⟨_, rfl⟩
  obtain ⟨E, hE⟩ : ∃ A, max ky ky' = A := ⟨_, rfl⟩
  have bB : -140737488355328 ≤ B ∧ B ≤ 140737488355328 := by omega
  have bE : -140737488355328 ≤ E ∧ E ≤ 140737488355328 := by omega
  have oB : B ≤ E := by omega
  have ny := nearF_bd y
  have my := widF_bd y'
  have cz := cut_bd z
  have cz' := cut_bd z'
  generalize cut z = kz at *
  generalize cut z' = kz' at *
  obtain ⟨C, hC⟩ : ∃ A, min kz kz' = A := ⟨_, rfl⟩
  obtain ⟨F, hF⟩ : ∃ A, max kz kz' = A := ⟨_, rfl⟩
  have bC : -140737488355328 ≤ C ∧ C ≤ 140737488355328 := by omega
  have bF : -140737488355328 ≤ F ∧ F ≤ 140737488355328 := by omega
  have oC : C ≤ F := by omega
  have nz := nearF_bd z
  have mz := widF_bd z'
  rw [hA, hB, hC, hD, hE, hF] at go
  clear hA hB hC hD hE hF cx cy cz cx' cy' cz'
  have s1 := fun k => span_both A B C D E F k
  have s2 := fun k => r3_span A B C D E F bA bB bC bD bE bF oA oB oC k
  rw [cut_in bA.1 bA.2, cut_in bB.1 bB.2, cut_in bC.1 bC.2] at s1
  obtain ⟨p0, p1, p2, p3, p4, p5, pb, hp, _⟩ := spanR_is (A / 65536) (B / 65536) (C / 65536) (belowF D) (belowF E) (belowF F)
  rw [hp] at s1 s2
  clear hp bA bB bC bD bE bF oA oB oC
  unfold smallV at sm
  generalize nearF x = N at *
  generalize nearF y = O at *
  generalize nearF z = P at *
  obtain ⟨Q, hQ⟩ : ∃ Q, N + widF x' = Q := ⟨_, rfl⟩
  obtain ⟨R, hR⟩ : ∃ Q, O + widF y' = Q := ⟨_, rfl⟩
  obtain ⟨S, hS⟩ : ∃ Q, P + widF z' = Q := ⟨_, rfl⟩
  rw [hQ, hR, hS] at sm
  have kI := fun k => r_around u 18 wu.1 wu.2 (by omega) (by omega) k
  have bI := around_bd u 18 (by omega)
  generalize aroundF u 18 = I0 at *
  obtain ⟨I, hI⟩ : ∃ d, I0 - 9 = d := ⟨_, rfl⟩
  have wI : IntKind.i64.wrap (I0 - 9) = I := by rw [IntWalk.i64_in _ (by omega)]; exact hI
  have kJ := fun k => r_around v 18 wv0.1 wv0.2 (by omega) (by omega) k
  have bJ := around_bd v 18 (by omega)
  generalize aroundF v 18 = J0 at *
  obtain ⟨J, hJ⟩ : ∃ d, J0 - 9 = d := ⟨_, rfl⟩
  have wJ : IntKind.i64.wrap (J0 - 9) = J := by rw [IntWalk.i64_in _ (by omega)]; exact hJ
  have kK := fun k => r_around t 18 wt.1 wt.2 (by omega) (by omega) k
  have bK := around_bd t 18 (by omega)
  generalize aroundF t 18 = K0 at *
  obtain ⟨K, hK⟩ : ∃ d, K0 - 9 = d := ⟨_, rfl⟩
  have wK : IntKind.i64.wrap (K0 - 9) = K := by rw [IntWalk.i64_in _ (by omega)]; exact hK
  have s3 := fun k => span_both N O P Q R S k
  have xa := below_ax N Q I (by omega) (by omega) (by omega)
  have ya := below_ax O R J (by omega) (by omega) (by omega)
  have za := below_ax P S K (by omega) (by omega) (by omega)
  have rb := fun k => r3_box I J K k
  rw [cellC_in (by omega) (by omega), cellC_in (by omega) (by omega), cellC_in (by omega) (by omega)] at rb
  unfold cbox at rb
  have ov := fun k => r2_overlap N O P Q R S (I * 65536) (J * 65536) (K * 65536) (topF I) (topF J) (topF K) k
  rw [xa.1, xa.2, ya.1, ya.2, za.1, za.2] at ov
  clear hQ hR hS hI hJ hK bI bJ bK nx ny nz mx my mz xa ya za wx wy wz wx' wy' wz' wu wv0 wt
  obtain ⟨l0, l1, l2, l3, l4, l5, lb, hl, ln⟩ := spanR_is (cut N / 65536) (cut O / 65536) (cut P / 65536) (belowF Q) (belowF R) (belowF S)
  rw [hl] at s3
  generalize cut N / 65536 = f0 at *
  generalize cut O / 65536 = f1 at *
  generalize cut P / 65536 = f2 at *
  generalize belowF Q = f3 at *
  generalize belowF R = f4 at *
  generalize belowF S = f5 at *
  obtain ⟨vb, hv⟩ : ∃ vb, (decide (f0 ≤ I) && decide (I ≤ f3) && (decide (f1 ≤ J) && decide (J ≤ f4)) && (decide (f2 ≤ K) && decide (K ≤ f5))) = vb := ⟨_, rfl⟩
  rw [hv] at ov
  have ways : (lb = false ∧ vb = false) ∨ (lb = true ∧ decide (l0 ≤ I) = false ∧ vb = false) ∨ (lb = true ∧ decide (l0 ≤ I) = true ∧ decide (I ≤ l3) = false ∧ vb = false) ∨
      (lb = true ∧ decide (l0 ≤ I) = true ∧ decide (I ≤ l3) = true ∧ decide (l1 ≤ J) = false ∧ vb = false) ∨ (lb = true ∧ decide (l0 ≤ I) = true ∧ decide (I ≤ l3) = true ∧ decide (l1 ≤ J) = true ∧ decide (J ≤ l4) = false ∧ vb = false) ∨
      (lb = true ∧ decide (l0 ≤ I) = true ∧ decide (I ≤ l3) = true ∧ decide (l1 ≤ J) = true ∧ decide (J ≤ l4) = true ∧ decide (l2 ≤ K) = false ∧ vb = false) ∨
      (lb = true ∧ decide (l0 ≤ I) = true ∧ decide (I ≤ l3) = true ∧ decide (l1 ≤ J) = true ∧ decide (J ≤ l4) = true ∧ decide (l2 ≤ K) = true ∧ decide (K ≤ l5) = false ∧ vb = false) ∨
      (lb = true ∧ decide (l0 ≤ I) = true ∧ decide (I ≤ l3) = true ∧ decide (l1 ≤ J) = true ∧ decide (J ≤ l4) = true ∧ decide (l2 ≤ K) = true ∧ decide (K ≤ l5) = true ∧ vb = true) := by
    rw [← hv]
    rcases ln with ⟨rfl, hno⟩ | ⟨rfl, rfl, rfl, rfl, rfl, rfl, rfl⟩
    · left
      refine ⟨rfl, ?_⟩
      rw [Bool.eq_false_iff]
      intro h
      simp only [Bool.and_eq_true, decide_eq_true_eq] at h
      exact hno (by omega)
    · cases decide (l0 ≤ I) <;> cases decide (I ≤ l3) <;> cases decide (l1 ≤ J) <;> cases decide (J ≤ l4) <;> cases decide (l2 ≤ K) <;> cases decide (K ≤ l5) <;> simp
  have HWS := Lib.hid ways
  clear ways hv hl ln
  generalize topF I = tI at *
  generalize I * 65536 = mI at *
  generalize topF J = tJ at *
  generalize J * 65536 = mJ at *
  generalize topF K = tK at *
  generalize K * 65536 = mK at *
  have Hgo := Lib.hid go
  have Hsm := Lib.hid sm
  have Hs1 := Lib.hid s1
  have Hs2 := Lib.hid s2
  have Hs3 := Lib.hid s3
  have HkI := Lib.hid kI
  have HkJ := Lib.hid kJ
  have HkK := Lib.hid kK
  have Hrb := Lib.hid rb
  have Hov := Lib.hid ov
  clear go sm s1 s2 s3 kI kJ kK rb ov
  go_enter Try.func7, Try.ntmps7
  go_wp2_with fail
  have rb : RowAt (w.alloc (.cells #[.int .i64 x, .int .i64 y, .int .i64 z, .int .i64 (x'), .int .i64 (y'), .int .i64 (z')] 31)) (w.heap.size) #[.int .i64 x, .int .i64 y, .int .i64 z, .int .i64 (x'), .int .i64 (y'), .int .i64 (z')] 31 := RowAt.make _ _ _ (by simp)
  have rb : RowAt ((w.alloc (.cells #[.int .i64 x, .int .i64 y, .int .i64 z, .int .i64 (x'), .int .i64 (y'), .int .i64 (z')] 31)).alloc (.cells #[.int .i64 u, .int .i64 v, .int .i64 t] 28)) (w.heap.size) #[.int .i64 x, .int .i64 y, .int .i64 z, .int .i64 (x'), .int .i64 (y'), .int .i64 (z')] 31 := rb.alloc _
  have rc : RowAt ((w.alloc (.cells #[.int .i64 x, .int .i64 y, .int .i64 z, .int .i64 (x'), .int .i64 (y'), .int .i64 (z')] 31)).alloc (.cells #[.int .i64 u, .int .i64 v, .int .i64 t] 28)) (w.heap.size + 1) #[.int .i64 u, .int .i64 v, .int .i64 t] 28 := RowAt.make _ _ _ (by simp)
  have kw : Below w.heap.size w ((w.alloc (.cells #[.int .i64 x, .int .i64 y, .int .i64 z, .int .i64 (x'), .int .i64 (y'), .int .i64 (z')] 31)).alloc (.cells #[.int .i64 u, .int .i64 v, .int .i64 t] 28)) := by (repeat (first | with_reducible assumption | with_reducible exact Below.refl _ _ | with_reducible refine Below.drew ?_ | with_reducible refine below_drewN ?_ _ | with_reducible refine al ?_ _ | (with_reducible refine sc ?_ ?_; (focus (first | omega | (simp; done) | (simp; omega)))) | (with_reducible refine chain ?_ (by assumption))))
  generalize ((w.alloc (.cells #[.int .i64 x, .int .i64 y, .int .i64 z, .int .i64 (x'), .int .i64 (y'), .int .i64 (z')] 31)).alloc (.cells #[.int .i64 u, .int .i64 v, .int .i64 t] 28)) = W1 at *
  have cb : ∀ j, W1.cell? ⟨w.heap.size, j, none⟩ = (#[.int .i64 x, .int .i64 y, .int .i64 z, .int .i64 (x'), .int .i64 (y'), .int .i64 (z')] : Array Value)[j]? := rb.cell
  have fb : ∀ j, W1.frozen? ⟨w.heap.size, j, none⟩ = false := rb.frozen
  have zb : w.heap.size < W1.heap.size := rb.lt
  have cc : ∀ j, W1.cell? ⟨w.heap.size + 1, j, none⟩ = (#[.int .i64 u, .int .i64 v, .int .i64 t] : Array Value)[j]? := rc.cell
  have fc : ∀ j, W1.frozen? ⟨w.heap.size + 1, j, none⟩ = false := rc.frozen
  have zc : w.heap.size + 1 < W1.heap.size := rc.lt
  (refine (Hgo.out _).mono ?_; rintro e W2 ⟨rfl, hW2⟩)
  clear cb fb zb cc fc zc
  replace rb := rb.keep hW2
  replace rc := rc.keep hW2
  replace kw := kw.trans (hW2.mono kw.size)
  have cb : ∀ j, W2.cell? ⟨w.heap.size, j, none⟩ = (#[.int .i64 x, .int .i64 y, .int .i64 z, .int .i64 (x'), .int .i64 (y'), .int .i64 (z')] : Array Value)[j]? := rb.cell
  have fb : ∀ j, W2.frozen? ⟨w.heap.size, j, none⟩ = false := rb.frozen
  have zb : w.heap.size < W2.heap.size := rb.lt
  have cc : ∀ j, W2.cell? ⟨w.heap.size + 1, j, none⟩ = (#[.int .i64 u, .int .i64 v, .int .i64 t] : Array Value)[j]? := rc.cell
  have fc : ∀ j, W2.frozen? ⟨w.heap.size + 1, j, none⟩ = false := rc.frozen
  have zc : w.heap.size + 1 < W2.heap.size := rc.lt
  clear hW2
  go_wp2_with fail
  have ygb : w.heap.size < W2.heap.size := by omega
  have ygc : w.heap.size + 1 < W2.heap.size := by omega
  replace kw : Below w.heap.size w (W2.alloc (.cells #[.int .i64 A, .int .i64 B, .int .i64 C, .int .i64 D, .int .i64 E, .int .i64 F] 31)) := by (repeat (first | with_reducible assumption | with_reducible exact Below.refl _ _ | with_reducible refine Below.drew ?_ | with_reducible refine below_drewN ?_ _ | with_reducible refine al ?_ _ | (with_reducible refine sc ?_ ?_; (focus (first | omega | (simp; done) | (simp; omega)))) | (with_reducible refine chain ?_ (by assumption))))
  replace rb : RowAt (W2.alloc (.cells #[.int .i64 A, .int .i64 B, .int .i64 C, .int .i64 D, .int .i64 E, .int .i64 F] 31)) (w.heap.size) #[.int .i64 x, .int .i64 y, .int .i64 z, .int .i64 (x'), .int .i64 (y'), .int .i64 (z')] 31 := (rb.alloc _)
  replace rc : RowAt (W2.alloc (.cells #[.int .i64 A, .int .i64 B, .int .i64 C, .int .i64 D, .int .i64 E, .int .i64 F] 31)) (w.heap.size + 1) #[.int .i64 u, .int .i64 v, .int .i64 t] 28 := (rc.alloc _)
  have rg : RowAt (W2.alloc (.cells #[.int .i64 A, .int .i64 B, .int .i64 C, .int .i64 D, .int .i64 E, .int .i64 F] 31)) (W2.heap.size) #[.int .i64 A, .int .i64 B, .int .i64 C, .int .i64 D, .int .i64 E, .int .i64 F] 31 := (RowAt.make _ _ _ (by first | rfl | (simp [World.setCell]; done)))
  clear cb fb zb cc fc zc
  generalize (W2.alloc (.cells #[.int .i64 A, .int .i64 B, .int .i64 C, .int .i64 D, .int .i64 E, .int .i64 F] 31)) = W3 at *
  have cb : ∀ j, W3.cell? ⟨w.heap.size, j, none⟩ = (#[.int .i64 x, .int .i64 y, .int .i64 z, .int .i64 (x'), .int .i64 (y'), .int .i64 (z')] : Array Value)[j]? := rb.cell
  have fb : ∀ j, W3.frozen? ⟨w.heap.size, j, none⟩ = false := rb.frozen
  have zb : w.heap.size < W3.heap.size := rb.lt
  have cc : ∀ j, W3.cell? ⟨w.heap.size + 1, j, none⟩ = (#[.int .i64 u, .int .i64 v, .int .i64 t] : Array Value)[j]? := rc.cell
  have fc : ∀ j, W3.frozen? ⟨w.heap.size + 1, j, none⟩ = false := rc.frozen
  have zc : w.heap.size + 1 < W3.heap.size := rc.lt
  have cg : ∀ j, W3.cell? ⟨W2.heap.size, j, none⟩ = (#[.int .i64 A, .int .i64 B, .int .i64 C, .int .i64 D, .int .i64 E, .int .i64 F] : Array Value)[j]? := rg.cell
  have fg : ∀ j, W3.frozen? ⟨W2.heap.size, j, none⟩ = false := rg.frozen
  have zg : W2.heap.size < W3.heap.size := rg.lt
  (refine (Hs1.out _).mono ?_; rintro e W4 ⟨rfl, hW4⟩)
  clear cb fb zb cc fc zc cg fg zg
  replace rb := rb.keep hW4
  replace rc := rc.keep hW4
  replace rg := rg.keep hW4
  replace kw := kw.trans (hW4.mono kw.size)
  have cb : ∀ j, W4.cell? ⟨w.heap.size, j, none⟩ = (#[.int .i64 x, .int .i64 y, .int .i64 z, .int .i64 (x'), .int .i64 (y'), .int .i64 (z')] : Array Value)[j]? := rb.cell
  have fb : ∀ j, W4.frozen? ⟨w.heap.size, j, none⟩ = false := rb.frozen
  have zb : w.heap.size < W4.heap.size := rb.lt
  have cc : ∀ j, W4.cell? ⟨w.heap.size + 1, j, none⟩ = (#[.int .i64 u, .int .i64 v, .int .i64 t] : Array Value)[j]? := rc.cell
  have fc : ∀ j, W4.frozen? ⟨w.heap.size + 1, j, none⟩ = false := rc.frozen
  have zc : w.heap.size + 1 < W4.heap.size := rc.lt
  have cg : ∀ j, W4.cell? ⟨W2.heap.size, j, none⟩ = (#[.int .i64 A, .int .i64 B, .int .i64 C, .int .i64 D, .int .i64 E, .int .i64 F] : Array Value)[j]? := rg.cell
  have fg : ∀ j, W4.frozen? ⟨W2.heap.size, j, none⟩ = false := rg.frozen
  have zg : W2.heap.size < W4.heap.size := rg.lt
  clear hW4
  go_wp2_with fail
  have ylb : w.heap.size < W4.heap.size := by omega
  have ylc : w.heap.size + 1 < W4.heap.size := by omega
  have ylg : W2.heap.size < W4.heap.size := by omega
  have ymb : w.heap.size < W4.heap.size + 1 := by omega
  have ymc : w.heap.size + 1 < W4.heap.size + 1 := by omega
  have ymg : W2.heap.size < W4.heap.size + 1 := by omega
  have yml : W4.heap.size < W4.heap.size + 1 := by omega
  replace kw : Below w.heap.size w ((W4.alloc (.cells #[.int .i64 p0, .int .i64 p1, .int .i64 p2] 28)).alloc (.cells #[.int .i64 p3, .int .i64 p4, .int .i64 p5] 28)) := by (repeat (first | with_reducible assumption | with_reducible exact Below.refl _ _ | with_reducible refine Below.drew ?_ | with_reducible refine below_drewN ?_ _ | with_reducible refine al ?_ _ | (with_reducible refine sc ?_ ?_; (focus (first | omega | (simp; done) | (simp; omega)))) | (with_reducible refine chain ?_ (by assumption))))
  replace rb : RowAt ((W4.alloc (.cells #[.int .i64 p0, .int .i64 p1, .int .i64 p2] 28)).alloc (.cells #[.int .i64 p3, .int .i64 p4, .int .i64 p5] 28)) (w.heap.size) #[.int .i64 x, .int .i64 y, .int .i64 z, .int .i64 (x'), .int .i64 (y'), .int .i64 (z')] 31 := ((rb.alloc _).alloc _)
  replace rc : RowAt ((W4.alloc (.cells #[.int .i64 p0, .int .i64 p1, .int .i64 p2] 28)).alloc (.cells #[.int .i64 p3, .int .i64 p4, .int .i64 p5] 28)) (w.heap.size + 1) #[.int .i64 u, .int .i64 v, .int .i64 t] 28 := ((rc.alloc _).alloc _)
  replace rg : RowAt ((W4.alloc (.cells #[.int .i64 p0, .int .i64 p1, .int .i64 p2] 28)).alloc (.cells #[.int .i64 p3, .int .i64 p4, .int .i64 p5] 28)) (W2.heap.size) #[.int .i64 A, .int .i64 B, .int .i64 C, .int .i64 D, .int .i64 E, .int .i64 F] 31 := ((rg.alloc _).alloc _)
  have rl : RowAt ((W4.alloc (.cells #[.int .i64 p0, .int .i64 p1, .int .i64 p2] 28)).alloc (.cells #[.int .i64 p3, .int .i64 p4, .int .i64 p5] 28)) (W4.heap.size) #[.int .i64 p0, .int .i64 p1, .int .i64 p2] 28 := ((RowAt.make _ _ _ (by first | rfl | (simp [World.setCell]; done))).alloc _)
  have rm : RowAt ((W4.alloc (.cells #[.int .i64 p0, .int .i64 p1, .int .i64 p2] 28)).alloc (.cells #[.int .i64 p3, .int .i64 p4, .int .i64 p5] 28)) (W4.heap.size + 1) #[.int .i64 p3, .int .i64 p4, .int .i64 p5] 28 := (RowAt.make _ _ _ (by first | rfl | (simp [World.setCell]; done)))
  clear cb fb zb cc fc zc cg fg zg
  generalize ((W4.alloc (.cells #[.int .i64 p0, .int .i64 p1, .int .i64 p2] 28)).alloc (.cells #[.int .i64 p3, .int .i64 p4, .int .i64 p5] 28)) = W5 at *
  have cb : ∀ j, W5.cell? ⟨w.heap.size, j, none⟩ = (#[.int .i64 x, .int .i64 y, .int .i64 z, .int .i64 (x'), .int .i64 (y'), .int .i64 (z')] : Array Value)[j]? := rb.cell
  have fb : ∀ j, W5.frozen? ⟨w.heap.size, j, none⟩ = false := rb.frozen
  have zb : w.heap.size < W5.heap.size := rb.lt
  have cc : ∀ j, W5.cell? ⟨w.heap.size + 1, j, none⟩ = (#[.int .i64 u, .int .i64 v, .int .i64 t] : Array Value)[j]? := rc.cell
  have fc : ∀ j, W5.frozen? ⟨w.heap.size + 1, j, none⟩ = false := rc.frozen
  have zc : w.heap.size + 1 < W5.heap.size := rc.lt
  have cg : ∀ j, W5.cell? ⟨W2.heap.size, j, none⟩ = (#[.int .i64 A, .int .i64 B, .int .i64 C, .int .i64 D, .int .i64 E, .int .i64 F] : Array Value)[j]? := rg.cell
  have fg : ∀ j, W5.frozen? ⟨W2.heap.size, j, none⟩ = false := rg.frozen
  have zg : W2.heap.size < W5.heap.size := rg.lt
  have cl : ∀ j, W5.cell? ⟨W4.heap.size, j, none⟩ = (#[.int .i64 p0, .int .i64 p1, .int .i64 p2] : Array Value)[j]? := rl.cell
  have fl : ∀ j, W5.frozen? ⟨W4.heap.size, j, none⟩ = false := rl.frozen
  have zl : W4.heap.size < W5.heap.size := rl.lt
  have cm : ∀ j, W5.cell? ⟨W4.heap.size + 1, j, none⟩ = (#[.int .i64 p3, .int .i64 p4, .int .i64 p5] : Array Value)[j]? := rm.cell
  have fm : ∀ j, W5.frozen? ⟨W4.heap.size + 1, j, none⟩ = false := rm.frozen
  have zm : W4.heap.size + 1 < W5.heap.size := rm.lt
  (refine (Hs2.out _).mono ?_; rintro e W6 ⟨rfl, hW6⟩)
  clear cb fb zb cc fc zc cg fg zg cl fl zl cm fm zm
  replace rb := rb.keep hW6
  replace rc := rc.keep hW6
  replace rg := rg.keep hW6
  replace rl := rl.keep hW6
  replace rm := rm.keep hW6
  replace kw := kw.trans (hW6.mono kw.size)
  have cb : ∀ j, W6.cell? ⟨w.heap.size, j, none⟩ = (#[.int .i64 x, .int .i64 y, .int .i64 z, .int .i64 (x'), .int .i64 (y'), .int .i64 (z')] : Array Value)[j]? := rb.cell
  have fb : ∀ j, W6.frozen? ⟨w.heap.size, j, none⟩ = false := rb.frozen
  have zb : w.heap.size < W6.heap.size := rb.lt
  have cc : ∀ j, W6.cell? ⟨w.heap.size + 1, j, none⟩ = (#[.int .i64 u, .int .i64 v, .int .i64 t] : Array Value)[j]? := rc.cell
  have fc : ∀ j, W6.frozen? ⟨w.heap.size + 1, j, none⟩ = false := rc.frozen
  have zc : w.heap.size + 1 < W6.heap.size := rc.lt
  have cg : ∀ j, W6.cell? ⟨W2.heap.size, j, none⟩ = (#[.int .i64 A, .int .i64 B, .int .i64 C, .int .i64 D, .int .i64 E, .int .i64 F] : Array Value)[j]? := rg.cell
  have fg : ∀ j, W6.frozen? ⟨W2.heap.size, j, none⟩ = false := rg.frozen
  have zg : W2.heap.size < W6.heap.size := rg.lt
  have cl : ∀ j, W6.cell? ⟨W4.heap.size, j, none⟩ = (#[.int .i64 p0, .int .i64 p1, .int .i64 p2] : Array Value)[j]? := rl.cell
  have fl : ∀ j, W6.frozen? ⟨W4.heap.size, j, none⟩ = false := rl.frozen
  have zl : W4.heap.size < W6.heap.size := rl.lt
  have cm : ∀ j, W6.cell? ⟨W4.heap.size + 1, j, none⟩ = (#[.int .i64 p3, .int .i64 p4, .int .i64 p5] : Array Value)[j]? := rm.cell
  have fm : ∀ j, W6.frozen? ⟨W4.heap.size + 1, j, none⟩ = false := rm.frozen
  have zm : W4.heap.size + 1 < W6.heap.size := rm.lt
  clear hW6
  go_upto_region 4 with (fail)
  have ynb : w.heap.size < W6.heap.size := by omega
  have ync : w.heap.size + 1 < W6.heap.size := by omega
  have yng : W2.heap.size < W6.heap.size := by omega
  have ynl : W4.heap.size < W6.heap.size := by omega
  have ynm : W4.heap.size + 1 < W6.heap.size := by omega
  have yob : w.heap.size < W6.heap.size + 1 := by omega
  have yoc : w.heap.size + 1 < W6.heap.size + 1 := by omega
  have yog : W2.heap.size < W6.heap.size + 1 := by omega
  have yol : W4.heap.size < W6.heap.size + 1 := by omega
  have yom : W4.heap.size + 1 < W6.heap.size + 1 := by omega
  have yon : W6.heap.size < W6.heap.size + 1 := by omega
  replace kw : Below w.heap.size w ((W6.alloc (.cells #[.int .i64 p0, .int .i64 p1, .int .i64 p2] 28)).alloc (.cells #[.int .i64 p3, .int .i64 p4, .int .i64 p5] 28)) := by (repeat (first | with_reducible assumption | with_reducible exact Below.refl _ _ | with_reducible refine Below.drew ?_ | with_reducible refine below_drewN ?_ _ | with_reducible refine al ?_ _ | (with_reducible refine sc ?_ ?_; (focus (first | omega | (simp; done) | (simp; omega)))) | (with_reducible refine chain ?_ (by assumption))))
  replace rb : RowAt ((W6.alloc (.cells #[.int .i64 p0, .int .i64 p1, .int .i64 p2] 28)).alloc (.cells #[.int .i64 p3, .int .i64 p4, .int .i64 p5] 28)) (w.heap.size) #[.int .i64 x, .int .i64 y, .int .i64 z, .int .i64 (x'), .int .i64 (y'), .int .i64 (z')] 31 := ((rb.alloc _).alloc _)
  replace rc : RowAt ((W6.alloc (.cells #[.int .i64 p0, .int .i64 p1, .int .i64 p2] 28)).alloc (.cells #[.int .i64 p3, .int .i64 p4, .int .i64 p5] 28)) (w.heap.size + 1) #[.int .i64 u, .int .i64 v, .int .i64 t] 28 := ((rc.alloc _).alloc _)
  replace rg : RowAt ((W6.alloc (.cells #[.int .i64 p0, .int .i64 p1, .int .i64 p2] 28)).alloc (.cells #[.int .i64 p3, .int .i64 p4, .int .i64 p5] 28)) (W2.heap.size) #[.int .i64 A, .int .i64 B, .int .i64 C, .int .i64 D, .int .i64 E, .int .i64 F] 31 := ((rg.alloc _).alloc _)
  replace rl : RowAt ((W6.alloc (.cells #[.int .i64 p0, .int .i64 p1, .int .i64 p2] 28)).alloc (.cells #[.int .i64 p3, .int .i64 p4, .int .i64 p5] 28)) (W4.heap.size) #[.int .i64 p0, .int .i64 p1, .int .i64 p2] 28 := ((rl.alloc _).alloc _)
  replace rm : RowAt ((W6.alloc (.cells #[.int .i64 p0, .int .i64 p1, .int .i64 p2] 28)).alloc (.cells #[.int .i64 p3, .int .i64 p4, .int .i64 p5] 28)) (W4.heap.size + 1) #[.int .i64 p3, .int .i64 p4, .int .i64 p5] 28 := ((rm.alloc _).alloc _)
  have rn : RowAt ((W6.alloc (.cells #[.int .i64 p0, .int .i64 p1, .int .i64 p2] 28)).alloc (.cells #[.int .i64 p3, .int .i64 p4, .int .i64 p5] 28)) (W6.heap.size) #[.int .i64 p0, .int .i64 p1, .int .i64 p2] 28 := ((RowAt.make _ _ _ (by first | rfl | (simp [World.setCell]; done))).alloc _)
  have ro : RowAt ((W6.alloc (.cells #[.int .i64 p0, .int .i64 p1, .int .i64 p2] 28)).alloc (.cells #[.int .i64 p3, .int .i64 p4, .int .i64 p5] 28)) (W6.heap.size + 1) #[.int .i64 p3, .int .i64 p4, .int .i64 p5] 28 := (RowAt.make _ _ _ (by first | rfl | (simp [World.setCell]; done)))
  clear cb fb zb cc fc zc cg fg zg cl fl zl cm fm zm
  generalize ((W6.alloc (.cells #[.int .i64 p0, .int .i64 p1, .int .i64 p2] 28)).alloc (.cells #[.int .i64 p3, .int .i64 p4, .int .i64 p5] 28)) = W7 at *
  have cb : ∀ j, W7.cell? ⟨w.heap.size, j, none⟩ = (#[.int .i64 x, .int .i64 y, .int .i64 z, .int .i64 (x'), .int .i64 (y'), .int .i64 (z')] : Array Value)[j]? := rb.cell
  have fb : ∀ j, W7.frozen? ⟨w.heap.size, j, none⟩ = false := rb.frozen
  have zb : w.heap.size < W7.heap.size := rb.lt
  have cc : ∀ j, W7.cell? ⟨w.heap.size + 1, j, none⟩ = (#[.int .i64 u, .int .i64 v, .int .i64 t] : Array Value)[j]? := rc.cell
  have fc : ∀ j, W7.frozen? ⟨w.heap.size + 1, j, none⟩ = false := rc.frozen
  have zc : w.heap.size + 1 < W7.heap.size := rc.lt
  have cg : ∀ j, W7.cell? ⟨W2.heap.size, j, none⟩ = (#[.int .i64 A, .int .i64 B, .int .i64 C, .int .i64 D, .int .i64 E, .int .i64 F] : Array Value)[j]? := rg.cell
  have fg : ∀ j, W7.frozen? ⟨W2.heap.size, j, none⟩ = false := rg.frozen
  have zg : W2.heap.size < W7.heap.size := rg.lt
  have cl : ∀ j, W7.cell? ⟨W4.heap.size, j, none⟩ = (#[.int .i64 p0, .int .i64 p1, .int .i64 p2] : Array Value)[j]? := rl.cell
  have fl : ∀ j, W7.frozen? ⟨W4.heap.size, j, none⟩ = false := rl.frozen
  have zl : W4.heap.size < W7.heap.size := rl.lt
  have cm : ∀ j, W7.cell? ⟨W4.heap.size + 1, j, none⟩ = (#[.int .i64 p3, .int .i64 p4, .int .i64 p5] : Array Value)[j]? := rm.cell
  have fm : ∀ j, W7.frozen? ⟨W4.heap.size + 1, j, none⟩ = false := rm.frozen
  have zm : W4.heap.size + 1 < W7.heap.size := rm.lt
  have cn : ∀ j, W7.cell? ⟨W6.heap.size, j, none⟩ = (#[.int .i64 p0, .int .i64 p1, .int .i64 p2] : Array Value)[j]? := rn.cell
  have fn : ∀ j, W7.frozen? ⟨W6.heap.size, j, none⟩ = false := rn.frozen
  have zn : W6.heap.size < W7.heap.size := rn.lt
  have co : ∀ j, W7.cell? ⟨W6.heap.size + 1, j, none⟩ = (#[.int .i64 p3, .int .i64 p4, .int .i64 p5] : Array Value)[j]? := ro.cell
  have fo : ∀ j, W7.frozen? ⟨W6.heap.size + 1, j, none⟩ = false := ro.frozen
  have zo : W6.heap.size + 1 < W7.heap.size := ro.lt
  go_wp2_with fail
  clear rg cg fg zg
  clear rl cl fl zl
  clear rm cm fm zm
  clear rn cn fn zn
  clear ro co fo zo
  (refine (Hsm.out _).mono ?_; rintro e W8 ⟨rfl, hW8⟩)
  clear cb fb zb cc fc zc
  replace rb := rb.keep hW8
  replace rc := rc.keep hW8
  replace kw := kw.trans (hW8.mono kw.size)
  have cb : ∀ j, W8.cell? ⟨w.heap.size, j, none⟩ = (#[.int .i64 x, .int .i64 y, .int .i64 z, .int .i64 (x'), .int .i64 (y'), .int .i64 (z')] : Array Value)[j]? := rb.cell
  have fb : ∀ j, W8.frozen? ⟨w.heap.size, j, none⟩ = false := rb.frozen
  have zb : w.heap.size < W8.heap.size := rb.lt
  have cc : ∀ j, W8.cell? ⟨w.heap.size + 1, j, none⟩ = (#[.int .i64 u, .int .i64 v, .int .i64 t] : Array Value)[j]? := rc.cell
  have fc : ∀ j, W8.frozen? ⟨w.heap.size + 1, j, none⟩ = false := rc.frozen
  have zc : w.heap.size + 1 < W8.heap.size := rc.lt
  clear hW8
  go_wp2_with fail
  have ysb : w.heap.size < W8.heap.size := by omega
  have ysc : w.heap.size + 1 < W8.heap.size := by omega
  replace kw : Below w.heap.size w (W8.alloc (.cells #[.int .i64 N, .int .i64 O, .int .i64 P, .int .i64 Q, .int .i64 R, .int .i64 S] 31)) := by (repeat (first | with_reducible assumption | with_reducible exact Below.refl _ _ | with_reducible refine Below.drew ?_ | with_reducible refine below_drewN ?_ _ | with_reducible refine al ?_ _ | (with_reducible refine sc ?_ ?_; (focus (first | omega | (simp; done) | (simp; omega)))) | (with_reducible refine chain ?_ (by assumption))))
  replace rb : RowAt (W8.alloc (.cells #[.int .i64 N, .int .i64 O, .int .i64 P, .int .i64 Q, .int .i64 R, .int .i64 S] 31)) (w.heap.size) #[.int .i64 x, .int .i64 y, .int .i64 z, .int .i64 (x'), .int .i64 (y'), .int .i64 (z')] 31 := (rb.alloc _)
  replace rc : RowAt (W8.alloc (.cells #[.int .i64 N, .int .i64 O, .int .i64 P, .int .i64 Q, .int .i64 R, .int .i64 S] 31)) (w.heap.size + 1) #[.int .i64 u, .int .i64 v, .int .i64 t] 28 := (rc.alloc _)
  have rs : RowAt (W8.alloc (.cells #[.int .i64 N, .int .i64 O, .int .i64 P, .int .i64 Q, .int .i64 R, .int .i64 S] 31)) (W8.heap.size) #[.int .i64 N, .int .i64 O, .int .i64 P, .int .i64 Q, .int .i64 R, .int .i64 S] 31 := (RowAt.make _ _ _ (by first | rfl | (simp [World.setCell]; done)))
  clear cb fb zb cc fc zc
  generalize (W8.alloc (.cells #[.int .i64 N, .int .i64 O, .int .i64 P, .int .i64 Q, .int .i64 R, .int .i64 S] 31)) = W9 at *
  have cb : ∀ j, W9.cell? ⟨w.heap.size, j, none⟩ = (#[.int .i64 x, .int .i64 y, .int .i64 z, .int .i64 (x'), .int .i64 (y'), .int .i64 (z')] : Array Value)[j]? := rb.cell
  have fb : ∀ j, W9.frozen? ⟨w.heap.size, j, none⟩ = false := rb.frozen
  have zb : w.heap.size < W9.heap.size := rb.lt
  have cc : ∀ j, W9.cell? ⟨w.heap.size + 1, j, none⟩ = (#[.int .i64 u, .int .i64 v, .int .i64 t] : Array Value)[j]? := rc.cell
  have fc : ∀ j, W9.frozen? ⟨w.heap.size + 1, j, none⟩ = false := rc.frozen
  have zc : w.heap.size + 1 < W9.heap.size := rc.lt
  have cs : ∀ j, W9.cell? ⟨W8.heap.size, j, none⟩ = (#[.int .i64 N, .int .i64 O, .int .i64 P, .int .i64 Q, .int .i64 R, .int .i64 S] : Array Value)[j]? := rs.cell
  have fs : ∀ j, W9.frozen? ⟨W8.heap.size, j, none⟩ = false := rs.frozen
  have zs : W8.heap.size < W9.heap.size := rs.lt
  (refine (Hs3.out _).mono ?_; rintro e W10 ⟨rfl, hW10⟩)
  clear cb fb zb cc fc zc cs fs zs
  replace rb := rb.keep hW10
  replace rc := rc.keep hW10
  replace rs := rs.keep hW10
  replace kw := kw.trans (hW10.mono kw.size)
  have cb : ∀ j, W10.cell? ⟨w.heap.size, j, none⟩ = (#[.int .i64 x, .int .i64 y, .int .i64 z, .int .i64 (x'), .int .i64 (y'), .int .i64 (z')] : Array Value)[j]? := rb.cell
  have fb : ∀ j, W10.frozen? ⟨w.heap.size, j, none⟩ = false := rb.frozen
  have zb : w.heap.size < W10.heap.size := rb.lt
  have cc : ∀ j, W10.cell? ⟨w.heap.size + 1, j, none⟩ = (#[.int .i64 u, .int .i64 v, .int .i64 t] : Array Value)[j]? := rc.cell
  have fc : ∀ j, W10.frozen? ⟨w.heap.size + 1, j, none⟩ = false := rc.frozen
  have zc : w.heap.size + 1 < W10.heap.size := rc.lt
  have cs : ∀ j, W10.cell? ⟨W8.heap.size, j, none⟩ = (#[.int .i64 N, .int .i64 O, .int .i64 P, .int .i64 Q, .int .i64 R, .int .i64 S] : Array Value)[j]? := rs.cell
  have fs : ∀ j, W10.frozen? ⟨W8.heap.size, j, none⟩ = false := rs.frozen
  have zs : W8.heap.size < W10.heap.size := rs.lt
  clear hW10
  go_wp2_with fail
  have yeb : w.heap.size < W10.heap.size := by omega
  have yec : w.heap.size + 1 < W10.heap.size := by omega
  have yes : W8.heap.size < W10.heap.size := by omega
  have yfb : w.heap.size < W10.heap.size + 1 := by omega
  have yfc : w.heap.size + 1 < W10.heap.size + 1 := by omega
  have yfs : W8.heap.size < W10.heap.size + 1 := by omega
  have yfe : W10.heap.size < W10.heap.size + 1 := by omega
  replace kw : Below w.heap.size w ((W10.alloc (.cells #[.int .i64 l0, .int .i64 l1, .int .i64 l2] 28)).alloc (.cells #[.int .i64 l3, .int .i64 l4, .int .i64 l5] 28)) := by (repeat (first | with_reducible assumption | with_reducible exact Below.refl _ _ | with_reducible refine Below.drew ?_ | with_reducible refine below_drewN ?_ _ | with_reducible refine al ?_ _ | (with_reducible refine sc ?_ ?_; (focus (first | omega | (simp; done) | (simp; omega)))) | (with_reducible refine chain ?_ (by assumption))))
  replace rb : RowAt ((W10.alloc (.cells #[.int .i64 l0, .int .i64 l1, .int .i64 l2] 28)).alloc (.cells #[.int .i64 l3, .int .i64 l4, .int .i64 l5] 28)) (w.heap.size) #[.int .i64 x, .int .i64 y, .int .i64 z, .int .i64 (x'), .int .i64 (y'), .int .i64 (z')] 31 := ((rb.alloc _).alloc _)
  replace rc : RowAt ((W10.alloc (.cells #[.int .i64 l0, .int .i64 l1, .int .i64 l2] 28)).alloc (.cells #[.int .i64 l3, .int .i64 l4, .int .i64 l5] 28)) (w.heap.size + 1) #[.int .i64 u, .int .i64 v, .int .i64 t] 28 := ((rc.alloc _).alloc _)
  replace rs : RowAt ((W10.alloc (.cells #[.int .i64 l0, .int .i64 l1, .int .i64 l2] 28)).alloc (.cells #[.int .i64 l3, .int .i64 l4, .int .i64 l5] 28)) (W8.heap.size) #[.int .i64 N, .int .i64 O, .int .i64 P, .int .i64 Q, .int .i64 R, .int .i64 S] 31 := ((rs.alloc _).alloc _)
  have re : RowAt ((W10.alloc (.cells #[.int .i64 l0, .int .i64 l1, .int .i64 l2] 28)).alloc (.cells #[.int .i64 l3, .int .i64 l4, .int .i64 l5] 28)) (W10.heap.size) #[.int .i64 l0, .int .i64 l1, .int .i64 l2] 28 := ((RowAt.make _ _ _ (by first | rfl | (simp [World.setCell]; done))).alloc _)
  have rf : RowAt ((W10.alloc (.cells #[.int .i64 l0, .int .i64 l1, .int .i64 l2] 28)).alloc (.cells #[.int .i64 l3, .int .i64 l4, .int .i64 l5] 28)) (W10.heap.size + 1) #[.int .i64 l3, .int .i64 l4, .int .i64 l5] 28 := (RowAt.make _ _ _ (by first | rfl | (simp [World.setCell]; done)))
  clear cb fb zb cc fc zc cs fs zs
  generalize ((W10.alloc (.cells #[.int .i64 l0, .int .i64 l1, .int .i64 l2] 28)).alloc (.cells #[.int .i64 l3, .int .i64 l4, .int .i64 l5] 28)) = W11 at *
  have cb : ∀ j, W11.cell? ⟨w.heap.size, j, none⟩ = (#[.int .i64 x, .int .i64 y, .int .i64 z, .int .i64 (x'), .int .i64 (y'), .int .i64 (z')] : Array Value)[j]? := rb.cell
  have fb : ∀ j, W11.frozen? ⟨w.heap.size, j, none⟩ = false := rb.frozen
  have zb : w.heap.size < W11.heap.size := rb.lt
  have cc : ∀ j, W11.cell? ⟨w.heap.size + 1, j, none⟩ = (#[.int .i64 u, .int .i64 v, .int .i64 t] : Array Value)[j]? := rc.cell
  have fc : ∀ j, W11.frozen? ⟨w.heap.size + 1, j, none⟩ = false := rc.frozen
  have zc : w.heap.size + 1 < W11.heap.size := rc.lt
  have cs : ∀ j, W11.cell? ⟨W8.heap.size, j, none⟩ = (#[.int .i64 N, .int .i64 O, .int .i64 P, .int .i64 Q, .int .i64 R, .int .i64 S] : Array Value)[j]? := rs.cell
  have fs : ∀ j, W11.frozen? ⟨W8.heap.size, j, none⟩ = false := rs.frozen
  have zs : W8.heap.size < W11.heap.size := rs.lt
  have ce : ∀ j, W11.cell? ⟨W10.heap.size, j, none⟩ = (#[.int .i64 l0, .int .i64 l1, .int .i64 l2] : Array Value)[j]? := re.cell
  have fe : ∀ j, W11.frozen? ⟨W10.heap.size, j, none⟩ = false := re.frozen
  have ze : W10.heap.size < W11.heap.size := re.lt
  have cf : ∀ j, W11.cell? ⟨W10.heap.size + 1, j, none⟩ = (#[.int .i64 l3, .int .i64 l4, .int .i64 l5] : Array Value)[j]? := rf.cell
  have ff : ∀ j, W11.frozen? ⟨W10.heap.size + 1, j, none⟩ = false := rf.frozen
  have zf : W10.heap.size + 1 < W11.heap.size := rf.lt
  refine region_alloc 13 16 (.cells #[.int .i64 0, .int .i64 0, .int .i64 0] 28) _ _ (by kernel_rfl) (by kernel_rfl) rfl (fun _ _ => by go_simp) ?_
  simp only [List.take_succ_cons, List.take_zero]
  repeat (first | (refine' InText.skip (by rfl) ?_; simp only [Act.put, List.setIfInBounds_toArray, List.set_cons_zero, List.set_cons_succ]) | (refine' InText.val (by rfl) (fun wr hr => ?_) ?_; rotate_left 1; (focus (obtain ⟨hrc, hrf⟩ := bcell hr; (go_simp <;> with_reducible rfl); done)); simp only [Act.put, List.setIfInBounds_toArray, List.set_cons_zero, List.set_cons_succ]) | (refine' InText.call (by rfl) (fun wr hr => ?_) (fun wr hr => ?_) ?_; rotate_left 3; (focus ((go_simp <;> (first | with_reducible rfl | exact ⟨rfl, rfl⟩)); done)); (focus (first | with_reducible exact pureB (HkI.out _) | with_reducible exact pureB (HkJ.out _) | with_reducible exact pureB (HkK.out _))); simp only [Act.put, List.setIfInBounds_toArray, List.set_cons_zero, List.set_cons_succ]))
  refine fun wv1 wr1 hv1 hr1 => ?_
  simp only [Act.put, List.setIfInBounds_toArray, List.set_cons_zero, List.set_cons_succ]
  have ydb : w.heap.size < wv1.heap.size := (rb.keep hv1).lt
  have ydc : w.heap.size + 1 < wv1.heap.size := (rc.keep hv1).lt
  have yds : W8.heap.size < wv1.heap.size := (rs.keep hv1).lt
  have yde : W10.heap.size < wv1.heap.size := (re.keep hv1).lt
  have ydf : W10.heap.size + 1 < wv1.heap.size := (rf.keep hv1).lt
  clear cb fb zb cc fc zc cs fs zs ce fe ze cf ff zf
  replace rb := ((rb.keep hv1).alloc _).keep hr1
  replace rc := ((rc.keep hv1).alloc _).keep hr1
  replace rs := ((rs.keep hv1).alloc _).keep hr1
  replace re := ((re.keep hv1).alloc _).keep hr1
  replace rf := ((rf.keep hv1).alloc _).keep hr1
  have rd : RowAt wr1 (wv1.heap.size) #[.int .i64 0, .int .i64 0, .int .i64 0] 28 := (RowAt.new wv1 _ _).keep hr1
  replace kw : Below w.heap.size w wr1 := kw.trans ((chain (al hv1 _) hr1).mono kw.size)
  clear hv1 hr1
  have cb : ∀ j, wr1.cell? ⟨w.heap.size, j, none⟩ = (#[.int .i64 x, .int .i64 y, .int .i64 z, .int .i64 (x'), .int .i64 (y'), .int .i64 (z')] : Array Value)[j]? := rb.cell
  have fb : ∀ j, wr1.frozen? ⟨w.heap.size, j, none⟩ = false := rb.frozen
  have zb : w.heap.size < wr1.heap.size := rb.lt
  have cc : ∀ j, wr1.cell? ⟨w.heap.size + 1, j, none⟩ = (#[.int .i64 u, .int .i64 v, .int .i64 t] : Array Value)[j]? := rc.cell
  have fc : ∀ j, wr1.frozen? ⟨w.heap.size + 1, j, none⟩ = false := rc.frozen
  have zc : w.heap.size + 1 < wr1.heap.size := rc.lt
  have cs : ∀ j, wr1.cell? ⟨W8.heap.size, j, none⟩ = (#[.int .i64 N, .int .i64 O, .int .i64 P, .int .i64 Q, .int .i64 R, .int .i64 S] : Array Value)[j]? := rs.cell
  have fs : ∀ j, wr1.frozen? ⟨W8.heap.size, j, none⟩ = false := rs.frozen
  have zs : W8.heap.size < wr1.heap.size := rs.lt
  have ce : ∀ j, wr1.cell? ⟨W10.heap.size, j, none⟩ = (#[.int .i64 l0, .int .i64 l1, .int .i64 l2] : Array Value)[j]? := re.cell
  have fe : ∀ j, wr1.frozen? ⟨W10.heap.size, j, none⟩ = false := re.frozen
  have ze : W10.heap.size < wr1.heap.size := re.lt
  have cf : ∀ j, wr1.cell? ⟨W10.heap.size + 1, j, none⟩ = (#[.int .i64 l3, .int .i64 l4, .int .i64 l5] : Array Value)[j]? := rf.cell
  have ff : ∀ j, wr1.frozen? ⟨W10.heap.size + 1, j, none⟩ = false := rf.frozen
  have zf : W10.heap.size + 1 < wr1.heap.size := rf.lt
  have cd : ∀ j, wr1.cell? ⟨wv1.heap.size, j, none⟩ = (#[.int .i64 0, .int .i64 0, .int .i64 0] : Array Value)[j]? := rd.cell
  have fd : ∀ j, wr1.frozen? ⟨wv1.heap.size, j, none⟩ = false := rd.frozen
  have zd : wv1.heap.size < wr1.heap.size := rd.lt
  go_upto_region 9 with (fail)
  replace kw : Below w.heap.size w (((wr1.setCell ⟨wv1.heap.size, 0, none⟩ (.int .i64 I)).setCell ⟨wv1.heap.size, 1, none⟩ (.int .i64 J)).setCell ⟨wv1.heap.size, 2, none⟩ (.int .i64 K)) := by (repeat (first | with_reducible assumption | with_reducible exact Below.refl _ _ | with_reducible refine Below.drew ?_ | with_reducible refine below_drewN ?_ _ | with_reducible refine al ?_ _ | (with_reducible refine sc ?_ ?_; (focus (first | omega | (simp; done) | (simp; omega)))) | (with_reducible refine chain ?_ (by assumption))))
  replace rb : RowAt (((wr1.setCell ⟨wv1.heap.size, 0, none⟩ (.int .i64 I)).setCell ⟨wv1.heap.size, 1, none⟩ (.int .i64 J)).setCell ⟨wv1.heap.size, 2, none⟩ (.int .i64 K)) (w.heap.size) #[.int .i64 x, .int .i64 y, .int .i64 z, .int .i64 (x'), .int .i64 (y'), .int .i64 (z')] 31 := (((rb.other (p := ⟨wv1.heap.size, 0, none⟩) (by first | omega | (simp; done) | (simp; omega)) (.int .i64 I)).other (p := ⟨wv1.heap.size, 1, none⟩) (by first | omega | (simp; done) | (simp; omega)) (.int .i64 J)).other (p := ⟨wv1.heap.size, 2, none⟩) (by first | omega | (simp; done) | (simp; omega)) (.int .i64 K))
  replace rc : RowAt (((wr1.setCell ⟨wv1.heap.size, 0, none⟩ (.int .i64 I)).setCell ⟨wv1.heap.size, 1, none⟩ (.int .i64 J)).setCell ⟨wv1.heap.size, 2, none⟩ (.int .i64 K)) (w.heap.size + 1) #[.int .i64 u, .int .i64 v, .int .i64 t] 28 := (((rc.other (p := ⟨wv1.heap.size, 0, none⟩) (by first | omega | (simp; done) | (simp; omega)) (.int .i64 I)).other (p := ⟨wv1.heap.size, 1, none⟩) (by first | omega | (simp; done) | (simp; omega)) (.int .i64 J)).other (p := ⟨wv1.heap.size, 2, none⟩) (by first | omega | (simp; done) | (simp; omega)) (.int .i64 K))
  replace rs : RowAt (((wr1.setCell ⟨wv1.heap.size, 0, none⟩ (.int .i64 I)).setCell ⟨wv1.heap.size, 1, none⟩ (.int .i64 J)).setCell ⟨wv1.heap.size, 2, none⟩ (.int .i64 K)) (W8.heap.size) #[.int .i64 N, .int .i64 O, .int .i64 P, .int .i64 Q, .int .i64 R, .int .i64 S] 31 := (((rs.other (p := ⟨wv1.heap.size, 0, none⟩) (by first | omega | (simp; done) | (simp; omega)) (.int .i64 I)).other (p := ⟨wv1.heap.size, 1, none⟩) (by first | omega | (simp; done) | (simp; omega)) (.int .i64 J)).other (p := ⟨wv1.heap.size, 2, none⟩) (by first | omega | (simp; done) | (simp; omega)) (.int .i64 K))
  replace re : RowAt (((wr1.setCell ⟨wv1.heap.size, 0, none⟩ (.int .i64 I)).setCell ⟨wv1.heap.size, 1, none⟩ (.int .i64 J)).setCell ⟨wv1.heap.size, 2, none⟩ (.int .i64 K)) (W10.heap.size) #[.int .i64 l0, .int .i64 l1, .int .i64 l2] 28 := (((re.other (p := ⟨wv1.heap.size, 0, none⟩) (by first | omega | (simp; done) | (simp; omega)) (.int .i64 I)).other (p := ⟨wv1.heap.size, 1, none⟩) (by first | omega | (simp; done) | (simp; omega)) (.int .i64 J)).other (p := ⟨wv1.heap.size, 2, none⟩) (by first | omega | (simp; done) | (simp; omega)) (.int .i64 K))
  replace rf : RowAt (((wr1.setCell ⟨wv1.heap.size, 0, none⟩ (.int .i64 I)).setCell ⟨wv1.heap.size, 1, none⟩ (.int .i64 J)).setCell ⟨wv1.heap.size, 2, none⟩ (.int .i64 K)) (W10.heap.size + 1) #[.int .i64 l3, .int .i64 l4, .int .i64 l5] 28 := (((rf.other (p := ⟨wv1.heap.size, 0, none⟩) (by first | omega | (simp; done) | (simp; omega)) (.int .i64 I)).other (p := ⟨wv1.heap.size, 1, none⟩) (by first | omega | (simp; done) | (simp; omega)) (.int .i64 J)).other (p := ⟨wv1.heap.size, 2, none⟩) (by first | omega | (simp; done) | (simp; omega)) (.int .i64 K))
  replace rd : RowAt (((wr1.setCell ⟨wv1.heap.size, 0, none⟩ (.int .i64 I)).setCell ⟨wv1.heap.size, 1, none⟩ (.int .i64 J)).setCell ⟨wv1.heap.size, 2, none⟩ (.int .i64 K)) (wv1.heap.size) #[.int .i64 I, .int .i64 J, .int .i64 K] 28 := (((rd.set 0 (.int .i64 I)).set 1 (.int .i64 J)).set 2 (.int .i64 K))
  clear cb fb zb cc fc zc cs fs zs ce fe ze cf ff zf cd fd zd
  generalize (((wr1.setCell ⟨wv1.heap.size, 0, none⟩ (.int .i64 I)).setCell ⟨wv1.heap.size, 1, none⟩ (.int .i64 J)).setCell ⟨wv1.heap.size, 2, none⟩ (.int .i64 K)) = W12 at *
  have cb : ∀ j, W12.cell? ⟨w.heap.size, j, none⟩ = (#[.int .i64 x, .int .i64 y, .int .i64 z, .int .i64 (x'), .int .i64 (y'), .int .i64 (z')] : Array Value)[j]? := rb.cell
  have fb : ∀ j, W12.frozen? ⟨w.heap.size, j, none⟩ = false := rb.frozen
  have zb : w.heap.size < W12.heap.size := rb.lt
  have cc : ∀ j, W12.cell? ⟨w.heap.size + 1, j, none⟩ = (#[.int .i64 u, .int .i64 v, .int .i64 t] : Array Value)[j]? := rc.cell
  have fc : ∀ j, W12.frozen? ⟨w.heap.size + 1, j, none⟩ = false := rc.frozen
  have zc : w.heap.size + 1 < W12.heap.size := rc.lt
  have cs : ∀ j, W12.cell? ⟨W8.heap.size, j, none⟩ = (#[.int .i64 N, .int .i64 O, .int .i64 P, .int .i64 Q, .int .i64 R, .int .i64 S] : Array Value)[j]? := rs.cell
  have fs : ∀ j, W12.frozen? ⟨W8.heap.size, j, none⟩ = false := rs.frozen
  have zs : W8.heap.size < W12.heap.size := rs.lt
  have ce : ∀ j, W12.cell? ⟨W10.heap.size, j, none⟩ = (#[.int .i64 l0, .int .i64 l1, .int .i64 l2] : Array Value)[j]? := re.cell
  have fe : ∀ j, W12.frozen? ⟨W10.heap.size, j, none⟩ = false := re.frozen
  have ze : W10.heap.size < W12.heap.size := re.lt
  have cf : ∀ j, W12.cell? ⟨W10.heap.size + 1, j, none⟩ = (#[.int .i64 l3, .int .i64 l4, .int .i64 l5] : Array Value)[j]? := rf.cell
  have ff : ∀ j, W12.frozen? ⟨W10.heap.size + 1, j, none⟩ = false := rf.frozen
  have zf : W10.heap.size + 1 < W12.heap.size := rf.lt
  have cd : ∀ j, W12.cell? ⟨wv1.heap.size, j, none⟩ = (#[.int .i64 I, .int .i64 J, .int .i64 K] : Array Value)[j]? := rd.cell
  have fd : ∀ j, W12.frozen? ⟨wv1.heap.size, j, none⟩ = false := rd.frozen
  have zd : wv1.heap.size < W12.heap.size := rd.lt
  rcases HWS.out with ⟨rfl, rfl⟩ | ⟨rfl, d0, rfl⟩ | ⟨rfl, d0, d1, rfl⟩ | ⟨rfl, d0, d1, d2, rfl⟩ | ⟨rfl, d0, d1, d2, d3, rfl⟩ | ⟨rfl, d0, d1, d2, d3, d4, rfl⟩ | ⟨rfl, d0, d1, d2, d3, d4, d5, rfl⟩ | ⟨rfl, d0, d1, d2, d3, d4, d5, rfl⟩
  all_goals
    go_wp2_with fail
    refine region_below 9 (by kernel_rfl) (by kernel_rfl) ?_
    simp only [List.take_succ_cons, List.take_zero, List.drop_succ_cons, List.drop_zero]
    repeat (first | (refine' InText.skip (by rfl) ?_; simp only [Act.put, List.setIfInBounds_toArray, List.set_cons_zero, List.set_cons_succ]) | (refine' InText.val (by rfl) (fun wr hr => ?_) ?_; rotate_left 1; (focus (obtain ⟨hrc, hrf⟩ := bcell hr; (go_simp <;> with_reducible rfl); done)); simp only [Act.put, List.setIfInBounds_toArray, List.set_cons_zero, List.set_cons_succ]) | (refine' InText.call (by rfl) (fun wr hr => ?_) (fun wr hr => ?_) ?_; rotate_left 3; (focus ((go_simp <;> (first | with_reducible rfl | exact ⟨rfl, rfl⟩)); done)); (focus (first | with_reducible exact Hrb.out _ | with_reducible exact Hov.out _ | with_reducible exact l3_lives _)); simp only [Act.put, List.setIfInBounds_toArray, List.set_cons_zero, List.set_cons_succ]))
    refine fun wr hr => ?_
    obtain ⟨hrc, hrf⟩ := bcell hr
    go_wp2
    go_ret
    exact ⟨rfl, by (repeat (first | with_reducible assumption | with_reducible exact Below.refl _ _ | with_reducible refine Below.drew ?_ | with_reducible refine below_drewN ?_ _ | with_reducible refine al ?_ _ | (with_reducible refine sc ?_ ?_; (focus (first | omega | (simp; done) | (simp; omega)))) | (with_reducible refine chain ?_ (by assumption))))⟩
theorem own : ownKnob Try.prog.godebug = none := by kernel_rfl
set_option maxRecDepth 100000 in
theorem lifted (os : Os) (started : os.Started) (H : Type) (enc : TypeId × Value → H) :
    ReturnsInHanded {} Try.checked os 7 .any (Rows.cellSpansSpec.pre6 enc Try.prog Try.f7 Rows.cellSpansRow.domain false) (Rows.cellSpansSpec.post enc Try.prog Try.f7 false true false false) := by
  refine returnsInHanded_of_change (C := Try.checked) own started (by kernel_rfl) Try.func7
    (ChangeSpec.witness6 (enc := enc) (C := Try.checked) false ⟨#[], #[.agg #[.int .i64 0, .int .i64 0, .int .i64 0, .int .i64 0, .int .i64 0, .int .i64 0], .agg #[.int .i64 0, .int .i64 0, .int .i64 0]], []⟩ 8 (by kernel_rfl) (by kernel_rfl) (by kernel_rfl) (by kernel_rfl)) ?_
  intro W base args ds gs before hval0 hW hcnd _
  have hval : ∀ (j : Nat) t v, Try.f7.params[j]? = some t → args[j]? = some v → Value.okWide Try.prog W .any base t v := hval0
  have hW' := hW
  obtain ⟨p, q, hA0, hV, rfl, hfz, hnd⟩ := hW
  have hA : DataW.TrodAll enc Try.prog W 0 (fun _ => true) true Try.f7.params.toList args.toList ds p := hA0
  rw [Try.params7] at hA hval
  obtain ⟨v0, vs0, d0, ds0, p0, q0, hargs, rfl, rfl, h0, r0⟩ := trodAll_cons hA
  obtain ⟨v1, vs1, d1, ds1, p1, q1, rfl, rfl, rfl, h1, r1⟩ := trodAll_cons r0
  obtain ⟨rfl, rfl, rfl⟩ := trodAll_nil r1
  obtain rfl : args = #[v0, v1] := by cases args; simp_all
  obtain ⟨rfl, rfl⟩ := trodVars_none hV
  simp only [List.append_nil] at hW'
  have hlt : ∀ x ∈ p0 ++ (p1 ++ ([])), x.block < W.heap.size := fun x hx => hW'.lt x (by simpa using hx)
  have hlt0 : ∀ x ∈ p0, x.block < W.heap.size := fun x hx => hlt x (List.mem_append.2 (.inl hx))
  have hlt1 : ∀ x ∈ p1, x.block < W.heap.size := fun x hx => hlt x (List.mem_append.2 (.inr (List.mem_append.2 (.inl hx))))
  have k0 := h0
  have k1 := h1
  obtain ⟨a0, rfl, w0⟩ := open_box (hval 0 31 v0 rfl rfl) h0
  obtain ⟨a1, rfl, w1⟩ := open_cell (hval 1 28 v1 rfl rfl) h1
  clear hA0 hval0
  refine (walk a0 w0 a1 w1 W).mono fun e W' ⟨he, hg⟩ => ?_
  subst he
  exact ⟨_, rfl, _, _, _, [], _, [], hW', (trodAll_cons_mk (shut_bool Try.underlying4 _) trodAll_mk0), (trodAll_cons_mk (Below.trod laidOut (by kernel_rfl) (of_decide_eq_true (by kernel_rfl)) k0 hg hlt0) (trodAll_cons_mk (Below.trod laidOut (by kernel_rfl) (of_decide_eq_true (by kernel_rfl)) k1 hg hlt1) trodAll_mk0)), rfl, hg.frame _, fun h => by cases h⟩
theorem over : Rows.cellSpansRow.holds Try.pinned (OpenSpec.ofChange Rows.cellSpansSpec) :=
  OpenClaim.holds_of_wide 7 Try.f7 rfl rfl rfl rfl rfl rfl rfl ⟨rfl, rfl, rfl, rfl, rfl⟩ rfl rfl rfl rfl rfl (by kernel_rfl) Try.func7 (by kernel_rfl)
    (of_decide_eq_true (by kernel_rfl)) (by unfold Func.isWrapper; first | (rw [if_pos (by decide +kernel)]; kernel_rfl) | (rw [if_neg (by decide +kernel)]; exact ⟨rfl, rfl⟩))
    (fun os started H enc _ => lifted os started H enc)
theorem proved : Rows.CellSpansSaid := over
#print axioms proved
end Go.Proofs.Ytenpcmhfbbfpeaa.cellSpans
