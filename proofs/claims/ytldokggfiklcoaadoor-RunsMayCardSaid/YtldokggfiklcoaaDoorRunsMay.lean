/- For any runs, any number of cells, any place and any run the law RunsMay of layer 5 answers true: which runs may be is told as the document says. Conditions: none: every input. -/
import Derived.Test.YtldokggfiklcoaaDoorRows
import Derived.Test.YtldokggfiklcoaaDoorO02
import Derived.Test.YtldokggfiklcoaaDoorO50
import Derived.Test.YtldokggfiklcoaaDoorL05
import Derived.Test.YtldokggfiklcoaaDoorVRS
import Derived.Test.YtldokggfiklcoaaDoorCards
import Derived.Test.YtldokggfiklcoaaDoorTie
import Derived.WalkKit
import Derived.ProofKit
import Derived.OpenShut
import Derived.Below
import Derived.Carry
import Derived.Deep.DeepHandedRow
import Derived.LaidMore
namespace Go.Proofs.YtldokggfiklcoaaDoor.runsMay
open Go.Proofs.YtldokggfiklcoaaDoor Go.ChangeShapes Go.WideShapes Go.ChangeAt Go.RowKit
set_option linter.unusedVariables false
set_option linter.unusedSimpArgs false
attribute [local go_sem ↓] Go.wp_at_zero Go.wp_at_succ
set_option maxHeartbeats 16000000 in
theorem walk (a0 : Value) (a1 : Int) (w1 : -9223372036854775808 ≤ a1 ∧ a1 ≤ 9223372036854775807) (a2 : Int) (w2 : -9223372036854775808 ≤ a2 ∧ a2 ≤ 9223372036854775807) (a3 : Run) (w3 : i64 a3.1 ∧ i64 a3.2) (w : World) (w0 : RunsIn w a0) (hV : Vars w) :
    Calls Tryd.prog 3 #[a0, .int .i64 a1, .int .i64 a2, .agg #[.int .i64 a3.1, .int .i64 a3.2]] w fun e w' => e = .returned (.bool true) ∧ Below w.heap.size w w' := by
  have i1 : i64 a1 := w1
  have i2 : i64 a2 := w2
  obtain ⟨ir1, ir2⟩ := w3
  obtain ⟨r1, r2⟩ := a3
  have ir1 : i64 r1 := ir1
  have ir2 : i64 r2 := ir2
  obtain ⟨l0, hl0, hb0, hm0⟩ := w0
  have I1 := Lib.hid i1
  have I2 := Lib.hid i2
  have IR1 := Lib.hid ir1
  have IR2 := Lib.hid ir2
  clear i1 i2 ir1 ir2 w1 w2
  obtain ⟨p0, c0, rfl, hf⟩ := hl0.form
  obtain ⟨M, hM⟩ : ∃ M, l0.length = M := ⟨_, rfl⟩
  have hf2 : 0 < M → ∃ g off, p0 = some ⟨g, off, none⟩ ∧ M ≤ c0 := fun h => by
    obtain ⟨g, off, e, hc, _⟩ := hf (by omega)
    exact ⟨g, off, e, by omega⟩
  clear hf
  rw [hM] at hl0 hm0 ⊢
  unfold maxLen at hm0
  show Calls Tryd.prog 3 #[.slice p0 M c0, .int .i64 a1, .int .i64 a2, .agg #[.int .i64 r1, .int .i64 r2]] w _
  by_cases h20 : (20 : Int) < M
  · obtain ⟨g0, off0, rfl, hcap⟩ := hf2 (by omega)
    have hl := hl0.take (k := 20) (by omega)
    have hb := i64_take 20 hb0
    have hle : (l0.take 20).length ≤ 20 := by simp; omega
    have b0 : (20 : Int) ≤ c0 := by omega
    generalize l0.take 20 = l at *
    clear hl0 hb0 hf2 hM
    obtain ⟨C, hG⟩ : ∃ C, goodC l = C := ⟨_, rfl⟩
    have hC : okC C := ⟨by rw [← hG]; exact goodC_may _, by have := goodC_len l; rw [hG] at this; omega⟩
    obtain ⟨N, hN⟩ : ∃ N, C.length = N := ⟨_, rfl⟩
    obtain ⟨bN0, bN1⟩ : 0 < N ∧ N ≤ 480 := by have := goodC_len l; rw [hG, hN] at this; exact this
    obtain ⟨D, hD⟩ : ∃ D, ofF C = D := ⟨_, rfl⟩
    obtain ⟨Q, hQ⟩ : ∃ Q, D.length = Q := ⟨_, rfl⟩
    obtain ⟨bQ0, bQ1⟩ : 0 < Q ∧ Q ≤ 480 := by have h1 := ofF_pos (C := C) (by omega); have h2 := ofF_len C; rw [hD] at h1 h2; omega
    have gk := fun k => r_around a2 Q I2.out.1 I2.out.2 (by omega) (by omega) k
    have bk := around_bd a2 Q (by omega)
    obtain ⟨k, hk⟩ : ∃ k : Nat, aroundF a2 Q = k := ⟨(aroundF a2 Q).toNat, by omega⟩
    rw [hk] at gk bk
    have bk1 : (k : Int) < Q := bk.2
    have m1 : mayR D N = true := by rw [← hD, ← hN]; exact may_of hC.1 (by omega)
    have m2 : mayR D (N + 1) = false := by rw [← hD, ← hN]; exact may_other hC.1 (by omega)
    have iD : ∀ j (h : j < D.length), i64 D[j].1 ∧ i64 D[j].2 := hD ▸ okC_i64 hC
    have iE := i64_put (k := k) iD IR1.out IR2.out
    have pE := runVs_put D k r1 r2 (by omega)
    obtain ⟨E, hE⟩ : ∃ E, D.set k (r1, r2) = E := ⟨_, rfl⟩
    have lE : E.length = Q := by rw [← hE]; simpa using hQ
    rw [hE] at iE pE
    obtain ⟨q1, hq1⟩ : ∃ q, mayR l a1 = q := ⟨_, rfl⟩
    obtain ⟨q2, hq2⟩ : ∃ q, mayR E N = q := ⟨_, rfl⟩
    have iN : i64 N := by constructor <;> omega
    have iN1 : i64 (N + 1) := by constructor <;> omega
    have hx0 := (runVs_at D k (by omega)).1
    have hx1 := (runVs_at D k (by omega)).2
    obtain ⟨x0, hx0e⟩ : ∃ x, (D[k]'(by omega)).1 = x := ⟨_, rfl⟩
    obtain ⟨x1, hx1e⟩ : ∃ x, (D[k]'(by omega)).2 = x := ⟨_, rfl⟩
    rw [hx0e] at hx0
    rw [hx1e] at hx1
    have HX0 := Lib.hid hx0
    have HX1 := Lib.hid hx1
    have HB := Lib.hid hb
    have HG := Lib.hid hG
    have HC := Lib.hid hC
    have HN := Lib.hid hN
    have HD := Lib.hid hD
    have HQ := Lib.hid hQ
    have GK := Lib.hid gk
    have M1 := Lib.hid m1
    have M2 := Lib.hid m2
    have ID := Lib.hid iD
    have IE := Lib.hid iE
    have PE := Lib.hid pE
    have LE := Lib.hid lE
    have Q1 := Lib.hid hq1
    have Q2 := Lib.hid hq2
    have IN := Lib.hid iN
    have IN1 := Lib.hid iN1
    clear hb hG hC hN hD hQ gk m1 m2 iD iE pE lE hq1 hq2 iN iN1 hE hk bk hx0 hx1 hx0e hx1e
    obtain ⟨u, hu⟩ : ∃ u, w.alloc (.cells #[.int .i64 r1, .int .i64 r2] 24) = u := ⟨_, rfl⟩
    have kw : Below w.heap.size w u := by rw [← hu]; exact al (Below.refl _ _) _
    have rb : RowAt u w.heap.size #[.int .i64 r1, .int .i64 r2] 24 := by rw [← hu]; exact RowAt.new w _ _
    replace hl := hl.keep kw
    have HU := Lib.hid hu
    clear hu
    go_enter Tryd.func3, Tryd.ntmps3
    go_upto_region 1 with (fail)
    rw [HU.out]
    go_upto_region 3 with (fail)
    go_wp2_with fail
    refine (r5_good _ l _ hl HB.out).mono ?_
    rintro e W1 ⟨v1, rfl, ho, hv⟩
    rw [HG.out, HD.out, HQ.out] at ho
    replace ho := own_base ho kw.size
    replace kw := chain kw hv
    replace hl := hl.keep hv
    replace rb := rb.keep hv
    clear hv
    have hg : RunsAt W1 v1 (ofF C) := by
      rw [HD.out]
      exact runs_of_owned (by rw [HQ.out]; exact ho)
    go_wp2_with fail
    refine (l5_cells _ C HC.out N HN.out _ hg).mono ?_
    rintro e W2 ⟨pn, cn, rfl, hn, hv⟩
    replace kw := chain kw hv
    replace ho := own_keep ho hv
    replace hl := hl.keep hv
    replace rb := rb.keep hv
    clear hv hn hg
    go_wp2_with fail
    refine (b5_may _ l a1 I1.out _ (hV.keep kw) hl HB.out (by omega)).mono ?_
    rintro e W3 ⟨rfl, hv⟩
    replace kw := chain kw hv
    replace ho := own_keep ho hv
    replace hl := hl.keep hv
    replace rb := rb.keep hv
    clear hv
    rw [Q1.out]
    go_wp2_with fail
    refine (r5_may _ l a1 I1.out _ hl HB.out (by omega)).mono ?_
    rintro e W4 ⟨rfl, hv⟩
    replace kw := chain kw hv
    replace ho := own_keep ho hv
    replace hl := hl.keep hv
    replace rb := rb.keep hv
    clear hv
    rw [Q1.out]
    go_wp2_with fail
    refine (b5_may _ D N IN.out _ (hV.keep kw) (runs_of_owned (by rw [HQ.out]; exact ho)) ID.out (by rw [HQ.out]; omega)).mono ?_
    rintro e W5 ⟨rfl, hv⟩
    replace kw := chain kw hv
    replace ho := own_keep ho hv
    replace hl := hl.keep hv
    replace rb := rb.keep hv
    clear hv
    rw [M1.out]
    go_wp2_with fail
    refine (b5_may _ D (N + 1) IN1.out _ (hV.keep kw) (runs_of_owned (by rw [HQ.out]; exact ho)) ID.out (by rw [HQ.out]; omega)).mono ?_
    rintro e W6 ⟨rfl, hv⟩
    replace kw := chain kw hv
    replace ho := own_keep ho hv
    replace hl := hl.keep hv
    replace rb := rb.keep hv
    clear hv
    rw [M2.out]
    go_upto_region 7 with (fail)
    rcases ho.2 with ⟨_, hz0⟩ | ⟨g, cap, cur, rfl, hb, hgg, hcp, _⟩
    · omega
    have d0 := own_cell ho (k * 2) HX0.out
    have d1 := own_cell ho (k * 2 + 1) HX1.out
    have fz : ∀ o, W6.frozen? ⟨g, o, none⟩ = false := fun o => by simp [World.frozen?, hgg]
    have zg : g < W6.heap.size := (Array.getElem?_eq_some_iff.1 hgg).1
    have e0 : W6.cell? ⟨w.heap.size, 0, none⟩ = some (.int .i64 r1) := by rw [rb.cell]; rfl
    have e1 : W6.cell? ⟨w.heap.size, 1, none⟩ = some (.int .i64 r2) := by rw [rb.cell]; rfl
    have zb := rb.lt
    clear hgg rb hb
    refine region_below 7 (by kernel_rfl) (by kernel_rfl) ?_
    simp only [List.take_succ_cons, List.take_zero, List.drop_succ_cons, List.drop_zero]
    repeat (first | (refine' InText.skip (by rfl) ?_; simp only [Act.put, List.setIfInBounds_toArray, List.set_cons_zero, List.set_cons_succ]) | (refine' InText.val (by rfl) (fun wr hr => ?_) ?_; rotate_left 1; (focus (obtain ⟨hrc, hrf⟩ := bcell hr; (go_simp <;> with_reducible rfl); done)); simp only [Act.put, List.setIfInBounds_toArray, List.set_cons_zero, List.set_cons_succ]) | (refine' InText.call (by rfl) (fun wr hr => ?_) (fun wr hr => ?_) ?_; rotate_left 3; (focus ((go_simp <;> (first | with_reducible rfl | exact ⟨rfl, rfl⟩)); done)); (focus (first | with_reducible exact pureB (GK.out _))); simp only [Act.put, List.setIfInBounds_toArray, List.set_cons_zero, List.set_cons_succ]))
    refine fun wrs hrs => ?_
    obtain ⟨hrcs, hrfs⟩ := bcell hrs
    have hos := own_set (own_keep ho hrs) (k * 2) (by omega) (.int .i64 r1)
    have ho2 := own_set hos (k * 2 + 1) (by omega) (.int .i64 r2)
    rw [PE.out] at ho2
    have kx : Below w.heap.size w ((wrs.setCell ⟨g, k * 2, none⟩ (.int .i64 r1)).setCell ⟨g, k * 2 + 1, none⟩ (.int .i64 r2)) := Below.own_set (Below.own_set (chain kw hrs) (own_keep ho hrs) (k * 2) _) hos (k * 2 + 1) _
    clear ho hos e0 e1 hl
    obtain ⟨u2, hu2⟩ : ∃ u2, (wrs.setCell ⟨g, k * 2, none⟩ (.int .i64 r1)).setCell ⟨g, k * 2 + 1, none⟩ (.int .i64 r2) = u2 := ⟨_, rfl⟩
    rw [hu2] at ho2 kx
    have HU2 := Lib.hid hu2
    clear hu2 kw
    go_upto_region 8 with (fail)
    rw [HU2.out]
    go_wp2_with fail
    refine (b5_may _ E N IN.out _ (hV.keep kx) (runs_of_owned (by rw [LE.out]; exact ho2)) IE.out (by rw [LE.out]; omega)).mono ?_
    rintro e X1 ⟨rfl, hv⟩
    rw [Q2.out]
    replace kx := chain kx hv
    replace ho2 := own_keep ho2 hv
    clear hv
    go_wp2_with fail
    refine (r5_may _ E N IN.out _ (runs_of_owned (by rw [LE.out]; exact ho2)) IE.out (by rw [LE.out]; omega)).mono ?_
    rintro e X2 ⟨rfl, hv⟩
    rw [Q2.out]
    replace kx := chain kx hv
    clear hv ho2
    go_wp2_with fail
    refine (l5_lives _ (hV.keep kx)).mono ?_
    rintro e X3 ⟨rfl, hv⟩
    go_wp2
    go_ret
    exact ⟨rfl, by (repeat (first | with_reducible assumption | with_reducible exact Below.refl _ _ | with_reducible refine Below.drew ?_ | with_reducible refine below_drewN ?_ _ | with_reducible refine al ?_ _ | (with_reducible refine sc ?_ ?_; (focus (first | omega | (simp; done) | (simp; omega)))) | (with_reducible refine chain ?_ (by assumption))))⟩
  · have hl := hl0
    have hb := hb0
    have hle : l0.length ≤ 20 := by omega
    generalize l0 = l at *
    clear hl0 hb0 hf2 hM
    obtain ⟨C, hG⟩ : ∃ C, goodC l = C := ⟨_, rfl⟩
    have hC : okC C := ⟨by rw [← hG]; exact goodC_may _, by have := goodC_len l; rw [hG] at this; omega⟩
    obtain ⟨N, hN⟩ : ∃ N, C.length = N := ⟨_, rfl⟩
    obtain ⟨bN0, bN1⟩ : 0 < N ∧ N ≤ 480 := by have := goodC_len l; rw [hG, hN] at this; exact this
    obtain ⟨D, hD⟩ : ∃ D, ofF C = D := ⟨_, rfl⟩
    obtain ⟨Q, hQ⟩ : ∃ Q, D.length = Q := ⟨_, rfl⟩
    obtain ⟨bQ0, bQ1⟩ : 0 < Q ∧ Q ≤ 480 := by have h1 := ofF_pos (C := C) (by omega); have h2 := ofF_len C; rw [hD] at h1 h2; omega
    have gk := fun k => r_around a2 Q I2.out.1 I2.out.2 (by omega) (by omega) k
    have bk := around_bd a2 Q (by omega)
    obtain ⟨k, hk⟩ : ∃ k : Nat, aroundF a2 Q = k := ⟨(aroundF a2 Q).toNat, by omega⟩
    rw [hk] at gk bk
    have bk1 : (k : Int) < Q := bk.2
    have m1 : mayR D N = true := by rw [← hD, ← hN]; exact may_of hC.1 (by omega)
    have m2 : mayR D (N + 1) = false := by rw [← hD, ← hN]; exact may_other hC.1 (by omega)
    have iD : ∀ j (h : j < D.length), i64 D[j].1 ∧ i64 D[j].2 := hD ▸ okC_i64 hC
    have iE := i64_put (k := k) iD IR1.out IR2.out
    have pE := runVs_put D k r1 r2 (by omega)
    obtain ⟨E, hE⟩ : ∃ E, D.set k (r1, r2) = E := ⟨_, rfl⟩
    have lE : E.length = Q := by rw [← hE]; simpa using hQ
    rw [hE] at iE pE
    obtain ⟨q1, hq1⟩ : ∃ q, mayR l a1 = q := ⟨_, rfl⟩
    obtain ⟨q2, hq2⟩ : ∃ q, mayR E N = q := ⟨_, rfl⟩
    have iN : i64 N := by constructor <;> omega
    have iN1 : i64 (N + 1) := by constructor <;> omega
    have hx0 := (runVs_at D k (by omega)).1
    have hx1 := (runVs_at D k (by omega)).2
    obtain ⟨x0, hx0e⟩ : ∃ x, (D[k]'(by omega)).1 = x := ⟨_, rfl⟩
    obtain ⟨x1, hx1e⟩ : ∃ x, (D[k]'(by omega)).2 = x := ⟨_, rfl⟩
    rw [hx0e] at hx0
    rw [hx1e] at hx1
    have HX0 := Lib.hid hx0
    have HX1 := Lib.hid hx1
    have HB := Lib.hid hb
    have HG := Lib.hid hG
    have HC := Lib.hid hC
    have HN := Lib.hid hN
    have HD := Lib.hid hD
    have HQ := Lib.hid hQ
    have GK := Lib.hid gk
    have M1 := Lib.hid m1
    have M2 := Lib.hid m2
    have ID := Lib.hid iD
    have IE := Lib.hid iE
    have PE := Lib.hid pE
    have LE := Lib.hid lE
    have Q1 := Lib.hid hq1
    have Q2 := Lib.hid hq2
    have IN := Lib.hid iN
    have IN1 := Lib.hid iN1
    clear hb hG hC hN hD hQ gk m1 m2 iD iE pE lE hq1 hq2 iN iN1 hE hk bk hx0 hx1 hx0e hx1e
    obtain ⟨u, hu⟩ : ∃ u, w.alloc (.cells #[.int .i64 r1, .int .i64 r2] 24) = u := ⟨_, rfl⟩
    have kw : Below w.heap.size w u := by rw [← hu]; exact al (Below.refl _ _) _
    have rb : RowAt u w.heap.size #[.int .i64 r1, .int .i64 r2] 24 := by rw [← hu]; exact RowAt.new w _ _
    replace hl := hl.keep kw
    have HU := Lib.hid hu
    clear hu
    go_enter Tryd.func3, Tryd.ntmps3
    go_upto_region 1 with (fail)
    rw [HU.out]
    go_upto_region 3 with (fail)
    go_wp2_with fail
    refine (r5_good _ l _ hl HB.out).mono ?_
    rintro e W1 ⟨v1, rfl, ho, hv⟩
    rw [HG.out, HD.out, HQ.out] at ho
    replace ho := own_base ho kw.size
    replace kw := chain kw hv
    replace hl := hl.keep hv
    replace rb := rb.keep hv
    clear hv
    have hg : RunsAt W1 v1 (ofF C) := by
      rw [HD.out]
      exact runs_of_owned (by rw [HQ.out]; exact ho)
    go_wp2_with fail
    refine (l5_cells _ C HC.out N HN.out _ hg).mono ?_
    rintro e W2 ⟨pn, cn, rfl, hn, hv⟩
    replace kw := chain kw hv
    replace ho := own_keep ho hv
    replace hl := hl.keep hv
    replace rb := rb.keep hv
    clear hv hn hg
    go_wp2_with fail
    refine (b5_may _ l a1 I1.out _ (hV.keep kw) hl HB.out (by omega)).mono ?_
    rintro e W3 ⟨rfl, hv⟩
    replace kw := chain kw hv
    replace ho := own_keep ho hv
    replace hl := hl.keep hv
    replace rb := rb.keep hv
    clear hv
    rw [Q1.out]
    go_wp2_with fail
    refine (r5_may _ l a1 I1.out _ hl HB.out (by omega)).mono ?_
    rintro e W4 ⟨rfl, hv⟩
    replace kw := chain kw hv
    replace ho := own_keep ho hv
    replace hl := hl.keep hv
    replace rb := rb.keep hv
    clear hv
    rw [Q1.out]
    go_wp2_with fail
    refine (b5_may _ D N IN.out _ (hV.keep kw) (runs_of_owned (by rw [HQ.out]; exact ho)) ID.out (by rw [HQ.out]; omega)).mono ?_
    rintro e W5 ⟨rfl, hv⟩
    replace kw := chain kw hv
    replace ho := own_keep ho hv
    replace hl := hl.keep hv
    replace rb := rb.keep hv
    clear hv
    rw [M1.out]
    go_wp2_with fail
    refine (b5_may _ D (N + 1) IN1.out _ (hV.keep kw) (runs_of_owned (by rw [HQ.out]; exact ho)) ID.out (by rw [HQ.out]; omega)).mono ?_
    rintro e W6 ⟨rfl, hv⟩
    replace kw := chain kw hv
    replace ho := own_keep ho hv
    replace hl := hl.keep hv
    replace rb := rb.keep hv
    clear hv
    rw [M2.out]
    go_upto_region 7 with (fail)
    rcases ho.2 with ⟨_, hz0⟩ | ⟨g, cap, cur, rfl, hb, hgg, hcp, _⟩
    · omega
    have d0 := own_cell ho (k * 2) HX0.out
    have d1 := own_cell ho (k * 2 + 1) HX1.out
    have fz : ∀ o, W6.frozen? ⟨g, o, none⟩ = false := fun o => by simp [World.frozen?, hgg]
    have zg : g < W6.heap.size := (Array.getElem?_eq_some_iff.1 hgg).1
    have e0 : W6.cell? ⟨w.heap.size, 0, none⟩ = some (.int .i64 r1) := by rw [rb.cell]; rfl
    have e1 : W6.cell? ⟨w.heap.size, 1, none⟩ = some (.int .i64 r2) := by rw [rb.cell]; rfl
    have zb := rb.lt
    clear hgg rb hb
    refine region_below 7 (by kernel_rfl) (by kernel_rfl) ?_
    simp only [List.take_succ_cons, List.take_zero, List.drop_succ_cons, List.drop_zero]
    repeat (first | (refine' InText.skip (by rfl) ?_; simp only [Act.put, List.setIfInBounds_toArray, List.set_cons_zero, List.set_cons_succ]) | (refine' InText.val (by rfl) (fun wr hr => ?_) ?_; rotate_left 1; (focus (obtain ⟨hrc, hrf⟩ := bcell hr; (go_simp <;> with_reducible rfl); done)); simp only [Act.put, List.setIfInBounds_toArray, List.set_cons_zero, List.set_cons_succ]) | (refine' InText.call (by rfl) (fun wr hr => ?_) (fun wr hr => ?_) ?_; rotate_left 3; (focus ((go_simp <;> (first | with_reducible rfl | exact ⟨rfl, rfl⟩)); done)); (focus (first | with_reducible exact pureB (GK.out _))); simp only [Act.put, List.setIfInBounds_toArray, List.set_cons_zero, List.set_cons_succ]))
    refine fun wrs hrs => ?_
    obtain ⟨hrcs, hrfs⟩ := bcell hrs
    have hos := own_set (own_keep ho hrs) (k * 2) (by omega) (.int .i64 r1)
    have ho2 := own_set hos (k * 2 + 1) (by omega) (.int .i64 r2)
    rw [PE.out] at ho2
    have kx : Below w.heap.size w ((wrs.setCell ⟨g, k * 2, none⟩ (.int .i64 r1)).setCell ⟨g, k * 2 + 1, none⟩ (.int .i64 r2)) := Below.own_set (Below.own_set (chain kw hrs) (own_keep ho hrs) (k * 2) _) hos (k * 2 + 1) _
    clear ho hos e0 e1 hl
    obtain ⟨u2, hu2⟩ : ∃ u2, (wrs.setCell ⟨g, k * 2, none⟩ (.int .i64 r1)).setCell ⟨g, k * 2 + 1, none⟩ (.int .i64 r2) = u2 := ⟨_, rfl⟩
    rw [hu2] at ho2 kx
    have HU2 := Lib.hid hu2
    clear hu2 kw
    go_upto_region 8 with (fail)
    rw [HU2.out]
    go_wp2_with fail
    refine (b5_may _ E N IN.out _ (hV.keep kx) (runs_of_owned (by rw [LE.out]; exact ho2)) IE.out (by rw [LE.out]; omega)).mono ?_
    rintro e X1 ⟨rfl, hv⟩
    rw [Q2.out]
    replace kx := chain kx hv
    replace ho2 := own_keep ho2 hv
    clear hv
    go_wp2_with fail
    refine (r5_may _ E N IN.out _ (runs_of_owned (by rw [LE.out]; exact ho2)) IE.out (by rw [LE.out]; omega)).mono ?_
    rintro e X2 ⟨rfl, hv⟩
    rw [Q2.out]
    replace kx := chain kx hv
    clear hv ho2
    go_wp2_with fail
    refine (l5_lives _ (hV.keep kx)).mono ?_
    rintro e X3 ⟨rfl, hv⟩
    go_wp2
    go_ret
    exact ⟨rfl, by (repeat (first | with_reducible assumption | with_reducible exact Below.refl _ _ | with_reducible refine Below.drew ?_ | with_reducible refine below_drewN ?_ _ | with_reducible refine al ?_ _ | (with_reducible refine sc ?_ ?_; (focus (first | omega | (simp; done) | (simp; omega)))) | (with_reducible refine chain ?_ (by assumption))))⟩
theorem own : ownKnob Tryd.prog.godebug = none := by kernel_rfl
set_option maxRecDepth 100000 in
theorem contract (H : Type) (enc : TypeId × Value → H) (W : World) (base : Nat) (args : Array Value) (ds gs : List (DataW H)) (before : List MemPlace)
    (hval : ∀ (j : Nat) t v, Tryd.f3.params[j]? = some t → args[j]? = some v → Value.okWide Tryd.prog W .any base t v)
    (hW : DataW.Whole enc Tryd.prog Tryd.f3.params.toList Rows.runsMaySpec.vars false W args.toList ds gs before) (hL : laidMetH Tryd.prog Rows.runsMayRow.laid W) :
    Calls Tryd.prog 3 args W fun e W' => ∃ v, e = .returned v ∧ Rows.runsMaySpec.post enc Tryd.prog Tryd.f3 false true false false W args v W' := by
  have hW' := hW
  obtain ⟨p, q, hA0, hV0, rfl, hfz, hnd⟩ := hW
  have hA : DataW.TrodAll enc Tryd.prog W 0 (fun _ => true) true Tryd.f3.params.toList args.toList ds p := hA0
  rw [Tryd.params3] at hA hval
  obtain ⟨v0, vs0, d0, ds0, p0, q0, hargs, rfl, rfl, h0, r0⟩ := trodAll_cons hA
  obtain ⟨v1, vs1, d1, ds1, p1, q1, rfl, rfl, rfl, h1, r1⟩ := trodAll_cons r0
  obtain ⟨v2, vs2, d2, ds2, p2, q2, rfl, rfl, rfl, h2, r2⟩ := trodAll_cons r1
  obtain ⟨v3, vs3, d3, ds3, p3, q3, rfl, rfl, rfl, h3, r3⟩ := trodAll_cons r2
  obtain ⟨rfl, rfl, rfl⟩ := trodAll_nil r3
  obtain rfl : args = #[v0, v1, v2, v3] := by cases args; simp_all
  obtain ⟨rfl, rfl⟩ := trodVars_none hV0
  simp only [List.append_nil] at hW'
  have hlt : ∀ x ∈ p0 ++ (p1 ++ (p2 ++ (p3 ++ ([])))), x.block < W.heap.size := fun x hx => hW'.lt x (by simpa using hx)
  have hlt0 : ∀ x ∈ p0, x.block < W.heap.size := fun x hx => hlt x (List.mem_append.2 (.inl hx))
  have hlt1 : ∀ x ∈ p1, x.block < W.heap.size := fun x hx => hlt x (List.mem_append.2 (.inr (List.mem_append.2 (.inl hx))))
  have hlt2 : ∀ x ∈ p2, x.block < W.heap.size := fun x hx => hlt x (List.mem_append.2 (.inr (List.mem_append.2 (.inr (List.mem_append.2 (.inl hx))))))
  have hlt3 : ∀ x ∈ p3, x.block < W.heap.size := fun x hx => hlt x (List.mem_append.2 (.inr (List.mem_append.2 (.inr (List.mem_append.2 (.inr (List.mem_append.2 (.inl hx))))))))
  have k0 := h0
  have k1 := h1
  have k2 := h2
  have k3 := h3
  have w0 := open_runs (hval 0 22 v0 rfl rfl) h0 hlt0
  obtain ⟨a1, rfl, w1⟩ := open_num (hval 1 3 v1 rfl rfl) h1
  obtain ⟨a2, rfl, w2⟩ := open_num (hval 2 3 v2 rfl rfl) h2
  obtain ⟨a3, rfl, w3⟩ := open_run (hval 3 24 v3 rfl rfl) h3
  clear hA0
  refine (walk v0 a1 w1 a2 w2 a3 w3 W w0 (Vars.of_laid (by kernel_rfl) hL (by simp [Rows.runsMayRow]))).mono fun e W' ⟨he, hg⟩ => ?_
  subst he
  exact ⟨_, rfl, _, _, _, [], _, [], hW', (trodAll_cons_mk (shut_bool Tryd.underlying4 _) trodAll_mk0), (trodAll_cons_mk (Below.trod laidOut (by kernel_rfl) (of_decide_eq_true (by kernel_rfl)) k0 hg hlt0) (trodAll_cons_mk (Below.trod laidOut (by kernel_rfl) (of_decide_eq_true (by kernel_rfl)) k1 hg hlt1) (trodAll_cons_mk (Below.trod laidOut (by kernel_rfl) (of_decide_eq_true (by kernel_rfl)) k2 hg hlt2) (trodAll_cons_mk (Below.trod laidOut (by kernel_rfl) (of_decide_eq_true (by kernel_rfl)) k3 hg hlt3) trodAll_mk0)))), rfl, hg.frame _, fun h => by cases h⟩
set_option maxRecDepth 100000 in
theorem laid_met (os : Os) : laidMetH Tryd.prog Rows.runsMayRow.laid ((World.doorLaid Tryd.prog 400 os).forCall (fun _ _ => 0) ⟨#[], #[.slice none 0 0, .int .i64 0, .int .i64 0, .agg #[.int .i64 0, .int .i64 0]], []⟩).memory := by
  rw [MakeChecks.laidMetH_plain _ _ _ (by kernel_rfl)]
  exact laidMet_of_run' 8 (by kernel_rfl) (by kernel_rfl)
set_option maxRecDepth 100000 in
theorem lifted (os : Os) (started : os.Started) (H : Type) (enc : TypeId × Value → H) (F : Stop.Interp) :
    ReturnsInHanded {} Tryd.checked os 3 .any ((OpenSpec.ofChange Rows.runsMaySpec).preRow enc Tryd.prog Tryd.f3 Rows.runsMayRow.domain false Rows.runsMayRow.laid) (((OpenSpec.ofChange Rows.runsMaySpec).at F).post enc Tryd.prog Tryd.f3 false true false false) := by
  refine returnsInHanded_of_row (C := Tryd.checked) (s := OpenSpec.ofChange Rows.runsMaySpec) own started (by kernel_rfl) Tryd.func3
    (witness_row_at (enc := enc) (C := Tryd.checked) false (World.doorLaid Tryd.prog 400 os) #[.slice none 0 0, .int .i64 0, .int .i64 0, .agg #[.int .i64 0, .int .i64 0]] rfl (by kernel_rfl) (by kernel_rfl) (by kernel_rfl)
      (OpenSpec.preRow_of_B rfl 8 (by kernel_rfl) (by kernel_rfl) (laid_met os))) ?_
  intro W base args ds gs before hval hW _ _ _ hL _ _
  exact contract H enc W base args ds gs before hval hW hL
theorem said : Rows.RunsMaySaid :=
  OpenClaim.holds_of_cond 3 Tryd.f3 rfl rfl rfl rfl rfl rfl rfl ⟨rfl, rfl, rfl, rfl, rfl⟩ rfl rfl rfl rfl rfl (by kernel_rfl) Tryd.func3 (by kernel_rfl)
    (of_decide_eq_true (by kernel_rfl)) (by unfold Func.isWrapper; first | (rw [if_pos (by decide +kernel)]; kernel_rfl) | (rw [if_neg (by decide +kernel)]; exact ⟨rfl, rfl⟩))
    (fun os started H enc _ F => by rw [OpenClaim.pre_eq_preRow]; exact lifted os started H enc F)
theorem plain (f : FuncId) (fn : Func) (hf : Tryd.pinned.checked.prog.funcNamed "breccia/breccialaw05.RunsMay" = some f) (hfn : Tryd.pinned.checked.prog.funcs[f]? = some fn) :
    false = Tryd.pinned.checked.prog.looks [] ∧ ∀ (j : Nat) t, fn.params[j]? = some t → Tryd.pinned.checked.prog.wantsStandIn t = false := by
  obtain rfl : f = 3 := Option.some.inj ((show Tryd.prog.funcNamed "breccia/breccialaw05.RunsMay" = some 3 by kernel_rfl).symm.trans hf) |>.symm
  obtain rfl : fn = Tryd.f3 := (Option.some.inj (Tryd.func3.symm.trans hfn)).symm
  refine ⟨by kernel_rfl, fun j t ht => ?_⟩
  rw [Tryd.params3] at ht
  have hm : t ∈ #[22, 3, 3, 24] := Array.mem_of_getElem? ht
  have hm : t ∈ [22, 3, 24] := by simpa using hm
  have hall : ([22, 3, 24].all fun u => !Tryd.prog.wantsStandIn u) = true := by kernel_rfl
  exact (show Tryd.prog.wantsStandIn t = false by simpa using List.all_eq_true.1 hall t hm)
theorem card : Rows.RunsMayCardSaid :=
  Claim7.holds_tied_plain_at .later [] _ _ _ _ said (fun _ h => by cases h) (by kernel_rfl) (fun _ h => by cases h) runsMay_row_tie rfl ⟨rfl, rfl⟩ (by kernel_rfl) rfl plain (by kernel_rfl)
#print axioms card
end Go.Proofs.YtldokggfiklcoaaDoor.runsMay
