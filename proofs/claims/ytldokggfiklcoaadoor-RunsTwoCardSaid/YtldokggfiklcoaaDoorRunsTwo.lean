/- For any runs, any two places and any two blocks the law RunsTwo of layer 5 answers true: cells of two places may be set in either row; of one place the last one counts. Conditions: none: every input. -/
import Derived.Test.YtldokggfiklcoaaDoorRows
import Derived.Test.YtldokggfiklcoaaDoorO02
import Derived.Test.YtldokggfiklcoaaDoorO50
import Derived.Test.YtldokggfiklcoaaDoorL05
import Derived.Test.YtldokggfiklcoaaDoorVRS
import Derived.Test.YtldokggfiklcoaaDoorCards
import Derived.Test.YtldokggfiklcoaaDoorTie
import Derived.WalkKit
import Derived.ProofKit
import Derived.OpenShut
import Derived.Below
import Derived.Carry
import Derived.Deep.DeepHandedRow
import Derived.LaidMore
namespace Go.Proofs.YtldokggfiklcoaaDoor.runsTwo
open Go.Proofs.YtldokggfiklcoaaDoor Go.ChangeShapes Go.WideShapes Go.ChangeAt Go.RowKit
set_option linter.unusedVariables false
set_option linter.unusedSimpArgs false
attribute [local go_sem ↓] Go.wp_at_zero Go.wp_at_succ
set_option maxHeartbeats 16000000 in
theorem walk (a0 : Value) (a1 : Int) (w1 : -9223372036854775808 ≤ a1 ∧ a1 ≤ 9223372036854775807) (a2 : Int) (w2 : -9223372036854775808 ≤ a2 ∧ a2 ≤ 9223372036854775807) (a3 : Int) (w3 : -9223372036854775808 ≤ a3 ∧ a3 ≤ 9223372036854775807) (a4 : Int) (w4 : -9223372036854775808 ≤ a4 ∧ a4 ≤ 9223372036854775807) (w : World) (w0 : RunsIn w a0) (hV : Vars w) :
    Calls Tryd.prog 8 #[a0, .int .i64 a1, .int .i64 a2, .int .i64 a3, .int .i64 a4] w fun e w' => e = .returned (.bool true) ∧ Below w.heap.size w w' := by
  obtain ⟨l0, hl0, hb0, hm0⟩ := w0
  obtain ⟨C, hG0⟩ : ∃ C, goodC l0 = C := ⟨_, rfl⟩
  have hC : okC C := ⟨by rw [← hG0]; exact goodC_may _, by have := goodC_len l0; rw [hG0] at this; omega⟩
  obtain ⟨N, hN⟩ : ∃ N, C.length = N := ⟨_, rfl⟩
  have hN1 : 0 < N ∧ N ≤ 480 := by have := goodC_len l0; rw [hG0, hN] at this; exact this
  have HB := Lib.hid hb0
  have HG := Lib.hid hG0
  have HC := Lib.hid hC
  have HN := Lib.hid hN
  obtain ⟨bN0, bN1⟩ := hN1
  clear hb0 hG0 hC hN hm0
  have gdi := fun k => r_around a1 N w1.1 w1.2 (by omega) (by omega) k
  have bi := around_bd a1 N (by omega)
  obtain ⟨i, hi⟩ : ∃ i, aroundF a1 N = i := ⟨_, rfl⟩
  rw [hi] at gdi bi
  obtain ⟨bi0, bi1⟩ := bi
  have ii : i64 i := by constructor <;> omega
  have Gi := Lib.hid gdi
  have Ii := Lib.hid ii
  clear hi gdi ii
  have gdk := fun k => r_around a2 N w2.1 w2.2 (by omega) (by omega) k
  have bk := around_bd a2 N (by omega)
  obtain ⟨k, hk⟩ : ∃ k, aroundF a2 N = k := ⟨_, rfl⟩
  rw [hk] at gdk bk
  obtain ⟨bk0, bk1⟩ := bk
  have ik : i64 k := by constructor <;> omega
  have Gk := Lib.hid gdk
  have Ik := Lib.hid ik
  clear hk gdk ik
  have ij3 : i64 a3 := w3
  obtain ⟨a, ha⟩ : ∃ a, goodF a3 = a := ⟨_, rfl⟩
  have gda := fun k => r4_good a3 ij3 k
  rw [ha] at gda
  have ma : mayB a = true := ha ▸ goodF_may a3
  have ia : i64 a := by have := mayB_bd ma; constructor <;> omega
  have IJ3 := Lib.hid ij3
  have Ga := Lib.hid gda
  have Ma := Lib.hid ma
  have Ia := Lib.hid ia
  clear ij3 ha gda ma ia
  have ij4 : i64 a4 := w4
  obtain ⟨b, hb⟩ : ∃ b, goodF a4 = b := ⟨_, rfl⟩
  have gdb := fun k => r4_good a4 ij4 k
  rw [hb] at gdb
  have mb : mayB b = true := hb ▸ goodF_may a4
  have ib : i64 b := by have := mayB_bd mb; constructor <;> omega
  have IJ4 := Lib.hid ij4
  have Gb := Lib.hid gdb
  have Mb := Lib.hid mb
  have Ib := Lib.hid ib
  clear ij4 hb gdb mb ib
  clear w1 w2 w3 w4
  obtain ⟨A, hA⟩ : ∃ A, setF C i a = A := ⟨_, rfl⟩
  have okA : okC A := hA ▸ okC_set HC.out i a
  have HA := Lib.hid hA
  have OA := Lib.hid okA
  clear hA okA
  obtain ⟨B, hB⟩ : ∃ B, setF C k b = B := ⟨_, rfl⟩
  have okB : okC B := hB ▸ okC_set HC.out k b
  have HB0 := Lib.hid hB
  have OB := Lib.hid okB
  clear hB okB
  obtain ⟨X, hX⟩ : ∃ X, setF A k b = X := ⟨_, rfl⟩
  have okX : okC X := hX ▸ okC_set OA.out k b
  have HX := Lib.hid hX
  have OX := Lib.hid okX
  clear hX okX
  obtain ⟨Y, hY⟩ : ∃ Y, setF B i a = Y := ⟨_, rfl⟩
  have okY : okC Y := hY ▸ okC_set OB.out i a
  have HY := Lib.hid hY
  have OY := Lib.hid okY
  clear hY okY
  by_cases hik : i = k
  · subst hik
    have e1 : X = B := by rw [← HX.out, ← HA.out, ← HB0.out]; exact set_twice Ma.out Mb.out bi0 (by rw [HN.out]; exact bi1)
    have e2 : Y = A := by rw [← HY.out, ← HB0.out, ← HA.out]; exact set_twice Mb.out Ma.out bi0 (by rw [HN.out]; exact bi1)
    have E1 := Lib.hid e1
    have E2 := Lib.hid e2
    clear e1 e2
    have kw : Below w.heap.size w w := Below.refl _ _
    go_enter Tryd.func8, Tryd.ntmps8
    go_wp2_with fail
    refine (l5_good _ l0 C HG.out _ hl0 HB.out).mono ?_
    rintro e W1 ⟨pg, cg, rfl, hg, hv1⟩
    replace kw := chain kw hv1
    replace hl0 := hl0.keep hv1
    clear hv1
    go_wp2_with fail
    refine (l5_cells _ C HC.out N HN.out _ hg).mono ?_
    rintro e W2 ⟨pn1, cn1, rfl, hn1, hv2⟩
    replace kw := chain kw hv2
    replace hl0 := hl0.keep hv2
    replace hg := hg.keep hv2
    clear hv2
    clear hn1
    go_wp2_with fail
    refine (Gi.out _).mono ?_
    rintro e w' ⟨rfl, rfl⟩
    go_wp2_with fail
    refine (Gk.out _).mono ?_
    rintro e w' ⟨rfl, rfl⟩
    go_wp2_with fail
    refine (Ga.out _).mono ?_
    rintro e w' ⟨rfl, rfl⟩
    go_wp2_with fail
    refine (Gb.out _).mono ?_
    rintro e w' ⟨rfl, rfl⟩
    go_wp2_with fail
    refine (b5_set _ C HC.out i a Ii.out Ia.out _ (hV.keep kw) hg).mono ?_
    rintro e W3 ⟨va, rfl, ha, hv3⟩
    replace kw := chain kw hv3
    replace hl0 := hl0.keep hv3
    replace hg := hg.keep hv3
    clear hv3
    rw [HA.out] at ha
    go_wp2_with fail
    refine (b5_set _ A OA.out i b Ii.out Ib.out _ (hV.keep kw) ha).mono ?_
    rintro e W4 ⟨vx, rfl, hx, hv4⟩
    replace kw := chain kw hv4
    replace hl0 := hl0.keep hv4
    replace hg := hg.keep hv4
    replace ha := ha.keep hv4
    clear hv4
    rw [HX.out] at hx
    clear ha
    go_wp2_with fail
    refine (b5_set _ C HC.out i b Ii.out Ib.out _ (hV.keep kw) hg).mono ?_
    rintro e W5 ⟨vb, rfl, hb, hv5⟩
    replace kw := chain kw hv5
    replace hl0 := hl0.keep hv5
    replace hg := hg.keep hv5
    replace hx := hx.keep hv5
    clear hv5
    rw [HB0.out] at hb
    go_wp2_with fail
    refine (b5_set _ B OB.out i a Ii.out Ia.out _ (hV.keep kw) hb).mono ?_
    rintro e W6 ⟨vy, rfl, hy, hv6⟩
    replace kw := chain kw hv6
    replace hl0 := hl0.keep hv6
    replace hg := hg.keep hv6
    replace hx := hx.keep hv6
    replace hb := hb.keep hv6
    clear hv6
    rw [HY.out] at hy
    clear hb
    go_wp2_with fail
    refine (b5_set _ C HC.out i b Ii.out Ib.out _ (hV.keep kw) hg).mono ?_
    rintro e W7 ⟨vb, rfl, hb, hv7⟩
    replace kw := chain kw hv7
    replace hl0 := hl0.keep hv7
    replace hg := hg.keep hv7
    replace hx := hx.keep hv7
    replace hy := hy.keep hv7
    clear hv7
    rw [HB0.out] at hb
    go_wp2_with fail
    refine (l5_same _ _ _ _ (by rw [E1.out]) _ hx hb (okC_len OX.out)).mono ?_
    rintro e W8 ⟨rfl, hv8⟩
    replace kw := chain kw hv8
    replace hl0 := hl0.keep hv8
    replace hg := hg.keep hv8
    replace hx := hx.keep hv8
    replace hy := hy.keep hv8
    replace hb := hb.keep hv8
    clear hv8
    clear hb hx
    go_wp2_with fail
    refine (b5_set _ C HC.out i a Ii.out Ia.out _ (hV.keep kw) hg).mono ?_
    rintro e W9 ⟨va, rfl, ha, hv9⟩
    replace kw := chain kw hv9
    replace hl0 := hl0.keep hv9
    replace hg := hg.keep hv9
    replace hy := hy.keep hv9
    clear hv9
    rw [HA.out] at ha
    go_wp2_with fail
    refine (l5_same _ _ _ _ (by rw [E2.out]) _ hy ha (okC_len OY.out)).mono ?_
    rintro e W10 ⟨rfl, hv10⟩
    replace kw := chain kw hv10
    replace hl0 := hl0.keep hv10
    replace hg := hg.keep hv10
    replace hy := hy.keep hv10
    replace ha := ha.keep hv10
    clear hv10
    go_wp2_with fail
    refine (l5_lives _ (hV.keep kw)).mono ?_
    rintro e W11 ⟨rfl, hv11⟩
    replace kw := chain kw hv11
    replace hl0 := hl0.keep hv11
    replace hg := hg.keep hv11
    replace hy := hy.keep hv11
    replace ha := ha.keep hv11
    clear hv11
    go_wp2
    go_ret
    exact ⟨rfl, by (repeat (first | with_reducible assumption | with_reducible exact Below.refl _ _ | with_reducible refine Below.drew ?_ | with_reducible refine below_drewN ?_ _ | with_reducible refine al ?_ _ | (with_reducible refine sc ?_ ?_; (focus (first | omega | (simp; done) | (simp; omega)))) | (with_reducible refine chain ?_ (by assumption))))⟩
  · have e1 : X = Y := by rw [← HX.out, ← HY.out, ← HA.out, ← HB0.out]; exact set_apart a b hik bi0 bk0
    have E1 := Lib.hid e1
    clear e1
    have kw : Below w.heap.size w w := Below.refl _ _
    go_enter Tryd.func8, Tryd.ntmps8
    go_wp2_with fail
    refine (l5_good _ l0 C HG.out _ hl0 HB.out).mono ?_
    rintro e W1 ⟨pg, cg, rfl, hg, hv1⟩
    replace kw := chain kw hv1
    replace hl0 := hl0.keep hv1
    clear hv1
    go_wp2_with fail
    refine (l5_cells _ C HC.out N HN.out _ hg).mono ?_
    rintro e W2 ⟨pn1, cn1, rfl, hn1, hv2⟩
    replace kw := chain kw hv2
    replace hl0 := hl0.keep hv2
    replace hg := hg.keep hv2
    clear hv2
    clear hn1
    go_wp2_with fail
    refine (Gi.out _).mono ?_
    rintro e w' ⟨rfl, rfl⟩
    go_wp2_with fail
    refine (Gk.out _).mono ?_
    rintro e w' ⟨rfl, rfl⟩
    go_wp2_with fail
    refine (Ga.out _).mono ?_
    rintro e w' ⟨rfl, rfl⟩
    go_wp2_with fail
    refine (Gb.out _).mono ?_
    rintro e w' ⟨rfl, rfl⟩
    go_wp2_with fail
    refine (b5_set _ C HC.out i a Ii.out Ia.out _ (hV.keep kw) hg).mono ?_
    rintro e W3 ⟨va, rfl, ha, hv3⟩
    replace kw := chain kw hv3
    replace hl0 := hl0.keep hv3
    replace hg := hg.keep hv3
    clear hv3
    rw [HA.out] at ha
    go_wp2_with fail
    refine (b5_set _ A OA.out k b Ik.out Ib.out _ (hV.keep kw) ha).mono ?_
    rintro e W4 ⟨vx, rfl, hx, hv4⟩
    replace kw := chain kw hv4
    replace hl0 := hl0.keep hv4
    replace hg := hg.keep hv4
    replace ha := ha.keep hv4
    clear hv4
    rw [HX.out] at hx
    clear ha
    go_wp2_with fail
    refine (b5_set _ C HC.out k b Ik.out Ib.out _ (hV.keep kw) hg).mono ?_
    rintro e W5 ⟨vb, rfl, hb, hv5⟩
    replace kw := chain kw hv5
    replace hl0 := hl0.keep hv5
    replace hg := hg.keep hv5
    replace hx := hx.keep hv5
    clear hv5
    rw [HB0.out] at hb
    go_wp2_with fail
    refine (b5_set _ B OB.out i a Ii.out Ia.out _ (hV.keep kw) hb).mono ?_
    rintro e W6 ⟨vy, rfl, hy, hv6⟩
    replace kw := chain kw hv6
    replace hl0 := hl0.keep hv6
    replace hg := hg.keep hv6
    replace hx := hx.keep hv6
    replace hb := hb.keep hv6
    clear hv6
    rw [HY.out] at hy
    clear hb
    go_wp2_with fail
    refine (l5_same _ _ _ _ (by rw [E1.out]) _ hx hy (okC_len OX.out)).mono ?_
    rintro e W7 ⟨rfl, hv7⟩
    replace kw := chain kw hv7
    replace hl0 := hl0.keep hv7
    replace hg := hg.keep hv7
    replace hx := hx.keep hv7
    replace hy := hy.keep hv7
    clear hv7
    go_wp2_with fail
    refine (l5_lives _ (hV.keep kw)).mono ?_
    rintro e W8 ⟨rfl, hv8⟩
    replace kw := chain kw hv8
    replace hl0 := hl0.keep hv8
    replace hg := hg.keep hv8
    replace hx := hx.keep hv8
    replace hy := hy.keep hv8
    clear hv8
    go_wp2
    go_ret
    exact ⟨rfl, by (repeat (first | with_reducible assumption | with_reducible exact Below.refl _ _ | with_reducible refine Below.drew ?_ | with_reducible refine below_drewN ?_ _ | with_reducible refine al ?_ _ | (with_reducible refine sc ?_ ?_; (focus (first | omega | (simp; done) | (simp; omega)))) | (with_reducible refine chain ?_ (by assumption))))⟩
theorem own : ownKnob Tryd.prog.godebug = none := by kernel_rfl
set_option maxRecDepth 100000 in
theorem contract (H : Type) (enc : TypeId × Value → H) (W : World) (base : Nat) (args : Array Value) (ds gs : List (DataW H)) (before : List MemPlace)
    (hval : ∀ (j : Nat) t v, Tryd.f8.params[j]? = some t → args[j]? = some v → Value.okWide Tryd.prog W .any base t v)
    (hW : DataW.Whole enc Tryd.prog Tryd.f8.params.toList Rows.runsTwoSpec.vars false W args.toList ds gs before) (hL : laidMetH Tryd.prog Rows.runsTwoRow.laid W) :
    Calls Tryd.prog 8 args W fun e W' => ∃ v, e = .returned v ∧ Rows.runsTwoSpec.post enc Tryd.prog Tryd.f8 false true false false W args v W' := by
  have hW' := hW
  obtain ⟨p, q, hA0, hV0, rfl, hfz, hnd⟩ := hW
  have hA : DataW.TrodAll enc Tryd.prog W 0 (fun _ => true) true Tryd.f8.params.toList args.toList ds p := hA0
  rw [Tryd.params8] at hA hval
  obtain ⟨v0, vs0, d0, ds0, p0, q0, hargs, rfl, rfl, h0, r0⟩ := trodAll_cons hA
  obtain ⟨v1, vs1, d1, ds1, p1, q1, rfl, rfl, rfl, h1, r1⟩ := trodAll_cons r0
  obtain ⟨v2, vs2, d2, ds2, p2, q2, rfl, rfl, rfl, h2, r2⟩ := trodAll_cons r1
  obtain ⟨v3, vs3, d3, ds3, p3, q3, rfl, rfl, rfl, h3, r3⟩ := trodAll_cons r2
  obtain ⟨v4, vs4, d4, ds4, p4, q4, rfl, rfl, rfl, h4, r4⟩ := trodAll_cons r3
  obtain ⟨rfl, rfl, rfl⟩ := trodAll_nil r4
  obtain rfl : args = #[v0, v1, v2, v3, v4] := by cases args; simp_all
  obtain ⟨rfl, rfl⟩ := trodVars_none hV0
  simp only [List.append_nil] at hW'
  have hlt : ∀ x ∈ p0 ++ (p1 ++ (p2 ++ (p3 ++ (p4 ++ ([]))))), x.block < W.heap.size := fun x hx => hW'.lt x (by simpa using hx)
  have hlt0 : ∀ x ∈ p0, x.block < W.heap.size := fun x hx => hlt x (List.mem_append.2 (.inl hx))
  have hlt1 : ∀ x ∈ p1, x.block < W.heap.size := fun x hx => hlt x (List.mem_append.2 (.inr (List.mem_append.2 (.inl hx))))
  have hlt2 : ∀ x ∈ p2, x.block < W.heap.size := fun x hx => hlt x (List.mem_append.2 (.inr (List.mem_append.2 (.inr (List.mem_append.2 (.inl hx))))))
  have hlt3 : ∀ x ∈ p3, x.block < W.heap.size := fun x hx => hlt x (List.mem_append.2 (.inr (List.mem_append.2 (.inr (List.mem_append.2 (.inr (List.mem_append.2 (.inl hx))))))))
  have hlt4 : ∀ x ∈ p4, x.block < W.heap.size := fun x hx => hlt x (List.mem_append.2 (.inr (List.mem_append.2 (.inr (List.mem_append.2 (.inr (List.mem_append.2 (.inr (List.mem_append.2 (.inl hx))))))))))
  have k0 := h0
  have k1 := h1
  have k2 := h2
  have k3 := h3
  have k4 := h4
  have w0 := open_runs (hval 0 22 v0 rfl rfl) h0 hlt0
  obtain ⟨a1, rfl, w1⟩ := open_num (hval 1 3 v1 rfl rfl) h1
  obtain ⟨a2, rfl, w2⟩ := open_num (hval 2 3 v2 rfl rfl) h2
  obtain ⟨a3, rfl, w3⟩ := open_num (hval 3 3 v3 rfl rfl) h3
  obtain ⟨a4, rfl, w4⟩ := open_num (hval 4 3 v4 rfl rfl) h4
  clear hA0
  refine (walk v0 a1 w1 a2 w2 a3 w3 a4 w4 W w0 (Vars.of_laid (by kernel_rfl) hL (by simp [Rows.runsTwoRow]))).mono fun e W' ⟨he, hg⟩ => ?_
  subst he
  exact ⟨_, rfl, _, _, _, [], _, [], hW', (trodAll_cons_mk (shut_bool Tryd.underlying4 _) trodAll_mk0), (trodAll_cons_mk (Below.trod laidOut (by kernel_rfl) (of_decide_eq_true (by kernel_rfl)) k0 hg hlt0) (trodAll_cons_mk (Below.trod laidOut (by kernel_rfl) (of_decide_eq_true (by kernel_rfl)) k1 hg hlt1) (trodAll_cons_mk (Below.trod laidOut (by kernel_rfl) (of_decide_eq_true (by kernel_rfl)) k2 hg hlt2) (trodAll_cons_mk (Below.trod laidOut (by kernel_rfl) (of_decide_eq_true (by kernel_rfl)) k3 hg hlt3) (trodAll_cons_mk (Below.trod laidOut (by kernel_rfl) (of_decide_eq_true (by kernel_rfl)) k4 hg hlt4) trodAll_mk0))))), rfl, hg.frame _, fun h => by cases h⟩
set_option maxRecDepth 100000 in
theorem laid_met (os : Os) : laidMetH Tryd.prog Rows.runsTwoRow.laid ((World.doorLaid Tryd.prog 400 os).forCall (fun _ _ => 0) ⟨#[], #[.slice none 0 0, .int .i64 0, .int .i64 0, .int .i64 0, .int .i64 0], []⟩).memory := by
  rw [MakeChecks.laidMetH_plain _ _ _ (by kernel_rfl)]
  exact laidMet_of_run' 8 (by kernel_rfl) (by kernel_rfl)
set_option maxRecDepth 100000 in
theorem lifted (os : Os) (started : os.Started) (H : Type) (enc : TypeId × Value → H) (F : Stop.Interp) :
    ReturnsInHanded {} Tryd.checked os 8 .any ((OpenSpec.ofChange Rows.runsTwoSpec).preRow enc Tryd.prog Tryd.f8 Rows.runsTwoRow.domain false Rows.runsTwoRow.laid) (((OpenSpec.ofChange Rows.runsTwoSpec).at F).post enc Tryd.prog Tryd.f8 false true false false) := by
  refine returnsInHanded_of_row (C := Tryd.checked) (s := OpenSpec.ofChange Rows.runsTwoSpec) own started (by kernel_rfl) Tryd.func8
    (witness_row_at (enc := enc) (C := Tryd.checked) false (World.doorLaid Tryd.prog 400 os) #[.slice none 0 0, .int .i64 0, .int .i64 0, .int .i64 0, .int .i64 0] rfl (by kernel_rfl) (by kernel_rfl) (by kernel_rfl)
      (OpenSpec.preRow_of_B rfl 8 (by kernel_rfl) (by kernel_rfl) (laid_met os))) ?_
  intro W base args ds gs before hval hW _ _ _ hL _ _
  exact contract H enc W base args ds gs before hval hW hL
theorem said : Rows.RunsTwoSaid :=
  OpenClaim.holds_of_cond 8 Tryd.f8 rfl rfl rfl rfl rfl rfl rfl ⟨rfl, rfl, rfl, rfl, rfl⟩ rfl rfl rfl rfl rfl (by kernel_rfl) Tryd.func8 (by kernel_rfl)
    (of_decide_eq_true (by kernel_rfl)) (by unfold Func.isWrapper; first | (rw [if_pos (by decide +kernel)]; kernel_rfl) | (rw [if_neg (by decide +kernel)]; exact ⟨rfl, rfl⟩))
    (fun os started H enc _ F => by rw [OpenClaim.pre_eq_preRow]; exact lifted os started H enc F)
theorem plain (f : FuncId) (fn : Func) (hf : Tryd.pinned.checked.prog.funcNamed "breccia/breccialaw05.RunsTwo" = some f) (hfn : Tryd.pinned.checked.prog.funcs[f]? = some fn) :
    false = Tryd.pinned.checked.prog.looks [] ∧ ∀ (j : Nat) t, fn.params[j]? = some t → Tryd.pinned.checked.prog.wantsStandIn t = false := by
  obtain rfl : f = 8 := Option.some.inj ((show Tryd.prog.funcNamed "breccia/breccialaw05.RunsTwo" = some 8 by kernel_rfl).symm.trans hf) |>.symm
  obtain rfl : fn = Tryd.f8 := (Option.some.inj (Tryd.func8.symm.trans hfn)).symm
  refine ⟨by kernel_rfl, fun j t ht => ?_⟩
  rw [Tryd.params8] at ht
  have hm : t ∈ #[22, 3, 3, 3, 3] := Array.mem_of_getElem? ht
  have hm : t ∈ [22, 3] := by simpa using hm
  have hall : ([22, 3].all fun u => !Tryd.prog.wantsStandIn u) = true := by kernel_rfl
  exact (show Tryd.prog.wantsStandIn t = false by simpa using List.all_eq_true.1 hall t hm)
theorem card : Rows.RunsTwoCardSaid :=
  Claim7.holds_tied_plain_at .later [] _ _ _ _ said (fun _ h => by cases h) (by kernel_rfl) (fun _ h => by cases h) runsTwo_row_tie rfl ⟨rfl, rfl⟩ (by kernel_rfl) rfl plain (by kernel_rfl)
#print axioms card
end Go.Proofs.YtldokggfiklcoaaDoor.runsTwo
