/- For any runs, any byte and any number the law CodeRound of layer 6 answers true: what is written is read as it was, of as many cells, and of no other number; with a byte more, or less, it is refused. Conditions: none: every input. -/
import Derived.Test.YtafmekojdaeliaaDoorRows
import Derived.Test.YtafmekojdaeliaaDoorO02
import Derived.Test.YtafmekojdaeliaaDoorO50
import Derived.Test.YtafmekojdaeliaaDoorO60
import Derived.Test.YtafmekojdaeliaaDoorL06
import Derived.Test.YtafmekojdaeliaaDoorVRS
import Derived.Test.YtafmekojdaeliaaDoorCards
import Derived.Test.YtafmekojdaeliaaDoorTie
import Derived.WalkKit
import Derived.ProofKit
import Derived.OpenShut
import Derived.Below
import Derived.Carry
import Derived.Deep.DeepHandedRow
import Derived.LaidMore
namespace Go.Proofs.YtafmekojdaeliaaDoor.codeRound
open Go.Proofs.YtafmekojdaeliaaDoor Go.ChangeShapes Go.WideShapes Go.ChangeAt Go.RowKit
set_option linter.unusedVariables false
set_option linter.unusedSimpArgs false
attribute [local go_sem ↓] Go.wp_at_zero Go.wp_at_succ
set_option maxHeartbeats 16000000 in
theorem walk (a0 : Value) (a1 : Int) (w1 : 0 ≤ a1 ∧ a1 ≤ 255) (a2 : Int) (w2 : -9223372036854775808 ≤ a2 ∧ a2 ≤ 9223372036854775807) (w : World) (w0 : RunsIn w a0) (hV : Vars w) :
    Calls Tryd.prog 4 #[a0, .int .u8 a1, .int .i64 a2] w fun e w' => e = .returned (.bool true) ∧ Below w.heap.size w w' := by
  obtain ⟨l0, hl0, hb0, hm0⟩ := w0
  obtain ⟨C, hG0⟩ : ∃ C, goodC l0 = C := ⟨_, rfl⟩
  have hC : okC C := ⟨by rw [← hG0]; exact goodC_may _, by have := goodC_len l0; rw [hG0] at this; omega⟩
  obtain ⟨N, hN⟩ : ∃ N, C.length = N := ⟨_, rfl⟩
  have hN1 : 0 < N ∧ N ≤ 480 := by have := goodC_len l0; rw [hG0, hN] at this; exact this
  have HB := Lib.hid hb0
  have HG := Lib.hid hG0
  have HC := Lib.hid hC
  have HN := Lib.hid hN
  obtain ⟨bN0, bN1⟩ := hN1
  clear hb0 hG0 hC hN hm0
  obtain ⟨x0, x1⟩ := w1
  have gk := fun k => r_around a2 600 w2.1 w2.2 (by omega) (by omega) k
  have bk := around_bd a2 600 (by omega)
  obtain ⟨k, hk⟩ : ∃ k, aroundF a2 600 = k := ⟨_, rfl⟩
  rw [hk] at gk bk
  obtain ⟨bk0, bk1⟩ := bk
  obtain ⟨f1, f2, f3, f4, f5, f6, f7, f8⟩ := round_facts HC.out (by rw [HN.out]; omega)
  rw [HN.out] at f5 f6 f7 f8
  obtain ⟨D, hD⟩ : ∃ D, ofF C = D := ⟨_, rfl⟩
  have we : wrE D = 0 := by rw [← hD]; exact wrE_good (wr_good HC.out (by rw [HN.out]; omega))
  have iD : ∀ j (h : j < D.length), i64 D[j].1 ∧ i64 D[j].2 := hD ▸ okC_i64 HC.out
  have lD : D.length ≤ 480 := by have := ofF_len C; rw [hD, HN.out] at this; omega
  rw [hD] at f1 f2 f3 f4 f5 f6 f7 f8
  obtain ⟨B, hB⟩ : ∃ B, bytesF D = B := ⟨_, rfl⟩
  have l4 := bytesF_len D
  rw [hB] at f1 f2 f3 f4 f5 f6 f7 f8 l4
  have lB : B.length ≤ 2000 := by omega
  obtain ⟨q, hq⟩ : ∃ q, B.length = q + 1 := ⟨B.length - 1, by omega⟩
  rw [hq] at f3 f8 lB
  rw [show q + 1 - 1 = q by omega] at f8
  have f7 := f7 a1
  obtain ⟨R1, hR1⟩ : ∃ R, readF B (1 + k) = R := ⟨_, rfl⟩
  obtain ⟨R2, hR2⟩ : ∃ R, readF (B.take q) N = R := ⟨_, rfl⟩
  have f6 := f6 (1 + k) (by omega) (by omega)
  rw [hR1] at f6
  rw [hR2] at f8
  have two : (1 + k = N ∧ R1 = (0, D)) ∨ (1 + k ≠ N ∧ R1.1 ≠ 0 ∧ R1.2 = []) := by
    by_cases h : 1 + k = N
    · exact .inl ⟨h, by rw [← hR1, h]; exact f5⟩
    · exact .inr ⟨h, f6 h⟩
  obtain ⟨er1, rl1⟩ := R1
  obtain ⟨er2, rl2⟩ := R2
  have oX : bytOk [a1] := fun x hx => by simp at hx; omega
  have GK := Lib.hid gk
  have HD := Lib.hid hD
  have WE := Lib.hid we
  have ID := Lib.hid iD
  have F1 := Lib.hid f1
  have OKB := Lib.hid f2
  have HQ := Lib.hid hq
  have F5 := Lib.hid f5
  have F7 := Lib.hid f7
  have OX := Lib.hid oX
  have HR1 := Lib.hid hR1
  have HR2 := Lib.hid hR2
  have hj : (er2 != 0) = true := by simpa using f8
  have hj2 : (er2 == 0) = false := by simpa using f8
  have bq : (1 : Int) ≤ q := by omega
  have bq2 : q ≤ 2000 := by omega
  have iN : i64 N := by constructor <;> omega
  have TWO := Lib.hid two
  clear gk hk hD we iD f1 f2 f4 f5 f6 f7 f8 hB hq hR1 hR2 l4 lB oX w2 two f3
  obtain ⟨i0, hi, hz, hsz, hby⟩ := byte_info
  rcases TWO.out with ⟨hm, he⟩ | ⟨hm, he, hl⟩
  · simp only [Prod.mk.injEq] at he
    obtain ⟨rfl, rfl⟩ := he
    have hm1 : (1 + k == (N : Int)) = true := by simpa using hm
    have hm2 : (1 + k != (N : Int)) = false := by simpa using hm
    clear hm TWO
    have kw : Below w.heap.size w w := Below.refl _ _
    go_enter Tryd.func4, Tryd.ntmps4
    go_wp2_with fail
    refine (l5_good _ l0 C HG.out _ hl0 HB.out).mono ?_
    rintro e W1 ⟨pg, cg, rfl, hg, hv1⟩
    replace kw := chain kw hv1
    replace hl0 := hl0.keep hv1
    clear hv1
    go_wp2_with fail
    refine (l5_cells _ C HC.out N HN.out _ hg).mono ?_
    rintro e W2 ⟨pn1, cn1, rfl, hn1, hv2⟩
    replace kw := chain kw hv2
    replace hl0 := hl0.keep hv2
    replace hg := hg.keep hv2
    clear hv2
    clear hn1
    rw [HD.out] at hg ⊢
    go_wp2_with fail
    refine (b6_write _ rl1 _ (hV.keep kw) hg ID.out (by omega)).mono ?_
    rintro e W3 ⟨vb, rfl, hb, hv3⟩
    replace kw := chain kw hv3
    replace hl0 := hl0.keep hv3
    replace hg := hg.keep hv3
    clear hv3
    rw [F1.out] at hb
    rw [WE.out]
    obtain ⟨pb, cb, rfl, hbf⟩ := hb.form
    have hcb : q + 1 ≤ cb := by obtain ⟨_, _, _, h, _⟩ := hbf (by rw [HQ.out]; omega); rw [HQ.out] at h; exact h
    clear hbf
    rw [HQ.out] at hb ⊢
    go_wp2_with fail
    refine (b6_read _ B N (by omega) (by omega) _ (hV.keep kw) hb OKB.out (by rw [HQ.out]; omega)).mono ?_
    rintro e W4 ⟨vr, rfl, hr, hv4⟩
    replace kw := chain kw hv4
    replace hl0 := hl0.keep hv4
    replace hg := hg.keep hv4
    replace hb := hb.keep hv4
    clear hv4
    rw [F5.out] at hr ⊢
    dsimp only at hr
    go_wp2_with fail
    refine (l5_same _ _ _ _ rfl _ hr hg (by omega)).mono ?_
    rintro e W5 ⟨rfl, hv5⟩
    replace kw := chain kw hv5
    replace hl0 := hl0.keep hv5
    replace hg := hg.keep hv5
    replace hb := hb.keep hv5
    replace hr := hr.keep hv5
    clear hv5
    clear hr
    go_wp2_with fail
    refine (GK.out _).mono ?_
    rintro e w' ⟨rfl, rfl⟩
    go_wp2_with fail
    refine (b6_read _ B (1 + k) (by omega) (by omega) _ (hV.keep kw) hb OKB.out (by rw [HQ.out]; omega)).mono ?_
    rintro e W6 ⟨vs, rfl, hs, hv6⟩
    replace kw := chain kw hv6
    replace hl0 := hl0.keep hv6
    replace hg := hg.keep hv6
    replace hb := hb.keep hv6
    clear hv6
    rw [HR1.out] at hs ⊢
    dsimp only at hs
    obtain ⟨ps, cs, rfl⟩ := hs.shape
    clear hs
    have hb1 := hb.take (k := q) (by omega)
    go_wp2_with (at_builtin; first | (refine app_any _ rfl _ _ 25 rfl W6.heap.size 5 i0 _ Tryd.underlying25 hi hz hsz hby rfl _ _ _ rfl (World.ownsRow_nil _ _ _ _) B _ _ _ rfl hb (by omega) (Nat.le_refl _) ?_; intro va X1 hoa hga; have ka : Below W6.heap.size W6 X1 := Below.own0 (Below.refl _ _) hga; clear hga) | (refine app_byte _ rfl _ _ 25 rfl W6.heap.size 5 i0 _ Tryd.underlying25 hi hz hsz hby rfl _ _ _ rfl (hoa.alloc _) X1.heap.size (.int .u8 a1) rfl (by go_simp) rfl (by simp; omega) (by have := ka.size; simp; omega) ?_; intro vc X2 hoc hgc; have kc : Below W6.heap.size W6 X2 := Below.own (al ka _) (hoa.alloc _) hgc; clear hoa ka hgc))
    have hc : BytsAt X2 vc (B ++ [a1]) := by
      have e1 : bytVs (B ++ [a1]) = ([] ++ bytVs B) ++ [.int .u8 a1] := by simp
      have e2 : (B ++ [a1]).length = 0 + (q + 1) + 1 := by rw [List.length_append, HQ.out]; simp
      exact byts_of_owned (by rw [e1, e2]; exact hoc)
    replace kw := chain kw kc
    replace hb1 := hb1.keep kc
    clear hoc kc hb hg
    refine (b6_read _ (B ++ [a1]) N (by omega) (by omega) _ (hV.keep kw) hc (OKB.out.append OX.out) (by rw [List.length_append, HQ.out]; simp; omega)).mono ?_
    rintro e X3 ⟨v3, rfl, h3, hv⟩
    rw [F7.out]
    replace kw := chain kw hv
    replace hb1 := hb1.keep hv
    clear hv hc h3
    go_wp2_with fail
    refine (b6_read _ (B.take q) N (by omega) (by omega) _ (hV.keep kw) hb1 (OKB.out.take q) (by rw [List.length_take, HQ.out]; omega)).mono ?_
    rintro e X4 ⟨v4, rfl, h4, hv⟩
    rw [HR2.out]
    replace kw := chain kw hv
    clear hv h4 hb1
    go_wp2_with fail
    refine (l6_lives _ (hV.keep kw)).mono ?_
    rintro e X5 ⟨rfl, hv⟩
    go_wp2
    go_ret
    exact ⟨rfl, by (repeat (first | with_reducible assumption | with_reducible exact Below.refl _ _ | with_reducible refine Below.drew ?_ | with_reducible refine below_drewN ?_ _ | with_reducible refine al ?_ _ | (with_reducible refine sc ?_ ?_; (focus (first | omega | (simp; done) | (simp; omega)))) | (with_reducible refine chain ?_ (by assumption))))⟩
  · have hl : rl1 = [] := hl
    subst hl
    have he : er1 ≠ 0 := he
    have he2 : (er1 == 0) = false := by simpa using he
    have hm1 : (1 + k == (N : Int)) = false := by simpa using hm
    have hm2 : (1 + k != (N : Int)) = true := by simpa using hm
    clear hm TWO
    have kw : Below w.heap.size w w := Below.refl _ _
    go_enter Tryd.func4, Tryd.ntmps4
    go_wp2_with fail
    refine (l5_good _ l0 C HG.out _ hl0 HB.out).mono ?_
    rintro e W1 ⟨pg, cg, rfl, hg, hv1⟩
    replace kw := chain kw hv1
    replace hl0 := hl0.keep hv1
    clear hv1
    go_wp2_with fail
    refine (l5_cells _ C HC.out N HN.out _ hg).mono ?_
    rintro e W2 ⟨pn1, cn1, rfl, hn1, hv2⟩
    replace kw := chain kw hv2
    replace hl0 := hl0.keep hv2
    replace hg := hg.keep hv2
    clear hv2
    clear hn1
    rw [HD.out] at hg ⊢
    go_wp2_with fail
    refine (b6_write _ D _ (hV.keep kw) hg ID.out (by omega)).mono ?_
    rintro e W3 ⟨vb, rfl, hb, hv3⟩
    replace kw := chain kw hv3
    replace hl0 := hl0.keep hv3
    replace hg := hg.keep hv3
    clear hv3
    rw [F1.out] at hb
    rw [WE.out]
    obtain ⟨pb, cb, rfl, hbf⟩ := hb.form
    have hcb : q + 1 ≤ cb := by obtain ⟨_, _, _, h, _⟩ := hbf (by rw [HQ.out]; omega); rw [HQ.out] at h; exact h
    clear hbf
    rw [HQ.out] at hb ⊢
    go_wp2_with fail
    refine (b6_read _ B N (by omega) (by omega) _ (hV.keep kw) hb OKB.out (by rw [HQ.out]; omega)).mono ?_
    rintro e W4 ⟨vr, rfl, hr, hv4⟩
    replace kw := chain kw hv4
    replace hl0 := hl0.keep hv4
    replace hg := hg.keep hv4
    replace hb := hb.keep hv4
    clear hv4
    rw [F5.out] at hr ⊢
    dsimp only at hr
    go_wp2_with fail
    refine (l5_same _ _ _ _ rfl _ hr hg (by omega)).mono ?_
    rintro e W5 ⟨rfl, hv5⟩
    replace kw := chain kw hv5
    replace hl0 := hl0.keep hv5
    replace hg := hg.keep hv5
    replace hb := hb.keep hv5
    replace hr := hr.keep hv5
    clear hv5
    clear hr
    go_wp2_with fail
    refine (GK.out _).mono ?_
    rintro e w' ⟨rfl, rfl⟩
    go_wp2_with fail
    refine (b6_read _ B (1 + k) (by omega) (by omega) _ (hV.keep kw) hb OKB.out (by rw [HQ.out]; omega)).mono ?_
    rintro e W6 ⟨vs, rfl, hs, hv6⟩
    replace kw := chain kw hv6
    replace hl0 := hl0.keep hv6
    replace hg := hg.keep hv6
    replace hb := hb.keep hv6
    clear hv6
    rw [HR1.out] at hs ⊢
    dsimp only at hs
    obtain ⟨ps, cs, rfl⟩ := hs.shape
    clear hs
    have hb1 := hb.take (k := q) (by omega)
    go_wp2_with (at_builtin; first | (refine app_any _ rfl _ _ 25 rfl W6.heap.size 5 i0 _ Tryd.underlying25 hi hz hsz hby rfl _ _ _ rfl (World.ownsRow_nil _ _ _ _) B _ _ _ rfl hb (by omega) (Nat.le_refl _) ?_; intro va X1 hoa hga; have ka : Below W6.heap.size W6 X1 := Below.own0 (Below.refl _ _) hga; clear hga) | (refine app_byte _ rfl _ _ 25 rfl W6.heap.size 5 i0 _ Tryd.underlying25 hi hz hsz hby rfl _ _ _ rfl (hoa.alloc _) X1.heap.size (.int .u8 a1) rfl (by go_simp) rfl (by simp; omega) (by have := ka.size; simp; omega) ?_; intro vc X2 hoc hgc; have kc : Below W6.heap.size W6 X2 := Below.own (al ka _) (hoa.alloc _) hgc; clear hoa ka hgc))
    have hc : BytsAt X2 vc (B ++ [a1]) := by
      have e1 : bytVs (B ++ [a1]) = ([] ++ bytVs B) ++ [.int .u8 a1] := by simp
      have e2 : (B ++ [a1]).length = 0 + (q + 1) + 1 := by rw [List.length_append, HQ.out]; simp
      exact byts_of_owned (by rw [e1, e2]; exact hoc)
    replace kw := chain kw kc
    replace hb1 := hb1.keep kc
    clear hoc kc hb hg
    refine (b6_read _ (B ++ [a1]) N (by omega) (by omega) _ (hV.keep kw) hc (OKB.out.append OX.out) (by rw [List.length_append, HQ.out]; simp; omega)).mono ?_
    rintro e X3 ⟨v3, rfl, h3, hv⟩
    rw [F7.out]
    replace kw := chain kw hv
    replace hb1 := hb1.keep hv
    clear hv hc h3
    go_wp2_with fail
    refine (b6_read _ (B.take q) N (by omega) (by omega) _ (hV.keep kw) hb1 (OKB.out.take q) (by rw [List.length_take, HQ.out]; omega)).mono ?_
    rintro e X4 ⟨v4, rfl, h4, hv⟩
    rw [HR2.out]
    replace kw := chain kw hv
    clear hv h4 hb1
    go_wp2_with fail
    refine (l6_lives _ (hV.keep kw)).mono ?_
    rintro e X5 ⟨rfl, hv⟩
    go_wp2
    go_ret
    exact ⟨rfl, by (repeat (first | with_reducible assumption | with_reducible exact Below.refl _ _ | with_reducible refine Below.drew ?_ | with_reducible refine below_drewN ?_ _ | with_reducible refine al ?_ _ | (with_reducible refine sc ?_ ?_; (focus (first | omega | (simp; done) | (simp; omega)))) | (with_reducible refine chain ?_ (by assumption))))⟩
theorem own : ownKnob Tryd.prog.godebug = none := by kernel_rfl
set_option maxRecDepth 100000 in
theorem contract (H : Type) (enc : TypeId × Value → H) (W : World) (base : Nat) (args : Array Value) (ds gs : List (DataW H)) (before : List MemPlace)
    (hval : ∀ (j : Nat) t v, Tryd.f4.params[j]? = some t → args[j]? = some v → Value.okWide Tryd.prog W .any base t v)
    (hW : DataW.Whole enc Tryd.prog Tryd.f4.params.toList Rows.codeRoundSpec.vars false W args.toList ds gs before) (hL : laidMetH Tryd.prog Rows.codeRoundRow.laid W) :
    Calls Tryd.prog 4 args W fun e W' => ∃ v, e = .returned v ∧ Rows.codeRoundSpec.post enc Tryd.prog Tryd.f4 false true false false W args v W' := by
  have hW' := hW
  obtain ⟨p, q, hA0, hV0, rfl, hfz, hnd⟩ := hW
  have hA : DataW.TrodAll enc Tryd.prog W 0 (fun _ => true) true Tryd.f4.params.toList args.toList ds p := hA0
  rw [Tryd.params4] at hA hval
  obtain ⟨v0, vs0, d0, ds0, p0, q0, hargs, rfl, rfl, h0, r0⟩ := trodAll_cons hA
  obtain ⟨v1, vs1, d1, ds1, p1, q1, rfl, rfl, rfl, h1, r1⟩ := trodAll_cons r0
  obtain ⟨v2, vs2, d2, ds2, p2, q2, rfl, rfl, rfl, h2, r2⟩ := trodAll_cons r1
  obtain ⟨rfl, rfl, rfl⟩ := trodAll_nil r2
  obtain rfl : args = #[v0, v1, v2] := by cases args; simp_all
  obtain ⟨rfl, rfl⟩ := trodVars_none hV0
  simp only [List.append_nil] at hW'
  have hlt : ∀ x ∈ p0 ++ (p1 ++ (p2 ++ ([]))), x.block < W.heap.size := fun x hx => hW'.lt x (by simpa using hx)
  have hlt0 : ∀ x ∈ p0, x.block < W.heap.size := fun x hx => hlt x (List.mem_append.2 (.inl hx))
  have hlt1 : ∀ x ∈ p1, x.block < W.heap.size := fun x hx => hlt x (List.mem_append.2 (.inr (List.mem_append.2 (.inl hx))))
  have hlt2 : ∀ x ∈ p2, x.block < W.heap.size := fun x hx => hlt x (List.mem_append.2 (.inr (List.mem_append.2 (.inr (List.mem_append.2 (.inl hx))))))
  have k0 := h0
  have k1 := h1
  have k2 := h2
  have w0 := open_runs (hval 0 22 v0 rfl rfl) h0 hlt0
  obtain ⟨a1, rfl, w1⟩ := open_byte (hval 1 5 v1 rfl rfl) h1
  obtain ⟨a2, rfl, w2⟩ := open_num (hval 2 3 v2 rfl rfl) h2
  clear hA0
  refine (walk v0 a1 w1 a2 w2 W w0 (Vars.of_laid (by kernel_rfl) hL (by simp [Rows.codeRoundRow]))).mono fun e W' ⟨he, hg⟩ => ?_
  subst he
  exact ⟨_, rfl, _, _, _, [], _, [], hW', (trodAll_cons_mk (shut_bool Tryd.underlying4 _) trodAll_mk0), (trodAll_cons_mk (Below.trod laidOut (by kernel_rfl) (of_decide_eq_true (by kernel_rfl)) k0 hg hlt0) (trodAll_cons_mk (Below.trod laidOut (by kernel_rfl) (of_decide_eq_true (by kernel_rfl)) k1 hg hlt1) (trodAll_cons_mk (Below.trod laidOut (by kernel_rfl) (of_decide_eq_true (by kernel_rfl)) k2 hg hlt2) trodAll_mk0))), rfl, hg.frame _, fun h => by cases h⟩
set_option maxRecDepth 100000 in
theorem laid_met (os : Os) : laidMetH Tryd.prog Rows.codeRoundRow.laid ((World.doorLaid Tryd.prog 400 os).forCall (fun _ _ => 0) ⟨#[], #[.slice none 0 0, .int .u8 0, .int .i64 0], []⟩).memory := by
  rw [MakeChecks.laidMetH_plain _ _ _ (by kernel_rfl)]
  exact laidMet_of_run' 8 (by kernel_rfl) (by kernel_rfl)
set_option maxRecDepth 100000 in
theorem lifted (os : Os) (started : os.Started) (H : Type) (enc : TypeId × Value → H) (F : Stop.Interp) :
    ReturnsInHanded {} Tryd.checked os 4 .any ((OpenSpec.ofChange Rows.codeRoundSpec).preRow enc Tryd.prog Tryd.f4 Rows.codeRoundRow.domain false Rows.codeRoundRow.laid) (((OpenSpec.ofChange Rows.codeRoundSpec).at F).post enc Tryd.prog Tryd.f4 false true false false) := by
  refine returnsInHanded_of_row (C := Tryd.checked) (s := OpenSpec.ofChange Rows.codeRoundSpec) own started (by kernel_rfl) Tryd.func4
    (witness_row_at (enc := enc) (C := Tryd.checked) false (World.doorLaid Tryd.prog 400 os) #[.slice none 0 0, .int .u8 0, .int .i64 0] rfl (by kernel_rfl) (by kernel_rfl) (by kernel_rfl)
      (OpenSpec.preRow_of_B rfl 8 (by kernel_rfl) (by kernel_rfl) (laid_met os))) ?_
  intro W base args ds gs before hval hW _ _ _ hL _ _
  exact contract H enc W base args ds gs before hval hW hL
theorem said : Rows.CodeRoundSaid :=
  OpenClaim.holds_of_cond 4 Tryd.f4 rfl rfl rfl rfl rfl rfl rfl ⟨rfl, rfl, rfl, rfl, rfl⟩ rfl rfl rfl rfl rfl (by kernel_rfl) Tryd.func4 (by kernel_rfl)
    (of_decide_eq_true (by kernel_rfl)) (by unfold Func.isWrapper; first | (rw [if_pos (by decide +kernel)]; kernel_rfl) | (rw [if_neg (by decide +kernel)]; exact ⟨rfl, rfl⟩))
    (fun os started H enc _ F => by rw [OpenClaim.pre_eq_preRow]; exact lifted os started H enc F)
theorem plain (f : FuncId) (fn : Func) (hf : Tryd.pinned.checked.prog.funcNamed "breccia/breccialaw06.CodeRound" = some f) (hfn : Tryd.pinned.checked.prog.funcs[f]? = some fn) :
    false = Tryd.pinned.checked.prog.looks [] ∧ ∀ (j : Nat) t, fn.params[j]? = some t → Tryd.pinned.checked.prog.wantsStandIn t = false := by
  obtain rfl : f = 4 := Option.some.inj ((show Tryd.prog.funcNamed "breccia/breccialaw06.CodeRound" = some 4 by kernel_rfl).symm.trans hf) |>.symm
  obtain rfl : fn = Tryd.f4 := (Option.some.inj (Tryd.func4.symm.trans hfn)).symm
  refine ⟨by kernel_rfl, fun j t ht => ?_⟩
  rw [Tryd.params4] at ht
  have hm : t ∈ #[22, 5, 3] := Array.mem_of_getElem? ht
  have hm : t ∈ [22, 5, 3] := by simpa using hm
  have hall : ([22, 5, 3].all fun u => !Tryd.prog.wantsStandIn u) = true := by kernel_rfl
  exact (show Tryd.prog.wantsStandIn t = false by simpa using List.all_eq_true.1 hall t hm)
theorem card : Rows.CodeRoundCardSaid :=
  Claim7.holds_tied_plain_at .later [] _ _ _ _ said (fun _ h => by cases h) (by kernel_rfl) (fun _ h => by cases h) codeRound_row_tie rfl ⟨rfl, rfl⟩ (by kernel_rfl) rfl plain (by kernel_rfl)
#print axioms card
end Go.Proofs.YtafmekojdaeliaaDoor.codeRound
