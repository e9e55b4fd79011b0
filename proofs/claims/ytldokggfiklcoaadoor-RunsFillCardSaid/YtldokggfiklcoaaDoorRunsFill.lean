/- For any runs, any ends and any number the law RunsFill of layer 5 answers true: places that are filled are the block, all others stay, and the runs may be. Conditions: none: every input. -/
import Derived.Test.YtldokggfiklcoaaDoorRows
import Derived.Test.YtldokggfiklcoaaDoorO02
import Derived.Test.YtldokggfiklcoaaDoorO50
import Derived.Test.YtldokggfiklcoaaDoorL05
import Derived.Test.YtldokggfiklcoaaDoorVRS
import Derived.Test.YtldokggfiklcoaaDoorCards
import Derived.Test.YtldokggfiklcoaaDoorTie
import Derived.WalkKit
import Derived.ProofKit
import Derived.OpenShut
import Derived.Below
import Derived.Carry
import Derived.Deep.DeepHandedRow
import Derived.LaidMore
namespace Go.Proofs.YtldokggfiklcoaaDoor.runsFill
open Go.Proofs.YtldokggfiklcoaaDoor Go.ChangeShapes Go.WideShapes Go.ChangeAt Go.RowKit
set_option linter.unusedVariables false
set_option linter.unusedSimpArgs false
attribute [local go_sem ↓] Go.wp_at_zero Go.wp_at_succ
set_option maxHeartbeats 16000000 in
theorem walk (a0 : Value) (a1 : Int) (w1 : -9223372036854775808 ≤ a1 ∧ a1 ≤ 9223372036854775807) (a2 : Int) (w2 : -9223372036854775808 ≤ a2 ∧ a2 ≤ 9223372036854775807) (a3 : Int) (w3 : -9223372036854775808 ≤ a3 ∧ a3 ≤ 9223372036854775807) (w : World) (w0 : RunsIn w a0) (hV : Vars w) :
    Calls Tryd.prog 6 #[a0, .int .i64 a1, .int .i64 a2, .int .i64 a3] w fun e w' => e = .returned (.bool true) ∧ Below w.heap.size w w' := by
  obtain ⟨l0, hl0, hb0, hm0⟩ := w0
  obtain ⟨C, hG0⟩ : ∃ C, goodC l0 = C := ⟨_, rfl⟩
  have hC : okC C := ⟨by rw [← hG0]; exact goodC_may _, by have := goodC_len l0; rw [hG0] at this; omega⟩
  obtain ⟨N, hN⟩ : ∃ N, C.length = N := ⟨_, rfl⟩
  have hN1 : 0 < N ∧ N ≤ 480 := by have := goodC_len l0; rw [hG0, hN] at this; exact this
  have HB := Lib.hid hb0
  have HG := Lib.hid hG0
  have HC := Lib.hid hC
  have HN := Lib.hid hN
  obtain ⟨bN0, bN1⟩ := hN1
  clear hb0 hG0 hC hN hm0
  have i1 : i64 a1 := w1
  have i2 : i64 a2 := w2
  have i3 : i64 a3 := w3
  obtain ⟨b, hb⟩ : ∃ b, goodF a3 = b := ⟨_, rfl⟩
  have gd := fun k => r4_good a3 i3 k
  rw [hb] at gd
  have hbm : mayB b = true := hb ▸ goodF_may a3
  have ib : i64 b := by have := mayB_bd hbm; constructor <;> omega
  have hfull : fillF C 0 N b C.length = List.replicate N b := by
    rw [← HN.out]
    apply List.ext_getElem
    · simp [fillF]
    · intro j h1 h2
      have hj : j < C.length := by simpa [fillF] using h1
      simp [fillF, hbm, hj]
  have hone : ofF (fillF C 0 N b C.length) = [((N : Int), b)] := by
    rw [hfull]
    have h := ofF_rep (N - 1) b
    rwa [show N - 1 + 1 = N by omega] at h
  obtain ⟨X, hX⟩ : ∃ X, fillF C a1 a2 a3 C.length = X := ⟨_, rfl⟩
  have hXo : okC X := hX ▸ okC_fill HC.out a1 a2 a3 _
  have hXl : X.length = N := by rw [← hX, fillF_length, HN.out]
  have hmy : mayR (ofF X) N = true := by
    have h := may_of hXo.1 (by omega)
    rwa [hXl] at h
  have GD := Lib.hid gd
  have IB := Lib.hid ib
  have H1 := Lib.hid hone
  have BM := Lib.hid hbm
  have HX := Lib.hid hX
  have HXO := Lib.hid hXo
  have HMY := Lib.hid hmy
  have I1 := Lib.hid i1
  have I2 := Lib.hid i2
  have I3 := Lib.hid i3
  clear gd ib hbm hb hfull hone hX hXo hXl hmy i1 i2 i3 w1 w2 w3
  have kw : Below w.heap.size w w := Below.refl _ _
  go_enter Tryd.func6, Tryd.ntmps6
  go_wp2_with fail
  refine (l5_good _ l0 C HG.out _ hl0 HB.out).mono ?_
  rintro e W1 ⟨pg, cg, rfl, hg, hv1⟩
  replace kw := chain kw hv1
  replace hl0 := hl0.keep hv1
  clear hv1
  go_wp2_with fail
  refine (l5_cells _ C HC.out N HN.out _ hg).mono ?_
  rintro e W2 ⟨pn1, cn1, rfl, hn1, hv2⟩
  replace kw := chain kw hv2
  replace hl0 := hl0.keep hv2
  replace hg := hg.keep hv2
  clear hv2
  clear hn1
  go_wp2_with fail
  refine (b5_fill _ C HC.out a1 a2 a3 I1.out I2.out I3.out _ (hV.keep kw) hg).mono ?_
  rintro e W3 ⟨vx, rfl, hx, hv3⟩
  replace kw := chain kw hv3
  replace hl0 := hl0.keep hv3
  replace hg := hg.keep hv3
  clear hv3
  rw [HX.out] at hx
  go_wp2_with (go_at_call 24; refine (GD.out _).mono ?_; rintro e w' ⟨rfl, rfl⟩)
  refine (b5_fill _ C HC.out 0 N b (by decide) (by constructor <;> omega) IB.out _ (hV.keep kw) hg).mono ?_
  rintro e W4 ⟨vy, rfl, hy, hv4⟩
  replace kw := chain kw hv4
  replace hl0 := hl0.keep hv4
  replace hg := hg.keep hv4
  replace hx := hx.keep hv4
  clear hv4
  rw [H1.out] at hy
  obtain ⟨py, cy, rfl⟩ := hy.shape
  simp only [List.length_singleton] at hy ⊢
  go_wp2_with fail
  refine (l5_fill _ C HC.out a1 a2 a3 _ hg).mono ?_
  rintro e W5 ⟨vz, rfl, hz, hv5⟩
  replace kw := chain kw hv5
  replace hl0 := hl0.keep hv5
  replace hg := hg.keep hv5
  replace hx := hx.keep hv5
  replace hy := hy.keep hv5
  clear hv5
  rw [HX.out] at hz
  go_wp2_with fail
  refine (l5_same _ _ _ _ rfl _ hx hz (okC_len HXO.out)).mono ?_
  rintro e W6 ⟨rfl, hv6⟩
  replace kw := chain kw hv6
  replace hl0 := hl0.keep hv6
  replace hg := hg.keep hv6
  replace hx := hx.keep hv6
  replace hy := hy.keep hv6
  replace hz := hz.keep hv6
  clear hv6
  go_wp2_with fail
  refine (b5_may _ (ofF X) N (by constructor <;> omega) _ (hV.keep kw) hx (okC_i64 HXO.out) (len_of HXO.out).2).mono ?_
  rintro e W7 ⟨rfl, hv7⟩
  replace kw := chain kw hv7
  replace hl0 := hl0.keep hv7
  replace hg := hg.keep hv7
  replace hx := hx.keep hv7
  replace hy := hy.keep hv7
  replace hz := hz.keep hv7
  clear hv7
  rw [HMY.out]
  go_wp2_with fail
  refine (b5_len _ [((N : Int), b)] none (goodL_one BM.out (by omega)) (by simp [sumL]; omega) _ hy).mono ?_
  rintro e W8 ⟨rfl, hv8⟩
  replace kw := chain kw hv8
  replace hl0 := hl0.keep hv8
  replace hg := hg.keep hv8
  replace hx := hx.keep hv8
  replace hy := hy.keep hv8
  replace hz := hz.keep hv8
  clear hv8
  rw [show sumL [((N : Int), b)] = N by simp [sumL]]
  go_wp2_with fail
  refine (l5_lives _ (hV.keep kw)).mono ?_
  rintro e W9 ⟨rfl, hv9⟩
  replace kw := chain kw hv9
  replace hl0 := hl0.keep hv9
  replace hg := hg.keep hv9
  replace hx := hx.keep hv9
  replace hy := hy.keep hv9
  replace hz := hz.keep hv9
  clear hv9
  go_wp2
  go_ret
  exact ⟨rfl, by (repeat (first | with_reducible assumption | with_reducible exact Below.refl _ _ | with_reducible refine Below.drew ?_ | with_reducible refine below_drewN ?_ _ | with_reducible refine al ?_ _ | (with_reducible refine sc ?_ ?_; (focus (first | omega | (simp; done) | (simp; omega)))) | (with_reducible refine chain ?_ (by assumption))))⟩
theorem own : ownKnob Tryd.prog.godebug = none := by kernel_rfl
set_option maxRecDepth 100000 in
theorem contract (H : Type) (enc : TypeId × Value → H) (W : World) (base : Nat) (args : Array Value) (ds gs : List (DataW H)) (before : List MemPlace)
    (hval : ∀ (j : Nat) t v, Tryd.f6.params[j]? = some t → args[j]? = some v → Value.okWide Tryd.prog W .any base t v)
    (hW : DataW.Whole enc Tryd.prog Tryd.f6.params.toList Rows.runsFillSpec.vars false W args.toList ds gs before) (hL : laidMetH Tryd.prog Rows.runsFillRow.laid W) :
    Calls Tryd.prog 6 args W fun e W' => ∃ v, e = .returned v ∧ Rows.runsFillSpec.post enc Tryd.prog Tryd.f6 false true false false W args v W' := by
  have hW' := hW
  obtain ⟨p, q, hA0, hV0, rfl, hfz, hnd⟩ := hW
  have hA : DataW.TrodAll enc Tryd.prog W 0 (fun _ => true) true Tryd.f6.params.toList args.toList ds p := hA0
  rw [Tryd.params6] at hA hval
  obtain ⟨v0, vs0, d0, ds0, p0, q0, hargs, rfl, rfl, h0, r0⟩ := trodAll_cons hA
  obtain ⟨v1, vs1, d1, ds1, p1, q1, rfl, rfl, rfl, h1, r1⟩ := trodAll_cons r0
  obtain ⟨v2, vs2, d2, ds2, p2, q2, rfl, rfl, rfl, h2, r2⟩ := trodAll_cons r1
  obtain ⟨v3, vs3, d3, ds3, p3, q3, rfl, rfl, rfl, h3, r3⟩ := trodAll_cons r2
  obtain ⟨rfl, rfl, rfl⟩ := trodAll_nil r3
  obtain rfl : args = #[v0, v1, v2, v3] := by cases args; simp_all
  obtain ⟨rfl, rfl⟩ := trodVars_none hV0
  simp only [List.append_nil] at hW'
  have hlt : ∀ x ∈ p0 ++ (p1 ++ (p2 ++ (p3 ++ ([])))), x.block < W.heap.size := fun x hx => hW'.lt x (by simpa using hx)
  have hlt0 : ∀ x ∈ p0, x.block < W.heap.size := fun x hx => hlt x (List.mem_append.2 (.inl hx))
  have hlt1 : ∀ x ∈ p1, x.block < W.heap.size := fun x hx => hlt x (List.mem_append.2 (.inr (List.mem_append.2 (.inl hx))))
  have hlt2 : ∀ x ∈ p2, x.block < W.heap.size := fun x hx => hlt x (List.mem_append.2 (.inr (List.mem_append.2 (.inr (List.mem_append.2 (.inl hx))))))
  have hlt3 : ∀ x ∈ p3, x.block < W.heap.size := fun x hx => hlt x (List.mem_append.2 (.inr (List.mem_append.2 (.inr (List.mem_append.2 (.inr (List.mem_append.2 (.inl hx))))))))
  have k0 := h0
  have k1 := h1
  have k2 := h2
  have k3 := h3
  have w0 := open_runs (hval 0 22 v0 rfl rfl) h0 hlt0
  obtain ⟨a1, rfl, w1⟩ := open_num (hval 1 3 v1 rfl rfl) h1
  obtain ⟨a2, rfl, w2⟩ := open_num (hval 2 3 v2 rfl rfl) h2
  obtain ⟨a3, rfl, w3⟩ := open_num (hval 3 3 v3 rfl rfl) h3
  clear hA0
  refine (walk v0 a1 w1 a2 w2 a3 w3 W w0 (Vars.of_laid (by kernel_rfl) hL (by simp [Rows.runsFillRow]))).mono fun e W' ⟨he, hg⟩ => ?_
  subst he
  exact ⟨_, rfl, _, _, _, [], _, [], hW', (trodAll_cons_mk (shut_bool Tryd.underlying4 _) trodAll_mk0), (trodAll_cons_mk (Below.trod laidOut (by kernel_rfl) (of_decide_eq_true (by kernel_rfl)) k0 hg hlt0) (trodAll_cons_mk (Below.trod laidOut (by kernel_rfl) (of_decide_eq_true (by kernel_rfl)) k1 hg hlt1) (trodAll_cons_mk (Below.trod laidOut (by kernel_rfl) (of_decide_eq_true (by kernel_rfl)) k2 hg hlt2) (trodAll_cons_mk (Below.trod laidOut (by kernel_rfl) (of_decide_eq_true (by kernel_rfl)) k3 hg hlt3) trodAll_mk0)))), rfl, hg.frame _, fun h => by cases h⟩
set_option maxRecDepth 100000 in
theorem laid_met (os : Os) : laidMetH Tryd.prog Rows.runsFillRow.laid ((World.doorLaid Tryd.prog 400 os).forCall (fun _ _ => 0) ⟨#[], #[.slice none 0 0, .int .i64 0, .int .i64 0, .int .i64 0], []⟩).memory := by
  rw [MakeChecks.laidMetH_plain _ _ _ (by kernel_rfl)]
  exact laidMet_of_run' 8 (by kernel_rfl) (by kernel_rfl)
set_option maxRecDepth 100000 in
theorem lifted (os : Os) (started : os.Started) (H : Type) (enc : TypeId × Value → H) (F : Stop.Interp) :
    ReturnsInHanded {} Tryd.checked os 6 .any ((OpenSpec.ofChange Rows.runsFillSpec).preRow enc Tryd.prog Tryd.f6 Rows.runsFillRow.domain false Rows.runsFillRow.laid) (((OpenSpec.ofChange Rows.runsFillSpec).at F).post enc Tryd.prog Tryd.f6 false true false false) := by
  refine returnsInHanded_of_row (C := Tryd.checked) (s := OpenSpec.ofChange Rows.runsFillSpec) own started (by kernel_rfl) Tryd.func6
    (witness_row_at (enc := enc) (C := Tryd.checked) false (World.doorLaid Tryd.prog 400 os) #[.slice none 0 0, .int .i64 0, .int .i64 0, .int .i64 0] rfl (by kernel_rfl) (by kernel_rfl) (by kernel_rfl)
      (OpenSpec.preRow_of_B rfl 8 (by kernel_rfl) (by kernel_rfl) (laid_met os))) ?_
  intro W base args ds gs before hval hW _ _ _ hL _ _
  exact contract H enc W base args ds gs before hval hW hL
theorem said : Rows.RunsFillSaid :=
  OpenClaim.holds_of_cond 6 Tryd.f6 rfl rfl rfl rfl rfl rfl rfl ⟨rfl, rfl, rfl, rfl, rfl⟩ rfl rfl rfl rfl rfl (by kernel_rfl) Tryd.func6 (by kernel_rfl)
    (of_decide_eq_true (by kernel_rfl)) (by unfold Func.isWrapper; first | (rw [if_pos (by decide +kernel)]; kernel_rfl) | (rw [if_neg (by decide +kernel)]; exact ⟨rfl, rfl⟩))
    (fun os started H enc _ F => by rw [OpenClaim.pre_eq_preRow]; exact lifted os started H enc F)
theorem plain (f : FuncId) (fn : Func) (hf : Tryd.pinned.checked.prog.funcNamed "breccia/breccialaw05.RunsFill" = some f) (hfn : Tryd.pinned.checked.prog.funcs[f]? = some fn) :
    false = Tryd.pinned.checked.prog.looks [] ∧ ∀ (j : Nat) t, fn.params[j]? = some t → Tryd.pinned.checked.prog.wantsStandIn t = false := by
  obtain rfl : f = 6 := Option.some.inj ((show Tryd.prog.funcNamed "breccia/breccialaw05.RunsFill" = some 6 by kernel_rfl).symm.trans hf) |>.symm
  obtain rfl : fn = Tryd.f6 := (Option.some.inj (Tryd.func6.symm.trans hfn)).symm
  refine ⟨by kernel_rfl, fun j t ht => ?_⟩
  rw [Tryd.params6] at ht
  have hm : t ∈ #[22, 3, 3, 3] := Array.mem_of_getElem? ht
  have hm : t ∈ [22, 3] := by simpa using hm
  have hall : ([22, 3].all fun u => !Tryd.prog.wantsStandIn u) = true := by kernel_rfl
  exact (show Tryd.prog.wantsStandIn t = false by simpa using List.all_eq_true.1 hall t hm)
theorem card : Rows.RunsFillCardSaid :=
  Claim7.holds_tied_plain_at .later [] _ _ _ _ said (fun _ h => by cases h) (by kernel_rfl) (fun _ h => by cases h) runsFill_row_tie rfl ⟨rfl, rfl⟩ (by kernel_rfl) rfl plain (by kernel_rfl)
#print axioms card
end Go.Proofs.YtldokggfiklcoaaDoor.runsFill
