/- For any runs the law CodeWrites of layer 6 answers true: the bytes of runs are the document's; such as may not be are refused. Conditions: none: every input. -/
import Derived.Test.YtafmekojdaeliaaDoorRows
import Derived.Test.YtafmekojdaeliaaDoorO02
import Derived.Test.YtafmekojdaeliaaDoorO50
import Derived.Test.YtafmekojdaeliaaDoorL06
import Derived.Test.YtafmekojdaeliaaDoorVRS
import Derived.Test.YtafmekojdaeliaaDoorCards
import Derived.Test.YtafmekojdaeliaaDoorTie
import Derived.WalkKit
import Derived.ProofKit
import Derived.OpenShut
import Derived.Below
import Derived.Carry
import Derived.Deep.DeepHandedRow
import Derived.LaidMore
namespace Go.Proofs.YtafmekojdaeliaaDoor.codeWrites
open Go.Proofs.YtafmekojdaeliaaDoor Go.ChangeShapes Go.WideShapes Go.ChangeAt Go.RowKit
set_option linter.unusedVariables false
set_option linter.unusedSimpArgs false
attribute [local go_sem ↓] Go.wp_at_zero Go.wp_at_succ
set_option maxHeartbeats 16000000 in
theorem walk (a0 : Value) (w : World) (w0 : RunsIn w a0) (hV : Vars w) :
    Calls Tryd.prog 3 #[a0] w fun e w' => e = .returned (.bool true) ∧ Below w.heap.size w w' := by
  obtain ⟨l0, hl0, hb0, hm0⟩ := w0
  obtain ⟨p0, c0, rfl, hf⟩ := hl0.form
  obtain ⟨M, hM⟩ : ∃ M, l0.length = M := ⟨_, rfl⟩
  have hf2 : 0 < M → ∃ g off, p0 = some ⟨g, off, none⟩ ∧ M ≤ c0 := fun h => by
    obtain ⟨g, off, e, hc, _⟩ := hf (by omega)
    exact ⟨g, off, e, by omega⟩
  clear hf
  rw [hM] at hl0 hm0 ⊢
  unfold maxLen at hm0
  by_cases h20 : (20 : Int) < M
  · obtain ⟨g0, off0, rfl, hcap⟩ := hf2 (by omega)
    have hl := hl0.take (k := 20) (by omega)
    have hb := i64_take 20 hb0
    have hle : (l0.take 20).length ≤ 20 := by simp; omega
    have b0 : (20 : Int) ≤ c0 := by omega
    generalize l0.take 20 = l at *
    obtain ⟨K, hK⟩ : ∃ K, K = 20 := ⟨_, rfl⟩
    rw [← hK] at hl
    have HK := Lib.hid hK
    clear hl0 hb0 hf2 hM hK
    obtain ⟨C, hG⟩ : ∃ C, goodC l = C := ⟨_, rfl⟩
    have hC : okC C := ⟨by rw [← hG]; exact goodC_may _, by have := goodC_len l; rw [hG] at this; omega⟩
    have hNC : C.length ≤ 480 := by have := goodC_len l; rw [hG] at this; omega
    obtain ⟨D, hD⟩ : ∃ D, ofF C = D := ⟨_, rfl⟩
    have lD : D.length ≤ 480 := by have := ofF_len C; rw [hD] at this; omega
    have iD : ∀ j (h : j < D.length), i64 D[j].1 ∧ i64 D[j].2 := hD ▸ okC_i64 hC
    have HB := Lib.hid hb
    have HG := Lib.hid hG
    have HD := Lib.hid hD
    have ID := Lib.hid iD
    clear hb hG hC hNC hD iD
    have kw : Below w.heap.size w w := Below.refl _ _
    go_enter Tryd.func3, Tryd.ntmps3
    go_wp2_with fail
    refine (l5_good _ l C HG.out _ (by first | exact hl | (rw [HK.out] at hl; exact hl)) HB.out).mono ?_
    rintro e W1 ⟨pg, cg, rfl, hg, hv1⟩
    replace kw := chain kw hv1
    replace hl := hl.keep hv1
    clear hv1
    rw [HD.out] at hg ⊢
    rw [HK.out] at hl
    obtain ⟨nd, hnd⟩ : ∃ n, D.length = n := ⟨_, rfl⟩
    rw [hnd] at hg ⊢
    clear hnd
    obtain ⟨u, hu⟩ : ∃ u, W1.alloc (.cells #[(.slice (some ⟨g0, off0, none⟩) 20 c0), .slice pg nd cg] 22) = u := ⟨_, rfl⟩
    have ku : Below W1.heap.size W1 u := by rw [← hu]; exact al (Below.refl _ _) _
    have rb : RowAt u W1.heap.size #[(.slice (some ⟨g0, off0, none⟩) 20 c0), .slice pg nd cg] 22 := by rw [← hu]; exact RowAt.new W1 _ _
    replace kw := chain kw ku
    replace hl := hl.keep ku
    replace hg := hg.keep ku
    have HU := Lib.hid hu
    clear hu ku
    go_upto_region 4 with (fail)
    rw [HU.out]
    go_wp2_with fail
    refine wp_loop_rounds 3 ?_
    rw [rounds_succ]
    have c0 := rb.two.1
    have z0 := rb.lt
    go_wp2_with fail
    refine (b6_write _ l _ (hV.keep kw) hl HB.out (by omega)).mono ?_
    rintro e W2 ⟨vb, rfl, hb, hv2⟩
    replace kw := chain kw hv2
    replace hl := hl.keep hv2
    replace hg := hg.keep hv2
    replace rb := rb.keep hv2
    clear hv2
    clear c0 z0
    have c0 := rb.two.1
    have z0 := rb.lt
    obtain ⟨we, hwe⟩ : ∃ e, wrE l = e := ⟨_, rfl⟩
    rw [hwe]
    have HWE := Lib.hid hwe
    clear hwe
    go_wp2_with fail
    refine (l6_write _ l _ hl HB.out (by omega)).mono ?_
    rintro e W3 ⟨vc, rfl, hc, hv3⟩
    replace kw := chain kw hv3
    replace hl := hl.keep hv3
    replace hg := hg.keep hv3
    replace rb := rb.keep hv3
    replace hb := hb.keep hv3
    clear hv3
    clear c0 z0
    rw [HWE.out]
    go_wp2_with fail
    refine (l6_same _ _ _ _ rfl _ hb hc (writeF_ok l)).mono ?_
    rintro e W4 ⟨rfl, hv4⟩
    replace kw := chain kw hv4
    replace hl := hl.keep hv4
    replace hg := hg.keep hv4
    replace rb := rb.keep hv4
    replace hb := hb.keep hv4
    replace hc := hc.keep hv4
    clear hv4
    clear hb hc
    clear HWE
    go_wp2_with fail
    rw [rounds_succ]
    have c1 := rb.two.2
    have z1 := rb.lt
    go_wp2_with fail
    refine (b6_write _ D _ (hV.keep kw) hg ID.out (by omega)).mono ?_
    rintro e W5 ⟨vb, rfl, hb, hv5⟩
    replace kw := chain kw hv5
    replace hl := hl.keep hv5
    replace hg := hg.keep hv5
    replace rb := rb.keep hv5
    clear hv5
    clear c1 z1
    have c1 := rb.two.2
    have z1 := rb.lt
    obtain ⟨we, hwe⟩ : ∃ e, wrE D = e := ⟨_, rfl⟩
    rw [hwe]
    have HWE := Lib.hid hwe
    clear hwe
    go_wp2_with fail
    refine (l6_write _ D _ hg ID.out (by omega)).mono ?_
    rintro e W6 ⟨vc, rfl, hc, hv6⟩
    replace kw := chain kw hv6
    replace hl := hl.keep hv6
    replace hg := hg.keep hv6
    replace rb := rb.keep hv6
    replace hb := hb.keep hv6
    clear hv6
    clear c1 z1
    rw [HWE.out]
    go_wp2_with fail
    refine (l6_same _ _ _ _ rfl _ hb hc (writeF_ok D)).mono ?_
    rintro e W7 ⟨rfl, hv7⟩
    replace kw := chain kw hv7
    replace hl := hl.keep hv7
    replace hg := hg.keep hv7
    replace rb := rb.keep hv7
    replace hb := hb.keep hv7
    replace hc := hc.keep hv7
    clear hv7
    clear hb hc
    clear HWE
    go_wp2_with fail
    rw [rounds_succ]
    go_wp2_with fail
    refine (l6_lives _ (hV.keep kw)).mono ?_
    rintro e W8 ⟨rfl, hv8⟩
    replace kw := chain kw hv8
    replace hl := hl.keep hv8
    replace hg := hg.keep hv8
    replace rb := rb.keep hv8
    clear hv8
    go_wp2
    go_ret
    exact ⟨rfl, by (repeat (first | with_reducible assumption | with_reducible exact Below.refl _ _ | with_reducible refine Below.drew ?_ | with_reducible refine below_drewN ?_ _ | with_reducible refine al ?_ _ | (with_reducible refine sc ?_ ?_; (focus (first | omega | (simp; done) | (simp; omega)))) | (with_reducible refine chain ?_ (by assumption))))⟩
  · have hl := hl0
    have hb := hb0
    have hle : l0.length ≤ 20 := by omega
    generalize l0 = l at *
    obtain ⟨K, hK⟩ : ∃ K, K = M := ⟨_, rfl⟩
    rw [← hK] at hl
    have HK := Lib.hid hK
    clear hl0 hb0 hf2 hM hK
    obtain ⟨C, hG⟩ : ∃ C, goodC l = C := ⟨_, rfl⟩
    have hC : okC C := ⟨by rw [← hG]; exact goodC_may _, by have := goodC_len l; rw [hG] at this; omega⟩
    have hNC : C.length ≤ 480 := by have := goodC_len l; rw [hG] at this; omega
    obtain ⟨D, hD⟩ : ∃ D, ofF C = D := ⟨_, rfl⟩
    have lD : D.length ≤ 480 := by have := ofF_len C; rw [hD] at this; omega
    have iD : ∀ j (h : j < D.length), i64 D[j].1 ∧ i64 D[j].2 := hD ▸ okC_i64 hC
    have HB := Lib.hid hb
    have HG := Lib.hid hG
    have HD := Lib.hid hD
    have ID := Lib.hid iD
    clear hb hG hC hNC hD iD
    have kw : Below w.heap.size w w := Below.refl _ _
    go_enter Tryd.func3, Tryd.ntmps3
    go_wp2_with fail
    refine (l5_good _ l C HG.out _ (by first | exact hl | (rw [HK.out] at hl; exact hl)) HB.out).mono ?_
    rintro e W1 ⟨pg, cg, rfl, hg, hv1⟩
    replace kw := chain kw hv1
    replace hl := hl.keep hv1
    clear hv1
    rw [HD.out] at hg ⊢
    rw [HK.out] at hl
    obtain ⟨nd, hnd⟩ : ∃ n, D.length = n := ⟨_, rfl⟩
    rw [hnd] at hg ⊢
    clear hnd
    obtain ⟨u, hu⟩ : ∃ u, W1.alloc (.cells #[(.slice p0 M c0), .slice pg nd cg] 22) = u := ⟨_, rfl⟩
    have ku : Below W1.heap.size W1 u := by rw [← hu]; exact al (Below.refl _ _) _
    have rb : RowAt u W1.heap.size #[(.slice p0 M c0), .slice pg nd cg] 22 := by rw [← hu]; exact RowAt.new W1 _ _
    replace kw := chain kw ku
    replace hl := hl.keep ku
    replace hg := hg.keep ku
    have HU := Lib.hid hu
    clear hu ku
    go_upto_region 4 with (fail)
    rw [HU.out]
    go_wp2_with fail
    refine wp_loop_rounds 3 ?_
    rw [rounds_succ]
    have c0 := rb.two.1
    have z0 := rb.lt
    go_wp2_with fail
    refine (b6_write _ l _ (hV.keep kw) hl HB.out (by omega)).mono ?_
    rintro e W2 ⟨vb, rfl, hb, hv2⟩
    replace kw := chain kw hv2
    replace hl := hl.keep hv2
    replace hg := hg.keep hv2
    replace rb := rb.keep hv2
    clear hv2
    clear c0 z0
    have c0 := rb.two.1
    have z0 := rb.lt
    obtain ⟨we, hwe⟩ : ∃ e, wrE l = e := ⟨_, rfl⟩
    rw [hwe]
    have HWE := Lib.hid hwe
    clear hwe
    go_wp2_with fail
    refine (l6_write _ l _ hl HB.out (by omega)).mono ?_
    rintro e W3 ⟨vc, rfl, hc, hv3⟩
    replace kw := chain kw hv3
    replace hl := hl.keep hv3
    replace hg := hg.keep hv3
    replace rb := rb.keep hv3
    replace hb := hb.keep hv3
    clear hv3
    clear c0 z0
    rw [HWE.out]
    go_wp2_with fail
    refine (l6_same _ _ _ _ rfl _ hb hc (writeF_ok l)).mono ?_
    rintro e W4 ⟨rfl, hv4⟩
    replace kw := chain kw hv4
    replace hl := hl.keep hv4
    replace hg := hg.keep hv4
    replace rb := rb.keep hv4
    replace hb := hb.keep hv4
    replace hc := hc.keep hv4
    clear hv4
    clear hb hc
    clear HWE
    go_wp2_with fail
    rw [rounds_succ]
    have c1 := rb.two.2
    have z1 := rb.lt
    go_wp2_with fail
    refine (b6_write _ D _ (hV.keep kw) hg ID.out (by omega)).mono ?_
    rintro e W5 ⟨vb, rfl, hb, hv5⟩
    replace kw := chain kw hv5
    replace hl := hl.keep hv5
    replace hg := hg.keep hv5
    replace rb := rb.keep hv5
    clear hv5
    clear c1 z1
    have c1 := rb.two.2
    have z1 := rb.lt
    obtain ⟨we, hwe⟩ : ∃ e, wrE D = e := ⟨_, rfl⟩
    rw [hwe]
    have HWE := Lib.hid hwe
    clear hwe
    go_wp2_with fail
    refine (l6_write _ D _ hg ID.out (by omega)).mono ?_
    rintro e W6 ⟨vc, rfl, hc, hv6⟩
    replace kw := chain kw hv6
    replace hl := hl.keep hv6
    replace hg := hg.keep hv6
    replace rb := rb.keep hv6
    replace hb := hb.keep hv6
    clear hv6
    clear c1 z1
    rw [HWE.out]
    go_wp2_with fail
    refine (l6_same _ _ _ _ rfl _ hb hc (writeF_ok D)).mono ?_
    rintro e W7 ⟨rfl, hv7⟩
    replace kw := chain kw hv7
    replace hl := hl.keep hv7
    replace hg := hg.keep hv7
    replace rb := rb.keep hv7
    replace hb := hb.keep hv7
    replace hc := hc.keep hv7
    clear hv7
    clear hb hc
    clear HWE
    go_wp2_with fail
    rw [rounds_succ]
    go_wp2_with fail
    refine (l6_lives _ (hV.keep kw)).mono ?_
    rintro e W8 ⟨rfl, hv8⟩
    replace kw := chain kw hv8
    replace hl := hl.keep hv8
    replace hg := hg.keep hv8
    replace rb := rb.keep hv8
    clear hv8
    go_wp2
    go_ret
    exact ⟨rfl, by (repeat (first | with_reducible assumption | with_reducible exact Below.refl _ _ | with_reducible refine Below.drew ?_ | with_reducible refine below_drewN ?_ _ | with_reducible refine al ?_ _ | (with_reducible refine sc ?_ ?_; (focus (first | omega | (simp; done) | (simp; omega)))) | (with_reducible refine chain ?_ (by assumption))))⟩
theorem own : ownKnob Tryd.prog.godebug = none := by kernel_rfl
set_option maxRecDepth 100000 in
theorem contract (H : Type) (enc : TypeId × Value → H) (W : World) (base : Nat) (args : Array Value) (ds gs : List (DataW H)) (before : List MemPlace)
    (hval : ∀ (j : Nat) t v, Tryd.f3.params[j]? = some t → args[j]? = some v → Value.okWide Tryd.prog W .any base t v)
    (hW : DataW.Whole enc Tryd.prog Tryd.f3.params.toList Rows.codeWritesSpec.vars false W args.toList ds gs before) (hL : laidMetH Tryd.prog Rows.codeWritesRow.laid W) :
    Calls Tryd.prog 3 args W fun e W' => ∃ v, e = .returned v ∧ Rows.codeWritesSpec.post enc Tryd.prog Tryd.f3 false true false false W args v W' := by
  have hW' := hW
  obtain ⟨p, q, hA0, hV0, rfl, hfz, hnd⟩ := hW
  have hA : DataW.TrodAll enc Tryd.prog W 0 (fun _ => true) true Tryd.f3.params.toList args.toList ds p := hA0
  rw [Tryd.params3] at hA hval
  obtain ⟨v0, vs0, d0, ds0, p0, q0, hargs, rfl, rfl, h0, r0⟩ := trodAll_cons hA
  obtain ⟨rfl, rfl, rfl⟩ := trodAll_nil r0
  obtain rfl : args = #[v0] := by cases args; simp_all
  obtain ⟨rfl, rfl⟩ := trodVars_none hV0
  simp only [List.append_nil] at hW'
  have hlt : ∀ x ∈ p0 ++ ([]), x.block < W.heap.size := fun x hx => hW'.lt x (by simpa using hx)
  have hlt0 : ∀ x ∈ p0, x.block < W.heap.size := fun x hx => hlt x (List.mem_append.2 (.inl hx))
  have k0 := h0
  have w0 := open_runs (hval 0 22 v0 rfl rfl) h0 hlt0
  clear hA0
  refine (walk v0 W w0 (Vars.of_laid (by kernel_rfl) hL (by simp [Rows.codeWritesRow]))).mono fun e W' ⟨he, hg⟩ => ?_
  subst he
  exact ⟨_, rfl, _, _, _, [], _, [], hW', (trodAll_cons_mk (shut_bool Tryd.underlying4 _) trodAll_mk0), (trodAll_cons_mk (Below.trod laidOut (by kernel_rfl) (of_decide_eq_true (by kernel_rfl)) k0 hg hlt0) trodAll_mk0), rfl, hg.frame _, fun h => by cases h⟩
set_option maxRecDepth 100000 in
theorem laid_met (os : Os) : laidMetH Tryd.prog Rows.codeWritesRow.laid ((World.doorLaid Tryd.prog 400 os).forCall (fun _ _ => 0) ⟨#[], #[.slice none 0 0], []⟩).memory := by
  rw [MakeChecks.laidMetH_plain _ _ _ (by kernel_rfl)]
  exact laidMet_of_run' 8 (by kernel_rfl) (by kernel_rfl)
set_option maxRecDepth 100000 in
theorem lifted (os : Os) (started : os.Started) (H : Type) (enc : TypeId × Value → H) (F : Stop.Interp) :
    ReturnsInHanded {} Tryd.checked os 3 .any ((OpenSpec.ofChange Rows.codeWritesSpec).preRow enc Tryd.prog Tryd.f3 Rows.codeWritesRow.domain false Rows.codeWritesRow.laid) (((OpenSpec.ofChange Rows.codeWritesSpec).at F).post enc Tryd.prog Tryd.f3 false true false false) := by
  refine returnsInHanded_of_row (C := Tryd.checked) (s := OpenSpec.ofChange Rows.codeWritesSpec) own started (by kernel_rfl) Tryd.func3
    (witness_row_at (enc := enc) (C := Tryd.checked) false (World.doorLaid Tryd.prog 400 os) #[.slice none 0 0] rfl (by kernel_rfl) (by kernel_rfl) (by kernel_rfl)
      (OpenSpec.preRow_of_B rfl 8 (by kernel_rfl) (by kernel_rfl) (laid_met os))) ?_
  intro W base args ds gs before hval hW _ _ _ hL _ _
  exact contract H enc W base args ds gs before hval hW hL
theorem said : Rows.CodeWritesSaid :=
  OpenClaim.holds_of_cond 3 Tryd.f3 rfl rfl rfl rfl rfl rfl rfl ⟨rfl, rfl, rfl, rfl, rfl⟩ rfl rfl rfl rfl rfl (by kernel_rfl) Tryd.func3 (by kernel_rfl)
    (of_decide_eq_true (by kernel_rfl)) (by unfold Func.isWrapper; first | (rw [if_pos (by decide +kernel)]; kernel_rfl) | (rw [if_neg (by decide +kernel)]; exact ⟨rfl, rfl⟩))
    (fun os started H enc _ F => by rw [OpenClaim.pre_eq_preRow]; exact lifted os started H enc F)
theorem plain (f : FuncId) (fn : Func) (hf : Tryd.pinned.checked.prog.funcNamed "breccia/breccialaw06.CodeWrites" = some f) (hfn : Tryd.pinned.checked.prog.funcs[f]? = some fn) :
    false = Tryd.pinned.checked.prog.looks [] ∧ ∀ (j : Nat) t, fn.params[j]? = some t → Tryd.pinned.checked.prog.wantsStandIn t = false := by
  obtain rfl : f = 3 := Option.some.inj ((show Tryd.prog.funcNamed "breccia/breccialaw06.CodeWrites" = some 3 by kernel_rfl).symm.trans hf) |>.symm
  obtain rfl : fn = Tryd.f3 := (Option.some.inj (Tryd.func3.symm.trans hfn)).symm
  refine ⟨by kernel_rfl, fun j t ht => ?_⟩
  rw [Tryd.params3] at ht
  have hm : t ∈ #[22] := Array.mem_of_getElem? ht
  have hm : t ∈ [22] := by simpa using hm
  have hall : ([22].all fun u => !Tryd.prog.wantsStandIn u) = true := by kernel_rfl
  exact (show Tryd.prog.wantsStandIn t = false by simpa using List.all_eq_true.1 hall t hm)
theorem card : Rows.CodeWritesCardSaid :=
  Claim7.holds_tied_plain_at .later [] _ _ _ _ said (fun _ h => by cases h) (by kernel_rfl) (fun _ h => by cases h) codeWrites_row_tie rfl ⟨rfl, rfl⟩ (by kernel_rfl) rfl plain (by kernel_rfl)
#print axioms card
end Go.Proofs.YtafmekojdaeliaaDoor.codeWrites
