/- For every number and every block the law RunsMake of layer 5 answers true: so many cells of one block are one run, or none. Conditions: none: every input. -/
import Derived.Test.YtldokggfiklcoaaDoorRows
import Derived.Test.YtldokggfiklcoaaDoorO02
import Derived.Test.YtldokggfiklcoaaDoorL05
import Derived.Test.YtldokggfiklcoaaDoorVRS
import Derived.Test.YtldokggfiklcoaaDoorCards
import Derived.Test.YtldokggfiklcoaaDoorTie
import Derived.WalkKit
import Derived.ProofKit
import Derived.OpenShut
import Derived.Below
import Derived.Carry
import Derived.Deep.DeepHandedRow
import Derived.LaidMore
namespace Go.Proofs.YtldokggfiklcoaaDoor.runsMake
open Go.Proofs.YtldokggfiklcoaaDoor Go.ChangeShapes Go.WideShapes Go.ChangeAt Go.RowKit
set_option linter.unusedVariables false
set_option linter.unusedSimpArgs false
attribute [local go_sem ↓] Go.wp_at_zero Go.wp_at_succ
set_option maxHeartbeats 16000000 in
theorem walk (a0 : Int) (w0 : -9223372036854775808 ≤ a0 ∧ a0 ≤ 9223372036854775807) (a1 : Int) (w1 : -9223372036854775808 ≤ a1 ∧ a1 ≤ 9223372036854775807) (w : World) (hV : Vars w) :
    Calls Tryd.prog 7 #[.int .i64 a0, .int .i64 a1] w fun e w' => e = .returned (.bool true) ∧ Below w.heap.size w w' := by
  have i0 : i64 a0 := w0
  have i1 : i64 a1 := w1
  obtain ⟨b, hb⟩ : ∃ b, goodF a1 = b := ⟨_, rfl⟩
  have gd := fun k => r4_good a1 i1 k
  rw [hb] at gd
  have hbm : mayB b = true := hb ▸ goodF_may a1
  have ib : i64 b := by have := mayB_bd hbm; constructor <;> omega
  have GD := Lib.hid gd
  have IB := Lib.hid ib
  have BM := Lib.hid hbm
  clear gd ib hbm hb w0 w1
  obtain ⟨n, hn⟩ : ∃ n : Int, min a0 500 = n := ⟨_, rfl⟩
  have i2 : i64 n := by have := i0; constructor <;> (unfold i64 at this; omega)
  have e2 : n ≤ 500 := by omega
  have I2 := Lib.hid i2
  have HMN := Lib.hid hn
  clear hn i2 i1
  have kw : Below w.heap.size w w := Below.refl _ _
  by_cases h1 : n < 1
  · have hmk : makeF n b = [] := by unfold makeF; rw [if_pos h1]
    have HMK := Lib.hid hmk
    clear hmk
    go_enter Tryd.func7, Tryd.ntmps7
    go_upto_region 2 with (fail)
    simp only [HMN.out]
    go_wp2_with (go_at_call 24; refine (GD.out _).mono ?_; rintro e w' ⟨rfl, rfl⟩)
    refine (b5_make n b I2.out IB.out _).mono ?_
    rintro e W1 ⟨v1, rfl, hx, hv1⟩
    replace kw := chain kw hv1
    clear hv1
    rw [HMK.out] at hx
    obtain ⟨px, cx, rfl⟩ := hx.shape
    simp only [List.length_nil] at hx ⊢
    go_wp2_with fail
    refine (b5_len _ [] none trivial (by simp [sumL]) _ hx).mono ?_
    rintro e W2 ⟨rfl, hv2⟩
    replace kw := chain kw hv2
    replace hx := hx.keep hv2
    clear hv2
    go_wp2_with fail
    refine (l5_lives _ (hV.keep kw)).mono ?_
    rintro e W3 ⟨rfl, hv3⟩
    replace kw := chain kw hv3
    replace hx := hx.keep hv3
    clear hv3
    go_wp2
    go_ret
    exact ⟨rfl, by (repeat (first | with_reducible assumption | with_reducible exact Below.refl _ _ | with_reducible refine Below.drew ?_ | with_reducible refine below_drewN ?_ _ | with_reducible refine al ?_ _ | (with_reducible refine sc ?_ ?_; (focus (first | omega | (simp; done) | (simp; omega)))) | (with_reducible refine chain ?_ (by assumption))))⟩
  · have hmk : makeF n b = [(n, b)] := by unfold makeF; rw [if_neg h1]
    have hof : ofF (List.replicate n.toNat b) = [(n, b)] := by
      have h := ofF_rep (n.toNat - 1) b
      rw [show n.toNat - 1 + 1 = n.toNat by omega] at h
      rw [h]; congr 2; omega
    have hC : okC (List.replicate n.toNat b) := ⟨fun c hc => by rw [(List.mem_replicate.1 hc).2]; exact BM.out, by simp; omega⟩
    have hmy : mayR [(n, b)] n = true := by
      have h := may_of hC.1 (by simp; omega)
      rw [hof] at h
      simpa [show ((n.toNat : Nat) : Int) = n by omega] using h
    have hct : countF (List.replicate n.toNat b) b = n := by unfold countF; rw [List.filter_replicate]; simp; omega
    have HMK := Lib.hid hmk
    have HOF := Lib.hid hof
    have HC := Lib.hid hC
    have HMY := Lib.hid hmy
    have HCT := Lib.hid hct
    clear hmk hof hC hmy hct
    obtain ⟨C, hCe⟩ : ∃ C, List.replicate n.toNat b = C := ⟨_, rfl⟩
    rw [hCe] at HOF HC HCT
    clear hCe
    have h2 : ¬ n < 1 := h1
    go_enter Tryd.func7, Tryd.ntmps7
    go_upto_region 2 with (fail)
    simp only [HMN.out]
    go_wp2_with (go_at_call 24; refine (GD.out _).mono ?_; rintro e w' ⟨rfl, rfl⟩)
    refine (b5_make _ b I2.out IB.out _).mono ?_
    rintro e W1 ⟨v1, rfl, hx, hv1⟩
    replace kw := chain kw hv1
    clear hv1
    rw [HMK.out] at hx
    obtain ⟨px, cx, rfl⟩ := hx.shape
    have ht : RunsAt _ _ [_] := hx
    clear ht
    go_wp2_with fail
    refine (l5_same _ _ [(_, b)] [(_, b)] rfl _ (hx.keep (by (repeat (first | with_reducible assumption | with_reducible exact Below.refl _ _ | with_reducible refine Below.drew ?_ | with_reducible refine below_drewN ?_ _ | with_reducible refine al ?_ _ | (with_reducible refine sc ?_ ?_; (focus (first | omega | (simp; done) | (simp; omega)))) | (with_reducible refine chain ?_ (by assumption)))))) (.inr ⟨_, 0, 1, rfl, by simp, by simp, fun j hj => ?_⟩) (by simp)).mono ?_
    · obtain rfl : j = 0 := by simpa using hj
      constructor <;> simp [go_sem]
    rintro e W2 ⟨rfl, hv⟩
    have kx : Below W1.heap.size W1 W2 := by (repeat (first | with_reducible assumption | with_reducible exact Below.refl _ _ | with_reducible refine Below.drew ?_ | with_reducible refine below_drewN ?_ _ | with_reducible refine al ?_ _ | (with_reducible refine sc ?_ ?_; (focus (first | omega | (simp; done) | (simp; omega)))) | (with_reducible refine chain ?_ (by assumption))))
    replace kw := chain kw kx
    replace hx := hx.keep kx
    clear kx hv
    go_wp2_with fail
    refine (b5_may _ [(_, b)] _ I2.out _ (hV.keep kw) hx (fun j hj => by
          obtain rfl : j = 0 := by simpa using hj
          exact ⟨I2.out, IB.out⟩) (by simp)).mono ?_
    rintro e W3 ⟨rfl, hv3⟩
    replace kw := chain kw hv3
    replace hx := hx.keep hv3
    clear hv3
    rw [HMY.out]
    go_wp2_with fail
    refine (b5_count _ C HC.out b _ (by rw [HOF.out]; exact hx)).mono ?_
    rintro e W4 ⟨rfl, hv4⟩
    replace kw := chain kw hv4
    replace hx := hx.keep hv4
    clear hv4
    rw [HCT.out]
    go_wp2_with fail
    refine (l5_lives _ (hV.keep kw)).mono ?_
    rintro e W5 ⟨rfl, hv5⟩
    replace kw := chain kw hv5
    replace hx := hx.keep hv5
    clear hv5
    go_wp2
    go_ret
    exact ⟨rfl, by (repeat (first | with_reducible assumption | with_reducible exact Below.refl _ _ | with_reducible refine Below.drew ?_ | with_reducible refine below_drewN ?_ _ | with_reducible refine al ?_ _ | (with_reducible refine sc ?_ ?_; (focus (first | omega | (simp; done) | (simp; omega)))) | (with_reducible refine chain ?_ (by assumption))))⟩
theorem own : ownKnob Tryd.prog.godebug = none := by kernel_rfl
set_option maxRecDepth 100000 in
theorem contract (H : Type) (enc : TypeId × Value → H) (W : World) (base : Nat) (args : Array Value) (ds gs : List (DataW H)) (before : List MemPlace)
    (hval : ∀ (j : Nat) t v, Tryd.f7.params[j]? = some t → args[j]? = some v → Value.okWide Tryd.prog W .any base t v)
    (hW : DataW.Whole enc Tryd.prog Tryd.f7.params.toList Rows.runsMakeSpec.vars false W args.toList ds gs before) (hL : laidMetH Tryd.prog Rows.runsMakeRow.laid W) :
    Calls Tryd.prog 7 args W fun e W' => ∃ v, e = .returned v ∧ Rows.runsMakeSpec.post enc Tryd.prog Tryd.f7 false true false false W args v W' := by
  have hW' := hW
  obtain ⟨p, q, hA0, hV0, rfl, hfz, hnd⟩ := hW
  have hA : DataW.TrodAll enc Tryd.prog W 0 (fun _ => true) true Tryd.f7.params.toList args.toList ds p := hA0
  rw [Tryd.params7] at hA hval
  obtain ⟨v0, vs0, d0, ds0, p0, q0, hargs, rfl, rfl, h0, r0⟩ := trodAll_cons hA
  obtain ⟨v1, vs1, d1, ds1, p1, q1, rfl, rfl, rfl, h1, r1⟩ := trodAll_cons r0
  obtain ⟨rfl, rfl, rfl⟩ := trodAll_nil r1
  obtain rfl : args = #[v0, v1] := by cases args; simp_all
  obtain ⟨rfl, rfl⟩ := trodVars_none hV0
  simp only [List.append_nil] at hW'
  have hlt : ∀ x ∈ p0 ++ (p1 ++ ([])), x.block < W.heap.size := fun x hx => hW'.lt x (by simpa using hx)
  have hlt0 : ∀ x ∈ p0, x.block < W.heap.size := fun x hx => hlt x (List.mem_append.2 (.inl hx))
  have hlt1 : ∀ x ∈ p1, x.block < W.heap.size := fun x hx => hlt x (List.mem_append.2 (.inr (List.mem_append.2 (.inl hx))))
  have k0 := h0
  have k1 := h1
  obtain ⟨a0, rfl, w0⟩ := open_num (hval 0 3 v0 rfl rfl) h0
  obtain ⟨a1, rfl, w1⟩ := open_num (hval 1 3 v1 rfl rfl) h1
  clear hA0
  refine (walk a0 w0 a1 w1 W (Vars.of_laid (by kernel_rfl) hL (by simp [Rows.runsMakeRow]))).mono fun e W' ⟨he, hg⟩ => ?_
  subst he
  exact ⟨_, rfl, _, _, _, [], _, [], hW', (trodAll_cons_mk (shut_bool Tryd.underlying4 _) trodAll_mk0), (trodAll_cons_mk (Below.trod laidOut (by kernel_rfl) (of_decide_eq_true (by kernel_rfl)) k0 hg hlt0) (trodAll_cons_mk (Below.trod laidOut (by kernel_rfl) (of_decide_eq_true (by kernel_rfl)) k1 hg hlt1) trodAll_mk0)), rfl, hg.frame _, fun h => by cases h⟩
set_option maxRecDepth 100000 in
theorem laid_met (os : Os) : laidMetH Tryd.prog Rows.runsMakeRow.laid ((World.doorLaid Tryd.prog 400 os).forCall (fun _ _ => 0) ⟨#[], #[.int .i64 0, .int .i64 0], []⟩).memory := by
  rw [MakeChecks.laidMetH_plain _ _ _ (by kernel_rfl)]
  exact laidMet_of_run' 8 (by kernel_rfl) (by kernel_rfl)
set_option maxRecDepth 100000 in
theorem lifted (os : Os) (started : os.Started) (H : Type) (enc : TypeId × Value → H) (F : Stop.Interp) :
    ReturnsInHanded {} Tryd.checked os 7 .any ((OpenSpec.ofChange Rows.runsMakeSpec).preRow enc Tryd.prog Tryd.f7 Rows.runsMakeRow.domain false Rows.runsMakeRow.laid) (((OpenSpec.ofChange Rows.runsMakeSpec).at F).post enc Tryd.prog Tryd.f7 false true false false) := by
  refine returnsInHanded_of_row (C := Tryd.checked) (s := OpenSpec.ofChange Rows.runsMakeSpec) own started (by kernel_rfl) Tryd.func7
    (witness_row_at (enc := enc) (C := Tryd.checked) false (World.doorLaid Tryd.prog 400 os) #[.int .i64 0, .int .i64 0] rfl (by kernel_rfl) (by kernel_rfl) (by kernel_rfl)
      (OpenSpec.preRow_of_B rfl 8 (by kernel_rfl) (by kernel_rfl) (laid_met os))) ?_
  intro W base args ds gs before hval hW _ _ _ hL _ _
  exact contract H enc W base args ds gs before hval hW hL
theorem said : Rows.RunsMakeSaid :=
  OpenClaim.holds_of_cond 7 Tryd.f7 rfl rfl rfl rfl rfl rfl rfl ⟨rfl, rfl, rfl, rfl, rfl⟩ rfl rfl rfl rfl rfl (by kernel_rfl) Tryd.func7 (by kernel_rfl)
    (of_decide_eq_true (by kernel_rfl)) (by unfold Func.isWrapper; first | (rw [if_pos (by decide +kernel)]; kernel_rfl) | (rw [if_neg (by decide +kernel)]; exact ⟨rfl, rfl⟩))
    (fun os started H enc _ F => by rw [OpenClaim.pre_eq_preRow]; exact lifted os started H enc F)
theorem plain (f : FuncId) (fn : Func) (hf : Tryd.pinned.checked.prog.funcNamed "breccia/breccialaw05.RunsMake" = some f) (hfn : Tryd.pinned.checked.prog.funcs[f]? = some fn) :
    false = Tryd.pinned.checked.prog.looks [] ∧ ∀ (j : Nat) t, fn.params[j]? = some t → Tryd.pinned.checked.prog.wantsStandIn t = false := by
  obtain rfl : f = 7 := Option.some.inj ((show Tryd.prog.funcNamed "breccia/breccialaw05.RunsMake" = some 7 by kernel_rfl).symm.trans hf) |>.symm
  obtain rfl : fn = Tryd.f7 := (Option.some.inj (Tryd.func7.symm.trans hfn)).symm
  refine ⟨by kernel_rfl, fun j t ht => ?_⟩
  rw [Tryd.params7] at ht
  have hm : t ∈ #[3, 3] := Array.mem_of_getElem? ht
  have hm : t ∈ [3] := by simpa using hm
  have hall : ([3].all fun u => !Tryd.prog.wantsStandIn u) = true := by kernel_rfl
  exact (show Tryd.prog.wantsStandIn t = false by simpa using List.all_eq_true.1 hall t hm)
theorem card : Rows.RunsMakeCardSaid :=
  Claim7.holds_tied_plain_at .later [] _ _ _ _ said (fun _ h => by cases h) (by kernel_rfl) (fun _ h => by cases h) runsMake_row_tie rfl ⟨rfl, rfl⟩ (by kernel_rfl) rfl plain (by kernel_rfl)
#print axioms card
end Go.Proofs.YtldokggfiklcoaaDoor.runsMake
