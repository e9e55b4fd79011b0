/- For any bytes and any number the law CodeAgain of layer 6 answers true: bytes that are read are what is written of it. Conditions: none: every input. -/
import Derived.Test.YtafmekojdaeliaaDoorRows
import Derived.Test.YtafmekojdaeliaaDoorO02
import Derived.Test.YtafmekojdaeliaaDoorO60
import Derived.Test.YtafmekojdaeliaaDoorL06
import Derived.Test.YtafmekojdaeliaaDoorR55
import Derived.Test.YtafmekojdaeliaaDoorVRS
import Derived.Test.YtafmekojdaeliaaDoorCards
import Derived.Test.YtafmekojdaeliaaDoorTie
import Derived.WalkKit
import Derived.ProofKit
import Derived.OpenShut
import Derived.Below
import Derived.Carry
import Derived.Deep.DeepHandedRow
import Derived.LaidMore
namespace Go.Proofs.YtafmekojdaeliaaDoor.codeAgain
open Go.Proofs.YtafmekojdaeliaaDoor Go.ChangeShapes Go.WideShapes Go.ChangeAt Go.RowKit
set_option linter.unusedVariables false
set_option linter.unusedSimpArgs false
attribute [local go_sem ↓] Go.wp_at_zero Go.wp_at_succ
set_option maxHeartbeats 16000000 in
theorem walk (a0 : Value) (a1 : Int) (w1 : -9223372036854775808 ≤ a1 ∧ a1 ≤ 9223372036854775807) (w : World) (w0 : BytsIn w a0) (hV : Vars w) :
    Calls Tryd.prog 6 #[a0, .int .i64 a1] w fun e w' => e = .returned (.bool true) ∧ Below w.heap.size w w' := by
  obtain ⟨b0, hb0, ok0, hm0⟩ := w0
  obtain ⟨B, hB⟩ : ∃ B, b0.take 60 = B := ⟨_, rfl⟩
  have okB : bytOk B := hB ▸ ok0.take 60
  have lB : B.length ≤ 60 := by rw [← hB]; simp; omega
  have few := fun k hk => r6_few a0 b0 60 k hk hm0 (by omega)
  rw [hB] at few
  have few : ∀ k, BytsAt k a0 b0 → Calls Tryd.prog 18 #[a0, .int .i64 60] k fun e w' => ∃ p cap, e = .returned (.slice p B.length cap) ∧ BytsAt w' (.slice p B.length cap) B ∧ Below k.heap.size k w' := few
  obtain ⟨nB, hnB⟩ : ∃ n, B.length = n := ⟨_, rfl⟩
  rw [hnB] at few lB
  have FEW := Lib.hid few
  have OKB := Lib.hid okB
  have HNB := Lib.hid hnB
  clear few okB hB hnB ok0 hm0
  have gk := fun k => r_around a1 400 w1.1 w1.2 (by omega) (by omega) k
  have bk := around_bd a1 400 (by omega)
  obtain ⟨k, hk⟩ : ∃ k, aroundF a1 400 = k := ⟨_, rfl⟩
  rw [hk] at gk bk
  obtain ⟨bk0, bk1⟩ := bk
  obtain ⟨R, hR⟩ : ∃ R, readF B (1 + k) = R := ⟨_, rfl⟩
  have sound : R.1 = 0 → B = bytesF R.2 ∧ goodL none R.2 ∧ sumL R.2 = 1 + k := fun h => by
    have h2 : readGo (B.length + 1) none B (1 + k) = (0, R.2) := by
      have : readF B (1 + k) = (0, R.2) := by rw [hR, ← h]
      exact this
    exact read_sound _ none B (1 + k) R.2 OKB.out (by omega) h2
  have err := read_err (B.length + 1) none B (1 + k)
  rw [show readGo (B.length + 1) none B (1 + k) = R from hR] at err
  obtain ⟨er, hl⟩ := R
  have GK := Lib.hid gk
  have HR := Lib.hid hR
  have SO := Lib.hid sound
  have ER := Lib.hid err
  clear gk hk hR sound err w1
  by_cases he : er = 0
  · subst he
    obtain ⟨e1, g1, s1⟩ := SO.out rfl
    have e1 : B = bytesF hl := e1
    have s1 : sumL hl = 1 + k := s1
    have g1 : goodL none hl := g1
    have hw : wrB hl = true := wrB_iff.2 ⟨g1, by omega, by omega⟩
    have hwe := wrE_good hw
    have hwf : writeF hl = B := by unfold writeF; rw [if_pos hw, ← e1]
    have hmy : mayR hl (1 + k) = true := mayR_iff.2 ⟨g1, s1, by omega⟩
    have hln := goodL_length hl none g1
    have hiq : ∀ j (h : j < hl.length), i64 hl[j].1 ∧ i64 hl[j].2 := fun j h => by
      obtain ⟨q1, q2, q3⟩ := goodL_at hl none g1 j h
      have q4 := mayB_bd q2
      have q5 := sumL_succ hl j h
      have q6 := goodL_sum _ _ (goodL_take hl none g1 j)
      exact ⟨by constructor <;> omega, by constructor <;> omega⟩
    have HWE := Lib.hid hwe
    have HWF := Lib.hid hwf
    have HMY := Lib.hid hmy
    have HIQ := Lib.hid hiq
    clear e1 g1 s1 hw hwe hwf hmy hiq
    have kw : Below w.heap.size w w := Below.refl _ _
    go_enter Tryd.func6, Tryd.ntmps6
    go_wp2_with fail
    refine (FEW.out _ hb0).mono ?_
    rintro e W1 ⟨pb, cb, rfl, hB, hv1⟩
    replace kw := chain kw hv1
    replace hb0 := hb0.keep hv1
    clear hv1
    clear hb0
    go_wp2_with fail
    refine (GK.out _).mono ?_
    rintro e w' ⟨rfl, rfl⟩
    go_wp2_with fail
    refine (b6_read _ B (1 + k) (by omega) (by omega) _ (hV.keep kw) hB OKB.out (by rw [HNB.out]; omega)).mono ?_
    rintro e W2 ⟨vr, rfl, hr, hv2⟩
    replace kw := chain kw hv2
    replace hB := hB.keep hv2
    clear hv2
    rw [HR.out] at hr ⊢
    have hr : RunsAt _ _ hl := hr
    go_wp2_with fail
    refine (b6_write _ hl _ (hV.keep kw) hr HIQ.out (by omega)).mono ?_
    rintro e W3 ⟨vw, rfl, hw, hv3⟩
    replace kw := chain kw hv3
    replace hB := hB.keep hv3
    replace hr := hr.keep hv3
    clear hv3
    rw [HWF.out] at hw
    rw [HWE.out]
    go_wp2_with fail
    refine (l6_same _ _ _ _ rfl _ hB hw OKB.out).mono ?_
    rintro e W4 ⟨rfl, hv4⟩
    replace kw := chain kw hv4
    replace hB := hB.keep hv4
    replace hr := hr.keep hv4
    replace hw := hw.keep hv4
    clear hv4
    go_wp2_with fail
    refine (r5_may _ hl (1 + k) (by constructor <;> omega) _ hr HIQ.out (by omega)).mono ?_
    rintro e W5 ⟨rfl, hv5⟩
    replace kw := chain kw hv5
    replace hB := hB.keep hv5
    replace hr := hr.keep hv5
    replace hw := hw.keep hv5
    clear hv5
    rw [HMY.out]
    go_wp2_with fail
    refine (l6_lives _ (hV.keep kw)).mono ?_
    rintro e W6 ⟨rfl, hv6⟩
    replace kw := chain kw hv6
    replace hB := hB.keep hv6
    replace hr := hr.keep hv6
    replace hw := hw.keep hv6
    clear hv6
    go_wp2
    go_ret
    exact ⟨rfl, by (repeat (first | with_reducible assumption | with_reducible exact Below.refl _ _ | with_reducible refine Below.drew ?_ | with_reducible refine below_drewN ?_ _ | with_reducible refine al ?_ _ | (with_reducible refine sc ?_ ?_; (focus (first | omega | (simp; done) | (simp; omega)))) | (with_reducible refine chain ?_ (by assumption))))⟩
  · have hz : hl = [] := by
      rcases ER.out with h | h
      · exact absurd h he
      · exact h.2
    subst hz
    have hne : (er != 0) = true := by simpa using he
    have kw : Below w.heap.size w w := Below.refl _ _
    go_enter Tryd.func6, Tryd.ntmps6
    go_wp2_with fail
    refine (FEW.out _ hb0).mono ?_
    rintro e W1 ⟨pb, cb, rfl, hB, hv1⟩
    replace kw := chain kw hv1
    replace hb0 := hb0.keep hv1
    clear hv1
    clear hb0
    go_wp2_with fail
    refine (GK.out _).mono ?_
    rintro e w' ⟨rfl, rfl⟩
    go_wp2_with fail
    refine (b6_read _ B (1 + k) (by omega) (by omega) _ (hV.keep kw) hB OKB.out (by rw [HNB.out]; omega)).mono ?_
    rintro e W2 ⟨vr, rfl, hr, hv2⟩
    replace kw := chain kw hv2
    replace hB := hB.keep hv2
    clear hv2
    rw [HR.out] at hr ⊢
    obtain ⟨pr, cr, rfl⟩ := hr.shape
    simp only [List.length_nil] at hr ⊢
    go_wp2_with fail
    refine (l6_lives _ (hV.keep kw)).mono ?_
    rintro e W3 ⟨rfl, hv3⟩
    replace kw := chain kw hv3
    replace hB := hB.keep hv3
    replace hr := hr.keep hv3
    clear hv3
    go_wp2
    go_ret
    exact ⟨rfl, by (repeat (first | with_reducible assumption | with_reducible exact Below.refl _ _ | with_reducible refine Below.drew ?_ | with_reducible refine below_drewN ?_ _ | with_reducible refine al ?_ _ | (with_reducible refine sc ?_ ?_; (focus (first | omega | (simp; done) | (simp; omega)))) | (with_reducible refine chain ?_ (by assumption))))⟩
theorem own : ownKnob Tryd.prog.godebug = none := by kernel_rfl
set_option maxRecDepth 100000 in
theorem contract (H : Type) (enc : TypeId × Value → H) (W : World) (base : Nat) (args : Array Value) (ds gs : List (DataW H)) (before : List MemPlace)
    (hval : ∀ (j : Nat) t v, Tryd.f6.params[j]? = some t → args[j]? = some v → Value.okWide Tryd.prog W .any base t v)
    (hW : DataW.Whole enc Tryd.prog Tryd.f6.params.toList Rows.codeAgainSpec.vars false W args.toList ds gs before) (hL : laidMetH Tryd.prog Rows.codeAgainRow.laid W) :
    Calls Tryd.prog 6 args W fun e W' => ∃ v, e = .returned v ∧ Rows.codeAgainSpec.post enc Tryd.prog Tryd.f6 false true false false W args v W' := by
  have hW' := hW
  obtain ⟨p, q, hA0, hV0, rfl, hfz, hnd⟩ := hW
  have hA : DataW.TrodAll enc Tryd.prog W 0 (fun _ => true) true Tryd.f6.params.toList args.toList ds p := hA0
  rw [Tryd.params6] at hA hval
  obtain ⟨v0, vs0, d0, ds0, p0, q0, hargs, rfl, rfl, h0, r0⟩ := trodAll_cons hA
  obtain ⟨v1, vs1, d1, ds1, p1, q1, rfl, rfl, rfl, h1, r1⟩ := trodAll_cons r0
  obtain ⟨rfl, rfl, rfl⟩ := trodAll_nil r1
  obtain rfl : args = #[v0, v1] := by cases args; simp_all
  obtain ⟨rfl, rfl⟩ := trodVars_none hV0
  simp only [List.append_nil] at hW'
  have hlt : ∀ x ∈ p0 ++ (p1 ++ ([])), x.block < W.heap.size := fun x hx => hW'.lt x (by simpa using hx)
  have hlt0 : ∀ x ∈ p0, x.block < W.heap.size := fun x hx => hlt x (List.mem_append.2 (.inl hx))
  have hlt1 : ∀ x ∈ p1, x.block < W.heap.size := fun x hx => hlt x (List.mem_append.2 (.inr (List.mem_append.2 (.inl hx))))
  have k0 := h0
  have k1 := h1
  have w0 := open_byts (hval 0 25 v0 rfl rfl) h0 hlt0
  obtain ⟨a1, rfl, w1⟩ := open_num (hval 1 3 v1 rfl rfl) h1
  clear hA0
  refine (walk v0 a1 w1 W w0 (Vars.of_laid (by kernel_rfl) hL (by simp [Rows.codeAgainRow]))).mono fun e W' ⟨he, hg⟩ => ?_
  subst he
  exact ⟨_, rfl, _, _, _, [], _, [], hW', (trodAll_cons_mk (shut_bool Tryd.underlying4 _) trodAll_mk0), (trodAll_cons_mk (Below.trod laidOut (by kernel_rfl) (of_decide_eq_true (by kernel_rfl)) k0 hg hlt0) (trodAll_cons_mk (Below.trod laidOut (by kernel_rfl) (of_decide_eq_true (by kernel_rfl)) k1 hg hlt1) trodAll_mk0)), rfl, hg.frame _, fun h => by cases h⟩
set_option maxRecDepth 100000 in
theorem laid_met (os : Os) : laidMetH Tryd.prog Rows.codeAgainRow.laid ((World.doorLaid Tryd.prog 400 os).forCall (fun _ _ => 0) ⟨#[], #[.slice none 0 0, .int .i64 0], []⟩).memory := by
  rw [MakeChecks.laidMetH_plain _ _ _ (by kernel_rfl)]
  exact laidMet_of_run' 8 (by kernel_rfl) (by kernel_rfl)
set_option maxRecDepth 100000 in
theorem lifted (os : Os) (started : os.Started) (H : Type) (enc : TypeId × Value → H) (F : Stop.Interp) :
    ReturnsInHanded {} Tryd.checked os 6 .any ((OpenSpec.ofChange Rows.codeAgainSpec).preRow enc Tryd.prog Tryd.f6 Rows.codeAgainRow.domain false Rows.codeAgainRow.laid) (((OpenSpec.ofChange Rows.codeAgainSpec).at F).post enc Tryd.prog Tryd.f6 false true false false) := by
  refine returnsInHanded_of_row (C := Tryd.checked) (s := OpenSpec.ofChange Rows.codeAgainSpec) own started (by kernel_rfl) Tryd.func6
    (witness_row_at (enc := enc) (C := Tryd.checked) false (World.doorLaid Tryd.prog 400 os) #[.slice none 0 0, .int .i64 0] rfl (by kernel_rfl) (by kernel_rfl) (by kernel_rfl)
      (OpenSpec.preRow_of_B rfl 8 (by kernel_rfl) (by kernel_rfl) (laid_met os))) ?_
  intro W base args ds gs before hval hW _ _ _ hL _ _
  exact contract H enc W base args ds gs before hval hW hL
theorem said : Rows.CodeAgainSaid :=
  OpenClaim.holds_of_cond 6 Tryd.f6 rfl rfl rfl rfl rfl rfl rfl ⟨rfl, rfl, rfl, rfl, rfl⟩ rfl rfl rfl rfl rfl (by kernel_rfl) Tryd.func6 (by kernel_rfl)
    (of_decide_eq_true (by kernel_rfl)) (by unfold Func.isWrapper; first | (rw [if_pos (by decide +kernel)]; kernel_rfl) | (rw [if_neg (by decide +kernel)]; exact ⟨rfl, rfl⟩))
    (fun os started H enc _ F => by rw [OpenClaim.pre_eq_preRow]; exact lifted os started H enc F)
theorem plain (f : FuncId) (fn : Func) (hf : Tryd.pinned.checked.prog.funcNamed "breccia/breccialaw06.CodeAgain" = some f) (hfn : Tryd.pinned.checked.prog.funcs[f]? = some fn) :
    false = Tryd.pinned.checked.prog.looks [] ∧ ∀ (j : Nat) t, fn.params[j]? = some t → Tryd.pinned.checked.prog.wantsStandIn t = false := by
  obtain rfl : f = 6 := Option.some.inj ((show Tryd.prog.funcNamed "breccia/breccialaw06.CodeAgain" = some 6 by kernel_rfl).symm.trans hf) |>.symm
  obtain rfl : fn = Tryd.f6 := (Option.some.inj (Tryd.func6.symm.trans hfn)).symm
  refine ⟨by kernel_rfl, fun j t ht => ?_⟩
  rw [Tryd.params6] at ht
  have hm : t ∈ #[25, 3] := Array.mem_of_getElem? ht
  have hm : t ∈ [25, 3] := by simpa using hm
  have hall : ([25, 3].all fun u => !Tryd.prog.wantsStandIn u) = true := by kernel_rfl
  exact (show Tryd.prog.wantsStandIn t = false by simpa using List.all_eq_true.1 hall t hm)
theorem card : Rows.CodeAgainCardSaid :=
  Claim7.holds_tied_plain_at .later [] _ _ _ _ said (fun _ h => by cases h) (by kernel_rfl) (fun _ h => by cases h) codeAgain_row_tie rfl ⟨rfl, rfl⟩ (by kernel_rfl) rfl plain (by kernel_rfl)
#print axioms card
end Go.Proofs.YtafmekojdaeliaaDoor.codeAgain
