/- For any number and any bytes the law CodeNumbers of layer 6 answers true: a Len's bytes are the document's, and are read as it was, whatever stands behind. Conditions: none: every input. -/
import Derived.Test.YtafmekojdaeliaaDoorRows
import Derived.Test.YtafmekojdaeliaaDoorO02
import Derived.Test.YtafmekojdaeliaaDoorO60
import Derived.Test.YtafmekojdaeliaaDoorL06
import Derived.Test.YtafmekojdaeliaaDoorVRS
import Derived.Test.YtafmekojdaeliaaDoorCards
import Derived.Test.YtafmekojdaeliaaDoorTie
import Derived.WalkKit
import Derived.ProofKit
import Derived.OpenShut
import Derived.Below
import Derived.Carry
import Derived.Deep.DeepHandedRow
import Derived.LaidMore
namespace Go.Proofs.YtafmekojdaeliaaDoor.codeNumbers
open Go.Proofs.YtafmekojdaeliaaDoor Go.ChangeShapes Go.WideShapes Go.ChangeAt Go.RowKit
set_option linter.unusedVariables false
set_option linter.unusedSimpArgs false
attribute [local go_sem ↓] Go.wp_at_zero Go.wp_at_succ
set_option maxHeartbeats 16000000 in
theorem walk (a0 : Int) (w0 : -9223372036854775808 ≤ a0 ∧ a0 ≤ 9223372036854775807) (a1 : Value) (w : World) (w1 : BytsIn w a1) (hV : Vars w) :
    Calls Tryd.prog 7 #[.int .i64 a0, a1] w fun e w' => e = .returned (.bool true) ∧ Below w.heap.size w w' := by
  obtain ⟨b1, hb1, ok1, hm1⟩ := w1
  obtain ⟨B, hB⟩ : ∃ B, b1.take 6 = B := ⟨_, rfl⟩
  have okB : bytOk B := hB ▸ ok1.take 6
  have lB : B.length ≤ 6 := by rw [← hB]; simp; omega
  have few := fun k hk => r6_few a1 b1 6 k hk hm1 (by omega)
  rw [hB] at few
  have few : ∀ k, BytsAt k a1 b1 → Calls Tryd.prog 18 #[a1, .int .i64 6] k fun e w' => ∃ p cap, e = .returned (.slice p B.length cap) ∧ BytsAt w' (.slice p B.length cap) B ∧ Below k.heap.size k w' := few
  obtain ⟨nB, hnB⟩ : ∃ n, B.length = n := ⟨_, rfl⟩
  rw [hnB] at few lB
  have FEW := Lib.hid few
  have OKB := Lib.hid okB
  have HNB := Lib.hid hnB
  clear few okB hB hnB ok1 hm1
  have i0 : i64 a0 := w0
  obtain ⟨D, hD⟩ : ∃ D, numF a0 = D := ⟨_, rfl⟩
  have okD : bytOk D := hD ▸ num_ok a0
  obtain ⟨nD, hnD⟩ : ∃ n, D.length = n := ⟨_, rfl⟩
  obtain ⟨⟨d1, d2, d3⟩, hd⟩ : ∃ d, digF B = d := ⟨_, rfl⟩
  have I0 := Lib.hid i0
  have HD := Lib.hid hD
  have OKD := Lib.hid okD
  have HND := Lib.hid hnD
  have HDG := Lib.hid hd
  clear i0 hD okD hnD hd w0
  by_cases h0 : a0 < 0 ∨ 1048576 < a0
  · have hz : nD = 0 := by
      have := HD.out
      unfold numF at this
      rw [if_pos h0] at this
      rw [← HND.out, ← this]; rfl
    subst hz
    rcases h0 with h0 | h0
    all_goals
      try have h1 : ¬ a0 < 0 := by omega
      have kw : Below w.heap.size w w := Below.refl _ _
      go_enter Tryd.func7, Tryd.ntmps7
      go_wp2_with fail
      refine (FEW.out _ hb1).mono ?_
      rintro e W1 ⟨pb, cb, rfl, hB, hv1⟩
      replace kw := chain kw hv1
      replace hb1 := hb1.keep hv1
      clear hv1
      clear hb1
      go_wp2_with fail
      refine (b6_number a0 I0.out _ (hV.keep kw)).mono ?_
      rintro e W2 ⟨vn, rfl, hn, hv2⟩
      replace kw := chain kw hv2
      replace hB := hB.keep hv2
      clear hv2
      rw [HD.out] at hn
      obtain ⟨pn, cn, rfl⟩ := hn.shape
      rw [HND.out] at hn ⊢
      go_wp2_with fail
      refine (b6_digits _ B _ (hV.keep kw) hB OKB.out (by rw [HNB.out]; unfold maxLen; omega)).mono ?_
      rintro e W3 ⟨rfl, hv3⟩
      replace kw := chain kw hv3
      replace hB := hB.keep hv3
      replace hn := hn.keep hv3
      clear hv3
      rw [HDG.out]
      go_wp2_with fail
      refine (r6_digits _ B _ hB OKB.out (by rw [HNB.out]; unfold maxLen; omega)).mono ?_
      rintro e W4 ⟨rfl, hv4⟩
      replace kw := chain kw hv4
      replace hB := hB.keep hv4
      replace hn := hn.keep hv4
      clear hv4
      rw [HDG.out]
      go_wp2_with fail
      refine (r6_number a0 I0.out _).mono ?_
      rintro e W5 ⟨vm, rfl, hom, hv5⟩
      replace kw := chain kw hv5
      replace hB := hB.keep hv5
      replace hn := hn.keep hv5
      clear hv5
      have hm := byts_of_owned hom
      clear hom
      rw [HD.out] at hm
      go_wp2_with fail
      refine (l6_same _ _ _ _ rfl _ hn hm OKD.out).mono ?_
      rintro e W6 ⟨rfl, hv6⟩
      replace kw := chain kw hv6
      replace hB := hB.keep hv6
      replace hn := hn.keep hv6
      replace hm := hm.keep hv6
      clear hv6
      clear hm
      go_wp2_with fail
      refine (l6_lives _ (hV.keep kw)).mono ?_
      rintro e W7 ⟨rfl, hv7⟩
      replace kw := chain kw hv7
      replace hB := hB.keep hv7
      replace hn := hn.keep hv7
      clear hv7
      go_wp2
      go_ret
      exact ⟨rfl, by (repeat (first | with_reducible assumption | with_reducible exact Below.refl _ _ | with_reducible refine Below.drew ?_ | with_reducible refine below_drewN ?_ _ | with_reducible refine al ?_ _ | (with_reducible refine sc ?_ ?_; (focus (first | omega | (simp; done) | (simp; omega)))) | (with_reducible refine chain ?_ (by assumption))))⟩
  · have h1 : ¬ a0 < 0 := by omega
    have h2 : ¬ 1048576 < a0 := by omega
    have hp := num_pos (n := a0) (by omega) (by omega)
    have hn3 := num_len3 a0
    rw [HD.out, HND.out] at hp hn3
    have hdg := dig_num (n := a0) (by omega) (by omega) B
    rw [HD.out, HND.out] at hdg
    have HDN := Lib.hid hdg
    clear hdg h0
    obtain ⟨i0, hi, hz, hsz, hby⟩ := byte_info
    have eD : ((d1, d2, d3) : Int × Int × Int) = digF B := HDG.out.symm
    clear eD
    have kw : Below w.heap.size w w := Below.refl _ _
    go_enter Tryd.func7, Tryd.ntmps7
    go_wp2_with fail
    refine (FEW.out _ hb1).mono ?_
    rintro e W1 ⟨pb, cb, rfl, hB, hv1⟩
    replace kw := chain kw hv1
    replace hb1 := hb1.keep hv1
    clear hv1
    clear hb1
    go_wp2_with fail
    refine (b6_number a0 I0.out _ (hV.keep kw)).mono ?_
    rintro e W2 ⟨vn, rfl, hn, hv2⟩
    replace kw := chain kw hv2
    replace hB := hB.keep hv2
    clear hv2
    rw [HD.out] at hn
    obtain ⟨pn, cn, rfl⟩ := hn.shape
    rw [HND.out] at hn ⊢
    go_wp2_with fail
    refine (b6_digits _ B _ (hV.keep kw) hB OKB.out (by rw [HNB.out]; unfold maxLen; omega)).mono ?_
    rintro e W3 ⟨rfl, hv3⟩
    replace kw := chain kw hv3
    replace hB := hB.keep hv3
    replace hn := hn.keep hv3
    clear hv3
    rw [HDG.out]
    go_wp2_with fail
    refine (r6_digits _ B _ hB OKB.out (by rw [HNB.out]; unfold maxLen; omega)).mono ?_
    rintro e W4 ⟨rfl, hv4⟩
    replace kw := chain kw hv4
    replace hB := hB.keep hv4
    replace hn := hn.keep hv4
    clear hv4
    rw [HDG.out]
    go_wp2_with fail
    refine (r6_number a0 I0.out _).mono ?_
    rintro e W5 ⟨vm, rfl, hom, hv5⟩
    replace kw := chain kw hv5
    replace hB := hB.keep hv5
    replace hn := hn.keep hv5
    clear hv5
    have hm := byts_of_owned hom
    clear hom
    rw [HD.out] at hm
    go_wp2_with fail
    refine (l6_same _ _ _ _ rfl _ hn hm OKD.out).mono ?_
    rintro e W6 ⟨rfl, hv6⟩
    replace kw := chain kw hv6
    replace hB := hB.keep hv6
    replace hn := hn.keep hv6
    replace hm := hm.keep hv6
    clear hv6
    clear hm
    go_wp2_with (at_builtin; first | (refine app_any _ rfl _ _ 25 rfl w.heap.size 5 i0 _ Tryd.underlying25 hi hz hsz hby rfl _ _ _ rfl (World.ownsRow_nil _ _ _ _) D _ _ _ rfl hn (by omega) kw.size ?_; intro va X1 hoa hga; have ka : Below w.heap.size w X1 := Below.own0 kw hga; have hBa : BytsAt X1 (.slice pb nB cb) B := hB.grown hga; clear hn hB kw hga) | (refine app_any _ rfl _ _ 25 rfl w.heap.size 5 i0 _ Tryd.underlying25 hi hz hsz hby rfl _ _ _ rfl hoa B _ _ _ rfl hBa (by omega) ka.size ?_; intro vb X2 hob hgb; have kb : Below w.heap.size w X2 := Below.own ka hoa hgb; clear hoa hBa ka hgb))
    have hc : BytsAt X2 vb (D ++ B) := by
      have e1 : bytVs (D ++ B) = ([] ++ bytVs D) ++ bytVs B := by simp
      have e2 : (D ++ B).length = 0 + nD + nB := by rw [List.length_append, HND.out, HNB.out]; omega
      exact byts_of_owned (by rw [e1, e2]; exact hob)
    clear hob
    refine (b6_digits _ (D ++ B) _ (hV.keep kb) hc (OKD.out.append OKB.out) (by rw [List.length_append, HND.out, HNB.out]; unfold maxLen; omega)).mono ?_
    rintro e X3 ⟨rfl, hv⟩
    rw [HDN.out]
    replace kb := chain kb hv
    clear hv
    go_wp2_with fail
    refine (l6_lives _ (hV.keep kb)).mono ?_
    rintro e X4 ⟨rfl, hv⟩
    go_wp2
    go_ret
    exact ⟨rfl, by (repeat (first | with_reducible assumption | with_reducible exact Below.refl _ _ | with_reducible refine Below.drew ?_ | with_reducible refine below_drewN ?_ _ | with_reducible refine al ?_ _ | (with_reducible refine sc ?_ ?_; (focus (first | omega | (simp; done) | (simp; omega)))) | (with_reducible refine chain ?_ (by assumption))))⟩
theorem own : ownKnob Tryd.prog.godebug = none := by kernel_rfl
set_option maxRecDepth 100000 in
theorem contract (H : Type) (enc : TypeId × Value → H) (W : World) (base : Nat) (args : Array Value) (ds gs : List (DataW H)) (before : List MemPlace)
    (hval : ∀ (j : Nat) t v, Tryd.f7.params[j]? = some t → args[j]? = some v → Value.okWide Tryd.prog W .any base t v)
    (hW : DataW.Whole enc Tryd.prog Tryd.f7.params.toList Rows.codeNumbersSpec.vars false W args.toList ds gs before) (hL : laidMetH Tryd.prog Rows.codeNumbersRow.laid W) :
    Calls Tryd.prog 7 args W fun e W' => ∃ v, e = .returned v ∧ Rows.codeNumbersSpec.post enc Tryd.prog Tryd.f7 false true false false W args v W' := by
  have hW' := hW
  obtain ⟨p, q, hA0, hV0, rfl, hfz, hnd⟩ := hW
  have hA : DataW.TrodAll enc Tryd.prog W 0 (fun _ => true) true Tryd.f7.params.toList args.toList ds p := hA0
  rw [Tryd.params7] at hA hval
  obtain ⟨v0, vs0, d0, ds0, p0, q0, hargs, rfl, rfl, h0, r0⟩ := trodAll_cons hA
  obtain ⟨v1, vs1, d1, ds1, p1, q1, rfl, rfl, rfl, h1, r1⟩ := trodAll_cons r0
  obtain ⟨rfl, rfl, rfl⟩ := trodAll_nil r1
  obtain rfl : args = #[v0, v1] := by cases args; simp_all
  obtain ⟨rfl, rfl⟩ := trodVars_none hV0
  simp only [List.append_nil] at hW'
  have hlt : ∀ x ∈ p0 ++ (p1 ++ ([])), x.block < W.heap.size := fun x hx => hW'.lt x (by simpa using hx)
  have hlt0 : ∀ x ∈ p0, x.block < W.heap.size := fun x hx => hlt x (List.mem_append.2 (.inl hx))
  have hlt1 : ∀ x ∈ p1, x.block < W.heap.size := fun x hx => hlt x (List.mem_append.2 (.inr (List.mem_append.2 (.inl hx))))
  have k0 := h0
  have k1 := h1
  obtain ⟨a0, rfl, w0⟩ := open_num (hval 0 3 v0 rfl rfl) h0
  have w1 := open_byts (hval 1 25 v1 rfl rfl) h1 hlt1
  clear hA0
  refine (walk a0 w0 v1 W w1 (Vars.of_laid (by kernel_rfl) hL (by simp [Rows.codeNumbersRow]))).mono fun e W' ⟨he, hg⟩ => ?_
  subst he
  exact ⟨_, rfl, _, _, _, [], _, [], hW', (trodAll_cons_mk (shut_bool Tryd.underlying4 _) trodAll_mk0), (trodAll_cons_mk (Below.trod laidOut (by kernel_rfl) (of_decide_eq_true (by kernel_rfl)) k0 hg hlt0) (trodAll_cons_mk (Below.trod laidOut (by kernel_rfl) (of_decide_eq_true (by kernel_rfl)) k1 hg hlt1) trodAll_mk0)), rfl, hg.frame _, fun h => by cases h⟩
set_option maxRecDepth 100000 in
theorem laid_met (os : Os) : laidMetH Tryd.prog Rows.codeNumbersRow.laid ((World.doorLaid Tryd.prog 400 os).forCall (fun _ _ => 0) ⟨#[], #[.int .i64 0, .slice none 0 0], []⟩).memory := by
  rw [MakeChecks.laidMetH_plain _ _ _ (by kernel_rfl)]
  exact laidMet_of_run' 8 (by kernel_rfl) (by kernel_rfl)
set_option maxRecDepth 100000 in
theorem lifted (os : Os) (started : os.Started) (H : Type) (enc : TypeId × Value → H) (F : Stop.Interp) :
    ReturnsInHanded {} Tryd.checked os 7 .any ((OpenSpec.ofChange Rows.codeNumbersSpec).preRow enc Tryd.prog Tryd.f7 Rows.codeNumbersRow.domain false Rows.codeNumbersRow.laid) (((OpenSpec.ofChange Rows.codeNumbersSpec).at F).post enc Tryd.prog Tryd.f7 false true false false) := by
  refine returnsInHanded_of_row (C := Tryd.checked) (s := OpenSpec.ofChange Rows.codeNumbersSpec) own started (by kernel_rfl) Tryd.func7
    (witness_row_at (enc := enc) (C := Tryd.checked) false (World.doorLaid Tryd.prog 400 os) #[.int .i64 0, .slice none 0 0] rfl (by kernel_rfl) (by kernel_rfl) (by kernel_rfl)
      (OpenSpec.preRow_of_B rfl 8 (by kernel_rfl) (by kernel_rfl) (laid_met os))) ?_
  intro W base args ds gs before hval hW _ _ _ hL _ _
  exact contract H enc W base args ds gs before hval hW hL
theorem said : Rows.CodeNumbersSaid :=
  OpenClaim.holds_of_cond 7 Tryd.f7 rfl rfl rfl rfl rfl rfl rfl ⟨rfl, rfl, rfl, rfl, rfl⟩ rfl rfl rfl rfl rfl (by kernel_rfl) Tryd.func7 (by kernel_rfl)
    (of_decide_eq_true (by kernel_rfl)) (by unfold Func.isWrapper; first | (rw [if_pos (by decide +kernel)]; kernel_rfl) | (rw [if_neg (by decide +kernel)]; exact ⟨rfl, rfl⟩))
    (fun os started H enc _ F => by rw [OpenClaim.pre_eq_preRow]; exact lifted os started H enc F)
theorem plain (f : FuncId) (fn : Func) (hf : Tryd.pinned.checked.prog.funcNamed "breccia/breccialaw06.CodeNumbers" = some f) (hfn : Tryd.pinned.checked.prog.funcs[f]? = some fn) :
    false = Tryd.pinned.checked.prog.looks [] ∧ ∀ (j : Nat) t, fn.params[j]? = some t → Tryd.pinned.checked.prog.wantsStandIn t = false := by
  obtain rfl : f = 7 := Option.some.inj ((show Tryd.prog.funcNamed "breccia/breccialaw06.CodeNumbers" = some 7 by kernel_rfl).symm.trans hf) |>.symm
  obtain rfl : fn = Tryd.f7 := (Option.some.inj (Tryd.func7.symm.trans hfn)).symm
  refine ⟨by kernel_rfl, fun j t ht => ?_⟩
  rw [Tryd.params7] at ht
  have hm : t ∈ #[3, 25] := Array.mem_of_getElem? ht
  have hm : t ∈ [3, 25] := by simpa using hm
  have hall : ([3, 25].all fun u => !Tryd.prog.wantsStandIn u) = true := by kernel_rfl
  exact (show Tryd.prog.wantsStandIn t = false by simpa using List.all_eq_true.1 hall t hm)
theorem card : Rows.CodeNumbersCardSaid :=
  Claim7.holds_tied_plain_at .later [] _ _ _ _ said (fun _ h => by cases h) (by kernel_rfl) (fun _ h => by cases h) codeNumbers_row_tie rfl ⟨rfl, rfl⟩ (by kernel_rfl) rfl plain (by kernel_rfl)
#print axioms card
end Go.Proofs.YtafmekojdaeliaaDoor.codeNumbers
