/- For every number the law BlockKinds of layer 4 answers true: what a block is like is the document's; each is solid, gives way, or is climbed, and one alone. Conditions: none: every input. -/
import Derived.Test.YtnodaoelijjhiaaDoorRows
import Derived.Test.YtnodaoelijjhiaaDoorO02
import Derived.Test.YtnodaoelijjhiaaDoorL04
import Derived.Test.YtnodaoelijjhiaaDoorVRS
import Derived.Test.YtnodaoelijjhiaaDoorCards
import Derived.Test.YtnodaoelijjhiaaDoorTie
import Derived.WalkKit
import Derived.ProofKit
import Derived.OpenShut
import Derived.Below
import Derived.Carry
import Derived.Deep.DeepHandedRow
import Derived.LaidMore
namespace Go.Proofs.YtnodaoelijjhiaaDoor.blockKinds
open Go.Proofs.YtnodaoelijjhiaaDoor Go.ChangeShapes Go.WideShapes Go.ChangeAt Go.RowKit
set_option linter.unusedVariables false
set_option linter.unusedSimpArgs false
attribute [local go_sem ↓] Go.wp_at_zero Go.wp_at_succ
set_option maxHeartbeats 16000000 in
theorem walk (a0 : Int) (w0 : -9223372036854775808 ≤ a0 ∧ a0 ≤ 9223372036854775807) (w : World) (hV : Vars w) :
    Calls Tryd.prog 3 #[.int .i64 a0] w fun e w' => e = .returned (.bool true) ∧ Below w.heap.size w w' := by
  have i0 : i64 a0 := w0
  have fx : ∀ n, i64 n → ∃ (ma so we ye fa cl : Bool) (le : Int),
      ((∀ k, Vars k → Calls Tryd.prog 7 #[.int .i64 n] k fun e w' => e = .returned (.bool ma) ∧ Below k.heap.size k w') ∧ (∀ k, Calls Tryd.prog 8 #[.int .i64 n] k fun e w' => e = .returned (.bool ma) ∧ k = w')) ∧
      ((∀ k, Calls Tryd.prog 9 #[.int .i64 n] k fun e w' => e = .returned (.bool so) ∧ Below k.heap.size k w') ∧ (∀ k, Calls Tryd.prog 10 #[.int .i64 n] k fun e w' => e = .returned (.bool so) ∧ k = w')) ∧
      ((∀ k, Calls Tryd.prog 11 #[.int .i64 n] k fun e w' => e = .returned (.bool we) ∧ Below k.heap.size k w') ∧ (∀ k, Calls Tryd.prog 12 #[.int .i64 n] k fun e w' => e = .returned (.bool we) ∧ k = w')) ∧
      ((∀ k, Calls Tryd.prog 13 #[.int .i64 n] k fun e w' => e = .returned (.bool ye) ∧ Below k.heap.size k w') ∧ (∀ k, Calls Tryd.prog 14 #[.int .i64 n] k fun e w' => e = .returned (.bool ye) ∧ k = w')) ∧
      ((∀ k, Calls Tryd.prog 17 #[.int .i64 n] k fun e w' => e = .returned (.int .i64 le) ∧ Below k.heap.size k w') ∧ (∀ k, Calls Tryd.prog 18 #[.int .i64 n] k fun e w' => e = .returned (.int .i64 le) ∧ k = w')) ∧
      (∀ k, Calls Tryd.prog 15 #[.int .i64 n] k fun e w' => e = .returned (.bool fa) ∧ Below k.heap.size k w') ∧ (∀ k, Calls Tryd.prog 16 #[.int .i64 n] k fun e w' => e = .returned (.bool cl) ∧ Below k.heap.size k w') ∧
      (n == 3) = fa ∧ (n == 4) = cl ∧ (ma = true → (if so then (1 : Int) else 0) + (if ye then 1 else 0) + (if cl then 1 else 0) = 1) := fun n hn =>
    ⟨_, _, _, _, _, _, _, ⟨b4_may n hn, r4_may n⟩, ⟨b4_solid n hn, r4_solid n⟩, ⟨b4_wet n hn, r4_wet n⟩, ⟨b4_yields n hn, r4_yields n⟩, ⟨b4_level n hn, r4_level n hn⟩, b4_falls n hn, b4_climbs n hn, rfl, rfl, fun h => kinds_one h⟩
  have FX := Lib.hid fx
  clear fx
  go_enter Tryd.func3, Tryd.ntmps3
  go_wp2_with fail
  go_loopw [3] (fun i wr => ∃ j : Int, (-3 ≤ j ∧ j ≤ 18) ∧ i = .int .i64 j ∧ Below w.heap.size w wr) (fun i _ => (18 - intOf i).toNat)
  case atStart => exact ⟨-3, by omega, rfl, by (repeat (first | with_reducible assumption | with_reducible exact Below.refl _ _ | with_reducible refine Below.drew ?_ | with_reducible refine below_drewN ?_ _ | with_reducible refine al ?_ _ | (with_reducible refine sc ?_ ?_; (focus (first | omega | (simp; done) | (simp; omega)))) | (with_reducible refine chain ?_ (by assumption))))⟩
  case round =>
    obtain ⟨j, ⟨hj0, hj1⟩, rfl, kw⟩ := hrel
    by_cases hlt : j < 18
    · have nx : ∃ n : Int, i64 n ∧ (((j == -3) = true ∧ a0 = n) ∨ ((j == -3) = false ∧ j = n)) := by
        by_cases h : j = -3
        · exact ⟨a0, i0, .inl ⟨by simpa using h, rfl⟩⟩
        · exact ⟨j, by constructor <;> omega, .inr ⟨by simpa using h, rfl⟩⟩
      obtain ⟨n, hn, hjn⟩ := nx
      obtain ⟨ma, so, we, ye, fa, cl, le, ⟨m1, m2⟩, ⟨s1, s2⟩, ⟨t1, t2⟩, ⟨y1, y2⟩, ⟨l1, l2⟩, f1, c1, hfa, hcl, hk⟩ := FX.out n hn
      have HM1 := Lib.hid m1; have HM2 := Lib.hid m2; have HS1 := Lib.hid s1; have HS2 := Lib.hid s2; have HT1 := Lib.hid t1; have HT2 := Lib.hid t2
      have HY1 := Lib.hid y1; have HY2 := Lib.hid y2; have HL1 := Lib.hid l1; have HL2 := Lib.hid l2; have HF1 := Lib.hid f1; have HC1 := Lib.hid c1
      have HK := Lib.hid hk
      clear m1 m2 s1 s2 t1 t2 y1 y2 l1 l2 f1 c1 hk
      have HJN := Lib.hid hjn
      clear hjn
      have VW := hV.keep kw
      rcases HJN.out with ⟨h, rfl⟩ | ⟨h, rfl⟩
      all_goals
        go_upto_region 7 with (fail)
        refine plain_below 46 ?_
        simp only [List.take_succ_cons, List.take_zero, List.drop_succ_cons, List.drop_zero]
        repeat (first | (refine' InText.skip (by rfl) ?_; simp only [Act.put, List.setIfInBounds_toArray, List.set_cons_zero, List.set_cons_succ]) | (refine' InText.val (by rfl) (fun wr hr => ?_) ?_; rotate_left 1; (focus (obtain ⟨hrc, hrf⟩ := bcell hr; (go_simp <;> with_reducible rfl); done)); simp only [Act.put, List.setIfInBounds_toArray, List.set_cons_zero, List.set_cons_succ]) | (refine' InText.call (by rfl) (fun wr hr => ?_) (fun wr hr => ?_) ?_; rotate_left 3; (focus ((go_simp <;> (first | with_reducible rfl | exact ⟨rfl, rfl⟩)); done)); (focus (first | with_reducible exact HM1.out _ (VW.keep hr) | with_reducible exact pureB (HM2.out _) | with_reducible exact HS1.out _ | with_reducible exact pureB (HS2.out _) | with_reducible exact HT1.out _ | with_reducible exact pureB (HT2.out _) | with_reducible exact HY1.out _ | with_reducible exact pureB (HY2.out _) | with_reducible exact HL1.out _ | with_reducible exact pureB (HL2.out _) | with_reducible exact HF1.out _ | with_reducible exact HC1.out _)); simp only [Act.put, List.setIfInBounds_toArray, List.set_cons_zero, List.set_cons_succ]))
        refine fun wrs hrs => ?_
        obtain ⟨hrcs, hrfs⟩ := bcell hrs
        have ks : Below w.heap.size w wrs := chain kw hrs
        clear hrs hrcs hrfs kw VW
        go_wp2_with fail
        (refine (HS1.out _).mono ?_; rintro e v1 ⟨rfl, hv1⟩)
        have k1 : Below w.heap.size w v1 := chain ks hv1
        clear hv1 ks
        cases so <;> cases ye <;> cases cl <;> cases ma
        all_goals first | (exact absurd (HK.out rfl) (by decide)) | skip
        all_goals
          go_wp2_with fail
          (refine (HY1.out _).mono ?_; rintro e v2 ⟨rfl, hv2⟩)
          have k2 : Below w.heap.size w v2 := chain k1 hv2
          clear hv2 k1
          go_wp2_with fail
          (refine (HC1.out _).mono ?_; rintro e v3 ⟨rfl, hv3⟩)
          have k3 : Below w.heap.size w v3 := chain k2 hv3
          clear hv3 k2
          go_wp2_with fail
          (refine (HM1.out _ (hV.keep k3)).mono ?_; rintro e v4 ⟨rfl, hv4⟩)
          have k4 : Below w.heap.size w v4 := chain k3 hv4
          clear hv4 k3
          go_wp2_with fail
          go_roundw
          case rel => first | exact ⟨j + 1, by constructor <;> omega, by go_num, k4⟩ | exact ⟨n + 1, by constructor <;> omega, by go_num, k4⟩
          case measure => simp [intOf]; omega
    · obtain rfl : j = 18 := by omega
      go_wp2_with fail
      (refine (l4_lives _ (hV.keep kw)).mono ?_; rintro e u1 ⟨rfl, hu1⟩)
      go_wp2
      go_ret
      exact ⟨rfl, by (repeat (first | with_reducible assumption | with_reducible exact Below.refl _ _ | with_reducible refine Below.drew ?_ | with_reducible refine below_drewN ?_ _ | with_reducible refine al ?_ _ | (with_reducible refine sc ?_ ?_; (focus (first | omega | (simp; done) | (simp; omega)))) | (with_reducible refine chain ?_ (by assumption))))⟩
theorem own : ownKnob Tryd.prog.godebug = none := by kernel_rfl
set_option maxRecDepth 100000 in
theorem contract (H : Type) (enc : TypeId × Value → H) (W : World) (base : Nat) (args : Array Value) (ds gs : List (DataW H)) (before : List MemPlace)
    (hval : ∀ (j : Nat) t v, Tryd.f3.params[j]? = some t → args[j]? = some v → Value.okWide Tryd.prog W .any base t v)
    (hW : DataW.Whole enc Tryd.prog Tryd.f3.params.toList Rows.blockKindsSpec.vars false W args.toList ds gs before) (hL : laidMetH Tryd.prog Rows.blockKindsRow.laid W) :
    Calls Tryd.prog 3 args W fun e W' => ∃ v, e = .returned v ∧ Rows.blockKindsSpec.post enc Tryd.prog Tryd.f3 false true false false W args v W' := by
  have hW' := hW
  obtain ⟨p, q, hA0, hV0, rfl, hfz, hnd⟩ := hW
  have hA : DataW.TrodAll enc Tryd.prog W 0 (fun _ => true) true Tryd.f3.params.toList args.toList ds p := hA0
  rw [Tryd.params3] at hA hval
  obtain ⟨v0, vs0, d0, ds0, p0, q0, hargs, rfl, rfl, h0, r0⟩ := trodAll_cons hA
  obtain ⟨rfl, rfl, rfl⟩ := trodAll_nil r0
  obtain rfl : args = #[v0] := by cases args; simp_all
  obtain ⟨rfl, rfl⟩ := trodVars_none hV0
  simp only [List.append_nil] at hW'
  have hlt : ∀ x ∈ p0 ++ ([]), x.block < W.heap.size := fun x hx => hW'.lt x (by simpa using hx)
  have hlt0 : ∀ x ∈ p0, x.block < W.heap.size := fun x hx => hlt x (List.mem_append.2 (.inl hx))
  have k0 := h0
  obtain ⟨a0, rfl, w0⟩ := open_num (hval 0 3 v0 rfl rfl) h0
  clear hA0
  refine (walk a0 w0 W (Vars.of_laid (by kernel_rfl) hL (by simp [Rows.blockKindsRow]))).mono fun e W' ⟨he, hg⟩ => ?_
  subst he
  exact ⟨_, rfl, _, _, _, [], _, [], hW', (trodAll_cons_mk (shut_bool Tryd.underlying4 _) trodAll_mk0), (trodAll_cons_mk (Below.trod laidOut (by kernel_rfl) (of_decide_eq_true (by kernel_rfl)) k0 hg hlt0) trodAll_mk0), rfl, hg.frame _, fun h => by cases h⟩
set_option maxRecDepth 100000 in
theorem laid_met (os : Os) : laidMetH Tryd.prog Rows.blockKindsRow.laid ((World.doorLaid Tryd.prog 400 os).forCall (fun _ _ => 0) ⟨#[], #[.int .i64 0], []⟩).memory := by
  rw [MakeChecks.laidMetH_plain _ _ _ (by kernel_rfl)]
  exact laidMet_of_run' 8 (by kernel_rfl) (by kernel_rfl)
set_option maxRecDepth 100000 in
theorem lifted (os : Os) (started : os.Started) (H : Type) (enc : TypeId × Value → H) (F : Stop.Interp) :
    ReturnsInHanded {} Tryd.checked os 3 .any ((OpenSpec.ofChange Rows.blockKindsSpec).preRow enc Tryd.prog Tryd.f3 Rows.blockKindsRow.domain false Rows.blockKindsRow.laid) (((OpenSpec.ofChange Rows.blockKindsSpec).at F).post enc Tryd.prog Tryd.f3 false true false false) := by
  refine returnsInHanded_of_row (C := Tryd.checked) (s := OpenSpec.ofChange Rows.blockKindsSpec) own started (by kernel_rfl) Tryd.func3
    (witness_row_at (enc := enc) (C := Tryd.checked) false (World.doorLaid Tryd.prog 400 os) #[.int .i64 0] rfl (by kernel_rfl) (by kernel_rfl) (by kernel_rfl)
      (OpenSpec.preRow_of_B rfl 8 (by kernel_rfl) (by kernel_rfl) (laid_met os))) ?_
  intro W base args ds gs before hval hW _ _ _ hL _ _
  exact contract H enc W base args ds gs before hval hW hL
theorem said : Rows.BlockKindsSaid :=
  OpenClaim.holds_of_cond 3 Tryd.f3 rfl rfl rfl rfl rfl rfl rfl ⟨rfl, rfl, rfl, rfl, rfl⟩ rfl rfl rfl rfl rfl (by kernel_rfl) Tryd.func3 (by kernel_rfl)
    (of_decide_eq_true (by kernel_rfl)) (by unfold Func.isWrapper; first | (rw [if_pos (by decide +kernel)]; kernel_rfl) | (rw [if_neg (by decide +kernel)]; exact ⟨rfl, rfl⟩))
    (fun os started H enc _ F => by rw [OpenClaim.pre_eq_preRow]; exact lifted os started H enc F)
theorem plain (f : FuncId) (fn : Func) (hf : Tryd.pinned.checked.prog.funcNamed "breccia/breccialaw04.BlockKinds" = some f) (hfn : Tryd.pinned.checked.prog.funcs[f]? = some fn) :
    false = Tryd.pinned.checked.prog.looks [] ∧ ∀ (j : Nat) t, fn.params[j]? = some t → Tryd.pinned.checked.prog.wantsStandIn t = false := by
  obtain rfl : f = 3 := Option.some.inj ((show Tryd.prog.funcNamed "breccia/breccialaw04.BlockKinds" = some 3 by kernel_rfl).symm.trans hf) |>.symm
  obtain rfl : fn = Tryd.f3 := (Option.some.inj (Tryd.func3.symm.trans hfn)).symm
  refine ⟨by kernel_rfl, fun j t ht => ?_⟩
  rw [Tryd.params3] at ht
  have hm : t ∈ #[3] := Array.mem_of_getElem? ht
  have hm : t ∈ [3] := by simpa using hm
  have hall : ([3].all fun u => !Tryd.prog.wantsStandIn u) = true := by kernel_rfl
  exact (show Tryd.prog.wantsStandIn t = false by simpa using List.all_eq_true.1 hall t hm)
theorem card : Rows.BlockKindsCardSaid :=
  Claim7.holds_tied_plain_at .later [] _ _ _ _ said (fun _ h => by cases h) (by kernel_rfl) (fun _ h => by cases h) blockKinds_row_tie rfl ⟨rfl, rfl⟩ (by kernel_rfl) rfl plain (by kernel_rfl)
#print axioms card
end Go.Proofs.YtnodaoelijjhiaaDoor.blockKinds
