/- For every two numbers the law BlockWords of layer 4 answers true: names tell blocks apart, and are read back. Conditions: none: every input. -/
import Derived.Test.YtnodaoelijjhiaaDoorRows
import Derived.Test.YtnodaoelijjhiaaDoorO02
import Derived.Test.YtnodaoelijjhiaaDoorL04
import Derived.Test.YtnodaoelijjhiaaDoorVRS
import Derived.Test.YtnodaoelijjhiaaDoorCards
import Derived.Test.YtnodaoelijjhiaaDoorTie
import Derived.WalkKit
import Derived.ProofKit
import Derived.OpenShut
import Derived.Below
import Derived.Carry
import Derived.Deep.DeepHandedRow
import Derived.LaidMore
namespace Go.Proofs.YtnodaoelijjhiaaDoor.blockWords
open Go.Proofs.YtnodaoelijjhiaaDoor Go.ChangeShapes Go.WideShapes Go.ChangeAt Go.RowKit
set_option linter.unusedVariables false
set_option linter.unusedSimpArgs false
attribute [local go_sem ↓] Go.wp_at_zero Go.wp_at_succ
set_option maxHeartbeats 8000000 in
theorem walk (a0 : Int) (w0 : -9223372036854775808 ≤ a0 ∧ a0 ≤ 9223372036854775807) (a1 : Int) (w1 : -9223372036854775808 ≤ a1 ∧ a1 ≤ 9223372036854775807) (w : World) (hV : Vars w) :
    Calls Tryd.prog 6 #[.int .i64 a0, .int .i64 a1] w fun e w' => e = .returned (.bool true) ∧ Below w.heap.size w w' := by
  have i0 : i64 a0 := w0
  have i1 : i64 a1 := w1
  have na := fun k hk => b4_name a0 i0 k hk
  have nb := fun k hk => b4_name a1 i1 k hk
  have ea := names_apart a0 a1
  have sz := name_size a0
  have po := fun k (hk : Vars k) => b4_parse (nameF a0 ++ ⟨#[32]⟩) k hk
  rw [parse_odd] at po
  have pa : ∃ (n : Int), parseV (nameF a0) = .tuple #[.int .i64 n, .bool (mayB a0)] ∧ (mayB a0 = true → (n == a0) = true) := by
    cases h : mayB a0
    · rw [name_none h, parse_empty]; exact ⟨0, rfl, fun h => by cases h⟩
    · rw [parse_name h]; exact ⟨a0, rfl, fun _ => by simp⟩
  obtain ⟨n, pn, hn⟩ := pa
  have pp := fun k (hk : Vars k) => b4_parse (nameF a0) k hk
  rw [pn] at pp
  have my := fun k hk => b4_may a0 i0 k hk
  have ra := fun k => r4_may a0 k
  have rb := fun k => r4_may a1 k
  have same : a0 = a1 → mayB a0 = mayB a1 := fun h => by rw [h]
  generalize nameF a0 = X at *
  generalize nameF a1 = Y at *
  generalize mayB a0 = ma at *
  generalize mayB a1 = mb at *
  obtain ⟨q, hq⟩ : ∃ q, (a0 == a1) = q := ⟨_, rfl⟩
  rw [hq] at ea
  have hs : q = true → ma = mb := fun h => same (by rw [h] at hq; simpa using hq)
  clear same pn w0 w1
  have HNA := Lib.hid na
  have HNB := Lib.hid nb
  have HPO := Lib.hid po
  have HPP := Lib.hid pp
  have HMY := Lib.hid my
  have HRA := Lib.hid ra
  have HRB := Lib.hid rb
  clear na nb po pp my ra rb
  cases ma <;> cases mb <;> cases q
  all_goals first | (exact absurd (hs rfl) (by decide)) | skip
  all_goals
    clear hs
    try have hn1 := hn rfl
    clear hn
    simp only [Bool.not_true, Bool.not_false, Bool.and_self, Bool.and_true, Bool.and_false, Bool.or_true, Bool.or_false, Bool.or_self, Bool.true_or, Bool.false_or, Bool.true_and, Bool.false_and] at ea
    go_enter Tryd.func6, Tryd.ntmps6
    go_wp2_with fail
    (refine (HNA.out _ hV).mono ?_; rintro e v1 ⟨rfl, hv1⟩)
    have k1 : Below w.heap.size w v1 := by (repeat (first | with_reducible assumption | with_reducible exact Below.refl _ _ | with_reducible refine Below.drew ?_ | with_reducible refine below_drewN ?_ _ | with_reducible refine al ?_ _ | (with_reducible refine sc ?_ ?_; (focus (first | omega | (simp; done) | (simp; omega)))) | (with_reducible refine chain ?_ (by assumption))))
    go_wp2_with fail
    (refine (HNB.out _ (hV.keep k1)).mono ?_; rintro e v2 ⟨rfl, hv2⟩)
    have k2 : Below w.heap.size w v2 := by (repeat (first | with_reducible assumption | with_reducible exact Below.refl _ _ | with_reducible refine Below.drew ?_ | with_reducible refine below_drewN ?_ _ | with_reducible refine al ?_ _ | (with_reducible refine sc ?_ ?_; (focus (first | omega | (simp; done) | (simp; omega)))) | (with_reducible refine chain ?_ (by assumption))))
    go_wp2_with fail
    (refine (HPP.out _ (hV.keep k2)).mono ?_; rintro e v3 ⟨rfl, hv3⟩)
    have k3 : Below w.heap.size w v3 := by (repeat (first | with_reducible assumption | with_reducible exact Below.refl _ _ | with_reducible refine Below.drew ?_ | with_reducible refine below_drewN ?_ _ | with_reducible refine al ?_ _ | (with_reducible refine sc ?_ ?_; (focus (first | omega | (simp; done) | (simp; omega)))) | (with_reducible refine chain ?_ (by assumption))))
    go_wp2_with fail
    (refine (HPO.out _ (hV.keep k3)).mono ?_; rintro e v4 ⟨rfl, hv4⟩)
    have k4 : Below w.heap.size w v4 := by (repeat (first | with_reducible assumption | with_reducible exact Below.refl _ _ | with_reducible refine Below.drew ?_ | with_reducible refine below_drewN ?_ _ | with_reducible refine al ?_ _ | (with_reducible refine sc ?_ ?_; (focus (first | omega | (simp; done) | (simp; omega)))) | (with_reducible refine chain ?_ (by assumption))))
    have V4 := hV.keep k4
    clear hv1 hv2 hv3 hv4 k1 k2 k3 hV
    go_upto_region 5 with (fail)
    refine plain_below 39 ?_
    simp only [List.take_succ_cons, List.take_zero, List.drop_succ_cons, List.drop_zero]
    repeat (first | (refine' InText.skip (by rfl) ?_; simp only [Act.put, List.setIfInBounds_toArray, List.set_cons_zero, List.set_cons_succ]) | (refine' InText.val (by rfl) (fun wr hr => ?_) ?_; rotate_left 1; (focus (obtain ⟨hrc, hrf⟩ := bcell hr; (go_simp <;> with_reducible rfl); done)); simp only [Act.put, List.setIfInBounds_toArray, List.set_cons_zero, List.set_cons_succ]) | (refine' InText.call (by rfl) (fun wr hr => ?_) (fun wr hr => ?_) ?_; rotate_left 3; (focus ((go_simp <;> (first | with_reducible rfl | exact ⟨rfl, rfl⟩)); done)); (focus (first | with_reducible exact HMY.out _ (V4.keep hr) | with_reducible exact pureB (HRA.out _) | with_reducible exact pureB (HRB.out _) | with_reducible exact l4_lives _ (V4.keep hr))); simp only [Act.put, List.setIfInBounds_toArray, List.set_cons_zero, List.set_cons_succ]))
    refine fun wr hr => ?_
    obtain ⟨hrc, hrf⟩ := bcell hr
    go_wp2
    go_ret
    exact ⟨rfl, by (repeat (first | with_reducible assumption | with_reducible exact Below.refl _ _ | with_reducible refine Below.drew ?_ | with_reducible refine below_drewN ?_ _ | with_reducible refine al ?_ _ | (with_reducible refine sc ?_ ?_; (focus (first | omega | (simp; done) | (simp; omega)))) | (with_reducible refine chain ?_ (by assumption))))⟩
theorem own : ownKnob Tryd.prog.godebug = none := by kernel_rfl
set_option maxRecDepth 100000 in
theorem contract (H : Type) (enc : TypeId × Value → H) (W : World) (base : Nat) (args : Array Value) (ds gs : List (DataW H)) (before : List MemPlace)
    (hval : ∀ (j : Nat) t v, Tryd.f6.params[j]? = some t → args[j]? = some v → Value.okWide Tryd.prog W .any base t v)
    (hW : DataW.Whole enc Tryd.prog Tryd.f6.params.toList Rows.blockWordsSpec.vars false W args.toList ds gs before) (hL : laidMetH Tryd.prog Rows.blockWordsRow.laid W) :
    Calls Tryd.prog 6 args W fun e W' => ∃ v, e = .returned v ∧ Rows.blockWordsSpec.post enc Tryd.prog Tryd.f6 false true false false W args v W' := by
  have hW' := hW
  obtain ⟨p, q, hA0, hV0, rfl, hfz, hnd⟩ := hW
  have hA : DataW.TrodAll enc Tryd.prog W 0 (fun _ => true) true Tryd.f6.params.toList args.toList ds p := hA0
  rw [Tryd.params6] at hA hval
  obtain ⟨v0, vs0, d0, ds0, p0, q0, hargs, rfl, rfl, h0, r0⟩ := trodAll_cons hA
  obtain ⟨v1, vs1, d1, ds1, p1, q1, rfl, rfl, rfl, h1, r1⟩ := trodAll_cons r0
  obtain ⟨rfl, rfl, rfl⟩ := trodAll_nil r1
  obtain rfl : args = #[v0, v1] := by cases args; simp_all
  obtain ⟨rfl, rfl⟩ := trodVars_none hV0
  simp only [List.append_nil] at hW'
  have hlt : ∀ x ∈ p0 ++ (p1 ++ ([])), x.block < W.heap.size := fun x hx => hW'.lt x (by simpa using hx)
  have hlt0 : ∀ x ∈ p0, x.block < W.heap.size := fun x hx => hlt x (List.mem_append.2 (.inl hx))
  have hlt1 : ∀ x ∈ p1, x.block < W.heap.size := fun x hx => hlt x (List.mem_append.2 (.inr (List.mem_append.2 (.inl hx))))
  have k0 := h0
  have k1 := h1
  obtain ⟨a0, rfl, w0⟩ := open_num (hval 0 3 v0 rfl rfl) h0
  obtain ⟨a1, rfl, w1⟩ := open_num (hval 1 3 v1 rfl rfl) h1
  clear hA0
  refine (walk a0 w0 a1 w1 W (Vars.of_laid (by kernel_rfl) hL (by simp [Rows.blockWordsRow]))).mono fun e W' ⟨he, hg⟩ => ?_
  subst he
  exact ⟨_, rfl, _, _, _, [], _, [], hW', (trodAll_cons_mk (shut_bool Tryd.underlying4 _) trodAll_mk0), (trodAll_cons_mk (Below.trod laidOut (by kernel_rfl) (of_decide_eq_true (by kernel_rfl)) k0 hg hlt0) (trodAll_cons_mk (Below.trod laidOut (by kernel_rfl) (of_decide_eq_true (by kernel_rfl)) k1 hg hlt1) trodAll_mk0)), rfl, hg.frame _, fun h => by cases h⟩
set_option maxRecDepth 100000 in
theorem laid_met (os : Os) : laidMetH Tryd.prog Rows.blockWordsRow.laid ((World.doorLaid Tryd.prog 400 os).forCall (fun _ _ => 0) ⟨#[], #[.int .i64 0, .int .i64 0], []⟩).memory := by
  rw [MakeChecks.laidMetH_plain _ _ _ (by kernel_rfl)]
  exact laidMet_of_run' 8 (by kernel_rfl) (by kernel_rfl)
set_option maxRecDepth 100000 in
theorem lifted (os : Os) (started : os.Started) (H : Type) (enc : TypeId × Value → H) (F : Stop.Interp) :
    ReturnsInHanded {} Tryd.checked os 6 .any ((OpenSpec.ofChange Rows.blockWordsSpec).preRow enc Tryd.prog Tryd.f6 Rows.blockWordsRow.domain false Rows.blockWordsRow.laid) (((OpenSpec.ofChange Rows.blockWordsSpec).at F).post enc Tryd.prog Tryd.f6 false true false false) := by
  refine returnsInHanded_of_row (C := Tryd.checked) (s := OpenSpec.ofChange Rows.blockWordsSpec) own started (by kernel_rfl) Tryd.func6
    (witness_row_at (enc := enc) (C := Tryd.checked) false (World.doorLaid Tryd.prog 400 os) #[.int .i64 0, .int .i64 0] rfl (by kernel_rfl) (by kernel_rfl) (by kernel_rfl)
      (OpenSpec.preRow_of_B rfl 8 (by kernel_rfl) (by kernel_rfl) (laid_met os))) ?_
  intro W base args ds gs before hval hW _ _ _ hL _ _
  exact contract H enc W base args ds gs before hval hW hL
theorem said : Rows.BlockWordsSaid :=
  OpenClaim.holds_of_cond 6 Tryd.f6 rfl rfl rfl rfl rfl rfl rfl ⟨rfl, rfl, rfl, rfl, rfl⟩ rfl rfl rfl rfl rfl (by kernel_rfl) Tryd.func6 (by kernel_rfl)
    (of_decide_eq_true (by kernel_rfl)) (by unfold Func.isWrapper; first | (rw [if_pos (by decide +kernel)]; kernel_rfl) | (rw [if_neg (by decide +kernel)]; exact ⟨rfl, rfl⟩))
    (fun os started H enc _ F => by rw [OpenClaim.pre_eq_preRow]; exact lifted os started H enc F)
theorem plain (f : FuncId) (fn : Func) (hf : Tryd.pinned.checked.prog.funcNamed "breccia/breccialaw04.BlockWords" = some f) (hfn : Tryd.pinned.checked.prog.funcs[f]? = some fn) :
    false = Tryd.pinned.checked.prog.looks [] ∧ ∀ (j : Nat) t, fn.params[j]? = some t → Tryd.pinned.checked.prog.wantsStandIn t = false := by
  obtain rfl : f = 6 := Option.some.inj ((show Tryd.prog.funcNamed "breccia/breccialaw04.BlockWords" = some 6 by kernel_rfl).symm.trans hf) |>.symm
  obtain rfl : fn = Tryd.f6 := (Option.some.inj (Tryd.func6.symm.trans hfn)).symm
  refine ⟨by kernel_rfl, fun j t ht => ?_⟩
  rw [Tryd.params6] at ht
  have hm : t ∈ #[3, 3] := Array.mem_of_getElem? ht
  have hm : t ∈ [3] := by simpa using hm
  have hall : ([3].all fun u => !Tryd.prog.wantsStandIn u) = true := by kernel_rfl
  exact (show Tryd.prog.wantsStandIn t = false by simpa using List.all_eq_true.1 hall t hm)
theorem card : Rows.BlockWordsCardSaid :=
  Claim7.holds_tied_plain_at .later [] _ _ _ _ said (fun _ h => by cases h) (by kernel_rfl) (fun _ h => by cases h) blockWords_row_tie rfl ⟨rfl, rfl⟩ (by kernel_rfl) rfl plain (by kernel_rfl)
#print axioms card
end Go.Proofs.YtnodaoelijjhiaaDoor.blockWords
