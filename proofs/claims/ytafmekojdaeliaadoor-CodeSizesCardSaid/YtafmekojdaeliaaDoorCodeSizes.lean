/- For any blocks and any Lens the law CodeSizes of layer 6 answers true: a run has two bytes, three from 128 cells on, four from 16384 on. Conditions: none: every input. -/
import Derived.Test.YtafmekojdaeliaaDoorRows
import Derived.Test.YtafmekojdaeliaaDoorO02
import Derived.Test.YtafmekojdaeliaaDoorO50
import Derived.Test.YtafmekojdaeliaaDoorL06
import Derived.Test.YtafmekojdaeliaaDoorVRS
import Derived.Test.YtafmekojdaeliaaDoorCards
import Derived.Test.YtafmekojdaeliaaDoorTie
import Derived.WalkKit
import Derived.ProofKit
import Derived.OpenShut
import Derived.Below
import Derived.Carry
import Derived.Deep.DeepHandedRow
import Derived.LaidMore
namespace Go.Proofs.YtafmekojdaeliaaDoor.codeSizes
open Go.Proofs.YtafmekojdaeliaaDoor Go.ChangeShapes Go.WideShapes Go.ChangeAt Go.RowKit
set_option linter.unusedVariables false
set_option linter.unusedSimpArgs false
attribute [local go_sem ↓] Go.wp_at_zero Go.wp_at_succ
set_option maxHeartbeats 16000000 in
theorem walk (a0 : Value) (a1 : Value) (w : World) (w0 : IntsIn w a0) (w1 : IntsIn w a1) (hV : Vars w) :
    Calls Tryd.prog 8 #[a0, a1] w fun e w' => e = .returned (.bool true) ∧ Below w.heap.size w w' := by
  obtain ⟨l0, hl0, hb0, hm0⟩ := w0
  obtain ⟨p0, c0, rfl, hf0⟩ := hl0.form
  obtain ⟨M0, hM0⟩ : ∃ M, l0.length = M := ⟨_, rfl⟩
  have hg0 : ∀ i : Nat, i < M0 → ∃ g off x, p0 = some ⟨g, off, none⟩ ∧ g < w.heap.size ∧ w.cell? ⟨g, off + i, none⟩ = some (.int .i64 x) ∧ i64 x := fun i hi => by
    obtain ⟨g, off, e, hc, hg, hx⟩ := hf0 (by omega)
    exact ⟨g, off, _, e, hg, hx i (by omega), hb0 i (by omega)⟩
  rw [hM0] at hm0 ⊢
  unfold maxLen at hm0
  have HG0 := Lib.hid hg0
  clear hf0 hb0 hl0 hM0 hg0
  obtain ⟨l1, hl1, hb1, hm1⟩ := w1
  obtain ⟨p1, c1, rfl, hf1⟩ := hl1.form
  obtain ⟨M1, hM1⟩ : ∃ M, l1.length = M := ⟨_, rfl⟩
  have hg1 : ∀ i : Nat, i < M1 → ∃ g off x, p1 = some ⟨g, off, none⟩ ∧ g < w.heap.size ∧ w.cell? ⟨g, off + i, none⟩ = some (.int .i64 x) ∧ i64 x := fun i hi => by
    obtain ⟨g, off, e, hc, hg, hx⟩ := hf1 (by omega)
    exact ⟨g, off, _, e, hg, hx i (by omega), hb1 i (by omega)⟩
  rw [hM1] at hm1 ⊢
  unfold maxLen at hm1
  have HG1 := Lib.hid hg1
  clear hf1 hb1 hl1 hM1 hg1
  obtain ⟨i0, hi, hz, hsz, hby⟩ := run_info
  go_enter Tryd.func8, Tryd.ntmps8
  go_wp2_with fail
  go_loopw [5, 6, 7, 8] (fun o s t i wr => ∃ (k : Nat) (L : List Run), k ≤ 12 ∧ i = .int .i64 k ∧ s = .int .i64 (bytesF L).length ∧ t = .int .i64 (lastV L) ∧ goodL none L ∧ (L.length ≤ k ∧ sumL L ≤ 20000 * k) ∧ wr.ownsRow w.heap.size 49 2 o L.length (runVs L) ∧ Below w.heap.size w wr) (fun _ _ _ i _ => 12 - (intOf i).toNat)
  case atStart => exact ⟨0, [], by omega, rfl, rfl, rfl, trivial, ⟨by simp, by simp [sumL]⟩, World.ownsRow_nil _ _ _ _, Below.refl _ _⟩
  case round =>
    obtain ⟨k, L, hk, rfl, rfl, rfl, hgo, ⟨hLk, hs⟩, ho, kw⟩ := hrel
    have hb4 := bytesF_len L
    by_cases hin : k < M0 ∧ k < M1 ∧ k < 12
    · obtain ⟨h1, h2, h3⟩ := hin
      obtain ⟨g0, off0, x0, rfl, z0, e0, i0x⟩ := HG0.out k h1
      obtain ⟨g1, off1, x1, rfl, z1, e1, i1x⟩ := HG1.out k h2
      have r0 := fun u => r_around x0 6 i0x.1 i0x.2 (by omega) (by omega) u
      have r1 := fun u => r_around x1 20000 i1x.1 i1x.2 (by omega) (by omega) u
      have q0 := around_bd x0 6 (by omega)
      have q1 := around_bd x1 20000 (by omega)
      obtain ⟨y, hy⟩ : ∃ y, aroundF x0 6 = y := ⟨_, rfl⟩
      obtain ⟨m, hm⟩ : ∃ y, aroundF x1 20000 = y := ⟨_, rfl⟩
      rw [hy] at r0 q0
      rw [hm] at r1 q1
      obtain ⟨q00, q01⟩ := q0
      obtain ⟨q10, q11⟩ := q1
      have R0 := Lib.hid r0
      have R1 := Lib.hid r1
      have hlv := lastV_i64 hgo
      obtain ⟨v, hv⟩ : ∃ v, lastV L = v := ⟨_, rfl⟩
      rw [hv] at hlv ⊢
      obtain ⟨v0, v1⟩ := hlv
      have HV2 := Lib.hid hv
      have HGO := Lib.hid hgo
      have c0 : wr.cell? ⟨g0, off0 + k, none⟩ = some (.int .i64 x0) := keepc kw z0 e0
      have c1 : wr.cell? ⟨g1, off1 + k, none⟩ = some (.int .i64 x1) := keepc kw z1 e1
      have y0 : g0 < wr.heap.size := Nat.lt_of_lt_of_le z0 kw.size
      have y1 : g1 < wr.heap.size := Nat.lt_of_lt_of_le z1 kw.size
      have bk0 : (k : Int) < M0 := by omega
      have bk1 : (k : Int) < M1 := by omega
      have bk2 : (k : Int) < 12 := by omega
      clear r0 r1 hy hm hv hgo e0 e1 i0x i1x
      obtain ⟨nb, hnb⟩ : ∃ n, (bytesF L).length = n := ⟨_, rfl⟩
      rw [hnb] at hb4 ⊢
      have HNB := Lib.hid hnb
      clear hnb
      by_cases hyv : y = v
      · have hyb : (y == v) = true := by simpa using hyv
        clear hyv
        go_wp2_with (go_at_call 17; refine (R0.out _).mono ?_; rintro e w' ⟨rfl, rfl⟩)
        go_roundw
        case rel => exact ⟨k + 1, L, by omega, by go_num, by rw [HNB.out], by rw [HV2.out], HGO.out, ⟨by omega, by omega⟩, ho, kw⟩
        case measure => simp [intOf]; omega
      · have hyb : (y == v) = false := by simpa using hyv
        have hgm := goodL_more (n := 1 + m) HGO.out ⟨q00, q01⟩ (by omega) (by rw [HV2.out]; exact hyv)
        have hbm := bytesF_more L (1 + m) y
        have hnl := num_len (1 + m)
        rw [if_neg (by omega)] at hnl
        have HGM := Lib.hid hgm
        have HBM := Lib.hid hbm
        clear hyv hgm hbm
        have bl : L.length ≤ 12 := by omega
        by_cases h128 : 1 + m < 128
        · rw [if_pos h128] at hnl
          have HNL := Lib.hid hnl
          have g1 : ¬ 16384 ≤ 1 + m := by omega
          clear hnl
          go_wp2_with fail
          refine (R0.out _).mono ?_
          rintro e w' ⟨rfl, rfl⟩
          go_wp2_with fail
          refine (R1.out _).mono ?_
          rintro e w' ⟨rfl, rfl⟩
          go_wp2_with (at_builtin; refine app_run _ rfl _ _ 22 rfl w.heap.size 49 i0 _ Tryd.underlying22 hi hz hsz hby rfl _ _ _ rfl (ho.alloc _) wr.heap.size (.int .i64 (1 + m)) (.int .i64 y) rfl (by go_simp) (by go_simp) rfl rfl (by omega) (by have := kw.size; simp; omega) ?_; intro va w2 ho2 hg2)
          go_roundw
          case rel => exact ⟨k + 1, L ++ [(1 + m, y)], by omega, by go_num, by rw [HBM.out, HNB.out, HNL.out]; go_num, by rw [lastV_snoc], HGM.out, ⟨by simp; omega, by rw [sumL_append]; simp [sumL]; omega⟩, by rw [runVs_append, List.length_append]; exact ho2, Below.own (al kw _) (ho.alloc _) hg2⟩
          case measure => simp [intOf]; omega
        · rw [if_neg h128] at hnl
          have g0 : 128 ≤ 1 + m := by omega
          by_cases h163 : 1 + m < 16384
          · rw [if_pos h163] at hnl
            have HNL := Lib.hid hnl
            clear hnl
            go_wp2_with fail
            refine (R0.out _).mono ?_
            rintro e w' ⟨rfl, rfl⟩
            go_wp2_with fail
            refine (R1.out _).mono ?_
            rintro e w' ⟨rfl, rfl⟩
            go_wp2_with (at_builtin; refine app_run _ rfl _ _ 22 rfl w.heap.size 49 i0 _ Tryd.underlying22 hi hz hsz hby rfl _ _ _ rfl (ho.alloc _) wr.heap.size (.int .i64 (1 + m)) (.int .i64 y) rfl (by go_simp) (by go_simp) rfl rfl (by omega) (by have := kw.size; simp; omega) ?_; intro va w2 ho2 hg2)
            go_roundw
            case rel => exact ⟨k + 1, L ++ [(1 + m, y)], by omega, by go_num, by rw [HBM.out, HNB.out, HNL.out]; go_num, by rw [lastV_snoc], HGM.out, ⟨by simp; omega, by rw [sumL_append]; simp [sumL]; omega⟩, by rw [runVs_append, List.length_append]; exact ho2, Below.own (al kw _) (ho.alloc _) hg2⟩
            case measure => simp [intOf]; omega
          · rw [if_neg h163] at hnl
            have HNL := Lib.hid hnl
            have g1 : 16384 ≤ 1 + m := by omega
            clear hnl
            go_wp2_with fail
            refine (R0.out _).mono ?_
            rintro e w' ⟨rfl, rfl⟩
            go_wp2_with fail
            refine (R1.out _).mono ?_
            rintro e w' ⟨rfl, rfl⟩
            go_wp2_with (at_builtin; refine app_run _ rfl _ _ 22 rfl w.heap.size 49 i0 _ Tryd.underlying22 hi hz hsz hby rfl _ _ _ rfl (ho.alloc _) wr.heap.size (.int .i64 (1 + m)) (.int .i64 y) rfl (by go_simp) (by go_simp) rfl rfl (by omega) (by have := kw.size; simp; omega) ?_; intro va w2 ho2 hg2)
            go_roundw
            case rel => exact ⟨k + 1, L ++ [(1 + m, y)], by omega, by go_num, by rw [HBM.out, HNB.out, HNL.out]; go_num, by rw [lastV_snoc], HGM.out, ⟨by simp; omega, by rw [sumL_append]; simp [sumL]; omega⟩, by rw [runVs_append, List.length_append]; exact ho2, Below.own (al kw _) (ho.alloc _) hg2⟩
            case measure => simp [intOf]; omega
    · have gen : (M0 : Int) ≤ k ∨ ((k : Int) < M0 ∧ (M1 : Int) ≤ k) ∨ ((k : Int) < M0 ∧ (k : Int) < M1 ∧ (12 : Int) ≤ k) := by omega
      have hr := runs_of_owned ho
      have hiq : ∀ j (h : j < L.length), i64 L[j].1 ∧ i64 L[j].2 := fun j h => by
        obtain ⟨q1, q2, q3⟩ := goodL_at L none hgo j h
        have q4 := mayB_bd q2
        have q5 := sumL_succ L j h
        have q6 := goodL_sum _ _ (goodL_take L none hgo j)
        exact ⟨by constructor <;> omega, by constructor <;> omega⟩
      have hlen := goodL_length L none hgo
      have two : (L.length = 0 ∧ wrE L = 1 ∧ writeF L = []) ∨ (0 < L.length ∧ wrE L = 0 ∧ writeF L = bytesF L) := by
        by_cases h0 : L.length = 0
        · have : L = [] := List.length_eq_zero_iff.1 h0
          subst this
          exact .inl ⟨rfl, by decide, by decide⟩
        · have hw : wrB L = true := wrB_iff.2 ⟨hgo, by omega, by omega⟩
          exact .inr ⟨by omega, wrE_good hw, by unfold writeF; rw [if_pos hw]⟩
      obtain ⟨q, hq⟩ : ∃ q, L.length = q := ⟨_, rfl⟩
      have hq12 : q ≤ 12 := by omega
      obtain ⟨po, co, rfl⟩ := own_form ho
      rw [hq] at hr two ⊢
      have HIQ := Lib.hid hiq
      have HQ := Lib.hid hq
      obtain ⟨nb, hnb⟩ : ∃ n, (bytesF L).length = n := ⟨_, rfl⟩
      rw [hnb] at hb4 ⊢
      have HNB := Lib.hid hnb
      generalize lastV L = lv at *
      clear hiq hq hin ho hb4 hnb hgo hs hlen
      rcases two with ⟨q0, q1, q2⟩ | ⟨q0, q1, q2⟩
      · have Q1 := Lib.hid q1
        have Q2 := Lib.hid q2
        subst q0
        clear q1 q2
        rcases gen with g | ⟨ga, gb⟩ | ⟨ga, gb, gc⟩
        all_goals
          go_wp2_with fail
          refine (b6_write _ L _ (hV.keep kw) hr HIQ.out (by rw [HQ.out]; omega)).mono ?_
          rintro e w3 ⟨v3, rfl, h3, hv3⟩
          rw [Q2.out] at h3
          rw [Q1.out]
          obtain ⟨p3, c3, rfl⟩ := h3.shape
          simp only [List.length_nil]
          have k3 := chain kw hv3
          clear hv3 h3 hr
          go_wp2_with fail
          refine (l6_lives _ (hV.keep k3)).mono ?_
          rintro e w4 ⟨rfl, hv4⟩
          go_wp2
          go_ret
          exact ⟨rfl, by (repeat (first | with_reducible assumption | with_reducible exact Below.refl _ _ | with_reducible refine Below.drew ?_ | with_reducible refine below_drewN ?_ _ | with_reducible refine al ?_ _ | (with_reducible refine sc ?_ ?_; (focus (first | omega | (simp; done) | (simp; omega)))) | (with_reducible refine chain ?_ (by assumption))))⟩
      · have Q1 := Lib.hid q1
        have Q2 := Lib.hid q2
        have q3 : (0 : Int) < q := by omega
        clear q1 q2
        rcases gen with g | ⟨ga, gb⟩ | ⟨ga, gb, gc⟩
        all_goals
          go_wp2_with fail
          refine (b6_write _ L _ (hV.keep kw) hr HIQ.out (by rw [HQ.out]; omega)).mono ?_
          rintro e w3 ⟨v3, rfl, h3, hv3⟩
          rw [Q2.out] at h3
          rw [Q1.out]
          obtain ⟨p3, c3, rfl⟩ := h3.shape
          rw [HNB.out]
          have k3 := chain kw hv3
          clear hv3 h3 hr
          go_wp2_with fail
          refine (l6_lives _ (hV.keep k3)).mono ?_
          rintro e w4 ⟨rfl, hv4⟩
          go_wp2
          go_ret
          exact ⟨rfl, by (repeat (first | with_reducible assumption | with_reducible exact Below.refl _ _ | with_reducible refine Below.drew ?_ | with_reducible refine below_drewN ?_ _ | with_reducible refine al ?_ _ | (with_reducible refine sc ?_ ?_; (focus (first | omega | (simp; done) | (simp; omega)))) | (with_reducible refine chain ?_ (by assumption))))⟩
theorem own : ownKnob Tryd.prog.godebug = none := by kernel_rfl
set_option maxRecDepth 100000 in
theorem contract (H : Type) (enc : TypeId × Value → H) (W : World) (base : Nat) (args : Array Value) (ds gs : List (DataW H)) (before : List MemPlace)
    (hval : ∀ (j : Nat) t v, Tryd.f8.params[j]? = some t → args[j]? = some v → Value.okWide Tryd.prog W .any base t v)
    (hW : DataW.Whole enc Tryd.prog Tryd.f8.params.toList Rows.codeSizesSpec.vars false W args.toList ds gs before) (hL : laidMetH Tryd.prog Rows.codeSizesRow.laid W) :
    Calls Tryd.prog 8 args W fun e W' => ∃ v, e = .returned v ∧ Rows.codeSizesSpec.post enc Tryd.prog Tryd.f8 false true false false W args v W' := by
  have hW' := hW
  obtain ⟨p, q, hA0, hV0, rfl, hfz, hnd⟩ := hW
  have hA : DataW.TrodAll enc Tryd.prog W 0 (fun _ => true) true Tryd.f8.params.toList args.toList ds p := hA0
  rw [Tryd.params8] at hA hval
  obtain ⟨v0, vs0, d0, ds0, p0, q0, hargs, rfl, rfl, h0, r0⟩ := trodAll_cons hA
  obtain ⟨v1, vs1, d1, ds1, p1, q1, rfl, rfl, rfl, h1, r1⟩ := trodAll_cons r0
  obtain ⟨rfl, rfl, rfl⟩ := trodAll_nil r1
  obtain rfl : args = #[v0, v1] := by cases args; simp_all
  obtain ⟨rfl, rfl⟩ := trodVars_none hV0
  simp only [List.append_nil] at hW'
  have hlt : ∀ x ∈ p0 ++ (p1 ++ ([])), x.block < W.heap.size := fun x hx => hW'.lt x (by simpa using hx)
  have hlt0 : ∀ x ∈ p0, x.block < W.heap.size := fun x hx => hlt x (List.mem_append.2 (.inl hx))
  have hlt1 : ∀ x ∈ p1, x.block < W.heap.size := fun x hx => hlt x (List.mem_append.2 (.inr (List.mem_append.2 (.inl hx))))
  have k0 := h0
  have k1 := h1
  have w0 := open_ilist (hval 0 32 v0 rfl rfl) h0 hlt0
  have w1 := open_ilist (hval 1 32 v1 rfl rfl) h1 hlt1
  clear hA0
  refine (walk v0 v1 W w0 w1 (Vars.of_laid (by kernel_rfl) hL (by simp [Rows.codeSizesRow]))).mono fun e W' ⟨he, hg⟩ => ?_
  subst he
  exact ⟨_, rfl, _, _, _, [], _, [], hW', (trodAll_cons_mk (shut_bool Tryd.underlying4 _) trodAll_mk0), (trodAll_cons_mk (Below.trod laidOut (by kernel_rfl) (of_decide_eq_true (by kernel_rfl)) k0 hg hlt0) (trodAll_cons_mk (Below.trod laidOut (by kernel_rfl) (of_decide_eq_true (by kernel_rfl)) k1 hg hlt1) trodAll_mk0)), rfl, hg.frame _, fun h => by cases h⟩
set_option maxRecDepth 100000 in
theorem laid_met (os : Os) : laidMetH Tryd.prog Rows.codeSizesRow.laid ((World.doorLaid Tryd.prog 400 os).forCall (fun _ _ => 0) ⟨#[], #[.slice none 0 0, .slice none 0 0], []⟩).memory := by
  rw [MakeChecks.laidMetH_plain _ _ _ (by kernel_rfl)]
  exact laidMet_of_run' 8 (by kernel_rfl) (by kernel_rfl)
set_option maxRecDepth 100000 in
theorem lifted (os : Os) (started : os.Started) (H : Type) (enc : TypeId × Value → H) (F : Stop.Interp) :
    ReturnsInHanded {} Tryd.checked os 8 .any ((OpenSpec.ofChange Rows.codeSizesSpec).preRow enc Tryd.prog Tryd.f8 Rows.codeSizesRow.domain false Rows.codeSizesRow.laid) (((OpenSpec.ofChange Rows.codeSizesSpec).at F).post enc Tryd.prog Tryd.f8 false true false false) := by
  refine returnsInHanded_of_row (C := Tryd.checked) (s := OpenSpec.ofChange Rows.codeSizesSpec) own started (by kernel_rfl) Tryd.func8
    (witness_row_at (enc := enc) (C := Tryd.checked) false (World.doorLaid Tryd.prog 400 os) #[.slice none 0 0, .slice none 0 0] rfl (by kernel_rfl) (by kernel_rfl) (by kernel_rfl)
      (OpenSpec.preRow_of_B rfl 8 (by kernel_rfl) (by kernel_rfl) (laid_met os))) ?_
  intro W base args ds gs before hval hW _ _ _ hL _ _
  exact contract H enc W base args ds gs before hval hW hL
theorem said : Rows.CodeSizesSaid :=
  OpenClaim.holds_of_cond 8 Tryd.f8 rfl rfl rfl rfl rfl rfl rfl ⟨rfl, rfl, rfl, rfl, rfl⟩ rfl rfl rfl rfl rfl (by kernel_rfl) Tryd.func8 (by kernel_rfl)
    (of_decide_eq_true (by kernel_rfl)) (by unfold Func.isWrapper; first | (rw [if_pos (by decide +kernel)]; kernel_rfl) | (rw [if_neg (by decide +kernel)]; exact ⟨rfl, rfl⟩))
    (fun os started H enc _ F => by rw [OpenClaim.pre_eq_preRow]; exact lifted os started H enc F)
theorem plain (f : FuncId) (fn : Func) (hf : Tryd.pinned.checked.prog.funcNamed "breccia/breccialaw06.CodeSizes" = some f) (hfn : Tryd.pinned.checked.prog.funcs[f]? = some fn) :
    false = Tryd.pinned.checked.prog.looks [] ∧ ∀ (j : Nat) t, fn.params[j]? = some t → Tryd.pinned.checked.prog.wantsStandIn t = false := by
  obtain rfl : f = 8 := Option.some.inj ((show Tryd.prog.funcNamed "breccia/breccialaw06.CodeSizes" = some 8 by kernel_rfl).symm.trans hf) |>.symm
  obtain rfl : fn = Tryd.f8 := (Option.some.inj (Tryd.func8.symm.trans hfn)).symm
  refine ⟨by kernel_rfl, fun j t ht => ?_⟩
  rw [Tryd.params8] at ht
  have hm : t ∈ #[32, 32] := Array.mem_of_getElem? ht
  have hm : t ∈ [32] := by simpa using hm
  have hall : ([32].all fun u => !Tryd.prog.wantsStandIn u) = true := by kernel_rfl
  exact (show Tryd.prog.wantsStandIn t = false by simpa using List.all_eq_true.1 hall t hm)
theorem card : Rows.CodeSizesCardSaid :=
  Claim7.holds_tied_plain_at .later [] _ _ _ _ said (fun _ h => by cases h) (by kernel_rfl) (fun _ h => by cases h) codeSizes_row_tie rfl ⟨rfl, rfl⟩ (by kernel_rfl) rfl plain (by kernel_rfl)
#print axioms card
end Go.Proofs.YtafmekojdaeliaaDoor.codeSizes
