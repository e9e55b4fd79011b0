/- For any runs, any place and any block the law RunsBack of layer 5 answers true: a cell that is set, and set back, leaves the runs as they were; all blocks together are as many cells as ahead. Conditions: none: every input. -/
import Derived.Test.YtldokggfiklcoaaDoorRows
import Derived.Test.YtldokggfiklcoaaDoorO02
import Derived.Test.YtldokggfiklcoaaDoorO50
import Derived.Test.YtldokggfiklcoaaDoorL05
import Derived.Test.YtldokggfiklcoaaDoorVRS
import Derived.Test.YtldokggfiklcoaaDoorCards
import Derived.Test.YtldokggfiklcoaaDoorTie
import Derived.WalkKit
import Derived.ProofKit
import Derived.OpenShut
import Derived.Below
import Derived.Carry
import Derived.Deep.DeepHandedRow
import Derived.LaidMore
namespace Go.Proofs.YtldokggfiklcoaaDoor.runsBack
open Go.Proofs.YtldokggfiklcoaaDoor Go.ChangeShapes Go.WideShapes Go.ChangeAt Go.RowKit
set_option linter.unusedVariables false
set_option linter.unusedSimpArgs false
attribute [local go_sem ↓] Go.wp_at_zero Go.wp_at_succ
set_option maxHeartbeats 16000000 in
theorem walk (a0 : Value) (a1 : Int) (w1 : -9223372036854775808 ≤ a1 ∧ a1 ≤ 9223372036854775807) (a2 : Int) (w2 : -9223372036854775808 ≤ a2 ∧ a2 ≤ 9223372036854775807) (w : World) (w0 : RunsIn w a0) (hV : Vars w) :
    Calls Tryd.prog 9 #[a0, .int .i64 a1, .int .i64 a2] w fun e w' => e = .returned (.bool true) ∧ Below w.heap.size w w' := by
  obtain ⟨l0, hl0, hb0, hm0⟩ := w0
  obtain ⟨C, hG0⟩ : ∃ C, goodC l0 = C := ⟨_, rfl⟩
  have hC : okC C := ⟨by rw [← hG0]; exact goodC_may _, by have := goodC_len l0; rw [hG0] at this; omega⟩
  obtain ⟨N, hN⟩ : ∃ N, C.length = N := ⟨_, rfl⟩
  have hN1 : 0 < N ∧ N ≤ 480 := by have := goodC_len l0; rw [hG0, hN] at this; exact this
  have HB := Lib.hid hb0
  have HG := Lib.hid hG0
  have HC := Lib.hid hC
  have HN := Lib.hid hN
  obtain ⟨bN0, bN1⟩ := hN1
  clear hb0 hG0 hC hN hm0
  have gdi := fun k => r_around a1 N w1.1 w1.2 (by omega) (by omega) k
  have bi := around_bd a1 N (by omega)
  obtain ⟨i, hi⟩ : ∃ i, aroundF a1 N = i := ⟨_, rfl⟩
  rw [hi] at gdi bi
  obtain ⟨bi0, bi1⟩ := bi
  have ii : i64 i := by constructor <;> omega
  have Gi := Lib.hid gdi
  have Ii := Lib.hid ii
  clear hi gdi ii
  have ij2 : i64 a2 := w2
  obtain ⟨b, hb⟩ : ∃ b, goodF a2 = b := ⟨_, rfl⟩
  have gdb := fun k => r4_good a2 ij2 k
  rw [hb] at gdb
  have mb : mayB b = true := hb ▸ goodF_may a2
  have ib : i64 b := by have := mayB_bd mb; constructor <;> omega
  have IJ2 := Lib.hid ij2
  have Gb := Lib.hid gdb
  have Mb := Lib.hid mb
  have Ib := Lib.hid ib
  clear ij2 hb gdb mb ib
  clear w1 w2
  obtain ⟨X, hX⟩ : ∃ X, setF C i b = X := ⟨_, rfl⟩
  have okX : okC X := hX ▸ okC_set HC.out i b
  have HX := Lib.hid hX
  have OX := Lib.hid okX
  clear hX okX
  obtain ⟨t, ht⟩ : ∃ t, atF C i = t := ⟨_, rfl⟩
  have it : i64 t := ht ▸ atF_i64 HC.out.1 i
  have eb : setF X i t = C := by rw [← HX.out, ← ht]; exact set_back HC.out.1 Mb.out bi0 (by rw [HN.out]; exact bi1)
  have es : sumL (ofF C) = N := by rw [(ofF_good HC.out.1).2.1, HN.out]
  obtain ⟨ec, e0⟩ := cumF_all OX.out.1
  have hxl : X.length = N := by rw [← HX.out, setF_len, HN.out]
  rw [hxl] at ec
  have HXL := Lib.hid hxl
  have IT := Lib.hid it
  have HT := Lib.hid ht
  have EB := Lib.hid eb
  have ES := Lib.hid es
  have EC := Lib.hid ec
  have E0 := Lib.hid e0
  clear ht it eb es ec e0 hxl
  have kw : Below w.heap.size w w := Below.refl _ _
  go_enter Tryd.func9, Tryd.ntmps9
  go_wp2_with fail
  refine (l5_good _ l0 C HG.out _ hl0 HB.out).mono ?_
  rintro e W1 ⟨pg, cg, rfl, hg, hv1⟩
  replace kw := chain kw hv1
  replace hl0 := hl0.keep hv1
  clear hv1
  go_wp2_with fail
  refine (l5_cells _ C HC.out N HN.out _ hg).mono ?_
  rintro e W2 ⟨pn1, cn1, rfl, hn1, hv2⟩
  replace kw := chain kw hv2
  replace hl0 := hl0.keep hv2
  replace hg := hg.keep hv2
  clear hv2
  clear hn1
  go_wp2_with (go_at_call 14; refine (Gi.out _).mono ?_; rintro e w' ⟨rfl, rfl⟩)
  refine (b5_at _ C HC.out i Ii.out _ hg).mono ?_
  rintro e W3 ⟨rfl, hv3⟩
  replace kw := chain kw hv3
  replace hl0 := hl0.keep hv3
  replace hg := hg.keep hv3
  clear hv3
  rw [HT.out]
  go_wp2_with (go_at_call 24; refine (Gb.out _).mono ?_; rintro e w' ⟨rfl, rfl⟩)
  refine (b5_set _ C HC.out i b Ii.out Ib.out _ (hV.keep kw) hg).mono ?_
  rintro e W4 ⟨vx, rfl, hx, hv4⟩
  replace kw := chain kw hv4
  replace hl0 := hl0.keep hv4
  replace hg := hg.keep hv4
  clear hv4
  rw [HX.out] at hx
  go_wp2_with fail
  go_loopw [10, 11] (fun s j wr => ∃ k : Nat, k ≤ 16 ∧ j = .int .i64 k ∧ s = .int .i64 (cumF X k) ∧ Below w.heap.size w wr ∧ Below W4.heap.size W4 wr) (fun _ j _ => 16 - (intOf j).toNat)
  case atStart => exact ⟨0, by omega, rfl, by rw [show ((0 : Nat) : Int) = 0 from rfl, E0.out], kw, Below.refl _ _⟩
  case round =>
    clear kw
    obtain ⟨m, hm, rfl, rfl, kw, kb⟩ := hrel
    replace hg := hg.keep kb
    replace hx := hx.keep kb
    replace hl0 := hl0.keep kb
    by_cases hlt : m < 16
    · have bm : (m : Int) < 16 := by omega
      have hs := cumF_succ X m
      obtain ⟨q0, q1⟩ := cumF_le X m
      obtain ⟨q2, q3⟩ := countF_le X m
      rw [HXL.out] at q1 q3
      obtain ⟨s1, hs1⟩ : ∃ s1, cumF X ((m : Int) + 1) = s1 := ⟨_, rfl⟩
      rw [hs1] at hs
      obtain ⟨s2, hs2⟩ : ∃ s2, countF X m = s2 := ⟨_, rfl⟩
      rw [hs2] at hs q2 q3
      have HS1 := Lib.hid hs1
      have HS2 := Lib.hid hs2
      generalize cumF X m = s0 at *
      have HS := Lib.hid hs
      clear hs hs1 hs2
      go_wp2_with fail
      refine (b5_count _ X OX.out m _ hx).mono ?_
      rintro e wz ⟨rfl, hz⟩
      rw [HS2.out]
      have kz := chain kw hz
      have ky := chain kb hz
      go_wp2_with fail
      go_roundw
      case rel => exact ⟨m + 1, by omega, by go_num, by rw [show ((m + 1 : Nat) : Int) = (m : Int) + 1 by omega, HS1.out, HS.out], kz, ky⟩
      case measure => simp [intOf]; omega
    · obtain rfl : m = 16 := by omega
      rw [show cumF X ((16 : Nat) : Int) = N from EC.out]
      go_wp2_with fail
      refine (b5_set _ X OX.out i t Ii.out IT.out _ (hV.keep kw) hx).mono ?_
      rintro e W5 ⟨vy, rfl, hy, hv5⟩
      replace kw := chain kw hv5
      replace hl0 := hl0.keep hv5
      replace hg := hg.keep hv5
      replace hx := hx.keep hv5
      clear hv5
      rw [EB.out] at hy
      go_wp2_with fail
      refine (l5_same _ _ _ _ rfl _ hy hg (okC_len HC.out)).mono ?_
      rintro e W6 ⟨rfl, hv6⟩
      replace kw := chain kw hv6
      replace hl0 := hl0.keep hv6
      replace hg := hg.keep hv6
      replace hx := hx.keep hv6
      replace hy := hy.keep hv6
      clear hv6
      go_wp2_with fail
      refine (b5_len _ (ofF C) none (good_of HC.out.1) (by rw [ES.out]; omega) _ hg).mono ?_
      rintro e W7 ⟨rfl, hv7⟩
      replace kw := chain kw hv7
      replace hl0 := hl0.keep hv7
      replace hg := hg.keep hv7
      replace hx := hx.keep hv7
      replace hy := hy.keep hv7
      clear hv7
      rw [ES.out]
      go_wp2_with fail
      refine (l5_lives _ (hV.keep kw)).mono ?_
      rintro e W8 ⟨rfl, hv8⟩
      replace kw := chain kw hv8
      replace hl0 := hl0.keep hv8
      replace hg := hg.keep hv8
      replace hx := hx.keep hv8
      replace hy := hy.keep hv8
      clear hv8
      go_wp2
      go_ret
      exact ⟨rfl, by (repeat (first | with_reducible assumption | with_reducible exact Below.refl _ _ | with_reducible refine Below.drew ?_ | with_reducible refine below_drewN ?_ _ | with_reducible refine al ?_ _ | (with_reducible refine sc ?_ ?_; (focus (first | omega | (simp; done) | (simp; omega)))) | (with_reducible refine chain ?_ (by assumption))))⟩
theorem own : ownKnob Tryd.prog.godebug = none := by kernel_rfl
set_option maxRecDepth 100000 in
theorem contract (H : Type) (enc : TypeId × Value → H) (W : World) (base : Nat) (args : Array Value) (ds gs : List (DataW H)) (before : List MemPlace)
    (hval : ∀ (j : Nat) t v, Tryd.f9.params[j]? = some t → args[j]? = some v → Value.okWide Tryd.prog W .any base t v)
    (hW : DataW.Whole enc Tryd.prog Tryd.f9.params.toList Rows.runsBackSpec.vars false W args.toList ds gs before) (hL : laidMetH Tryd.prog Rows.runsBackRow.laid W) :
    Calls Tryd.prog 9 args W fun e W' => ∃ v, e = .returned v ∧ Rows.runsBackSpec.post enc Tryd.prog Tryd.f9 false true false false W args v W' := by
  have hW' := hW
  obtain ⟨p, q, hA0, hV0, rfl, hfz, hnd⟩ := hW
  have hA : DataW.TrodAll enc Tryd.prog W 0 (fun _ => true) true Tryd.f9.params.toList args.toList ds p := hA0
  rw [Tryd.params9] at hA hval
  obtain ⟨v0, vs0, d0, ds0, p0, q0, hargs, rfl, rfl, h0, r0⟩ := trodAll_cons hA
  obtain ⟨v1, vs1, d1, ds1, p1, q1, rfl, rfl, rfl, h1, r1⟩ := trodAll_cons r0
  obtain ⟨v2, vs2, d2, ds2, p2, q2, rfl, rfl, rfl, h2, r2⟩ := trodAll_cons r1
  obtain ⟨rfl, rfl, rfl⟩ := trodAll_nil r2
  obtain rfl : args = #[v0, v1, v2] := by cases args; simp_all
  obtain ⟨rfl, rfl⟩ := trodVars_none hV0
  simp only [List.append_nil] at hW'
  have hlt : ∀ x ∈ p0 ++ (p1 ++ (p2 ++ ([]))), x.block < W.heap.size := fun x hx => hW'.lt x (by simpa using hx)
  have hlt0 : ∀ x ∈ p0, x.block < W.heap.size := fun x hx => hlt x (List.mem_append.2 (.inl hx))
  have hlt1 : ∀ x ∈ p1, x.block < W.heap.size := fun x hx => hlt x (List.mem_append.2 (.inr (List.mem_append.2 (.inl hx))))
  have hlt2 : ∀ x ∈ p2, x.block < W.heap.size := fun x hx => hlt x (List.mem_append.2 (.inr (List.mem_append.2 (.inr (List.mem_append.2 (.inl hx))))))
  have k0 := h0
  have k1 := h1
  have k2 := h2
  have w0 := open_runs (hval 0 22 v0 rfl rfl) h0 hlt0
  obtain ⟨a1, rfl, w1⟩ := open_num (hval 1 3 v1 rfl rfl) h1
  obtain ⟨a2, rfl, w2⟩ := open_num (hval 2 3 v2 rfl rfl) h2
  clear hA0
  refine (walk v0 a1 w1 a2 w2 W w0 (Vars.of_laid (by kernel_rfl) hL (by simp [Rows.runsBackRow]))).mono fun e W' ⟨he, hg⟩ => ?_
  subst he
  exact ⟨_, rfl, _, _, _, [], _, [], hW', (trodAll_cons_mk (shut_bool Tryd.underlying4 _) trodAll_mk0), (trodAll_cons_mk (Below.trod laidOut (by kernel_rfl) (of_decide_eq_true (by kernel_rfl)) k0 hg hlt0) (trodAll_cons_mk (Below.trod laidOut (by kernel_rfl) (of_decide_eq_true (by kernel_rfl)) k1 hg hlt1) (trodAll_cons_mk (Below.trod laidOut (by kernel_rfl) (of_decide_eq_true (by kernel_rfl)) k2 hg hlt2) trodAll_mk0))), rfl, hg.frame _, fun h => by cases h⟩
set_option maxRecDepth 100000 in
theorem laid_met (os : Os) : laidMetH Tryd.prog Rows.runsBackRow.laid ((World.doorLaid Tryd.prog 400 os).forCall (fun _ _ => 0) ⟨#[], #[.slice none 0 0, .int .i64 0, .int .i64 0], []⟩).memory := by
  rw [MakeChecks.laidMetH_plain _ _ _ (by kernel_rfl)]
  exact laidMet_of_run' 8 (by kernel_rfl) (by kernel_rfl)
set_option maxRecDepth 100000 in
theorem lifted (os : Os) (started : os.Started) (H : Type) (enc : TypeId × Value → H) (F : Stop.Interp) :
    ReturnsInHanded {} Tryd.checked os 9 .any ((OpenSpec.ofChange Rows.runsBackSpec).preRow enc Tryd.prog Tryd.f9 Rows.runsBackRow.domain false Rows.runsBackRow.laid) (((OpenSpec.ofChange Rows.runsBackSpec).at F).post enc Tryd.prog Tryd.f9 false true false false) := by
  refine returnsInHanded_of_row (C := Tryd.checked) (s := OpenSpec.ofChange Rows.runsBackSpec) own started (by kernel_rfl) Tryd.func9
    (witness_row_at (enc := enc) (C := Tryd.checked) false (World.doorLaid Tryd.prog 400 os) #[.slice none 0 0, .int .i64 0, .int .i64 0] rfl (by kernel_rfl) (by kernel_rfl) (by kernel_rfl)
      (OpenSpec.preRow_of_B rfl 8 (by kernel_rfl) (by kernel_rfl) (laid_met os))) ?_
  intro W base args ds gs before hval hW _ _ _ hL _ _
  exact contract H enc W base args ds gs before hval hW hL
theorem said : Rows.RunsBackSaid :=
  OpenClaim.holds_of_cond 9 Tryd.f9 rfl rfl rfl rfl rfl rfl rfl ⟨rfl, rfl, rfl, rfl, rfl⟩ rfl rfl rfl rfl rfl (by kernel_rfl) Tryd.func9 (by kernel_rfl)
    (of_decide_eq_true (by kernel_rfl)) (by unfold Func.isWrapper; first | (rw [if_pos (by decide +kernel)]; kernel_rfl) | (rw [if_neg (by decide +kernel)]; exact ⟨rfl, rfl⟩))
    (fun os started H enc _ F => by rw [OpenClaim.pre_eq_preRow]; exact lifted os started H enc F)
theorem plain (f : FuncId) (fn : Func) (hf : Tryd.pinned.checked.prog.funcNamed "breccia/breccialaw05.RunsBack" = some f) (hfn : Tryd.pinned.checked.prog.funcs[f]? = some fn) :
    false = Tryd.pinned.checked.prog.looks [] ∧ ∀ (j : Nat) t, fn.params[j]? = some t → Tryd.pinned.checked.prog.wantsStandIn t = false := by
  obtain rfl : f = 9 := Option.some.inj ((show Tryd.prog.funcNamed "breccia/breccialaw05.RunsBack" = some 9 by kernel_rfl).symm.trans hf) |>.symm
  obtain rfl : fn = Tryd.f9 := (Option.some.inj (Tryd.func9.symm.trans hfn)).symm
  refine ⟨by kernel_rfl, fun j t ht => ?_⟩
  rw [Tryd.params9] at ht
  have hm : t ∈ #[22, 3, 3] := Array.mem_of_getElem? ht
  have hm : t ∈ [22, 3] := by simpa using hm
  have hall : ([22, 3].all fun u => !Tryd.prog.wantsStandIn u) = true := by kernel_rfl
  exact (show Tryd.prog.wantsStandIn t = false by simpa using List.all_eq_true.1 hall t hm)
theorem card : Rows.RunsBackCardSaid :=
  Claim7.holds_tied_plain_at .later [] _ _ _ _ said (fun _ h => by cases h) (by kernel_rfl) (fun _ h => by cases h) runsBack_row_tie rfl ⟨rfl, rfl⟩ (by kernel_rfl) rfl plain (by kernel_rfl)
#print axioms card
end Go.Proofs.YtldokggfiklcoaaDoor.runsBack
