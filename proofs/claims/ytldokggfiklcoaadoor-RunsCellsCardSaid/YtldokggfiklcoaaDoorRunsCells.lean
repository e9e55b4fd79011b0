/- For any cells and any runs the law RunsCells of layer 5 answers true: the runs of cells are as few as may be, and tell the cells again, one by one. Conditions: none: every input. -/
import Derived.Test.YtldokggfiklcoaaDoorRows
import Derived.Test.YtldokggfiklcoaaDoorO02
import Derived.Test.YtldokggfiklcoaaDoorO50
import Derived.Test.YtldokggfiklcoaaDoorL05
import Derived.Test.YtldokggfiklcoaaDoorB51
import Derived.Test.YtldokggfiklcoaaDoorVRS
import Derived.Test.YtldokggfiklcoaaDoorCards
import Derived.Test.YtldokggfiklcoaaDoorTie
import Derived.WalkKit
import Derived.ProofKit
import Derived.OpenShut
import Derived.Below
import Derived.Carry
import Derived.Deep.DeepHandedRow
import Derived.LaidMore
namespace Go.Proofs.YtldokggfiklcoaaDoor.runsCells
open Go.Proofs.YtldokggfiklcoaaDoor Go.ChangeShapes Go.WideShapes Go.ChangeAt Go.RowKit
set_option linter.unusedVariables false
set_option linter.unusedSimpArgs false
attribute [local go_sem ↓] Go.wp_at_zero Go.wp_at_succ
attribute [local go_sem] Oper.semAt_some
theorem fn_nil (lb : Array Value) (W : World) : Sem.run Tryd.prog (binOp .eql 38 (.func (.func 37) #[] lb) .nilFunc) W = .ok (.bool false) W := by kernel_rfl
set_option maxHeartbeats 16000000 in
theorem walk (a0 : Value) (a1 : Value) (w : World) (w0 : IntsIn w a0) (w1 : RunsIn w a1) (hV : Vars w) :
    Calls Tryd.prog 4 #[a0, a1] w fun e w' => e = .returned (.bool true) ∧ Below w.heap.size w w' := by
  obtain ⟨l1, hl1, hb1, hm1⟩ := w1
  obtain ⟨C, hG1⟩ : ∃ C, goodC l1 = C := ⟨_, rfl⟩
  have hC : okC C := ⟨by rw [← hG1]; exact goodC_may _, by have := goodC_len l1; rw [hG1] at this; omega⟩
  obtain ⟨N, hN⟩ : ∃ N, C.length = N := ⟨_, rfl⟩
  have hN1 : 0 < N ∧ N ≤ 480 := by have := goodC_len l1; rw [hG1, hN] at this; exact this
  have HB := Lib.hid hb1
  have HG := Lib.hid hG1
  have HC := Lib.hid hC
  have HN := Lib.hid hN
  obtain ⟨bN0, bN1⟩ := hN1
  clear hb1 hG1 hC hN hm1
  obtain ⟨l0, hl0, hb0, hm0⟩ := w0
  obtain ⟨D, hD⟩ : ∃ D, (l0.take 300).map goodF = D := ⟨_, rfl⟩
  have oD : okC D := hD ▸ ⟨fun c hc => by obtain ⟨x, _, rfl⟩ := List.mem_map.1 hc; exact goodF_may x, by simp; omega⟩
  obtain ⟨nD, hnD⟩ : ∃ n, D.length = n := ⟨_, rfl⟩
  have bD : nD ≤ 300 := by rw [← hnD, ← hD]; simp; omega
  have sD : sumL (ofF D) = nD := by rw [(ofF_good oD.1).2.1, hnD]
  have HB0 := Lib.hid hb0
  have HD := Lib.hid hD
  have OD := Lib.hid oD
  have HND := Lib.hid hnD
  have SD := Lib.hid sD
  clear hb0 hD oD hnD sD hm0
  obtain ⟨u, hu⟩ : ∃ u, w.alloc (.cells #[.bool false] 4) = u := ⟨_, rfl⟩
  have kw : Below w.heap.size w u := by rw [← hu]; exact al (Below.refl _ _) _
  have rr : RowAt u w.heap.size #[.bool false] 4 := by rw [← hu]; exact RowAt.new w _ _
  replace hl0 := hl0.keep kw
  replace hl1 := hl1.keep kw
  have HU := Lib.hid hu
  clear hu
  refine (callsIn_wide (n := 9)).1 ?_
  refine callsIn_of_wp_marks Tryd.func4 rfl trivial ?_ rfl
  simp only [Tryd.ntmps4, List.size_toArray, List.length_cons, List.length_nil, Nat.reduceAdd, Nat.reduceSub, Array.replicate_succ, Array.replicate_zero, List.push_toArray, List.append_toArray, List.nil_append, List.cons_append]
  gi_wp2_with fail
  rw [HU.out]
  refine ⟨trivial, (callsIn_wide.2 (l5_blocks _ l0 _ hl0 HB0.out)).mono ?_⟩
  rintro e W1 ⟨v1, rfl, ho, hv⟩
  rw [HD.out, HND.out] at ho
  obtain ⟨p1, c1, rfl⟩ := own_form ho
  have ha : IntsAt W1 (.slice p1 nD c1) D := ints_of_owned (by rw [HND.out]; exact ho)
  replace kw := chain kw hv
  replace hl1 := hl1.keep hv
  replace rr := rr.keep hv
  clear hv ho hl0
  gi_wp2_with fail
  refine ⟨trivial, (callsIn_wide.2 (b5_of _ D _ ha OD.out.2)).mono ?_⟩
  rintro e W2 ⟨vx, rfl, hx, hv2⟩
  replace kw := chain kw hv2
  replace hl1 := hl1.keep hv2
  replace rr := rr.keep hv2
  replace ha := ha.keep hv2
  clear hv2
  gi_wp2_with fail
  refine ⟨trivial, (callsIn_wide.2 (r5_of _ D _ ha OD.out.2)).mono ?_⟩
  rintro e W3 ⟨vz, rfl, hoz, hv3⟩
  replace kw := chain kw hv3
  replace hl1 := hl1.keep hv3
  replace rr := rr.keep hv3
  replace ha := ha.keep hv3
  replace hx := hx.keep hv3
  clear hv3
  have hz := runs_of_owned hoz
  clear hoz
  gi_wp2_with fail
  refine ⟨trivial, (callsIn_wide.2 (l5_same _ _ _ _ rfl _ hx hz (okC_len OD.out))).mono ?_⟩
  rintro e W4 ⟨rfl, hv4⟩
  replace kw := chain kw hv4
  replace hl1 := hl1.keep hv4
  replace rr := rr.keep hv4
  replace ha := ha.keep hv4
  replace hx := hx.keep hv4
  replace hz := hz.keep hv4
  clear hv4
  clear hz
  gi_wp2_with fail
  refine ⟨trivial, (callsIn_wide.2 (b5_cells _ D OD.out _ hx)).mono ?_⟩
  rintro e W5 ⟨vy, rfl, hy, hv5⟩
  replace kw := chain kw hv5
  replace hl1 := hl1.keep hv5
  replace rr := rr.keep hv5
  replace ha := ha.keep hv5
  replace hx := hx.keep hv5
  clear hv5
  gi_wp2_with fail
  refine ⟨trivial, (callsIn_wide.2 (l5_samecells _ _ _ _ rfl _ hy ha (by have := OD.out.2; omega))).mono ?_⟩
  rintro e W6 ⟨rfl, hv6⟩
  replace kw := chain kw hv6
  replace hl1 := hl1.keep hv6
  replace rr := rr.keep hv6
  replace ha := ha.keep hv6
  replace hx := hx.keep hv6
  replace hy := hy.keep hv6
  clear hv6
  clear hy
  gi_wp2_with fail
  refine ⟨trivial, (callsIn_wide.2 (b5_len _ (ofF D) none (good_of OD.out.1) (by rw [SD.out]; omega) _ hx)).mono ?_⟩
  rintro e W7 ⟨rfl, hv7⟩
  replace kw := chain kw hv7
  replace hl1 := hl1.keep hv7
  replace rr := rr.keep hv7
  replace ha := ha.keep hv7
  replace hx := hx.keep hv7
  clear hv7
  rw [SD.out]
  clear hx ha
  gi_wp2_with fail
  refine ⟨trivial, (callsIn_wide.2 (l5_good _ l1 C HG.out _ hl1 HB.out)).mono ?_⟩
  rintro e W8 ⟨pg, cg, rfl, hg, hv8⟩
  replace kw := chain kw hv8
  replace hl1 := hl1.keep hv8
  replace rr := rr.keep hv8
  clear hv8
  clear hl1
  gi_wp2_with fail
  refine ⟨trivial, (callsIn_wide.2 (b5_all _ C HC.out _ hg)).mono ?_⟩
  rintro e Wa ⟨lb, rfl, hv, ht⟩
  have HT := Lib.hid ht
  replace kw := chain kw hv
  replace hg := hg.keep hv
  replace rr := rr.keep hv
  clear hv ht
  have fnil := fn_nil lb
  gi_wp2_with fail
  refine ⟨trivial, (callsIn_wide.2 (l5_cells _ C HC.out N HN.out _ hg)).mono ?_⟩
  rintro e Wb ⟨pw, cw, rfl, hw, hv⟩
  replace kw := chain kw hv
  replace hg := hg.keep hv
  replace rr := rr.keep hv
  have kt : Below Wa.heap.size Wa Wb := hv
  clear hv
  gi_wp2_with fail
  obtain ⟨Wc, hWc⟩ : ∃ Wc, (Wb.alloc (.cells #[.slice pw N cw] 26)).alloc (.cells #[.int .i64 0] 3) = Wc := ⟨_, rfl⟩
  have r9 : RowAt Wc Wb.heap.size #[.slice pw N cw] 26 := by rw [← hWc]; exact (RowAt.new Wb _ _).alloc _
  have r10 : RowAt Wc (Wb.heap.size + 1) #[.int .i64 0] 3 := by rw [← hWc]; exact RowAt.make _ _ _ (by simp)
  have c9' : Wc.cell? ⟨Wb.heap.size, 0, none⟩ = some (.slice pw N cw) := by rw [r9.cell]; rfl
  have c10 : Wc.cell? ⟨Wb.heap.size + 1, 0, none⟩ = some (.int .i64 0) := by rw [r10.cell]; rfl
  have f10 := r10.frozen 0
  have kc : Below Wb.heap.size Wb Wc := by rw [← hWc]; exact al (al (Below.refl _ _) _) _
  have sc0 : Wc.heap.size = Wb.heap.size + 1 + 1 := by rw [← hWc]; simp
  rw [hWc]
  have ha := Wa.heap.size
  have sa := kt.size
  have sw := kw.size
  have hT := HT.out Wc (chain kt kc) (9 - 1) (by omega)
  have zr := rr.lt
  obtain ⟨gw, ow, rfl, hcw, hgw, hxw⟩ : ∃ g off, pw = some ⟨g, off, none⟩ ∧ N ≤ cw ∧ g < Wb.heap.size ∧ ∀ j (h : j < C.length), Wb.cell? ⟨g, off + j, none⟩ = some (.int .i64 C[j]) := by
    obtain ⟨p', cap', e, hf⟩ := hw.form
    obtain ⟨g, off, e1, h2, h3, h4⟩ := hf (by rw [HN.out]; omega)
    simp only [Value.slice.injEq] at e
    obtain ⟨rfl, _, rfl⟩ := e
    exact ⟨g, off, e1, by rw [← HN.out]; exact h2, h3, h4⟩
  have HXW := Lib.hid hxw
  clear hxw hw hWc kt r9 r10
  refine wpIn_range (lo := Wa.heap.size) (fun x t => (((t.setIfInBounds 45 (.int .i64 x.1)).setIfInBounds 46 (.int .i64 x.2)).setIfInBounds 11 (.int .i64 x.1)).setIfInBounds 12 (.int .i64 x.2)) rfl (by omega) (gf := 37) rfl trivial (enters_of Tryd.func37 (by kernel_rfl) rfl)
    hT (by have := kc.size; omega) (fun _ => rfl)
    (fun pre W => ((pre <+: pairsF C) ∧ W.cell? ⟨Wb.heap.size, 0, none⟩ = some (.slice (some ⟨gw, ow, none⟩) N cw) ∧ W.cell? ⟨Wb.heap.size + 1, 0, none⟩ = some (.int .i64 pre.length) ∧ W.frozen? ⟨Wb.heap.size + 1, 0, none⟩ = false) ∧ Below Wb.heap.size Wb W)
    (fun _ pre _ => ¬ pre <+: pairsF C)
    (OwnFrom.and (Own.from (fun s A B row hs hg hr => ⟨hs.1, cell_kept hs.2.1 hg hr, cell_kept hs.2.2.1 hg hr, (frozen_kept hs.2.2.1 hg hr).trans hs.2.2.2⟩) _) (ownFrom_below (Nat.le_refl _) (by omega)))
    (fun _ => Own.from (fun _ _ _ _ hs _ _ => hs) _)
    ⟨⟨List.nil_prefix, c9', c10, f10⟩, kc⟩ ?assign ?body ?done ?stop
  case assign =>
    intro l x W K hK
    simp only [List.setIfInBounds_toArray, List.set_cons_zero, List.set_cons_succ] at hK
    gi_wp2
    exact hK
  case body =>
    rintro l pre ⟨x1, x2⟩ W ⟨⟨hp, hc1, hc2, hf2⟩, hB⟩ hlen
    simp only [List.setIfInBounds_toArray, List.set_cons_zero, List.set_cons_succ]
    have hlt : pre.length < N := by rw [← HN.out]; exact hlen
    have hnx := pairs_next (x := (x1, x2)) hp hlen
    have hel := keepc hB hgw (HXW.out pre.length hlen)
    have zg : gw < W.heap.size := Nat.lt_of_lt_of_le hgw hB.size
    have zr2 : w.heap.size < W.heap.size := Nat.lt_of_lt_of_le zr hB.size
    have zb : Wb.heap.size + 1 < W.heap.size := World.block_lt_of_cell? W _ hc2
    have rW := rr.keep hB
    have cr : W.cell? ⟨w.heap.size, 0, none⟩ = some (.bool false) := by rw [rW.cell]; rfl
    have fr : W.frozen? ⟨w.heap.size, 0, none⟩ = false := rW.frozen 0
    generalize C[pre.length] = y at *
    have HNX := Lib.hid hnx
    have HP := Lib.hid hp
    have hlt2 : (pre.length : Int) < N := by omega
    obtain ⟨b1, hb1⟩ : ∃ b, (x1 == (pre.length : Int)) = b := ⟨_, rfl⟩
    obtain ⟨b2, hb2⟩ : ∃ b, (x2 == y) = b := ⟨_, rfl⟩
    have hb1' : (x1 != (pre.length : Int)) = !b1 := by rw [bne, hb1]
    have hb2' : (x2 != y) = !b2 := by rw [bne, hb2]
    clear hnx hp rW
    cases b1
    · have hno : ¬ (pre ++ [(x1, x2)]) <+: pairsF C := fun h => by
        have := HNX.out.1 h
        simp at this hb1
        exact hb1 this.1
      have HNO := Lib.hid hno
      clear hno
      gi_wp2
      exact ⟨KeepsOthers.setCell _ _ _, HNO.out⟩
    · cases b2
      · have hno : ¬ (pre ++ [(x1, x2)]) <+: pairsF C := fun h => by
          have := HNX.out.1 h
          simp at this hb2
          exact hb2 this.2
        have HNO := Lib.hid hno
        clear hno
        gi_wp2
        exact ⟨KeepsOthers.setCell _ _ _, HNO.out⟩
      · have hyes : (pre ++ [(x1, x2)]) <+: pairsF C := HNX.out.2 (by simp at hb1 hb2; rw [hb1, hb2])
        have HYES := Lib.hid hyes
        clear hyes
        gi_wp2
        exact ⟨KeepsOthers.setCell _ _ _, Kept.set _ _ (by omega) (by omega), ⟨HYES.out, by rw [cell_other (by simp)]; exact hc1, by rw [World.cell?_setCell_same' _ _ _ (by rw [hc2]; rfl), List.length_append, List.length_singleton, Int.natCast_add]; rfl, by rw [World.frozen?_setCell]; exact hf2⟩, hB.setCell (p := ⟨Wb.heap.size + 1, 0, none⟩) (by simp) _⟩
  case done =>
    rintro D2 ys W hD rfl ⟨⟨_, hc1, hc2, hf2⟩, hB⟩ hK
    rw [pairsF_length, HN.out] at hc2
    replace kw := chain kw hB
    replace hg := hg.keep hB
    replace rr := rr.keep hB
    have zb : Wb.heap.size + 1 < W.heap.size := World.block_lt_of_cell? W _ hc2
    clear hB hf2
    gi_wp2_with fail
    refine ⟨trivial, (callsIn_wide.2 (b5_cells _ C HC.out _ hg)).mono ?_⟩
    rintro e X1 ⟨vq, rfl, hq, hv⟩
    replace kw := chain kw hv
    replace hg := hg.keep hv
    replace rr := rr.keep hv
    replace hK := (hv.block D2 (Array.getElem?_eq_some_iff.1 hK).1).trans hK
    clear hv hc1 hc2 zb
    gi_wp2_with fail
    refine ⟨trivial, (callsIn_wide.2 (b5_of _ C _ hq HC.out.2)).mono ?_⟩
    rintro e X2 ⟨vt, rfl, ht, hv⟩
    replace kw := chain kw hv
    replace hg := hg.keep hv
    replace rr := rr.keep hv
    replace hK := (hv.block D2 (Array.getElem?_eq_some_iff.1 hK).1).trans hK
    clear hv hq
    gi_wp2_with fail
    refine ⟨trivial, (callsIn_wide.2 (l5_same _ _ _ _ rfl _ ht hg (okC_len HC.out))).mono ?_⟩
    rintro e X3 ⟨rfl, hv⟩
    replace kw := chain kw hv
    replace rr := rr.keep hv
    replace hK := (hv.block D2 (Array.getElem?_eq_some_iff.1 hK).1).trans hK
    clear hv ht hg
    gi_wp2_with fail
    refine ⟨trivial, (callsIn_wide.2 (l5_lives _ (hV.keep kw))).mono ?_⟩
    rintro e X4 ⟨rfl, hv⟩
    replace kw := chain kw hv
    replace rr := rr.keep hv
    replace hK := (hv.block D2 (Array.getElem?_eq_some_iff.1 hK).1).trans hK
    clear hv
    have cr : X4.cell? ⟨w.heap.size, 0, none⟩ = some (.bool false) := by rw [rr.cell]; rfl
    have fr : X4.frozen? ⟨w.heap.size, 0, none⟩ = false := rr.frozen 0
    have zr3 := rr.lt
    clear rr
    gi_wp2
    have hK' := (KeepsOthers.setCell X4 ⟨w.heap.size, 0, none⟩ (.bool true)).same D2 _ hK rfl
    refine ⟨by simp, .inl ⟨_, _, rfl, run_takeDeferred hK', ?_⟩⟩
    have hc5 := cell_kept (World.cell?_setCell_same' X4 ⟨w.heap.size, 0, none⟩ (.bool true) (by rw [cr]; rfl)) (grownBy_putObj' _ D2 (.deferred none)) (fun r e => by cases e; exact ⟨_, hK', rfl⟩)
    refine ⟨.bool true, ?_, rfl, (kw.setCell (p := ⟨w.heap.size, 0, none⟩) (by simp) _).trans (belowK_b (w := w) (Nat.le_refl _) _ D2 _ _ (by omega) hK' rfl rfl)⟩
    simp [results, Tryd.f4, go_sem, hc5]
  case stop =>
    rintro D c pre W _ h1 h2 _
    exact absurd h1 h2
theorem own : ownKnob Tryd.prog.godebug = none := by kernel_rfl
set_option maxRecDepth 100000 in
theorem contract (H : Type) (enc : TypeId × Value → H) (W : World) (base : Nat) (args : Array Value) (ds gs : List (DataW H)) (before : List MemPlace)
    (hval : ∀ (j : Nat) t v, Tryd.f4.params[j]? = some t → args[j]? = some v → Value.okWide Tryd.prog W .any base t v)
    (hW : DataW.Whole enc Tryd.prog Tryd.f4.params.toList Rows.runsCellsSpec.vars false W args.toList ds gs before) (hL : laidMetH Tryd.prog Rows.runsCellsRow.laid W) :
    Calls Tryd.prog 4 args W fun e W' => ∃ v, e = .returned v ∧ Rows.runsCellsSpec.post enc Tryd.prog Tryd.f4 false true false false W args v W' := by
  have hW' := hW
  obtain ⟨p, q, hA0, hV0, rfl, hfz, hnd⟩ := hW
  have hA : DataW.TrodAll enc Tryd.prog W 0 (fun _ => true) true Tryd.f4.params.toList args.toList ds p := hA0
  rw [Tryd.params4] at hA hval
  obtain ⟨v0, vs0, d0, ds0, p0, q0, hargs, rfl, rfl, h0, r0⟩ := trodAll_cons hA
  obtain ⟨v1, vs1, d1, ds1, p1, q1, rfl, rfl, rfl, h1, r1⟩ := trodAll_cons r0
  obtain ⟨rfl, rfl, rfl⟩ := trodAll_nil r1
  obtain rfl : args = #[v0, v1] := by cases args; simp_all
  obtain ⟨rfl, rfl⟩ := trodVars_none hV0
  simp only [List.append_nil] at hW'
  have hlt : ∀ x ∈ p0 ++ (p1 ++ ([])), x.block < W.heap.size := fun x hx => hW'.lt x (by simpa using hx)
  have hlt0 : ∀ x ∈ p0, x.block < W.heap.size := fun x hx => hlt x (List.mem_append.2 (.inl hx))
  have hlt1 : ∀ x ∈ p1, x.block < W.heap.size := fun x hx => hlt x (List.mem_append.2 (.inr (List.mem_append.2 (.inl hx))))
  have k0 := h0
  have k1 := h1
  have w0 := open_ilist (hval 0 26 v0 rfl rfl) h0 hlt0
  have w1 := open_runs (hval 1 22 v1 rfl rfl) h1 hlt1
  clear hA0
  refine (walk v0 v1 W w0 w1 (Vars.of_laid (by kernel_rfl) hL (by simp [Rows.runsCellsRow]))).mono fun e W' ⟨he, hg⟩ => ?_
  subst he
  exact ⟨_, rfl, _, _, _, [], _, [], hW', (trodAll_cons_mk (shut_bool Tryd.underlying4 _) trodAll_mk0), (trodAll_cons_mk (Below.trod laidOut (by kernel_rfl) (of_decide_eq_true (by kernel_rfl)) k0 hg hlt0) (trodAll_cons_mk (Below.trod laidOut (by kernel_rfl) (of_decide_eq_true (by kernel_rfl)) k1 hg hlt1) trodAll_mk0)), rfl, hg.frame _, fun h => by cases h⟩
set_option maxRecDepth 100000 in
theorem laid_met (os : Os) : laidMetH Tryd.prog Rows.runsCellsRow.laid ((World.doorLaid Tryd.prog 400 os).forCall (fun _ _ => 0) ⟨#[], #[.slice none 0 0, .slice none 0 0], []⟩).memory := by
  rw [MakeChecks.laidMetH_plain _ _ _ (by kernel_rfl)]
  exact laidMet_of_run' 8 (by kernel_rfl) (by kernel_rfl)
set_option maxRecDepth 100000 in
theorem lifted (os : Os) (started : os.Started) (H : Type) (enc : TypeId × Value → H) (F : Stop.Interp) :
    ReturnsInHanded {} Tryd.checked os 4 .any ((OpenSpec.ofChange Rows.runsCellsSpec).preRow enc Tryd.prog Tryd.f4 Rows.runsCellsRow.domain false Rows.runsCellsRow.laid) (((OpenSpec.ofChange Rows.runsCellsSpec).at F).post enc Tryd.prog Tryd.f4 false true false false) := by
  refine returnsInHanded_of_row (C := Tryd.checked) (s := OpenSpec.ofChange Rows.runsCellsSpec) own started (by kernel_rfl) Tryd.func4
    (witness_row_at (enc := enc) (C := Tryd.checked) false (World.doorLaid Tryd.prog 400 os) #[.slice none 0 0, .slice none 0 0] rfl (by kernel_rfl) (by kernel_rfl) (by kernel_rfl)
      (OpenSpec.preRow_of_B rfl 8 (by kernel_rfl) (by kernel_rfl) (laid_met os))) ?_
  intro W base args ds gs before hval hW _ _ _ hL _ _
  exact contract H enc W base args ds gs before hval hW hL
theorem said : Rows.RunsCellsSaid :=
  OpenClaim.holds_of_cond 4 Tryd.f4 rfl rfl rfl rfl rfl rfl rfl ⟨rfl, rfl, rfl, rfl, rfl⟩ rfl rfl rfl rfl rfl (by kernel_rfl) Tryd.func4 (by kernel_rfl)
    (of_decide_eq_true (by kernel_rfl)) (by unfold Func.isWrapper; first | (rw [if_pos (by decide +kernel)]; kernel_rfl) | (rw [if_neg (by decide +kernel)]; exact ⟨rfl, rfl⟩))
    (fun os started H enc _ F => by rw [OpenClaim.pre_eq_preRow]; exact lifted os started H enc F)
theorem plain (f : FuncId) (fn : Func) (hf : Tryd.pinned.checked.prog.funcNamed "breccia/breccialaw05.RunsCells" = some f) (hfn : Tryd.pinned.checked.prog.funcs[f]? = some fn) :
    false = Tryd.pinned.checked.prog.looks [] ∧ ∀ (j : Nat) t, fn.params[j]? = some t → Tryd.pinned.checked.prog.wantsStandIn t = false := by
  obtain rfl : f = 4 := Option.some.inj ((show Tryd.prog.funcNamed "breccia/breccialaw05.RunsCells" = some 4 by kernel_rfl).symm.trans hf) |>.symm
  obtain rfl : fn = Tryd.f4 := (Option.some.inj (Tryd.func4.symm.trans hfn)).symm
  refine ⟨by kernel_rfl, fun j t ht => ?_⟩
  rw [Tryd.params4] at ht
  have hm : t ∈ #[26, 22] := Array.mem_of_getElem? ht
  have hm : t ∈ [26, 22] := by simpa using hm
  have hall : ([26, 22].all fun u => !Tryd.prog.wantsStandIn u) = true := by kernel_rfl
  exact (show Tryd.prog.wantsStandIn t = false by simpa using List.all_eq_true.1 hall t hm)
theorem card : Rows.RunsCellsCardSaid :=
  Claim7.holds_tied_plain_at .later [] _ _ _ _ said (fun _ h => by cases h) (by kernel_rfl) (fun _ h => by cases h) runsCells_row_tie rfl ⟨rfl, rfl⟩ (by kernel_rfl) rfl plain (by kernel_rfl)
#print axioms card
end Go.Proofs.YtldokggfiklcoaaDoor.runsCells
