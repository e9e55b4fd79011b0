/- Contracts of layer 5 (runs), of the landed code: the library's Clone of runs, Fill, Set. -/
import Derived.Test.YtldokggfiklcoaaDoorB5B
import Derived.Lib.Walk
import Derived.Lib.SliceRun
set_option linter.unusedVariables false
set_option linter.unusedSimpArgs false
namespace Go.Proofs.YtldokggfiklcoaaDoor
open Go.ChangeShapes Go.WideShapes Go.ChangeAt Go.RowKit
theorem b5_clone (v : Value) (l : List Run) (hL : l.length ≤ 100000) (w : World) (hl : RunsAt w v l) : Calls Tryd.prog 36 #[v] w fun e w' => ∃ v', e = .returned v' ∧ w'.ownsRow w.heap.size 24 2 v' l.length (runVs l) ∧ Below w.heap.size w w' := by
  obtain ⟨i0, hi, hz, hsz, hby⟩ := run_info
  obtain ⟨p, cap, rfl, hf⟩ := hl.news
  have h1 := runVs_one l
  have hlen := runVs_length l
  obtain ⟨xs, hxs⟩ : ∃ xs, runVs l = xs := ⟨_, rfl⟩
  rw [hxs] at hf h1 hlen
  have HX := Lib.hid hxs
  have HF := Lib.hid hf
  have H1 := Lib.hid h1
  clear hf hl hxs h1
  obtain ⟨N, hN⟩ : ∃ N, l.length = N := ⟨_, rfl⟩
  rw [hN] at hL hlen ⊢
  have HN := Lib.hid hN
  clear hN
  have q22 : ∀ (w : World) (a : Option Addr) (n c n' c' : Nat), (binOp .eql 22 (.slice a n c) (.slice none n' c')).run Tryd.prog w = .ok (.bool a.isNone) w := fun w a n c n' c' => Lib.run_eql_slice_nil w _ _ a n c n' c' Tryd.underlying22
  rcases p with _ | ⟨g, off, q⟩
  · have h0 : N = 0 := by
      rcases Nat.eq_zero_or_pos N with h | h
      · exact h
      · obtain ⟨g, off, e, _⟩ := HF.out (by rw [HN.out]; exact h)
        cases e
    have e : l = [] := List.length_eq_zero_iff.1 (by rw [HN.out]; exact h0)
    have E := Lib.hid e
    clear e
    go_enter Tryd.func36, Tryd.ntmps36
    go_wp2_with fail
    go_ret
    exact ⟨_, rfl, by rw [E.out, h0]; exact World.ownsRow_nil _ _ _ _, by (repeat (first | with_reducible assumption | with_reducible exact Below.refl _ _ | with_reducible refine Below.drew ?_ | with_reducible refine below_drewN ?_ _ | with_reducible refine al ?_ _ | (with_reducible refine sc ?_ ?_; (focus (first | omega | (simp; done) | (simp; omega)))) | (with_reducible refine chain ?_ (by assumption))))⟩
  · have hnews : ∀ j u, xs[j]? = some u → w.cell? ((⟨g, off, q⟩ : Addr).add j) = some u := fun j u hu => by
      have hj := (List.getElem?_eq_some_iff.1 hu).1
      obtain ⟨g', off', e, hg, h⟩ := HF.out (by rw [HN.out]; omega)
      cases e
      rw [Addr.add_lit]
      exact h j u hu
    have HW := Lib.hid hnews
    clear hnews
    go_enter Tryd.func36, Tryd.ntmps36
    go_wp2_with (at_builtin; refine wpList_append_own _ rfl _ _ 22 rfl w.heap.size 24 i0 _ 2 16 Tryd.underlying22 hi hz hsz hby rfl (by decide) _ _ _ rfl (World.ownsRow_made w #[] 0 (Nat.le_refl _) (Nat.zero_le _) rfl) ⟨g, off, q⟩ N cap xs rfl hlen (fun j u hu => Lib.cell?_alloc_some _ (HW.out j u hu)) H1.out (by simp only [maxLen]; omega) (by omega) (by simp) ?_; intro v1 w1 ho1 hg1 _)
    go_ret
    refine ⟨_, rfl, ?_, ?_⟩
    · rw [HX.out]; simpa using ho1
    · exact ((Below.refl _ w).alloc (Nat.le_refl _) _).grown hg1 (by simp) (by intro k hk; have hk := Option.some.inj hk; dsimp only at hk; omega)
set_option maxHeartbeats 4000000 in
theorem b5_fill (v : Value) (C : List Int) (hC : okC C) (f t b : Int) (hf : i64 f) (ht : i64 t) (hb : i64 b) (w : World) (hV : Vars w) (hl : RunsAt w v (ofF C)) : Calls Tryd.prog 29 #[v, .int .i64 f, .int .i64 t, .int .i64 b] w fun e w' => ∃ v', e = .returned v' ∧ RunsAt w' v' (ofF (fillF C f t b C.length)) ∧ Below w.heap.size w w' := by
  obtain ⟨f0, f1⟩ := hf
  obtain ⟨t0, t1⟩ := ht
  have hsum := (ofF_good hC.1).2.1
  have hn := hC.2
  have hlen : (ofF C).length ≤ 100000 := (len_of hC).2
  have LN := Lib.hid (fun u hu => b5_len v (ofF C) none (good_of hC.1) (by rw [hsum]; omega) u hu)
  rw [hsum] at LN
  obtain ⟨n, hne⟩ : ∃ n, C.length = n := ⟨_, rfl⟩
  rw [hne] at LN hn
  have MY := Lib.hid (fun u hu => b4_may b hb u hu)
  obtain ⟨m, hm⟩ : ∃ m, mayB b = m := ⟨_, rfl⟩
  rw [hm] at MY
  obtain ⟨F, hFe⟩ : ∃ F, max f 0 = F := ⟨_, rfl⟩
  obtain ⟨T, hTe⟩ : ∃ T, min t (n : Int) = T := ⟨_, rfl⟩
  have bF : 0 ≤ F := by omega
  have bT : T ≤ n := by omega
  have bF1 : F ≤ 9223372036854775807 := by omega
  have bT0 : -9223372036854775808 ≤ T := by omega
  by_cases hno : F < T ∧ mayB b = true
  · obtain ⟨hft, hmb⟩ := hno
    obtain rfl : m = true := hm.symm.trans hmb
    have hr := fillF_pieces C f t F T b hmb hFe.symm (by rw [hne]; exact hTe.symm) hft
    obtain ⟨R, hR⟩ : ∃ R, fillF C f t b C.length = R := ⟨_, rfl⟩
    rw [hR] at hr ⊢
    have LM := Lib.hid hb
    have hA : (C.take F.toNat ++ List.replicate (T - F).toNat b).length ≤ 100000 := by
      rw [List.length_append, List.length_take, List.length_replicate]; omega
    have CU1 := Lib.hid (fun u (hu : RunsAt u v (ofF C)) => b5_cut v C hC 0 F ⟨by omega, by omega⟩ ⟨by omega, by omega⟩ u hu)
    have CU2 := Lib.hid (fun u (hu : RunsAt u v (ofF C)) => b5_cut v C hC T n ⟨by omega, by omega⟩ ⟨by omega, by omega⟩ u hu)
    have hcl : (C.take F.toNat).length ≤ 100000 := by rw [List.length_take]; omega
    have AD1 := Lib.hid (fun (v1 : Value) base u ho hu => b5_add v1 (ofF (C.take F.toNat)) (T - F) b ⟨by omega, by omega⟩ base u ho hu (by have := ofF_len (C.take F.toNat); omega) (last_ok (by omega) (by omega) (by omega)))
    rw [cutC_low] at CU1
    rw [← hne, cutC_high] at CU2
    rw [addF_of] at AD1
    obtain ⟨D2, hD2⟩ : ∃ D2, C.drop T.toNat = D2 := ⟨_, rfl⟩
    obtain ⟨A1, hA1⟩ : ∃ A1, C.take F.toNat = A1 := ⟨_, rfl⟩
    have okD : okC D2 := by rw [← hD2]; exact ⟨fun c h => hC.1 c (List.mem_of_mem_drop h), by rw [List.length_drop]; exact Nat.le_trans (Nat.sub_le _ _) hC.2⟩
    rw [hD2] at hr CU2
    rw [hA1] at hr CU1 AD1 hA
    obtain ⟨A, hAe⟩ : ∃ A, A1 ++ List.replicate (T - F).toNat b = A := ⟨_, rfl⟩
    rw [hAe] at hr AD1 hA
    rw [hne] at CU2
    have HR := Lib.hid hr
    have HL := Lib.hid hl
    have bTF : 0 ≤ T - F := by omega
    have bTF1 : T - F ≤ 100000 := by omega
    clear hl hR hr hsum hlen hcl hD2 hA1 hAe
    go_enter Tryd.func29, Tryd.ntmps29
    go_wp2_with fail
    (refine (LN.out _ HL.out).mono ?_; rintro e w1 ⟨rfl, hb1⟩)
    have l1 := HL.out.keep hb1
    have V1 := hV.keep hb1
    go_wp2_with fail
    (refine (MY.out _ V1).mono ?_; rintro e w2 ⟨rfl, hb2⟩)
    have l2 := l1.keep hb2
    have k2 : Below w.heap.size w w2 := chain hb1 hb2
    clear hb1 hb2 l1 V1
    go_wp2_with fail
    refine (CU1.out _ l2).mono ?_
    rintro e w3 ⟨v3, rfl, ho3, hb3⟩
    have k3 : Below w.heap.size w w3 := chain k2 hb3
    have ho3 := own_base ho3 k2.size
    clear hb3 l2 k2
    obtain ⟨p3, c3, rfl⟩ := own_form ho3
    go_wp2_with fail
    refine (AD1.out _ w.heap.size w3 ho3 k3.size).mono ?_
    rintro e w4 ⟨v4, rfl, ho4, hg4, _⟩
    have k4 : Below w.heap.size w w4 := below_own k3 ho3 hg4 (Nat.le_refl _)
    clear hg4 ho3 k3
    have l4 := HL.out.keep k4
    have q4 : ∀ q, v4.ownBlock = some q → q < w4.heap.size := fun q h => (ho4.lt q h).2
    go_wp2_with fail
    refine (CU2.out _ l4).mono ?_
    rintro e w5 ⟨v5, rfl, ho5, hb5⟩
    have k5 : Below w.heap.size w w5 := chain k4 hb5
    have ho4' := own_keep ho4 hb5
    have q5 : ∀ q, v5.ownBlock = some q → w4.heap.size ≤ q ∧ q < w5.heap.size := fun q h => ho5.lt q h
    have l5 := runs_of_owned ho5
    obtain ⟨L2, hL2⟩ : ∃ L2, ofF D2 = L2 := ⟨_, rfl⟩
    rw [hL2] at l5
    obtain ⟨N2, hN2⟩ : ∃ N2, L2.length = N2 := ⟨_, rfl⟩
    obtain ⟨p5, c5, rfl⟩ := l5.shape
    rw [hN2] at l5 q5 ⊢
    have hcl2 : cellsF L2 = D2 := by rw [← hL2, cells_of okD.1]
    have hg2 : goodL none L2 := hL2 ▸ good_of okD.1
    have hlen2 : ∀ k, (cellsF (L2.take k)).length ≤ 100000 := fun k => by have := cellsF_take_le L2 k; rw [hcl2] at this; have := okD.2; omega
    have hNn : N2 ≤ 100000 := by have h1 := goodL_length L2 none hg2; have h2 := (goodL_cells L2 none hg2).1; have h3 := hlen2 N2; rw [← hN2, List.take_length] at h3; omega
    have hpos : ∀ k (h : k < L2.length), 1 ≤ L2[k].1 := fun k h => by
      have h1 := ((goodL_append (L2.take k) (L2.drop k) none).1 (by rw [List.take_append_drop]; exact hg2)).2
      rw [List.drop_eq_getElem_cons h] at h1
      exact h1.2.1
    have HN := Lib.hid hN2
    have HCC := Lib.hid hcl2
    have HLL := Lib.hid hlen2
    have HP := Lib.hid hpos
    have Q5 := Lib.hid q5
    have Q4 := Lib.hid q4
    have L5 := Lib.hid l5
    have HO4 := Lib.hid ho4'
    clear hN2 hcl2 hlen2 hpos q5 q4 l5 ho4' ho4 ho5 hL2 hg2 okD l4 hb5 k4
    go_wp2_with fail
    go_loopw [10, 43] (fun o i wr => ∃ k : Nat, k ≤ N2 ∧ i = .int .i64 k ∧ wr.ownsRow w.heap.size 24 2 o (ofF (A ++ cellsF (L2.take k))).length (runVs (ofF (A ++ cellsF (L2.take k)))) ∧ (∀ q, o.ownBlock = some q → q < w4.heap.size ∨ w5.heap.size ≤ q) ∧ RunsAt wr (.slice p5 N2 c5) L2 ∧ w5.heap.size ≤ wr.heap.size ∧ Below w.heap.size w wr) (fun _ i _ => N2 - (intOf i).toNat)
    case atStart => exact ⟨0, by omega, rfl, by simpa [cellsF] using HO4.out, fun q h => .inl (Q4.out q h), L5.out, Nat.le_refl _, k5⟩
    case round =>
      obtain ⟨k, hk, rfl, ho, hq, lw, zw, kw⟩ := hrel
      by_cases hlt : k < N2
      · have hkl : k < L2.length := by rw [HN.out]; exact hlt
        obtain ⟨p', c', e, hfm⟩ := lw.form
        simp only [Value.slice.injEq] at e
        obtain ⟨rfl, hze, rfl⟩ := e
        clear hze
        obtain ⟨g, off, rfl, hcp, hg, hx⟩ := hfm (by omega)
        rw [HN.out] at hcp
        obtain ⟨h1, h2⟩ := hx k hkl
        have hs := cellsF_take_succ L2 k hkl
        have hb2 := HLL.out (k + 1)
        have hb3 := HLL.out k
        have hp := HP.out k hkl
        rw [hs, List.length_append, List.length_replicate] at hb2
        obtain ⟨n0, hn0⟩ : ∃ x, L2[k].1 = x := ⟨_, rfl⟩
        obtain ⟨b0, hb0⟩ : ∃ x, L2[k].2 = x := ⟨_, rfl⟩
        rw [hn0] at h1 hs hb2 hp
        rw [hb0] at h2 hs
        obtain ⟨X, hX⟩ : ∃ X, wr.alloc (.cells #[.int .i64 n0, .int .i64 b0] 24) = X := ⟨_, rfl⟩
        have kX : Below wr.heap.size wr X := by rw [← hX]; exact al (Below.refl _ _) _
        have rX : RowAt X wr.heap.size #[.int .i64 n0, .int .i64 b0] 24 := by rw [← hX]; exact RowAt.new wr _ _
        have hoX := own_keep ho kX
        have lwX := lw.keep kX
        have kwX : Below w.heap.size w X := chain kw kX
        have c0 : X.cell? ⟨wr.heap.size, 0, none⟩ = some (.int .i64 n0) := by rw [rX.cell]; rfl
        have c1 : X.cell? ⟨wr.heap.size, 1, none⟩ = some (.int .i64 b0) := by rw [rX.cell]; rfl
        have zX := rX.lt
        have hl3 : (A ++ cellsF (L2.take k)).length ≤ 200000 := by rw [List.length_append]; omega
        have ad := b5_add _ (ofF (A ++ cellsF (L2.take k))) n0 b0 ⟨by omega, by omega⟩ w.heap.size X hoX kwX.size (by have := ofF_len (A ++ cellsF (L2.take k)); omega) (last_ok hl3 (by omega) (by omega))
        rw [addF_of, List.append_assoc, ← hs] at ad
        obtain ⟨po, co, rfl⟩ := own_form ho
        have HX := Lib.hid hX
        have AD := Lib.hid ad
        have HOX := Lib.hid hoX
        have LX := Lib.hid lwX
        have HQ := Lib.hid hq
        have bn : n0 ≤ 100000 := by omega
        clear hX ad hoX lwX hq ho lw hx hn0 hb0 hs hfm
        go_upto_region 9 with (fail)
        rw [HX.out]
        go_wp2_with fail
        refine AD.out.mono ?_
        rintro e w6 ⟨v6, rfl, ho6, hg6, hfr⟩
        have lw6 := runs_grow LX.out hg6 (fun q h e => by have a := Q5.out q h; have b := HQ.out q e.symm; omega)
        have hq6 : ∀ q, v6.ownBlock = some q → q < w4.heap.size ∨ w5.heap.size ≤ q := fun q h => by
          rcases hfr with e | ⟨q', e, hle⟩
          · rw [e] at h; exact HQ.out q h
          · rw [e] at h; cases h; right; omega
        have z6 : w5.heap.size ≤ w6.heap.size := by have := hg6.size; omega
        have k6 : Below w.heap.size w w6 := below_own kwX HOX.out hg6 (Nat.le_refl _)
        go_wp2_with fail
        go_roundw
        case rel => exact ⟨k + 1, by omega, by go_num, ho6, hq6, lw6, z6, k6⟩
        case measure => simp [intOf]; omega
      · obtain rfl : k = N2 := by omega
        rw [← HN.out, List.take_length, HCC.out, HR.out] at ho
        obtain ⟨po, co, rfl⟩ := own_form ho
        have HO := Lib.hid ho
        clear ho lw hq
        go_wp2_with fail
        go_ret
        exact ⟨_, rfl, runs_of_owned HO.out, kw⟩
  · have hr : fillF C f t b C.length = C := fillF_none C f t F T b hFe.symm (by rw [hne]; exact hTe.symm) hno
    rw [hr]
    have CL := Lib.hid (fun u hu => b5_clone v (ofF C) hlen u hu)
    rw [hm] at hno
    have HL := Lib.hid hl
    clear hl hr hsum hlen
    by_cases hft : F < T
    · obtain rfl : m = false := by
        cases m
        · rfl
        · exact absurd ⟨hft, rfl⟩ hno
      clear hno
      go_enter Tryd.func29, Tryd.ntmps29
      go_wp2_with fail
      (refine (LN.out _ HL.out).mono ?_; rintro e w1 ⟨rfl, hb1⟩)
      have l1 := HL.out.keep hb1
      have V1 := hV.keep hb1
      go_wp2_with fail
      (refine (MY.out _ V1).mono ?_; rintro e w2 ⟨rfl, hb2⟩)
      have l2 := l1.keep hb2
      have k2 : Below w.heap.size w w2 := chain hb1 hb2
      clear hb1 hb2 l1 V1
      go_wp2_with fail
      refine (CL.out _ l2).mono ?_
      rintro e w3 ⟨v3, rfl, l3, hb3⟩
      go_wp2
      go_ret
      exact ⟨_, rfl, runs_of_owned l3, chain k2 hb3⟩
    · clear hno
      go_enter Tryd.func29, Tryd.ntmps29
      go_wp2_with fail
      (refine (LN.out _ HL.out).mono ?_; rintro e w1 ⟨rfl, hb1⟩)
      have l1 := HL.out.keep hb1
      go_wp2_with fail
      refine (CL.out _ l1).mono ?_
      rintro e w3 ⟨v3, rfl, l3, hb3⟩
      go_wp2
      go_ret
      exact ⟨_, rfl, runs_of_owned l3, chain hb1 hb3⟩
theorem b5_set (v : Value) (C : List Int) (hC : okC C) (i b : Int) (hi : i64 i) (hb : i64 b) (w : World) (hV : Vars w) (hl : RunsAt w v (ofF C)) : Calls Tryd.prog 25 #[v, .int .i64 i, .int .i64 b] w fun e w' => ∃ v', e = .returned v' ∧ RunsAt w' v' (ofF (setF C i b)) ∧ Below w.heap.size w w' := by
  have h := b5_fill v C hC i (IntKind.i64.wrap (i + 1)) b hi (wrap_succ hi) hb w hV hl
  rw [setF_fill C hC.2 i b hi] at h
  have H := Lib.hid h
  clear h hl
  obtain ⟨i', hi'⟩ : ∃ i', IntKind.i64.wrap (i + 1) = i' := ⟨_, rfl⟩
  rw [hi'] at H
  go_enter Tryd.func25, Tryd.ntmps25
  go_wp2_with fail
  refine H.out.mono ?_
  rintro e w1 ⟨v1, rfl, ho, hb1⟩
  go_wp2
  go_ret
  exact ⟨_, rfl, ho, hb1⟩
end Go.Proofs.YtldokggfiklcoaaDoor
