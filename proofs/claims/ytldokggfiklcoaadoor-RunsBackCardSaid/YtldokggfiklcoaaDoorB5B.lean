/- Contracts of layer 5 (runs), of the landed code: May, At, Cut. -/
import Derived.Test.YtldokggfiklcoaaDoorB5A
set_option linter.unusedVariables false
set_option linter.unusedSimpArgs false
namespace Go.Proofs.YtldokggfiklcoaaDoor
open Go.ChangeShapes Go.WideShapes Go.ChangeAt Go.RowKit
set_option maxHeartbeats 4000000 in
theorem b5_cut (v : Value) (C : List Int) (hC : okC C) (f t : Int) (hf : i64 f) (ht : i64 t) (w : World) (hl0 : RunsAt w v (ofF C)) : Calls Tryd.prog 38 #[v, .int .i64 f, .int .i64 t] w fun e w' =>
    ∃ v', e = .returned v' ∧ w'.ownsRow w.heap.size 24 2 v' (ofF (cutC C f t)).length (runVs (ofF (cutC C f t))) ∧ Below w.heap.size w w' := by
  obtain ⟨l, hle⟩ : ∃ l, ofF C = l := ⟨_, rfl⟩
  have hl := hl0
  rw [hle] at hl
  have hg : goodL none l := hle ▸ good_of hC.1
  have hcc : cellsF l = C := by rw [← hle, cells_of hC.1]
  have hlen : ∀ k, (cellsF (l.take k)).length ≤ 100000 := fun k => by have := cellsF_take_le l k; rw [hcc] at this; have := hC.2; omega
  clear hl0 hle hC
  obtain ⟨p, cap, rfl, hfm⟩ := hl.form
  obtain ⟨N, hN⟩ : ∃ N, l.length = N := ⟨_, rfl⟩
  have hNn : N ≤ 100000 := by have h1 := goodL_length l none hg; have h2 := (goodL_cells l none hg).1; have h3 := hlen N; rw [← hN, List.take_length] at h3; omega
  have hpos : ∀ k (h : k < l.length), 1 ≤ l[k].1 := fun k h => by
    have h1 := ((goodL_append (l.take k) (l.drop k) none).1 (by rw [List.take_append_drop]; exact hg)).2
    rw [List.drop_eq_getElem_cons h] at h1
    exact h1.2.1
  have HN := Lib.hid hN
  have HF := Lib.hid hfm
  have HCC := Lib.hid hcc
  have HL := Lib.hid hlen
  have HP := Lib.hid hpos
  rw [hN]
  obtain ⟨f0, f1⟩ := hf
  obtain ⟨t0, t1⟩ := ht
  clear hg hcc hlen hl hfm hN hpos
  go_enter Tryd.func38, Tryd.ntmps38
  go_wp2_with fail
  go_loopw [7, 8, 15] (fun o a i wr => ∃ k : Nat, k ≤ N ∧ i = .int .i64 k ∧ a = .int .i64 (cellsF (l.take k)).length ∧ wr.ownsRow w.heap.size 24 2 o (ofF (cutC (cellsF (l.take k)) f t)).length (runVs (ofF (cutC (cellsF (l.take k)) f t))) ∧ Below w.heap.size w wr) (fun _ _ i _ => N - (intOf i).toNat)
  case atStart => exact ⟨0, by omega, rfl, rfl, by simpa [cellsF, cutC, ofF] using World.ownsRow_nil _ _ _ _, Below.refl _ _⟩
  case round =>
    obtain ⟨k, hk, rfl, rfl, ho, kw⟩ := hrel
    by_cases hlt : k < N
    · have hkl : k < l.length := by rw [HN.out]; exact hlt
      obtain ⟨g, off, rfl, hcp, hg, hx⟩ := HF.out (by rw [HN.out]; omega)
      obtain ⟨h1, h2⟩ := hx k hkl
      have h1 := keepc kw hg h1
      have h2 := keepc kw hg h2
      have zg : g < wr.heap.size := Nat.lt_of_lt_of_le hg kw.size
      have hs := cellsF_take_succ l k hkl
      have hb := HL.out (k + 1)
      have hp := HP.out k hkl
      rw [hs, List.length_append, List.length_replicate] at hb
      obtain ⟨n0, hn0⟩ : ∃ x, l[k].1 = x := ⟨_, rfl⟩
      obtain ⟨b0, hb0⟩ : ∃ x, l[k].2 = x := ⟨_, rfl⟩
      rw [hn0] at h1 hs hb hp
      rw [hb0] at h2 hs
      obtain ⟨D, hD⟩ : ∃ D, cellsF (l.take k) = D := ⟨_, rfl⟩
      rw [hD] at ho hs hb ⊢
      obtain ⟨A, hA⟩ : ∃ A, D.length = A := ⟨_, rfl⟩
      rw [hA] at hb ⊢
      obtain ⟨X, hX⟩ : ∃ X, wr.alloc (.cells #[.int .i64 n0, .int .i64 b0] 24) = X := ⟨_, rfl⟩
      have kX : Below wr.heap.size wr X := by rw [← hX]; exact al (Below.refl _ _) _
      have rX : RowAt X wr.heap.size #[.int .i64 n0, .int .i64 b0] 24 := by rw [← hX]; exact RowAt.new wr _ _
      have hoX := own_keep ho kX
      have kwX : Below w.heap.size w X := chain kw kX
      have c0 : X.cell? ⟨wr.heap.size, 0, none⟩ = some (.int .i64 n0) := by rw [rX.cell]; rfl
      have c1 : X.cell? ⟨wr.heap.size, 1, none⟩ = some (.int .i64 b0) := by rw [rX.cell]; rfl
      have zX := rX.lt
      have hsum : cutC (cellsF (l.take (k + 1))) f t = cutC D f t ++ List.replicate (min t ((A : Int) + n0) - max f (A : Int)).toNat b0 := by
        rw [hs, cutC_rep, hA, show ((n0.toNat : Nat) : Int) = n0 by omega]
      have hlc : ((cellsF (l.take (k + 1))).length : Int) = (A : Int) + n0 := by rw [hs, List.length_append, List.length_replicate, hA]; omega
      have hcl := cutC_len D f t
      rw [hA] at hcl
      obtain ⟨F, hFe⟩ : ∃ F, max f (A : Int) = F := ⟨_, rfl⟩
      obtain ⟨E, hEe⟩ : ∃ E, min t ((A : Int) + n0) = E := ⟨_, rfl⟩
      have HX := Lib.hid hX
      have HS := Lib.hid hsum
      have HLC := Lib.hid hlc
      have bA : A + n0 ≤ 100000 := by omega
      have wA : IntKind.i64.wrap ((A : Int) + n0) = A + n0 := IntWalk.i64_in _ (by omega)
      have HO := Lib.hid ho
      clear hs hX hx hn0 hb0 kX rX ho hD hsum hlc hb
      go_upto_region 6 with (fail)
      rw [HX.out]
      refine region_below 10 (by kernel_rfl) (by kernel_rfl) ?_
      simp only [List.take_succ_cons, List.take_zero, List.drop_succ_cons, List.drop_zero]
      repeat (first | (refine' InText.skip (by rfl) ?_; simp only [Act.put, List.setIfInBounds_toArray, List.set_cons_zero, List.set_cons_succ]) | (refine' InText.val (by rfl) (fun wr hr => ?_) ?_; rotate_left 1; (focus (obtain ⟨hrc, hrf⟩ := bcell hr; (go_simp <;> with_reducible rfl); done)); simp only [Act.put, List.setIfInBounds_toArray, List.set_cons_zero, List.set_cons_succ]))
      refine fun wrs hrs => ?_
      obtain ⟨hrcs, hrfs⟩ := bcell hrs
      have c2 : wrs.cell? ⟨wr.heap.size, 0, none⟩ = some (.int .i64 n0) := keepc hrs zX c0
      have c3 : wrs.cell? ⟨wr.heap.size, 1, none⟩ = some (.int .i64 b0) := keepc hrs zX c1
      have zs : wr.heap.size < wrs.heap.size := size_lt zX hrs
      have ks : Below w.heap.size w wrs := chain kwX hrs
      have hos := own_keep hoX hrs
      obtain ⟨po, co, rfl⟩ := own_form hos
      have ad := b5_add (.slice po (ofF (cutC D f t)).length co) (ofF (cutC D f t)) (E - F) b0
      by_cases hfe : F < E
      · have hi0 : i64 (E - F) := by constructor <;> omega
        have ad := ad hi0 w.heap.size wrs hos ks.size (by have := ofF_len (cutC D f t); omega) (last_ok (by omega) (by omega) (by omega))
        rw [addF_of] at ad
        have hS := HS.out
        rw [hFe, hEe] at hS
        rw [← hS] at ad
        have AD := Lib.hid ad
        have HOS := Lib.hid hos
        have bE : 0 ≤ E - F := by omega
        have bE2 : E - F ≤ 100000 := by omega
        clear ad hS hi0 hos hoX hrs hrcs hrfs c0 c1 h1 h2 hcl
        clear hFe hEe
        go_wp2_with fail
        refine AD.out.mono ?_
        rintro e w1 ⟨v1, rfl, ho1, hb1, _⟩
        have c4 : w1.cell? ⟨wr.heap.size, 0, none⟩ = some (.int .i64 n0) := grow_cell hb1 HO.out c2 (.inr (Nat.le_refl _))
        have z1 : wr.heap.size < w1.heap.size := Nat.lt_of_lt_of_le zs hb1.size
        go_wp2_with fail
        go_roundw
        case rel => exact ⟨k + 1, by omega, by go_num, by rw [HLC.out], ho1, below_own ks HOS.out hb1 (Nat.le_refl _)⟩
        case measure => simp [intOf]; omega
      · have hS := HS.out
        rw [hFe, hEe, show (E - F).toNat = 0 by omega, List.replicate_zero, List.append_nil] at hS
        rw [← hS] at hos ⊢
        have HOS := Lib.hid hos
        clear ad hS hos hoX hrs hrcs hrfs c0 c1 c3 h1 h2 hcl hFe hEe
        go_wp2_with fail
        go_roundw
        case rel => exact ⟨k + 1, by omega, by go_num, by rw [HLC.out], HOS.out, ks⟩
        case measure => simp [intOf]; omega
    · obtain rfl : k = N := by omega
      have e : cellsF (l.take k) = C := by rw [← HN.out, List.take_length, HCC.out]
      rw [e] at ho
      clear e
      obtain ⟨po, co, rfl⟩ := own_form ho
      have HO := Lib.hid ho
      clear ho
      go_wp2_with fail
      go_ret
      exact ⟨_, rfl, HO.out, kw⟩
end Go.Proofs.YtldokggfiklcoaaDoor
