/- Contracts of layer 5 (runs), of the landed code: May, At. -/
import Derived.Test.YtafmekojdaeliaaDoorB5A
set_option linter.unusedVariables false
set_option linter.unusedSimpArgs false
namespace Go.Proofs.YtafmekojdaeliaaDoor
open Go.ChangeShapes Go.WideShapes Go.ChangeAt Go.RowKit
set_option maxHeartbeats 4000000 in
theorem b5_may (v : Value) (l : List Run) (n : Int) (hn : i64 n) (w : World) (hV : Vars w) (hl : RunsAt w v l) (hb : ∀ j (h : j < l.length), i64 l[j].1 ∧ i64 l[j].2) (hL : l.length ≤ 100000) : Calls Tryd.prog 28 #[v, .int .i64 n] w fun e w' =>
    e = .returned (.bool (mayR l n)) ∧ Below w.heap.size w w' := by
  obtain ⟨p, c, rfl, hf⟩ := hl.form
  obtain ⟨N, hN⟩ : ∃ N, l.length = N := ⟨_, rfl⟩
  obtain ⟨R, hR⟩ : ∃ R, mayGo none n l = R := ⟨_, rfl⟩
  have hM : mayR l n = (R && decide (0 < n)) := by unfold mayR; rw [hR]
  obtain ⟨M, hM2⟩ : ∃ M, mayR l n = M := ⟨_, rfl⟩
  rw [hM2] at hM
  have HN := Lib.hid hN
  have HF := Lib.hid hf
  have HB := Lib.hid hb
  have HR := Lib.hid hR
  have HM := Lib.hid hM
  rw [hN] at hL
  rw [hN, hM2]
  clear hN hf hb hl hR hM hM2
  go_enter Tryd.func28, Tryd.ntmps28
  go_wp2_with fail
  go_loopw [5, 6, 12] (fun f q i wr => ∃ (k : Nat) (left pr : Int), k ≤ N ∧ i = .int .i64 k ∧ f = .int .i64 left ∧ q = .int .i64 pr ∧ (i64 left ∧ (k ≠ 0 → 0 ≤ left)) ∧ (prevF l k = none ∧ pr = -1 ∨ prevF l k = some pr) ∧ mayGo (prevF l k) left (l.drop k) = R ∧ Below w.heap.size w wr) (fun _ _ i _ => N - (intOf i).toNat)
  case atStart => exact ⟨0, n, -1, by omega, rfl, rfl, rfl, ⟨hn, fun h => absurd rfl h⟩, .inl ⟨rfl, rfl⟩, by simpa [prevF] using HR.out, by (repeat (first | with_reducible assumption | with_reducible exact Below.refl _ _ | with_reducible refine Below.drew ?_ | with_reducible refine below_drewN ?_ _ | with_reducible refine al ?_ _ | (with_reducible refine sc ?_ ?_; (focus (first | omega | (simp; done) | (simp; omega)))) | (with_reducible refine chain ?_ (by assumption))))⟩
  case round =>
    obtain ⟨k, left, pr, hk, rfl, rfl, rfl, ⟨⟨bl0, bl1⟩, hpos⟩, hpr, hg, kw⟩ := hrel
    by_cases hlt : k < N
    · obtain ⟨g, off, rfl, hc, hgg, hx⟩ := HF.out (by rw [HN.out]; omega)
      rw [HN.out] at hc
      have hkl : k < l.length := by rw [HN.out]; exact hlt
      rw [drop_cons hkl, mayGo] at hg
      have h1 := keepc kw hgg (hx k hkl).1
      have h2 := keepc kw hgg (hx k hkl).2
      have zg : g < wr.heap.size := Nat.lt_of_lt_of_le hgg kw.size
      obtain ⟨⟨b1, b1'⟩, b2, b2'⟩ := HB.out k hkl
      have hprev : prevF l (k + 1) = some l[k].2 := by simp [prevF, hkl]
      obtain ⟨⟨a, b⟩, hab⟩ : ∃ x, l[k] = x := ⟨_, rfl⟩
      rw [hab] at hg h1 h2 b1 b1' b2 b2' hprev
      simp only [] at hg h1 h2 b1 b1' b2 b2' hprev
      have hq : mayB b = true → (prevF l k == some b) = (b == pr) := fun hm => by
        have hbd := mayB_bd hm
        rcases hpr with ⟨e1, e2⟩ | e1
        · rw [e1, e2]; simp; omega
        · rw [e1, Bool.eq_iff_iff]; simp; exact eq_comm
      have my := fun u hu => b4_may b ⟨b2, b2'⟩ u hu
      obtain ⟨m, hm⟩ : ∃ m, mayB b = m := ⟨_, rfl⟩
      obtain ⟨q0, hq0⟩ : ∃ q, (prevF l k == some b) = q := ⟨_, rfl⟩
      rw [hm] at my hg hq
      rw [hq0] at hg hq
      rw [← hprev] at hg
      have hpr2 : prevF l (k + 1) = none ∧ b = -1 ∨ prevF l (k + 1) = some b := .inr hprev
      obtain ⟨X, hX⟩ : ∃ X, wr.alloc (.cells #[.int .i64 a, .int .i64 b] 49) = X := ⟨_, rfl⟩
      have kX : Below wr.heap.size wr X := by rw [← hX]; exact al (Below.refl _ _) _
      have rX : RowAt X wr.heap.size #[.int .i64 a, .int .i64 b] 49 := by rw [← hX]; exact RowAt.new wr _ _
      have kwX : Below w.heap.size w X := chain kw kX
      have c0 : X.cell? ⟨wr.heap.size, 0, none⟩ = some (.int .i64 a) := by rw [rX.cell]; rfl
      have c1 : X.cell? ⟨wr.heap.size, 1, none⟩ = some (.int .i64 b) := by rw [rX.cell]; rfl
      have zX := rX.lt
      have VX := hV.keep kwX
      have HX := Lib.hid hX
      have HP2 := Lib.hid hpr2
      have MY := Lib.hid my
      have HG := Lib.hid hg
      have HQ := Lib.hid hq
      clear my hm hg hprev hq hx hab hX kX rX hpr hpr2 hq0
      by_cases h3 : a < 1
      · have e : R = false := by rw [← HG.out]; simp; omega
        have e2 : M = false := by rw [HM.out, e]; rfl
        have E := Lib.hid e2
        clear e e2
        go_upto_region 5 with (fail)
        rw [HX.out]
        go_wp2_with fail
        go_ret
        exact ⟨by rw [E.out]; rfl, by (repeat (first | with_reducible assumption | with_reducible exact Below.refl _ _ | with_reducible refine Below.drew ?_ | with_reducible refine below_drewN ?_ _ | with_reducible refine al ?_ _ | (with_reducible refine sc ?_ ?_; (focus (first | omega | (simp; done) | (simp; omega)))) | (with_reducible refine chain ?_ (by assumption))))⟩
      by_cases h4 : left < a
      · have e : R = false := by rw [← HG.out]; simp; omega
        have e2 : M = false := by rw [HM.out, e]; rfl
        have E := Lib.hid e2
        clear e e2
        go_upto_region 5 with (fail)
        rw [HX.out]
        go_wp2_with fail
        go_ret
        exact ⟨by rw [E.out]; rfl, by (repeat (first | with_reducible assumption | with_reducible exact Below.refl _ _ | with_reducible refine Below.drew ?_ | with_reducible refine below_drewN ?_ _ | with_reducible refine al ?_ _ | (with_reducible refine sc ?_ ?_; (focus (first | omega | (simp; done) | (simp; omega)))) | (with_reducible refine chain ?_ (by assumption))))⟩
      go_upto_region 5 with (fail)
      rw [HX.out]
      go_wp2_with fail
      (refine (MY.out _ VX).mono ?_; rintro e w1 ⟨rfl, hb1⟩)
      have c2 : w1.cell? ⟨wr.heap.size, 0, none⟩ = some (.int .i64 a) := keepc hb1 zX c0
      have c3 : w1.cell? ⟨wr.heap.size, 1, none⟩ = some (.int .i64 b) := keepc hb1 zX c1
      have z1 : wr.heap.size < w1.heap.size := size_lt zX hb1
      have k1 : Below w.heap.size w w1 := chain kwX hb1
      clear hb1 kwX VX c0 c1
      have h5 : (decide (1 ≤ a) && (decide (a ≤ left) && (!q0 && mayGo (prevF l (k + 1)) (left - a) (l.drop (k + 1))))) = (!q0 && mayGo (prevF l (k + 1)) (left - a) (l.drop (k + 1))) := by
        rw [decide_eq_true (by omega), decide_eq_true (by omega)]; simp
      have hg := HG.out
      rw [h5] at hg
      cases m
      · have e : R = false := by rw [← hg]; rfl
        have e2 : M = false := by rw [HM.out, e]; rfl
        have E := Lib.hid e2
        clear e e2 h5 hg
        go_wp2_with fail
        go_ret
        exact ⟨by rw [E.out]; rfl, by (repeat (first | with_reducible assumption | with_reducible exact Below.refl _ _ | with_reducible refine Below.drew ?_ | with_reducible refine below_drewN ?_ _ | with_reducible refine al ?_ _ | (with_reducible refine sc ?_ ?_; (focus (first | omega | (simp; done) | (simp; omega)))) | (with_reducible refine chain ?_ (by assumption))))⟩
      rw [HQ.out rfl] at hg
      obtain ⟨q, hq⟩ : ∃ q, (b == pr) = q := ⟨_, rfl⟩
      rw [hq] at hg
      cases q
      · have e : mayGo (prevF l (k + 1)) (left - a) (l.drop (k + 1)) = R := by rw [← hg]; simp
        have E := Lib.hid e
        clear e h5 hg
        have hne : ¬ b = pr := by simpa using hq
        go_wp2_with fail
        refine region_below 7 (by kernel_rfl) (by kernel_rfl) ?_
        simp only [List.take_succ_cons, List.take_zero, List.drop_succ_cons, List.drop_zero]
        repeat (first | (refine' InText.skip (by rfl) ?_; simp only [Act.put, List.setIfInBounds_toArray, List.set_cons_zero, List.set_cons_succ]) | (refine' InText.val (by rfl) (fun wr hr => ?_) ?_; rotate_left 1; (focus (obtain ⟨hrc, hrf⟩ := bcell hr; (go_simp <;> with_reducible rfl); done)); simp only [Act.put, List.setIfInBounds_toArray, List.set_cons_zero, List.set_cons_succ]))
        refine fun wrs hrs => ?_
        obtain ⟨hrcs, hrfs⟩ := bcell hrs
        have ks : Below w.heap.size w wrs := chain k1 hrs
        clear hrs hrcs hrfs
        go_wp2_with fail
        go_roundw
        case rel => exact ⟨k + 1, left - a, b, by omega, by go_num, by rw [IntWalk.i64_in (left - a) (by omega)], rfl, ⟨by constructor <;> omega, fun _ => by omega⟩, HP2.out, E.out, ks⟩
        case measure => simp [intOf]; omega
      · have e : R = false := by rw [← hg]; rfl
        have e2 : M = false := by rw [HM.out, e]; rfl
        have E := Lib.hid e2
        clear e e2 h5 hg
        obtain rfl : b = pr := by simpa using hq
        go_wp2_with fail
        go_ret
        exact ⟨by rw [E.out]; rfl, by (repeat (first | with_reducible assumption | with_reducible exact Below.refl _ _ | with_reducible refine Below.drew ?_ | with_reducible refine below_drewN ?_ _ | with_reducible refine al ?_ _ | (with_reducible refine sc ?_ ?_; (focus (first | omega | (simp; done) | (simp; omega)))) | (with_reducible refine chain ?_ (by assumption))))⟩
    · obtain rfl : k = N := by omega
      rw [← HN.out, List.drop_length, mayGo] at hg
      have hM := HM.out
      rw [← hg] at hM
      have E := Lib.hid hM
      clear hM hg hpr
      by_cases h0 : 0 < n
      · by_cases hz : left = 0
        · go_wp2_with fail
          go_ret
          exact ⟨by rw [E.out]; simp [h0, hz], by (repeat (first | with_reducible assumption | with_reducible exact Below.refl _ _ | with_reducible refine Below.drew ?_ | with_reducible refine below_drewN ?_ _ | with_reducible refine al ?_ _ | (with_reducible refine sc ?_ ?_; (focus (first | omega | (simp; done) | (simp; omega)))) | (with_reducible refine chain ?_ (by assumption))))⟩
        · go_wp2_with fail
          go_ret
          exact ⟨by rw [E.out]; simp [h0, hz], by (repeat (first | with_reducible assumption | with_reducible exact Below.refl _ _ | with_reducible refine Below.drew ?_ | with_reducible refine below_drewN ?_ _ | with_reducible refine al ?_ _ | (with_reducible refine sc ?_ ?_; (focus (first | omega | (simp; done) | (simp; omega)))) | (with_reducible refine chain ?_ (by assumption))))⟩
      · go_wp2_with fail
        go_ret
        exact ⟨by rw [E.out]; simp [h0], by (repeat (first | with_reducible assumption | with_reducible exact Below.refl _ _ | with_reducible refine Below.drew ?_ | with_reducible refine below_drewN ?_ _ | with_reducible refine al ?_ _ | (with_reducible refine sc ?_ ?_; (focus (first | omega | (simp; done) | (simp; omega)))) | (with_reducible refine chain ?_ (by assumption))))⟩
