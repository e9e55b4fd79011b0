/- Contracts of layer 2's reference: the box round others. -/
import Derived.Test.YtaiiilccamdnbaaH02
set_option linter.unusedVariables false
namespace Go.Proofs.Ytaiiilccamdnbaa
open Go.ChangeShapes Go.WideShapes Go.ChangeAt Go.RowKit
attribute [local go_sem ↓] Go.wp_at_zero Go.wp_at_succ
theorem sc_size {w W : World} {n : Nat} {p : Addr} {v : Value} (h : n < W.heap.size) : n < (W.setCell p v).heap.size := by simp only [World.setCell, Array.size_modify]; exact h
theorem set3_cells {W : World} {b : Nat} {u0 u1 u2 v0 v1 v2 : Value} (h0 : W.cell? ⟨b, 0, none⟩ = some u0) (h1 : W.cell? ⟨b, 1, none⟩ = some u1) (h2 : W.cell? ⟨b, 2, none⟩ = some u2) :
    (((W.setCell ⟨b, 0, none⟩ v0).setCell ⟨b, 1, none⟩ v1).setCell ⟨b, 2, none⟩ v2).cell? ⟨b, 0, none⟩ = some v0 ∧ (((W.setCell ⟨b, 0, none⟩ v0).setCell ⟨b, 1, none⟩ v1).setCell ⟨b, 2, none⟩ v2).cell? ⟨b, 1, none⟩ = some v1 ∧
    (((W.setCell ⟨b, 0, none⟩ v0).setCell ⟨b, 1, none⟩ v1).setCell ⟨b, 2, none⟩ v2).cell? ⟨b, 2, none⟩ = some v2 := by
  refine ⟨?_, ?_, ?_⟩ <;> simp [go_sem, *]
set_option maxHeartbeats 8000000 in
theorem r2_hull (b off len cap : Nat) (f : Nat → V6) (w : World) (hlen : len ≤ 9223372036854775807) (h1 : 1 ≤ len) (hcap : len ≤ cap) (hf : RowBox w b off len f) :
    Calls Try.prog 35 #[.slice (some ⟨b, off, none⟩) len cap] w fun e w' => e = .returned (hullF f (len - 1)).val ∧ Below w.heap.size w w' := by
  have zb : b < w.heap.size := (hf 0 h1).lt
  have hF := Lib.hid hf
  clear hf
  obtain ⟨g, hg0, hg1⟩ : ∃ g : Nat → V6, g 0 = ⟨⟨0, 0, 0⟩, ⟨0, 0, 0⟩⟩ ∧ ∀ k, g (k + 1) = hullF f k :=
    ⟨fun k => match k with | 0 => ⟨⟨0, 0, 0⟩, ⟨0, 0, 0⟩⟩ | k + 1 => hullF f k, rfl, fun _ => rfl⟩
  have G0 := Lib.hid hg0
  have G1 := Lib.hid hg1
  clear hg0 hg1
  go_enter Try.func35, Try.ntmps35
  go_wp2
  go_loopw [4] (fun i wr => ∃ k : Nat, k ≤ len ∧ i = .int .i64 k ∧ Below w.heap.size w wr ∧ BoxV wr (w.heap.size + 1) 0 (g k) ∧ (∀ o, wr.frozen? ⟨w.heap.size + 1, o, none⟩ = false) ∧ BoxAt wr w.heap.size 0 0 0 0 0 0 0 ∧ (∀ o, wr.frozen? ⟨w.heap.size, o, none⟩ = false)) (fun i _ => len - (intOf i).toNat)
  case atStart =>
    refine ⟨0, by omega, rfl, by (repeat (first | with_reducible assumption | with_reducible exact Below.refl _ _ | with_reducible refine Below.drew ?_ | with_reducible refine below_drewN ?_ _ | with_reducible refine al ?_ _ | (with_reducible refine sc ?_ ?_; (focus (first | omega | (simp; done) | (simp; omega)))) | (with_reducible refine chain ?_ (by assumption)))), ?_, by simp [go_sem], ⟨by simp; omega, by simp [go_sem], by simp [go_sem], by simp [go_sem], by simp [go_sem], by simp [go_sem], by simp [go_sem]⟩, by simp [go_sem]⟩
    rw [G0.out]
    exact ⟨by simp, by simp [go_sem], by simp [go_sem], by simp [go_sem], by simp [go_sem], by simp [go_sem], by simp [go_sem]⟩
  case round =>
    obtain ⟨k, hk, rfl, kw, H1, f1, H2, f2⟩ := hrel
    obtain ⟨⟨⟨P, Q, R⟩, ⟨P', Q', R'⟩⟩, hh⟩ : ∃ a, g k = a := ⟨_, rfl⟩
    rw [hh] at H1
    obtain ⟨z1, d0, d1, d2, d3, d4, d5⟩ := H1
    obtain ⟨z2, r0, r1, r2, r3, r4, r5⟩ := H2
    have zb' : b < wr.heap.size := Nat.lt_of_lt_of_le zb kw.size
    have HH := Lib.hid hh
    clear hh
    by_cases hlt : k < len
    · have hx := (hF.out k hlt).keep kw
      obtain ⟨⟨⟨X, Y, Z⟩, ⟨X', Y', Z'⟩⟩, hy⟩ : ∃ a, f k = a := ⟨_, rfl⟩
      rw [hy] at hx
      obtain ⟨_, e0, e1, e2, e3, e4, e5⟩ := hx
      have i1 : (0 : Int) ≤ (k : Int) := by omega
      have i2 : (k : Int) < (len : Int) := by omega
      have HY := Lib.hid hy
      clear hy
      by_cases hk0 : k = 0
      · subst hk0
        simp only [Nat.zero_mul, Nat.add_zero] at e0 e1 e2 e3 e4 e5
        have hgn : g (0 + 1) = ⟨⟨X, Y, Z⟩, ⟨X', Y', Z'⟩⟩ := by rw [G1.out, hullF]; exact HY.out
        have HG := Lib.hid hgn
        clear hgn
        go_wp2_with fail
        refine region_below 32 (by kernel_rfl) (by kernel_rfl) ?_
        simp only [List.take_succ_cons, List.take_zero, List.drop_succ_cons, List.drop_zero]
        repeat (first | (refine' InText.skip (by rfl) ?_; simp only [Act.put, List.setIfInBounds_toArray, List.set_cons_zero, List.set_cons_succ]) | (refine' InText.val (by rfl) (fun wr hr => ?_) ?_; rotate_left 1; (focus (obtain ⟨hrc, hrf⟩ := bcell hr; (go_simp <;> with_reducible rfl); done)); simp only [Act.put, List.setIfInBounds_toArray, List.set_cons_zero, List.set_cons_succ]))
        refine fun wr1 hr1 => ?_
        obtain ⟨hrc1, hrf1⟩ := bcell hr1
        have y1 : b < wr1.heap.size := size_lt (by first | (simp; done) | (simp; omega) | omega | (simp [World.setCell]; done) | (simp [World.setCell]; omega)) hr1
        have y2 : w.heap.size < wr1.heap.size := size_lt (by first | (simp; done) | (simp; omega) | omega | (simp [World.setCell]; done) | (simp [World.setCell]; omega)) hr1
        have y3 : w.heap.size + 1 < wr1.heap.size := size_lt (by first | (simp; done) | (simp; omega) | omega | (simp [World.setCell]; done) | (simp [World.setCell]; omega)) hr1
        have _cwr1a0 : wr1.cell? ⟨w.heap.size + 1, 0, none⟩ = some (.int .i64 (X)) := keepc hr1 (by first | (simp; done) | (simp; omega) | omega | (simp [World.setCell]; done) | (simp [World.setCell]; omega)) (by first | (simp [go_sem, *]; done) | go_simp)
        have _cwr1a1 : wr1.cell? ⟨w.heap.size + 1, 1, none⟩ = some (.int .i64 (Y)) := keepc hr1 (by first | (simp; done) | (simp; omega) | omega | (simp [World.setCell]; done) | (simp [World.setCell]; omega)) (by first | (simp [go_sem, *]; done) | go_simp)
        have _cwr1a2 : wr1.cell? ⟨w.heap.size + 1, 2, none⟩ = some (.int .i64 (Z)) := keepc hr1 (by first | (simp; done) | (simp; omega) | omega | (simp [World.setCell]; done) | (simp [World.setCell]; omega)) (by first | (simp [go_sem, *]; done) | go_simp)
        have _cwr1a3 : wr1.cell? ⟨w.heap.size + 1, 3, none⟩ = some (.int .i64 (X')) := keepc hr1 (by first | (simp; done) | (simp; omega) | omega | (simp [World.setCell]; done) | (simp [World.setCell]; omega)) (by first | (simp [go_sem, *]; done) | go_simp)
        have _cwr1a4 : wr1.cell? ⟨w.heap.size + 1, 4, none⟩ = some (.int .i64 (Y')) := keepc hr1 (by first | (simp; done) | (simp; omega) | omega | (simp [World.setCell]; done) | (simp [World.setCell]; omega)) (by first | (simp [go_sem, *]; done) | go_simp)
        have _cwr1a5 : wr1.cell? ⟨w.heap.size + 1, 5, none⟩ = some (.int .i64 (Z')) := keepc hr1 (by first | (simp; done) | (simp; omega) | omega | (simp [World.setCell]; done) | (simp [World.setCell]; omega)) (by first | (simp [go_sem, *]; done) | go_simp)
        have _fwr1a : ∀ o, wr1.frozen? ⟨w.heap.size + 1, o, none⟩ = false := fun o => keepf hr1 (by first | (simp; done) | (simp; omega) | omega | (simp [World.setCell]; done) | (simp [World.setCell]; omega)) (by simp [go_sem, *])
        have _cwr1b0 : wr1.cell? ⟨w.heap.size, 0, none⟩ = some (.int .i64 0) := keepc hr1 (by first | (simp; done) | (simp; omega) | omega | (simp [World.setCell]; done) | (simp [World.setCell]; omega)) (by first | (simp [go_sem, *]; done) | go_simp)
        have _cwr1b1 : wr1.cell? ⟨w.heap.size, 1, none⟩ = some (.int .i64 0) := keepc hr1 (by first | (simp; done) | (simp; omega) | omega | (simp [World.setCell]; done) | (simp [World.setCell]; omega)) (by first | (simp [go_sem, *]; done) | go_simp)
        have _cwr1b2 : wr1.cell? ⟨w.heap.size, 2, none⟩ = some (.int .i64 0) := keepc hr1 (by first | (simp; done) | (simp; omega) | omega | (simp [World.setCell]; done) | (simp [World.setCell]; omega)) (by first | (simp [go_sem, *]; done) | go_simp)
        have _cwr1b3 : wr1.cell? ⟨w.heap.size, 3, none⟩ = some (.int .i64 0) := keepc hr1 (by first | (simp; done) | (simp; omega) | omega | (simp [World.setCell]; done) | (simp [World.setCell]; omega)) (by first | (simp [go_sem, *]; done) | go_simp)
        have _cwr1b4 : wr1.cell? ⟨w.heap.size, 4, none⟩ = some (.int .i64 0) := keepc hr1 (by first | (simp; done) | (simp; omega) | omega | (simp [World.setCell]; done) | (simp [World.setCell]; omega)) (by first | (simp [go_sem, *]; done) | go_simp)
        have _cwr1b5 : wr1.cell? ⟨w.heap.size, 5, none⟩ = some (.int .i64 0) := keepc hr1 (by first | (simp; done) | (simp; omega) | omega | (simp [World.setCell]; done) | (simp [World.setCell]; omega)) (by first | (simp [go_sem, *]; done) | go_simp)
        have _fwr1b : ∀ o, wr1.frozen? ⟨w.heap.size, o, none⟩ = false := fun o => keepf hr1 (by first | (simp; done) | (simp; omega) | omega | (simp [World.setCell]; done) | (simp [World.setCell]; omega)) (by simp [go_sem, *])
        have k1 : Below w.heap.size w wr1 := by (repeat (first | with_reducible assumption | with_reducible exact Below.refl _ _ | with_reducible refine Below.drew ?_ | with_reducible refine below_drewN ?_ _ | with_reducible refine al ?_ _ | (with_reducible refine sc ?_ ?_; (focus (first | omega | (simp; done) | (simp; omega)))) | (with_reducible refine chain ?_ (by assumption))))
        go_wp2_with fail
        refine region_below 32 (by kernel_rfl) (by kernel_rfl) ?_
        simp only [List.take_succ_cons, List.take_zero, List.drop_succ_cons, List.drop_zero]
        repeat (first | (refine' InText.skip (by rfl) ?_; simp only [Act.put, List.setIfInBounds_toArray, List.set_cons_zero, List.set_cons_succ]) | (refine' InText.val (by rfl) (fun wr hr => ?_) ?_; rotate_left 1; (focus (obtain ⟨hrc, hrf⟩ := bcell hr; (go_simp <;> with_reducible rfl); done)); simp only [Act.put, List.setIfInBounds_toArray, List.set_cons_zero, List.set_cons_succ]))
        refine fun wr2 hr2 => ?_
        obtain ⟨hrc2, hrf2⟩ := bcell hr2
        have y4 : b < wr2.heap.size := size_lt (by first | (simp; done) | (simp; omega) | omega | (simp [World.setCell]; done) | (simp [World.setCell]; omega)) hr2
        have y5 : w.heap.size < wr2.heap.size := size_lt (by first | (simp; done) | (simp; omega) | omega | (simp [World.setCell]; done) | (simp [World.setCell]; omega)) hr2
        have y6 : w.heap.size + 1 < wr2.heap.size := size_lt (by first | (simp; done) | (simp; omega) | omega | (simp [World.setCell]; done) | (simp [World.setCell]; omega)) hr2
        have q3 := set3_cells (v0 := .int .i64 X) (v1 := .int .i64 Y) (v2 := .int .i64 Z) _cwr1a0 _cwr1a1 _cwr1a2
        have _cwr2a0 : wr2.cell? ⟨w.heap.size + 1, 0, none⟩ = some (.int .i64 X) := keepc hr2 (by first | (simp; done) | (simp; omega) | omega | (simp [World.setCell]; done) | (simp [World.setCell]; omega)) q3.1
        have _cwr2a1 : wr2.cell? ⟨w.heap.size + 1, 1, none⟩ = some (.int .i64 Y) := keepc hr2 (by first | (simp; done) | (simp; omega) | omega | (simp [World.setCell]; done) | (simp [World.setCell]; omega)) q3.2.1
        have _cwr2a2 : wr2.cell? ⟨w.heap.size + 1, 2, none⟩ = some (.int .i64 Z) := keepc hr2 (by first | (simp; done) | (simp; omega) | omega | (simp [World.setCell]; done) | (simp [World.setCell]; omega)) q3.2.2
        clear q3
        have _cwr2a3 : wr2.cell? ⟨w.heap.size + 1, 3, none⟩ = some (.int .i64 X') := keepc hr2 (by first | (simp; done) | (simp; omega) | omega | (simp [World.setCell]; done) | (simp [World.setCell]; omega)) (by simp [go_sem, *])
        have _cwr2a4 : wr2.cell? ⟨w.heap.size + 1, 4, none⟩ = some (.int .i64 Y') := keepc hr2 (by first | (simp; done) | (simp; omega) | omega | (simp [World.setCell]; done) | (simp [World.setCell]; omega)) (by simp [go_sem, *])
        have _cwr2a5 : wr2.cell? ⟨w.heap.size + 1, 5, none⟩ = some (.int .i64 Z') := keepc hr2 (by first | (simp; done) | (simp; omega) | omega | (simp [World.setCell]; done) | (simp [World.setCell]; omega)) (by simp [go_sem, *])
        have _fwr2a : ∀ o, wr2.frozen? ⟨w.heap.size + 1, o, none⟩ = false := fun o => keepf hr2 (by first | (simp; done) | (simp; omega) | omega | (simp [World.setCell]; done) | (simp [World.setCell]; omega)) (by simp [go_sem, *])
        have _cwr2b0 : wr2.cell? ⟨w.heap.size, 0, none⟩ = some (.int .i64 0) := keepc hr2 (by first | (simp; done) | (simp; omega) | omega | (simp [World.setCell]; done) | (simp [World.setCell]; omega)) (by first | (simp [go_sem, *]; done) | go_simp)
        have _cwr2b1 : wr2.cell? ⟨w.heap.size, 1, none⟩ = some (.int .i64 0) := keepc hr2 (by first | (simp; done) | (simp; omega) | omega | (simp [World.setCell]; done) | (simp [World.setCell]; omega)) (by first | (simp [go_sem, *]; done) | go_simp)
        have _cwr2b2 : wr2.cell? ⟨w.heap.size, 2, none⟩ = some (.int .i64 0) := keepc hr2 (by first | (simp; done) | (simp; omega) | omega | (simp [World.setCell]; done) | (simp [World.setCell]; omega)) (by first | (simp [go_sem, *]; done) | go_simp)
        have _cwr2b3 : wr2.cell? ⟨w.heap.size, 3, none⟩ = some (.int .i64 0) := keepc hr2 (by first | (simp; done) | (simp; omega) | omega | (simp [World.setCell]; done) | (simp [World.setCell]; omega)) (by first | (simp [go_sem, *]; done) | go_simp)
        have _cwr2b4 : wr2.cell? ⟨w.heap.size, 4, none⟩ = some (.int .i64 0) := keepc hr2 (by first | (simp; done) | (simp; omega) | omega | (simp [World.setCell]; done) | (simp [World.setCell]; omega)) (by first | (simp [go_sem, *]; done) | go_simp)
        have _cwr2b5 : wr2.cell? ⟨w.heap.size, 5, none⟩ = some (.int .i64 0) := keepc hr2 (by first | (simp; done) | (simp; omega) | omega | (simp [World.setCell]; done) | (simp [World.setCell]; omega)) (by first | (simp [go_sem, *]; done) | go_simp)
        have _fwr2b : ∀ o, wr2.frozen? ⟨w.heap.size, o, none⟩ = false := fun o => keepf hr2 (by first | (simp; done) | (simp; omega) | omega | (simp [World.setCell]; done) | (simp [World.setCell]; omega)) (by simp [go_sem, *])
        have k2 : Below w.heap.size w wr2 := by (repeat (first | with_reducible assumption | with_reducible exact Below.refl _ _ | with_reducible refine Below.drew ?_ | with_reducible refine below_drewN ?_ _ | with_reducible refine al ?_ _ | (with_reducible refine sc ?_ ?_; (focus (first | omega | (simp; done) | (simp; omega)))) | (with_reducible refine chain ?_ (by assumption))))
        clear hrc1 hrf1 hrc2 hrf2
        go_wp2_with fail
        go_roundw
        case rel =>
          first | (refine ⟨0 + 1, by omega, by go_num, by (repeat (first | with_reducible assumption | with_reducible exact Below.refl _ _ | with_reducible refine Below.drew ?_ | with_reducible refine below_drewN ?_ _ | with_reducible refine al ?_ _ | (with_reducible refine sc ?_ ?_; (focus (first | omega | (simp; done) | (simp; omega)))) | (with_reducible refine chain ?_ (by assumption)))), ?_, fun o => by simp [go_sem, *], ⟨?_, by simp [go_sem, *], by simp [go_sem, *], by simp [go_sem, *], by simp [go_sem, *], by simp [go_sem, *], by simp [go_sem, *]⟩, fun o => by simp [go_sem, *]⟩) | ((repeat apply Exists.intro); refine And.intro ?_ rfl; refine ⟨0 + 1, by omega, by go_num, by (repeat (first | with_reducible assumption | with_reducible exact Below.refl _ _ | with_reducible refine Below.drew ?_ | with_reducible refine below_drewN ?_ _ | with_reducible refine al ?_ _ | (with_reducible refine sc ?_ ?_; (focus (first | omega | (simp; done) | (simp; omega)))) | (with_reducible refine chain ?_ (by assumption)))), ?_, fun o => by simp [go_sem, *], ⟨?_, by simp [go_sem, *], by simp [go_sem, *], by simp [go_sem, *], by simp [go_sem, *], by simp [go_sem, *], by simp [go_sem, *]⟩, fun o => by simp [go_sem, *]⟩)
          · rw [HG.out]
            exact ⟨by simp only [World.setCell, Array.size_modify]; assumption, by simp [go_sem, *], by simp [go_sem, *], by simp [go_sem, *], by simp [go_sem, *], by simp [go_sem, *], by simp [go_sem, *]⟩
          · simp only [World.setCell, Array.size_modify]; assumption
        case measure => simp [intOf]; omega
      · obtain ⟨j, rfl⟩ : ∃ j, k = j + 1 := ⟨k - 1, by omega⟩
        have hgn : g (j + 1 + 1) = ⟨⟨min P X, min Q Y, min R Z⟩, ⟨max P' X', max Q' Y', max R' Z'⟩⟩ := by
          have h2 := HH.out
          rw [G1.out] at h2
          rw [G1.out, hullF, h2, HY.out, merge]
        have HG := Lib.hid hgn
        clear hgn
        have i3 : (((j : Int) + 1) == 0) = false := by rw [beq_eq_false_iff_ne]; omega
        have i4 : (0 : Int) ≤ (j : Int) + 1 := by omega
        have i5 : (j : Int) + 1 < (len : Int) := by omega
        go_wp2_with fail
        refine region_below 32 (by kernel_rfl) (by kernel_rfl) ?_
        simp only [List.take_succ_cons, List.take_zero, List.drop_succ_cons, List.drop_zero]
        repeat (first | (refine' InText.skip (by rfl) ?_; simp only [Act.put, List.setIfInBounds_toArray, List.set_cons_zero, List.set_cons_succ]) | (refine' InText.val (by rfl) (fun wr hr => ?_) ?_; rotate_left 1; (focus (obtain ⟨hrc, hrf⟩ := bcell hr; (go_simp <;> with_reducible rfl); done)); simp only [Act.put, List.setIfInBounds_toArray, List.set_cons_zero, List.set_cons_succ]))
        refine fun wr1 hr1 => ?_
        obtain ⟨hrc1, hrf1⟩ := bcell hr1
        have y1 : b < wr1.heap.size := size_lt (by first | (simp; done) | (simp; omega) | omega | (simp [World.setCell]; done) | (simp [World.setCell]; omega)) hr1
        have y2 : w.heap.size < wr1.heap.size := size_lt (by first | (simp; done) | (simp; omega) | omega | (simp [World.setCell]; done) | (simp [World.setCell]; omega)) hr1
        have y3 : w.heap.size + 1 < wr1.heap.size := size_lt (by first | (simp; done) | (simp; omega) | omega | (simp [World.setCell]; done) | (simp [World.setCell]; omega)) hr1
        have _cwr1a0 : wr1.cell? ⟨w.heap.size + 1, 0, none⟩ = some (.int .i64 (P)) := keepc hr1 (by first | (simp; done) | (simp; omega) | omega | (simp [World.setCell]; done) | (simp [World.setCell]; omega)) (by first | (simp [go_sem, *]; done) | go_simp)
        have _cwr1a1 : wr1.cell? ⟨w.heap.size + 1, 1, none⟩ = some (.int .i64 (Q)) := keepc hr1 (by first | (simp; done) | (simp; omega) | omega | (simp [World.setCell]; done) | (simp [World.setCell]; omega)) (by first | (simp [go_sem, *]; done) | go_simp)
        have _cwr1a2 : wr1.cell? ⟨w.heap.size + 1, 2, none⟩ = some (.int .i64 (R)) := keepc hr1 (by first | (simp; done) | (simp; omega) | omega | (simp [World.setCell]; done) | (simp [World.setCell]; omega)) (by first | (simp [go_sem, *]; done) | go_simp)
        have _cwr1a3 : wr1.cell? ⟨w.heap.size + 1, 3, none⟩ = some (.int .i64 (P')) := keepc hr1 (by first | (simp; done) | (simp; omega) | omega | (simp [World.setCell]; done) | (simp [World.setCell]; omega)) (by first | (simp [go_sem, *]; done) | go_simp)
        have _cwr1a4 : wr1.cell? ⟨w.heap.size + 1, 4, none⟩ = some (.int .i64 (Q')) := keepc hr1 (by first | (simp; done) | (simp; omega) | omega | (simp [World.setCell]; done) | (simp [World.setCell]; omega)) (by first | (simp [go_sem, *]; done) | go_simp)
        have _cwr1a5 : wr1.cell? ⟨w.heap.size + 1, 5, none⟩ = some (.int .i64 (R')) := keepc hr1 (by first | (simp; done) | (simp; omega) | omega | (simp [World.setCell]; done) | (simp [World.setCell]; omega)) (by first | (simp [go_sem, *]; done) | go_simp)
        have _fwr1a : ∀ o, wr1.frozen? ⟨w.heap.size + 1, o, none⟩ = false := fun o => keepf hr1 (by first | (simp; done) | (simp; omega) | omega | (simp [World.setCell]; done) | (simp [World.setCell]; omega)) (by simp [go_sem, *])
        have _cwr1b0 : wr1.cell? ⟨w.heap.size, 0, none⟩ = some (.int .i64 0) := keepc hr1 (by first | (simp; done) | (simp; omega) | omega | (simp [World.setCell]; done) | (simp [World.setCell]; omega)) (by first | (simp [go_sem, *]; done) | go_simp)
        have _cwr1b1 : wr1.cell? ⟨w.heap.size, 1, none⟩ = some (.int .i64 0) := keepc hr1 (by first | (simp; done) | (simp; omega) | omega | (simp [World.setCell]; done) | (simp [World.setCell]; omega)) (by first | (simp [go_sem, *]; done) | go_simp)
        have _cwr1b2 : wr1.cell? ⟨w.heap.size, 2, none⟩ = some (.int .i64 0) := keepc hr1 (by first | (simp; done) | (simp; omega) | omega | (simp [World.setCell]; done) | (simp [World.setCell]; omega)) (by first | (simp [go_sem, *]; done) | go_simp)
        have _cwr1b3 : wr1.cell? ⟨w.heap.size, 3, none⟩ = some (.int .i64 0) := keepc hr1 (by first | (simp; done) | (simp; omega) | omega | (simp [World.setCell]; done) | (simp [World.setCell]; omega)) (by first | (simp [go_sem, *]; done) | go_simp)
        have _cwr1b4 : wr1.cell? ⟨w.heap.size, 4, none⟩ = some (.int .i64 0) := keepc hr1 (by first | (simp; done) | (simp; omega) | omega | (simp [World.setCell]; done) | (simp [World.setCell]; omega)) (by first | (simp [go_sem, *]; done) | go_simp)
        have _cwr1b5 : wr1.cell? ⟨w.heap.size, 5, none⟩ = some (.int .i64 0) := keepc hr1 (by first | (simp; done) | (simp; omega) | omega | (simp [World.setCell]; done) | (simp [World.setCell]; omega)) (by first | (simp [go_sem, *]; done) | go_simp)
        have _fwr1b : ∀ o, wr1.frozen? ⟨w.heap.size, o, none⟩ = false := fun o => keepf hr1 (by first | (simp; done) | (simp; omega) | omega | (simp [World.setCell]; done) | (simp [World.setCell]; omega)) (by simp [go_sem, *])
        have k1 : Below w.heap.size w wr1 := by (repeat (first | with_reducible assumption | with_reducible exact Below.refl _ _ | with_reducible refine Below.drew ?_ | with_reducible refine below_drewN ?_ _ | with_reducible refine al ?_ _ | (with_reducible refine sc ?_ ?_; (focus (first | omega | (simp; done) | (simp; omega)))) | (with_reducible refine chain ?_ (by assumption))))
        go_wp2_with fail
        refine region_below 32 (by kernel_rfl) (by kernel_rfl) ?_
        simp only [List.take_succ_cons, List.take_zero, List.drop_succ_cons, List.drop_zero]
        repeat (first | (refine' InText.skip (by rfl) ?_; simp only [Act.put, List.setIfInBounds_toArray, List.set_cons_zero, List.set_cons_succ]) | (refine' InText.val (by rfl) (fun wr hr => ?_) ?_; rotate_left 1; (focus (obtain ⟨hrc, hrf⟩ := bcell hr; (go_simp <;> with_reducible rfl); done)); simp only [Act.put, List.setIfInBounds_toArray, List.set_cons_zero, List.set_cons_succ]))
        refine fun wr2 hr2 => ?_
        obtain ⟨hrc2, hrf2⟩ := bcell hr2
        have y4 : b < wr2.heap.size := size_lt (by first | (simp; done) | (simp; omega) | omega | (simp [World.setCell]; done) | (simp [World.setCell]; omega)) hr2
        have y5 : w.heap.size < wr2.heap.size := size_lt (by first | (simp; done) | (simp; omega) | omega | (simp [World.setCell]; done) | (simp [World.setCell]; omega)) hr2
        have y6 : w.heap.size + 1 < wr2.heap.size := size_lt (by first | (simp; done) | (simp; omega) | omega | (simp [World.setCell]; done) | (simp [World.setCell]; omega)) hr2
        have _cwr2a0 : wr2.cell? ⟨w.heap.size + 1, 0, none⟩ = some (.int .i64 (min P X)) := keepc hr2 (by first | (simp; done) | (simp; omega) | omega | (simp [World.setCell]; done) | (simp [World.setCell]; omega)) (by first | (simp [go_sem, *]; done) | go_simp)
        have _cwr2a1 : wr2.cell? ⟨w.heap.size + 1, 1, none⟩ = some (.int .i64 (min Q Y)) := keepc hr2 (by first | (simp; done) | (simp; omega) | omega | (simp [World.setCell]; done) | (simp [World.setCell]; omega)) (by first | (simp [go_sem, *]; done) | go_simp)
        have _cwr2a2 : wr2.cell? ⟨w.heap.size + 1, 2, none⟩ = some (.int .i64 (min R Z)) := keepc hr2 (by first | (simp; done) | (simp; omega) | omega | (simp [World.setCell]; done) | (simp [World.setCell]; omega)) (by first | (simp [go_sem, *]; done) | go_simp)
        have _cwr2a3 : wr2.cell? ⟨w.heap.size + 1, 3, none⟩ = some (.int .i64 (P')) := keepc hr2 (by first | (simp; done) | (simp; omega) | omega | (simp [World.setCell]; done) | (simp [World.setCell]; omega)) (by first | (simp [go_sem, *]; done) | go_simp)
        have _cwr2a4 : wr2.cell? ⟨w.heap.size + 1, 4, none⟩ = some (.int .i64 (Q')) := keepc hr2 (by first | (simp; done) | (simp; omega) | omega | (simp [World.setCell]; done) | (simp [World.setCell]; omega)) (by first | (simp [go_sem, *]; done) | go_simp)
        have _cwr2a5 : wr2.cell? ⟨w.heap.size + 1, 5, none⟩ = some (.int .i64 (R')) := keepc hr2 (by first | (simp; done) | (simp; omega) | omega | (simp [World.setCell]; done) | (simp [World.setCell]; omega)) (by first | (simp [go_sem, *]; done) | go_simp)
        have _fwr2a : ∀ o, wr2.frozen? ⟨w.heap.size + 1, o, none⟩ = false := fun o => keepf hr2 (by first | (simp; done) | (simp; omega) | omega | (simp [World.setCell]; done) | (simp [World.setCell]; omega)) (by simp [go_sem, *])
        have _cwr2b0 : wr2.cell? ⟨w.heap.size, 0, none⟩ = some (.int .i64 0) := keepc hr2 (by first | (simp; done) | (simp; omega) | omega | (simp [World.setCell]; done) | (simp [World.setCell]; omega)) (by first | (simp [go_sem, *]; done) | go_simp)
        have _cwr2b1 : wr2.cell? ⟨w.heap.size, 1, none⟩ = some (.int .i64 0) := keepc hr2 (by first | (simp; done) | (simp; omega) | omega | (simp [World.setCell]; done) | (simp [World.setCell]; omega)) (by first | (simp [go_sem, *]; done) | go_simp)
        have _cwr2b2 : wr2.cell? ⟨w.heap.size, 2, none⟩ = some (.int .i64 0) := keepc hr2 (by first | (simp; done) | (simp; omega) | omega | (simp [World.setCell]; done) | (simp [World.setCell]; omega)) (by first | (simp [go_sem, *]; done) | go_simp)
        have _cwr2b3 : wr2.cell? ⟨w.heap.size, 3, none⟩ = some (.int .i64 0) := keepc hr2 (by first | (simp; done) | (simp; omega) | omega | (simp [World.setCell]; done) | (simp [World.setCell]; omega)) (by first | (simp [go_sem, *]; done) | go_simp)
        have _cwr2b4 : wr2.cell? ⟨w.heap.size, 4, none⟩ = some (.int .i64 0) := keepc hr2 (by first | (simp; done) | (simp; omega) | omega | (simp [World.setCell]; done) | (simp [World.setCell]; omega)) (by first | (simp [go_sem, *]; done) | go_simp)
        have _cwr2b5 : wr2.cell? ⟨w.heap.size, 5, none⟩ = some (.int .i64 0) := keepc hr2 (by first | (simp; done) | (simp; omega) | omega | (simp [World.setCell]; done) | (simp [World.setCell]; omega)) (by first | (simp [go_sem, *]; done) | go_simp)
        have _fwr2b : ∀ o, wr2.frozen? ⟨w.heap.size, o, none⟩ = false := fun o => keepf hr2 (by first | (simp; done) | (simp; omega) | omega | (simp [World.setCell]; done) | (simp [World.setCell]; omega)) (by simp [go_sem, *])
        have k2 : Below w.heap.size w wr2 := by (repeat (first | with_reducible assumption | with_reducible exact Below.refl _ _ | with_reducible refine Below.drew ?_ | with_reducible refine below_drewN ?_ _ | with_reducible refine al ?_ _ | (with_reducible refine sc ?_ ?_; (focus (first | omega | (simp; done) | (simp; omega)))) | (with_reducible refine chain ?_ (by assumption))))
        clear hrc1 hrf1 hrc2 hrf2
        go_wp2_with fail
        go_roundw
        case rel =>
          first | (refine ⟨j + 1 + 1, by omega, by go_num, by (repeat (first | with_reducible assumption | with_reducible exact Below.refl _ _ | with_reducible refine Below.drew ?_ | with_reducible refine below_drewN ?_ _ | with_reducible refine al ?_ _ | (with_reducible refine sc ?_ ?_; (focus (first | omega | (simp; done) | (simp; omega)))) | (with_reducible refine chain ?_ (by assumption)))), ?_, fun o => by simp [go_sem, *], ⟨?_, by simp [go_sem, *], by simp [go_sem, *], by simp [go_sem, *], by simp [go_sem, *], by simp [go_sem, *], by simp [go_sem, *]⟩, fun o => by simp [go_sem, *]⟩) | ((repeat apply Exists.intro); refine And.intro ?_ rfl; refine ⟨j + 1 + 1, by omega, by go_num, by (repeat (first | with_reducible assumption | with_reducible exact Below.refl _ _ | with_reducible refine Below.drew ?_ | with_reducible refine below_drewN ?_ _ | with_reducible refine al ?_ _ | (with_reducible refine sc ?_ ?_; (focus (first | omega | (simp; done) | (simp; omega)))) | (with_reducible refine chain ?_ (by assumption)))), ?_, fun o => by simp [go_sem, *], ⟨?_, by simp [go_sem, *], by simp [go_sem, *], by simp [go_sem, *], by simp [go_sem, *], by simp [go_sem, *], by simp [go_sem, *]⟩, fun o => by simp [go_sem, *]⟩)
          · rw [HG.out]
            exact ⟨by simp only [World.setCell, Array.size_modify]; assumption, by simp [go_sem, *], by simp [go_sem, *], by simp [go_sem, *], by simp [go_sem, *], by simp [go_sem, *], by simp [go_sem, *]⟩
          · simp only [World.setCell, Array.size_modify]; assumption
        case measure => simp [intOf]; omega
    · obtain rfl : k = len := by omega
      obtain ⟨n, rfl⟩ : ∃ n, k = n + 1 := ⟨k - 1, by omega⟩
      go_wp2_with fail
      refine bodyPost_ret (v := boxV P Q R P' Q' R') (by simp [results, Try.results35, go_sem, *]; done) rfl ⟨?_, ?_⟩
      · have h2 := HH.out
        rw [G1.out] at h2
        first | rw [Nat.add_sub_cancel, h2] | rw [h2]
      · (repeat (first | with_reducible assumption | with_reducible exact Below.refl _ _ | with_reducible refine Below.drew ?_ | with_reducible refine below_drewN ?_ _ | with_reducible refine al ?_ _ | (with_reducible refine sc ?_ ?_; (focus (first | omega | (simp; done) | (simp; omega)))) | (with_reducible refine chain ?_ (by assumption))))
end Go.Proofs.Ytaiiilccamdnbaa
