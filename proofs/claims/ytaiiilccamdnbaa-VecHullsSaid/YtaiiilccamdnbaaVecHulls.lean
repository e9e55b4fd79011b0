/- For every row of boxes the law VecHulls of layer 2 answers true: the box round others is the document's, and has each. Conditions: none: every input. -/
import Derived.Test.YtaiiilccamdnbaaRows
import Derived.Test.YtaiiilccamdnbaaO03
import Derived.Test.YtaiiilccamdnbaaH03
import Derived.Test.YtaiiilccamdnbaaP02
import Derived.Test.YtaiiilccamdnbaaS01
import Derived.WalkKit
import Derived.ProofKit
import Derived.OpenShut
import Derived.Below
import Derived.Carry
namespace Go.Proofs.Ytaiiilccamdnbaa.vecHulls
open Go.Proofs.Ytaiiilccamdnbaa Go.ChangeShapes Go.WideShapes Go.ChangeAt Go.RowKit
set_option linter.unusedVariables false
attribute [local go_sem ↓] Go.wp_at_zero Go.wp_at_succ
/-- Behind both hulls. -/
def Rest (w : World) (wr : World) (k b1 : Nat) (a : V6) : Prop := Below w.heap.size w wr ∧ BoxV wr b1 0 a
set_option maxHeartbeats 8000000 in
theorem walk (a0 : Value) (w : World) (w0 : IsBoxes w a0) :
    Calls Try.prog 6 #[a0] w fun e w' => e = .returned (.bool true) ∧ Below w.heap.size w w' := by
  rcases w0 with ⟨s, cap, rfl⟩ | ⟨b, off, len, cap, f, rfl, h1, hcap, hmax, hf⟩
  · go_enter Try.func6, Try.ntmps6
    go_wp2_with fail
    (refine (v_hull_zero _ _ _).mono ?_; rintro e u1 ⟨rfl, hb1⟩)
    go_wp2_with fail
    refine region_below 3 (by kernel_rfl) (by kernel_rfl) ?_
    simp only [List.take_succ_cons, List.take_zero, List.drop_succ_cons, List.drop_zero]
    repeat (first | (refine' InText.skip (by rfl) ?_; simp only [Act.put, List.setIfInBounds_toArray, List.set_cons_zero, List.set_cons_succ]) | (refine' InText.val (by rfl) (fun wr hr => ?_) ?_; rotate_left 1; (focus (obtain ⟨hrc, hrf⟩ := bcell hr; (go_simp <;> with_reducible rfl); done)); simp only [Act.put, List.setIfInBounds_toArray, List.set_cons_zero, List.set_cons_succ]) | (refine' InText.call (by rfl) (fun wr hr => ?_) (fun wr hr => ?_) ?_; rotate_left 3; (focus ((go_simp <;> (first | with_reducible rfl | exact ⟨rfl, rfl⟩)); done)); (focus (first | with_reducible exact r2_hull_zero _ _ _)); simp only [Act.put, List.setIfInBounds_toArray, List.set_cons_zero, List.set_cons_succ]))
    refine fun wr2 hr2 => ?_
    obtain ⟨hrc2, hrf2⟩ := bcell hr2
    go_wp2_with fail
    refine wp_loop_rounds 1 ?_
    rw [rounds_succ]
    go_wp2_with fail
    (refine (l2_lives _).mono ?_; rintro e u5 ⟨rfl, hu5⟩)
    go_wp2
    go_ret
    exact ⟨rfl, by (repeat (first | with_reducible assumption | with_reducible exact Below.refl _ _ | with_reducible refine Below.drew ?_ | with_reducible refine below_drewN ?_ _ | with_reducible refine al ?_ _ | (with_reducible refine sc ?_ ?_; (focus (first | omega | (simp; done) | (simp; omega)))) | (with_reducible refine chain ?_ (by assumption))))⟩
  · have hF := Lib.hid hf
    have zb : b < w.heap.size := (hf 0 h1).lt
    clear hf
    by_cases h6 : len ≤ 6
    · have i0 : (len : Int) ≤ 6 := by omega
      go_enter Try.func6, Try.ntmps6
      go_wp2_with fail
      (refine (v_hull b off len cap f _ (by omega) (by omega) (by omega) hF.out).mono ?_; rintro e u1 ⟨rfl, hb1⟩)
      obtain ⟨_hcu1, _hfu1⟩ := bcell hb1
      have _zu10 : b < u1.heap.size := size_lt (by first | (simp; done) | (simp; omega) | omega | (simp [World.setCell]; done) | (simp [World.setCell]; omega)) hb1
      have R1 := Lib.hid (hF.out.keep hb1)
      have K1 : Below w.heap.size w u1 := by (repeat (first | with_reducible assumption | with_reducible exact Below.refl _ _ | with_reducible refine Below.drew ?_ | with_reducible refine below_drewN ?_ _ | with_reducible refine al ?_ _ | (with_reducible refine sc ?_ ?_; (focus (first | omega | (simp; done) | (simp; omega)))) | (with_reducible refine chain ?_ (by assumption))))
      clear hb1
      obtain ⟨⟨⟨A, B, C⟩, ⟨A', B', C'⟩⟩, ha⟩ : ∃ a, hullF f (len - 1) = a := ⟨_, rfl⟩
      have hle := hull_le f (len - 1)
      have rh := fun k => r2_hull b off len cap f k (by omega) (by omega) (by omega)
      rw [ha] at hle rh ⊢
      have HL := Lib.hid hle
      have RH := Lib.hid rh
      clear hle rh ha
      simp only [V6.val]
      go_wp2_with fail
      refine region_below 3 (by kernel_rfl) (by kernel_rfl) ?_
      simp only [List.take_succ_cons, List.take_zero, List.drop_succ_cons, List.drop_zero]
      repeat (first | (refine' InText.skip (by rfl) ?_; simp only [Act.put, List.setIfInBounds_toArray, List.set_cons_zero, List.set_cons_succ]) | (refine' InText.val (by rfl) (fun wr hr => ?_) ?_; rotate_left 1; (focus (obtain ⟨hrc, hrf⟩ := bcell hr; (go_simp <;> with_reducible rfl); done)); simp only [Act.put, List.setIfInBounds_toArray, List.set_cons_zero, List.set_cons_succ]) | (refine' InText.call (by rfl) (fun wr hr => ?_) (fun wr hr => ?_) ?_; rotate_left 3; (focus ((go_simp <;> (first | with_reducible rfl | exact ⟨rfl, rfl⟩)); done)); (focus (first | exact RH.out _ (R1.out.keep (chain (al (Below.refl _ _) _) hr)))); simp only [Act.put, List.setIfInBounds_toArray, List.set_cons_zero, List.set_cons_succ]))
      refine fun wr2 hr2 => ?_
      obtain ⟨hrc2, hrf2⟩ := bcell hr2
      have R2 := Lib.hid (R1.out.keep (chain (al (Below.refl _ _) _) hr2))
      have K2 : Below w.heap.size w wr2 := by (repeat (first | with_reducible assumption | with_reducible exact Below.refl _ _ | with_reducible refine Below.drew ?_ | with_reducible refine below_drewN ?_ _ | with_reducible refine al ?_ _ | (with_reducible refine sc ?_ ?_; (focus (first | omega | (simp; done) | (simp; omega)))) | (with_reducible refine chain ?_ (by assumption))))
      have z2 : u1.heap.size < wr2.heap.size := size_lt (by first | (simp; done) | (simp; omega) | omega | (simp [World.setCell]; done) | (simp [World.setCell]; omega)) hr2
      have B2 : BoxAt wr2 u1.heap.size 0 A B C A' B' C' := ⟨z2, by simp [go_sem, *], by simp [go_sem, *], by simp [go_sem, *], by simp [go_sem, *], by simp [go_sem, *], by simp [go_sem, *]⟩
      have HB := Lib.hid B2
      clear hr2 hrc2 hrf2 B2 RH R1 K1
      go_wp2_with fail
      go_loopw [4, 5] (fun i _ wr => ∃ k : Nat, k ≤ len ∧ i = .int .i64 k ∧ Below w.heap.size w wr ∧ BoxAt wr u1.heap.size 0 A B C A' B' C' ∧ RowBox wr b off len f) (fun i _ _ => len - (intOf i).toNat)
      case atStart => exact ⟨0, by omega, rfl, by (repeat (first | with_reducible assumption | with_reducible exact Below.refl _ _ | with_reducible refine Below.drew ?_ | with_reducible refine below_drewN ?_ _ | with_reducible refine al ?_ _ | (with_reducible refine sc ?_ ?_; (focus (first | omega | (simp; done) | (simp; omega)))) | (with_reducible refine chain ?_ (by assumption)))), HB.out, R2.out⟩
      case round =>
        obtain ⟨k, hk, rfl, kw, H1, hR⟩ := hrel
        obtain ⟨z1, d0, d1, d2, d3, d4, d5⟩ := H1
        by_cases hlt : k < len
        · obtain ⟨⟨l1, l2, l3⟩, ⟨g1, g2, g3⟩⟩ := HL.out k (by omega)
          have hx := hR k hlt
          have HR := Lib.hid hR
          clear hR
          obtain ⟨⟨⟨X, Y, Z⟩, ⟨X', Y', Z'⟩⟩, hy⟩ : ∃ a, f k = a := ⟨_, rfl⟩
          rw [hy] at hx l1 l2 l3 g1 g2 g3
          obtain ⟨z3, e0, e1, e2, e3, e4, e5⟩ := hx
          have i1 : (0 : Int) ≤ (k : Int) := by omega
          have i2 : (k : Int) < ((len : Nat) : Int) := by omega
          have q1 : decide (X < A) = false := by rw [decide_eq_false_iff_not]; simp only [] at l1; omega
          have q2 : decide (Y < B) = false := by rw [decide_eq_false_iff_not]; simp only [] at l2; omega
          have q3 : decide (Z < C) = false := by rw [decide_eq_false_iff_not]; simp only [] at l3; omega
          have q4 : decide (A' < X') = false := by rw [decide_eq_false_iff_not]; simp only [] at g1; omega
          have q5 : decide (B' < Y') = false := by rw [decide_eq_false_iff_not]; simp only [] at g2; omega
          have q6 : decide (C' < Z') = false := by rw [decide_eq_false_iff_not]; simp only [] at g3; omega
          clear hy l1 l2 l3 g1 g2 g3
          have a0 := ax0
          have a1 := ax1
          have a2 := ax2
          go_wp2_with fail
          refine wp_loop_rounds 4 ?_
          rw [rounds_succ]
          go_wp2_with fail
          refine region_below 25 (by kernel_rfl) (by kernel_rfl) ?_
          simp only [List.take_succ_cons, List.take_zero, List.drop_succ_cons, List.drop_zero]
          repeat (first | (refine' InText.skip (by rfl) ?_; simp only [Act.put, List.setIfInBounds_toArray, List.set_cons_zero, List.set_cons_succ]) | (refine' InText.val (by rfl) (fun wr hr => ?_) ?_; rotate_left 1; (focus (obtain ⟨hrc, hrf⟩ := bcell hr; (go_simp <;> with_reducible rfl); done)); simp only [Act.put, List.setIfInBounds_toArray, List.set_cons_zero, List.set_cons_succ]) | (refine' InText.call (by rfl) (fun wr hr => ?_) (fun wr hr => ?_) ?_; rotate_left 3; (focus ((go_simp <;> (first | with_reducible rfl | exact ⟨rfl, rfl⟩)); done)); (focus (first | with_reducible exact c_axis _ _ _ _ _ | with_reducible exact r2_axis _ _ _ _ _)); simp only [Act.put, List.setIfInBounds_toArray, List.set_cons_zero, List.set_cons_succ]))
          refine fun wr0 hr0 => ?_
          obtain ⟨hrc0, hrf0⟩ := bcell hr0
          obtain ⟨_hcwr0, _hfwr0⟩ := bcell hr0
          have _zwr00 : b < wr0.heap.size := size_lt (by first | (simp; done) | (simp; omega) | omega | (simp [World.setCell]; done) | (simp [World.setCell]; omega)) hr0
          have _zwr01 : u1.heap.size < wr0.heap.size := size_lt (by first | (simp; done) | (simp; omega) | omega | (simp [World.setCell]; done) | (simp [World.setCell]; omega)) hr0
          have kr0 : Below w.heap.size w wr0 := by (repeat (first | with_reducible assumption | with_reducible exact Below.refl _ _ | with_reducible refine Below.drew ?_ | with_reducible refine below_drewN ?_ _ | with_reducible refine al ?_ _ | (with_reducible refine sc ?_ ?_; (focus (first | omega | (simp; done) | (simp; omega)))) | (with_reducible refine chain ?_ (by assumption))))
          go_wp2_with fail
          rw [rounds_succ]
          go_wp2_with fail
          refine region_below 25 (by kernel_rfl) (by kernel_rfl) ?_
          simp only [List.take_succ_cons, List.take_zero, List.drop_succ_cons, List.drop_zero]
          repeat (first | (refine' InText.skip (by rfl) ?_; simp only [Act.put, List.setIfInBounds_toArray, List.set_cons_zero, List.set_cons_succ]) | (refine' InText.val (by rfl) (fun wr hr => ?_) ?_; rotate_left 1; (focus (obtain ⟨hrc, hrf⟩ := bcell hr; (go_simp <;> with_reducible rfl); done)); simp only [Act.put, List.setIfInBounds_toArray, List.set_cons_zero, List.set_cons_succ]) | (refine' InText.call (by rfl) (fun wr hr => ?_) (fun wr hr => ?_) ?_; rotate_left 3; (focus ((go_simp <;> (first | with_reducible rfl | exact ⟨rfl, rfl⟩)); done)); (focus (first | with_reducible exact c_axis _ _ _ _ _ | with_reducible exact r2_axis _ _ _ _ _)); simp only [Act.put, List.setIfInBounds_toArray, List.set_cons_zero, List.set_cons_succ]))
          refine fun wr1 hr1 => ?_
          obtain ⟨hrc1, hrf1⟩ := bcell hr1
          obtain ⟨_hcwr1, _hfwr1⟩ := bcell hr1
          have _zwr10 : b < wr1.heap.size := size_lt (by first | (simp; done) | (simp; omega) | omega | (simp [World.setCell]; done) | (simp [World.setCell]; omega)) hr1
          have _zwr11 : u1.heap.size < wr1.heap.size := size_lt (by first | (simp; done) | (simp; omega) | omega | (simp [World.setCell]; done) | (simp [World.setCell]; omega)) hr1
          have kr1 : Below w.heap.size w wr1 := by (repeat (first | with_reducible assumption | with_reducible exact Below.refl _ _ | with_reducible refine Below.drew ?_ | with_reducible refine below_drewN ?_ _ | with_reducible refine al ?_ _ | (with_reducible refine sc ?_ ?_; (focus (first | omega | (simp; done) | (simp; omega)))) | (with_reducible refine chain ?_ (by assumption))))
          go_wp2_with fail
          rw [rounds_succ]
          go_wp2_with fail
          refine region_below 25 (by kernel_rfl) (by kernel_rfl) ?_
          simp only [List.take_succ_cons, List.take_zero, List.drop_succ_cons, List.drop_zero]
          repeat (first | (refine' InText.skip (by rfl) ?_; simp only [Act.put, List.setIfInBounds_toArray, List.set_cons_zero, List.set_cons_succ]) | (refine' InText.val (by rfl) (fun wr hr => ?_) ?_; rotate_left 1; (focus (obtain ⟨hrc, hrf⟩ := bcell hr; (go_simp <;> with_reducible rfl); done)); simp only [Act.put, List.setIfInBounds_toArray, List.set_cons_zero, List.set_cons_succ]) | (refine' InText.call (by rfl) (fun wr hr => ?_) (fun wr hr => ?_) ?_; rotate_left 3; (focus ((go_simp <;> (first | with_reducible rfl | exact ⟨rfl, rfl⟩)); done)); (focus (first | with_reducible exact c_axis _ _ _ _ _ | with_reducible exact r2_axis _ _ _ _ _)); simp only [Act.put, List.setIfInBounds_toArray, List.set_cons_zero, List.set_cons_succ]))
          refine fun wr2 hr2 => ?_
          obtain ⟨hrc2, hrf2⟩ := bcell hr2
          obtain ⟨_hcwr2, _hfwr2⟩ := bcell hr2
          have _zwr20 : b < wr2.heap.size := size_lt (by first | (simp; done) | (simp; omega) | omega | (simp [World.setCell]; done) | (simp [World.setCell]; omega)) hr2
          have _zwr21 : u1.heap.size < wr2.heap.size := size_lt (by first | (simp; done) | (simp; omega) | omega | (simp [World.setCell]; done) | (simp [World.setCell]; omega)) hr2
          have kr2 : Below w.heap.size w wr2 := by (repeat (first | with_reducible assumption | with_reducible exact Below.refl _ _ | with_reducible refine Below.drew ?_ | with_reducible refine below_drewN ?_ _ | with_reducible refine al ?_ _ | (with_reducible refine sc ?_ ?_; (focus (first | omega | (simp; done) | (simp; omega)))) | (with_reducible refine chain ?_ (by assumption))))
          go_wp2_with fail
          rw [rounds_succ]
          go_wp2_with fail
          go_roundw
          case rel =>
            have kk := chain (chain hr0 hr1) hr2
            first | exact ⟨k + 1, by omega, by go_num, by (repeat (first | with_reducible assumption | with_reducible exact Below.refl _ _ | with_reducible refine Below.drew ?_ | with_reducible refine below_drewN ?_ _ | with_reducible refine al ?_ _ | (with_reducible refine sc ?_ ?_; (focus (first | omega | (simp; done) | (simp; omega)))) | (with_reducible refine chain ?_ (by assumption)))), ⟨by assumption, by simp [go_sem, *], by simp [go_sem, *], by simp [go_sem, *], by simp [go_sem, *], by simp [go_sem, *], by simp [go_sem, *]⟩, HR.out.keep kk⟩ | ((repeat apply Exists.intro); refine And.intro ?_ rfl; exact ⟨k + 1, by omega, by go_num, by (repeat (first | with_reducible assumption | with_reducible exact Below.refl _ _ | with_reducible refine Below.drew ?_ | with_reducible refine below_drewN ?_ _ | with_reducible refine al ?_ _ | (with_reducible refine sc ?_ ?_; (focus (first | omega | (simp; done) | (simp; omega)))) | (with_reducible refine chain ?_ (by assumption)))), ⟨by assumption, by simp [go_sem, *], by simp [go_sem, *], by simp [go_sem, *], by simp [go_sem, *], by simp [go_sem, *], by simp [go_sem, *]⟩, HR.out.keep kk⟩)
          case measure => simp [intOf]; omega
        · obtain rfl : k = len := by omega
          go_wp2_with fail
          (refine (l2_lives _).mono ?_; rintro e u5 ⟨rfl, hu5⟩)
          go_wp2
          go_ret
          exact ⟨rfl, by (repeat (first | with_reducible assumption | with_reducible exact Below.refl _ _ | with_reducible refine Below.drew ?_ | with_reducible refine below_drewN ?_ _ | with_reducible refine al ?_ _ | (with_reducible refine sc ?_ ?_; (focus (first | omega | (simp; done) | (simp; omega)))) | (with_reducible refine chain ?_ (by assumption))))⟩
    · have i0 : ¬ (len : Int) ≤ 6 := by omega
      have i9 : (6 : Int) ≤ cap := by omega
      have i8 : 6 ≤ cap := by omega
      have hF : Hid (RowBox w b off 6 f) := Lib.hid (fun i hi => hF.out i (by omega))
      go_enter Try.func6, Try.ntmps6
      go_wp2_with fail
      (refine (v_hull b off 6 cap f _ (by omega) (by omega) (by omega) hF.out).mono ?_; rintro e u1 ⟨rfl, hb1⟩)
      obtain ⟨_hcu1, _hfu1⟩ := bcell hb1
      have _zu10 : b < u1.heap.size := size_lt (by first | (simp; done) | (simp; omega) | omega | (simp [World.setCell]; done) | (simp [World.setCell]; omega)) hb1
      have R1 := Lib.hid (hF.out.keep hb1)
      have K1 : Below w.heap.size w u1 := by (repeat (first | with_reducible assumption | with_reducible exact Below.refl _ _ | with_reducible refine Below.drew ?_ | with_reducible refine below_drewN ?_ _ | with_reducible refine al ?_ _ | (with_reducible refine sc ?_ ?_; (focus (first | omega | (simp; done) | (simp; omega)))) | (with_reducible refine chain ?_ (by assumption))))
      clear hb1
      obtain ⟨⟨⟨A, B, C⟩, ⟨A', B', C'⟩⟩, ha⟩ : ∃ a, hullF f (6 - 1) = a := ⟨_, rfl⟩
      have hle := hull_le f (6 - 1)
      have rh := fun k => r2_hull b off 6 cap f k (by omega) (by omega) (by omega)
      rw [ha] at hle rh ⊢
      have HL := Lib.hid hle
      have RH := Lib.hid rh
      clear hle rh ha
      simp only [V6.val]
      go_wp2_with fail
      refine region_below 3 (by kernel_rfl) (by kernel_rfl) ?_
      simp only [List.take_succ_cons, List.take_zero, List.drop_succ_cons, List.drop_zero]
      repeat (first | (refine' InText.skip (by rfl) ?_; simp only [Act.put, List.setIfInBounds_toArray, List.set_cons_zero, List.set_cons_succ]) | (refine' InText.val (by rfl) (fun wr hr => ?_) ?_; rotate_left 1; (focus (obtain ⟨hrc, hrf⟩ := bcell hr; (go_simp <;> with_reducible rfl); done)); simp only [Act.put, List.setIfInBounds_toArray, List.set_cons_zero, List.set_cons_succ]) | (refine' InText.call (by rfl) (fun wr hr => ?_) (fun wr hr => ?_) ?_; rotate_left 3; (focus ((go_simp <;> (first | with_reducible rfl | exact ⟨rfl, rfl⟩)); done)); (focus (first | exact RH.out _ (R1.out.keep (chain (al (Below.refl _ _) _) hr)))); simp only [Act.put, List.setIfInBounds_toArray, List.set_cons_zero, List.set_cons_succ]))
      refine fun wr2 hr2 => ?_
      obtain ⟨hrc2, hrf2⟩ := bcell hr2
      have R2 := Lib.hid (R1.out.keep (chain (al (Below.refl _ _) _) hr2))
      have K2 : Below w.heap.size w wr2 := by (repeat (first | with_reducible assumption | with_reducible exact Below.refl _ _ | with_reducible refine Below.drew ?_ | with_reducible refine below_drewN ?_ _ | with_reducible refine al ?_ _ | (with_reducible refine sc ?_ ?_; (focus (first | omega | (simp; done) | (simp; omega)))) | (with_reducible refine chain ?_ (by assumption))))
      have z2 : u1.heap.size < wr2.heap.size := size_lt (by first | (simp; done) | (simp; omega) | omega | (simp [World.setCell]; done) | (simp [World.setCell]; omega)) hr2
      have B2 : BoxAt wr2 u1.heap.size 0 A B C A' B' C' := ⟨z2, by simp [go_sem, *], by simp [go_sem, *], by simp [go_sem, *], by simp [go_sem, *], by simp [go_sem, *], by simp [go_sem, *]⟩
      have HB := Lib.hid B2
      clear hr2 hrc2 hrf2 B2 RH R1 K1
      go_wp2_with fail
      go_loopw [4, 5] (fun i _ wr => ∃ k : Nat, k ≤ 6 ∧ i = .int .i64 k ∧ Below w.heap.size w wr ∧ BoxAt wr u1.heap.size 0 A B C A' B' C' ∧ RowBox wr b off 6 f) (fun i _ _ => 6 - (intOf i).toNat)
      case atStart => exact ⟨0, by omega, rfl, by (repeat (first | with_reducible assumption | with_reducible exact Below.refl _ _ | with_reducible refine Below.drew ?_ | with_reducible refine below_drewN ?_ _ | with_reducible refine al ?_ _ | (with_reducible refine sc ?_ ?_; (focus (first | omega | (simp; done) | (simp; omega)))) | (with_reducible refine chain ?_ (by assumption)))), HB.out, R2.out⟩
      case round =>
        obtain ⟨k, hk, rfl, kw, H1, hR⟩ := hrel
        obtain ⟨z1, d0, d1, d2, d3, d4, d5⟩ := H1
        by_cases hlt : k < 6
        · obtain ⟨⟨l1, l2, l3⟩, ⟨g1, g2, g3⟩⟩ := HL.out k (by omega)
          have hx := hR k hlt
          have HR := Lib.hid hR
          clear hR
          obtain ⟨⟨⟨X, Y, Z⟩, ⟨X', Y', Z'⟩⟩, hy⟩ : ∃ a, f k = a := ⟨_, rfl⟩
          rw [hy] at hx l1 l2 l3 g1 g2 g3
          obtain ⟨z3, e0, e1, e2, e3, e4, e5⟩ := hx
          have i1 : (0 : Int) ≤ (k : Int) := by omega
          have i2 : (k : Int) < ((6 : Nat) : Int) := by omega
          have q1 : decide (X < A) = false := by rw [decide_eq_false_iff_not]; simp only [] at l1; omega
          have q2 : decide (Y < B) = false := by rw [decide_eq_false_iff_not]; simp only [] at l2; omega
          have q3 : decide (Z < C) = false := by rw [decide_eq_false_iff_not]; simp only [] at l3; omega
          have q4 : decide (A' < X') = false := by rw [decide_eq_false_iff_not]; simp only [] at g1; omega
          have q5 : decide (B' < Y') = false := by rw [decide_eq_false_iff_not]; simp only [] at g2; omega
          have q6 : decide (C' < Z') = false := by rw [decide_eq_false_iff_not]; simp only [] at g3; omega
          clear hy l1 l2 l3 g1 g2 g3
          have a0 := ax0
          have a1 := ax1
          have a2 := ax2
          go_wp2_with fail
          refine wp_loop_rounds 4 ?_
          rw [rounds_succ]
          go_wp2_with fail
          refine region_below 25 (by kernel_rfl) (by kernel_rfl) ?_
          simp only [List.take_succ_cons, List.take_zero, List.drop_succ_cons, List.drop_zero]
          repeat (first | (refine' InText.skip (by rfl) ?_; simp only [Act.put, List.setIfInBounds_toArray, List.set_cons_zero, List.set_cons_succ]) | (refine' InText.val (by rfl) (fun wr hr => ?_) ?_; rotate_left 1; (focus (obtain ⟨hrc, hrf⟩ := bcell hr; (go_simp <;> with_reducible rfl); done)); simp only [Act.put, List.setIfInBounds_toArray, List.set_cons_zero, List.set_cons_succ]) | (refine' InText.call (by rfl) (fun wr hr => ?_) (fun wr hr => ?_) ?_; rotate_left 3; (focus ((go_simp <;> (first | with_reducible rfl | exact ⟨rfl, rfl⟩)); done)); (focus (first | with_reducible exact c_axis _ _ _ _ _ | with_reducible exact r2_axis _ _ _ _ _)); simp only [Act.put, List.setIfInBounds_toArray, List.set_cons_zero, List.set_cons_succ]))
          refine fun wr0 hr0 => ?_
          obtain ⟨hrc0, hrf0⟩ := bcell hr0
          obtain ⟨_hcwr0, _hfwr0⟩ := bcell hr0
          have _zwr00 : b < wr0.heap.size := size_lt (by first | (simp; done) | (simp; omega) | omega | (simp [World.setCell]; done) | (simp [World.setCell]; omega)) hr0
          have _zwr01 : u1.heap.size < wr0.heap.size := size_lt (by first | (simp; done) | (simp; omega) | omega | (simp [World.setCell]; done) | (simp [World.setCell]; omega)) hr0
          have kr0 : Below w.heap.size w wr0 := by (repeat (first | with_reducible assumption | with_reducible exact Below.refl _ _ | with_reducible refine Below.drew ?_ | with_reducible refine below_drewN ?_ _ | with_reducible refine al ?_ _ | (with_reducible refine sc ?_ ?_; (focus (first | omega | (simp; done) | (simp; omega)))) | (with_reducible refine chain ?_ (by assumption))))
          go_wp2_with fail
          rw [rounds_succ]
          go_wp2_with fail
          refine region_below 25 (by kernel_rfl) (by kernel_rfl) ?_
          simp only [List.take_succ_cons, List.take_zero, List.drop_succ_cons, List.drop_zero]
          repeat (first | (refine' InText.skip (by rfl) ?_; simp only [Act.put, List.setIfInBounds_toArray, List.set_cons_zero, List.set_cons_succ]) | (refine' InText.val (by rfl) (fun wr hr => ?_) ?_; rotate_left 1; (focus (obtain ⟨hrc, hrf⟩ := bcell hr; (go_simp <;> with_reducible rfl); done)); simp only [Act.put, List.setIfInBounds_toArray, List.set_cons_zero, List.set_cons_succ]) | (refine' InText.call (by rfl) (fun wr hr => ?_) (fun wr hr => ?_) ?_; rotate_left 3; (focus ((go_simp <;> (first | with_reducible rfl | exact ⟨rfl, rfl⟩)); done)); (focus (first | with_reducible exact c_axis _ _ _ _ _ | with_reducible exact r2_axis _ _ _ _ _)); simp only [Act.put, List.setIfInBounds_toArray, List.set_cons_zero, List.set_cons_succ]))
          refine fun wr1 hr1 => ?_
          obtain ⟨hrc1, hrf1⟩ := bcell hr1
          obtain ⟨_hcwr1, _hfwr1⟩ := bcell hr1
          have _zwr10 : b < wr1.heap.size := size_lt (by first | (simp; done) | (simp; omega) | omega | (simp [World.setCell]; done) | (simp [World.setCell]; omega)) hr1
          have _zwr11 : u1.heap.size < wr1.heap.size := size_lt (by first | (simp; done) | (simp; omega) | omega | (simp [World.setCell]; done) | (simp [World.setCell]; omega)) hr1
          have kr1 : Below w.heap.size w wr1 := by (repeat (first | with_reducible assumption | with_reducible exact Below.refl _ _ | with_reducible refine Below.drew ?_ | with_reducible refine below_drewN ?_ _ | with_reducible refine al ?_ _ | (with_reducible refine sc ?_ ?_; (focus (first | omega | (simp; done) | (simp; omega)))) | (with_reducible refine chain ?_ (by assumption))))
          go_wp2_with fail
          rw [rounds_succ]
          go_wp2_with fail
          refine region_below 25 (by kernel_rfl) (by kernel_rfl) ?_
          simp only [List.take_succ_cons, List.take_zero, List.drop_succ_cons, List.drop_zero]
          repeat (first | (refine' InText.skip (by rfl) ?_; simp only [Act.put, List.setIfInBounds_toArray, List.set_cons_zero, List.set_cons_succ]) | (refine' InText.val (by rfl) (fun wr hr => ?_) ?_; rotate_left 1; (focus (obtain ⟨hrc, hrf⟩ := bcell hr; (go_simp <;> with_reducible rfl); done)); simp only [Act.put, List.setIfInBounds_toArray, List.set_cons_zero, List.set_cons_succ]) | (refine' InText.call (by rfl) (fun wr hr => ?_) (fun wr hr => ?_) ?_; rotate_left 3; (focus ((go_simp <;> (first | with_reducible rfl | exact ⟨rfl, rfl⟩)); done)); (focus (first | with_reducible exact c_axis _ _ _ _ _ | with_reducible exact r2_axis _ _ _ _ _)); simp only [Act.put, List.setIfInBounds_toArray, List.set_cons_zero, List.set_cons_succ]))
          refine fun wr2 hr2 => ?_
          obtain ⟨hrc2, hrf2⟩ := bcell hr2
          obtain ⟨_hcwr2, _hfwr2⟩ := bcell hr2
          have _zwr20 : b < wr2.heap.size := size_lt (by first | (simp; done) | (simp; omega) | omega | (simp [World.setCell]; done) | (simp [World.setCell]; omega)) hr2
          have _zwr21 : u1.heap.size < wr2.heap.size := size_lt (by first | (simp; done) | (simp; omega) | omega | (simp [World.setCell]; done) | (simp [World.setCell]; omega)) hr2
          have kr2 : Below w.heap.size w wr2 := by (repeat (first | with_reducible assumption | with_reducible exact Below.refl _ _ | with_reducible refine Below.drew ?_ | with_reducible refine below_drewN ?_ _ | with_reducible refine al ?_ _ | (with_reducible refine sc ?_ ?_; (focus (first | omega | (simp; done) | (simp; omega)))) | (with_reducible refine chain ?_ (by assumption))))
          go_wp2_with fail
          rw [rounds_succ]
          go_wp2_with fail
          go_roundw
          case rel =>
            have kk := chain (chain hr0 hr1) hr2
            first | exact ⟨k + 1, by omega, by go_num, by (repeat (first | with_reducible assumption | with_reducible exact Below.refl _ _ | with_reducible refine Below.drew ?_ | with_reducible refine below_drewN ?_ _ | with_reducible refine al ?_ _ | (with_reducible refine sc ?_ ?_; (focus (first | omega | (simp; done) | (simp; omega)))) | (with_reducible refine chain ?_ (by assumption)))), ⟨by assumption, by simp [go_sem, *], by simp [go_sem, *], by simp [go_sem, *], by simp [go_sem, *], by simp [go_sem, *], by simp [go_sem, *]⟩, HR.out.keep kk⟩ | ((repeat apply Exists.intro); refine And.intro ?_ rfl; exact ⟨k + 1, by omega, by go_num, by (repeat (first | with_reducible assumption | with_reducible exact Below.refl _ _ | with_reducible refine Below.drew ?_ | with_reducible refine below_drewN ?_ _ | with_reducible refine al ?_ _ | (with_reducible refine sc ?_ ?_; (focus (first | omega | (simp; done) | (simp; omega)))) | (with_reducible refine chain ?_ (by assumption)))), ⟨by assumption, by simp [go_sem, *], by simp [go_sem, *], by simp [go_sem, *], by simp [go_sem, *], by simp [go_sem, *], by simp [go_sem, *]⟩, HR.out.keep kk⟩)
          case measure => simp [intOf]; omega
        · obtain rfl : k = 6 := by omega
          go_wp2_with fail
          (refine (l2_lives _).mono ?_; rintro e u5 ⟨rfl, hu5⟩)
          go_wp2
          go_ret
          exact ⟨rfl, by (repeat (first | with_reducible assumption | with_reducible exact Below.refl _ _ | with_reducible refine Below.drew ?_ | with_reducible refine below_drewN ?_ _ | with_reducible refine al ?_ _ | (with_reducible refine sc ?_ ?_; (focus (first | omega | (simp; done) | (simp; omega)))) | (with_reducible refine chain ?_ (by assumption))))⟩
theorem own : ownKnob Try.prog.godebug = none := by kernel_rfl
set_option maxRecDepth 100000 in
theorem lifted (os : Os) (started : os.Started) (H : Type) (enc : TypeId × Value → H) :
    ReturnsInHanded {} Try.checked os 6 .any (Rows.vecHullsSpec.pre6 enc Try.prog Try.f6 Rows.vecHullsRow.domain false) (Rows.vecHullsSpec.post enc Try.prog Try.f6 false true false false) := by
  refine returnsInHanded_of_change (C := Try.checked) own started (by kernel_rfl) Try.func6
    (ChangeSpec.witness6 (enc := enc) (C := Try.checked) false ⟨#[], #[.slice none 0 0], []⟩ 8 (by kernel_rfl) (by kernel_rfl) (by kernel_rfl) (by kernel_rfl)) ?_
  intro W base args ds gs before hval0 hW hcnd _
  have hval : ∀ (j : Nat) t v, Try.f6.params[j]? = some t → args[j]? = some v → Value.okWide Try.prog W .any base t v := hval0
  have hW' := hW
  obtain ⟨p, q, hA0, hV, rfl, hfz, hnd⟩ := hW
  have hA : DataW.TrodAll enc Try.prog W 0 (fun _ => true) true Try.f6.params.toList args.toList ds p := hA0
  rw [Try.params6] at hA hval
  obtain ⟨v0, vs0, d0, ds0, p0, q0, hargs, rfl, rfl, h0, r0⟩ := trodAll_cons hA
  obtain ⟨rfl, rfl, rfl⟩ := trodAll_nil r0
  obtain rfl : args = #[v0] := by cases args; simp_all
  obtain ⟨rfl, rfl⟩ := trodVars_none hV
  simp only [List.append_nil] at hW'
  have hlt : ∀ x ∈ p0 ++ ([]), x.block < W.heap.size := fun x hx => hW'.lt x (by simpa using hx)
  have hlt0 : ∀ x ∈ p0, x.block < W.heap.size := fun x hx => hlt x (List.mem_append.2 (.inl hx))
  have k0 := h0
  have w0 := open_boxes (hval 0 42 v0 rfl rfl) h0 hlt0
  clear hA0 hval0
  refine (walk v0 W w0).mono fun e W' ⟨he, hg⟩ => ?_
  subst he
  exact ⟨_, rfl, _, _, _, [], _, [], hW', (trodAll_cons_mk (shut_bool Try.underlying4 _) trodAll_mk0), (trodAll_cons_mk (Below.trod laidOut (by kernel_rfl) (of_decide_eq_true (by kernel_rfl)) k0 hg hlt0) trodAll_mk0), rfl, hg.frame _, fun h => by cases h⟩
theorem over : Rows.vecHullsRow.holds Try.pinned (OpenSpec.ofChange Rows.vecHullsSpec) :=
  OpenClaim.holds_of_wide 6 Try.f6 rfl rfl rfl rfl rfl rfl rfl ⟨rfl, rfl, rfl, rfl, rfl⟩ rfl rfl rfl rfl rfl (by kernel_rfl) Try.func6 (by kernel_rfl)
    (of_decide_eq_true (by kernel_rfl)) (by unfold Func.isWrapper; first | (rw [if_pos (by decide +kernel)]; kernel_rfl) | (rw [if_neg (by decide +kernel)]; exact ⟨rfl, rfl⟩))
    (fun os started H enc _ => lifted os started H enc)
theorem proved : Rows.VecHullsSaid := over
#print axioms proved
end Go.Proofs.Ytaiiilccamdnbaa.vecHulls
