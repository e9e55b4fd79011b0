/- Contracts of layer 2: the box round others. -/
import Derived.Test.YtaiiilccamdnbaaP02
import Derived.Test.YtaiiilccamdnbaaO02
import Derived.Deep.Slices
set_option linter.unusedVariables false
namespace Go.Proofs.Ytaiiilccamdnbaa
open Go.ChangeShapes Go.WideShapes Go.ChangeAt Go.RowKit
attribute [local go_sem ↓] Go.wp_at_zero Go.wp_at_succ
/-- A box lies at o. -/
structure BoxAt (w : World) (b o : Nat) (x y z x' y' z' : Int) : Prop where
  lt : b < w.heap.size
  c0 : w.cell? ⟨b, o, none⟩ = some (.int .i64 x)
  c1 : w.cell? ⟨b, o + 1, none⟩ = some (.int .i64 y)
  c2 : w.cell? ⟨b, o + 2, none⟩ = some (.int .i64 z)
  c3 : w.cell? ⟨b, o + 3, none⟩ = some (.int .i64 x')
  c4 : w.cell? ⟨b, o + 4, none⟩ = some (.int .i64 y')
  c5 : w.cell? ⟨b, o + 5, none⟩ = some (.int .i64 z')
theorem BoxAt.keep {w W : World} {b o : Nat} {x y z x' y' z' : Int} (h : BoxAt w b o x y z x' y' z') (hb : Below w.heap.size w W) : BoxAt W b o x y z x' y' z' :=
  ⟨Nat.lt_of_lt_of_le h.lt hb.size, keepc hb h.lt h.c0, keepc hb h.lt h.c1, keepc hb h.lt h.c2, keepc hb h.lt h.c3, keepc hb h.lt h.c4, keepc hb h.lt h.c5⟩
abbrev BoxV (w : World) (b o : Nat) (a : V6) : Prop := BoxAt w b o a.lo.x a.lo.y a.lo.z a.hi.x a.hi.y a.hi.z
def RowBox (w : World) (b off len : Nat) (f : Nat → V6) : Prop := ∀ i, i < len → BoxV w b (off + i * 6) (f i)
theorem RowBox.keep {w W : World} {b off len : Nat} {f : Nat → V6} (h : RowBox w b off len f) (hb : Below w.heap.size w W) : RowBox W b off len f := fun i hi => (h i hi).keep hb
def merge (a c : V6) : V6 := ⟨⟨min a.lo.x c.lo.x, min a.lo.y c.lo.y, min a.lo.z c.lo.z⟩, ⟨max a.hi.x c.hi.x, max a.hi.y c.hi.y, max a.hi.z c.hi.z⟩⟩
def hullF (f : Nat → V6) : Nat → V6
  | 0 => f 0
  | k + 1 => merge (hullF f k) (f (k + 1))
theorem v_hull_zero (s : Option Addr) (cap : Nat) (w : World) : Calls Try.prog 34 #[.slice s 0 cap] w fun e w' => e = .returned (boxV 0 0 0 0 0 0) ∧ Below w.heap.size w w' := by
  go_enter Try.func34, Try.ntmps34
  go_wp2
  refine bodyPost_ret (v := boxV 0 0 0 0 0 0) (by simp [results, Try.results34, go_sem, *]; done) rfl ⟨rfl, ?_⟩
  (repeat (first | with_reducible assumption | with_reducible exact Below.refl _ _ | with_reducible refine Below.drew ?_ | with_reducible refine below_drewN ?_ _ | with_reducible refine al ?_ _ | (with_reducible refine sc ?_ ?_; (focus (first | omega | (simp; done) | (simp; omega)))) | (with_reducible refine chain ?_ (by assumption))))
theorem r2_hull_zero (s : Option Addr) (cap : Nat) (w : World) : Calls Try.prog 35 #[.slice s 0 cap] w fun e w' => e = .returned (boxV 0 0 0 0 0 0) ∧ Below w.heap.size w w' := by
  go_enter Try.func35, Try.ntmps35
  go_wp2
  refine wp_loop_rounds 1 ?_
  rw [rounds_succ]
  go_wp2
  refine bodyPost_ret (v := boxV 0 0 0 0 0 0) (by simp [results, Try.results35, go_sem, *]; done) rfl ⟨rfl, ?_⟩
  (repeat (first | with_reducible assumption | with_reducible exact Below.refl _ _ | with_reducible refine Below.drew ?_ | with_reducible refine below_drewN ?_ _ | with_reducible refine al ?_ _ | (with_reducible refine sc ?_ ?_; (focus (first | omega | (simp; done) | (simp; omega)))) | (with_reducible refine chain ?_ (by assumption))))
set_option maxHeartbeats 4000000 in
theorem v_hull_one (b off : Nat) (f : Nat → V6) (w : World) (hf : RowBox w b off 1 f) :
    Calls Try.prog 34 #[.slice (some ⟨b, off, none⟩) 1 1] w fun e w' => e = .returned (hullF f 0).val ∧ Below w.heap.size w w' := by
  obtain ⟨zb, c0, c1, c2, c3, c4, c5⟩ : BoxV w b off (f 0) := by have := hf 0 (by omega); rwa [Nat.zero_mul, Nat.add_zero] at this
  rw [hullF]
  obtain ⟨⟨⟨A, B, C⟩, ⟨A', B', C'⟩⟩, ha0⟩ : ∃ a, f 0 = a := ⟨_, rfl⟩
  rw [ha0] at c0 c1 c2 c3 c4 c5 ⊢
  simp only [V6.val] at c0 c1 c2 c3 c4 c5 ⊢
  clear ha0
  go_enter Try.func34, Try.ntmps34
  go_wp2
  refine wp_loop_rounds 1 ?_
  rw [rounds_succ]
  go_wp2
  refine bodyPost_ret (v := boxV A B C A' B' C') (by simp [results, Try.results34, go_sem, *]; done) rfl ⟨rfl, ?_⟩
  (repeat (first | with_reducible assumption | with_reducible exact Below.refl _ _ | with_reducible refine Below.drew ?_ | with_reducible refine below_drewN ?_ _ | with_reducible refine al ?_ _ | (with_reducible refine sc ?_ ?_; (focus (first | omega | (simp; done) | (simp; omega)))) | (with_reducible refine chain ?_ (by assumption))))
set_option maxHeartbeats 8000000 in
theorem v_hull_more (b off n c : Nat) (f : Nat → V6) (w : World) (hlen : n + 1 ≤ 9223372036854775807) (hcap : n ≤ c) (hc : 1 ≤ c) (hf : RowBox w b off (n + 1) f) :
    Calls Try.prog 34 #[.slice (some ⟨b, off, none⟩) (n + 1) (c + 1)] w fun e w' => e = .returned (hullF f n).val ∧ Below w.heap.size w w' := by
  obtain ⟨zb, c0, c1, c2, c3, c4, c5⟩ : BoxV w b off (f 0) := by have := hf 0 (by omega); rwa [Nat.zero_mul, Nat.add_zero] at this
  have hF := Lib.hid hf
  clear hf
  have h0 : f 0 = hullF f 0 := rfl
  rw [h0] at c0 c1 c2 c3 c4 c5
  obtain ⟨⟨⟨A, B, C⟩, ⟨A', B', C'⟩⟩, ha0⟩ : ∃ a, hullF f 0 = a := ⟨_, rfl⟩
  rw [ha0] at c0 c1 c2 c3 c4 c5
  have HA := Lib.hid ha0
  clear ha0 h0
  have hc1 : ¬ c = 0 := by omega
  simp only [] at c0 c1 c2 c3 c4 c5
  go_enter Try.func34, Try.ntmps34
  go_wp2
  go_loopw [5, 16] (fun p i wr => ∃ k : Nat, k ≤ n ∧ i = .int .i64 k ∧ Below w.heap.size w wr ∧ BoxV wr (w.heap.size + 1) 0 (hullF f k) ∧ (∀ o, wr.frozen? ⟨w.heap.size + 1, o, none⟩ = false) ∧ BoxAt wr w.heap.size 0 0 0 0 0 0 0 ∧ (∀ o, wr.frozen? ⟨w.heap.size, o, none⟩ = false)) (fun _ i _ => n - (intOf i).toNat)
  case atStart =>
    refine ⟨0, by omega, rfl, by (repeat (first | with_reducible assumption | with_reducible exact Below.refl _ _ | with_reducible refine Below.drew ?_ | with_reducible refine below_drewN ?_ _ | with_reducible refine al ?_ _ | (with_reducible refine sc ?_ ?_; (focus (first | omega | (simp; done) | (simp; omega)))) | (with_reducible refine chain ?_ (by assumption)))), ?_, by simp [go_sem], ⟨by simp; omega, by simp [go_sem], by simp [go_sem], by simp [go_sem], by simp [go_sem], by simp [go_sem], by simp [go_sem]⟩, by simp [go_sem]⟩
    rw [HA.out]
    exact ⟨by simp, by simp [go_sem], by simp [go_sem], by simp [go_sem], by simp [go_sem], by simp [go_sem], by simp [go_sem]⟩
  case round =>
    obtain ⟨k, hk, rfl, kw, H1, f1, H2, f2⟩ := hrel
    have nx : hullF f (k + 1) = merge (hullF f k) (f (k + 1)) := rfl
    obtain ⟨⟨⟨P, Q, R⟩, ⟨P', Q', R'⟩⟩, hh⟩ : ∃ a, hullF f k = a := ⟨_, rfl⟩
    rw [hh] at H1 nx
    obtain ⟨z1, d0, d1, d2, d3, d4, d5⟩ := H1
    obtain ⟨z2, r0, r1, r2, r3, r4, r5⟩ := H2
    have zb' : b < wr.heap.size := Nat.lt_of_lt_of_le zb kw.size
    have HH := Lib.hid hh
    clear hh
    by_cases hlt : k < n
    · have hx := (hF.out (k + 1) (by omega)).keep kw
      rw [show off + (k + 1) * 6 = off + 6 + k * 6 by omega] at hx
      obtain ⟨⟨⟨X, Y, Z⟩, ⟨X', Y', Z'⟩⟩, hy⟩ : ∃ a, f (k + 1) = a := ⟨_, rfl⟩
      rw [hy] at hx nx
      obtain ⟨_, e0, e1, e2, e3, e4, e5⟩ := hx
      have HN := Lib.hid nx
      clear nx hy
      go_wp2_with fail
      (refine (c_each 57 _ (fun i => min (axisF P Q R i) (axisF X Y Z i)) _ (enters_of Try.func57 (by kernel_rfl) rfl) (hullmin_clo _ _ P Q R X Y Z _ ⟨(by first | (simp; done) | (simp; omega) | omega), by simp [go_sem, *], by simp [go_sem, *], by simp [go_sem, *]⟩ ⟨(by first | (simp; done) | (simp; omega) | omega), by simp [go_sem, *], by simp [go_sem, *], by simp [go_sem, *]⟩)).mono ?_; rintro e v1 ⟨rfl, hv1⟩)
      obtain ⟨_hcv1, _hfv1⟩ := bcell hv1
      have _zv10 : w.heap.size < v1.heap.size := size_lt (by first | (simp; done) | (simp; omega) | omega) hv1
      have _zv11 : w.heap.size + 1 < v1.heap.size := size_lt (by first | (simp; done) | (simp; omega) | omega) hv1
      have _zv12 : wr.heap.size < v1.heap.size := size_lt (by first | (simp; done) | (simp; omega) | omega) hv1
      have kv1 : Below w.heap.size w v1 := by (repeat (first | with_reducible assumption | with_reducible exact Below.refl _ _ | with_reducible refine Below.drew ?_ | with_reducible refine below_drewN ?_ _ | with_reducible refine al ?_ _ | (with_reducible refine sc ?_ ?_; (focus (first | omega | (simp; done) | (simp; omega)))) | (with_reducible refine chain ?_ (by assumption))))
      go_wp2_with fail
      (refine (c_each 58 _ (fun i => max (axisF P' Q' R' i) (axisF X' Y' Z' i)) _ (enters_of Try.func58 (by kernel_rfl) rfl) (hullmax_clo _ _ P' Q' R' X' Y' Z' _ ⟨by assumption, by simp [go_sem, *], by simp [go_sem, *], by simp [go_sem, *]⟩ ⟨by assumption, by simp [go_sem, *], by simp [go_sem, *], by simp [go_sem, *]⟩)).mono ?_; rintro e v2 ⟨rfl, hv2⟩)
      obtain ⟨_hcv2, _hfv2⟩ := bcell hv2
      have _zv20 : w.heap.size < v2.heap.size := size_lt (by first | (simp; done) | (simp; omega) | omega) hv2
      have _zv21 : w.heap.size + 1 < v2.heap.size := size_lt (by first | (simp; done) | (simp; omega) | omega) hv2
      have _zv22 : wr.heap.size < v2.heap.size := size_lt (by first | (simp; done) | (simp; omega) | omega) hv2
      have kv2 : Below w.heap.size w v2 := by (repeat (first | with_reducible assumption | with_reducible exact Below.refl _ _ | with_reducible refine Below.drew ?_ | with_reducible refine below_drewN ?_ _ | with_reducible refine al ?_ _ | (with_reducible refine sc ?_ ?_; (focus (first | omega | (simp; done) | (simp; omega)))) | (with_reducible refine chain ?_ (by assumption))))
      simp only [ax0, ax1, ax2]
      go_wp2_with fail
      go_roundw
      case rel =>
        (repeat apply Exists.intro)
        refine And.intro ?_ rfl
        refine ⟨k + 1, by omega, by go_num, by (repeat (first | with_reducible assumption | with_reducible exact Below.refl _ _ | with_reducible refine Below.drew ?_ | with_reducible refine below_drewN ?_ _ | with_reducible refine al ?_ _ | (with_reducible refine sc ?_ ?_; (focus (first | omega | (simp; done) | (simp; omega)))) | (with_reducible refine chain ?_ (by assumption)))), ?_, fun o => by simp [go_sem, *], ⟨?_, by simp [go_sem, *], by simp [go_sem, *], by simp [go_sem, *], by simp [go_sem, *], by simp [go_sem, *], by simp [go_sem, *]⟩, fun o => by simp [go_sem, *]⟩
        · rw [HN.out, merge]
          exact ⟨by simp only [World.setCell, Array.size_modify]; assumption, by simp [go_sem, *], by simp [go_sem, *], by simp [go_sem, *], by simp [go_sem, *], by simp [go_sem, *], by simp [go_sem, *]⟩
        · simp only [World.setCell, Array.size_modify]; assumption
      case measure => simp [intOf]; omega
    · obtain rfl : k = n := by omega
      go_wp2_with fail
      refine bodyPost_ret (v := (hullF f k).val) (by rw [HH.out]; simp [results, Try.results34, go_sem, *]; done) rfl ⟨rfl, ?_⟩
      (repeat (first | with_reducible assumption | with_reducible exact Below.refl _ _ | with_reducible refine Below.drew ?_ | with_reducible refine below_drewN ?_ _ | with_reducible refine al ?_ _ | (with_reducible refine sc ?_ ?_; (focus (first | omega | (simp; done) | (simp; omega)))) | (with_reducible refine chain ?_ (by assumption))))
theorem v_hull (b off len cap : Nat) (f : Nat → V6) (w : World) (hlen : len ≤ 9223372036854775807) (h1 : 1 ≤ len) (hcap : len ≤ cap) (hf : RowBox w b off len f) :
    Calls Try.prog 34 #[.slice (some ⟨b, off, none⟩) len cap] w fun e w' => e = .returned (hullF f (len - 1)).val ∧ Below w.heap.size w w' := by
  obtain ⟨n, rfl⟩ : ∃ n, len = n + 1 := ⟨len - 1, by omega⟩
  obtain ⟨c, rfl⟩ : ∃ c, cap = c + 1 := ⟨cap - 1, by omega⟩
  by_cases hc : c = 0
  · obtain rfl : n = 0 := by omega
    subst hc
    exact v_hull_one b off f w hf
  · exact v_hull_more b off n c f w hlen (by omega) (by omega) hf
end Go.Proofs.Ytaiiilccamdnbaa
