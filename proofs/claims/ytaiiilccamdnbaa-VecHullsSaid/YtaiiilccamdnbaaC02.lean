/- Contracts of layer 2 (vec): what each call answers. -/
import Derived.Test.YtaiiilccamdnbaaC01
import Derived.Deep.RegionHeld3
import Derived.Deep.DrawnRows
import Derived.RegionTactic
set_option linter.unusedVariables false
namespace Go.Proofs.Ytaiiilccamdnbaa
open Go.ChangeShapes Go.WideShapes Go.ChangeAt Go.RowKit
attribute [local go_sem ↓] Go.wp_at_zero Go.wp_at_succ
theorem c_axes (b : Nat) (w : World) : Calls Try.prog 52 #[.pointer (some ⟨b, 0, none⟩)] w fun e w' =>
    e = .returned (.agg #[.pointer (some ⟨b, 0, none⟩), .pointer (some ⟨b, 1, none⟩), .pointer (some ⟨b, 2, none⟩)]) ∧ Below w.heap.size w w' := by
  go_enter Try.func52, Try.ntmps52
  go_wp2
  go_region
  all_goals
    go_wp2
    refine bodyPost_ret (v := .agg #[.pointer (some ⟨b, 0, none⟩), .pointer (some ⟨b, 1, none⟩), .pointer (some ⟨b, 2, none⟩)]) (by simp [results, Try.results52, go_sem]) rfl ⟨rfl, ?_⟩
    exact ((Below.refl _ _).alloc (Nat.le_refl _) _).drew
/-- What each calls: at every axis, in every later world, the closure hands back an axis's number. -/
def EachOk (F : Nat) (lb : Array Value) (g : Int → Int) (w : World) : Prop :=
  ∀ (i : Int) (W : World), 0 ≤ i → i ≤ 2 → Below w.heap.size w W → Calls Try.prog F (#[.int .i64 i] ++ lb) W fun e w' => e = .returned (.int .i64 (g i)) ∧ Below W.heap.size W w'
theorem bcell {W w1 : World} (hb : Below W.heap.size W w1) : (∀ b o, b < W.heap.size → w1.cell? ⟨b, o, none⟩ = W.cell? ⟨b, o, none⟩) ∧ (∀ b o, b < W.heap.size → w1.frozen? ⟨b, o, none⟩ = W.frozen? ⟨b, o, none⟩) :=
  ⟨fun b o h => hb.cell (p := ⟨b, o, none⟩) h, fun b o h => hb.frozen (p := ⟨b, o, none⟩) h⟩
theorem ix0 (x0 x1 x2 : Option Addr) (w : World) : (Instr.index 52 (.agg #[.pointer x0, .pointer x1, .pointer x2]) (.int .i64 0)).run Try.prog w = .ok (.pointer x0) w := by kernel_rfl
theorem ix1 (x0 x1 x2 : Option Addr) (w : World) : (Instr.index 52 (.agg #[.pointer x0, .pointer x1, .pointer x2]) (.int .i64 1)).run Try.prog w = .ok (.pointer x1) w := by kernel_rfl
theorem ix2 (x0 x1 x2 : Option Addr) (w : World) : (Instr.index 52 (.agg #[.pointer x0, .pointer x1, .pointer x2]) (.int .i64 2)).run Try.prog w = .ok (.pointer x2) w := by kernel_rfl
theorem al {w W : World} (k : Below w.heap.size w W) (o : Obj) : Below w.heap.size w (W.alloc o) := k.alloc k.size o
theorem sc {w W : World} {b o : Nat} {v : Value} (h : w.heap.size ≤ b) (k : Below w.heap.size w W) : Below w.heap.size w (W.setCell ⟨b, o, none⟩ v) := k.setCell h v
theorem size_lt {W w1 : World} {n : Nat} (h : n < W.heap.size) (hb : Below W.heap.size W w1) : n < w1.heap.size := Nat.lt_of_lt_of_le h hb.size
theorem keepc {W w1 : World} (hb : Below W.heap.size W w1) {b o : Nat} {v : Value} (h : b < W.heap.size) (hc : W.cell? ⟨b, o, none⟩ = some v) : w1.cell? ⟨b, o, none⟩ = some v := (hb.cell (p := ⟨b, o, none⟩) h).trans hc
theorem keepf {W w1 : World} (hb : Below W.heap.size W w1) {b o : Nat} (h : b < W.heap.size) (hc : W.frozen? ⟨b, o, none⟩ = false) : w1.frozen? ⟨b, o, none⟩ = false := (hb.frozen (p := ⟨b, o, none⟩) h).trans hc
set_option maxHeartbeats 1000000 in
theorem c_each (F : Nat) (lb : Array Value) (g : Int → Int) (w : World) (eg : ∀ args w, (callFunc F args).run Try.prog w = .ok (.enter F args) w) (hg : EachOk F lb g w) :
    Calls Try.prog 40 #[.func (.func F) #[] lb] w fun e w' => e = .returned (.agg #[.int .i64 (g 0), .int .i64 (g 1), .int .i64 (g 2)]) ∧ Below w.heap.size w w' := by
  have i0 := ix0; have i1 := ix1; have i2 := ix2
  go_enter Try.func40, Try.ntmps40
  go_wp2_with (go_at_call 52; refine (c_axes _ _).mono ?_; rintro e w1 ⟨rfl, hb1⟩)
  have k1 : Below w.heap.size w w1 := (((Below.refl _ _).alloc (Nat.le_refl _) _).alloc (by simp) _).trans (hb1.mono (by simp; omega))
  have z1 : w.heap.size + 1 < w1.heap.size := size_lt (by simp) hb1
  have v0 : w1.cell? ⟨w.heap.size + 1, 0, none⟩ = some (.int .i64 0) := keepc hb1 (by simp) (by simp [go_sem])
  have v1 : w1.cell? ⟨w.heap.size + 1, 1, none⟩ = some (.int .i64 0) := keepc hb1 (by simp) (by simp [go_sem])
  have v2 : w1.cell? ⟨w.heap.size + 1, 2, none⟩ = some (.int .i64 0) := keepc hb1 (by simp) (by simp [go_sem])
  have r0 : w1.cell? ⟨w.heap.size, 0, none⟩ = some (.int .i64 0) := keepc hb1 (by simp; omega) (by simp [go_sem])
  have r1 : w1.cell? ⟨w.heap.size, 1, none⟩ = some (.int .i64 0) := keepc hb1 (by simp; omega) (by simp [go_sem])
  have r2 : w1.cell? ⟨w.heap.size, 2, none⟩ = some (.int .i64 0) := keepc hb1 (by simp; omega) (by simp [go_sem])
  have vf : ∀ o, w1.frozen? ⟨w.heap.size + 1, o, none⟩ = false := fun o => keepf hb1 (by simp) (by simp [go_sem])
  have rf : ∀ o, w1.frozen? ⟨w.heap.size, o, none⟩ = false := fun o => keepf hb1 (by simp; omega) (by simp [go_sem])
  clear hb1
  refine wp_loop_rounds 4 ?_
  rw [rounds_succ]
  go_wp2_with fail
  refine (hg 0 w1 (by omega) (by omega) k1).mono ?_
  rintro e w2 ⟨rfl, hb⟩
  have z2 := size_lt z1 hb
  replace v0 := keepc hb z1 v0
  replace v1 := keepc hb z1 v1
  replace v2 := keepc hb z1 v2
  replace r0 := keepc hb (by omega) r0
  replace r1 := keepc hb (by omega) r1
  replace r2 := keepc hb (by omega) r2
  replace vf : ∀ o, w2.frozen? ⟨w.heap.size + 1, o, none⟩ = false := fun o => keepf hb z1 (vf o)
  replace rf : ∀ o, w2.frozen? ⟨w.heap.size, o, none⟩ = false := fun o => keepf hb (by omega) (rf o)
  replace k1 := k1.trans (hb.mono (by omega))
  clear hb z1
  go_wp2_with fail
  have z1 : w.heap.size + 1 < (w2.setCell ⟨w.heap.size + 1, 0, none⟩ (.int .i64 (g 0))).heap.size := by simpa [World.setCell] using z2
  replace k1 := k1.setCell (p := ⟨w.heap.size + 1, 0, none⟩) (by simp) (.int .i64 (g 0))
  replace v0 : (w2.setCell ⟨w.heap.size + 1, 0, none⟩ (.int .i64 (g 0))).cell? ⟨w.heap.size + 1, 0, none⟩ = some (.int .i64 (g 0)) := by go_simp
  replace v1 : (w2.setCell ⟨w.heap.size + 1, 0, none⟩ (.int .i64 (g 0))).cell? ⟨w.heap.size + 1, 1, none⟩ = some (.int .i64 0) := by go_simp
  replace v2 : (w2.setCell ⟨w.heap.size + 1, 0, none⟩ (.int .i64 (g 0))).cell? ⟨w.heap.size + 1, 2, none⟩ = some (.int .i64 0) := by go_simp
  replace r0 : (w2.setCell ⟨w.heap.size + 1, 0, none⟩ (.int .i64 (g 0))).cell? ⟨w.heap.size, 0, none⟩ = some (.int .i64 0) := by go_simp
  replace r1 : (w2.setCell ⟨w.heap.size + 1, 0, none⟩ (.int .i64 (g 0))).cell? ⟨w.heap.size, 1, none⟩ = some (.int .i64 0) := by go_simp
  replace r2 : (w2.setCell ⟨w.heap.size + 1, 0, none⟩ (.int .i64 (g 0))).cell? ⟨w.heap.size, 2, none⟩ = some (.int .i64 0) := by go_simp
  replace vf : ∀ o, (w2.setCell ⟨w.heap.size + 1, 0, none⟩ (.int .i64 (g 0))).frozen? ⟨w.heap.size + 1, o, none⟩ = false := by go_simp
  replace rf : ∀ o, (w2.setCell ⟨w.heap.size + 1, 0, none⟩ (.int .i64 (g 0))).frozen? ⟨w.heap.size, o, none⟩ = false := by go_simp
  generalize w2.setCell ⟨w.heap.size + 1, 0, none⟩ (.int .i64 (g 0)) = w3 at *
  clear z2
  rw [rounds_succ]
  go_wp2_with fail
  refine (hg 1 w3 (by omega) (by omega) k1).mono ?_
  rintro e w4 ⟨rfl, hb⟩
  have z2 := size_lt z1 hb
  replace v0 := keepc hb z1 v0
  replace v1 := keepc hb z1 v1
  replace v2 := keepc hb z1 v2
  replace r0 := keepc hb (by omega) r0
  replace r1 := keepc hb (by omega) r1
  replace r2 := keepc hb (by omega) r2
  replace vf : ∀ o, w4.frozen? ⟨w.heap.size + 1, o, none⟩ = false := fun o => keepf hb z1 (vf o)
  replace rf : ∀ o, w4.frozen? ⟨w.heap.size, o, none⟩ = false := fun o => keepf hb (by omega) (rf o)
  replace k1 := k1.trans (hb.mono (by omega))
  clear hb z1
  go_wp2_with fail
  have z1 : w.heap.size + 1 < (w4.setCell ⟨w.heap.size + 1, 1, none⟩ (.int .i64 (g 1))).heap.size := by simpa [World.setCell] using z2
  replace k1 := k1.setCell (p := ⟨w.heap.size + 1, 1, none⟩) (by simp) (.int .i64 (g 1))
  replace v0 : (w4.setCell ⟨w.heap.size + 1, 1, none⟩ (.int .i64 (g 1))).cell? ⟨w.heap.size + 1, 0, none⟩ = some (.int .i64 (g 0)) := by go_simp
  replace v1 : (w4.setCell ⟨w.heap.size + 1, 1, none⟩ (.int .i64 (g 1))).cell? ⟨w.heap.size + 1, 1, none⟩ = some (.int .i64 (g 1)) := by go_simp
  replace v2 : (w4.setCell ⟨w.heap.size + 1, 1, none⟩ (.int .i64 (g 1))).cell? ⟨w.heap.size + 1, 2, none⟩ = some (.int .i64 0) := by go_simp
  replace r0 : (w4.setCell ⟨w.heap.size + 1, 1, none⟩ (.int .i64 (g 1))).cell? ⟨w.heap.size, 0, none⟩ = some (.int .i64 0) := by go_simp
  replace r1 : (w4.setCell ⟨w.heap.size + 1, 1, none⟩ (.int .i64 (g 1))).cell? ⟨w.heap.size, 1, none⟩ = some (.int .i64 0) := by go_simp
  replace r2 : (w4.setCell ⟨w.heap.size + 1, 1, none⟩ (.int .i64 (g 1))).cell? ⟨w.heap.size, 2, none⟩ = some (.int .i64 0) := by go_simp
  replace vf : ∀ o, (w4.setCell ⟨w.heap.size + 1, 1, none⟩ (.int .i64 (g 1))).frozen? ⟨w.heap.size + 1, o, none⟩ = false := by go_simp
  replace rf : ∀ o, (w4.setCell ⟨w.heap.size + 1, 1, none⟩ (.int .i64 (g 1))).frozen? ⟨w.heap.size, o, none⟩ = false := by go_simp
  generalize w4.setCell ⟨w.heap.size + 1, 1, none⟩ (.int .i64 (g 1)) = w5 at *
  clear z2
  rw [rounds_succ]
  go_wp2_with fail
  refine (hg 2 w5 (by omega) (by omega) k1).mono ?_
  rintro e w6 ⟨rfl, hb⟩
  have z2 := size_lt z1 hb
  replace v0 := keepc hb z1 v0
  replace v1 := keepc hb z1 v1
  replace v2 := keepc hb z1 v2
  replace r0 := keepc hb (by omega) r0
  replace r1 := keepc hb (by omega) r1
  replace r2 := keepc hb (by omega) r2
  replace vf : ∀ o, w6.frozen? ⟨w.heap.size + 1, o, none⟩ = false := fun o => keepf hb z1 (vf o)
  replace rf : ∀ o, w6.frozen? ⟨w.heap.size, o, none⟩ = false := fun o => keepf hb (by omega) (rf o)
  replace k1 := k1.trans (hb.mono (by omega))
  clear hb z1
  go_wp2_with fail
  have z1 : w.heap.size + 1 < (w6.setCell ⟨w.heap.size + 1, 2, none⟩ (.int .i64 (g 2))).heap.size := by simpa [World.setCell] using z2
  replace k1 := k1.setCell (p := ⟨w.heap.size + 1, 2, none⟩) (by simp) (.int .i64 (g 2))
  replace v0 : (w6.setCell ⟨w.heap.size + 1, 2, none⟩ (.int .i64 (g 2))).cell? ⟨w.heap.size + 1, 0, none⟩ = some (.int .i64 (g 0)) := by go_simp
  replace v1 : (w6.setCell ⟨w.heap.size + 1, 2, none⟩ (.int .i64 (g 2))).cell? ⟨w.heap.size + 1, 1, none⟩ = some (.int .i64 (g 1)) := by go_simp
  replace v2 : (w6.setCell ⟨w.heap.size + 1, 2, none⟩ (.int .i64 (g 2))).cell? ⟨w.heap.size + 1, 2, none⟩ = some (.int .i64 (g 2)) := by go_simp
  replace r0 : (w6.setCell ⟨w.heap.size + 1, 2, none⟩ (.int .i64 (g 2))).cell? ⟨w.heap.size, 0, none⟩ = some (.int .i64 0) := by go_simp
  replace r1 : (w6.setCell ⟨w.heap.size + 1, 2, none⟩ (.int .i64 (g 2))).cell? ⟨w.heap.size, 1, none⟩ = some (.int .i64 0) := by go_simp
  replace r2 : (w6.setCell ⟨w.heap.size + 1, 2, none⟩ (.int .i64 (g 2))).cell? ⟨w.heap.size, 2, none⟩ = some (.int .i64 0) := by go_simp
  replace vf : ∀ o, (w6.setCell ⟨w.heap.size + 1, 2, none⟩ (.int .i64 (g 2))).frozen? ⟨w.heap.size + 1, o, none⟩ = false := by go_simp
  replace rf : ∀ o, (w6.setCell ⟨w.heap.size + 1, 2, none⟩ (.int .i64 (g 2))).frozen? ⟨w.heap.size, o, none⟩ = false := by go_simp
  generalize w6.setCell ⟨w.heap.size + 1, 2, none⟩ (.int .i64 (g 2)) = w7 at *
  clear z2
  rw [rounds_succ]
  go_wp2_with fail
  refine bodyPost_ret (v := .agg #[.int .i64 (g 0), .int .i64 (g 1), .int .i64 (g 2)]) (by simp [results, Try.results40, go_sem, r0, r1, r2]) rfl ⟨rfl, ?_⟩
  exact ((k1.setCell (by simp) _).setCell (by simp) _).setCell (by simp) _
/-- What every calls. -/
def EveryOk (F : Nat) (lb : Array Value) (p : Int → Bool) (w : World) : Prop :=
  ∀ (i : Int) (W : World), 0 ≤ i → i ≤ 2 → Below w.heap.size w W → Calls Try.prog F (#[.int .i64 i] ++ lb) W fun e w' => e = .returned (.bool (p i)) ∧ Below W.heap.size W w'
set_option maxHeartbeats 1000000 in
theorem c_every (F : Nat) (lb : Array Value) (p : Int → Bool) (w : World) (eg : ∀ args w, (callFunc F args).run Try.prog w = .ok (.enter F args) w) (hp : EveryOk F lb p w) :
    Calls Try.prog 53 #[.func (.func F) #[] lb] w fun e w' => e = .returned (.bool (p 0 && p 1 && p 2)) ∧ Below w.heap.size w w' := by
  obtain ⟨p0, h0⟩ : ∃ q, p 0 = q := ⟨_, rfl⟩
  obtain ⟨p1, h1⟩ : ∃ q, p 1 = q := ⟨_, rfl⟩
  obtain ⟨p2, h2⟩ : ∃ q, p 2 = q := ⟨_, rfl⟩
  have H0 := Lib.hid (fun W => hp 0 W (by omega) (by omega))
  have H1 := Lib.hid (fun W => hp 1 W (by omega) (by omega))
  have H2 := Lib.hid (fun W => hp 2 W (by omega) (by omega))
  clear hp
  rw [h0] at H0
  rw [h1] at H1
  rw [h2] at H2
  rw [h0, h1, h2]
  clear h0 h1 h2
  cases p0
  · go_enter Try.func53, Try.ntmps53
    go_wp2
    refine wp_loop_rounds 4 ?_
    rw [rounds_succ]
    go_wp2_with fail
    refine (H0.out _ (Below.refl _ _)).mono ?_
    rintro e w1 ⟨rfl, hb1⟩
    go_wp2_with fail
    go_ret
    exact ⟨rfl, hb1⟩
  cases p1
  · go_enter Try.func53, Try.ntmps53
    go_wp2
    refine wp_loop_rounds 4 ?_
    rw [rounds_succ]
    go_wp2_with fail
    refine (H0.out _ (Below.refl _ _)).mono ?_
    rintro e w1 ⟨rfl, hb1⟩
    go_wp2_with fail
    rw [rounds_succ]
    go_wp2_with fail
    refine (H1.out _ hb1).mono ?_
    rintro e w2 ⟨rfl, hb2⟩
    go_wp2_with fail
    go_ret
    exact ⟨rfl, hb1.trans (hb2.mono hb1.size)⟩
  cases p2
  all_goals
    go_enter Try.func53, Try.ntmps53
    go_wp2
    refine wp_loop_rounds 4 ?_
    rw [rounds_succ]
    go_wp2_with fail
    refine (H0.out _ (Below.refl _ _)).mono ?_
    rintro e w1 ⟨rfl, hb1⟩
    go_wp2_with fail
    rw [rounds_succ]
    go_wp2_with fail
    refine (H1.out _ hb1).mono ?_
    rintro e w2 ⟨rfl, hb2⟩
    have hb2 := hb1.trans (hb2.mono hb1.size)
    go_wp2_with fail
    rw [rounds_succ]
    go_wp2_with fail
    refine (H2.out _ hb2).mono ?_
    rintro e w3 ⟨rfl, hb3⟩
    go_wp2_with fail
    try (rw [rounds_succ]; go_wp2_with fail)
    go_ret
    exact ⟨rfl, hb2.trans (hb3.mono hb2.size)⟩
/-- The number of an axis. -/
def axisF (x y z i : Int) : Int := if i = 0 then x else if i = 1 then y else if i = 2 then z else 0
set_option maxHeartbeats 1000000 in
theorem c_axis (x y z i : Int) (w : World) : Calls Try.prog 21 #[.agg #[.int .i64 x, .int .i64 y, .int .i64 z], .int .i64 i] w fun e w' =>
    e = .returned (.int .i64 (axisF x y z i)) ∧ Below w.heap.size w w' := by
  have i0 := ix0; have i1 := ix1; have i2 := ix2
  by_cases h : i < 0 ∨ 3 ≤ i
  · obtain ⟨v, hv⟩ : ∃ v, axisF x y z i = v := ⟨_, rfl⟩
    have hv0 : v = 0 := by rw [← hv]; unfold axisF; rw [if_neg (by omega), if_neg (by omega), if_neg (by omega)]
    rw [hv]
    clear hv
    rcases h with h | h
    all_goals
      go_enter Try.func21, Try.ntmps21
      go_wp2_with fail
      refine (c_axes _ _).mono ?_
      rintro e w1 ⟨rfl, hb1⟩
      go_wp2_with fail
      go_ret
      exact ⟨ret_int hv0.symm, al (chain (al (Below.refl _ _) _) hb1) _⟩
  · rcases (show i = 0 ∨ i = 1 ∨ i = 2 by omega) with rfl | rfl | rfl
    all_goals
      simp only [axisF, if_true, show ¬ (1 : Int) = 0 by omega, show ¬ (2 : Int) = 0 by omega, show ¬ (2 : Int) = 1 by omega, if_false]
      clear h
      go_enter Try.func21, Try.ntmps21
      go_wp2_with fail
      refine (c_axes _ _).mono ?_
      rintro e w1 ⟨rfl, hb1⟩
      have v0 : w1.cell? ⟨w.heap.size, 0, none⟩ = some (.int .i64 x) := keepc hb1 (by simp) (by simp [go_sem])
      have v1 : w1.cell? ⟨w.heap.size, 1, none⟩ = some (.int .i64 y) := keepc hb1 (by simp) (by simp [go_sem])
      have v2 : w1.cell? ⟨w.heap.size, 2, none⟩ = some (.int .i64 z) := keepc hb1 (by simp) (by simp [go_sem])
      have z1 : w.heap.size < w1.heap.size := size_lt (by simp) hb1
      go_wp2_with fail
      go_ret
      exact ⟨rfl, al (chain (al (Below.refl _ _) _) hb1) _⟩
end Go.Proofs.Ytaiiilccamdnbaa
