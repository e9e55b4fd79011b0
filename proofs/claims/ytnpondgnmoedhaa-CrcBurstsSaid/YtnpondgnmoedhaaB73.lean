/- Contracts of layer 7 (crc), of the landed code: slices.Grow from none, slices.Concat of two rows of bytes. -/
import Derived.Test.YtnpondgnmoedhaaR71
import Derived.Test.YtnpondgnmoedhaaS04
import Derived.Lib.AppendZeros
set_option linter.unusedVariables false
set_option linter.unusedSimpArgs false
namespace Go.Proofs.Ytnpondgnmoedhaa
open Go.ChangeShapes Go.WideShapes Go.ChangeAt Go.RowKit
theorem grown_zero (w : World) (n : Nat) (h0 : 0 < n) (hn : n ≤ 1000000) : (w.drew.alloc (.cells (Builtin.zeroCells #[.int .u8 0] n ++ Builtin.zeroCells #[.int .u8 0] (grownCap w n 0 5 - n)) 5)).ownsRow w.heap.size 5 1 (.slice (some ⟨w.heap.size, 0, none⟩) 0 (grownCap w n 0 5)) 0 [] := by
  have h1 := grownCap_ge w n 0 5
  have h2 := grownCap_le_maxLen w n 0 5 (by unfold maxLen; omega)
  have h3 := World.ownsRow_made (base := w.heap.size) (e := 5) (size := 1) w.drew (Builtin.zeroCells #[.int .u8 0] n ++ Builtin.zeroCells #[.int .u8 0] (grownCap w n 0 5 - n)) (grownCap w n 0 5) (Nat.le_refl _) h2 (by rw [Array.size_append, size_zeroCells, size_zeroCells]; simp; omega)
  exact h3
set_option maxHeartbeats 2000000 in
theorem b7_grow (n : Nat) (hn : n ≤ 1000000) (w : World) : Calls Try.prog 27 #[.slice none 0 0, .int .i64 n] w fun e w' => ∃ v', e = .returned v' ∧ w'.ownsRow w.heap.size 5 1 v' 0 [] ∧ Below w.heap.size w w' := by
  obtain ⟨i0, hi, hz, hsz, hby⟩ := byte_info
  by_cases h0 : n = 0
  · subst h0
    go_enter Try.func27, Try.ntmps27
    go_wp2_with fail
    go_ret
    exact ⟨_, rfl, World.ownsRow_nil _ _ _ _, by (repeat (first | with_reducible assumption | with_reducible exact Below.refl _ _ | with_reducible refine Below.drew ?_ | with_reducible refine below_drewN ?_ _ | with_reducible refine al ?_ _ | (with_reducible refine sc ?_ ?_; (focus (first | omega | (simp; done) | (simp; omega)))) | (with_reducible refine chain ?_ (by assumption))))⟩
  · have hp : 0 < n := by omega
    have hpi : (0 : Int) < n := by omega
    have hneg : ¬ ((n : Int) < 0) := by omega
    have wz : IntKind.i64.wrap (n : Int) = n := IntWalk.i64_in _ (by omega)
    have hr := Lib.run_append_nil_zeros (P := Try.prog) w 22 3 22 5 i0 _ .i64 .i64 Try.underlying22 Try.underlying3 hi hz n hp (by omega) (by omega) (by rw [hby]; omega)
    have ho := grown_zero w n hp hn
    have hl : (0 : Nat) ≤ grownCap w n 0 5 := Nat.zero_le _
    have kb : Below w.heap.size w (w.drew.alloc (.cells (Builtin.zeroCells #[.int .u8 0] n ++ Builtin.zeroCells #[.int .u8 0] (grownCap w n 0 5 - n)) 5)) := al (Below.refl _ _).drew _
    obtain ⟨C, hC⟩ : ∃ c, grownCap w n 0 5 = c := ⟨_, rfl⟩
    rw [hC] at ho hr kb hl
    go_enter Try.func27, Try.ntmps27
    go_wp2_with (at_builtin; refine Lib.wpList_append_run _ rfl _ _ _ _ rfl _ _ rfl rfl _ _ hr ?_)
    go_ret
    exact ⟨_, rfl, ho, kb⟩
set_option maxHeartbeats 4000000 in
theorem b7_concat (g : Nat) (va vb : Value) (a b : List Int) (T : TypeId) (w : World) (hr : RowAt w g #[va, vb] T) (ha : BytsAt w va a) (hb : BytsAt w vb b) (hA : a.length ≤ 100000) (hB : b.length ≤ 100000) : Calls Try.prog 24 #[.slice (some ⟨g, 0, none⟩) 2 2] w fun e w' =>
    ∃ v', e = .returned v' ∧ w'.ownsRow w.heap.size 5 1 v' (a ++ b).length (bytVs (a ++ b)) ∧ Below w.heap.size w w' := by
  obtain ⟨i0, hi, hz, hsz, hby⟩ := byte_info
  obtain ⟨pa, ca, rfl⟩ := ha.shape
  obtain ⟨pb, cb, rfl⟩ := hb.shape
  obtain ⟨NA, hNA⟩ : ∃ N, a.length = N := ⟨_, rfl⟩
  obtain ⟨NB, hNB⟩ : ∃ N, b.length = N := ⟨_, rfl⟩
  have HNA := Lib.hid hNA
  have HNB := Lib.hid hNB
  rw [hNA] at hA hr ha
  rw [hNB] at hB hr hb
  clear hNA hNB
  have c0 := hr.two.1
  have c1 := hr.two.2
  have hg := hr.lt
  have w0 : IntKind.i64.wrap (NA : Int) = NA := IntWalk.i64_in _ (by omega)
  have w1 : IntKind.i64.wrap ((NA : Int) + (NB : Int)) = (NA : Int) + (NB : Int) := IntWalk.i64_in _ (by omega)
  have p0 : ¬ ((NA : Int) < 0) := by omega
  have p1 : ¬ ((NA : Int) + (NB : Int) < 0) := by omega
  go_enter Try.func24, Try.ntmps24
  go_wp2_with fail
  refine wp_loop_rounds 3 ?_
  rw [rounds_succ]
  go_wp2_with fail
  rw [rounds_succ]
  go_wp2_with fail
  rw [rounds_succ]
  go_wp2_with fail
  have gr := b7_grow (NA + NB) (by omega) w
  rw [show ((NA + NB : Nat) : Int) = (NA : Int) + (NB : Int) by omega] at gr
  refine gr.mono ?_
  rintro e u1 ⟨v1, rfl, ho1, hb1⟩
  have d0 := keepc hb1 hg c0
  have d1 := keepc hb1 hg c1
  have ha1 := ha.keep hb1
  have hb2 := hb.keep hb1
  go_wp2_with fail
  refine wp_loop_rounds 3 ?_
  rw [rounds_succ]
  go_wp2_with (at_builtin; refine app_any _ rfl _ _ 22 rfl w.heap.size 5 i0 _ Try.underlying22 hi hz hsz hby rfl _ _ _ rfl ho1 a _ _ _ rfl ha1 (by omega) hb1.size ?_; intro v2 u2 ho2 hg2)
  have kb2 : Below w.heap.size w u2 := Below.own hb1 ho1 hg2
  have e0 := keepc kb2 hg c0
  have e1 := keepc kb2 hg c1
  have hb3 := hb.keep kb2
  clear d0 d1 ha1 hb2 hg2
  rw [rounds_succ]
  go_wp2_with (at_builtin; refine app_any _ rfl _ _ 22 rfl w.heap.size 5 i0 _ Try.underlying22 hi hz hsz hby rfl _ _ _ rfl ho2 b _ _ _ rfl hb3 (by omega) kb2.size ?_; intro v3 u3 ho3 hg3)
  have kb3 : Below w.heap.size w u3 := Below.own kb2 ho2 hg3
  rw [rounds_succ]
  go_wp2_with fail
  go_ret
  refine ⟨_, rfl, ?_, kb3⟩
  have e1 : (a ++ b).length = 0 + NA + NB := by rw [List.length_append, HNA.out, HNB.out]; omega
  have e2 : bytVs (a ++ b) = ([] ++ bytVs a) ++ bytVs b := by simp
  rw [e1, e2]
  exact ho3
end Go.Proofs.Ytnpondgnmoedhaa
