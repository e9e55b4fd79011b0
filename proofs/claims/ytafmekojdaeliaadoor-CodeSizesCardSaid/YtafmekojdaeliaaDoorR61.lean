/- Contracts of layer 6's reference (code): Number. -/
import Derived.Test.YtafmekojdaeliaaDoorR60
set_option linter.unusedVariables false
set_option linter.unusedSimpArgs false
namespace Go.Proofs.YtafmekojdaeliaaDoor
open Go.ChangeShapes Go.WideShapes Go.ChangeAt Go.RowKit
set_option maxHeartbeats 4000000 in
theorem r6_number (n : Int) (hn : i64 n) (w : World) : Calls Tryd.prog 24 #[.int .i64 n] w fun e w' =>
    ∃ v', e = .returned v' ∧ w'.ownsRow w.heap.size 5 1 v' (numF n).length (bytVs (numF n)) ∧ Below w.heap.size w w' := by
  obtain ⟨i0, hi, hz, hsz, hby⟩ := byte_info
  by_cases h : n < 0 ∨ 1048576 < n
  · have e : numF n = [] := by unfold numF; rw [if_pos h]
    rw [e]
    clear e
    rcases h with h | h
    · go_enter Tryd.func24, Tryd.ntmps24
      go_wp2
      go_ret
      exact ⟨_, rfl, World.ownsRow_nil _ _ _ _, by (repeat (first | with_reducible assumption | with_reducible exact Below.refl _ _ | with_reducible refine Below.drew ?_ | with_reducible refine below_drewN ?_ _ | with_reducible refine al ?_ _ | (with_reducible refine sc ?_ ?_; (focus (first | omega | (simp; done) | (simp; omega)))) | (with_reducible refine chain ?_ (by assumption))))⟩
    · have h2 : ¬ n < 0 := by omega
      go_enter Tryd.func24, Tryd.ntmps24
      go_wp2
      go_ret
      exact ⟨_, rfl, World.ownsRow_nil _ _ _ _, by (repeat (first | with_reducible assumption | with_reducible exact Below.refl _ _ | with_reducible refine Below.drew ?_ | with_reducible refine below_drewN ?_ _ | with_reducible refine al ?_ _ | (with_reducible refine sc ?_ ?_; (focus (first | omega | (simp; done) | (simp; omega)))) | (with_reducible refine chain ?_ (by assumption))))⟩
  · have h1 : ¬ n < 0 := by omega
    have h2 : ¬ 1048576 < n := by omega
    have b0 : 0 ≤ n := by omega
    have b1 : n ≤ 1048576 := by omega
    by_cases k1 : n < 128
    · have e : numF n = [n] := by unfold numF; rw [if_neg h, if_pos k1]
      rw [e]
      have wn : IntKind.u8.wrap n = n := by show n % 256 = n; omega
      clear e h
      go_enter Tryd.func24, Tryd.ntmps24
      go_wp2_with fail
      refine wp_loop_rounds 1 ?_
      rw [rounds_succ]
      go_wp2_with (at_builtin; refine app_byte _ rfl _ _ 25 rfl w.heap.size 5 i0 _ Tryd.underlying25 hi hz hsz hby rfl _ _ _ rfl (World.ownsRow_nil _ _ _ _) w.heap.size (.int .u8 n) rfl (by go_simp) rfl (by omega) (by simp) ?_; intro v1 w1 ho1 hg1)
      go_ret
      exact ⟨_, rfl, ho1, Below.own0 (al (Below.refl _ _) _) hg1⟩
    · have k1' : 128 ≤ n := by omega
      obtain ⟨m, hm⟩ : ∃ m, n / 128 = m := ⟨_, rfl⟩
      obtain ⟨x, hx⟩ : ∃ x, n % 128 = x := ⟨_, rfl⟩
      have bm0 : 0 ≤ m := by omega
      have bm1 : m ≤ 8192 := by omega
      have bx0 : 0 ≤ x := by omega
      have bx1 : x ≤ 127 := by omega
      have wx : IntKind.u8.wrap (128 + x) = 128 + x := by show (128 + x) % 256 = 128 + x; omega
      by_cases k2 : n < 16384
      · have e : numF n = [128 + x, m] := by unfold numF; rw [if_neg h, if_neg k1, if_pos k2, hx, hm]
        rw [e]
        have k3 : m < 128 := by omega
        have wm : IntKind.u8.wrap m = m := by show m % 256 = m; omega
        clear e h
        go_enter Tryd.func24, Tryd.ntmps24
        go_wp2_with fail
        refine wp_loop_rounds 2 ?_
        rw [rounds_succ]
        go_wp2_with (at_builtin; refine app_byte _ rfl _ _ 25 rfl w.heap.size 5 i0 _ Tryd.underlying25 hi hz hsz hby rfl _ _ _ rfl (World.ownsRow_nil _ _ _ _) w.heap.size (.int .u8 (128 + x)) rfl (by go_simp) rfl (by omega) (by simp) ?_; intro v1 w1 ho1 hg1)
        have q1 : Below w.heap.size w w1 := Below.own0 (al (Below.refl _ _) _) hg1
        rw [rounds_succ]
        go_wp2_with (at_builtin; refine app_byte _ rfl _ _ 25 rfl w.heap.size 5 i0 _ Tryd.underlying25 hi hz hsz hby rfl _ _ _ rfl (ho1.alloc _) w1.heap.size (.int .u8 m) rfl (by go_simp) rfl (by omega) (by have := q1.size; simp; omega) ?_; intro v2 w2 ho2 hg2)
        go_ret
        exact ⟨_, rfl, ho2, Below.own (al q1 _) (ho1.alloc _) hg2⟩
      · have k2' : 16384 ≤ n := by omega
        obtain ⟨m2, hm2⟩ : ∃ m2, m / 128 = m2 := ⟨_, rfl⟩
        obtain ⟨y, hy⟩ : ∃ y, m % 128 = y := ⟨_, rfl⟩
        have e : numF n = [128 + x, 128 + y, m2] := by
          unfold numF; rw [if_neg h, if_neg k1, if_neg k2, hx, hm, hy]
          congr 3; omega
        rw [e]
        have k3 : ¬ m < 128 := by omega
        have k4 : m2 < 128 := by omega
        have by0 : 0 ≤ y := by omega
        have by1 : y ≤ 127 := by omega
        have bn0 : 0 ≤ m2 := by omega
        have wm : IntKind.u8.wrap m2 = m2 := by show m2 % 256 = m2; omega
        have wy : IntKind.u8.wrap (128 + y) = 128 + y := by show (128 + y) % 256 = 128 + y; omega
        clear e h
        go_enter Tryd.func24, Tryd.ntmps24
        go_wp2_with fail
        refine wp_loop_rounds 3 ?_
        rw [rounds_succ]
        go_wp2_with (at_builtin; refine app_byte _ rfl _ _ 25 rfl w.heap.size 5 i0 _ Tryd.underlying25 hi hz hsz hby rfl _ _ _ rfl (World.ownsRow_nil _ _ _ _) w.heap.size (.int .u8 (128 + x)) rfl (by go_simp) rfl (by omega) (by simp) ?_; intro v1 w1 ho1 hg1)
        have q1 : Below w.heap.size w w1 := Below.own0 (al (Below.refl _ _) _) hg1
        rw [rounds_succ]
        go_wp2_with (at_builtin; refine app_byte _ rfl _ _ 25 rfl w.heap.size 5 i0 _ Tryd.underlying25 hi hz hsz hby rfl _ _ _ rfl (ho1.alloc _) w1.heap.size (.int .u8 (128 + y)) rfl (by go_simp) rfl (by omega) (by have := q1.size; simp; omega) ?_; intro v2 w2 ho2 hg2)
        have q2 : Below w.heap.size w w2 := Below.own (al q1 _) (ho1.alloc _) hg2
        rw [rounds_succ]
        go_wp2_with (at_builtin; refine app_byte _ rfl _ _ 25 rfl w.heap.size 5 i0 _ Tryd.underlying25 hi hz hsz hby rfl _ _ _ rfl (ho2.alloc _) w2.heap.size (.int .u8 m2) rfl (by go_simp) rfl (by omega) (by have := q2.size; simp; omega) ?_; intro v3 w3 ho3 hg3)
        go_ret
        exact ⟨_, rfl, ho3, Below.own (al q2 _) (ho2.alloc _) hg3⟩
end Go.Proofs.YtafmekojdaeliaaDoor
