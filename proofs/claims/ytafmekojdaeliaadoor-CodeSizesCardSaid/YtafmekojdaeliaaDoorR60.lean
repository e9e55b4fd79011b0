/- Contracts of layer 6's reference (code): Digits. -/
import Derived.Test.YtafmekojdaeliaaDoorK06
import Derived.Test.YtafmekojdaeliaaDoorR6B
import Derived.Test.YtafmekojdaeliaaDoorR50
set_option linter.unusedVariables false
set_option linter.unusedSimpArgs false
namespace Go.Proofs.YtafmekojdaeliaaDoor
open Go.ChangeShapes Go.WideShapes Go.ChangeAt Go.RowKit
theorem dig1 {c : Int} (t : List Int) (h : c < 128) : digF (c :: t) = (c, 1, 0) := by
  match t with
  | [] => simp [digF, h]
  | [_] => simp [digF, h]
  | _ :: _ :: _ => simp [digF, h]
theorem dig2 {c d : Int} (t : List Int) (h : ¬ c < 128) (h2 : d < 128) : digF (c :: d :: t) = if d = 0 then (0, 0, 2) else (c % 128 + d * 128, 2, 0) := by
  match t with
  | [] => simp only [digF, if_neg h, if_pos h2]
  | _ :: _ => simp only [digF, if_neg h, if_pos h2]
set_option maxHeartbeats 4000000 in
theorem r6_digits (v : Value) (b : List Int) (w : World) (hl : BytsAt w v b) (ok : bytOk b) (hL : b.length ≤ maxLen) : Calls Tryd.prog 23 #[v] w fun e w' =>
    e = .returned (.tuple #[.int .i64 (digF b).1, .int .i64 (digF b).2.1, .int .i64 (digF b).2.2]) ∧ Below w.heap.size w w' := by
  unfold maxLen at hL
  cases b with
  | nil =>
    obtain ⟨p, cap, rfl⟩ := hl.shape
    rw [show digF [] = (0, 0, 3) from rfl]
    clear hl
    go_enter Tryd.func23, Tryd.ntmps23
    go_wp2_with fail
    refine wp_loop_rounds 1 ?_
    rw [rounds_succ]
    go_wp2
    exact bodyPost_ret (results_tmp3 rfl _ _ _) rfl ⟨rfl, by (repeat (first | with_reducible assumption | with_reducible exact Below.refl _ _ | with_reducible refine Below.drew ?_ | with_reducible refine below_drewN ?_ _ | with_reducible refine al ?_ _ | (with_reducible refine sc ?_ ?_; (focus (first | omega | (simp; done) | (simp; omega)))) | (with_reducible refine chain ?_ (by assumption))))⟩
  | cons c t =>
    obtain ⟨p, cap, rfl, hf⟩ := hl.form
    obtain ⟨g, off, rfl, hc, hg, hx⟩ := hf (by simp)
    obtain ⟨N, hN⟩ : ∃ N, (c :: t).length = N := ⟨_, rfl⟩
    have bc := ok c (by simp)
    have h0 := hx 0 (by simp)
    simp only [List.getElem_cons_zero, Nat.add_zero] at h0
    have hN1 : (1 : Int) ≤ N := by rw [← hN]; simp; omega
    rw [hN] at hL ⊢
    have h0n : 0 < N := by omega
    obtain ⟨bc0, bc1⟩ := bc
    by_cases k1 : c < 128
    · rw [dig1 t k1]
      clear hl hf hx hN
      have e1 : c % 128 = c := by omega
      have nc : ¬ 1048576 < c := by omega
      have nc2 : ¬ 128 ≤ c := by omega
      by_cases kz : c = 0
      · subst kz
        go_enter Tryd.func23, Tryd.ntmps23
        go_wp2_with fail
        refine wp_loop_rounds 1 ?_
        rw [rounds_succ]
        go_wp2
        exact bodyPost_ret (results_tmp3 rfl _ _ _) rfl ⟨rfl, by (repeat (first | with_reducible assumption | with_reducible exact Below.refl _ _ | with_reducible refine Below.drew ?_ | with_reducible refine below_drewN ?_ _ | with_reducible refine al ?_ _ | (with_reducible refine sc ?_ ?_; (focus (first | omega | (simp; done) | (simp; omega)))) | (with_reducible refine chain ?_ (by assumption))))⟩
      · go_enter Tryd.func23, Tryd.ntmps23
        go_wp2_with fail
        refine wp_loop_rounds 1 ?_
        rw [rounds_succ]
        go_wp2
        exact bodyPost_ret (results_tmp3 rfl _ _ _) rfl ⟨rfl, by (repeat (first | with_reducible assumption | with_reducible exact Below.refl _ _ | with_reducible refine Below.drew ?_ | with_reducible refine below_drewN ?_ _ | with_reducible refine al ?_ _ | (with_reducible refine sc ?_ ?_; (focus (first | omega | (simp; done) | (simp; omega)))) | (with_reducible refine chain ?_ (by assumption))))⟩
    · have k1' : 128 ≤ c := by omega
      obtain ⟨x, hx1⟩ : ∃ x, c % 128 = x := ⟨_, rfl⟩
      have bx0 : 0 ≤ x := by omega
      have bx1 : x ≤ 127 := by omega
      cases t with
      | nil =>
        have hN2 : N = 1 := by rw [← hN]; rfl
        subst hN2
        rw [show digF [c] = (0, 0, 3) by simp only [digF, if_neg k1]]
        clear hl hf hx hN
        go_enter Tryd.func23, Tryd.ntmps23
        go_wp2_with fail
        refine wp_loop_rounds 2 ?_
        rw [rounds_succ]
        go_wp2_with fail
        rw [rounds_succ]
        go_wp2
        exact bodyPost_ret (results_tmp3 rfl _ _ _) rfl ⟨rfl, by (repeat (first | with_reducible assumption | with_reducible exact Below.refl _ _ | with_reducible refine Below.drew ?_ | with_reducible refine below_drewN ?_ _ | with_reducible refine al ?_ _ | (with_reducible refine sc ?_ ?_; (focus (first | omega | (simp; done) | (simp; omega)))) | (with_reducible refine chain ?_ (by assumption))))⟩
      | cons d t =>
        have h1 := hx 1 (by simp)
        simp only [List.getElem_cons_succ, List.getElem_cons_zero] at h1
        obtain ⟨bd0, bd1⟩ := ok d (by simp)
        have hN2 : (2 : Int) ≤ N := by rw [← hN]; simp; omega
        have h1n : 1 < N := by omega
        by_cases k2 : d < 128
        · rw [dig2 t k1 k2, hx1]
          have e2 : d % 128 = d := by omega
          have k2' : ¬ 128 ≤ d := by omega
          have nd : ¬ 1048576 < x + d * 128 := by omega
          have s0 : 0 ≤ d * 128 := by omega
          have s1 : d * 128 ≤ 32640 := by omega
          have s2 : 0 ≤ x + d * 128 := by omega
          have s3 : x + d * 128 ≤ 100000 := by omega
          clear hl hf hx hN
          by_cases kz : d = 0
          · subst kz
            rw [if_pos rfl]
            go_enter Tryd.func23, Tryd.ntmps23
            go_wp2_with fail
            refine wp_loop_rounds 2 ?_
            rw [rounds_succ]
            go_wp2_with fail
            rw [rounds_succ]
            go_wp2
            exact bodyPost_ret (results_tmp3 rfl _ _ _) rfl ⟨rfl, by (repeat (first | with_reducible assumption | with_reducible exact Below.refl _ _ | with_reducible refine Below.drew ?_ | with_reducible refine below_drewN ?_ _ | with_reducible refine al ?_ _ | (with_reducible refine sc ?_ ?_; (focus (first | omega | (simp; done) | (simp; omega)))) | (with_reducible refine chain ?_ (by assumption))))⟩
          · rw [if_neg kz]
            go_enter Tryd.func23, Tryd.ntmps23
            go_wp2_with fail
            refine wp_loop_rounds 2 ?_
            rw [rounds_succ]
            go_wp2_with fail
            rw [rounds_succ]
            go_wp2
            exact bodyPost_ret (results_tmp3 rfl _ _ _) rfl ⟨rfl, by (repeat (first | with_reducible assumption | with_reducible exact Below.refl _ _ | with_reducible refine Below.drew ?_ | with_reducible refine below_drewN ?_ _ | with_reducible refine al ?_ _ | (with_reducible refine sc ?_ ?_; (focus (first | omega | (simp; done) | (simp; omega)))) | (with_reducible refine chain ?_ (by assumption))))⟩
        · have k2' : 128 ≤ d := by omega
          obtain ⟨y, hy1⟩ : ∃ y, d % 128 = y := ⟨_, rfl⟩
          have by0 : 0 ≤ y := by omega
          have by1 : y ≤ 127 := by omega
          have s0 : 0 ≤ y * 128 := by omega
          have s1 : y * 128 ≤ 32640 := by omega
          have s2 : 0 ≤ x + y * 128 := by omega
          have s3 : x + y * 128 ≤ 100000 := by omega
          cases t with
          | nil =>
            have hN3 : N = 2 := by rw [← hN]; rfl
            subst hN3
            rw [show digF [c, d] = (0, 0, 3) by simp only [digF, if_neg k1, if_neg k2]]
            clear hl hf hx hN
            go_enter Tryd.func23, Tryd.ntmps23
            go_wp2_with fail
            refine wp_loop_rounds 3 ?_
            rw [rounds_succ]
            go_wp2_with fail
            rw [rounds_succ]
            go_wp2_with fail
            rw [rounds_succ]
            go_wp2
            exact bodyPost_ret (results_tmp3 rfl _ _ _) rfl ⟨rfl, by (repeat (first | with_reducible assumption | with_reducible exact Below.refl _ _ | with_reducible refine Below.drew ?_ | with_reducible refine below_drewN ?_ _ | with_reducible refine al ?_ _ | (with_reducible refine sc ?_ ?_; (focus (first | omega | (simp; done) | (simp; omega)))) | (with_reducible refine chain ?_ (by assumption))))⟩
          | cons e t =>
            have h2 := hx 2 (by simp)
            simp only [List.getElem_cons_succ, List.getElem_cons_zero] at h2
            obtain ⟨be0, be1⟩ := ok e (by simp)
            have hN3 : (3 : Int) ≤ N := by rw [← hN]; simp; omega
            have h2n : 2 < N := by omega
            by_cases k3 : e < 128
            · have e2 : e % 128 = e := by omega
              have k3' : ¬ 128 ≤ e := by omega
              have q0 : 0 ≤ e * 16384 := by omega
              have q1 : e * 16384 ≤ 4177920 := by omega
              have q2 : 0 ≤ x + y * 128 + e * 16384 := by omega
              have q3 : x + y * 128 + e * 16384 ≤ 5000000 := by omega
              rw [show digF (c :: d :: e :: t) = if e = 0 ∨ 1048576 < x + y * 128 + e * 16384 then (0, 0, 2) else (x + y * 128 + e * 16384, 3, 0) by simp only [digF, if_neg k1, if_neg k2, if_pos k3, hx1, hy1]]
              clear hl hf hx hN
              by_cases kz : e = 0
              · subst kz
                rw [if_pos (.inl rfl)]
                clear q0 q1 q2 q3 e2 k3' be0 be1 k3
                go_enter Tryd.func23, Tryd.ntmps23
                go_wp2_with fail
                refine wp_loop_rounds 3 ?_
                rw [rounds_succ]
                go_wp2_with fail
                rw [rounds_succ]
                go_wp2_with fail
                rw [rounds_succ]
                go_wp2
                exact bodyPost_ret (results_tmp3 rfl _ _ _) rfl ⟨rfl, by (repeat (first | with_reducible assumption | with_reducible exact Below.refl _ _ | with_reducible refine Below.drew ?_ | with_reducible refine below_drewN ?_ _ | with_reducible refine al ?_ _ | (with_reducible refine sc ?_ ?_; (focus (first | omega | (simp; done) | (simp; omega)))) | (with_reducible refine chain ?_ (by assumption))))⟩
              · by_cases km : 1048576 < x + y * 128 + e * 16384
                · rw [if_pos (.inr km)]
                  go_enter Tryd.func23, Tryd.ntmps23
                  go_wp2_with fail
                  refine wp_loop_rounds 3 ?_
                  rw [rounds_succ]
                  go_wp2_with fail
                  rw [rounds_succ]
                  go_wp2_with fail
                  rw [rounds_succ]
                  go_wp2
                  exact bodyPost_ret (results_tmp3 rfl _ _ _) rfl ⟨rfl, by (repeat (first | with_reducible assumption | with_reducible exact Below.refl _ _ | with_reducible refine Below.drew ?_ | with_reducible refine below_drewN ?_ _ | with_reducible refine al ?_ _ | (with_reducible refine sc ?_ ?_; (focus (first | omega | (simp; done) | (simp; omega)))) | (with_reducible refine chain ?_ (by assumption))))⟩
                · rw [if_neg (by rintro (h | h); exact kz h; exact km h)]
                  go_enter Tryd.func23, Tryd.ntmps23
                  go_wp2_with fail
                  refine wp_loop_rounds 3 ?_
                  rw [rounds_succ]
                  go_wp2_with fail
                  rw [rounds_succ]
                  go_wp2_with fail
                  rw [rounds_succ]
                  go_wp2
                  exact bodyPost_ret (results_tmp3 rfl _ _ _) rfl ⟨rfl, by (repeat (first | with_reducible assumption | with_reducible exact Below.refl _ _ | with_reducible refine Below.drew ?_ | with_reducible refine below_drewN ?_ _ | with_reducible refine al ?_ _ | (with_reducible refine sc ?_ ?_; (focus (first | omega | (simp; done) | (simp; omega)))) | (with_reducible refine chain ?_ (by assumption))))⟩
            · have k3' : 128 ≤ e := by omega
              obtain ⟨z, hz1⟩ : ∃ z, e % 128 = z := ⟨_, rfl⟩
              have bz0 : 0 ≤ z := by omega
              have bz1 : z ≤ 127 := by omega
              have q0 : 0 ≤ z * 16384 := by omega
              have q1 : z * 16384 ≤ 4177920 := by omega
              have q2 : 0 ≤ x + y * 128 + z * 16384 := by omega
              have q3 : x + y * 128 + z * 16384 ≤ 5000000 := by omega
              rw [show digF (c :: d :: e :: t) = (0, 0, 2) by simp only [digF, if_neg k1, if_neg k2, if_neg k3]]
              clear hl hf hx hN
              go_enter Tryd.func23, Tryd.ntmps23
              go_wp2_with fail
              refine wp_loop_rounds 4 ?_
              rw [rounds_succ]
              go_wp2_with fail
              rw [rounds_succ]
              go_wp2_with fail
              rw [rounds_succ]
              go_wp2_with fail
              rw [rounds_succ]
              go_wp2
              exact bodyPost_ret (results_tmp3 rfl _ _ _) rfl ⟨rfl, by (repeat (first | with_reducible assumption | with_reducible exact Below.refl _ _ | with_reducible refine Below.drew ?_ | with_reducible refine below_drewN ?_ _ | with_reducible refine al ?_ _ | (with_reducible refine sc ?_ ?_; (focus (first | omega | (simp; done) | (simp; omega)))) | (with_reducible refine chain ?_ (by assumption))))⟩
end Go.Proofs.YtafmekojdaeliaaDoor
