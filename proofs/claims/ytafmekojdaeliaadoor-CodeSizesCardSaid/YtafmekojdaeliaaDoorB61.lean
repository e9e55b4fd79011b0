/- Contracts of layer 6 (code), of the landed code: Len of any runs, Number, Digits. -/
import Derived.Test.YtafmekojdaeliaaDoorR63
import Derived.Test.YtafmekojdaeliaaDoorB5C
set_option linter.unusedVariables false
set_option linter.unusedSimpArgs false
namespace Go.Proofs.YtafmekojdaeliaaDoor
open Go.ChangeShapes Go.WideShapes Go.ChangeAt Go.RowKit
theorem wrap_add (S x : Int) : IntKind.i64.wrap (IntKind.i64.wrap S + x) = IntKind.i64.wrap (S + x) := by
  rw [IntKind.wrap_i64, IntKind.wrap_i64, IntKind.wrap_i64]; omega
theorem wrap_bd (S : Int) : i64 (IntKind.i64.wrap S) := by
  unfold i64; rw [IntKind.wrap_i64]; omega
/-- The sum of Lens, as a machine has it, is asked in place of the sum. -/
theorem wr_wrap (l : List Run) : (decide (IntKind.i64.wrap (sumL l) ≤ 1048576) && mayR l (IntKind.i64.wrap (sumL l))) = wrB l := by
  rw [Bool.eq_iff_iff, wrB_iff, Bool.and_eq_true, decide_eq_true_eq, mayR_iff]
  constructor
  · rintro ⟨h1, h2, h3, h4⟩
    rw [← h3] at h1 h4
    exact ⟨h2, h4, h1⟩
  · rintro ⟨h1, h2, h3⟩
    rw [IntWalk.i64_in (sumL l) (by omega)]
    exact ⟨h3, h1, rfl, h2⟩
theorem b6_len (v : Value) (l : List Run) (hb : ∀ j (h : j < l.length), i64 l[j].1 ∧ i64 l[j].2) (hL : l.length ≤ 100000) (w : World) (hl : RunsAt w v l) : Calls Tryd.prog 27 #[v] w fun e w' => e = .returned (.int .i64 (IntKind.i64.wrap (sumL l))) ∧ Below w.heap.size w w' := by
  obtain ⟨pp, c, rfl, hf⟩ := hl.form
  obtain ⟨N, hN⟩ : ∃ N, l.length = N := ⟨_, rfl⟩
  obtain ⟨R, hR⟩ : ∃ R, IntKind.i64.wrap (sumL l) = R := ⟨_, rfl⟩
  have HN := Lib.hid hN
  have HF := Lib.hid hf
  have HB := Lib.hid hb
  have HR := Lib.hid hR
  rw [hN] at hL
  rw [hN, hR]
  clear hN hf hl hb hR
  go_enter Tryd.func27, Tryd.ntmps27
  go_wp2_with fail
  go_loopw [3, 8] (fun n i wr => ∃ (k : Nat) (s : Int), k ≤ N ∧ i = .int .i64 k ∧ n = .int .i64 s ∧ i64 s ∧ IntKind.i64.wrap (sumL (l.take k)) = s ∧ Below w.heap.size w wr) (fun _ i _ => N - (intOf i).toNat)
  case atStart => exact ⟨0, 0, by omega, rfl, rfl, by decide, by rw [List.take_zero, sumL]; decide, by (repeat (first | with_reducible assumption | with_reducible exact Below.refl _ _ | with_reducible refine Below.drew ?_ | with_reducible refine below_drewN ?_ _ | with_reducible refine al ?_ _ | (with_reducible refine sc ?_ ?_; (focus (first | omega | (simp; done) | (simp; omega)))) | (with_reducible refine chain ?_ (by assumption))))⟩
  case round =>
    obtain ⟨k, s, hk, rfl, rfl, ⟨s0, s1⟩, hs, kw⟩ := hrel
    by_cases hlt : k < N
    · obtain ⟨g, off, rfl, hc, hgg, hx⟩ := HF.out (by rw [HN.out]; omega)
      obtain ⟨h1, h2⟩ := hx k (by rw [HN.out]; exact hlt)
      obtain ⟨⟨b0, b1⟩, _⟩ := HB.out k (by rw [HN.out]; exact hlt)
      have hs2 := sumL_take l k (by rw [HN.out]; exact hlt)
      have h1 := keepc kw hgg h1
      have h2 := keepc kw hgg h2
      have zg : g < wr.heap.size := Nat.lt_of_lt_of_le hgg kw.size
      generalize (l[k]'(by rw [HN.out]; exact hlt)).1 = x at *
      generalize (l[k]'(by rw [HN.out]; exact hlt)).2 = y at *
      have hs3 : IntKind.i64.wrap (sumL (l.take (k + 1))) = IntKind.i64.wrap (s + x) := by rw [hs2, ← wrap_add, hs]
      have hi3 := wrap_bd (s + x)
      obtain ⟨s', hs'⟩ : ∃ s', IntKind.i64.wrap (s + x) = s' := ⟨_, rfl⟩
      rw [hs'] at hs3 hi3
      have HS := Lib.hid hs3
      clear hx hs hs2 hs3
      go_wp2_with fail
      go_roundw
      case rel => exact ⟨k + 1, s', by omega, by go_num, by first | rfl | rw [hs'], hi3, HS.out, by (repeat (first | with_reducible assumption | with_reducible exact Below.refl _ _ | with_reducible refine Below.drew ?_ | with_reducible refine below_drewN ?_ _ | with_reducible refine al ?_ _ | (with_reducible refine sc ?_ ?_; (focus (first | omega | (simp; done) | (simp; omega)))) | (with_reducible refine chain ?_ (by assumption))))⟩
      case measure => simp [intOf]; omega
    · obtain rfl : k = N := by omega
      have e : l.take k = l := by rw [← HN.out, List.take_length]
      rw [e, HR.out] at hs
      subst hs
      go_wp2_with fail
      go_ret
      exact ⟨rfl, by (repeat (first | with_reducible assumption | with_reducible exact Below.refl _ _ | with_reducible refine Below.drew ?_ | with_reducible refine below_drewN ?_ _ | with_reducible refine al ?_ _ | (with_reducible refine sc ?_ ?_; (focus (first | omega | (simp; done) | (simp; omega)))) | (with_reducible refine chain ?_ (by assumption))))⟩
set_option maxHeartbeats 4000000 in
theorem b6_number0 (n : Int) (hn : i64 n) (w : World) : Calls Tryd.prog 21 #[.int .i64 n] w fun e w' =>
    ∃ v', e = .returned v' ∧ w'.ownsRow w.heap.size 5 1 v' (numF n).length (bytVs (numF n)) ∧ Below w.heap.size w w' := by
  obtain ⟨i0, hi, hz, hsz, hby⟩ := byte_info
  by_cases h : n < 0 ∨ 1048576 < n
  · have e : numF n = [] := by unfold numF; rw [if_pos h]
    rw [e]
    clear e
    rcases h with h | h
    · go_enter Tryd.func21, Tryd.ntmps21
      go_wp2
      go_ret
      exact ⟨_, rfl, World.ownsRow_nil _ _ _ _, by (repeat (first | with_reducible assumption | with_reducible exact Below.refl _ _ | with_reducible refine Below.drew ?_ | with_reducible refine below_drewN ?_ _ | with_reducible refine al ?_ _ | (with_reducible refine sc ?_ ?_; (focus (first | omega | (simp; done) | (simp; omega)))) | (with_reducible refine chain ?_ (by assumption))))⟩
    · have h2 : ¬ n < 0 := by omega
      go_enter Tryd.func21, Tryd.ntmps21
      go_wp2
      go_ret
      exact ⟨_, rfl, World.ownsRow_nil _ _ _ _, by (repeat (first | with_reducible assumption | with_reducible exact Below.refl _ _ | with_reducible refine Below.drew ?_ | with_reducible refine below_drewN ?_ _ | with_reducible refine al ?_ _ | (with_reducible refine sc ?_ ?_; (focus (first | omega | (simp; done) | (simp; omega)))) | (with_reducible refine chain ?_ (by assumption))))⟩
  · have h1 : ¬ n < 0 := by omega
    have h2 : ¬ 1048576 < n := by omega
    have b0 : 0 ≤ n := by omega
    have b1 : n ≤ 1048576 := by omega
    by_cases k1 : n < 128
    · have e : numF n = [n] := by unfold numF; rw [if_neg h, if_pos k1]
      rw [e]
      have k2 : ¬ 128 ≤ n := by omega
      have wn : IntKind.u8.wrap n = n := by show n % 256 = n; omega
      clear e h
      go_enter Tryd.func21, Tryd.ntmps21
      go_wp2_with fail
      refine wp_loop_rounds 1 ?_
      rw [rounds_succ]
      go_wp2_with (at_builtin; refine app_byte _ rfl _ _ 25 rfl w.heap.size 5 i0 _ Tryd.underlying25 hi hz hsz hby rfl _ _ _ rfl (World.ownsRow_nil _ _ _ _) w.heap.size (.int .u8 n) rfl (by go_simp) rfl (by omega) (by simp) ?_; intro v1 w1 ho1 hg1)
      go_ret
      exact ⟨_, rfl, ho1, Below.own0 (al (Below.refl _ _) _) hg1⟩
    · have k1' : 128 ≤ n := by omega
      obtain ⟨m, hm⟩ : ∃ m, n / 128 = m := ⟨_, rfl⟩
      obtain ⟨x, hx⟩ : ∃ x, n % 128 = x := ⟨_, rfl⟩
      have bm0 : 0 ≤ m := by omega
      have bm1 : m ≤ 8192 := by omega
      have bx0 : 0 ≤ x := by omega
      have bx1 : x ≤ 127 := by omega
      have wx : IntKind.u8.wrap (128 + x) = 128 + x := by show (128 + x) % 256 = 128 + x; omega
      by_cases k2 : n < 16384
      · have e : numF n = [128 + x, m] := by unfold numF; rw [if_neg h, if_neg k1, if_pos k2, hx, hm]
        rw [e]
        have k3 : m < 128 := by omega
        have k4 : ¬ 128 ≤ m := by omega
        have wm : IntKind.u8.wrap m = m := by show m % 256 = m; omega
        clear e h
        go_enter Tryd.func21, Tryd.ntmps21
        go_wp2_with fail
        refine wp_loop_rounds 2 ?_
        rw [rounds_succ]
        go_wp2_with (at_builtin; refine app_byte _ rfl _ _ 25 rfl w.heap.size 5 i0 _ Tryd.underlying25 hi hz hsz hby rfl _ _ _ rfl (World.ownsRow_nil _ _ _ _) w.heap.size (.int .u8 (128 + x)) rfl (by go_simp) rfl (by omega) (by simp) ?_; intro v1 w1 ho1 hg1)
        have q1 : Below w.heap.size w w1 := Below.own0 (al (Below.refl _ _) _) hg1
        rw [rounds_succ]
        go_wp2_with (at_builtin; refine app_byte _ rfl _ _ 25 rfl w.heap.size 5 i0 _ Tryd.underlying25 hi hz hsz hby rfl _ _ _ rfl (ho1.alloc _) w1.heap.size (.int .u8 m) rfl (by go_simp) rfl (by omega) (by have := q1.size; simp; omega) ?_; intro v2 w2 ho2 hg2)
        go_ret
        exact ⟨_, rfl, ho2, Below.own (al q1 _) (ho1.alloc _) hg2⟩
      · have k2' : 16384 ≤ n := by omega
        obtain ⟨m2, hm2⟩ : ∃ m2, m / 128 = m2 := ⟨_, rfl⟩
        obtain ⟨y, hy⟩ : ∃ y, m % 128 = y := ⟨_, rfl⟩
        have e : numF n = [128 + x, 128 + y, m2] := by
          unfold numF; rw [if_neg h, if_neg k1, if_neg k2, hx, hm, hy]
          congr 3; omega
        rw [e]
        have k3 : 128 ≤ m := by omega
        have k4 : ¬ 128 ≤ m2 := by omega
        have by0 : 0 ≤ y := by omega
        have by1 : y ≤ 127 := by omega
        have bn0 : 0 ≤ m2 := by omega
        have bn1 : m2 < 128 := by omega
        have wm : IntKind.u8.wrap m2 = m2 := by show m2 % 256 = m2; omega
        have wy : IntKind.u8.wrap (128 + y) = 128 + y := by show (128 + y) % 256 = 128 + y; omega
        clear e h
        go_enter Tryd.func21, Tryd.ntmps21
        go_wp2_with fail
        refine wp_loop_rounds 3 ?_
        rw [rounds_succ]
        go_wp2_with (at_builtin; refine app_byte _ rfl _ _ 25 rfl w.heap.size 5 i0 _ Tryd.underlying25 hi hz hsz hby rfl _ _ _ rfl (World.ownsRow_nil _ _ _ _) w.heap.size (.int .u8 (128 + x)) rfl (by go_simp) rfl (by omega) (by simp) ?_; intro v1 w1 ho1 hg1)
        have q1 : Below w.heap.size w w1 := Below.own0 (al (Below.refl _ _) _) hg1
        rw [rounds_succ]
        go_wp2_with (at_builtin; refine app_byte _ rfl _ _ 25 rfl w.heap.size 5 i0 _ Tryd.underlying25 hi hz hsz hby rfl _ _ _ rfl (ho1.alloc _) w1.heap.size (.int .u8 (128 + y)) rfl (by go_simp) rfl (by omega) (by have := q1.size; simp; omega) ?_; intro v2 w2 ho2 hg2)
        have q2 : Below w.heap.size w w2 := Below.own (al q1 _) (ho1.alloc _) hg2
        rw [rounds_succ]
        go_wp2_with (at_builtin; refine app_byte _ rfl _ _ 25 rfl w.heap.size 5 i0 _ Tryd.underlying25 hi hz hsz hby rfl _ _ _ rfl (ho2.alloc _) w2.heap.size (.int .u8 m2) rfl (by go_simp) rfl (by omega) (by have := q2.size; simp; omega) ?_; intro v3 w3 ho3 hg3)
        go_ret
        exact ⟨_, rfl, ho3, Below.own (al q2 _) (ho2.alloc _) hg3⟩
set_option maxHeartbeats 4000000 in
theorem b6_digits0 (v : Value) (b : List Int) (w : World) (hl : BytsAt w v b) (ok : bytOk b) (hL : b.length ≤ maxLen) : Calls Tryd.prog 22 #[v] w fun e w' =>
    e = .returned (.tuple #[.int .i64 (digF b).1, .int .i64 (digF b).2.1, .int .i64 (digF b).2.2]) ∧ Below w.heap.size w w' := by
  unfold maxLen at hL
  cases b with
  | nil =>
    obtain ⟨p, cap, rfl⟩ := hl.shape
    rw [show digF [] = (0, 0, 3) from rfl]
    clear hl
    go_enter Tryd.func22, Tryd.ntmps22
    go_wp2_with fail
    refine wp_loop_rounds 1 ?_
    rw [rounds_succ]
    go_wp2
    exact bodyPost_ret (results_tmp3 rfl _ _ _) rfl ⟨rfl, by (repeat (first | with_reducible assumption | with_reducible exact Below.refl _ _ | with_reducible refine Below.drew ?_ | with_reducible refine below_drewN ?_ _ | with_reducible refine al ?_ _ | (with_reducible refine sc ?_ ?_; (focus (first | omega | (simp; done) | (simp; omega)))) | (with_reducible refine chain ?_ (by assumption))))⟩
  | cons c t =>
    obtain ⟨p, cap, rfl, hf⟩ := hl.form
    obtain ⟨g, off, rfl, hc, hg, hx⟩ := hf (by simp)
    obtain ⟨N, hN⟩ : ∃ N, (c :: t).length = N := ⟨_, rfl⟩
    have bc := ok c (by simp)
    have h0 := hx 0 (by simp)
    simp only [List.getElem_cons_zero, Nat.add_zero] at h0
    have hN1 : (1 : Int) ≤ N := by rw [← hN]; simp; omega
    rw [hN] at hL ⊢
    have h0n : 0 < N := by omega
    have h0z : ¬ (0 : Int) = N := by omega
    have h0y : ¬ 0 = N := by omega
    obtain ⟨bc0, bc1⟩ := bc
    by_cases k1 : c < 128
    · rw [dig1 t k1]
      clear hl hf hx hN
      have nc : ¬ 1048576 < c := by omega
      have nc2 : ¬ 128 ≤ c := by omega
      by_cases kz : c = 0
      · subst kz
        go_enter Tryd.func22, Tryd.ntmps22
        go_wp2_with fail
        refine wp_loop_rounds 1 ?_
        rw [rounds_succ]
        go_wp2
        exact bodyPost_ret (results_tmp3 rfl _ _ _) rfl ⟨rfl, by (repeat (first | with_reducible assumption | with_reducible exact Below.refl _ _ | with_reducible refine Below.drew ?_ | with_reducible refine below_drewN ?_ _ | with_reducible refine al ?_ _ | (with_reducible refine sc ?_ ?_; (focus (first | omega | (simp; done) | (simp; omega)))) | (with_reducible refine chain ?_ (by assumption))))⟩
      · go_enter Tryd.func22, Tryd.ntmps22
        go_wp2_with fail
        refine wp_loop_rounds 1 ?_
        rw [rounds_succ]
        go_wp2
        exact bodyPost_ret (results_tmp3 rfl _ _ _) rfl ⟨rfl, by (repeat (first | with_reducible assumption | with_reducible exact Below.refl _ _ | with_reducible refine Below.drew ?_ | with_reducible refine below_drewN ?_ _ | with_reducible refine al ?_ _ | (with_reducible refine sc ?_ ?_; (focus (first | omega | (simp; done) | (simp; omega)))) | (with_reducible refine chain ?_ (by assumption))))⟩
    · have k1' : 128 ≤ c := by omega
      obtain ⟨x, hx1⟩ : ∃ x, c - 128 = x := ⟨_, rfl⟩
      have hx2 : c % 128 = x := by omega
      have HX2 := Lib.hid hx2
      clear hx2
      have bx0 : 0 ≤ x := by omega
      have bx1 : x ≤ 127 := by omega
      cases t with
      | nil =>
        have hN2 : N = 1 := by rw [← hN]; rfl
        subst hN2
        rw [show digF [c] = (0, 0, 3) by simp only [digF, if_neg k1]]
        clear hl hf hx hN
        go_enter Tryd.func22, Tryd.ntmps22
        go_wp2_with fail
        refine wp_loop_rounds 2 ?_
        rw [rounds_succ]
        go_wp2_with fail
        rw [rounds_succ]
        go_wp2
        exact bodyPost_ret (results_tmp3 rfl _ _ _) rfl ⟨rfl, by (repeat (first | with_reducible assumption | with_reducible exact Below.refl _ _ | with_reducible refine Below.drew ?_ | with_reducible refine below_drewN ?_ _ | with_reducible refine al ?_ _ | (with_reducible refine sc ?_ ?_; (focus (first | omega | (simp; done) | (simp; omega)))) | (with_reducible refine chain ?_ (by assumption))))⟩
      | cons d t =>
        have h1 := hx 1 (by simp)
        simp only [List.getElem_cons_succ, List.getElem_cons_zero] at h1
        obtain ⟨bd0, bd1⟩ := ok d (by simp)
        have hN2 : (2 : Int) ≤ N := by rw [← hN]; simp; omega
        have h1n : 1 < N := by omega
        have h1z : ¬ (1 : Int) = N := by omega
        have h1y : ¬ 1 = N := by omega
        by_cases k2 : d < 128
        · rw [dig2 t k1 k2, HX2.out]
          have k2' : ¬ 128 ≤ d := by omega
          have nd : ¬ 1048576 < x + d * 128 := by omega
          have s0 : 0 ≤ d * 128 := by omega
          have s1 : d * 128 ≤ 32640 := by omega
          have s2 : 0 ≤ x + d * 128 := by omega
          have s3 : x + d * 128 ≤ 100000 := by omega
          clear hl hf hx hN
          by_cases kz : d = 0
          · subst kz
            have nx : ¬ 1048576 < x := by omega
            rw [if_pos rfl]
            go_enter Tryd.func22, Tryd.ntmps22
            go_wp2_with fail
            refine wp_loop_rounds 2 ?_
            rw [rounds_succ]
            go_wp2_with fail
            rw [rounds_succ]
            go_wp2
            exact bodyPost_ret (results_tmp3 rfl _ _ _) rfl ⟨rfl, by (repeat (first | with_reducible assumption | with_reducible exact Below.refl _ _ | with_reducible refine Below.drew ?_ | with_reducible refine below_drewN ?_ _ | with_reducible refine al ?_ _ | (with_reducible refine sc ?_ ?_; (focus (first | omega | (simp; done) | (simp; omega)))) | (with_reducible refine chain ?_ (by assumption))))⟩
          · rw [if_neg kz]
            go_enter Tryd.func22, Tryd.ntmps22
            go_wp2_with fail
            refine wp_loop_rounds 2 ?_
            rw [rounds_succ]
            go_wp2_with fail
            rw [rounds_succ]
            go_wp2
            exact bodyPost_ret (results_tmp3 rfl _ _ _) rfl ⟨rfl, by (repeat (first | with_reducible assumption | with_reducible exact Below.refl _ _ | with_reducible refine Below.drew ?_ | with_reducible refine below_drewN ?_ _ | with_reducible refine al ?_ _ | (with_reducible refine sc ?_ ?_; (focus (first | omega | (simp; done) | (simp; omega)))) | (with_reducible refine chain ?_ (by assumption))))⟩
        · have k2' : 128 ≤ d := by omega
          obtain ⟨y, hy1⟩ : ∃ y, d - 128 = y := ⟨_, rfl⟩
          have hy2 : d % 128 = y := by omega
          have HY2 := Lib.hid hy2
          clear hy2
          have by0 : 0 ≤ y := by omega
          have by1 : y ≤ 127 := by omega
          have s0 : 0 ≤ y * 128 := by omega
          have s1 : y * 128 ≤ 32640 := by omega
          have s2 : 0 ≤ x + y * 128 := by omega
          have s3 : x + y * 128 ≤ 100000 := by omega
          cases t with
          | nil =>
            have hN3 : N = 2 := by rw [← hN]; rfl
            subst hN3
            rw [show digF [c, d] = (0, 0, 3) by simp only [digF, if_neg k1, if_neg k2]]
            clear hl hf hx hN
            go_enter Tryd.func22, Tryd.ntmps22
            go_wp2_with fail
            refine wp_loop_rounds 3 ?_
            rw [rounds_succ]
            go_wp2_with fail
            rw [rounds_succ]
            go_wp2_with fail
            rw [rounds_succ]
            go_wp2
            exact bodyPost_ret (results_tmp3 rfl _ _ _) rfl ⟨rfl, by (repeat (first | with_reducible assumption | with_reducible exact Below.refl _ _ | with_reducible refine Below.drew ?_ | with_reducible refine below_drewN ?_ _ | with_reducible refine al ?_ _ | (with_reducible refine sc ?_ ?_; (focus (first | omega | (simp; done) | (simp; omega)))) | (with_reducible refine chain ?_ (by assumption))))⟩
          | cons e t =>
            have h2 := hx 2 (by simp)
            simp only [List.getElem_cons_succ, List.getElem_cons_zero] at h2
            obtain ⟨be0, be1⟩ := ok e (by simp)
            have hN3 : (3 : Int) ≤ N := by rw [← hN]; simp; omega
            have h2n : 2 < N := by omega
            have h2z : ¬ (2 : Int) = N := by omega
            have h2y : ¬ 2 = N := by omega
            by_cases k3 : e < 128
            · have k3' : ¬ 128 ≤ e := by omega
              have q0 : 0 ≤ e * 16384 := by omega
              have q1 : e * 16384 ≤ 4177920 := by omega
              have q2 : 0 ≤ x + y * 128 + e * 16384 := by omega
              have q3 : x + y * 128 + e * 16384 ≤ 5000000 := by omega
              rw [show digF (c :: d :: e :: t) = if e = 0 ∨ 1048576 < x + y * 128 + e * 16384 then (0, 0, 2) else (x + y * 128 + e * 16384, 3, 0) by simp only [digF, if_neg k1, if_neg k2, if_pos k3, HX2.out, HY2.out]]
              clear hl hf hx hN
              by_cases kz : e = 0
              · subst kz
                have nx : ¬ 1048576 < x + y * 128 := by omega
                rw [if_pos (.inl rfl)]
                clear q0 q1 q2 q3 k3' be0 be1 k3
                go_enter Tryd.func22, Tryd.ntmps22
                go_wp2_with fail
                refine wp_loop_rounds 3 ?_
                rw [rounds_succ]
                go_wp2_with fail
                rw [rounds_succ]
                go_wp2_with fail
                rw [rounds_succ]
                go_wp2
                exact bodyPost_ret (results_tmp3 rfl _ _ _) rfl ⟨rfl, by (repeat (first | with_reducible assumption | with_reducible exact Below.refl _ _ | with_reducible refine Below.drew ?_ | with_reducible refine below_drewN ?_ _ | with_reducible refine al ?_ _ | (with_reducible refine sc ?_ ?_; (focus (first | omega | (simp; done) | (simp; omega)))) | (with_reducible refine chain ?_ (by assumption))))⟩
              · by_cases km : 1048576 < x + y * 128 + e * 16384
                · rw [if_pos (.inr km)]
                  go_enter Tryd.func22, Tryd.ntmps22
                  go_wp2_with fail
                  refine wp_loop_rounds 3 ?_
                  rw [rounds_succ]
                  go_wp2_with fail
                  rw [rounds_succ]
                  go_wp2_with fail
                  rw [rounds_succ]
                  go_wp2
                  exact bodyPost_ret (results_tmp3 rfl _ _ _) rfl ⟨rfl, by (repeat (first | with_reducible assumption | with_reducible exact Below.refl _ _ | with_reducible refine Below.drew ?_ | with_reducible refine below_drewN ?_ _ | with_reducible refine al ?_ _ | (with_reducible refine sc ?_ ?_; (focus (first | omega | (simp; done) | (simp; omega)))) | (with_reducible refine chain ?_ (by assumption))))⟩
                · rw [if_neg (by rintro (h | h); exact kz h; exact km h)]
                  go_enter Tryd.func22, Tryd.ntmps22
                  go_wp2_with fail
                  refine wp_loop_rounds 3 ?_
                  rw [rounds_succ]
                  go_wp2_with fail
                  rw [rounds_succ]
                  go_wp2_with fail
                  rw [rounds_succ]
                  go_wp2
                  exact bodyPost_ret (results_tmp3 rfl _ _ _) rfl ⟨rfl, by (repeat (first | with_reducible assumption | with_reducible exact Below.refl _ _ | with_reducible refine Below.drew ?_ | with_reducible refine below_drewN ?_ _ | with_reducible refine al ?_ _ | (with_reducible refine sc ?_ ?_; (focus (first | omega | (simp; done) | (simp; omega)))) | (with_reducible refine chain ?_ (by assumption))))⟩
            · have k3' : 128 ≤ e := by omega
              obtain ⟨z, hz1⟩ : ∃ z, e - 128 = z := ⟨_, rfl⟩
              have bz0 : 0 ≤ z := by omega
              have bz1 : z ≤ 127 := by omega
              have q0 : 0 ≤ z * 16384 := by omega
              have q1 : z * 16384 ≤ 4177920 := by omega
              have q2 : 0 ≤ x + y * 128 + z * 16384 := by omega
              have q3 : x + y * 128 + z * 16384 ≤ 5000000 := by omega
              rw [show digF (c :: d :: e :: t) = (0, 0, 2) by simp only [digF, if_neg k1, if_neg k2, if_neg k3]]
              clear hl hf hx hN
              go_enter Tryd.func22, Tryd.ntmps22
              go_wp2_with fail
              refine wp_loop_rounds 4 ?_
              rw [rounds_succ]
              go_wp2_with fail
              rw [rounds_succ]
              go_wp2_with fail
              rw [rounds_succ]
              go_wp2_with fail
              rw [rounds_succ]
              go_wp2
              exact bodyPost_ret (results_tmp3 rfl _ _ _) rfl ⟨rfl, by (repeat (first | with_reducible assumption | with_reducible exact Below.refl _ _ | with_reducible refine Below.drew ?_ | with_reducible refine below_drewN ?_ _ | with_reducible refine al ?_ _ | (with_reducible refine sc ?_ ?_; (focus (first | omega | (simp; done) | (simp; omega)))) | (with_reducible refine chain ?_ (by assumption))))⟩
end Go.Proofs.YtafmekojdaeliaaDoor
