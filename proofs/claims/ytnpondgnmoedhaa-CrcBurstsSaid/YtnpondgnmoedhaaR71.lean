/- Contracts of layer 7's reference (crc): Put, Take. -/
import Derived.Test.YtnpondgnmoedhaaR70
set_option linter.unusedVariables false
set_option linter.unusedSimpArgs false
namespace Go.Proofs.Ytnpondgnmoedhaa
open Go.ChangeShapes Go.WideShapes Go.ChangeAt Go.RowKit
set_option maxHeartbeats 4000000 in
theorem r7_put (v : Value) (l : List Int) (w : World) (hl : BytsAt w v l) (ok : bytOk l) (hL : l.length ≤ 100000) : Calls Try.prog 18 #[v] w fun e w' =>
    ∃ v', e = .returned v' ∧ w'.ownsRow w.heap.size 5 1 v' (sealF l).length (bytVs (sealF l)) ∧ Below w.heap.size w w' := by
  obtain ⟨i0, hi, hz, hsz, hby⟩ := byte_info
  obtain ⟨p, cap, rfl⟩ := hl.shape
  have hof := r7_of _ l w hl ok (by unfold maxLen; omega)
  have h0 := hiC_bd (ofV l)
  have h1 := loC_bd (ofV l)
  have q0 : (((ofV l).toNat : Int)) / 256 = hiC (ofV l) := by unfold hiC; omega
  have q1 : (((ofV l).toNat : Int)) % 256 = loC (ofV l) := by unfold loC; omega
  have hlt := (ofV l).isLt
  have hlt2 : (((ofV l).toNat : Int)) ≤ 65535 := by omega
  obtain ⟨C, hC⟩ : ∃ C : Int, ((ofV l).toNat : Int) = C := ⟨_, rfl⟩
  have c0 : 0 ≤ C := by omega
  rw [hC] at hof q0 q1 hlt2
  have hP : sealF l = l ++ [hiC (ofV l), loC (ofV l)] := rfl
  obtain ⟨H, hH⟩ : ∃ H, hiC (ofV l) = H := ⟨_, rfl⟩
  obtain ⟨O, hO⟩ : ∃ H, loC (ofV l) = H := ⟨_, rfl⟩
  rw [hH] at h0 q0 hP
  rw [hO] at h1 q1 hP
  rw [hP]
  obtain ⟨h00, h01⟩ := h0
  obtain ⟨h10, h11⟩ := h1
  have w0 : IntKind.u8.wrap H = H := by show H % 256 = H; omega
  have w1 : IntKind.u8.wrap O = O := by show O % 256 = O; omega
  obtain ⟨N, hN⟩ : ∃ N, l.length = N := ⟨_, rfl⟩
  have HOF := Lib.hid hof
  have HN := Lib.hid hN
  rw [hN] at hl HOF hL ⊢
  clear hof hlt hC hH hO hP hN
  go_enter Try.func18, Try.ntmps18
  go_wp2_with fail
  refine HOF.out.mono ?_
  rintro e w' ⟨rfl, rfl⟩
  go_wp2_with (at_builtin; first | (refine app_any _ rfl _ _ 22 rfl w.heap.size 5 i0 _ Try.underlying22 hi hz hsz hby rfl _ _ _ rfl (World.ownsRow_nil _ _ _ _) l _ _ _ rfl hl (by omega) (Nat.le_refl _) ?_; intro v1 w2 ho1 hg1; have k1 : Below w.heap.size w w2 := Below.own0 (Below.refl _ _) hg1; clear hg1 hl) | (refine app_bytes _ rfl _ _ 22 rfl w.heap.size 5 i0 _ Try.underlying22 hi hz hsz hby rfl _ _ _ rfl (ho1.alloc _) [H, O] _ _ _ rfl (.inr ⟨_, 0, 2, rfl, by simp, by simp, fun j hj => by match j, hj with | 0, _ | 1, _ => simp [go_sem]⟩) (by omega) (by omega) (by have := k1.size; simp; omega) ?_; intro v2 w3 ho2 hg2; have k2 : Below w.heap.size w w3 := Below.own (al k1 _) (ho1.alloc _) hg2))
  go_ret
  refine ⟨_, rfl, ?_, k2⟩
  have e1 : (l ++ [H, O]).length = 0 + N + 2 := by rw [List.length_append, HN.out]; simp
  have e2 : bytVs (l ++ [H, O]) = ([] ++ bytVs l) ++ bytVs [H, O] := by simp
  rw [e1, e2]
  exact ho2
set_option maxHeartbeats 4000000 in
theorem r7_take (v : Value) (l : List Int) (w : World) (hl : BytsAt w v l) (ok : bytOk l) (hL : l.length ≤ 100000) : Calls Try.prog 21 #[v] w fun e w' =>
    ∃ v', e = .returned (.tuple #[v', .int .i64 (takeE l)]) ∧ BytsAt w' v' (takeF l) ∧ Below w.heap.size w w' := by
  obtain ⟨p, cap, rfl, hf⟩ := hl.form
  by_cases h2 : l.length < 2
  · have e : takeE l = 3 := by unfold takeE; rw [if_pos h2]
    have e2 : takeF l = [] := by unfold takeF goodB; rw [if_neg (by simp; omega)]
    rw [e, e2]
    obtain ⟨N, hN⟩ : ∃ N, l.length = N := ⟨_, rfl⟩
    rw [hN] at h2 ⊢
    have hi2 : (N : Int) - 2 < 0 := by omega
    have hi3 : -2 ≤ (N : Int) - 2 := by omega
    clear hl hf hN e e2 ok
    go_enter Try.func21, Try.ntmps21
    go_wp2
    go_ret2
    exact ⟨_, rfl, BytsAt.nil, by (repeat (first | with_reducible assumption | with_reducible exact Below.refl _ _ | with_reducible refine Below.drew ?_ | with_reducible refine below_drewN ?_ _ | with_reducible refine al ?_ _ | (with_reducible refine sc ?_ ?_; (focus (first | omega | (simp; done) | (simp; omega)))) | (with_reducible refine chain ?_ (by assumption))))⟩
  · obtain ⟨g, off, rfl, hc, hg, hx⟩ := hf (by omega)
    have lt := last_two (by omega) ok
    have h1 := hx (l.length - 2) (by omega)
    have h3 := hx (l.length - 1) (by omega)
    have b1 := ok l[l.length - 2] (List.getElem_mem _)
    have b3 := ok l[l.length - 1] (List.getElem_mem _)
    obtain ⟨n, hn⟩ : ∃ n, l.length = n + 2 := ⟨l.length - 2, by omega⟩
    have ht := (hl.take (k := n) (by omega))
    have hof := fun u (hu : Below w.heap.size w u) => r7_of _ (l.take n) u (ht.keep hu) (ok.take n) (by rw [List.length_take]; unfold maxLen; omega)
    have e : takeE l = if ofV l = 0#16 then 0 else 4 := by unfold takeE; rw [if_neg h2]
    have e2 : takeF l = if ofV l = 0#16 then l.take n else [] := by
      unfold takeF goodB
      by_cases hz : ofV l = 0#16
      · rw [if_pos (by simp [hz]; omega), if_pos hz, show l.length - 2 = n by omega]
      · rw [if_neg (by simp [hz]), if_neg hz]
    simp only [show l.length - 2 = n by omega, show l.length - 1 = n + 1 by omega] at lt h1 h3 b1 b3
    obtain ⟨x, hx1⟩ : ∃ x, (l[n]'(by omega)) = x := ⟨_, rfl⟩
    obtain ⟨y, hy1⟩ : ∃ x, (l[n + 1]'(by omega)) = x := ⟨_, rfl⟩
    rw [hx1] at lt h1 b1
    rw [hy1] at lt h3 b3
    obtain ⟨C, hC⟩ : ∃ C : Int, ((ofV (l.take n)).toNat : Int) = C := ⟨_, rfl⟩
    rw [hC] at lt hof
    obtain ⟨b10, b11⟩ := b1
    obtain ⟨b30, b31⟩ := b3
    have hne : (x * 256 + y != C) = !decide (ofV l = 0#16) := by
      rw [bne, ← Bool.beq_eq_decide_eq] at * <;> first | rfl | skip
      all_goals
        congr 1
        rw [Bool.eq_iff_iff]
        simp only [beq_iff_eq, decide_eq_true_eq]
        exact lt
    obtain ⟨M, hM⟩ : ∃ M, n + 2 = M := ⟨_, rfl⟩
    have m0 : (n : Int) < M := by omega
    have m1 : (n : Int) + 1 < M := by omega
    have m2 : n < M := by omega
    have m3 : n + 1 < M := by omega
    rw [e, e2, hn, hM]
    rw [hn, hM] at hc
    have hcap : (n : Int) ≤ cap := by omega
    have h3' : w.cell? ⟨g, off + (n + 1), none⟩ = some (.int .u8 y) := h3
    have HOF := Lib.hid hof
    have HT := Lib.hid ht
    have s0 : 0 ≤ x * 256 + y := by omega
    have s1 : x * 256 + y ≤ 65535 := by omega
    have s2 : (M : Int) - 2 = (n : Int) := by omega
    have s3 : ((n : Int) + 1).toNat = n + 1 := by omega
    have s4 : (0 : Int) ≤ (n : Int) + 1 := by omega
    have v0 : IntKind.i64.wrap x = x := IntWalk.i64_in _ (by omega)
    have v1 : IntKind.i64.wrap y = y := IntWalk.i64_in _ (by omega)
    have v2 : IntKind.i64.wrap (x * 256) = x * 256 := IntWalk.i64_in _ (by omega)
    have v3 : IntKind.i64.wrap (x * 256 + y) = x * 256 + y := IntWalk.i64_in _ (by omega)
    have v4 : IntKind.i64.wrap ((n : Int) + 1) = (n : Int) + 1 := IntWalk.i64_in _ (by omega)
    have hLn : n ≤ 100000 := by omega
    clear hM hl hf hx lt hn ok hof ht hx1 hy1 hC e e2 h2 hL hc
    obtain ⟨z, hz⟩ : ∃ z, decide (ofV l = 0#16) = z := ⟨_, rfl⟩
    rw [hz] at hne
    have HZ := Lib.hid hz
    clear hz
    cases z
    · have hzf : ¬ ofV l = 0#16 := by simpa using HZ.out
      rw [if_neg hzf, if_neg hzf]
      clear HZ hzf
      go_enter Try.func21, Try.ntmps21
      go_wp2_with fail
      refine region_below 17 (by kernel_rfl) (by kernel_rfl) ?_
      simp only [List.take_succ_cons, List.take_zero, List.drop_succ_cons, List.drop_zero]
      repeat (first | (refine' InText.skip (by rfl) ?_; simp only [Act.put, List.setIfInBounds_toArray, List.set_cons_zero, List.set_cons_succ]) | (refine' InText.val (by rfl) (fun wr hr => ?_) ?_; rotate_left 1; (focus (obtain ⟨hrc, hrf⟩ := bcell hr; (go_simp <;> with_reducible rfl); done)); simp only [Act.put, List.setIfInBounds_toArray, List.set_cons_zero, List.set_cons_succ]) | (refine' InText.call (by rfl) (fun wr hr => ?_) (fun wr hr => ?_) ?_; rotate_left 3; (focus ((go_simp <;> (first | with_reducible rfl | exact ⟨rfl, rfl⟩)); done)); (focus (first | with_reducible exact pureB (HOF.out _ hr))); simp only [Act.put, List.setIfInBounds_toArray, List.set_cons_zero, List.set_cons_succ]))
      refine fun wrs hrs => ?_
      obtain ⟨hrcs, hrfs⟩ := bcell hrs
      go_wp2
      go_ret2
      exact ⟨_, rfl, BytsAt.nil, by (repeat (first | with_reducible assumption | with_reducible exact Below.refl _ _ | with_reducible refine Below.drew ?_ | with_reducible refine below_drewN ?_ _ | with_reducible refine al ?_ _ | (with_reducible refine sc ?_ ?_; (focus (first | omega | (simp; done) | (simp; omega)))) | (with_reducible refine chain ?_ (by assumption))))⟩
    · have hzf : ofV l = 0#16 := by simpa using HZ.out
      rw [if_pos hzf, if_pos hzf]
      clear HZ hzf
      go_enter Try.func21, Try.ntmps21
      go_wp2_with fail
      refine region_below 17 (by kernel_rfl) (by kernel_rfl) ?_
      simp only [List.take_succ_cons, List.take_zero, List.drop_succ_cons, List.drop_zero]
      repeat (first | (refine' InText.skip (by rfl) ?_; simp only [Act.put, List.setIfInBounds_toArray, List.set_cons_zero, List.set_cons_succ]) | (refine' InText.val (by rfl) (fun wr hr => ?_) ?_; rotate_left 1; (focus (obtain ⟨hrc, hrf⟩ := bcell hr; (go_simp <;> with_reducible rfl); done)); simp only [Act.put, List.setIfInBounds_toArray, List.set_cons_zero, List.set_cons_succ]) | (refine' InText.call (by rfl) (fun wr hr => ?_) (fun wr hr => ?_) ?_; rotate_left 3; (focus ((go_simp <;> (first | with_reducible rfl | exact ⟨rfl, rfl⟩)); done)); (focus (first | with_reducible exact pureB (HOF.out _ hr))); simp only [Act.put, List.setIfInBounds_toArray, List.set_cons_zero, List.set_cons_succ]))
      refine fun wrs hrs => ?_
      obtain ⟨hrcs, hrfs⟩ := bcell hrs
      go_wp2
      go_ret2
      exact ⟨_, rfl, HT.out.keep hrs, by (repeat (first | with_reducible assumption | with_reducible exact Below.refl _ _ | with_reducible refine Below.drew ?_ | with_reducible refine below_drewN ?_ _ | with_reducible refine al ?_ _ | (with_reducible refine sc ?_ ?_; (focus (first | omega | (simp; done) | (simp; omega)))) | (with_reducible refine chain ?_ (by assumption))))⟩
end Go.Proofs.Ytnpondgnmoedhaa
