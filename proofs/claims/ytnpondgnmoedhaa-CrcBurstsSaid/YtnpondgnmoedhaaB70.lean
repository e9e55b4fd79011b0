/- Contracts of layer 7 (crc), of the landed code. -/
import Derived.Test.YtnpondgnmoedhaaB72
import Derived.Test.YtnpondgnmoedhaaB73
import Derived.Test.YtnpondgnmoedhaaShelf
import Derived.ChangeKeysEq
set_option linter.unusedVariables false
set_option linter.unusedSimpArgs false
namespace Go.Proofs.Ytnpondgnmoedhaa
open Go.ChangeShapes Go.WideShapes Go.ChangeAt Go.RowKit
theorem exec_neq_run {P : Program} {o : Oper} {a : Act} {u : World} (T : TypeId) (x y : Operand) {r : TypeId} (ho : o.op = .binOp .neq T x y r) {cs ds : Array Value} (hx : a.eval x = .agg cs) (hy : a.eval y = .agg ds) {z : Bool}
    (hm : P.eqGuardType P.depth T = false) (h : (binOp .neq T (.agg cs) (.agg ds)).run P u = .ok (.bool z) u) : (execOp a.eval o).run P u = .ok (.value (.bool z)) u := by
  unfold execOp
  simp only [ho, hx, hy, Sem.run_bind, run_eqGuard_agg u .neq T x y cs ds hm, h, Result.andThen_ok, Sem.run_pure]
theorem neq2 (a b c d : Int) (u : World) : (binOp .neq 28 (.agg #[.int .u8 a, .int .u8 b]) (.agg #[.int .u8 c, .int .u8 d])).run Try.prog u = .ok (.bool (!(decide (a = c) && decide (b = d)))) u := by
  obtain ⟨i, hi⟩ : ∃ i, Try.prog.info? 5 = some i := Option.isSome_iff_exists.1 (by kernel_rfl)
  have hc : Try.prog.cellsOf 5 = 1 := by kernel_rfl
  have p0 : ∀ x y : Int, (part 5 #[.int .u8 x, .int .u8 y] 0).run Try.prog u = .ok (.int .u8 x) u := fun x y => by kernel_rfl
  have p1 : ∀ x y : Int, (part 5 #[.int .u8 x, .int .u8 y] 1).run Try.prog u = .ok (.int .u8 y) u := fun x y => by kernel_rfl
  have q : ∀ x y : Int, (Op.equalIn 9999 5 (.int .u8 x) (.int .u8 y)).run Try.prog u = .ok (decide (x = y)) u := fun x y => by
    simp [go_sem]
    by_cases h : x = y <;> simp [h]
  rw [run_neq_struct, show (10000 : Nat) = 9999 + 1 from rfl, run_equalIn_array u 9999 _ _ Try.underlying28 hi, hc]
  rw [show List.range 2 = [0, 1] from rfl]
  simp only [Op.eqItems, Sem.run_bind, Nat.zero_mul, Nat.one_mul, p0, p1, q, Result.andThen_ok]
  by_cases h : a = c <;> by_cases h2 : b = d <;> simp [h, h2, p1, q, Result.andThen_ok]
theorem b7_start (w : World) : Calls Try.prog 14 #[] w fun e w' => e = .returned (.int .u16 65535) ∧ Below w.heap.size w w' := by
  go_enter Try.func14, Try.ntmps14
  go_wp2
  go_ret
  exact ⟨rfl, by (repeat (first | with_reducible assumption | with_reducible exact Below.refl _ _ | with_reducible refine Below.drew ?_ | with_reducible refine below_drewN ?_ _ | with_reducible refine al ?_ _ | (with_reducible refine sc ?_ ?_; (focus (first | omega | (simp; done) | (simp; omega)))) | (with_reducible refine chain ?_ (by assumption))))⟩
theorem b7_of (v : Value) (l : List Int) (w : World) (hV : Vars w) (hl : BytsAt w v l) (ok : bytOk l) (hL : l.length ≤ 100000) : Calls Try.prog 9 #[v] w fun e w' => e = .returned (.int .u16 ((ofV l).toNat : Int)) ∧ Below w.heap.size w w' := by
  have h := fun u (hu : Below w.heap.size w u) => b7_with 65535#16 v l u (hV.keep hu) (hl.keep hu) ok hL
  rw [show ((65535#16).toNat : Int) = 65535 from rfl, show sumV 65535#16 l = ofV l from rfl] at h
  generalize (ofV l).toNat = x at *
  have H := Lib.hid h
  clear h hl ok hL
  go_enter Try.func9, Try.ntmps9
  go_wp2_with fail
  (refine (b7_start _).mono ?_; rintro e w1 ⟨rfl, hb1⟩)
  go_wp2_with fail
  (refine (H.out _ hb1).mono ?_; rintro e w2 ⟨rfl, hb2⟩)
  go_wp2
  go_ret
  exact ⟨rfl, by (repeat (first | with_reducible assumption | with_reducible exact Below.refl _ _ | with_reducible refine Below.drew ?_ | with_reducible refine below_drewN ?_ _ | with_reducible refine al ?_ _ | (with_reducible refine sc ?_ ?_; (focus (first | omega | (simp; done) | (simp; omega)))) | (with_reducible refine chain ?_ (by assumption))))⟩
theorem b7_bytes (c : W16) (w : World) : Calls Try.prog 11 #[.int .u16 (c.toNat : Int)] w fun e w' => e = .returned (.agg #[.int .u8 (hiC c), .int .u8 (loC c)]) ∧ Below w.heap.size w w' := by
  have hc := w16_bd c
  have e1 : hiC c = (c.toNat : Int) / 256 := by unfold hiC; omega
  have e2 : loC c = (c.toNat : Int) % 256 := by unfold loC; omega
  rw [e1, e2]
  obtain ⟨D, hD⟩ : ∃ C : Int, (c.toNat : Int) = C := ⟨_, rfl⟩
  rw [hD] at hc ⊢
  obtain ⟨d0, d1⟩ := hc
  have wr : IntKind.u8.wrap (D / 256) = D / 256 := by show _ % 256 = _; omega
  have wl : IntKind.u8.wrap D = D % 256 := rfl
  clear hD e1 e2
  go_enter Try.func11, Try.ntmps11
  go_wp2
  exact bodyPost_ret (v := .agg #[.int .u8 (D / 256), .int .u8 (D % 256)]) (by simp [results, Try.results11, go_sem]) rfl ⟨rfl, by (repeat (first | with_reducible assumption | with_reducible exact Below.refl _ _ | with_reducible refine Below.drew ?_ | with_reducible refine below_drewN ?_ _ | with_reducible refine al ?_ _ | (with_reducible refine sc ?_ ?_; (focus (first | omega | (simp; done) | (simp; omega)))) | (with_reducible refine chain ?_ (by assumption))))⟩
set_option maxHeartbeats 4000000 in
theorem b7_put (v : Value) (l : List Int) (w : World) (hV : Vars w) (hl : BytsAt w v l) (ok : bytOk l) (hL : l.length ≤ 1000) : Calls Try.prog 16 #[v] w fun e w' =>
    ∃ v', e = .returned v' ∧ w'.ownsRow w.heap.size 5 1 v' (sealF l).length (bytVs (sealF l)) ∧ Below w.heap.size w w' := by
  have i2 : (Try.prog.info? 28).map (·.size) = some 2 := by kernel_rfl
  have hof := b7_of v l w hV hl ok (by omega)
  have hby := fun u => b7_bytes (ofV l) u
  have hP : sealF l = l ++ [hiC (ofV l), loC (ofV l)] := rfl
  obtain ⟨C, hC⟩ : ∃ C : Int, ((ofV l).toNat : Int) = C := ⟨_, rfl⟩
  obtain ⟨H, hH⟩ : ∃ H, hiC (ofV l) = H := ⟨_, rfl⟩
  obtain ⟨O, hO⟩ : ∃ H, loC (ofV l) = H := ⟨_, rfl⟩
  rw [hC] at hof
  rw [hC, hH, hO] at hby
  rw [hH, hO] at hP
  rw [hP]
  obtain ⟨p, cap, rfl⟩ := hl.shape
  obtain ⟨N, hN⟩ : ∃ N, l.length = N := ⟨_, rfl⟩
  rw [hN] at hl hof ⊢
  have HOF := Lib.hid hof
  have HBY := Lib.hid hby
  have HN := Lib.hid hN
  clear hof hby hC hH hO hP hN
  go_enter Try.func16, Try.ntmps16
  go_wp2_with fail
  (refine (HOF.out).mono ?_; rintro e w1 ⟨rfl, hb1⟩)
  go_wp2_with fail
  (refine (HBY.out _).mono ?_; rintro e w2 ⟨rfl, hb2⟩)
  have kw := chain hb1 hb2
  clear hb1 hb2
  go_upto_region 2 with (refine wpList_store_row rfl 28 _ _ rfl w2.heap.size #[.int .u8 H, .int .u8 O] rfl rfl _ _ (RowAt.new _ _ _) i2 rfl (by simp [Value.oneCell']) ?_)
  have rt := (RowAt.new w2 #[.int .u8 0, .int .u8 0] 28).row #[.int .u8 H, .int .u8 O]
  have k2 : Below w.heap.size w ((w2.alloc (.cells #[.int .u8 0, .int .u8 0] 28)).setRow w2.heap.size #[.int .u8 H, .int .u8 O]) := below_setRow (al kw _) kw.size _
  generalize (w2.alloc (.cells #[.int .u8 0, .int .u8 0] 28)).setRow w2.heap.size #[.int .u8 H, .int .u8 O] = w3 at *
  clear kw
  obtain ⟨cb, hcb⟩ : ∃ b, w2.heap.size = b := ⟨_, rfl⟩
  rw [hcb] at rt ⊢
  clear hcb
  go_wp2_with fail
  have rg := RowAt.new w3 #[.slice p N cap, .slice (some ⟨cb, 0, none⟩) 2 2] 22
  have rt2 := rt.alloc (.cells #[.slice p N cap, .slice (some ⟨cb, 0, none⟩) 2 2] 22)
  have k3 := al k2 (.cells #[.slice p N cap, .slice (some ⟨cb, 0, none⟩) 2 2] 22)
  generalize w3.alloc (.cells #[.slice p N cap, .slice (some ⟨cb, 0, none⟩) 2 2] 22) = w4 at *
  have hbc : BytsAt w4 (.slice (some ⟨cb, 0, none⟩) 2 2) [H, O] := .inr ⟨cb, 0, 2, rfl, by simp, rt2.lt, fun j hj => by match j, hj with | 0, _ => exact rt2.two.1 | 1, _ => exact rt2.two.2⟩
  refine (b7_concat _ _ _ l [H, O] _ w4 rg (hl.keep k3) hbc (by omega) (by simp)).mono ?_
  rintro e w5 ⟨v5, rfl, ho5, hb5⟩
  go_wp2
  go_ret
  exact ⟨_, rfl, own_base ho5 k3.size, chain k3 hb5⟩
set_option maxHeartbeats 4000000 in
theorem b7_take (v : Value) (l : List Int) (w : World) (hV : Vars w) (hl : BytsAt w v l) (ok : bytOk l) (hL : l.length ≤ 1000) : Calls Try.prog 20 #[v] w fun e w' =>
    ∃ v', e = .returned (.tuple #[v', .int .i64 (takeE l)]) ∧ BytsAt w' v' (takeF l) ∧ Below w.heap.size w w' := by
  obtain ⟨p, cap, rfl, hf⟩ := hl.form
  by_cases h2 : l.length < 2
  · have e : takeE l = 3 := by unfold takeE; rw [if_pos h2]
    have e2 : takeF l = [] := by unfold takeF goodB; rw [if_neg (by simp; omega)]
    rw [e, e2]
    obtain ⟨N, hN⟩ : ∃ N, l.length = N := ⟨_, rfl⟩
    rw [hN] at h2 ⊢
    have hi2 : (N : Int) - 2 < 0 := by omega
    have hi3 : -2 ≤ (N : Int) - 2 := by omega
    clear hl hf hN e e2 ok
    go_enter Try.func20, Try.ntmps20
    go_wp2
    go_ret2
    exact ⟨_, rfl, BytsAt.nil, by (repeat (first | with_reducible assumption | with_reducible exact Below.refl _ _ | with_reducible refine Below.drew ?_ | with_reducible refine below_drewN ?_ _ | with_reducible refine al ?_ _ | (with_reducible refine sc ?_ ?_; (focus (first | omega | (simp; done) | (simp; omega)))) | (with_reducible refine chain ?_ (by assumption))))⟩
  · obtain ⟨g, off, rfl, hc, hg, hx⟩ := hf (by omega)
    have lt := last_two (by omega) ok
    have h1 := hx (l.length - 2) (by omega)
    have h3 := hx (l.length - 1) (by omega)
    have b1 := ok l[l.length - 2] (List.getElem_mem _)
    have b3 := ok l[l.length - 1] (List.getElem_mem _)
    obtain ⟨n, hn⟩ : ∃ n, l.length = n + 2 := ⟨l.length - 2, by omega⟩
    have ht := (hl.take (k := n) (by omega))
    have hof := fun u (hu : Below w.heap.size w u) => b7_of _ (l.take n) u (hV.keep hu) (ht.keep hu) (ok.take n) (by rw [List.length_take]; omega)
    have hby := fun u => b7_bytes (ofV (l.take n)) u
    have hxb : ∀ i, i < n → w.cell? ⟨g, off + i, none⟩ = some (.int .u8 ((l.take n).getD i 0)) := fun i hi => by
      rw [hx i (by omega)]
      simp [hi, show i < l.length by omega]
    have hcl := fun u (hu : Below w.heap.size w u) => Try.bytes_Clone_at ⟨g, off, none⟩ n cap (l.take n) u (by rw [List.length_take]; omega) (by omega) (fun i hi => by rw [Addr.add_lit]; exact keepc hu hg (hxb i hi))
    have e : takeE l = if ofV l = 0#16 then 0 else 4 := by unfold takeE; rw [if_neg h2]
    have e2 : takeF l = if ofV l = 0#16 then l.take n else [] := by
      unfold takeF goodB
      by_cases hz : ofV l = 0#16
      · rw [if_pos (by simp [hz]; omega), if_pos hz, show l.length - 2 = n by omega]
      · rw [if_neg (by simp [hz]), if_neg hz]
    simp only [show l.length - 2 = n by omega, show l.length - 1 = n + 1 by omega] at lt h1 h3 b1 b3
    obtain ⟨x, hx1⟩ : ∃ x, (l[n]'(by omega)) = x := ⟨_, rfl⟩
    obtain ⟨y, hy1⟩ : ∃ x, (l[n + 1]'(by omega)) = x := ⟨_, rfl⟩
    rw [hx1] at lt h1 b1
    rw [hy1] at lt h3 b3
    have hB0 := hiC_bd (ofV (l.take n))
    have hB1 := loC_bd (ofV (l.take n))
    have hB2 : ((ofV (l.take n)).toNat : Int) = hiC (ofV (l.take n)) * 256 + loC (ofV (l.take n)) := by unfold hiC loC; omega
    rw [hB2] at lt
    obtain ⟨C, hC⟩ : ∃ C : Int, ((ofV (l.take n)).toNat : Int) = C := ⟨_, rfl⟩
    obtain ⟨H, hH⟩ : ∃ H, hiC (ofV (l.take n)) = H := ⟨_, rfl⟩
    obtain ⟨O, hO⟩ : ∃ H, loC (ofV (l.take n)) = H := ⟨_, rfl⟩
    rw [hC] at hof
    rw [hC, hH, hO] at hby
    rw [hH] at lt hB0
    rw [hO] at lt hB1
    obtain ⟨b10, b11⟩ := b1
    obtain ⟨b30, b31⟩ := b3
    obtain ⟨z, hz⟩ : ∃ z, (!(decide (H = x) && decide (O = y))) = z := ⟨_, rfl⟩
    have hzz : z = !decide (ofV l = 0#16) := by
      rw [← hz]
      congr 1
      rw [Bool.eq_iff_iff]
      simp only [Bool.and_eq_true, decide_eq_true_eq]
      rw [← lt]
      omega
    have hnq := fun u => neq2 H O x y u
    rw [hz] at hnq
    obtain ⟨M, hM⟩ : ∃ M, n + 2 = M := ⟨_, rfl⟩
    have m0 : (n : Int) < M := by omega
    have m1 : (n : Int) + 1 < M := by omega
    have m2 : n < M := by omega
    have m3 : n + 1 < M := by omega
    rw [e, e2, hn, hM]
    rw [hn, hM] at hc
    have hcap : (n : Int) ≤ cap := by omega
    have h3' : w.cell? ⟨g, off + (n + 1), none⟩ = some (.int .u8 y) := h3
    have HOF := Lib.hid hof
    have HBY := Lib.hid hby
    have HCL := Lib.hid hcl
    have HNQ := Lib.hid hnq
    have s2 : (M : Int) - 2 = (n : Int) := by omega
    have s3 : ((n : Int) + 1).toNat = n + 1 := by omega
    have s4 : (0 : Int) ≤ (n : Int) + 1 := by omega
    have v4 : IntKind.i64.wrap ((n : Int) + 1) = (n : Int) + 1 := IntWalk.i64_in _ (by omega)
    have hLn : n ≤ 100000 := by omega
    have htk : (l.take n).length = n := by rw [List.length_take]; omega
    have HTK := Lib.hid htk
    clear hM hl hf hx lt hn ok hof ht hx1 hy1 hC hH hO e e2 h2 hL hc hby hcl hnq hz hxb hB2 htk
    have HZ := Lib.hid hzz
    clear hzz
    cases z
    · have hzf : ofV l = 0#16 := by simpa using HZ.out
      rw [if_pos hzf, if_pos hzf]
      clear HZ hzf
      go_enter Try.func20, Try.ntmps20
      go_wp2_with fail
      refine region_below 16 (by kernel_rfl) (by kernel_rfl) ?_
      simp only [List.take_succ_cons, List.take_zero, List.drop_succ_cons, List.drop_zero]
      repeat (first | (refine' InText.skip (by rfl) ?_; simp only [Act.put, List.setIfInBounds_toArray, List.set_cons_zero, List.set_cons_succ]) | (refine' InText.val (by rfl) (fun wr hr => exec_neq_run 28 (.tmp 16) (.tmp 26) rfl rfl rfl Try.eqGuardType28 (HNQ.out wr)) ?_; simp only [Act.put, List.setIfInBounds_toArray, List.set_cons_zero, List.set_cons_succ]) | (refine' InText.val (by rfl) (fun wr hr => ?_) ?_; rotate_left 1; (focus (obtain ⟨hrc, hrf⟩ := bcell hr; (go_simp <;> with_reducible rfl); done)); simp only [Act.put, List.setIfInBounds_toArray, List.set_cons_zero, List.set_cons_succ]) | (refine' InText.call (by rfl) (fun wr hr => ?_) (fun wr hr => ?_) ?_; rotate_left 3; (focus ((go_simp <;> (first | with_reducible rfl | exact ⟨rfl, rfl⟩)); done)); (focus (first | with_reducible exact HOF.out _ hr | with_reducible exact HBY.out _)); simp only [Act.put, List.setIfInBounds_toArray, List.set_cons_zero, List.set_cons_succ]))
      refine fun wrs hrs => ?_
      obtain ⟨hrcs, hrfs⟩ := bcell hrs
      go_wp2_with fail
      refine (HCL.out _ hrs).mono ?_
      rintro e w1 ⟨v1, rfl, ho1, _, hb1⟩
      go_wp2
      go_ret2
      refine ⟨_, rfl, ?_, by (repeat (first | with_reducible assumption | with_reducible exact Below.refl _ _ | with_reducible refine Below.drew ?_ | with_reducible refine below_drewN ?_ _ | with_reducible refine al ?_ _ | (with_reducible refine sc ?_ ?_; (focus (first | omega | (simp; done) | (simp; omega)))) | (with_reducible refine chain ?_ (by assumption))))⟩
      have ho2 : w1.ownsRow wrs.heap.size 5 1 v1 (l.take n).length (bytVs (l.take n)) := by rw [HTK.out]; exact ho1
      exact byts_of_owned ho2
    · have hzf : ¬ ofV l = 0#16 := by simpa using HZ.out
      rw [if_neg hzf, if_neg hzf]
      clear HZ hzf
      go_enter Try.func20, Try.ntmps20
      go_wp2_with fail
      refine region_below 16 (by kernel_rfl) (by kernel_rfl) ?_
      simp only [List.take_succ_cons, List.take_zero, List.drop_succ_cons, List.drop_zero]
      repeat (first | (refine' InText.skip (by rfl) ?_; simp only [Act.put, List.setIfInBounds_toArray, List.set_cons_zero, List.set_cons_succ]) | (refine' InText.val (by rfl) (fun wr hr => exec_neq_run 28 (.tmp 16) (.tmp 26) rfl rfl rfl Try.eqGuardType28 (HNQ.out wr)) ?_; simp only [Act.put, List.setIfInBounds_toArray, List.set_cons_zero, List.set_cons_succ]) | (refine' InText.val (by rfl) (fun wr hr => ?_) ?_; rotate_left 1; (focus (obtain ⟨hrc, hrf⟩ := bcell hr; (go_simp <;> with_reducible rfl); done)); simp only [Act.put, List.setIfInBounds_toArray, List.set_cons_zero, List.set_cons_succ]) | (refine' InText.call (by rfl) (fun wr hr => ?_) (fun wr hr => ?_) ?_; rotate_left 3; (focus ((go_simp <;> (first | with_reducible rfl | exact ⟨rfl, rfl⟩)); done)); (focus (first | with_reducible exact HOF.out _ hr | with_reducible exact HBY.out _)); simp only [Act.put, List.setIfInBounds_toArray, List.set_cons_zero, List.set_cons_succ]))
      refine fun wrs hrs => ?_
      obtain ⟨hrcs, hrfs⟩ := bcell hrs
      go_wp2
      go_ret2
      exact ⟨_, rfl, BytsAt.nil, by (repeat (first | with_reducible assumption | with_reducible exact Below.refl _ _ | with_reducible refine Below.drew ?_ | with_reducible refine below_drewN ?_ _ | with_reducible refine al ?_ _ | (with_reducible refine sc ?_ ?_; (focus (first | omega | (simp; done) | (simp; omega)))) | (with_reducible refine chain ?_ (by assumption))))⟩
theorem b7_good (v : Value) (l : List Int) (w : World) (hV : Vars w) (hl : BytsAt w v l) (ok : bytOk l) (hL : l.length ≤ 1000) : Calls Try.prog 22 #[v] w fun e w' => e = .returned (.bool (goodB l)) ∧ Below w.heap.size w w' := by
  have h := b7_take v l w hV hl ok (by omega)
  have hg := goodB_iff l
  generalize takeE l = E at *
  have H := Lib.hid h
  clear h hl ok hL
  go_enter Try.func22, Try.ntmps22
  go_wp2_with fail
  refine H.out.mono ?_
  rintro e w1 ⟨v1, rfl, ho, hb1⟩
  go_wp2
  go_ret
  exact ⟨ret_bool hg.symm, by (repeat (first | with_reducible assumption | with_reducible exact Below.refl _ _ | with_reducible refine Below.drew ?_ | with_reducible refine below_drewN ?_ _ | with_reducible refine al ?_ _ | (with_reducible refine sc ?_ ?_; (focus (first | omega | (simp; done) | (simp; omega)))) | (with_reducible refine chain ?_ (by assumption))))⟩
end Go.Proofs.Ytnpondgnmoedhaa
