/- Texts behind each other. -/
import Derived.Test.YthjekbbldejlpaaZ23
import Derived.Test.YthjekbbldejlpaaShelf
import Derived.ChangeKeysEq
import Derived.Test.YthjekbbldejlpaaZ22
import Derived.Test.YthjekbbldejlpaaZ11
import Derived.Test.YthjekbbldejlpaaZ16
import Derived.Test.YthjekbbldejlpaaZ12
/- Contracts of layer 7 (crc), of the landed code. -/
set_option linter.unusedVariables false
set_option linter.unusedSimpArgs false
namespace Go.Proofs.Ythjekbbldejlpaa
open Go.ChangeShapes Go.WideShapes Go.ChangeAt Go.RowKit
theorem exec_neq_run {P : Program} {o : Oper} {a : Act} {u : World} (T : TypeId) (x y : Operand) {r : TypeId} (ho : o.op = .binOp .neq T x y r) {cs ds : Array Value} (hx : a.eval x = .agg cs) (hy : a.eval y = .agg ds) {z : Bool}
    (hm : P.eqGuardType P.depth T = false) (h : (binOp .neq T (.agg cs) (.agg ds)).run P u = .ok (.bool z) u) : (execOp a.eval o).run P u = .ok (.value (.bool z)) u := by
  unfold execOp
  simp only [ho, hx, hy, Sem.run_bind, run_eqGuard_agg u .neq T x y cs ds hm, h, Result.andThen_ok, Sem.run_pure]
theorem neq2 (a b c d : Int) (u : World) : (binOp .neq 94 (.agg #[.int .u8 a, .int .u8 b]) (.agg #[.int .u8 c, .int .u8 d])).run Try.prog u = .ok (.bool (!(decide (a = c) && decide (b = d)))) u := by
  obtain ⟨i, hi⟩ : ∃ i, Try.prog.info? 5 = some i := Option.isSome_iff_exists.1 (by kernel_rfl)
  have hc : Try.prog.cellsOf 5 = 1 := by kernel_rfl
  have p0 : ∀ x y : Int, (part 5 #[.int .u8 x, .int .u8 y] 0).run Try.prog u = .ok (.int .u8 x) u := fun x y => by kernel_rfl
  have p1 : ∀ x y : Int, (part 5 #[.int .u8 x, .int .u8 y] 1).run Try.prog u = .ok (.int .u8 y) u := fun x y => by kernel_rfl
  have q : ∀ x y : Int, (Op.equalIn 9999 5 (.int .u8 x) (.int .u8 y)).run Try.prog u = .ok (decide (x = y)) u := fun x y => by
    simp [go_sem]
    by_cases h : x = y <;> simp [h]
  rw [run_neq_struct, show (10000 : Nat) = 9999 + 1 from rfl, run_equalIn_array u 9999 _ _ Try.underlying94 hi, hc]
  rw [show List.range 2 = [0, 1] from rfl]
  simp only [Op.eqItems, Sem.run_bind, Nat.zero_mul, Nat.one_mul, p0, p1, q, Result.andThen_ok]
  by_cases h : a = c <;> by_cases h2 : b = d <;> simp [h, h2, p1, q, Result.andThen_ok]
theorem b7_start (w : World) : Calls Try.prog 66 #[] w fun e w' => e = .returned (.int .u16 65535) ∧ Below w.heap.size w w' := by
  go_enter Try.func66, Try.ntmps66
  go_wp2
  go_ret
  exact ⟨rfl, by (repeat (first | with_reducible assumption | with_reducible exact Below.refl _ _ | with_reducible refine Below.drew ?_ | with_reducible refine below_drewN ?_ _ | with_reducible refine al ?_ _ | (with_reducible refine sc ?_ ?_; (focus (first | omega | (simp; done) | (simp; omega)))) | (with_reducible refine chain ?_ (by assumption))))⟩
theorem b7_ofN (v : Value) (l : List Int) (w : World) (hl : BytsAt w v l) (ok : bytOk l) (hL : l.length ≤ 100000) : Calls Try.prog 51 #[v] w fun e w' => e = .returned (.int .u16 ((ofV l).toNat : Int)) ∧ Below w.heap.size w w' := by
  have h := fun u (hu : Below w.heap.size w u) => b7_withN 65535#16 v l u (hl.keep hu) ok hL
  rw [show ((65535#16).toNat : Int) = 65535 from rfl, show sumV 65535#16 l = ofV l from rfl] at h
  generalize (ofV l).toNat = x at *
  have H := Lib.hid h
  clear h hl ok hL
  go_enter Try.func51, Try.ntmps51
  go_wp2_with fail
  (refine (b7_start _).mono ?_; rintro e w1 ⟨rfl, hb1⟩)
  go_wp2_with fail
  (refine (H.out _ hb1).mono ?_; rintro e w2 ⟨rfl, hb2⟩)
  go_wp2
  go_ret
  exact ⟨rfl, by (repeat (first | with_reducible assumption | with_reducible exact Below.refl _ _ | with_reducible refine Below.drew ?_ | with_reducible refine below_drewN ?_ _ | with_reducible refine al ?_ _ | (with_reducible refine sc ?_ ?_; (focus (first | omega | (simp; done) | (simp; omega)))) | (with_reducible refine chain ?_ (by assumption))))⟩
theorem b7_of (v : Value) (l : List Int) (w : World) (hV : Vars w) (hl : BytsAt w v l) (ok : bytOk l) (hL : l.length ≤ 100000) : Calls Try.prog 51 #[v] w fun e w' => e = .returned (.int .u16 ((ofV l).toNat : Int)) ∧ Below w.heap.size w w' := b7_ofN v l w hl ok hL
theorem b7_bytes (c : W16) (w : World) : Calls Try.prog 52 #[.int .u16 (c.toNat : Int)] w fun e w' => e = .returned (.agg #[.int .u8 (hiC c), .int .u8 (loC c)]) ∧ Below w.heap.size w w' := by
  have hc := w16_bd c
  have e1 : hiC c = (c.toNat : Int) / 256 := by unfold hiC; omega
  have e2 : loC c = (c.toNat : Int) % 256 := by unfold loC; omega
  rw [e1, e2]
  obtain ⟨D, hD⟩ : ∃ C : Int, (c.toNat : Int) = C := ⟨_, rfl⟩
  rw [hD] at hc ⊢
  obtain ⟨d0, d1⟩ := hc
  have wr : IntKind.u8.wrap (D / 256) = D / 256 := by show _ % 256 = _; omega
  have wl : IntKind.u8.wrap D = D % 256 := rfl
  clear hD e1 e2
  go_enter Try.func52, Try.ntmps52
  go_wp2
  exact bodyPost_ret (v := .agg #[.int .u8 (D / 256), .int .u8 (D % 256)]) (by simp [results, Try.results52, go_sem]) rfl ⟨rfl, by (repeat (first | with_reducible assumption | with_reducible exact Below.refl _ _ | with_reducible refine Below.drew ?_ | with_reducible refine below_drewN ?_ _ | with_reducible refine al ?_ _ | (with_reducible refine sc ?_ ?_; (focus (first | omega | (simp; done) | (simp; omega)))) | (with_reducible refine chain ?_ (by assumption))))⟩
set_option maxRecDepth 10000 in
set_option maxHeartbeats 4000000 in
theorem b7_putN (v : Value) (l : List Int) (w : World) (hl : BytsAt w v l) (ok : bytOk l) (hL : l.length ≤ 1000) : Calls Try.prog 26 #[v] w fun e w' =>
    ∃ v', e = .returned v' ∧ w'.ownsRow w.heap.size 5 1 v' (sealF l).length (bytVs (sealF l)) ∧ Below w.heap.size w w' := by
  have i2 : (Try.prog.info? 94).map (·.size) = some 2 := by kernel_rfl
  have hof := b7_ofN v l w hl ok (by omega)
  have hby := fun u => b7_bytes (ofV l) u
  have hP : sealF l = l ++ [hiC (ofV l), loC (ofV l)] := rfl
  obtain ⟨C, hC⟩ : ∃ C : Int, ((ofV l).toNat : Int) = C := ⟨_, rfl⟩
  obtain ⟨H, hH⟩ : ∃ H, hiC (ofV l) = H := ⟨_, rfl⟩
  obtain ⟨O, hO⟩ : ∃ H, loC (ofV l) = H := ⟨_, rfl⟩
  rw [hC] at hof
  rw [hC, hH, hO] at hby
  rw [hH, hO] at hP
  rw [hP]
  obtain ⟨p, cap, rfl⟩ := hl.shape
  obtain ⟨N, hN⟩ : ∃ N, l.length = N := ⟨_, rfl⟩
  rw [hN] at hl hof ⊢
  have HOF := Lib.hid hof
  have HBY := Lib.hid hby
  have HN := Lib.hid hN
  clear hof hby hC hH hO hP hN
  go_enter Try.func26, Try.ntmps26
  go_wp2_with fail
  (refine (HOF.out).mono ?_; rintro e w1 ⟨rfl, hb1⟩)
  go_wp2_with fail
  (refine (HBY.out _).mono ?_; rintro e w2 ⟨rfl, hb2⟩)
  have kw := chain hb1 hb2
  clear hb1 hb2
  go_upto_region 2 with (refine wpList_store_row rfl 94 _ _ rfl w2.heap.size #[.int .u8 H, .int .u8 O] rfl rfl _ _ (RowAt.new _ _ _) i2 rfl (by simp [Value.oneCell']) ?_)
  have rt := (RowAt.new w2 #[.int .u8 0, .int .u8 0] 94).row #[.int .u8 H, .int .u8 O]
  have k2 : Below w.heap.size w ((w2.alloc (.cells #[.int .u8 0, .int .u8 0] 94)).setRow w2.heap.size #[.int .u8 H, .int .u8 O]) := below_setRow (al kw _) kw.size _
  generalize (w2.alloc (.cells #[.int .u8 0, .int .u8 0] 94)).setRow w2.heap.size #[.int .u8 H, .int .u8 O] = w3 at *
  clear kw
  obtain ⟨cb, hcb⟩ : ∃ b, w2.heap.size = b := ⟨_, rfl⟩
  rw [hcb] at rt ⊢
  clear hcb
  go_wp2_with fail
  have rg := RowAt.new w3 #[.slice p N cap, .slice (some ⟨cb, 0, none⟩) 2 2] 22
  have rt2 := rt.alloc (.cells #[.slice p N cap, .slice (some ⟨cb, 0, none⟩) 2 2] 22)
  have k3 := al k2 (.cells #[.slice p N cap, .slice (some ⟨cb, 0, none⟩) 2 2] 22)
  generalize w3.alloc (.cells #[.slice p N cap, .slice (some ⟨cb, 0, none⟩) 2 2] 22) = w4 at *
  have hbc : BytsAt w4 (.slice (some ⟨cb, 0, none⟩) 2 2) [H, O] := .inr ⟨cb, 0, 2, rfl, by simp, rt2.lt, fun j hj => by match j, hj with | 0, _ => exact rt2.two.1 | 1, _ => exact rt2.two.2⟩
  refine (b7_concat _ _ _ l [H, O] _ w4 rg (hl.keep k3) hbc (by omega) (by simp)).mono ?_
  rintro e w5 ⟨v5, rfl, ho5, hb5⟩
  go_wp2
  go_ret
  exact ⟨_, rfl, own_base ho5 k3.size, chain k3 hb5⟩
theorem b7_put (v : Value) (l : List Int) (w : World) (hV : Vars w) (hl : BytsAt w v l) (ok : bytOk l) (hL : l.length ≤ 1000) : Calls Try.prog 26 #[v] w fun e w' =>
    ∃ v', e = .returned v' ∧ w'.ownsRow w.heap.size 5 1 v' (sealF l).length (bytVs (sealF l)) ∧ Below w.heap.size w w' := b7_putN v l w hl ok hL
set_option maxRecDepth 10000 in
set_option maxHeartbeats 4000000 in
theorem b7_takeO (v : Value) (l : List Int) (w : World) (hl : BytsAt w v l) (ok : bytOk l) (hL : l.length ≤ 1000) : Calls Try.prog 29 #[v] w fun e w' =>
    ∃ v', e = .returned (.tuple #[v', .int .i64 (takeE l)]) ∧ w'.ownsRow w.heap.size 5 1 v' (takeF l).length (bytVs (takeF l)) ∧ Below w.heap.size w w' := by
  obtain ⟨p, cap, rfl, hf⟩ := hl.form
  by_cases h2 : l.length < 2
  · have e : takeE l = 3 := by unfold takeE; rw [if_pos h2]
    have e2 : takeF l = [] := by unfold takeF goodB; rw [if_neg (by simp; omega)]
    rw [e, e2]
    obtain ⟨N, hN⟩ : ∃ N, l.length = N := ⟨_, rfl⟩
    rw [hN] at h2 ⊢
    have hi2 : (N : Int) - 2 < 0 := by omega
    have hi3 : -2 ≤ (N : Int) - 2 := by omega
    clear hl hf hN e e2 ok
    go_enter Try.func29, Try.ntmps29
    go_wp2
    go_ret2
    exact ⟨_, rfl, World.ownsRow_nil _ _ _ _, by (repeat (first | with_reducible assumption | with_reducible exact Below.refl _ _ | with_reducible refine Below.drew ?_ | with_reducible refine below_drewN ?_ _ | with_reducible refine al ?_ _ | (with_reducible refine sc ?_ ?_; (focus (first | omega | (simp; done) | (simp; omega)))) | (with_reducible refine chain ?_ (by assumption))))⟩
  · obtain ⟨g, off, rfl, hc, hg, hx⟩ := hf (by omega)
    have lt := last_two (by omega) ok
    have h1 := hx (l.length - 2) (by omega)
    have h3 := hx (l.length - 1) (by omega)
    have b1 := ok l[l.length - 2] (List.getElem_mem _)
    have b3 := ok l[l.length - 1] (List.getElem_mem _)
    obtain ⟨n, hn⟩ : ∃ n, l.length = n + 2 := ⟨l.length - 2, by omega⟩
    have ht := (hl.take (k := n) (by omega))
    have hof := fun u (hu : Below w.heap.size w u) => b7_ofN _ (l.take n) u (ht.keep hu) (ok.take n) (by rw [List.length_take]; omega)
    have hby := fun u => b7_bytes (ofV (l.take n)) u
    have hxb : ∀ i, i < n → w.cell? ⟨g, off + i, none⟩ = some (.int .u8 ((l.take n).getD i 0)) := fun i hi => by
      rw [hx i (by omega)]
      simp [hi, show i < l.length by omega]
    have hcl := fun u (hu : Below w.heap.size w u) => Try.bytes_Clone_at ⟨g, off, none⟩ n cap (l.take n) u (by rw [List.length_take]; omega) (by omega) (fun i hi => by rw [Addr.add_lit]; exact keepc hu hg (hxb i hi))
    have e : takeE l = if ofV l = 0#16 then 0 else 4 := by unfold takeE; rw [if_neg h2]
    have e2 : takeF l = if ofV l = 0#16 then l.take n else [] := by
      unfold takeF goodB
      by_cases hz : ofV l = 0#16
      · rw [if_pos (by simp [hz]; omega), if_pos hz, show l.length - 2 = n by omega]
      · rw [if_neg (by simp [hz]), if_neg hz]
    simp only [show l.length - 2 = n by omega, show l.length - 1 = n + 1 by omega] at lt h1 h3 b1 b3
    obtain ⟨x, hx1⟩ : ∃ x, (l[n]'(by omega)) = x := ⟨_, rfl⟩
    obtain ⟨y, hy1⟩ : ∃ x, (l[n + 1]'(by omega)) = x := ⟨_, rfl⟩
    rw [hx1] at lt h1 b1
    rw [hy1] at lt h3 b3
    have hB0 := hiC_bd (ofV (l.take n))
    have hB1 := loC_bd (ofV (l.take n))
    have hB2 : ((ofV (l.take n)).toNat : Int) = hiC (ofV (l.take n)) * 256 + loC (ofV (l.take n)) := by unfold hiC loC; omega
    rw [hB2] at lt
    obtain ⟨C, hC⟩ : ∃ C : Int, ((ofV (l.take n)).toNat : Int) = C := ⟨_, rfl⟩
    obtain ⟨H, hH⟩ : ∃ H, hiC (ofV (l.take n)) = H := ⟨_, rfl⟩
    obtain ⟨O, hO⟩ : ∃ H, loC (ofV (l.take n)) = H := ⟨_, rfl⟩
    rw [hC] at hof
    rw [hC, hH, hO] at hby
    rw [hH] at lt hB0
    rw [hO] at lt hB1
    obtain ⟨b10, b11⟩ := b1
    obtain ⟨b30, b31⟩ := b3
    obtain ⟨z, hz⟩ : ∃ z, (!(decide (H = x) && decide (O = y))) = z := ⟨_, rfl⟩
    have hzz : z = !decide (ofV l = 0#16) := by
      rw [← hz]
      congr 1
      rw [Bool.eq_iff_iff]
      simp only [Bool.and_eq_true, decide_eq_true_eq]
      rw [← lt]
      omega
    have hnq := fun u => neq2 H O x y u
    rw [hz] at hnq
    obtain ⟨M, hM⟩ : ∃ M, n + 2 = M := ⟨_, rfl⟩
    have m0 : (n : Int) < M := by omega
    have m1 : (n : Int) + 1 < M := by omega
    have m2 : n < M := by omega
    have m3 : n + 1 < M := by omega
    rw [e, e2, hn, hM]
    rw [hn, hM] at hc
    have hcap : (n : Int) ≤ cap := by omega
    have h3' : w.cell? ⟨g, off + (n + 1), none⟩ = some (.int .u8 y) := h3
    have HOF := Lib.hid hof
    have HBY := Lib.hid hby
    have HCL := Lib.hid hcl
    have HNQ := Lib.hid hnq
    have s2 : (M : Int) - 2 = (n : Int) := by omega
    have s3 : ((n : Int) + 1).toNat = n + 1 := by omega
    have s4 : (0 : Int) ≤ (n : Int) + 1 := by omega
    have v4 : IntKind.i64.wrap ((n : Int) + 1) = (n : Int) + 1 := IntWalk.i64_in _ (by omega)
    have hLn : n ≤ 100000 := by omega
    have htk : (l.take n).length = n := by rw [List.length_take]; omega
    have HTK := Lib.hid htk
    clear hM hl hf hx lt hn ok hof ht hx1 hy1 hC hH hO e e2 h2 hL hc hby hcl hnq hz hxb hB2 htk
    have HZ := Lib.hid hzz
    clear hzz
    cases z
    · have hzf : ofV l = 0#16 := by simpa using HZ.out
      rw [if_pos hzf, if_pos hzf]
      clear HZ hzf
      go_enter Try.func29, Try.ntmps29
      go_wp2_with fail
      refine region_below 16 (by kernel_rfl) (by kernel_rfl) ?_
      simp only [List.take_succ_cons, List.take_zero, List.drop_succ_cons, List.drop_zero]
      repeat (first | (refine' InText.skip (by rfl) ?_; simp only [Act.put, List.setIfInBounds_toArray, List.set_cons_zero, List.set_cons_succ]) | (refine' InText.val (by rfl) (fun wr hr => exec_neq_run 94 (.tmp 16) (.tmp 26) rfl rfl rfl Try.eqGuardType94 (HNQ.out wr)) ?_; simp only [Act.put, List.setIfInBounds_toArray, List.set_cons_zero, List.set_cons_succ]) | (refine' InText.val (by rfl) (fun wr hr => ?_) ?_; rotate_left 1; (focus (obtain ⟨hrc, hrf⟩ := bcell hr; (go_simp <;> with_reducible rfl); done)); simp only [Act.put, List.setIfInBounds_toArray, List.set_cons_zero, List.set_cons_succ]) | (refine' InText.call (by rfl) (fun wr hr => ?_) (fun wr hr => ?_) ?_; rotate_left 3; (focus ((go_simp <;> (first | with_reducible rfl | exact ⟨rfl, rfl⟩)); done)); (focus (first | with_reducible exact HOF.out _ hr | with_reducible exact HBY.out _)); simp only [Act.put, List.setIfInBounds_toArray, List.set_cons_zero, List.set_cons_succ]))
      refine fun wrs hrs => ?_
      obtain ⟨hrcs, hrfs⟩ := bcell hrs
      go_wp2_with fail
      refine (HCL.out _ hrs).mono ?_
      rintro e w1 ⟨v1, rfl, ho1, _, hb1⟩
      go_wp2
      go_ret2
      refine ⟨_, rfl, ?_, by (repeat (first | with_reducible assumption | with_reducible exact Below.refl _ _ | with_reducible refine Below.drew ?_ | with_reducible refine below_drewN ?_ _ | with_reducible refine al ?_ _ | (with_reducible refine sc ?_ ?_; (focus (first | omega | (simp; done) | (simp; omega)))) | (with_reducible refine chain ?_ (by assumption))))⟩
      have ho2 : w1.ownsRow wrs.heap.size 5 1 v1 (l.take n).length (bytVs (l.take n)) := by rw [HTK.out]; exact ho1
      exact own_base ho2 hrs.size
    · have hzf : ¬ ofV l = 0#16 := by simpa using HZ.out
      rw [if_neg hzf, if_neg hzf]
      clear HZ hzf
      go_enter Try.func29, Try.ntmps29
      go_wp2_with fail
      refine region_below 16 (by kernel_rfl) (by kernel_rfl) ?_
      simp only [List.take_succ_cons, List.take_zero, List.drop_succ_cons, List.drop_zero]
      repeat (first | (refine' InText.skip (by rfl) ?_; simp only [Act.put, List.setIfInBounds_toArray, List.set_cons_zero, List.set_cons_succ]) | (refine' InText.val (by rfl) (fun wr hr => exec_neq_run 94 (.tmp 16) (.tmp 26) rfl rfl rfl Try.eqGuardType94 (HNQ.out wr)) ?_; simp only [Act.put, List.setIfInBounds_toArray, List.set_cons_zero, List.set_cons_succ]) | (refine' InText.val (by rfl) (fun wr hr => ?_) ?_; rotate_left 1; (focus (obtain ⟨hrc, hrf⟩ := bcell hr; (go_simp <;> with_reducible rfl); done)); simp only [Act.put, List.setIfInBounds_toArray, List.set_cons_zero, List.set_cons_succ]) | (refine' InText.call (by rfl) (fun wr hr => ?_) (fun wr hr => ?_) ?_; rotate_left 3; (focus ((go_simp <;> (first | with_reducible rfl | exact ⟨rfl, rfl⟩)); done)); (focus (first | with_reducible exact HOF.out _ hr | with_reducible exact HBY.out _)); simp only [Act.put, List.setIfInBounds_toArray, List.set_cons_zero, List.set_cons_succ]))
      refine fun wrs hrs => ?_
      obtain ⟨hrcs, hrfs⟩ := bcell hrs
      go_wp2
      go_ret2
      exact ⟨_, rfl, World.ownsRow_nil _ _ _ _, by (repeat (first | with_reducible assumption | with_reducible exact Below.refl _ _ | with_reducible refine Below.drew ?_ | with_reducible refine below_drewN ?_ _ | with_reducible refine al ?_ _ | (with_reducible refine sc ?_ ?_; (focus (first | omega | (simp; done) | (simp; omega)))) | (with_reducible refine chain ?_ (by assumption))))⟩
theorem b7_take (v : Value) (l : List Int) (w : World) (hV : Vars w) (hl : BytsAt w v l) (ok : bytOk l) (hL : l.length ≤ 1000) : Calls Try.prog 29 #[v] w fun e w' =>
    ∃ v', e = .returned (.tuple #[v', .int .i64 (takeE l)]) ∧ BytsAt w' v' (takeF l) ∧ Below w.heap.size w w' := by
  refine (b7_takeO v l w hl ok hL).mono ?_
  rintro e w' ⟨v', rfl, ho, hb⟩
  exact ⟨v', rfl, byts_of_owned ho, hb⟩
end Go.Proofs.Ythjekbbldejlpaa
/- Contracts of layer 9 (store), of the landed code: Write. -/
set_option linter.unusedVariables false
set_option linter.unusedSimpArgs false
namespace Go.Proofs.Ythjekbbldejlpaa
open Go.ChangeShapes Go.WideShapes Go.ChangeAt Go.RowKit
set_option maxRecDepth 10000 in
set_option maxHeartbeats 8000000 in
theorem b9_write (ver : Int) (v : Value) (B : List Int) (w : World) (hv : i64 ver) (hl : BytsAt w v B) (ok : bytOk B) (hL : B.length ≤ 900 ∨ 65536 < B.length ∧ B.length ≤ maxLen) : Calls Try.prog 10 #[.int .i64 ver, v] w fun e w' =>
    ∃ v', e = .returned (.tuple #[v', .int .i64 (if wr9 ver B = true then 0 else 1)]) ∧ w'.ownsRow w.heap.size 5 1 v' (wrF9 ver B).length (bytVs (wrF9 ver B)) ∧ Below w.heap.size w w' := by
  obtain ⟨i0, hi, hz, hsz, hby⟩ := byte_info
  obtain ⟨p, cap, rfl⟩ := hl.shape
  have hlen := headF_len ver B
  have hok := headF_ok (ver := ver) ok
  obtain ⟨N, hN⟩ : ∃ N, B.length = N := ⟨_, rfl⟩
  unfold maxLen at hL
  by_cases c : wr9 ver B = true
  · have hW : wrF9 ver B = sealF (headF ver B) := if_pos c
    have c' := c
    simp only [wr9, Bool.and_eq_true, decide_eq_true_eq] at c'
    obtain ⟨⟨c1, c2⟩, c3⟩ := c'
    rw [if_pos c, hW]
    have D4 := Lib.hid (fun u => b9_high4 ver u (by omega) (by omega))
    have D3 := Lib.hid (fun u x xs (kb : Below w.heap.size w u) (ho : u.ownsRow w.heap.size 5 1 x 4 xs) => b9_high3 (N : Int) w u x xs (by omega) (by omega) kb ho)
    have PUT := Lib.hid (fun u x (hx : BytsAt u x (headF ver B)) => b7_putN x _ u hx hok (by omega))
    have hH : bytVs (headF ver B) = (bytVs (digs4 ver) ++ bytVs (digs3 (N : Int))) ++ bytVs B := by simp [headF, hN]
    have HH := Lib.hid hH
    have HLEN := Lib.hid hlen
    rw [hN] at hl hL c3 ⊢
    have HN := Lib.hid hN
    have n0 : ¬ ver < 1 := by omega
    have n1 : ¬ 1073741824 < ver := by omega
    have n2 : ¬ (65536 : Int) < N := by omega
    have n3 : N ≤ 900 := by omega
    have HL := Lib.hid hl
    clear hl hlen hok hH hN c hW ok hL
    go_enter Try.func10, Try.ntmps10
    go_wp2_with fail
    refine (D4.out _).mono ?_
    rintro e w1 ⟨v1, rfl, ho1, k1⟩
    go_wp2_with fail
    refine (D3.out _ _ _ k1 ho1).mono ?_
    rintro e w2 ⟨v2, rfl, ho2, k2⟩
    have hB := HL.out.keep k2
    clear ho1 k1
    go_wp2_with (at_builtin; refine app_any _ rfl _ _ 22 rfl w.heap.size 5 i0 _ Try.underlying22 hi hz hsz hby rfl _ _ _ rfl ho2 B _ _ _ rfl hB (by omega) k2.size ?_; intro v5 w5 ho5 hg5; have k5 : Below w.heap.size w w5 := Below.own k2 ho2 hg5; clear hg5 ho2 k2 hB)
    have hb5 : BytsAt w5 v5 (headF ver B) := byts_of_owned (base := w.heap.size) (e := 5) (by
      rw [HLEN.out, HH.out, HN.out, show N + 7 = 7 + N by omega]
      exact ho5)
    clear ho5
    refine (PUT.out _ _ hb5).mono ?_
    rintro e w6 ⟨v6, rfl, ho6, hb6⟩
    have k6 : Below w.heap.size w w6 := chain k5 hb6
    have ho7 := own_base ho6 k5.size
    clear ho6 hb6 k5 hb5
    go_wp2_with fail
    go_ret2
    exact ⟨_, rfl, ho7, k6⟩
  · have hW : wrF9 ver B = [] := if_neg c
    rw [if_neg c, hW]
    have c' : ver < 1 ∨ 1073741824 < ver ∨ 65536 < N := by
      simp only [wr9, Bool.and_eq_true, decide_eq_true_eq] at c
      omega
    rw [hN] at hL ⊢
    clear hl hlen hok hN c hW ok
    by_cases c1 : ver < 1
    · go_enter Try.func10, Try.ntmps10
      go_wp2
      go_ret2
      exact ⟨_, rfl, World.ownsRow_nil _ _ _ _, by (repeat (first | with_reducible assumption | with_reducible exact Below.refl _ _ | with_reducible refine Below.drew ?_ | with_reducible refine below_drewN ?_ _ | with_reducible refine al ?_ _ | (with_reducible refine sc ?_ ?_; (focus (first | omega | (simp; done) | (simp; omega)))) | (with_reducible refine chain ?_ (by assumption))))⟩
    · by_cases c2 : 1073741824 < ver
      · go_enter Try.func10, Try.ntmps10
        go_wp2
        go_ret2
        exact ⟨_, rfl, World.ownsRow_nil _ _ _ _, by (repeat (first | with_reducible assumption | with_reducible exact Below.refl _ _ | with_reducible refine Below.drew ?_ | with_reducible refine below_drewN ?_ _ | with_reducible refine al ?_ _ | (with_reducible refine sc ?_ ?_; (focus (first | omega | (simp; done) | (simp; omega)))) | (with_reducible refine chain ?_ (by assumption))))⟩
      · have c3 : (65536 : Int) < N := by omega
        go_enter Try.func10, Try.ntmps10
        go_wp2
        go_ret2
        exact ⟨_, rfl, World.ownsRow_nil _ _ _ _, by (repeat (first | with_reducible assumption | with_reducible exact Below.refl _ _ | with_reducible refine Below.drew ?_ | with_reducible refine below_drewN ?_ _ | with_reducible refine al ?_ _ | (with_reducible refine sc ?_ ?_; (focus (first | omega | (simp; done) | (simp; omega)))) | (with_reducible refine chain ?_ (by assumption))))⟩
end Go.Proofs.Ythjekbbldejlpaa
/- Contracts of layer 9 (store), of the landed code: Read. -/
set_option linter.unusedVariables false
set_option linter.unusedSimpArgs false
namespace Go.Proofs.Ythjekbbldejlpaa
open Go.ChangeShapes Go.WideShapes Go.ChangeAt Go.RowKit
theorem b9_cut4 {g off N cap : Nat} (h : 7 ≤ N) (hc : N ≤ cap) (u : World) : (Instr.sliceAt 22 (.slice (some ⟨g, off, none⟩) N cap) none (some (.int .i64 4)) none).run Try.prog u = .ok (.slice (some ⟨g, off, none⟩) 4 cap) u := by
  have hs : Try.prog.cellsOf 5 = 1 := by kernel_rfl
  have h2 : ¬ 0 = cap := by omega
  have h3 : ¬ cap = 0 := by omega
  have h4 : (4 : Int) ≤ cap := by omega
  simp [go_sem, *]
theorem b9_cut7 {g off N cap : Nat} (h : 7 ≤ N) (hc : N ≤ cap) (u : World) : (Instr.sliceAt 22 (.slice (some ⟨g, off, none⟩) N cap) (some (.int .i64 4)) (some (.int .i64 7)) none).run Try.prog u = .ok (.slice (some ⟨g, off + 4, none⟩) 3 (cap - 4)) u := by
  have hs : Try.prog.cellsOf 5 = 1 := by kernel_rfl
  have h2 : ¬ 4 = cap := by omega
  have h3 : ¬ cap = 4 := by omega
  have h4 : (7 : Int) ≤ cap := by omega
  simp [go_sem, *]
theorem b9_from7 {w0 w : World} {g off N cap : Nat} {b : List Int} (h : BytsAt w (.slice (some ⟨g, off, none⟩) N cap) b) (hg : w0.heap.size ≤ g) (hN : b.length = N) (hc : N ≤ cap) (h7 : 7 ≤ N) :
    ∃ p, (∀ u, (Instr.sliceAt 22 (.slice (some ⟨g, off, none⟩) N cap) (some (.int .i64 7)) none none).run Try.prog u = .ok (.slice p (N - 7) (cap - 7)) u) ∧ BytsNew w0 w (.slice p (N - 7) (cap - 7)) (b.drop 7) := by
  refine ⟨if cap = 7 then some ⟨g, off, none⟩ else some ⟨g, off + 7, none⟩, fun u => ?_, ?_, fun hp => ?_⟩
  · have hs : Try.prog.cellsOf 5 = 1 := by kernel_rfl
    have h4 : (7 : Int) ≤ N := by omega
    by_cases hci : cap = 7
    · subst hci
      simp [go_sem, *]
    · have h2 : ¬ 7 = cap := by omega
      simp [go_sem, *]
  · by_cases hlt : 7 < N
    · rw [if_neg (by omega)]
      exact h.drop hlt _ (by omega)
    · obtain rfl : N = 7 := by omega
      rw [List.drop_of_length_le (by omega)]
      exact BytsAt.nil
  · rw [List.length_drop] at hp
    rw [if_neg (by omega)]
    exact ⟨g, off + 7, _, _, rfl, hg⟩
set_option maxRecDepth 10000 in
set_option maxHeartbeats 8000000 in
theorem b9_readN (v : Value) (l : List Int) (w : World) (hl : BytsAt w v l) (ok : bytOk l) (hL : l.length ≤ 1000) : Calls Try.prog 14 #[v] w fun e w' =>
    ∃ v', e = .returned (.tuple #[.int .i64 (readV l), v', .int .i64 (readE l)]) ∧ BytsNew w w' v' (readB l) ∧ Below w.heap.size w w' := by
  obtain ⟨p, cap, rfl⟩ := hl.shape
  have ht := b7_takeO _ l w hl ok hL
  obtain ⟨N0, hN0⟩ : ∃ N, l.length = N := ⟨_, rfl⟩
  rw [hN0] at ht ⊢
  have HT := Lib.hid ht
  by_cases c : takeE l = 0
  · have hle : (takeF l).length ≤ 100000 := by
      unfold takeF
      split
      · rw [List.length_take]; omega
      · simp
    have oko : bytOk (takeF l) := by
      unfold takeF
      split
      · exact ok.take _
      · simp [bytOk]
    have e0 : readE l = ownE (takeF l) := by unfold readE; rw [if_neg (by simp [c])]
    have C := Lib.hid c
    by_cases c7 : (takeF l).length < 7
    · have e1 : readE l = 3 := by rw [e0]; unfold ownE; rw [if_pos c7]
      have e2 : readV l = 0 := readV_none (by rw [e1]; decide)
      have e3 : readB l = [] := by unfold readB; rw [e1, if_neg (by decide)]
      rw [e1, e2, e3]
      have C7 := Lib.hid c7
      clear hl ht hN0 hL ok oko hle e0 e1 e2 e3 c c7
      go_enter Try.func14, Try.ntmps14
      go_wp2_with fail
      (refine (HT.out).mono ?_; rintro e w1 ⟨v1, rfl, h1, hb⟩)
      obtain ⟨q, cq, rfl⟩ := own_form h1
      have HB := Lib.hid hb
      have hc := C.out
      have h7 : ((takeF l).length : Int) < 7 := by have := C7.out; omega
      rw [hc]
      obtain ⟨M, hM⟩ : ∃ M, (takeF l).length = M := ⟨_, rfl⟩
      rw [hM] at h7 ⊢
      have g1 : decide ((M : Int) < 7) = true := by simpa using h7
      clear h1 hb hc hM
      go_wp2
      exact bodyPost_ret (v := .tuple #[.int .i64 0, .slice none 0 0, .int .i64 3]) (by simp [results, Try.results14, go_sem]) rfl ⟨_, rfl, BytsNew.none _ _, HB.out⟩
    · have eo : ownE (takeF l) = if num9 ((takeF l).take 4) < 1 ∨ 1073741824 < num9 ((takeF l).take 4) ∨ 65536 < num9 (((takeF l).drop 4).take 3) ∨ num9 (((takeF l).drop 4).take 3) ≠ (takeF l).length - 7 then 2 else 0 := by unfold ownE; rw [if_neg c7]
      rw [eo] at e0
      have eV : readE l = 0 → readV l = num9 ((takeF l).take 4) ∧ readB l = (takeF l).drop 7 := fun h => by unfold readV readB; rw [if_pos h, if_pos h]; exact ⟨rfl, rfl⟩
      have eN : readE l ≠ 0 → readV l = 0 ∧ readB l = [] := fun h => by unfold readV readB; rw [if_neg h, if_neg h]; exact ⟨rfl, rfl⟩
      have b4 := num9_bd oko 4 (by omega)
      have b3 := num9_bd (l := (takeF l).drop 4) (fun x hx => oko x (List.mem_of_mem_drop hx)) 3 (by rw [List.length_drop]; omega)
      have o4 : bytOk ((takeF l).take 4) := oko.take 4
      have o3 : bytOk (((takeF l).drop 4).take 3) := fun x hx => oko x (List.mem_of_mem_drop (List.mem_of_mem_take hx))
      have l4 : ((takeF l).take 4).length = 4 := by rw [List.length_take]; omega
      have l3 : (((takeF l).drop 4).take 3).length = 3 := by rw [List.length_take, List.length_drop]; omega
      have n4 := fun u x (hx : BytsAt u x ((takeF l).take 4)) => b9_number x _ u hx o4 (by omega)
      have n3 := fun u x (hx : BytsAt u x (((takeF l).drop 4).take 3)) => b9_number x _ u hx o3 (by omega)
      obtain ⟨a4, ha4⟩ : ∃ a, num9 ((takeF l).take 4) = a := ⟨_, rfl⟩
      obtain ⟨a3, ha3⟩ : ∃ a, num9 (((takeF l).drop 4).take 3) = a := ⟨_, rfl⟩
      obtain ⟨M, hM⟩ : ∃ M, (takeF l).length = M := ⟨_, rfl⟩
      rw [ha4] at e0 b4 n4
      rw [ha3] at e0 b3 n3
      rw [ha4] at eV
      rw [hM] at e0 c7 hle
      obtain ⟨b40, b41⟩ := b4
      obtain ⟨b30, b31⟩ := b3
      have h7 : decide ((M : Int) < 7) = false := by simp; omega
      have h77 : 7 ≤ M := by omega
      have m7 : ((M - 7 : Nat) : Int) = (M : Int) - 7 := by omega
      have HM := Lib.hid hM
      have N4 := Lib.hid n4
      have N3 := Lib.hid n3
      have E0 := Lib.hid e0
      have EV := Lib.hid eV
      have EN := Lib.hid eN
      clear hl ht hN0 hL ok oko e0 eV eN eo o4 o3 l4 l3 n4 n3 ha4 ha3 hM c b41 b31
      clear c7
      go_enter Try.func14, Try.ntmps14
      go_wp2_with fail
      (refine (HT.out).mono ?_; rintro e w1 ⟨v1, rfl, h1o, hb⟩)
      have HB := Lib.hid hb
      have hc := C.out
      rw [hc]
      obtain ⟨g, cq, rfl⟩ := own_some h1o (by rw [HM.out]; omega)
      have hgn : w.heap.size ≤ g := (h1o.lt g rfl).1
      have h1 : BytsAt w1 _ (takeF l) := byts_of_owned h1o
      obtain ⟨_, _, e9, hf⟩ := h1.form
      obtain ⟨g', off', e8, hcap, hg, _⟩ := hf (by rw [HM.out]; omega)
      simp only [Value.slice.injEq] at e9
      obtain ⟨rfl, _, rfl⟩ := e9
      rw [HM.out] at h1 hcap ⊢
      have s4 := fun u => b9_cut4 (g := g) (off := 0) h77 hcap u
      have s7 := fun u => b9_cut7 (g := g) (off := 0) h77 hcap u
      obtain ⟨P7, f7, hb7⟩ := b9_from7 h1 hgn HM.out hcap h77
      have bt4 : BytsAt w1 (.slice (some ⟨g, 0, none⟩) 4 cq) ((takeF l).take 4) := h1.take (by omega)
      have bt7 : BytsAt w1 (.slice (some ⟨g, 0 + 4, none⟩) 3 (cq - 4)) (((takeF l).drop 4).take 3) := (h1.drop (k := 4) (by omega) (cq - 4) (by omega)).take (by omega)
      have BT4 := Lib.hid (fun u (hu : Below w1.heap.size w1 u) => N4.out u _ (bt4.keep hu))
      have BT7 := Lib.hid (fun u (hu : Below w1.heap.size w1 u) => N3.out u _ (bt7.keep hu))
      have HB7 := Lib.hid hb7
      clear h1 h1o hb hc hf hg bt4 bt7 hb7 hgn e8
      go_wp2_with fail
      refine region_below 10 (by kernel_rfl) (by kernel_rfl) ?_
      simp only [List.take_succ_cons, List.take_zero, List.drop_succ_cons, List.drop_zero]
      repeat (first | (refine' InText.skip (by rfl) ?_; simp only [Act.put, List.setIfInBounds_toArray, List.set_cons_zero, List.set_cons_succ]) | (refine' InText.val (by rfl) (fun wr hr => ?_) ?_; rotate_left 1; (focus (obtain ⟨hrc, hrf⟩ := bcell hr; (go_simp <;> with_reducible rfl); done)); simp only [Act.put, List.setIfInBounds_toArray, List.set_cons_zero, List.set_cons_succ]) | (refine' InText.call (by rfl) (fun wr hr => ?_) (fun wr hr => ?_) ?_; rotate_left 3; (focus ((go_simp <;> (first | with_reducible rfl | exact ⟨rfl, rfl⟩)); done)); (focus (first | with_reducible exact pureB (BT4.out _ hr) | with_reducible exact pureB (BT7.out _ hr))); simp only [Act.put, List.setIfInBounds_toArray, List.set_cons_zero, List.set_cons_succ]))
      refine fun wrs hrs => ?_
      obtain ⟨hrcs, hrfs⟩ := bcell hrs
      have HB2 := Lib.hid (chain HB.out hrs)
      have HB8 := Lib.hid (HB7.out.keep hrs)
      clear hrs hrcs hrfs
      by_cases q1 : a4 < 1
      · have g1 : decide (a4 < 1) = true := by simpa using q1
        have hE : readE l = 2 := by rw [E0.out, if_pos (by omega)]
        obtain ⟨hV, hR⟩ := EN.out (by rw [hE]; decide)
        have H := Lib.hid (And.intro hV (And.intro hE hR))
        clear hV hR hE
        go_wp2
        exact bodyPost_ret (v := .tuple #[.int .i64 0, .slice none 0 0, .int .i64 2]) (by simp [results, Try.results14, go_sem]) rfl ⟨_, by rw [H.out.1, H.out.2.1], by rw [H.out.2.2]; exact BytsNew.none _ _, HB2.out⟩
      · have g1 : decide (a4 < 1) = false := by simpa using q1
        by_cases q2 : 1073741824 < a4
        · have g2 : decide (1073741824 < a4) = true := by simpa using q2
          have g2' : decide (a4 > 1073741824) = true := g2
          have hE : readE l = 2 := by rw [E0.out, if_pos (by omega)]
          obtain ⟨hV, hR⟩ := EN.out (by rw [hE]; decide)
          have H := Lib.hid (And.intro hV (And.intro hE hR))
          clear hV hR hE
          go_wp2
          exact bodyPost_ret (v := .tuple #[.int .i64 0, .slice none 0 0, .int .i64 2]) (by simp [results, Try.results14, go_sem]) rfl ⟨_, by rw [H.out.1, H.out.2.1], by rw [H.out.2.2]; exact BytsNew.none _ _, HB2.out⟩
        · have g2 : decide (1073741824 < a4) = false := by simpa using q2
          have g2' : decide (a4 > 1073741824) = false := g2
          by_cases q3 : 65536 < a3
          · have g3 : decide (65536 < a3) = true := by simpa using q3
            have g3' : decide (a3 > 65536) = true := g3
            have hE : readE l = 2 := by rw [E0.out, if_pos (by omega)]
            obtain ⟨hV, hR⟩ := EN.out (by rw [hE]; decide)
            have H := Lib.hid (And.intro hV (And.intro hE hR))
            clear hV hR hE
            go_wp2
            exact bodyPost_ret (v := .tuple #[.int .i64 0, .slice none 0 0, .int .i64 2]) (by simp [results, Try.results14, go_sem]) rfl ⟨_, by rw [H.out.1, H.out.2.1], by rw [H.out.2.2]; exact BytsNew.none _ _, HB2.out⟩
          · have g3 : decide (65536 < a3) = false := by simpa using q3
            have g3' : decide (a3 > 65536) = false := g3
            by_cases q4 : a3 = (M : Int) - 7
            · have g4 : (a3 != (M : Int) - 7) = false := by simpa using q4
              have g4' : (a3 == (M : Int) - 7) = true := by simpa using q4
              have hE : readE l = 0 := by rw [E0.out, if_neg (by omega)]
              obtain ⟨hV, hR⟩ := EV.out hE
              have H := Lib.hid (And.intro hV (And.intro hE hR))
              have Q4 := Lib.hid q4
              clear hV hR hE q4
              go_wp2
              exact bodyPost_ret (v := .tuple #[.int .i64 a4, .slice P7 (M - 7) (cq - 7), .int .i64 0]) (by simp [results, Try.results14, go_sem]) rfl ⟨_, by rw [H.out.1, H.out.2.1], by rw [H.out.2.2]; exact HB8.out, HB2.out⟩
            · have g4 : (a3 != (M : Int) - 7) = true := by simpa using q4
              have g4' : (a3 == (M : Int) - 7) = false := by simpa using q4
              have hE : readE l = 2 := by rw [E0.out, if_pos (by omega)]
              obtain ⟨hV, hR⟩ := EN.out (by rw [hE]; decide)
              have H := Lib.hid (And.intro hV (And.intro hE hR))
              clear hV hR hE
              go_wp2
              exact bodyPost_ret (v := .tuple #[.int .i64 0, .slice none 0 0, .int .i64 2]) (by simp [results, Try.results14, go_sem]) rfl ⟨_, by rw [H.out.1, H.out.2.1], by rw [H.out.2.2]; exact BytsNew.none _ _, HB2.out⟩
  · have e1 : readE l = takeE l := by unfold readE; rw [if_pos c]
    have e2 : readV l = 0 := readV_none (by rw [e1]; exact c)
    have e3 : readB l = [] := by unfold readB; rw [e1, if_neg c]
    rw [e1, e2, e3]
    obtain ⟨x, hx⟩ : ∃ x, takeE l = x := ⟨_, rfl⟩
    rw [hx] at ht c ⊢
    have HT := Lib.hid ht
    have gd : (x != 0) = true := by simpa using c
    have gd2 : (x == 0) = false := by simpa using c
    clear hl ht hN0 hL ok e1 e2 e3 hx c
    go_enter Try.func14, Try.ntmps14
    go_wp2_with fail
    (refine (HT.out).mono ?_; rintro e w1 ⟨v1, rfl, h1, hb⟩)
    have HB := Lib.hid hb
    clear h1 hb
    go_wp2
    exact bodyPost_ret (v := .tuple #[.int .i64 0, .slice none 0 0, .int .i64 x]) (by simp [results, Try.results14, go_sem]) rfl ⟨_, rfl, BytsNew.none _ _, HB.out⟩
end Go.Proofs.Ythjekbbldejlpaa
