/- Contracts of layer 6 (code), of the landed code. -/
import Derived.Test.YtafmekojdaeliaaDoorB63
set_option linter.unusedVariables false
set_option linter.unusedSimpArgs false
namespace Go.Proofs.YtafmekojdaeliaaDoor
open Go.ChangeShapes Go.WideShapes Go.ChangeAt Go.RowKit
set_option maxHeartbeats 8000000 in
theorem b6_write0 (v : Value) (l : List Run) (w : World) (hV : Vars w) (hl : RunsAt w v l) (hb : ∀ j (h : j < l.length), i64 l[j].1 ∧ i64 l[j].2) (hL : l.length ≤ 100000) : Calls Tryd.prog 10 #[v] w fun e w' =>
    ∃ v', e = .returned (.tuple #[v', .int .i64 (wrE l)]) ∧ w'.ownsRow w.heap.size 5 1 v' (writeF l).length (bytVs (writeF l)) ∧ Below w.heap.size w w' := by
  obtain ⟨i0, hi, hz, hsz, hby⟩ := byte_info
  obtain ⟨p, c, rfl, hf⟩ := hl.form
  obtain ⟨N, hN⟩ : ∃ N, l.length = N := ⟨_, rfl⟩
  have hlen := fun u hu => b6_len (.slice p l.length c) l hb hL u hu
  have hmay := fun n hn u hv h1 => b5_may (.slice p l.length c) l n hn u hv h1 hb hL
  obtain ⟨z, hwr⟩ : ∃ z, wrB l = z := ⟨_, rfl⟩
  have hE : wrE l = if z = true then 0 else 1 := by unfold wrE; rw [hwr]
  have hW : writeF l = if z = true then bytesF l else [] := by unfold writeF; rw [hwr]
  have hww := wr_wrap l
  have hbd := wrap_bd (sumL l)
  rw [hE, hW]
  generalize IntKind.i64.wrap (sumL l) = W at *
  rw [hwr] at hww
  have HN := Lib.hid hN
  have HF := Lib.hid hf
  have HB := Lib.hid hb
  have HWR := Lib.hid hwr
  have HWW := Lib.hid hww
  have HBD := Lib.hid hbd
  rw [hN] at hL hl hlen hmay ⊢
  have HLEN := Lib.hid hlen
  have HMAY := Lib.hid hmay
  obtain ⟨W0, W1⟩ := hbd
  clear hN hf hb hW hwr hlen hmay hww hE
  go_enter Tryd.func10, Tryd.ntmps10
  go_wp2_with fail
  (refine (HLEN.out _ hl).mono ?_; rintro e w1 ⟨rfl, hb1⟩)
  by_cases hbig : 1048576 < W
  · have ez : z = false := by rw [← HWW.out, decide_eq_false (by omega)]; rfl
    subst ez
    go_wp2_with fail
    go_ret2
    exact ⟨_, rfl, World.ownsRow_nil _ _ _ _, by (repeat (first | with_reducible assumption | with_reducible exact Below.refl _ _ | with_reducible refine Below.drew ?_ | with_reducible refine below_drewN ?_ _ | with_reducible refine al ?_ _ | (with_reducible refine sc ?_ ?_; (focus (first | omega | (simp; done) | (simp; omega)))) | (with_reducible refine chain ?_ (by assumption))))⟩
  · have em : mayR l W = z := by rw [← HWW.out, decide_eq_true (by omega), Bool.true_and]
    have EM := Lib.hid em
    clear em
    go_wp2_with fail
    refine (HMAY.out W HBD.out _ (hV.keep hb1) (hl.keep hb1)).mono ?_
    rw [EM.out]
    rintro e w2 ⟨rfl, hb2⟩
    have k2 : Below w.heap.size w w2 := chain hb1 hb2
    clear hb1 hb2 hl
    cases z
    · go_wp2_with fail
      go_ret2
      exact ⟨_, rfl, World.ownsRow_nil _ _ _ _, by (repeat (first | with_reducible assumption | with_reducible exact Below.refl _ _ | with_reducible refine Below.drew ?_ | with_reducible refine below_drewN ?_ _ | with_reducible refine al ?_ _ | (with_reducible refine sc ?_ ?_; (focus (first | omega | (simp; done) | (simp; omega)))) | (with_reducible refine chain ?_ (by assumption))))⟩
    · have hg : goodL none l := (wrB_iff.1 HWR.out).1
      have hS : sumL l ≤ 1048576 := (wrB_iff.1 HWR.out).2.2
      have HGO := Lib.hid hg
      have HS := Lib.hid hS
      clear hg hS
      go_wp2_with fail
      go_loopw [5, 20] (fun o i wr => ∃ j : Nat, j ≤ N ∧ i = .int .i64 j ∧ wr.ownsRow w.heap.size 5 1 o (bytesF (l.take j)).length (bytVs (bytesF (l.take j))) ∧ Below w.heap.size w wr) (fun _ i _ => N - (intOf i).toNat)
      case atStart => exact ⟨0, by omega, rfl, World.ownsRow_nil _ _ _ _, k2⟩
      case round =>
        clear k2
        obtain ⟨j, hj, rfl, ho, kw⟩ := hrel
        by_cases hlt2 : j < N
        · obtain ⟨g, off, rfl, hc, hgg, hx⟩ := HF.out (by rw [HN.out]; omega)
          obtain ⟨h1, h2⟩ := hx j (by rw [HN.out]; exact hlt2)
          obtain ⟨m1, m2, m3⟩ := goodL_at l none HGO.out j (by rw [HN.out]; exact hlt2)
          have hbs := bytesF_succ l j (by rw [HN.out]; exact hlt2)
          have hss := sumL_succ l j (by rw [HN.out]; exact hlt2)
          have hs0 := goodL_sum _ _ (goodL_take l none HGO.out j)
          have hbl := bytesF_len (l.take j)
          have htl : (l.take j).length = j := by rw [List.length_take, HN.out]; omega
          obtain ⟨x, hx1⟩ : ∃ x, (l[j]'(by rw [HN.out]; exact hlt2)).1 = x := ⟨_, rfl⟩
          obtain ⟨y, hy1⟩ : ∃ x, (l[j]'(by rw [HN.out]; exact hlt2)).2 = x := ⟨_, rfl⟩
          rw [hx1] at h1 m1 hbs hss
          rw [hy1] at h2 m2 hbs
          have ys := mayB_bd m2
          obtain ⟨ys0, ys1, _, _⟩ := ys
          have xs1 : x ≤ 1048576 := by have := HS.out; omega
          have wy : IntKind.u8.wrap y = y := by show y % 256 = y; omega
          have c1 : wr.cell? ⟨g, off + j * 2, none⟩ = some (.int .i64 x) := keepc kw hgg h1
          have c2 : wr.cell? ⟨g, off + j * 2 + 1, none⟩ = some (.int .i64 y) := keepc kw hgg h2
          have zg : g < wr.heap.size := Nat.lt_of_lt_of_le hgg kw.size
          have hpos := num_pos (n := x) (by omega) xs1
          have hn3 := num_len3 x
          obtain ⟨D, hD⟩ : ∃ D, bytesF (l.take j) = D := ⟨_, rfl⟩
          rw [hD] at ho hbs hbl
          rw [htl] at hbl
          have HBS := Lib.hid hbs
          have hnum := fun u => b6_number0 x (by constructor <;> omega) u
          have HNUM := Lib.hid hnum
          clear hx hx1 hy1 hbs hss m3 m2 h1 h2 hD htl hnum
          have bj : (j : Int) < N := by omega
          go_upto_region 8 with (fail)
          have hol : ∀ k, (u5 : Value).ownBlock = some k → k < wr.heap.size := fun k e => (ho.lt k e).2
          obtain ⟨X, hX⟩ : ∃ X, wr.alloc (.cells #[.int .i64 x, .int .i64 y] 49) = X := ⟨_, rfl⟩
          have rX : RowAt X wr.heap.size #[.int .i64 x, .int .i64 y] 49 := by rw [← hX]; exact RowAt.new wr _ _
          have kX : Below wr.heap.size wr X := by rw [← hX]; exact al (Below.refl _ _) _
          replace ho := own_keep ho kX
          have k3 : Below w.heap.size w X := chain kw kX
          have c3 : X.cell? ⟨wr.heap.size, 0, none⟩ = some (.int .i64 x) := by rw [rX.cell]; rfl
          have c4 : X.cell? ⟨wr.heap.size, 1, none⟩ = some (.int .i64 y) := by rw [rX.cell]; rfl
          have z3 : wr.heap.size < X.heap.size := rX.lt
          have RX := Lib.hid rX
          have hne : (u5 : Value).ownBlock ≠ some wr.heap.size := fun e => Nat.lt_irrefl _ (hol _ e)
          have HNE := Lib.hid hne
          clear hne
          rw [hX]
          clear hX rX kX hol c1 c2 zg kw
          go_upto_region 9 with (at_builtin; refine app_byte _ rfl _ _ 25 rfl w.heap.size 5 i0 _ Tryd.underlying25 hi hz hsz hby rfl _ _ _ rfl (ho.alloc _) X.heap.size (.int .u8 y) rfl (by go_simp) rfl (by omega) (by have := k3.size; simp; omega) ?_; intro v1 w4 ho1 hg1)
          have k4 : Below w.heap.size w w4 := Below.own (al k3 _) (ho.alloc _) hg1
          have rW := RowAt.grown (RX.out.alloc _) hg1 HNE.out
          have c5 : w4.cell? ⟨wr.heap.size, 0, none⟩ = some (.int .i64 x) := by rw [rW.cell]; rfl
          have z5 : wr.heap.size < w4.heap.size := rW.lt
          clear ho hg1 rW c3 c4 z3
          go_wp2_with fail
          refine (HNUM.out _).mono ?_
          rintro e w5 ⟨v3, rfl, ho3, hb3⟩
          have k5 : Below w.heap.size w w5 := chain k4 hb3
          have ho4 := own_keep ho1 hb3
          have hby3 := byts_of_owned ho3
          obtain ⟨p3, q3, rfl⟩ := hby3.shape
          obtain ⟨m, hm⟩ : ∃ m, (numF x).length = m := ⟨_, rfl⟩
          rw [hm] at hby3 hpos hn3 ⊢
          have HM2 := Lib.hid hm
          clear ho1 ho3 hb3 c5 z5 k4 hm
          go_wp2_with (at_builtin; refine app_bytes _ rfl _ _ 25 rfl w.heap.size 5 i0 _ Tryd.underlying25 hi hz hsz hby rfl _ _ _ rfl ho4 (numF x) _ _ _ rfl hby3 (by omega) (by omega) k5.size ?_; intro v4 w6 ho5 hg4)
          go_roundw
          case rel =>
            refine ⟨j + 1, by omega, by go_num, ?_, Below.own k5 ho4 hg4⟩
            have e1 : (D ++ y :: numF x).length = D.length + 1 + m := by rw [List.length_append, List.length_cons, HM2.out]; omega
            have e2 : bytVs (D ++ y :: numF x) = (bytVs D ++ [.int .u8 y]) ++ bytVs (numF x) := by simp [bytVs]
            rw [HBS.out, e1, e2]
            exact ho5
          case measure => simp [intOf]; omega
        · obtain rfl : j = N := by omega
          have e : l.take j = l := by rw [← HN.out, List.take_length]
          rw [e] at ho
          go_wp2_with fail
          go_ret2
          exact ⟨_, rfl, ho, kw⟩
theorem b6_write (v : Value) (l : List Run) (w : World) (hV : Vars w) (hl : RunsAt w v l) (hb : ∀ j (h : j < l.length), i64 l[j].1 ∧ i64 l[j].2) (hL : l.length ≤ 100000) : Calls Tryd.prog 10 #[v] w fun e w' =>
    ∃ v', e = .returned (.tuple #[v', .int .i64 (wrE l)]) ∧ BytsAt w' v' (writeF l) ∧ Below w.heap.size w w' := by
  refine (b6_write0 v l w hV hl hb hL).mono ?_
  rintro e w1 ⟨v1, rfl, ho, hb1⟩
  exact ⟨_, rfl, byts_of_owned ho, hb1⟩
theorem b6_read (v : Value) (b : List Int) (n : Int) (h1 : 1 ≤ n) (h2 : n ≤ 1048576) (w : World) (hV : Vars w) (hl : BytsAt w v b) (ok : bytOk b) (hL : b.length ≤ 100000) : Calls Tryd.prog 15 #[v, .int .i64 n] w fun e w' =>
    ∃ v', e = .returned (.tuple #[v', .int .i64 (readF b n).1]) ∧ RunsAt w' v' (readF b n).2 ∧ Below w.heap.size w w' := by
  refine (b6_read0 v b n (by constructor <;> omega) (by omega) w hV hl ok hL).mono ?_
  rintro e w1 ⟨v1, rfl, ho, hb1⟩
  exact ⟨_, rfl, runs_of_owned ho, hb1⟩
theorem b6_number (n : Int) (hn : i64 n) (w : World) (hV : Vars w) : Calls Tryd.prog 21 #[.int .i64 n] w fun e w' => ∃ v', e = .returned v' ∧ BytsAt w' v' (numF n) ∧ Below w.heap.size w w' := by
  refine (b6_number0 n hn w).mono ?_
  rintro e w1 ⟨v1, rfl, ho, hb1⟩
  exact ⟨_, rfl, byts_of_owned ho, hb1⟩
theorem b6_digits (v : Value) (b : List Int) (w : World) (hV : Vars w) (hl : BytsAt w v b) (ok : bytOk b) (hL : b.length ≤ maxLen) : Calls Tryd.prog 22 #[v] w fun e w' =>
    e = .returned (.tuple #[.int .i64 (digF b).1, .int .i64 (digF b).2.1, .int .i64 (digF b).2.2]) ∧ Below w.heap.size w w' :=
  b6_digits0 v b w hl ok hL
end Go.Proofs.YtafmekojdaeliaaDoor
