/- Contracts of layer 6's reference (code): Write. -/
import Derived.Test.YtafmekojdaeliaaDoorR61
import Derived.Test.YtafmekojdaeliaaDoorR55
set_option linter.unusedVariables false
set_option linter.unusedSimpArgs false
namespace Go.Proofs.YtafmekojdaeliaaDoor
open Go.ChangeShapes Go.WideShapes Go.ChangeAt Go.RowKit
set_option maxHeartbeats 8000000 in
theorem r6_write (v : Value) (l : List Run) (w : World) (hl : RunsAt w v l) (hb : ∀ j (h : j < l.length), i64 l[j].1 ∧ i64 l[j].2) (hL : l.length ≤ 100000) : Calls Tryd.prog 11 #[v] w fun e w' =>
    ∃ v', e = .returned (.tuple #[v', .int .i64 (if wrB l = true then 0 else 1)]) ∧ w'.ownsRow w.heap.size 5 1 v' (writeF l).length (bytVs (writeF l)) ∧ Below w.heap.size w w' := by
  obtain ⟨i0, hi, hz, hsz, hby⟩ := byte_info
  obtain ⟨p, c, rfl, hf⟩ := hl.form
  obtain ⟨N, hN⟩ : ∃ N, l.length = N := ⟨_, rfl⟩
  have hr := fun n hn u h1 => r5_may (.slice p l.length c) l n hn u h1 hb hL
  obtain ⟨z, hwr⟩ : ∃ z, wrB l = z := ⟨_, rfl⟩
  rw [hwr]
  have hW : writeF l = if z = true then bytesF l else [] := by unfold writeF; rw [hwr]
  rw [hW]
  have HN := Lib.hid hN
  have HF := Lib.hid hf
  have HB := Lib.hid hb
  have HWR := Lib.hid hwr
  rw [hN] at hL hl hr ⊢
  have HR := Lib.hid hr
  clear hN hf hb hr hW hwr
  go_enter Tryd.func11, Tryd.ntmps11
  go_wp2_with fail
  go_loop [4, 5] (fun n i => ∃ k : Nat, k ≤ N ∧ i = .int .i64 k ∧ n = .int .i64 (sumL (l.take k)) ∧ (0 ≤ sumL (l.take k) ∧ sumL (l.take k) ≤ 1048576)) (fun _ i => N - (intOf i).toNat)
  case atStart => exact ⟨0, by omega, rfl, rfl, by simp [sumL]⟩
  case round =>
    obtain ⟨k, hk, rfl, rfl, ⟨s0, s1⟩⟩ := hrel
    by_cases hlt : k < N
    · obtain ⟨g, off, rfl, hc, hgg, hx⟩ := HF.out (by rw [HN.out]; omega)
      obtain ⟨h1, h2⟩ := hx k (by rw [HN.out]; exact hlt)
      obtain ⟨b1, b2⟩ := HB.out k (by rw [HN.out]; exact hlt)
      have hss := sumL_succ l k (by rw [HN.out]; exact hlt)
      have hfl := wr_false (l := l) (k := k) (by rw [HN.out]; exact hlt)
      obtain ⟨x, hx1⟩ : ∃ x, (l[k]'(by rw [HN.out]; exact hlt)).1 = x := ⟨_, rfl⟩
      rw [hx1] at h1 b1 hss hfl
      obtain ⟨S1, hS1⟩ : ∃ S1, sumL (l.take (k + 1)) = S1 := ⟨_, rfl⟩
      rw [hS1] at hss
      have E1 := Lib.hid hS1
      generalize sumL (l.take k) = S0 at *
      have HFL := Lib.hid hfl
      have HSS := Lib.hid hss
      obtain ⟨b10, b11⟩ := b1
      have d0 : 0 ≤ 1048576 - S0 := by omega
      have d1 : 1048576 - S0 ≤ 1048576 := by omega
      clear hx hx1 hss hS1 hfl b2 h2
      by_cases c1 : x < 1
      · have ez : z = false := by rw [← HWR.out]; exact HFL.out (.inl c1)
        subst ez
        go_wp2_with fail
        go_ret2
        exact ⟨_, rfl, World.ownsRow_nil _ _ _ _, Below.refl _ _⟩
      · by_cases c2 : 1048576 - S0 < x
        · have ez : z = false := by rw [← HWR.out]; exact HFL.out (.inr c2)
          subst ez
          go_wp2_with fail
          go_ret2
          exact ⟨_, rfl, World.ownsRow_nil _ _ _ _, Below.refl _ _⟩
        · have q0 : 0 ≤ S0 + x := by omega
          have q1 : S0 + x ≤ 1048576 := by omega
          go_wp2_with fail
          go_round
          case rel => exact ⟨k + 1, by omega, by go_num, by rw [E1.out, HSS.out], by rw [E1.out, HSS.out]; exact ⟨q0, q1⟩⟩
          case measure => simp [intOf]; omega
    · obtain rfl : k = N := by omega
      have e : l.take k = l := by rw [← HN.out, List.take_length]
      rw [e] at s0 s1 ⊢
      have hzM : z = mayR l (sumL l) := by rw [← HWR.out]; unfold wrB; rw [decide_eq_true s1, Bool.and_true]
      have hgood : z = true → goodL none l := fun h => by rw [hzM] at h; exact (mayR_iff.1 h).1
      have hbig : z = true → sumL l ≤ 1048576 := fun _ => s1
      have HG := Lib.hid hgood
      have hM := fun u h1 => HR.out (sumL l) (by constructor <;> omega) u h1
      rw [← hzM] at hM
      obtain ⟨S, hS⟩ : ∃ S, sumL l = S := ⟨_, rfl⟩
      rw [hS] at hM s0 s1 ⊢
      have HS := Lib.hid hS
      have HM := Lib.hid hM
      clear e hzM hgood hM hbig hS
      go_wp2_with fail
      (refine (HM.out _ hl).mono ?_; rintro e w1 ⟨rfl, hb1⟩)
      cases z
      · go_wp2_with fail
        go_ret2
        exact ⟨_, rfl, World.ownsRow_nil _ _ _ _, by (repeat (first | with_reducible assumption | with_reducible exact Below.refl _ _ | with_reducible refine Below.drew ?_ | with_reducible refine below_drewN ?_ _ | with_reducible refine al ?_ _ | (with_reducible refine sc ?_ ?_; (focus (first | omega | (simp; done) | (simp; omega)))) | (with_reducible refine chain ?_ (by assumption))))⟩
      · have hg := HG.out rfl
        have HGO := Lib.hid hg
        clear hg hl
        go_wp2_with fail
        go_loopw [7, 8] (fun o i wr => ∃ j : Nat, j ≤ k ∧ i = .int .i64 j ∧ wr.ownsRow w.heap.size 5 1 o (bytesF (l.take j)).length (bytVs (bytesF (l.take j))) ∧ Below w.heap.size w wr) (fun _ i _ => k - (intOf i).toNat)
        case atStart => exact ⟨0, by omega, rfl, World.ownsRow_nil _ _ _ _, hb1⟩
        case round =>
          clear hb1
          obtain ⟨j, hj, rfl, ho, kw⟩ := hrel
          by_cases hlt2 : j < k
          · obtain ⟨g, off, rfl, hc, hgg, hx⟩ := HF.out (by rw [HN.out]; omega)
            obtain ⟨h1, h2⟩ := hx j (by rw [HN.out]; exact hlt2)
            obtain ⟨m1, m2, m3⟩ := goodL_at l none HGO.out j (by rw [HN.out]; exact hlt2)
            have hbs := bytesF_succ l j (by rw [HN.out]; exact hlt2)
            have hss := sumL_succ l j (by rw [HN.out]; exact hlt2)
            have hs0 := goodL_sum _ _ (goodL_take l none HGO.out j)
            have hbl := bytesF_len (l.take j)
            have htl : (l.take j).length = j := by rw [List.length_take, HN.out]; omega
            obtain ⟨x, hx1⟩ : ∃ x, (l[j]'(by rw [HN.out]; exact hlt2)).1 = x := ⟨_, rfl⟩
            obtain ⟨y, hy1⟩ : ∃ x, (l[j]'(by rw [HN.out]; exact hlt2)).2 = x := ⟨_, rfl⟩
            rw [hx1] at h1 m1 hbs hss
            rw [hy1] at h2 m2 hbs
            have ys := mayB_bd m2
            obtain ⟨ys0, ys1, _, _⟩ := ys
            have xs1 : x ≤ 1048576 := by have := HS.out; omega
            have wy : IntKind.u8.wrap y = y := by show y % 256 = y; omega
            have c1 : wr.cell? ⟨g, off + j * 2, none⟩ = some (.int .i64 x) := keepc kw hgg h1
            have c2 : wr.cell? ⟨g, off + j * 2 + 1, none⟩ = some (.int .i64 y) := keepc kw hgg h2
            have zg : g < wr.heap.size := Nat.lt_of_lt_of_le hgg kw.size
            have hpos := num_pos (n := x) (by omega) xs1
            have hn3 := num_len3 x
            obtain ⟨D, hD⟩ : ∃ D, bytesF (l.take j) = D := ⟨_, rfl⟩
            rw [hD] at ho hbs hbl
            rw [htl] at hbl
            have HBS := Lib.hid hbs
            have hnum := fun u => r6_number x (by constructor <;> omega) u
            have HNUM := Lib.hid hnum
            have H1 := Lib.hid h1
            clear hx hx1 hy1 hbs hss m3 m2 h1 h2 hD htl hnum
            have bj : (j : Int) < k := by omega
            go_wp2_with (at_builtin; refine app_byte _ rfl _ _ 25 rfl w.heap.size 5 i0 _ Tryd.underlying25 hi hz hsz hby rfl _ _ _ rfl (ho.alloc _) wr.heap.size (.int .u8 y) rfl (by go_simp) rfl (by omega) (by have := kw.size; simp; omega) ?_; intro v1 w2 ho1 hg1; have k1 : Below w.heap.size w w2 := Below.own (al kw _) (ho.alloc _) hg1; have c3 : w2.cell? ⟨g, off + j * 2, none⟩ = some (.int .i64 x) := keepc k1 hgg H1.out; have zg3 : g < w2.heap.size := Nat.lt_of_lt_of_le hgg k1.size; clear ho hg1)
            refine (HNUM.out _).mono ?_
            rintro e w3 ⟨v3, rfl, ho3, hb3⟩
            have k3 : Below w.heap.size w w3 := chain k1 hb3
            have ho4 := own_keep ho1 hb3
            have hby3 := byts_of_owned ho3
            obtain ⟨p3, q3, rfl⟩ := hby3.shape
            obtain ⟨m, hm⟩ : ∃ m, (numF x).length = m := ⟨_, rfl⟩
            rw [hm] at hby3 hpos hn3 ⊢
            have HM2 := Lib.hid hm
            clear ho1 ho3 hb3 c3 k1 hm
            go_wp2_with (at_builtin; refine app_bytes _ rfl _ _ 25 rfl w.heap.size 5 i0 _ Tryd.underlying25 hi hz hsz hby rfl _ _ _ rfl ho4 (numF x) _ _ _ rfl hby3 (by omega) (by omega) k3.size ?_; intro v4 w4 ho5 hg4)
            go_roundw
            case rel =>
              refine ⟨j + 1, by omega, by go_num, ?_, Below.own k3 ho4 hg4⟩
              have e1 : (D ++ y :: numF x).length = D.length + 1 + m := by rw [List.length_append, List.length_cons, HM2.out]; omega
              have e2 : bytVs (D ++ y :: numF x) = (bytVs D ++ [.int .u8 y]) ++ bytVs (numF x) := by simp [bytVs]
              rw [HBS.out, e1, e2]
              exact ho5
            case measure => simp [intOf]; omega
          · obtain rfl : j = k := by omega
            have e : l.take j = l := by rw [← HN.out, List.take_length]
            rw [e] at ho
            go_wp2_with fail
            go_ret2
            exact ⟨_, rfl, ho, kw⟩
end Go.Proofs.YtafmekojdaeliaaDoor
