/- Texts behind each other. -/
import Derived.Test.YtlmekadgcllndaaZ03
import Derived.Laws.StructEq
import Derived.Test.YtlmekadgcllndaaRows
import Derived.Lib.LaidTab
import Derived.MakeChecks
import Derived.RangeFuncNested
import Derived.RangeFuncFrom
import Derived.RangeFuncBound
import Derived.RangeFuncCalls
import Derived.RangeFuncLeaves
import Derived.Test.YtlmekadgcllndaaZ02
/- Contracts of layer 5's reference (runs): Of. -/
set_option linter.unusedVariables false
set_option linter.unusedSimpArgs false
namespace Go.Proofs.Ytlmekadgcllndaa
open Go.ChangeShapes Go.WideShapes Go.ChangeAt Go.RowKit
theorem run_info : ∃ i, Try.prog.info? 45 = some i ∧ i.zero = some (.agg #[.int .i64 0, .int .i64 0]) ∧ i.size = 2 ∧ i.bytes = 16 := by
  obtain ⟨i, hi⟩ : ∃ i, Try.prog.info? 45 = some i := Option.isSome_iff_exists.1 (by kernel_rfl)
  have h : (Try.prog.info? 45).map (fun i => (i.zero, i.size, i.bytes)) = some (some (.agg #[.int .i64 0, .int .i64 0]), 2, 16) := by kernel_rfl
  rw [hi] at h
  simp at h
  exact ⟨i, hi, h.1, h.2.1, h.2.2⟩
set_option maxRecDepth 10000 in
set_option maxHeartbeats 4000000 in
theorem r5_of (v : Value) (l : List Int) (w : World) (hl : IntsAt w v l) (hL : l.length ≤ 100000) : Calls Try.prog 18 #[v] w fun e w' =>
    ∃ v', e = .returned v' ∧ w'.ownsRow w.heap.size 45 2 v' (ofF l).length (runVs (ofF l)) ∧ Below w.heap.size w w' := by
  obtain ⟨i0, hi, hz, hsz, hby⟩ := run_info
  rcases hl with ⟨⟨p0, c0, rfl⟩, rfl⟩ | ⟨g, off, cap, rfl, hc, hg, hx⟩
  · go_enter Try.func18, Try.ntmps18
    go_wp2_with fail
    refine wp_loop_rounds 1 ?_
    rw [rounds_succ]
    go_wp2_with fail
    go_ret
    exact ⟨_, rfl, World.ownsRow_nil _ _ _ _, by (repeat (first | with_reducible assumption | with_reducible exact Below.refl _ _ | with_reducible refine Below.drew ?_ | with_reducible refine below_drewN ?_ _ | with_reducible refine al ?_ _ | (with_reducible refine sc ?_ ?_; (focus (first | omega | (simp; done) | (simp; omega)))) | (with_reducible refine chain ?_ (by assumption))))⟩
  · obtain ⟨N, hN⟩ : ∃ N, l.length = N := ⟨_, rfl⟩
    have HX := Lib.hid hx
    have HN := Lib.hid hN
    rw [hN] at hc hL ⊢
    clear hx hN
    go_enter Try.func18, Try.ntmps18
    go_wp2_with fail
    go_loopw [3, 4] (fun o i wr => ∃ k : Nat, k ≤ N ∧ i = .int .i64 k ∧ wr.ownsRow w.heap.size 45 2 o (ofF (l.take k)).length (runVs (ofF (l.take k))) ∧ Below w.heap.size w wr) (fun _ i _ => N - (intOf i).toNat)
    case atStart => exact ⟨0, by omega, rfl, World.ownsRow_nil _ _ _ _, by (repeat (first | with_reducible assumption | with_reducible exact Below.refl _ _ | with_reducible refine Below.drew ?_ | with_reducible refine below_drewN ?_ _ | with_reducible refine al ?_ _ | (with_reducible refine sc ?_ ?_; (focus (first | omega | (simp; done) | (simp; omega)))) | (with_reducible refine chain ?_ (by assumption))))⟩
    case round =>
      obtain ⟨k, hk, rfl, ho, kw⟩ := hrel
      have zg : g < wr.heap.size := Nat.lt_of_lt_of_le hg kw.size
      by_cases hlt : k < N
      · have h1 := HX.out k (by rw [HN.out]; exact hlt)
        have hs : ofF (l.take (k + 1)) = stepF (ofF (l.take k)) (l[k]'(by rw [HN.out]; exact hlt)) := by rw [take_succ_get l k (by rw [HN.out]; exact hlt), ofF_snoc]
        obtain ⟨c, hcc⟩ : ∃ n, (l[k]'(by rw [HN.out]; exact hlt)) = n := ⟨_, rfl⟩
        rw [hcc] at h1 hs
        clear hcc
        have c1 : wr.cell? ⟨g, off + k, none⟩ = some (.int .i64 c) := keepc kw hg h1
        clear h1
        have hlen := ofF_length l k (by rw [HN.out]; omega)
        rcases Nat.eq_zero_or_pos k with rfl | hpos
        · have e0 : ofF (l.take 0) = [] := by simp [ofF]
          rw [e0] at ho hs
          have HS := Lib.hid hs
          clear e0 hs hlen
          go_wp2_with fail
          refine region_below 13 (by kernel_rfl) (by kernel_rfl) ?_
          simp only [List.take_succ_cons, List.take_zero, List.drop_succ_cons, List.drop_zero]
          repeat (first | (refine' InText.skip (by rfl) ?_; simp only [Act.put, List.setIfInBounds_toArray, List.set_cons_zero, List.set_cons_succ]) | (refine' InText.val (by rfl) (fun wr hr => ?_) ?_; rotate_left 1; (focus (obtain ⟨hrc, hrf⟩ := bcell hr; (go_simp <;> with_reducible rfl); done)); simp only [Act.put, List.setIfInBounds_toArray, List.set_cons_zero, List.set_cons_succ]))
          refine fun wrs hrs => ?_
          obtain ⟨hrcs, hrfs⟩ := bcell hrs
          have zg2 : g < wrs.heap.size := size_lt zg hrs
          have ks : Below w.heap.size w wrs := chain kw hrs
          have ho2 := own_keep ho hrs
          have c2 : wrs.cell? ⟨g, off, none⟩ = some (.int .i64 c) := by simpa using keepc hrs zg c1
          clear ho hrs hrcs hrfs c1
          go_wp2_with (at_builtin; refine app_run _ rfl _ _ 25 rfl w.heap.size 45 i0 _ Try.underlying25 hi hz hsz hby rfl _ _ _ rfl (ho2.alloc _) wrs.heap.size (.int .i64 1) (.int .i64 c) rfl (by go_simp) (by go_simp) rfl rfl (by simp) (by have := ks.size; simp; omega) ?_; intro v1 w1 ho1 hg1)
          go_roundw
          case rel => exact ⟨1, by omega, by go_num, by rw [HS.out]; exact ho1, Below.own (al ks _) (ho2.alloc _) hg1⟩
          case measure => simp [intOf]; omega
        · obtain ⟨j, rfl⟩ : ∃ j, k = j + 1 := ⟨k - 1, by omega⟩
          obtain ⟨D, r, e, r1, r2, dl⟩ := ofF_form l j (by rw [HN.out]; omega)
          have h3 := HX.out j (by rw [HN.out]; omega)
          have e4 : l[j]! = l[j]'(by rw [HN.out]; omega) := by simp [HN.out, show j < N by omega]
          rw [e4] at e
          obtain ⟨p, hp⟩ : ∃ n, (l[j]'(by rw [HN.out]; omega)) = n := ⟨_, rfl⟩
          rw [hp] at h3 e
          rw [e] at ho hs hlen
          have c3 : wr.cell? ⟨g, off + j, none⟩ = some (.int .i64 p) := keepc kw hg h3
          obtain ⟨q, hq⟩ : ∃ q, (p == c) = q := ⟨_, rfl⟩
          have hS : ofF (l.take (j + 1 + 1)) = if q = true then D ++ [(r + 1, c)] else D ++ [(r, p)] ++ [(1, c)] := by
            rw [hs, ← hq]
            by_cases h : p = c
            · subst h; simp [stepF_same]
            · simp [h]; have := stepF_other D r p c h; simpa using this
          have HS := Lib.hid hS
          clear hS hs h3 e4 hp e
          have wj : IntKind.i64.wrap (j : Int) = j := IntWalk.i64_in _ (by omega)
          have bj : (j : Int) < N := by omega
          have bk : (j : Int) + 1 < N := by omega
          have bn : j < N := by omega
          have b1 : (0 : Int) ≤ (j : Int) + 1 := by omega
          have b2 : j + 1 < N := by omega
          have b3 : ((j : Int) + 1).toNat = j + 1 := by omega
          cases q
          · go_wp2_with fail
            refine region_below 13 (by kernel_rfl) (by kernel_rfl) ?_
            simp only [List.take_succ_cons, List.take_zero, List.drop_succ_cons, List.drop_zero]
            repeat (first | (refine' InText.skip (by rfl) ?_; simp only [Act.put, List.setIfInBounds_toArray, List.set_cons_zero, List.set_cons_succ]) | (refine' InText.val (by rfl) (fun wr hr => ?_) ?_; rotate_left 1; (focus (obtain ⟨hrc, hrf⟩ := bcell hr; (go_simp <;> with_reducible rfl); done)); simp only [Act.put, List.setIfInBounds_toArray, List.set_cons_zero, List.set_cons_succ]))
            refine fun wrs hrs => ?_
            obtain ⟨hrcs, hrfs⟩ := bcell hrs
            have zg2 : g < wrs.heap.size := size_lt zg hrs
            have ks : Below w.heap.size w wrs := chain kw hrs
            have ho2 := own_keep ho hrs
            have c2 : wrs.cell? ⟨g, off + j + 1, none⟩ = some (.int .i64 c) := by simpa [Nat.add_assoc] using keepc hrs zg c1
            have c4 : wrs.cell? ⟨g, off + (j + 1), none⟩ = some (.int .i64 c) := keepc hrs zg c1
            clear ho hrs hrcs hrfs c1 c3
            go_wp2_with (at_builtin; refine app_run _ rfl _ _ 25 rfl w.heap.size 45 i0 _ Try.underlying25 hi hz hsz hby rfl _ _ _ rfl (ho2.alloc _) wrs.heap.size (.int .i64 1) (.int .i64 c) rfl (by go_simp) (by go_simp) rfl rfl (by omega) (by have := ks.size; simp; omega) ?_; intro v1 w1 ho1 hg1)
            go_roundw
            case rel => exact ⟨j + 1 + 1, by omega, by go_num, by rw [HS.out, if_neg (by decide), runVs_append, List.length_append]; exact ho1, Below.own (al ks _) (ho2.alloc _) hg1⟩
            case measure => simp [intOf]; omega
          · go_wp2_with fail
            refine region_below 13 (by kernel_rfl) (by kernel_rfl) ?_
            simp only [List.take_succ_cons, List.take_zero, List.drop_succ_cons, List.drop_zero]
            repeat (first | (refine' InText.skip (by rfl) ?_; simp only [Act.put, List.setIfInBounds_toArray, List.set_cons_zero, List.set_cons_succ]) | (refine' InText.val (by rfl) (fun wr hr => ?_) ?_; rotate_left 1; (focus (obtain ⟨hrc, hrf⟩ := bcell hr; (go_simp <;> with_reducible rfl); done)); simp only [Act.put, List.setIfInBounds_toArray, List.set_cons_zero, List.set_cons_succ]))
            refine fun wrs hrs => ?_
            obtain ⟨hrcs, hrfs⟩ := bcell hrs
            have zg2 : g < wrs.heap.size := size_lt zg hrs
            have ks : Below w.heap.size w wrs := chain kw hrs
            have ho2 := own_keep ho hrs
            have c2 : wrs.cell? ⟨g, off + j + 1, none⟩ = some (.int .i64 c) := by simpa [Nat.add_assoc] using keepc hrs zg c1
            have c4 : wrs.cell? ⟨g, off + (j + 1), none⟩ = some (.int .i64 c) := keepc hrs zg c1
            clear ho hrs hrcs hrfs c1 c3
            rcases ho2.2 with ⟨_, hz0⟩ | ⟨g2, cap2, cur, rfl, hb, hgg, _⟩
            · simp at hz0
            have d0 : (runVs (D ++ [(r, p)]))[D.length * 2]? = some (.int .i64 r) := by rw [(runVs_at (D ++ [(r, p)]) D.length (by simp)).1]; simp
            have d1 : wrs.cell? ⟨g2, D.length * 2, none⟩ = some (.int .i64 r) := own_cell ho2 (D.length * 2) d0
            clear d0
            have fz : ∀ o, wrs.frozen? ⟨g2, o, none⟩ = false := fun o => by simp [World.frozen?, hgg]
            have hl2 : (D ++ [(r, p)]).length = D.length + 1 := by simp
            have hos := own_set ho2 (D.length * 2) (by simp) (.int .i64 (r + 1))
            obtain rfl : p = c := by simpa using hq
            rw [runVs_set] at hos
            go_wp2_with fail
            go_roundw
            case rel => exact ⟨j + 1 + 1, by omega, by go_num, by rw [HS.out, if_pos (by trivial)]; simpa using hos, Below.own_set ks ho2 _ _⟩
            case measure => simp [intOf]; omega
      · obtain rfl : k = N := by omega
        have e : l.take k = l := by rw [← HN.out, List.take_length]
        rw [e] at ho
        clear e
        go_wp2_with fail
        go_ret
        exact ⟨_, rfl, ho, by (repeat (first | with_reducible assumption | with_reducible exact Below.refl _ _ | with_reducible refine Below.drew ?_ | with_reducible refine below_drewN ?_ _ | with_reducible refine al ?_ _ | (with_reducible refine sc ?_ ?_; (focus (first | omega | (simp; done) | (simp; omega)))) | (with_reducible refine chain ?_ (by assumption))))⟩
end Go.Proofs.Ytlmekadgcllndaa
/- Contracts of layer 10's reference (gen): Block, Chunk. -/
set_option linter.unusedVariables false
set_option linter.unusedSimpArgs false
namespace Go.Proofs.Ytlmekadgcllndaa
open Go.ChangeShapes Go.WideShapes Go.ChangeAt Go.RowKit
set_option maxRecDepth 10000 in
set_option maxHeartbeats 8000000 in
theorem rA_block (s x y z : Int) (hs : i64 s) (hx : i64 x) (hz : i64 z) (w : World) : Calls Try.prog 12 #[.int .i64 s, vecV x y z] w fun e w' => e = .returned (.int .i64 (blockF s x y z)) ∧ Below w.heap.size w w' := by
  have hg := fun u => rA_ground s x z hs hx hz u
  have bg := ground_bd s x z
  unfold blockF
  generalize groundF s x z = g at *
  obtain ⟨g0, g1⟩ := bg
  have HG := Lib.hid hg
  obtain ⟨R, hR⟩ : ∃ y', blockG g y = y' := ⟨_, rfl⟩
  rw [hR]
  unfold blockG at hR
  have w3 : IntKind.i64.wrap (g - 3) = g - 3 := IntWalk.i64_in _ (by omega)
  have w1 : IntKind.i64.wrap (g - 1) = g - 1 := IntWalk.i64_in _ (by omega)
  obtain ⟨G3, hG3⟩ : ∃ y', g - 3 = y' := ⟨_, rfl⟩
  obtain ⟨G1, hG1⟩ : ∃ y', g - 1 = y' := ⟨_, rfl⟩
  rw [hG3] at hR w3
  rw [hG1] at hR w1
  have H3 := Lib.hid hG3
  have H1 := Lib.hid hG1
  have HR := Lib.hid hR
  have B0 := Lib.hid g0
  have B1 := Lib.hid g1
  clear hg hs hx hz hR g0 g1
  go_enter Try.func12, Try.ntmps12
  go_upto_region 1 with (fail)
  obtain ⟨u0, hu⟩ : ∃ u, w.alloc (.cells #[.int .i64 x, .int .i64 y, .int .i64 z] 33) = u := ⟨_, rfl⟩
  rw [hu]
  have k00 : Below w.heap.size w u0 := by rw [← hu]; exact al (Below.refl _ _) _
  have rb0 : RowAt u0 w.heap.size #[.int .i64 x, .int .i64 y, .int .i64 z] 33 := by rw [← hu]; exact RowAt.new w _ _
  have c0 := rb0.cell
  have z0 := rb0.lt
  clear hu
  go_wp2_with fail
  (refine (HG.out _).mono ?_; rintro e v1 ⟨rfl, hb1⟩)
  have K1 := Lib.hid (chain k00 hb1)
  have rb1 := rb0.keep hb1
  clear hb1 c0 z0 k00 rb0
  have c0 := rb1.cell
  have z0 := rb1.lt
  clear rb1
  by_cases q_lt0 : y < 0
  · have f_lt0 : decide (y < 0) = true := by simpa using q_lt0
    have hr : 0 = R := by have h := HR.out; have h3 := H3.out; have h1 := H1.out; have b0 := B0.out; have b1 := B1.out; rw [← h]; (repeat' split) <;> omega
    clear q_lt0
    have HRR := Lib.hid hr
    clear hr
    go_wp2
    go_ret
    exact ⟨ret_int HRR.out, K1.out⟩
  · by_cases q_gt31 : 31 < y
    · have f_lt0 : decide (y < 0) = false := by simpa using q_lt0
      have f_gt31 : decide (31 < y) = true := by simpa using q_gt31
      have f_gt31' : decide (y > 31) = true := f_gt31
      have hr : 0 = R := by have h := HR.out; have h3 := H3.out; have h1 := H1.out; have b0 := B0.out; have b1 := B1.out; rw [← h]; (repeat' split) <;> omega
      clear q_lt0 q_gt31
      have HRR := Lib.hid hr
      clear hr
      go_wp2
      go_ret
      exact ⟨ret_int HRR.out, K1.out⟩
    · by_cases q_eq0 : y = 0
      · have f_lt0 : decide (y < 0) = false := by simpa using q_lt0
        have f_gt31 : decide (31 < y) = false := by simpa using q_gt31
        have f_gt31' : decide (y > 31) = false := f_gt31
        have f_eq0 : (y == 0) = true := by simpa using q_eq0
        have hr : 1 = R := by have h := HR.out; have h3 := H3.out; have h1 := H1.out; have b0 := B0.out; have b1 := B1.out; rw [← h]; (repeat' split) <;> omega
        clear q_lt0 q_gt31 q_eq0
        have HRR := Lib.hid hr
        clear hr
        go_wp2
        go_ret
        exact ⟨ret_int HRR.out, K1.out⟩
      · by_cases q_ltG3 : y < G3
        · have f_lt0 : decide (y < 0) = false := by simpa using q_lt0
          have f_gt31 : decide (31 < y) = false := by simpa using q_gt31
          have f_gt31' : decide (y > 31) = false := f_gt31
          have f_eq0 : (y == 0) = false := by simpa using q_eq0
          have f_ltG3 : decide (y < G3) = true := by simpa using q_ltG3
          have hr : 1 = R := by have h := HR.out; have h3 := H3.out; have h1 := H1.out; have b0 := B0.out; have b1 := B1.out; rw [← h]; (repeat' split) <;> omega
          clear q_lt0 q_gt31 q_eq0 q_ltG3
          have HRR := Lib.hid hr
          clear hr
          go_wp2
          go_ret
          exact ⟨ret_int HRR.out, K1.out⟩
        · by_cases q_ltG1 : y < G1
          · have f_lt0 : decide (y < 0) = false := by simpa using q_lt0
            have f_gt31 : decide (31 < y) = false := by simpa using q_gt31
            have f_gt31' : decide (y > 31) = false := f_gt31
            have f_eq0 : (y == 0) = false := by simpa using q_eq0
            have f_ltG3 : decide (y < G3) = false := by simpa using q_ltG3
            have f_ltG1 : decide (y < G1) = true := by simpa using q_ltG1
            have hr : 2 = R := by have h := HR.out; have h3 := H3.out; have h1 := H1.out; have b0 := B0.out; have b1 := B1.out; rw [← h]; (repeat' split) <;> omega
            clear q_lt0 q_gt31 q_eq0 q_ltG3 q_ltG1
            have HRR := Lib.hid hr
            clear hr
            go_wp2
            go_ret
            exact ⟨ret_int HRR.out, K1.out⟩
          · by_cases q_eqG1 : y = G1
            · by_cases q_le9 : g ≤ 9
              · have f_lt0 : decide (y < 0) = false := by simpa using q_lt0
                have f_gt31 : decide (31 < y) = false := by simpa using q_gt31
                have f_gt31' : decide (y > 31) = false := f_gt31
                have f_eq0 : (y == 0) = false := by simpa using q_eq0
                have f_ltG3 : decide (y < G3) = false := by simpa using q_ltG3
                have f_ltG1 : decide (y < G1) = false := by simpa using q_ltG1
                have f_eqG1 : (y == G1) = true := by simpa using q_eqG1
                have f_le9 : decide (g ≤ 9) = true := by simpa using q_le9
                have hr : 3 = R := by have h := HR.out; have h3 := H3.out; have h1 := H1.out; have b0 := B0.out; have b1 := B1.out; rw [← h]; (repeat' split) <;> omega
                clear q_lt0 q_gt31 q_eq0 q_ltG3 q_ltG1 q_eqG1 q_le9
                have HRR := Lib.hid hr
                clear hr
                go_wp2
                go_ret
                exact ⟨ret_int HRR.out, K1.out⟩
              · have f_lt0 : decide (y < 0) = false := by simpa using q_lt0
                have f_gt31 : decide (31 < y) = false := by simpa using q_gt31
                have f_gt31' : decide (y > 31) = false := f_gt31
                have f_eq0 : (y == 0) = false := by simpa using q_eq0
                have f_ltG3 : decide (y < G3) = false := by simpa using q_ltG3
                have f_ltG1 : decide (y < G1) = false := by simpa using q_ltG1
                have f_eqG1 : (y == G1) = true := by simpa using q_eqG1
                have f_le9 : decide (g ≤ 9) = false := by simpa using q_le9
                have hr : 2 = R := by have h := HR.out; have h3 := H3.out; have h1 := H1.out; have b0 := B0.out; have b1 := B1.out; rw [← h]; (repeat' split) <;> omega
                clear q_lt0 q_gt31 q_eq0 q_ltG3 q_ltG1 q_eqG1 q_le9
                have HRR := Lib.hid hr
                clear hr
                go_wp2
                go_ret
                exact ⟨ret_int HRR.out, K1.out⟩
            · by_cases q_lt9 : y < 9
              · have f_lt0 : decide (y < 0) = false := by simpa using q_lt0
                have f_gt31 : decide (31 < y) = false := by simpa using q_gt31
                have f_gt31' : decide (y > 31) = false := f_gt31
                have f_eq0 : (y == 0) = false := by simpa using q_eq0
                have f_ltG3 : decide (y < G3) = false := by simpa using q_ltG3
                have f_ltG1 : decide (y < G1) = false := by simpa using q_ltG1
                have f_eqG1 : (y == G1) = false := by simpa using q_eqG1
                have f_lt9 : decide (y < 9) = true := by simpa using q_lt9
                have hr : 8 = R := by have h := HR.out; have h3 := H3.out; have h1 := H1.out; have b0 := B0.out; have b1 := B1.out; rw [← h]; (repeat' split) <;> omega
                clear q_lt0 q_gt31 q_eq0 q_ltG3 q_ltG1 q_eqG1 q_lt9
                have HRR := Lib.hid hr
                clear hr
                go_wp2
                go_ret
                exact ⟨ret_int HRR.out, K1.out⟩
              · have f_lt0 : decide (y < 0) = false := by simpa using q_lt0
                have f_gt31 : decide (31 < y) = false := by simpa using q_gt31
                have f_gt31' : decide (y > 31) = false := f_gt31
                have f_eq0 : (y == 0) = false := by simpa using q_eq0
                have f_ltG3 : decide (y < G3) = false := by simpa using q_ltG3
                have f_ltG1 : decide (y < G1) = false := by simpa using q_ltG1
                have f_eqG1 : (y == G1) = false := by simpa using q_eqG1
                have f_lt9 : decide (y < 9) = false := by simpa using q_lt9
                have hr : 0 = R := by have h := HR.out; have h3 := H3.out; have h1 := H1.out; have b0 := B0.out; have b1 := B1.out; rw [← h]; (repeat' split) <;> omega
                clear q_lt0 q_gt31 q_eq0 q_ltG3 q_ltG1 q_eqG1 q_lt9
                have HRR := Lib.hid hr
                clear hr
                go_wp2
                go_ret
                exact ⟨ret_int HRR.out, K1.out⟩
set_option maxRecDepth 10000 in
set_option maxHeartbeats 16000000 in
theorem rA_chunk (s px pz : Int) (hs : i64 s) (hx : -134217728 ≤ px ∧ px ≤ 134217728) (hz : -134217728 ≤ pz ∧ pz ≤ 134217728) (w : World) : Calls Try.prog 8 #[.int .i64 s, posV px pz] w fun e w' =>
    ∃ v', e = .returned v' ∧ w'.ownsRow w.heap.size 45 2 v' (ofF (chunkF s px pz 8192)).length (runVs (ofF (chunkF s px pz 8192))) ∧ Below w.heap.size w w' := by
  obtain ⟨i0, hi, hzz, hsz, hby⟩ := int_info
  have fr := fun (j : Nat) (hj : j < 8192) u => r3_from px pz (j : Int) hx hz (by omega) (by omega) u
  have FR := Lib.hid fr
  have HX := Lib.hid hx
  have HZ := Lib.hid hz
  have HS := Lib.hid hs
  obtain ⟨C, hC⟩ : ∃ C, chunkF s px pz = C := ⟨_, rfl⟩
  have cs := fun j => chunkF_succ s px pz j
  have cl := fun j => chunkF_len s px pz j
  have c0 : chunkF s px pz 0 = [] := rfl
  rw [hC] at cs cl c0
  rw [hC]
  have CS := Lib.hid cs
  have CL := Lib.hid cl
  have C0 := Lib.hid c0
  clear fr hx hz hs hC cs cl c0
  go_enter Try.func8, Try.ntmps8
  go_upto_region 1 with (fail)
  obtain ⟨u0, hu⟩ : ∃ u, w.alloc (.cells #[.int .i64 px, .int .i64 pz] 23) = u := ⟨_, rfl⟩
  rw [hu]
  have k00 : Below w.heap.size w u0 := by rw [← hu]; exact al (Below.refl _ _) _
  have rb0 : RowAt u0 w.heap.size #[.int .i64 px, .int .i64 pz] 23 := by rw [← hu]; exact RowAt.new w _ _
  have K0 := Lib.hid k00
  clear hu k00
  go_wp2_with fail
  go_loopw [5, 6] (fun o i wr => ∃ j : Nat, j ≤ 8192 ∧ i = .int .i64 j ∧ wr.ownsRow u0.heap.size 3 1 o j (intVs (C j)) ∧ Below u0.heap.size u0 wr) (fun _ i _ => 8192 - (intOf i).toNat)
  case atStart => exact ⟨0, by omega, rfl, by rw [C0.out]; exact World.ownsRow_nil _ _ _ _, Below.refl _ _⟩
  case round =>
    obtain ⟨j, hj, rfl, ho, kw⟩ := hrel
    have rb := rb0.keep kw
    by_cases hlt : j < 8192
    · have hjl : (j : Int) < 8192 := by omega
      have hfr := FR.out j hlt wr
      have hcs := CS.out j
      unfold cellA at hcs
      have bA : -2147483648 ≤ px * 16 + (j : Int) % 16 ∧ px * 16 + (j : Int) % 16 ≤ 2147483663 := by have h := HX.out; omega
      have bB : -2147483648 ≤ pz * 16 + (j : Int) % 256 / 16 ∧ pz * 16 + (j : Int) % 256 / 16 ≤ 2147483663 := by have h := HZ.out; omega
      generalize px * 16 + (j : Int) % 16 = X at *
      generalize pz * 16 + (j : Int) % 256 / 16 = Z at *
      generalize (j : Int) / 256 = Y at *
      have hbl := fun u => rA_block s X Y Z HS.out ⟨by omega, by omega⟩ ⟨by omega, by omega⟩ u
      generalize blockF s X Y Z = b at *
      have FRJ := Lib.hid hfr
      have BL := Lib.hid hbl
      have CSJ := Lib.hid hcs
      have HO := Lib.hid ho
      have KW := Lib.hid kw
      have cp := rb.cell
      have zp := rb.lt
      clear hfr hbl hcs ho kw bA bB
      go_wp2_with fail
      refine FRJ.out.mono ?_
      rintro e w2 ⟨rfl, hb2⟩
      have k2 := chain KW.out hb2
      have ho2 := own_keep HO.out hb2
      have K2 := Lib.hid k2
      have HO2 := Lib.hid ho2
      clear hb2 cp zp rb k2 ho2
      go_wp2_with fail
      obtain ⟨u3, hu3⟩ : ∃ u, w2.alloc (.cells #[.int .i64 X, .int .i64 Y, .int .i64 Z] 33) = u := ⟨_, rfl⟩
      have kv : Below w2.heap.size w2 u3 := by rw [← hu3]; exact al (Below.refl _ _) _
      rw [hu3]
      clear hu3
      refine (BL.out _).mono ?_
      rintro e w4 ⟨rfl, hb4⟩
      have k4 := chain (chain K2.out kv) hb4
      have ho4 := own_keep (own_keep HO2.out kv) hb4
      clear kv hb4
      go_wp2_with (at_builtin; refine app_int _ rfl _ _ 42 rfl u0.heap.size 3 i0 _ Try.underlying42 hi hzz hsz hby rfl _ _ _ rfl (ho4.alloc _) w4.heap.size (.int .i64 b) rfl (by go_simp) rfl (by omega) (by have := k4.size; simp; omega) ?_; intro v5 w5 ho5 hg5)
      have k5 : Below u0.heap.size u0 w5 := Below.own (al k4 _) (ho4.alloc _) hg5
      have FO := Lib.hid ho5
      have FK := Lib.hid k5
      clear ho5 hg5 ho4 k4 k5
      go_wp2_with fail
      go_roundw
      case rel =>
        refine ⟨j + 1, by omega, by go_num, ?_, FK.out⟩
        rw [CSJ.out]
        have := FO.out
        simpa [intVs] using this
      case measure => simp [intOf]; omega
    · obtain rfl : j = 8192 := by omega
      have hl := CL.out 8192
      have hio : IntsAt wr _ (C 8192) := ints_of_owned (base := u0.heap.size) (e := 3) (by rw [hl]; exact ho)
      have hof := r5_of _ (C 8192) wr hio (by omega)
      have HOF := Lib.hid hof
      have KW := Lib.hid (chain K0.out kw)
      clear hl hio hof ho kw rb
      go_wp2_with fail
      refine HOF.out.mono ?_
      rintro e w6 ⟨v6, rfl, ho6, hb6⟩
      have FO := Lib.hid (own_base ho6 KW.out.size)
      have FK := Lib.hid (chain KW.out hb6)
      clear ho6 hb6
      go_wp2_with fail
      go_ret
      exact ⟨_, rfl, FO.out, FK.out⟩
end Go.Proofs.Ytlmekadgcllndaa
/- Operations on whole arrays, as one step. No program. -/
set_option linter.unusedVariables false
namespace Go.Proofs.Ytlmekadgcllndaa
open Go Go.RowKit
theorem exec_load_row {P : Program} {o : Oper} {a : Act} {u : World} (T : TypeId) (x : Operand) (ho : o.op = .load T x) {b : Nat} (hx : a.eval x = .pointer (some ⟨b, 0, none⟩)) {cs : Array Value} {t : TypeId} (hg : RowAt u b cs t) {d : TypeDesc}
    (hu : P.underlying T = some d) (hd : (match d with | .struct _ | .array _ _ => true | _ => false) = true) (hi : (P.info? T).map (·.size) = some cs.size) : (execOp a.eval o).run P u = .ok (.value (.agg cs)) u := by
  unfold execOp
  simp only [ho, hx, Instr.loadAt, Instr.sureAddr, Sem.run_bind, Sem.run_pure, Result.andThen_ok, run_loadVar_row u b t T cs (0, 0) d hg hu hd hi]
theorem exec_neq_self {P : Program} {o : Oper} {a : Act} {u : World} (T : TypeId) (x y : Operand) {r : TypeId} (ho : o.op = .binOp .neq T x y r) {cs : Array Value} (hx : a.eval x = .agg cs) (hy : a.eval y = .agg cs)
    (hm : P.eqGuardType P.depth T = false) (h : (binOp .neq T (.agg cs) (.agg cs)).run P u = .ok (.bool false) u) : (execOp a.eval o).run P u = .ok (.value (.bool false)) u := by
  unfold execOp
  simp only [ho, hx, hy, Sem.run_bind, run_eqGuard_agg u .neq T x y cs cs hm, h, Result.andThen_ok, Sem.run_pure]
end Go.Proofs.Ytlmekadgcllndaa
/- The package-level variables that the rows list: what a walk reads of them. -/
set_option linter.unusedVariables false
set_option linter.unusedSimpArgs false
namespace Go.Proofs.Ytlmekadgcllndaa
open Go Go.RowKit
theorem reads_of_laid {P : Program} {w : World} : ∀ {l : List (String × DataW Unit)} {ps : List MemPlace}, DataW.LaidVars P w l ps → ∀ n d, (n, d) ∈ l →
    ∃ g t cs fuel p, P.globalNamed n = some g ∧ (P.globals[g]?).map (·.type) = some t ∧ w.var? P n = some cs ∧ DataW.trod (fun _ => ()) P w 0 (fun _ => true) false fuel t cs.toList = some (d, p) ∧ ∀ i, i < cs.size → MemPlace.cell g i ∈ ps
  | [], _, _, _, _, hm => by cases hm
  | (n', d') :: r, ps, h, n, d, hm => by
    obtain ⟨g, t, cs, fuel, p, q, h1, h2, h3, h4, h5, h6⟩ := h
    rcases List.mem_cons.1 hm with e | e
    · cases e
      refine ⟨g, t, cs, fuel, p, h1, h2, h3, h4, fun i hi => ?_⟩
      rw [h6]
      refine List.mem_append.2 (.inl (List.mem_append.2 (.inl ?_)))
      unfold MemPlace.row
      exact List.mem_map.2 ⟨i, List.mem_range.2 hi, by simp⟩
    · obtain ⟨g', t', cs', fuel', p', a, b, c, d2, e2⟩ := reads_of_laid h5 n d e
      exact ⟨g', t', cs', fuel', p', a, b, c, d2, fun i hi => by rw [h6]; exact List.mem_append.2 (.inr (e2 i hi))⟩
/-- A listed variable's block, whole: its cells read as the datum. -/
theorem row_of_laid {P : Program} {w : World} {l : List (String × DataW Unit)} (hp : (l.all fun x => x.2.handleName?.isNone) = true) (h : laidMetH P l w) {n : String} {d : DataW Unit} (hm : (n, d) ∈ l) {g : Nat} {t : TypeId}
    (hg : P.globalNamed n = some g) (ht : (P.globals[g]?).map (·.type) = some t) (hc : 0 < P.cellsOf t) (hsz : ∀ cs fuel p, DataW.trod (fun _ => ()) P w 0 (fun _ => true) false fuel t cs = some (d, p) → 0 < cs.length) :
    ∃ cs fuel p T, RowAt w g cs T ∧ DataW.trod (fun _ => ()) P w 0 (fun _ => true) false fuel t cs.toList = some (d, p) := by
  rw [MakeChecks.laidMetH_plain _ _ _ hp] at h
  obtain ⟨ps, hv, _, hb⟩ := h
  obtain ⟨g', t', cs, fuel, p, e1, e2, e3, e4, e5⟩ := reads_of_laid hv n d hm
  obtain rfl := Option.some.inj (hg.symm.trans e1)
  obtain rfl := Option.some.inj (ht.symm.trans e2)
  obtain ⟨⟨c, T, hT⟩, _⟩ := hb g 0 (e5 0 (by simpa using hsz _ _ _ e4))
  refine ⟨cs, fuel, p, T, ?_, e4⟩
  unfold World.var? at e3
  rw [e1] at e3
  simp only [Option.bind_some, hT] at e3
  unfold RowAt
  rw [hT]
  simpa using e3
theorem cells_of_strs {H : Type} {enc : TypeId × Value → H} {P : Program} {w : World} {base : Nat} {sp : Nat → Bool} {held : Bool} {fuel : Nat} {t e : TypeId} {n : Nat} {cs : List Value} {zs : List (List UInt8)} {p : List MemPlace}
    (ht : P.underlying t = some (.array n e)) (he : P.underlying e = some .string) (hce : P.cellsOf e = 1) (hct : P.cellsOf t = n)
    (h : DataW.trod enc P w base sp held fuel t cs = some (.agg (zs.map fun z => .lit (.string z)), p)) : cs = zs.map fun z => Value.string ⟨⟨z⟩⟩ := by
  cases fuel with
  | zero => simp [DataW.trod] at h
  | succ fuel =>
    simp only [DataW.trod, ht, hce, hct, Nat.mul_one] at h
    split at h
    · rename_i hl
      obtain ⟨xs, hm, hx⟩ := Option.map_eq_some_iff.1 h
      have hxs : xs.map (·.1) = zs.map fun z => (DataW.lit (.string z) : DataW H) := by
        have := congrArg Prod.fst hx
        simpa using this
      have hxl : xs.length = n := by simpa using Lib.mapM_length hm
      have hzl : zs.length = n := by
        have := congrArg List.length hxs
        simp at this
        omega
      apply List.ext_getElem?
      intro i
      by_cases hi : i < n
      · obtain ⟨b, hb, hf⟩ := Lib.mapM_at hm i i (by simp [hi])
        obtain ⟨z, hc, rfl, _⟩ := DataW.trod_string he hf
        have h1 : cs[i]? = some (.string z) := by
          have := congrArg (·[0]?) hc
          simpa [List.getElem?_take, List.getElem?_drop] using this
        have h2 : (xs.map (·.1))[i]? = some (DataW.lit (.string z.data.toList) : DataW H) := by simp [hb]
        rw [hxs] at h2
        simp only [List.getElem?_map, Option.map_eq_some_iff, DataW.lit.injEq, Lit.string.injEq] at h2
        obtain ⟨z', hz', rfl⟩ := h2
        simp [h1, hz']
      · rw [List.getElem?_eq_none (by omega), List.getElem?_eq_none (by simp; omega)]
    · cases h
/-- The blocks' names, as their variable holds them. -/
def namesRow : Array Value := #[.string (nameF 0), .string (nameF 1), .string (nameF 2), .string (nameF 3), .string (nameF 4), .string (nameF 5), .string (nameF 6), .string (nameF 7), .string (nameF 8), .string (nameF 9), .string (nameF 10), .string (nameF 11), .string (nameF 12), .string (nameF 13), .string (nameF 14), .string (nameF 15)]
theorem namesRow_at : ∀ k : Nat, k < 16 → namesRow[k]? = some (.string (nameF k))
  | 0, _ | 1, _ | 2, _ | 3, _ | 4, _ | 5, _ | 6, _ | 7, _ | 8, _ | 9, _ | 10, _ | 11, _ | 12, _ | 13, _ | 14, _ | 15, _ => rfl
  | n + 16, h => absurd h (by omega)
structure Vars (w : World) : Prop where
  none : True
theorem Vars.keep {w w' : World} (h : Vars w) (hb : Below w.heap.size w w') : Vars w' := ⟨trivial⟩
end Go.Proofs.Ytlmekadgcllndaa
/- What the laws of layer 10 ask of the landed gen: a structure: to be filled for the landed code (genI). -/
set_option linter.unusedVariables false
set_option linter.unusedSimpArgs false
namespace Go.Proofs.Ytlmekadgcllndaa
open Go.ChangeShapes Go.WideShapes Go.ChangeAt Go.RowKit
structure GenI where
  zero : ∀ (w : World), Calls Try.prog 23 #[.int .i64 0, .int .i64 0, .int .i64 0] w fun e w' => e = .returned (.int .u64 0) ∧ Below w.heap.size w w'
  ground : ∀ (s x z : Int) (w : World), i64 s → i64 x → i64 z → Calls Try.prog 16 #[.int .i64 s, .int .i64 x, .int .i64 z] w fun e w' => e = .returned (.int .i64 (groundF s x z)) ∧ Below w.heap.size w w'
  block : ∀ (s x y z : Int) (w : World), i64 s → i64 x → i64 y → i64 z → Calls Try.prog 15 #[.int .i64 s, vecV x y z] w fun e w' => e = .returned (.int .i64 (blockF s x y z)) ∧ Below w.heap.size w w'
  chunk : ∀ (s px pz : Int) (w : World), Vars w → i64 s → (-134217728 ≤ px ∧ px ≤ 134217727) → (-134217728 ≤ pz ∧ pz ≤ 134217727) → Calls Try.prog 6 #[.int .i64 s, posV px pz] w fun e w' => ∃ v, e = .returned v ∧ RunsAt w' v (ofF (chunkF s px pz 8192)) ∧ Below w.heap.size w w'
theorem lA_lives (I : GenI) (w : World) : Calls Try.prog 13 #[] w fun e w' => e = .returned (.bool true) ∧ Below w.heap.size w w' := by
  have hz := fun u => I.zero u
  have hg := fun u => I.ground 0 0 0 u ⟨by decide, by decide⟩ ⟨by decide, by decide⟩ ⟨by decide, by decide⟩
  have bg := ground_bd 0 0 0
  generalize groundF 0 0 0 = g at *
  have g0 : decide (6 ≤ g) = true := decide_eq_true bg.1
  have g1 : decide (g ≥ 6) = true := g0
  have HZ := Lib.hid hz
  have HG := Lib.hid hg
  clear hz hg bg
  go_enter Try.func13, Try.ntmps13
  go_wp2_with fail
  (refine (HZ.out _).mono ?_; rintro e w1 ⟨rfl, hb1⟩)
  go_wp2_with fail
  (refine (HG.out _).mono ?_; rintro e w2 ⟨rfl, hb2⟩)
  have K2 := Lib.hid (chain hb1 hb2)
  clear hb1 hb2
  go_wp2
  go_ret
  exact ⟨rfl, K2.out⟩
end Go.Proofs.Ytlmekadgcllndaa
/- Contracts of layer 3 (cell): what each call answers. -/
set_option linter.unusedVariables false
namespace Go.Proofs.Ytlmekadgcllndaa
open Go.ChangeShapes Go.WideShapes Go.ChangeAt Go.RowKit
def belowF (n : Int) : Int := if 0 < cut n % 65536 then cut n / 65536 else cut n / 65536 - 1
/-- A quotient and what is left, of Go, and those rounded down. -/
theorem trem_facts (a b : Int) (hb : 1 ≤ b) (ha : i64 a) : (a.tmod b < 0 → a.tdiv b - 1 = a / b ∧ a.tmod b + b = a % b ∧ -9223372036854775808 ≤ a.tdiv b - 1) ∧ (0 ≤ a.tmod b → a.tdiv b = a / b ∧ a.tmod b = a % b) ∧ -b < a.tmod b ∧ a.tmod b < b ∧ -9223372036854775808 ≤ a.tdiv b ∧ a.tdiv b ≤ 9223372036854775807 := by
  obtain ⟨f1, f2, f3, f4, f5, f6⟩ := tdiv_facts a b hb
  obtain ⟨h0, h1⟩ := ha
  have e := Int.mul_tdiv_add_tmod a b
  have e2 := Int.mul_ediv_add_emod a b
  have r0 := Int.emod_nonneg a (show b ≠ 0 by omega)
  have r1 := Int.emod_lt_of_pos a (show 0 < b by omega)
  have lo : -9223372036854775808 ≤ a / b := by
    rw [Int.le_ediv_iff_mul_le (by omega)]; omega
  rw [Int.mul_comm] at e
  by_cases hl : a < a.tdiv b * b
  · have g := f3 hl
    have e3 : b * (a / b) = a.tdiv b * b - b := by rw [← g, Int.mul_sub, Int.mul_one, Int.mul_comm b]
    refine ⟨fun _ => ⟨g, by omega, by omega⟩, fun h => by omega, Int.lt_tmod_of_pos a (by omega), Int.tmod_lt_of_pos a (by omega), ?_, ?_⟩
    · omega
    · by_cases hn : a < 0
      · have := f5 hn; omega
      · have := f6 (by omega); omega
  · have g := f4 (by omega)
    rw [g, Int.mul_comm] at e
    rw [g] at f5 f6 ⊢
    refine ⟨fun h => by omega, fun h => ⟨rfl, by omega⟩, by omega, by omega, lo, ?_⟩
    by_cases hn : a < 0
    · have := f5 hn; omega
    · have := f6 (by omega); omega
theorem c3_div (a b : Int) (ha : i64 a) (hb : i64 b) (w : World) : Calls Try.prog 24 #[.int .i64 a, .int .i64 b] w fun e w' => e = .returned (.int .i64 (divF a b)) ∧ w = w' := by
  unfold divF
  by_cases h : b < 1
  · rw [if_pos h]
    go_enter Try.func24, Try.ntmps24
    go_wp2
    go_ret
    exact ⟨rfl, rfl⟩
  · rw [if_neg h]
    obtain ⟨f1, f2, f3, f4, f5, f6⟩ := trem_facts a b (by omega) ha
    have hb0 : (b == 0) = false := by rw [beq_eq_false_iff_ne]; omega
    obtain ⟨q, hq⟩ : ∃ q, a.tdiv b = q := ⟨_, rfl⟩
    obtain ⟨r, hr⟩ : ∃ r, a.tmod b = r := ⟨_, rfl⟩
    rw [hq, hr] at f1
    rw [hq, hr] at f2
    rw [hr] at f3 f4
    rw [hq] at f5 f6
    by_cases hn : r < 0
    · obtain ⟨g1, g2, g3⟩ := f1 hn
      have G := Lib.hid g1
      clear f1 f2 g1 g2
      go_enter Try.func24, Try.ntmps24
      go_wp2
      go_ret
      exact ⟨ret_int G.out, rfl⟩
    · have G := Lib.hid (f2 (by omega)).1
      clear f1 f2
      go_enter Try.func24, Try.ntmps24
      go_wp2
      go_ret
      exact ⟨ret_int G.out, rfl⟩
theorem c3_mod (a b : Int) (ha : i64 a) (hb : i64 b) (w : World) : Calls Try.prog 25 #[.int .i64 a, .int .i64 b] w fun e w' => e = .returned (.int .i64 (modF a b)) ∧ w = w' := by
  unfold modF
  by_cases h : b < 1
  · rw [if_pos h]
    go_enter Try.func25, Try.ntmps25
    go_wp2
    go_ret
    exact ⟨rfl, rfl⟩
  · rw [if_neg h]
    obtain ⟨f1, f2, f3, f4, f5, f6⟩ := trem_facts a b (by omega) ha
    have hb0 : (b == 0) = false := by rw [beq_eq_false_iff_ne]; omega
    obtain ⟨r, hr⟩ : ∃ r, a.tmod b = r := ⟨_, rfl⟩
    rw [hr] at f1 f2 f3 f4
    by_cases hn : r < 0
    · obtain ⟨g1, g2, g3⟩ := f1 hn
      have G := Lib.hid g2
      clear f1 f2 g1 g2 g3 f5 f6
      go_enter Try.func25, Try.ntmps25
      go_wp2
      go_ret
      exact ⟨ret_int G.out, rfl⟩
    · have G := Lib.hid (f2 (by omega)).2
      clear f1 f2 f5 f6
      go_enter Try.func25, Try.ntmps25
      go_wp2
      go_ret
      exact ⟨ret_int G.out, rfl⟩
end Go.Proofs.Ytlmekadgcllndaa
