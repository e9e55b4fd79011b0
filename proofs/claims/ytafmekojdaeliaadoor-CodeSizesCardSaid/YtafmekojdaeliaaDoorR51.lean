/- Contracts of layer 5's reference (runs): Of. -/
import Derived.Test.YtafmekojdaeliaaDoorR50
set_option linter.unusedVariables false
set_option linter.unusedSimpArgs false
namespace Go.Proofs.YtafmekojdaeliaaDoor
open Go.ChangeShapes Go.WideShapes Go.ChangeAt Go.RowKit
theorem run_info : ∃ i, Tryd.prog.info? 49 = some i ∧ i.zero = some (.agg #[.int .i64 0, .int .i64 0]) ∧ i.size = 2 ∧ i.bytes = 16 := by
  obtain ⟨i, hi⟩ : ∃ i, Tryd.prog.info? 49 = some i := Option.isSome_iff_exists.1 (by kernel_rfl)
  have h : (Tryd.prog.info? 49).map (fun i => (i.zero, i.size, i.bytes)) = some (some (.agg #[.int .i64 0, .int .i64 0]), 2, 16) := by kernel_rfl
  rw [hi] at h
  simp at h
  exact ⟨i, hi, h.1, h.2.1, h.2.2⟩
set_option maxHeartbeats 4000000 in
theorem r5_of (v : Value) (l : List Int) (w : World) (hl : IntsAt w v l) (hL : l.length ≤ 100000) : Calls Tryd.prog 26 #[v] w fun e w' =>
    ∃ v', e = .returned v' ∧ w'.ownsRow w.heap.size 49 2 v' (ofF l).length (runVs (ofF l)) ∧ Below w.heap.size w w' := by
  obtain ⟨i0, hi, hz, hsz, hby⟩ := run_info
  rcases hl with ⟨⟨p0, c0, rfl⟩, rfl⟩ | ⟨g, off, cap, rfl, hc, hg, hx⟩
  · go_enter Tryd.func26, Tryd.ntmps26
    go_wp2_with fail
    refine wp_loop_rounds 1 ?_
    rw [rounds_succ]
    go_wp2_with fail
    go_ret
    exact ⟨_, rfl, World.ownsRow_nil _ _ _ _, by (repeat (first | with_reducible assumption | with_reducible exact Below.refl _ _ | with_reducible refine Below.drew ?_ | with_reducible refine below_drewN ?_ _ | with_reducible refine al ?_ _ | (with_reducible refine sc ?_ ?_; (focus (first | omega | (simp; done) | (simp; omega)))) | (with_reducible refine chain ?_ (by assumption))))⟩
  · obtain ⟨N, hN⟩ : ∃ N, l.length = N := ⟨_, rfl⟩
    have HX := Lib.hid hx
    have HN := Lib.hid hN
    rw [hN] at hc hL ⊢
    clear hx hN
    go_enter Tryd.func26, Tryd.ntmps26
    go_wp2_with fail
    go_loopw [3, 4] (fun o i wr => ∃ k : Nat, k ≤ N ∧ i = .int .i64 k ∧ wr.ownsRow w.heap.size 49 2 o (ofF (l.take k)).length (runVs (ofF (l.take k))) ∧ Below w.heap.size w wr) (fun _ i _ => N - (intOf i).toNat)
    case atStart => exact ⟨0, by omega, rfl, World.ownsRow_nil _ _ _ _, by (repeat (first | with_reducible assumption | with_reducible exact Below.refl _ _ | with_reducible refine Below.drew ?_ | with_reducible refine below_drewN ?_ _ | with_reducible refine al ?_ _ | (with_reducible refine sc ?_ ?_; (focus (first | omega | (simp; done) | (simp; omega)))) | (with_reducible refine chain ?_ (by assumption))))⟩
    case round =>
      obtain ⟨k, hk, rfl, ho, kw⟩ := hrel
      have zg : g < wr.heap.size := Nat.lt_of_lt_of_le hg kw.size
      by_cases hlt : k < N
      · have h1 := HX.out k (by rw [HN.out]; exact hlt)
        have hs : ofF (l.take (k + 1)) = stepF (ofF (l.take k)) (l[k]'(by rw [HN.out]; exact hlt)) := by rw [take_succ_get l k (by rw [HN.out]; exact hlt), ofF_snoc]
        obtain ⟨c, hcc⟩ : ∃ n, (l[k]'(by rw [HN.out]; exact hlt)) = n := ⟨_, rfl⟩
        rw [hcc] at h1 hs
        clear hcc
        have c1 : wr.cell? ⟨g, off + k, none⟩ = some (.int .i64 c) := keepc kw hg h1
        clear h1
        have hlen := ofF_length l k (by rw [HN.out]; omega)
        rcases Nat.eq_zero_or_pos k with rfl | hpos
        · have e0 : ofF (l.take 0) = [] := by simp [ofF]
          rw [e0] at ho hs
          have HS := Lib.hid hs
          clear e0 hs hlen
          go_wp2_with fail
          refine region_below 13 (by kernel_rfl) (by kernel_rfl) ?_
          simp only [List.take_succ_cons, List.take_zero, List.drop_succ_cons, List.drop_zero]
          repeat (first | (refine' InText.skip (by rfl) ?_; simp only [Act.put, List.setIfInBounds_toArray, List.set_cons_zero, List.set_cons_succ]) | (refine' InText.val (by rfl) (fun wr hr => ?_) ?_; rotate_left 1; (focus (obtain ⟨hrc, hrf⟩ := bcell hr; (go_simp <;> with_reducible rfl); done)); simp only [Act.put, List.setIfInBounds_toArray, List.set_cons_zero, List.set_cons_succ]))
          refine fun wrs hrs => ?_
          obtain ⟨hrcs, hrfs⟩ := bcell hrs
          have zg2 : g < wrs.heap.size := size_lt zg hrs
          have ks : Below w.heap.size w wrs := chain kw hrs
          have ho2 := own_keep ho hrs
          have c2 : wrs.cell? ⟨g, off, none⟩ = some (.int .i64 c) := by simpa using keepc hrs zg c1
          clear ho hrs hrcs hrfs c1
          go_wp2_with (at_builtin; refine app_run _ rfl _ _ 22 rfl w.heap.size 49 i0 _ Tryd.underlying22 hi hz hsz hby rfl _ _ _ rfl (ho2.alloc _) wrs.heap.size (.int .i64 1) (.int .i64 c) rfl (by go_simp) (by go_simp) rfl rfl (by simp) (by have := ks.size; simp; omega) ?_; intro v1 w1 ho1 hg1)
          go_roundw
          case rel => exact ⟨1, by omega, by go_num, by rw [HS.out]; exact ho1, Below.own (al ks _) (ho2.alloc _) hg1⟩
          case measure => simp [intOf]; omega
        · obtain ⟨j, rfl⟩ : ∃ j, k = j + 1 := ⟨k - 1, by omega⟩
          obtain ⟨D, r, e, r1, r2, dl⟩ := ofF_form l j (by rw [HN.out]; omega)
          have h3 := HX.out j (by rw [HN.out]; omega)
          have e4 : l[j]! = l[j]'(by rw [HN.out]; omega) := by simp [HN.out, show j < N by omega]
          rw [e4] at e
          obtain ⟨p, hp⟩ : ∃ n, (l[j]'(by rw [HN.out]; omega)) = n := ⟨_, rfl⟩
          rw [hp] at h3 e
          rw [e] at ho hs hlen
          have c3 : wr.cell? ⟨g, off + j, none⟩ = some (.int .i64 p) := keepc kw hg h3
          obtain ⟨q, hq⟩ : ∃ q, (p == c) = q := ⟨_, rfl⟩
          have hS : ofF (l.take (j + 1 + 1)) = if q = true then D ++ [(r + 1, c)] else D ++ [(r, p)] ++ [(1, c)] := by
            rw [hs, ← hq]
            by_cases h : p = c
            · subst h; simp [stepF_same]
            · simp [h]; have := stepF_other D r p c h; simpa using this
          have HS := Lib.hid hS
          clear hS hs h3 e4 hp e
          have wj : IntKind.i64.wrap (j : Int) = j := IntWalk.i64_in _ (by omega)
          have bj : (j : Int) < N := by omega
          have bk : (j : Int) + 1 < N := by omega
          have bn : j < N := by omega
          have b1 : (0 : Int) ≤ (j : Int) + 1 := by omega
          have b2 : j + 1 < N := by omega
          have b3 : ((j : Int) + 1).toNat = j + 1 := by omega
          cases q
          · go_wp2_with fail
            refine region_below 13 (by kernel_rfl) (by kernel_rfl) ?_
            simp only [List.take_succ_cons, List.take_zero, List.drop_succ_cons, List.drop_zero]
            repeat (first | (refine' InText.skip (by rfl) ?_; simp only [Act.put, List.setIfInBounds_toArray, List.set_cons_zero, List.set_cons_succ]) | (refine' InText.val (by rfl) (fun wr hr => ?_) ?_; rotate_left 1; (focus (obtain ⟨hrc, hrf⟩ := bcell hr; (go_simp <;> with_reducible rfl); done)); simp only [Act.put, List.setIfInBounds_toArray, List.set_cons_zero, List.set_cons_succ]))
            refine fun wrs hrs => ?_
            obtain ⟨hrcs, hrfs⟩ := bcell hrs
            have zg2 : g < wrs.heap.size := size_lt zg hrs
            have ks : Below w.heap.size w wrs := chain kw hrs
            have ho2 := own_keep ho hrs
            have c2 : wrs.cell? ⟨g, off + j + 1, none⟩ = some (.int .i64 c) := by simpa [Nat.add_assoc] using keepc hrs zg c1
            have c4 : wrs.cell? ⟨g, off + (j + 1), none⟩ = some (.int .i64 c) := keepc hrs zg c1
            clear ho hrs hrcs hrfs c1 c3
            go_wp2_with (at_builtin; refine app_run _ rfl _ _ 22 rfl w.heap.size 49 i0 _ Tryd.underlying22 hi hz hsz hby rfl _ _ _ rfl (ho2.alloc _) wrs.heap.size (.int .i64 1) (.int .i64 c) rfl (by go_simp) (by go_simp) rfl rfl (by omega) (by have := ks.size; simp; omega) ?_; intro v1 w1 ho1 hg1)
            go_roundw
            case rel => exact ⟨j + 1 + 1, by omega, by go_num, by rw [HS.out, if_neg (by decide), runVs_append, List.length_append]; exact ho1, Below.own (al ks _) (ho2.alloc _) hg1⟩
            case measure => simp [intOf]; omega
          · go_wp2_with fail
            refine region_below 13 (by kernel_rfl) (by kernel_rfl) ?_
            simp only [List.take_succ_cons, List.take_zero, List.drop_succ_cons, List.drop_zero]
            repeat (first | (refine' InText.skip (by rfl) ?_; simp only [Act.put, List.setIfInBounds_toArray, List.set_cons_zero, List.set_cons_succ]) | (refine' InText.val (by rfl) (fun wr hr => ?_) ?_; rotate_left 1; (focus (obtain ⟨hrc, hrf⟩ := bcell hr; (go_simp <;> with_reducible rfl); done)); simp only [Act.put, List.setIfInBounds_toArray, List.set_cons_zero, List.set_cons_succ]))
            refine fun wrs hrs => ?_
            obtain ⟨hrcs, hrfs⟩ := bcell hrs
            have zg2 : g < wrs.heap.size := size_lt zg hrs
            have ks : Below w.heap.size w wrs := chain kw hrs
            have ho2 := own_keep ho hrs
            have c2 : wrs.cell? ⟨g, off + j + 1, none⟩ = some (.int .i64 c) := by simpa [Nat.add_assoc] using keepc hrs zg c1
            have c4 : wrs.cell? ⟨g, off + (j + 1), none⟩ = some (.int .i64 c) := keepc hrs zg c1
            clear ho hrs hrcs hrfs c1 c3
            rcases ho2.2 with ⟨_, hz0⟩ | ⟨g2, cap2, cur, rfl, hb, hgg, _⟩
            · simp at hz0
            have d0 : (runVs (D ++ [(r, p)]))[D.length * 2]? = some (.int .i64 r) := by rw [(runVs_at (D ++ [(r, p)]) D.length (by simp)).1]; simp
            have d1 : wrs.cell? ⟨g2, D.length * 2, none⟩ = some (.int .i64 r) := own_cell ho2 (D.length * 2) d0
            clear d0
            have fz : ∀ o, wrs.frozen? ⟨g2, o, none⟩ = false := fun o => by simp [World.frozen?, hgg]
            have hl2 : (D ++ [(r, p)]).length = D.length + 1 := by simp
            have hos := own_set ho2 (D.length * 2) (by simp) (.int .i64 (r + 1))
            obtain rfl : p = c := by simpa using hq
            rw [runVs_set] at hos
            go_wp2_with fail
            go_roundw
            case rel => exact ⟨j + 1 + 1, by omega, by go_num, by rw [HS.out, if_pos (by trivial)]; simpa using hos, Below.own_set ks ho2 _ _⟩
            case measure => simp [intOf]; omega
      · obtain rfl : k = N := by omega
        have e : l.take k = l := by rw [← HN.out, List.take_length]
        rw [e] at ho
        clear e
        go_wp2_with fail
        go_ret
        exact ⟨_, rfl, ho, by (repeat (first | with_reducible assumption | with_reducible exact Below.refl _ _ | with_reducible refine Below.drew ?_ | with_reducible refine below_drewN ?_ _ | with_reducible refine al ?_ _ | (with_reducible refine sc ?_ ?_; (focus (first | omega | (simp; done) | (simp; omega)))) | (with_reducible refine chain ?_ (by assumption))))⟩
end Go.Proofs.YtafmekojdaeliaaDoor
