/- Contracts of layer 5 (runs), of the landed code: add, May, Make, Of, Len, Count, Cut, Fill, Set, At, and the library's Clone of runs. -/
import Derived.Test.YtldokggfiklcoaaDoorK51
import Derived.Test.YtldokggfiklcoaaDoorR51
import Derived.Test.YtldokggfiklcoaaDoorR52
import Derived.Test.YtldokggfiklcoaaDoorB40
import Derived.Test.YtldokggfiklcoaaDoorVRS
import Derived.Laws.AppendOwnNone
set_option linter.unusedVariables false
set_option linter.unusedSimpArgs false
namespace Go.Proofs.YtldokggfiklcoaaDoor
open Go.ChangeShapes Go.WideShapes Go.ChangeAt Go.RowKit
theorem b5_add (v : Value) (D : List Run) (n b : Int) (hn : i64 n) (base : Nat) (w : World) (ho : w.ownsRow base 24 2 v D.length (runVs D)) (hbase : base ≤ w.heap.size) (hD : D.length ≤ 200000) (hs : ∀ D' r c, D = D' ++ [(r, c)] → i64 r ∧ i64 (r + n)) :
    Calls Tryd.prog 35 #[v, .int .i64 n, .int .i64 b] w fun e w' => ∃ v', e = .returned v' ∧ w'.ownsRow base 24 2 v' (addF D n b).length (runVs (addF D n b)) ∧ w.grownBy w' v.ownBlock ∧ (v'.ownBlock = v.ownBlock ∨ ∃ q, v'.ownBlock = some q ∧ w.heap.size ≤ q) := by
  obtain ⟨i0, hi, hz, hsz, hby⟩ := run_info
  by_cases h : n < 1
  · rw [addF_none b h]
    obtain ⟨p, cap, rfl⟩ := own_form ho
    have HO := Lib.hid ho
    clear ho hs
    go_enter Tryd.func35, Tryd.ntmps35
    go_wp2_with fail
    go_ret
    exact ⟨_, rfl, HO.out, grow_refl _ _, .inl rfl⟩
  · have h1 : 1 ≤ n := by omega
    rcases nil_or_snoc D with rfl | ⟨D, r, c, rfl⟩
    · rw [addF_nil b h1]
      obtain ⟨p, cap, rfl⟩ := own_form ho
      have HO := Lib.hid ho
      clear ho hs
      simp only [List.length_nil]
      go_enter Tryd.func35, Tryd.ntmps35
      go_wp2_with (at_builtin; refine app_run_fresh _ rfl _ _ 22 rfl base 24 i0 _ Tryd.underlying22 hi hz hsz hby rfl _ _ _ rfl (HO.out.alloc _) w.heap.size (.int .i64 n) (.int .i64 b) rfl (by go_simp) (by go_simp) rfl rfl (by simp) (by simp; omega) ?_; intro v1 w1 ho1 hg1 hfr)
      go_ret
      exact ⟨_, rfl, ho1, grow_trans (World.grownBy_alloc _ _ _) hg1, hfr.imp id fun h => ⟨_, h, by simp⟩⟩
    · obtain ⟨hr, hrn⟩ := hs D r c rfl
      have hl : (D ++ [(r, c)]).length = D.length + 1 := by simp
      have zt : (D.length + 1) * 2 ≤ 400002 := by omega
      have d0 : (runVs (D ++ [(r, c)]))[D.length * 2]? = some (.int .i64 r) := by rw [(runVs_at (D ++ [(r, c)]) D.length (by simp)).1]; simp
      have d1 : (runVs (D ++ [(r, c)]))[D.length * 2 + 1]? = some (.int .i64 c) := by rw [(runVs_at (D ++ [(r, c)]) D.length (by simp)).2]; simp
      rcases id ho.2 with ⟨_, hz0⟩ | ⟨g, cap, cur, rfl, hb2, hgg, _⟩
      · simp at hz0
      have c0 : w.cell? ⟨g, D.length * 2, none⟩ = some (.int .i64 r) := own_cell ho _ d0
      have c1 : w.cell? ⟨g, D.length * 2 + 1, none⟩ = some (.int .i64 c) := own_cell ho _ d1
      have zg : g < w.heap.size := (Array.getElem?_eq_some_iff.1 hgg).1
      have fz : ∀ o, w.frozen? ⟨g, o, none⟩ = false := fun o => by simp [World.frozen?, hgg]
      by_cases hcb : c = b
      · subst hcb
        have hos := own_set ho (D.length * 2) (by simp) (.int .i64 (r + n))
        rw [runVs_set] at hos
        have hbl := grow_set w g (D.length * 2) (.int .i64 (r + n))
        rw [addF_same c h1]
        have e2 : (D ++ [(r + n, c)]).length = (D ++ [(r, c)]).length := by simp
        rw [e2]
        obtain ⟨xs, hxs⟩ : ∃ xs, runVs (D ++ [(r + n, c)]) = xs := ⟨_, rfl⟩
        rw [hxs] at hos ⊢
        have HOS := Lib.hid hos
        have HBL := Lib.hid hbl
        rw [hl]
        rw [hl] at hD HOS
        clear ho hos hbl hs d0 d1 e2 hl hgg hxs
        obtain ⟨k, hk⟩ : ∃ k, D.length = k := ⟨_, rfl⟩
        rw [hk] at c0 c1 hD zt HOS HBL ⊢
        clear hk
        have wk : IntKind.i64.wrap (k : Int) = k := IntWalk.i64_in _ (by omega)
        go_enter Tryd.func35, Tryd.ntmps35
        go_wp2_with fail
        go_ret
        exact ⟨_, rfl, HOS.out, HBL.out, .inl rfl⟩
      · rw [addF_other h1 hcb]
        have e2 : (D ++ [(r, c)] ++ [(n, b)]).length = (D ++ [(r, c)]).length + 1 := by simp
        have e3 : runVs (D ++ [(r, c)] ++ [(n, b)]) = runVs (D ++ [(r, c)]) ++ [.int .i64 n, .int .i64 b] := by rw [runVs_append]; simp [runVs]
        rw [e2, e3]
        have hcb2 : (c == b) = false := by simpa using hcb
        obtain ⟨xs, hxs⟩ : ∃ xs, runVs (D ++ [(r, c)]) = xs := ⟨_, rfl⟩
        rw [hxs] at ho ⊢
        rw [hl] at ho hD ⊢
        clear hs d0 d1 e2 e3 hl hxs hgg
        obtain ⟨k, hk⟩ : ∃ k, D.length = k := ⟨_, rfl⟩
        rw [hk] at c0 c1 hD zt ho ⊢
        clear hk
        have wk : IntKind.i64.wrap (k : Int) = k := IntWalk.i64_in _ (by omega)
        have HO := Lib.hid ho
        clear ho
        go_enter Tryd.func35, Tryd.ntmps35
        go_wp2_with (at_builtin; refine app_run_fresh _ rfl _ _ 22 rfl base 24 i0 _ Tryd.underlying22 hi hz hsz hby rfl _ _ _ rfl (HO.out.alloc _) w.heap.size (.int .i64 n) (.int .i64 b) rfl (by go_simp) (by go_simp) rfl rfl (by omega) (by simp; omega) ?_; intro v1 w1 ho1 hg1 hfr)
        go_ret
        exact ⟨_, rfl, ho1, grow_trans (World.grownBy_alloc _ _ _) hg1, hfr.imp id fun h => ⟨_, h, by simp⟩⟩
theorem b5_make (n b : Int) (hn : i64 n) (hb : i64 b) (w : World) : Calls Tryd.prog 31 #[.int .i64 n, .int .i64 b] w fun e w' => ∃ v', e = .returned v' ∧ RunsAt w' v' (makeF n b) ∧ Below w.heap.size w w' := by
  have h := b5_add (.slice none 0 0) [] n b hn w.heap.size w (World.ownsRow_nil _ _ _ _) (Nat.le_refl _) (by simp) (fun D' r c e => by simp at e)
  rw [makeF_add] at h
  have H := Lib.hid h
  clear h
  go_enter Tryd.func31, Tryd.ntmps31
  go_wp2_with fail
  refine H.out.mono ?_
  rintro e w1 ⟨v1, rfl, ho, hb1, _⟩
  go_wp2
  go_ret
  exact ⟨_, rfl, runs_of_owned ho, below_own (Below.refl _ _) (World.ownsRow_nil w w.heap.size 24 2) hb1 (Nat.le_refl _)⟩
set_option maxHeartbeats 4000000 in
theorem b5_of (v : Value) (C : List Int) (w : World) (hl : IntsAt w v C) (hL : C.length ≤ 100000) : Calls Tryd.prog 17 #[v] w fun e w' => ∃ v', e = .returned v' ∧ RunsAt w' v' (ofF C) ∧ Below w.heap.size w w' := by
  obtain ⟨p, c, rfl, hf⟩ := hl.form
  obtain ⟨N, hN⟩ : ∃ N, C.length = N := ⟨_, rfl⟩
  have HN := Lib.hid hN
  have HF := Lib.hid hf
  rw [hN] at hL
  rw [hN]
  clear hN hf hl
  go_enter Tryd.func17, Tryd.ntmps17
  go_wp2_with fail
  go_loopw [3, 8] (fun o i wr => ∃ k : Nat, k ≤ N ∧ i = .int .i64 k ∧ wr.ownsRow w.heap.size 24 2 o (ofF (C.take k)).length (runVs (ofF (C.take k))) ∧ Below w.heap.size w wr) (fun _ i _ => N - (intOf i).toNat)
  case atStart => exact ⟨0, by omega, rfl, World.ownsRow_nil _ _ _ _, Below.refl _ _⟩
  case round =>
    obtain ⟨k, hk, rfl, ho, kw⟩ := hrel
    by_cases hlt : k < N
    · obtain ⟨g, off, rfl, hcp, hg, hx⟩ := HF.out (by rw [HN.out]; omega)
      have h1 := keepc kw hg (hx k (by rw [HN.out]; exact hlt))
      have zg : g < wr.heap.size := Nat.lt_of_lt_of_le hg kw.size
      have ad := fun x => b5_add _ (ofF (C.take k)) 1 x (by constructor <;> omega) w.heap.size wr ho kw.size (by have := ofF_len (C.take k); rw [List.length_take] at this; omega) (last_ok (by rw [List.length_take]; omega) (by omega) (by omega))
      have hs : ∀ x, x = C[k]'(by rw [HN.out]; exact hlt) → addF (ofF (C.take k)) 1 x = ofF (C.take (k + 1)) := fun x e => by
        rw [addF_of, take_succ_get C k (by rw [HN.out]; exact hlt), e]; rfl
      generalize hxe : C[k]'(by rw [HN.out]; exact hlt) = x at h1 hs
      have ad := ad x
      rw [hs x rfl] at ad
      obtain ⟨po, co, rfl⟩ := own_form ho
      have AD := Lib.hid ad
      have HO := Lib.hid ho
      clear ad hs hxe ho hx
      go_wp2_with fail
      refine AD.out.mono ?_
      rintro e w1 ⟨v1, rfl, ho, hb1, _⟩
      go_wp2_with fail
      go_roundw
      case rel => exact ⟨k + 1, by omega, by go_num, ho, below_own kw HO.out hb1 (Nat.le_refl _)⟩
      case measure => simp [intOf]; omega
    · obtain rfl : k = N := by omega
      have e : C.take k = C := by rw [← HN.out, List.take_length]
      rw [e] at ho
      clear e
      go_wp2_with fail
      go_ret
      exact ⟨_, rfl, runs_of_owned ho, kw⟩
theorem b5_len (v : Value) (l : List Run) (p : Option Int) (hg : goodL p l) (hs : sumL l ≤ 100000000) (w : World) (hl : RunsAt w v l) : Calls Tryd.prog 22 #[v] w fun e w' => e = .returned (.int .i64 (sumL l)) ∧ Below w.heap.size w w' := by
  obtain ⟨pp, c, rfl, hf⟩ := hl.form
  obtain ⟨N, hN⟩ : ∃ N, l.length = N := ⟨_, rfl⟩
  have HN := Lib.hid hN
  have HF := Lib.hid hf
  have HG := Lib.hid hg
  have hbd : ∀ k, 0 ≤ sumL (l.take k) ∧ sumL (l.take k) ≤ 100000000 := fun k => by
    have h1 := goodL_sum _ _ (goodL_take l p hg k)
    have h2 := List.take_append_drop k l
    have h3 : sumL l = sumL (l.take k) + sumL (l.drop k) := by rw [← sumL_append, h2]
    have h4 := goodL_sum (l.drop k) _ ((goodL_append (l.take k) (l.drop k) p).1 (by rw [h2]; exact hg)).2
    omega
  have HD := Lib.hid hbd
  have hNn : N ≤ 100000000 := by have := goodL_length l p hg; omega
  obtain ⟨R, hR⟩ : ∃ R, sumL l = R := ⟨_, rfl⟩
  have HR := Lib.hid hR
  rw [hN, hR]
  clear hN hf hl hg hbd hR
  go_enter Tryd.func22, Tryd.ntmps22
  go_wp2_with fail
  go_loopw [3, 8] (fun n i wr => ∃ k : Nat, k ≤ N ∧ i = .int .i64 k ∧ n = .int .i64 (sumL (l.take k)) ∧ Below w.heap.size w wr) (fun _ i _ => N - (intOf i).toNat)
  case atStart => exact ⟨0, by omega, rfl, rfl, by (repeat (first | with_reducible assumption | with_reducible exact Below.refl _ _ | with_reducible refine Below.drew ?_ | with_reducible refine below_drewN ?_ _ | with_reducible refine al ?_ _ | (with_reducible refine sc ?_ ?_; (focus (first | omega | (simp; done) | (simp; omega)))) | (with_reducible refine chain ?_ (by assumption))))⟩
  case round =>
    obtain ⟨k, hk, rfl, rfl, kw⟩ := hrel
    by_cases hlt : k < N
    · obtain ⟨g, off, rfl, hc, hgg, hx⟩ := HF.out (by rw [HN.out]; omega)
      obtain ⟨h1, h2⟩ := hx k (by rw [HN.out]; exact hlt)
      have hs := sumL_take l k (by rw [HN.out]; exact hlt)
      have h1 := keepc kw hgg h1
      have h2 := keepc kw hgg h2
      have zg : g < wr.heap.size := Nat.lt_of_lt_of_le hgg kw.size
      have b0 := HD.out k
      have b1 := HD.out (k + 1)
      obtain ⟨S1, hS1⟩ : ∃ S1, sumL (l.take (k + 1)) = S1 := ⟨_, rfl⟩
      rw [hS1] at hs b1
      have E1 := Lib.hid hS1
      clear hS1
      generalize sumL (l.take k) = S0 at *
      generalize (l[k]'(by rw [HN.out]; exact hlt)).1 = x at *
      generalize (l[k]'(by rw [HN.out]; exact hlt)).2 = y at *
      have HS := Lib.hid hs
      have bx0 : 0 ≤ S0 + x := by omega
      have bx1 : S0 + x ≤ 100000000 := by omega
      clear hx hs
      go_wp2_with fail
      go_roundw
      case rel => exact ⟨k + 1, by omega, by go_num, by rw [E1.out, HS.out], by (repeat (first | with_reducible assumption | with_reducible exact Below.refl _ _ | with_reducible refine Below.drew ?_ | with_reducible refine below_drewN ?_ _ | with_reducible refine al ?_ _ | (with_reducible refine sc ?_ ?_; (focus (first | omega | (simp; done) | (simp; omega)))) | (with_reducible refine chain ?_ (by assumption))))⟩
      case measure => simp [intOf]; omega
    · obtain rfl : k = N := by omega
      have e : l.take k = l := by rw [← HN.out, List.take_length]
      rw [e, HR.out]
      go_wp2_with fail
      go_ret
      exact ⟨rfl, by (repeat (first | with_reducible assumption | with_reducible exact Below.refl _ _ | with_reducible refine Below.drew ?_ | with_reducible refine below_drewN ?_ _ | with_reducible refine al ?_ _ | (with_reducible refine sc ?_ ?_; (focus (first | omega | (simp; done) | (simp; omega)))) | (with_reducible refine chain ?_ (by assumption))))⟩
theorem b5_count (v : Value) (C : List Int) (hC : okC C) (b : Int) (w : World) (hl0 : RunsAt w v (ofF C)) : Calls Tryd.prog 32 #[v, .int .i64 b] w fun e w' => e = .returned (.int .i64 (countF C b)) ∧ Below w.heap.size w w' := by
  obtain ⟨l, hle⟩ : ∃ l, ofF C = l := ⟨_, rfl⟩
  have hl := hl0
  rw [hle] at hl
  have hg : goodL none l := hle ▸ good_of hC.1
  have hsum : sumL l ≤ 100000 := by rw [← hle, (ofF_good hC.1).2.1]; have := hC.2; omega
  have hcnt : cntL b l = countF C b := by rw [(cntL_cells b l none hg).1, ← hle, cells_of hC.1]
  clear hl0 hle
  obtain ⟨p, hp⟩ : ∃ p : Option Int, p = none := ⟨_, rfl⟩
  rw [← hp] at hg
  obtain ⟨pp, c, rfl, hf⟩ := hl.form
  obtain ⟨N, hN⟩ : ∃ N, l.length = N := ⟨_, rfl⟩
  have HN := Lib.hid hN
  have HF := Lib.hid hf
  have HG := Lib.hid hg
  have hbd : ∀ k, 0 ≤ cntL b (l.take k) ∧ cntL b (l.take k) ≤ 100000 := fun k => by
    obtain ⟨_, h0, h1⟩ := cntL_cells b _ p (goodL_take l p hg k)
    have h2 := List.take_append_drop k l
    have h3 : sumL l = sumL (l.take k) + sumL (l.drop k) := by rw [← sumL_append, h2]
    have h4 := goodL_sum (l.drop k) _ ((goodL_append (l.take k) (l.drop k) p).1 (by rw [h2]; exact hg)).2
    omega
  have HD := Lib.hid hbd
  have hNn : N ≤ 100000000 := by have := goodL_length l p hg; omega
  obtain ⟨R, hR⟩ : ∃ R, countF C b = R := ⟨_, rfl⟩
  rw [hR] at hcnt
  have HR := Lib.hid hcnt
  rw [hN, hR]
  clear hN hf hl hg hbd hR hcnt hp hsum
  go_enter Tryd.func32, Tryd.ntmps32
  go_wp2_with fail
  go_loopw [5, 10] (fun n i wr => ∃ k : Nat, k ≤ N ∧ i = .int .i64 k ∧ n = .int .i64 (cntL b (l.take k)) ∧ Below w.heap.size w wr) (fun _ i _ => N - (intOf i).toNat)
  case atStart => exact ⟨0, by omega, rfl, rfl, by (repeat (first | with_reducible assumption | with_reducible exact Below.refl _ _ | with_reducible refine Below.drew ?_ | with_reducible refine below_drewN ?_ _ | with_reducible refine al ?_ _ | (with_reducible refine sc ?_ ?_; (focus (first | omega | (simp; done) | (simp; omega)))) | (with_reducible refine chain ?_ (by assumption))))⟩
  case round =>
    obtain ⟨k, hk, rfl, rfl, kw⟩ := hrel
    by_cases hlt : k < N
    · obtain ⟨g, off, rfl, hc, hgg, hx⟩ := HF.out (by rw [HN.out]; omega)
      obtain ⟨h1, h2⟩ := hx k (by rw [HN.out]; exact hlt)
      have hs := cntL_take b l k (by rw [HN.out]; exact hlt)
      have h1 := keepc kw hgg h1
      have h2 := keepc kw hgg h2
      have zg : g < wr.heap.size := Nat.lt_of_lt_of_le hgg kw.size
      have b0 := HD.out k
      have b1 := HD.out (k + 1)
      obtain ⟨S1, hS1⟩ : ∃ S1, cntL b (l.take (k + 1)) = S1 := ⟨_, rfl⟩
      rw [hS1] at hs b1
      have E1 := Lib.hid hS1
      clear hS1
      generalize cntL b (l.take k) = S0 at *
      generalize (l[k]'(by rw [HN.out]; exact hlt)).1 = x at *
      generalize (l[k]'(by rw [HN.out]; exact hlt)).2 = y at *
      clear hx
      by_cases hy : y = b
      · rw [if_pos hy] at hs
        have HS := Lib.hid hs
        have bx0 : 0 ≤ S0 + x := by omega
        have bx1 : S0 + x ≤ 100000 := by omega
        clear hs
        go_wp2_with fail
        go_roundw
        case rel => exact ⟨k + 1, by omega, by go_num, by rw [E1.out, HS.out], by (repeat (first | with_reducible assumption | with_reducible exact Below.refl _ _ | with_reducible refine Below.drew ?_ | with_reducible refine below_drewN ?_ _ | with_reducible refine al ?_ _ | (with_reducible refine sc ?_ ?_; (focus (first | omega | (simp; done) | (simp; omega)))) | (with_reducible refine chain ?_ (by assumption))))⟩
        case measure => simp [intOf]; omega
      · rw [if_neg hy, Int.add_zero] at hs
        have HS := Lib.hid hs
        clear hs
        go_wp2_with fail
        go_roundw
        case rel => exact ⟨k + 1, by omega, by go_num, by rw [E1.out, HS.out], by (repeat (first | with_reducible assumption | with_reducible exact Below.refl _ _ | with_reducible refine Below.drew ?_ | with_reducible refine below_drewN ?_ _ | with_reducible refine al ?_ _ | (with_reducible refine sc ?_ ?_; (focus (first | omega | (simp; done) | (simp; omega)))) | (with_reducible refine chain ?_ (by assumption))))⟩
        case measure => simp [intOf]; omega
    · obtain rfl : k = N := by omega
      have e : l.take k = l := by rw [← HN.out, List.take_length]
      rw [e, HR.out]
      go_wp2_with fail
      go_ret
      exact ⟨rfl, by (repeat (first | with_reducible assumption | with_reducible exact Below.refl _ _ | with_reducible refine Below.drew ?_ | with_reducible refine below_drewN ?_ _ | with_reducible refine al ?_ _ | (with_reducible refine sc ?_ ?_; (focus (first | omega | (simp; done) | (simp; omega)))) | (with_reducible refine chain ?_ (by assumption))))⟩
end Go.Proofs.YtldokggfiklcoaaDoor
