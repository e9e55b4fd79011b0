/- Contracts of layer 5's reference (runs): Same, SameCells. -/
import Derived.Test.YtafmekojdaeliaaDoorR50
set_option linter.unusedVariables false
set_option linter.unusedSimpArgs false
namespace Go.Proofs.YtafmekojdaeliaaDoor
open Go.ChangeShapes Go.WideShapes Go.ChangeAt Go.RowKit
def eqrB (x z x' z' : Int) : Bool := decide (x = x' ∧ z = z')
theorem neR_run (x z x' z' : Int) (w : World) : (binOp .neq 49 (.agg #[.int .i64 x, .int .i64 z]) (.agg #[.int .i64 x', .int .i64 z'])).run Tryd.prog w = .ok (.bool (!eqrB x z x' z')) w := by
  unfold eqrB
  by_cases h1 : x = x' <;> by_cases h3 : z = z' <;> simp [go_sem, h1, h3]
set_option maxHeartbeats 4000000 in
theorem r5_same (va vb : Value) (a b : List Run) (w : World) (ha : RunsAt w va a) (hb : RunsAt w vb b) (hL : a.length ≤ 100000000) : Calls Tryd.prog 16 #[va, vb] w fun e w' =>
    e = .returned (.bool (decide (a = b))) ∧ Below w.heap.size w w' := by
  obtain ⟨pa, ca, rfl, fa⟩ := ha.form
  obtain ⟨pb, cb, rfl, fb⟩ := hb.form
  clear ha hb
  by_cases hlen : a.length = b.length
  · obtain ⟨N, hN⟩ : ∃ N, a.length = N := ⟨_, rfl⟩
    have hM : b.length = N := by omega
    have HN := Lib.hid hN
    have HM := Lib.hid hM
    have FA := Lib.hid fa
    have FB := Lib.hid fb
    rw [hN] at hL
    rw [hN, hM]
    clear hN hM fa fb hlen
    go_enter Tryd.func16, Tryd.ntmps16
    go_wp2_with fail
    go_loopw [5] (fun i wr => ∃ k : Nat, k ≤ N ∧ i = .int .i64 k ∧ (∀ j (h1 : j < a.length) (h2 : j < b.length), j < k → a[j] = b[j]) ∧ Below w.heap.size w wr) (fun i _ => N - (intOf i).toNat)
    case atStart => exact ⟨0, by omega, rfl, fun j _ _ h => absurd h (by omega), by (repeat (first | with_reducible assumption | with_reducible exact Below.refl _ _ | with_reducible refine Below.drew ?_ | with_reducible refine below_drewN ?_ _ | with_reducible refine al ?_ _ | (with_reducible refine sc ?_ ?_; (focus (first | omega | (simp; done) | (simp; omega)))) | (with_reducible refine chain ?_ (by assumption))))⟩
    case round =>
      obtain ⟨k, hk, rfl, hs, kw⟩ := hrel
      have HS := Lib.hid hs
      clear hs
      by_cases hlt : k < N
      · obtain ⟨g, off, rfl, hc, hg, hx⟩ := FA.out (by rw [HN.out]; omega)
        obtain ⟨g', off', rfl, hc', hg', hx'⟩ := FB.out (by rw [HM.out]; omega)
        rw [HN.out] at hc
        rw [HM.out] at hc'
        have h1 := keepc kw hg (hx k (by rw [HN.out]; exact hlt)).1
        have h3 := keepc kw hg (hx k (by rw [HN.out]; exact hlt)).2
        have h2 := keepc kw hg' (hx' k (by rw [HM.out]; exact hlt)).1
        have h4 := keepc kw hg' (hx' k (by rw [HM.out]; exact hlt)).2
        have z1 : g < wr.heap.size := Nat.lt_of_lt_of_le hg kw.size
        have z2 : g' < wr.heap.size := Nat.lt_of_lt_of_le hg' kw.size
        clear hx hx'
        obtain ⟨⟨x, x2⟩, hx⟩ : ∃ x, a[k]'(by rw [HN.out]; exact hlt) = x := ⟨_, rfl⟩
        obtain ⟨⟨y, y2⟩, hy⟩ : ∃ x, b[k]'(by rw [HM.out]; exact hlt) = x := ⟨_, rfl⟩
        rw [hx] at h1 h3
        rw [hy] at h2 h4
        simp only [] at h1 h2 h3 h4
        have q7 := neR_run
        have bk : (k : Int) < N := by omega
        have HXX := Lib.hid hx
        have HYY := Lib.hid hy
        clear hx hy
        obtain ⟨q, hq⟩ : ∃ q, eqrB x x2 y y2 = q := ⟨_, rfl⟩
        cases q
        rotate_left 1
        · have hxy : (x, x2) = (y, y2) := by unfold eqrB at hq; simpa using hq
          go_wp2_with fail
          refine region_below 8 (by kernel_rfl) (by kernel_rfl) ?_
          simp only [List.take_succ_cons, List.take_zero, List.drop_succ_cons, List.drop_zero]
          repeat (first | (refine' InText.skip (by rfl) ?_; simp only [Act.put, List.setIfInBounds_toArray, List.set_cons_zero, List.set_cons_succ]) | (refine' InText.val (by rfl) (fun wr hr => ?_) ?_; rotate_left 1; (focus (obtain ⟨hrc, hrf⟩ := bcell hr; (go_simp <;> with_reducible rfl); done)); simp only [Act.put, List.setIfInBounds_toArray, List.set_cons_zero, List.set_cons_succ]))
          refine fun wrs hrs => ?_
          obtain ⟨hrcs, hrfs⟩ := bcell hrs
          have ks : Below w.heap.size w wrs := chain kw hrs
          clear hrs hrcs hrfs
          go_wp2_with fail
          go_roundw
          case rel =>
            exact ⟨k + 1, by omega, by go_num, fun j h5 h6 hj => by
              by_cases e : j = k
              · subst e; rw [HXX.out, HYY.out]; exact hxy
              · exact HS.out j h5 h6 (by omega), ks⟩
          case measure => simp [intOf]; omega
        · have hxy : (x, x2) ≠ (y, y2) := by unfold eqrB at hq; simpa using hq
          have e : decide (a = b) = false := list_other k (by rw [HN.out]; exact hlt) (by rw [HM.out]; exact hlt) (by rw [HXX.out, HYY.out]; exact hxy)
          have E := Lib.hid e
          clear e hxy
          go_wp2_with fail
          refine region_below 8 (by kernel_rfl) (by kernel_rfl) ?_
          simp only [List.take_succ_cons, List.take_zero, List.drop_succ_cons, List.drop_zero]
          repeat (first | (refine' InText.skip (by rfl) ?_; simp only [Act.put, List.setIfInBounds_toArray, List.set_cons_zero, List.set_cons_succ]) | (refine' InText.val (by rfl) (fun wr hr => ?_) ?_; rotate_left 1; (focus (obtain ⟨hrc, hrf⟩ := bcell hr; (go_simp <;> with_reducible rfl); done)); simp only [Act.put, List.setIfInBounds_toArray, List.set_cons_zero, List.set_cons_succ]))
          refine fun wrs hrs => ?_
          obtain ⟨hrcs, hrfs⟩ := bcell hrs
          have ks : Below w.heap.size w wrs := chain kw hrs
          clear hrs hrcs hrfs
          go_wp2_with fail
          go_ret
          exact ⟨by rw [E.out]; rfl, by (repeat (first | with_reducible assumption | with_reducible exact Below.refl _ _ | with_reducible refine Below.drew ?_ | with_reducible refine below_drewN ?_ _ | with_reducible refine al ?_ _ | (with_reducible refine sc ?_ ?_; (focus (first | omega | (simp; done) | (simp; omega)))) | (with_reducible refine chain ?_ (by assumption))))⟩
      · obtain rfl : k = N := by omega
        have e : decide (a = b) = true := list_same (by rw [HN.out, HM.out]) (fun j h1 h2 => HS.out j h1 h2 (by rw [← HN.out]; exact h1))
        have E := Lib.hid e
        clear e
        go_wp2_with fail
        go_ret
        exact ⟨by rw [E.out]; rfl, by (repeat (first | with_reducible assumption | with_reducible exact Below.refl _ _ | with_reducible refine Below.drew ?_ | with_reducible refine below_drewN ?_ _ | with_reducible refine al ?_ _ | (with_reducible refine sc ?_ ?_; (focus (first | omega | (simp; done) | (simp; omega)))) | (with_reducible refine chain ?_ (by assumption))))⟩
  · have e : decide (a = b) = false := by
      simp only [decide_eq_false_iff_not]
      intro e
      subst e
      exact hlen rfl
    have E := Lib.hid e
    obtain ⟨N, hN⟩ : ∃ N, a.length = N := ⟨_, rfl⟩
    obtain ⟨M, hM⟩ : ∃ N, b.length = N := ⟨_, rfl⟩
    rw [hN, hM] at hlen
    rw [hN, hM]
    have hne : ((N : Int) != M) = true := by simp; omega
    clear e fa fb hN hM hL
    go_enter Tryd.func16, Tryd.ntmps16
    go_wp2_with fail
    go_ret
    exact ⟨by rw [E.out]; rfl, by (repeat (first | with_reducible assumption | with_reducible exact Below.refl _ _ | with_reducible refine Below.drew ?_ | with_reducible refine below_drewN ?_ _ | with_reducible refine al ?_ _ | (with_reducible refine sc ?_ ?_; (focus (first | omega | (simp; done) | (simp; omega)))) | (with_reducible refine chain ?_ (by assumption))))⟩
end Go.Proofs.YtafmekojdaeliaaDoor
