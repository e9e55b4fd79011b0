/- What the statements of layer 6 call: the reference's answers; the example. -/
import Derived.Test.YtafmekojdaeliaaDoorB60
import Derived.Test.YtafmekojdaeliaaDoorL05
set_option linter.unusedVariables false
set_option linter.unusedSimpArgs false
namespace Go.Proofs.YtafmekojdaeliaaDoor
open Go.ChangeShapes Go.WideShapes Go.ChangeAt Go.RowKit
theorem l6_write (v : Value) (l : List Run) (w : World) (hl : RunsAt w v l) (hb : ∀ j (h : j < l.length), i64 l[j].1 ∧ i64 l[j].2) (hL : l.length ≤ 100000) : Calls Tryd.prog 11 #[v] w fun e w' =>
    ∃ v', e = .returned (.tuple #[v', .int .i64 (wrE l)]) ∧ BytsAt w' v' (writeF l) ∧ Below w.heap.size w w' :=
  (r6_write v l w hl hb hL).mono fun e w' ⟨v', e1, ho, hv⟩ => ⟨v', e1, byts_of_owned ho, hv⟩
theorem l6_read (v : Value) (b : List Int) (n : Int) (h1 : 1 ≤ n) (h2 : n ≤ 1048576) (w : World) (hl : BytsAt w v b) (ok : bytOk b) (hL : b.length ≤ 100000) : Calls Tryd.prog 19 #[v, .int .i64 n] w fun e w' =>
    ∃ v', e = .returned (.tuple #[v', .int .i64 (readF b n).1]) ∧ RunsAt w' v' (readF b n).2 ∧ Below w.heap.size w w' :=
  (r6_read v b n (by constructor <;> omega) (by omega) w hl ok hL).mono fun e w' ⟨v', e1, ho, hv⟩ => ⟨v', e1, runs_of_owned ho, hv⟩
theorem readGo_len : ∀ (f : Nat) (p : Option Int) (b : List Int) (n : Int), (readGo f p b n).2.length ≤ f
  | 0, _, _, _ => by simp [readGo]
  | f + 1, p, b, n => by
    by_cases h1 : n ≤ 0
    · rw [readGo_stop h1]
      split <;> simp
    · cases b with
      | nil => rw [readGo_nil h1]; simp
      | cons own rest =>
        rw [readGo_cons h1]
        have ih := readGo_len f (some own) (rest.drop (digF rest).2.1.toNat) (n - (digF rest).1)
        repeat' split
        all_goals (simp; try omega)
theorem l6_same (v v' : Value) (a b : List Int) (h : a = b) (w : World) (ha : BytsAt w v a) (hb : BytsAt w v' b) (ok : bytOk a) : Calls Tryd.prog 12 #[v, v'] w fun e w' => e = .returned (.bool true) ∧ Below w.heap.size w w' := by
  have := r6_same v v' a b w ha hb ok (h ▸ ok)
  rwa [decide_eq_true h] at this
theorem writeF_ok (l : List Run) : bytOk (writeF l) := by
  unfold writeF
  split
  · rename_i h
    exact bytesF_ok l none (wrB_iff.1 h).1
  · simp [bytOk]
theorem wrE_good {l : List Run} (h : wrB l = true) : wrE l = 0 := by unfold wrE; rw [if_pos h]
theorem wr_good {C : List Int} (hC : okC C) (h0 : 0 < C.length) : wrB (ofF C) = true := by
  obtain ⟨h1, h2, _⟩ := ofF_good hC.1
  have := hC.2
  exact wrB_iff.2 ⟨h1, by omega, by omega⟩
theorem bytesF_ge (l : List Run) : l.length ≤ (bytesF l).length := by
  induction l with
  | nil => simp
  | cons r l ih => rw [bytesF_cons]; simp; omega
theorem bytesF_two {l : List Run} {p : Option Int} (hg : goodL p l) (h0 : 0 < l.length) (hs : sumL l ≤ 1048576) : 2 ≤ (bytesF l).length := by
  cases l with
  | nil => simp at h0
  | cons r l =>
    have := goodL_sum l _ hg.2.2.2
    have h1 := hg.2.1
    rw [sumL] at hs
    have := num_pos (n := r.1) (by omega) (by omega)
    rw [bytesF_cons]; simp; omega
def lastV (L : List Run) : Int := (lastP none L).getD (-1)
theorem lastV_snoc (L : List Run) (n b : Int) : lastV (L ++ [(n, b)]) = b := by unfold lastV; rw [lastP_snoc]; rfl
theorem lastV_i64 {L : List Run} (h : goodL none L) : -1 ≤ lastV L ∧ lastV L ≤ 15 := by
  rcases nil_or_snoc L with rfl | ⟨D, r, b, rfl⟩
  · decide
  · rw [lastV_snoc]
    have := mayB_bd ((goodL_append _ _ _).1 h).2.1
    omega
theorem goodL_more {L : List Run} {n b : Int} (h : goodL none L) (hb : 0 ≤ b ∧ b < 6) (hn : 1 ≤ n) (hl : b ≠ lastV L) : goodL none (L ++ [(n, b)]) := by
  refine (goodL_append _ _ _).2 ⟨h, ?_, hn, ?_, trivial⟩
  · unfold mayB; simp; omega
  · intro e
    apply hl
    unfold lastV
    rw [e]; rfl
theorem bytesF_more (L : List Run) (n b : Int) : (bytesF (L ++ [(n, b)])).length = (bytesF L).length + 1 + (numF n).length := by
  rw [bytesF_append, List.length_append]
  simp [bytesF]; omega
/-- All that the round trip asks. -/
theorem round_facts {C : List Int} (hC : okC C) (h0 : 0 < C.length) : writeF (ofF C) = bytesF (ofF C) ∧ bytOk (bytesF (ofF C)) ∧ 2 ≤ (bytesF (ofF C)).length ∧ (bytesF (ofF C)).length ≤ 400000 ∧ readF (bytesF (ofF C)) C.length = (0, ofF C) ∧
    (∀ m : Int, 0 ≤ m → m ≤ 1048576 → m ≠ C.length → (readF (bytesF (ofF C)) m).1 ≠ 0 ∧ (readF (bytesF (ofF C)) m).2 = []) ∧ (∀ x, readF (bytesF (ofF C) ++ [x]) C.length = (2, [])) ∧
    (readF ((bytesF (ofF C)).take ((bytesF (ofF C)).length - 1)) C.length).1 ≠ 0 := by
  obtain ⟨h1, h2, _⟩ := ofF_good hC.1
  have hlen := hC.2
  have hpos := ofF_pos h0
  have hle := ofF_len C
  have hb4 := bytesF_len (ofF C)
  have hge := bytesF_ge (ofF C)
  have htwo := bytesF_two h1 hpos (by omega)
  refine ⟨by unfold writeF; rw [if_pos (wr_good hC h0)], bytesF_ok _ _ h1, htwo, by omega, ?_, fun m m0 m1 hm => ?_, fun x => ?_, ?_⟩
  · unfold readF; rw [← h2]; exact read_written _ _ none h1 (by omega) (by omega)
  · have hne := read_other (f := (bytesF (ofF C)).length + 1) h1 (by omega) (by rw [h2]; exact hm) m0 m1
    refine ⟨hne, ?_⟩
    rcases read_err ((bytesF (ofF C)).length + 1) none (bytesF (ofF C)) m with h | h
    · exact absurd h hne
    · exact h.2
  · unfold readF; rw [← h2]; exact read_more _ _ none x [] h1 (by omega) (by simp; omega)
  · unfold readF
    rw [← h2]
    exact read_less (r := (bytesF (ofF C)).drop ((bytesF (ofF C)).length - 1)) h1 (by omega) (List.take_append_drop _ _) (fun h => by
      have := congrArg List.length h
      simp at this
      omega)
set_option maxHeartbeats 1000000 in
theorem l6_lives (w : World) (hV : Vars w) : Calls Tryd.prog 13 #[] w fun e w' => e = .returned (.bool true) ∧ Below w.heap.size w w' := by
  have hw : wrE [(300, 1)] = 0 := by decide
  have hw2 : writeF [(300, 1)] = [1, 172, 2] := by decide
  have HW := Lib.hid hw
  have HW2 := Lib.hid hw2
  clear hw hw2
  have kw : Below w.heap.size w w := Below.refl _ _
  go_enter Tryd.func13, Tryd.ntmps13
  go_wp2_with fail
  refine (b6_write _ [(300, 1)] _ (hV.keep (by (repeat (first | with_reducible assumption | with_reducible exact Below.refl _ _ | with_reducible refine Below.drew ?_ | with_reducible refine below_drewN ?_ _ | with_reducible refine al ?_ _ | (with_reducible refine sc ?_ ?_; (focus (first | omega | (simp; done) | (simp; omega)))) | (with_reducible refine chain ?_ (by assumption)))))) (.inr ⟨w.heap.size, 0, 1, rfl, by simp, by simp, fun j hj => ?_⟩) (fun j hj => ?_) (by simp)).mono ?_
  · have hj : j < 1 := hj
    obtain rfl : j = 0 := by omega
    constructor <;> simp [go_sem]
  · have hj : j < 1 := hj
    obtain rfl : j = 0 := by omega
    exact ⟨(by decide : i64 300), (by decide : i64 1)⟩
  rintro e W1 ⟨v1, rfl, h1, hv1⟩
  rw [HW2.out] at h1
  rw [HW.out]
  have k1 : Below w.heap.size w W1 := by (repeat (first | with_reducible assumption | with_reducible exact Below.refl _ _ | with_reducible refine Below.drew ?_ | with_reducible refine below_drewN ?_ _ | with_reducible refine al ?_ _ | (with_reducible refine sc ?_ ?_; (focus (first | omega | (simp; done) | (simp; omega)))) | (with_reducible refine chain ?_ (by assumption))))
  clear hv1
  obtain ⟨p, c, rfl⟩ := h1.shape
  have h1 : BytsAt W1 (.slice p 3 c) [1, 172, 2] := h1
  go_wp2_with fail
  refine (l6_same _ _ _ [1, 172, 2] rfl _ (h1.keep (by (repeat (first | with_reducible assumption | with_reducible exact Below.refl _ _ | with_reducible refine Below.drew ?_ | with_reducible refine below_drewN ?_ _ | with_reducible refine al ?_ _ | (with_reducible refine sc ?_ ?_; (focus (first | omega | (simp; done) | (simp; omega)))) | (with_reducible refine chain ?_ (by assumption)))))) (.inr ⟨W1.heap.size, 0, 3, rfl, by simp, by simp, fun j hj => ?_⟩) (by unfold bytOk; decide)).mono ?_
  · have hj : j < 3 := hj
    match j, hj with
    | 0, _ | 1, _ | 2, _ => simp [go_sem]
  rintro e W2 ⟨rfl, hv2⟩
  go_wp2
  go_ret
  exact ⟨rfl, by (repeat (first | with_reducible assumption | with_reducible exact Below.refl _ _ | with_reducible refine Below.drew ?_ | with_reducible refine below_drewN ?_ _ | with_reducible refine al ?_ _ | (with_reducible refine sc ?_ ?_; (focus (first | omega | (simp; done) | (simp; omega)))) | (with_reducible refine chain ?_ (by assumption))))⟩
end Go.Proofs.YtafmekojdaeliaaDoor
