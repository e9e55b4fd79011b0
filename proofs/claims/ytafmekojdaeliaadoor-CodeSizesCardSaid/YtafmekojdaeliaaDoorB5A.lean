/- Contracts of layer 5 (runs), of the landed code: add, May, Make, Of, Len, Count, Cut, Fill, Set, At, and the library's Clone of runs. -/
import Derived.Test.YtafmekojdaeliaaDoorK51
import Derived.Test.YtafmekojdaeliaaDoorR51
import Derived.Test.YtafmekojdaeliaaDoorR52
import Derived.Test.YtafmekojdaeliaaDoorB40
import Derived.Test.YtafmekojdaeliaaDoorVRS
import Derived.Laws.AppendOwnNone
set_option linter.unusedVariables false
set_option linter.unusedSimpArgs false
namespace Go.Proofs.YtafmekojdaeliaaDoor
open Go.ChangeShapes Go.WideShapes Go.ChangeAt Go.RowKit
theorem b5_len (v : Value) (l : List Run) (p : Option Int) (hg : goodL p l) (hs : sumL l ≤ 100000000) (w : World) (hl : RunsAt w v l) : Calls Tryd.prog 27 #[v] w fun e w' => e = .returned (.int .i64 (sumL l)) ∧ Below w.heap.size w w' := by
  obtain ⟨pp, c, rfl, hf⟩ := hl.form
  obtain ⟨N, hN⟩ : ∃ N, l.length = N := ⟨_, rfl⟩
  have HN := Lib.hid hN
  have HF := Lib.hid hf
  have HG := Lib.hid hg
  have hbd : ∀ k, 0 ≤ sumL (l.take k) ∧ sumL (l.take k) ≤ 100000000 := fun k => by
    have h1 := goodL_sum _ _ (goodL_take l p hg k)
    have h2 := List.take_append_drop k l
    have h3 : sumL l = sumL (l.take k) + sumL (l.drop k) := by rw [← sumL_append, h2]
    have h4 := goodL_sum (l.drop k) _ ((goodL_append (l.take k) (l.drop k) p).1 (by rw [h2]; exact hg)).2
    omega
  have HD := Lib.hid hbd
  have hNn : N ≤ 100000000 := by have := goodL_length l p hg; omega
  obtain ⟨R, hR⟩ : ∃ R, sumL l = R := ⟨_, rfl⟩
  have HR := Lib.hid hR
  rw [hN, hR]
  clear hN hf hl hg hbd hR
  go_enter Tryd.func27, Tryd.ntmps27
  go_wp2_with fail
  go_loopw [3, 8] (fun n i wr => ∃ k : Nat, k ≤ N ∧ i = .int .i64 k ∧ n = .int .i64 (sumL (l.take k)) ∧ Below w.heap.size w wr) (fun _ i _ => N - (intOf i).toNat)
  case atStart => exact ⟨0, by omega, rfl, rfl, by (repeat (first | with_reducible assumption | with_reducible exact Below.refl _ _ | with_reducible refine Below.drew ?_ | with_reducible refine below_drewN ?_ _ | with_reducible refine al ?_ _ | (with_reducible refine sc ?_ ?_; (focus (first | omega | (simp; done) | (simp; omega)))) | (with_reducible refine chain ?_ (by assumption))))⟩
  case round =>
    obtain ⟨k, hk, rfl, rfl, kw⟩ := hrel
    by_cases hlt : k < N
    · obtain ⟨g, off, rfl, hc, hgg, hx⟩ := HF.out (by rw [HN.out]; omega)
      obtain ⟨h1, h2⟩ := hx k (by rw [HN.out]; exact hlt)
      have hs := sumL_take l k (by rw [HN.out]; exact hlt)
      have h1 := keepc kw hgg h1
      have h2 := keepc kw hgg h2
      have zg : g < wr.heap.size := Nat.lt_of_lt_of_le hgg kw.size
      have b0 := HD.out k
      have b1 := HD.out (k + 1)
      obtain ⟨S1, hS1⟩ : ∃ S1, sumL (l.take (k + 1)) = S1 := ⟨_, rfl⟩
      rw [hS1] at hs b1
      have E1 := Lib.hid hS1
      clear hS1
      generalize sumL (l.take k) = S0 at *
      generalize (l[k]'(by rw [HN.out]; exact hlt)).1 = x at *
      generalize (l[k]'(by rw [HN.out]; exact hlt)).2 = y at *
      have HS := Lib.hid hs
      have bx0 : 0 ≤ S0 + x := by omega
      have bx1 : S0 + x ≤ 100000000 := by omega
      clear hx hs
      go_wp2_with fail
      go_roundw
      case rel => exact ⟨k + 1, by omega, by go_num, by rw [E1.out, HS.out], by (repeat (first | with_reducible assumption | with_reducible exact Below.refl _ _ | with_reducible refine Below.drew ?_ | with_reducible refine below_drewN ?_ _ | with_reducible refine al ?_ _ | (with_reducible refine sc ?_ ?_; (focus (first | omega | (simp; done) | (simp; omega)))) | (with_reducible refine chain ?_ (by assumption))))⟩
      case measure => simp [intOf]; omega
    · obtain rfl : k = N := by omega
      have e : l.take k = l := by rw [← HN.out, List.take_length]
      rw [e, HR.out]
      go_wp2_with fail
      go_ret
      exact ⟨rfl, by (repeat (first | with_reducible assumption | with_reducible exact Below.refl _ _ | with_reducible refine Below.drew ?_ | with_reducible refine below_drewN ?_ _ | with_reducible refine al ?_ _ | (with_reducible refine sc ?_ ?_; (focus (first | omega | (simp; done) | (simp; omega)))) | (with_reducible refine chain ?_ (by assumption))))⟩
