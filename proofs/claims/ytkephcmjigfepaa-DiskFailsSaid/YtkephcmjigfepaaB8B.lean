/- The landed disk: Fail, Room, Len, New, Left, the copies of blobs. -/
import Derived.Test.YtkephcmjigfepaaB8A
import Derived.Lib.MinMax
set_option linter.unusedVariables false
set_option linter.unusedSimpArgs false
namespace Go.Proofs.Ytkephcmjigfepaa
open Go.ChangeShapes Go.WideShapes Go.ChangeAt Go.RowKit
theorem own_raws {w : World} {base : Nat} {t : TypeId} {v : Value} {l : List Raw} (h : w.ownsRow base t 2 v l.length (rawVs l)) : ∃ p cap, v = .slice p l.length cap ∧ (0 < l.length → ∃ g, p = some ⟨g, 0, none⟩ ∧ l.length ≤ cap ∧ g < w.heap.size ∧
    ∀ j (h : j < l.length), w.cell? ⟨g, j * 2, none⟩ = some (.int .i64 l[j].1) ∧ w.cell? ⟨g, j * 2 + 1, none⟩ = some l[j].2) := by
  rcases h.2 with ⟨rfl, hn⟩ | ⟨g, cap, cur, rfl, hb, hg, hc, hm, hs, ht⟩
  · exact ⟨none, 0, by rw [hn], fun h => absurd h (by omega)⟩
  · refine ⟨some ⟨g, 0, none⟩, cap, rfl, fun _ => ⟨g, rfl, hc, (Array.getElem?_eq_some_iff.1 hg).1, fun j hj => ?_⟩⟩
    obtain ⟨h1, h2⟩ := rawVs_at l j hj
    rw [cell_of_row w g _ cur _ (0, 0) hg, cell_of_row w g _ cur _ (0, 0) hg]
    rw [← ht, List.getElem?_take] at h1 h2
    constructor
    · split at h1
      · simpa using h1
      · cases h1
    · split at h2
      · simpa using h2
      · cases h2
theorem b8_fail (w : World) (b : Nat) (c0 c1 c2 c3 c4 c5 c6 : Value) (k : Int) (hk : i64 k) (r : RowAt w b #[c0, c1, c2, c3, c4, c5, c6] 57) :
    Calls Try.prog 16 #[.pointer (some ⟨b, 0, none⟩), .int .i64 k] w fun e w' => (∃ v, e = .returned v) ∧
      RowAt w' b #[c0, c1, c2, c3, c4, .bool (decide (0 < (failF k).2)), .int .i64 (failF k).1] 57 ∧ Wr (fun x => x = b) w w' := by
  obtain ⟨k0, k1⟩ := hk
  have R := Lib.hid r
  have zb := r.lt
  have z5 := r.frozen 5
  have z6 := r.frozen 6
  have e5 : w.cell? ⟨b, 5, none⟩ = some c5 := by rw [r.cell]; rfl
  have e6 : w.cell? ⟨b, 6, none⟩ = some c6 := by rw [r.cell]; rfl
  clear r
  by_cases h1 : k < 0
  · have g1 : decide (k < 0) = true := by simpa using h1
    obtain ⟨M, hM⟩ : ∃ M, max k (-1048576) = M := ⟨_, rfl⟩
    have g2 : IntKind.i64.wrap (-M) = -M := IntWalk.i64_in _ (by omega)
    have e : failF k = (-M, 1) := by
      unfold failF
      rw [if_pos h1]
      simp only [Prod.mk.injEq, and_true]
      omega
    rw [e]
    clear e h1 k0 k1
    go_enter Try.func16, Try.ntmps16
    go_wp2
    refine bodyPost_end (v := .tuple #[]) (by simp [results, Try.results16, go_sem]) rfl ⟨⟨_, rfl⟩, ?_, ((wr_set _ _ _ _).put (.inl rfl) _ _).put (.inl rfl) _ _⟩
    exact (((R.out.set 5 (.bool true)).set 6 (.int .i64 k)).set 6 (.int .i64 (-M)) :)
  · have g1 : decide (k < 0) = false := by simpa using h1
    have e : failF k = (k, 0) := by unfold failF; rw [if_neg h1]
    rw [e]
    clear e h1 k0 k1
    go_enter Try.func16, Try.ntmps16
    go_wp2
    refine bodyPost_end (v := .tuple #[]) (by simp [results, Try.results16, go_sem]) rfl ⟨⟨_, rfl⟩, ?_, (wr_set _ _ _ _).put (.inl rfl) _ _⟩
    exact ((R.out.set 5 (.bool false)).set 6 (.int .i64 k) :)
theorem b8_room (w : World) (b : Nat) (c0 c1 c2 c3 c4 c5 c6 : Value) (r : RowAt w b #[c0, c1, c2, c3, c4, c5, c6] 57) :
    Calls Try.prog 32 #[.pointer (some ⟨b, 0, none⟩)] w fun e w' => e = .returned c0 ∧ Below w.heap.size w w' := by
  have zb := r.lt
  have e0 : w.cell? ⟨b, 0, none⟩ = some c0 := by rw [r.cell]; rfl
  clear r
  go_enter Try.func32, Try.ntmps32
  go_wp2
  go_ret
  exact ⟨rfl, by (repeat (first | with_reducible assumption | with_reducible exact Below.refl _ _ | with_reducible refine Below.drew ?_ | with_reducible refine below_drewN ?_ _ | with_reducible refine al ?_ _ | (with_reducible refine sc ?_ ?_; (focus (first | omega | (simp; done) | (simp; omega)))) | (with_reducible refine chain ?_ (by assumption))))⟩
theorem b8_len (w : World) (b : Nat) (c0 c1 c2 c3 c4 c5 c6 : Value) (r : RowAt w b #[c0, c1, c2, c3, c4, c5, c6] 57) :
    Calls Try.prog 23 #[.pointer (some ⟨b, 0, none⟩)] w fun e w' => e = .returned c2 ∧ Below w.heap.size w w' := by
  have zb := r.lt
  have e0 : w.cell? ⟨b, 2, none⟩ = some c2 := by rw [r.cell]; rfl
  clear r
  go_enter Try.func23, Try.ntmps23
  go_wp2
  go_ret
  exact ⟨rfl, by (repeat (first | with_reducible assumption | with_reducible exact Below.refl _ _ | with_reducible refine Below.drew ?_ | with_reducible refine below_drewN ?_ _ | with_reducible refine al ?_ _ | (with_reducible refine sc ?_ ?_; (focus (first | omega | (simp; done) | (simp; omega)))) | (with_reducible refine chain ?_ (by assumption))))⟩
set_option maxHeartbeats 4000000 in
theorem b8_left (w : World) (b : Nat) (c0 c1 c2 c3 vw c5 c6 : Value) (l : List Raw) (r : RowAt w b #[c0, c1, c2, c3, vw, c5, c6] 57) (hl : w.ownsRow 0 73 2 vw l.length (rawVs l)) (ok : rawOk l) (hL : l.length ≤ 100000) (hS : lenR l ≤ 1000000000000) :
    Calls Try.prog 19 #[.pointer (some ⟨b, 0, none⟩)] w fun e w' => e = .returned (.int .i64 (lenR l)) ∧ Below w.heap.size w w' := by
  obtain ⟨p, cap, rfl, hf⟩ := own_raws hl
  have lt := fun k => lenR_take l k
  have zb := r.lt
  have e4 : w.cell? ⟨b, 4, none⟩ = some (.slice p l.length cap) := by rw [r.cell]; rfl
  obtain ⟨N, hN⟩ : ∃ N, l.length = N := ⟨_, rfl⟩
  obtain ⟨T, hT⟩ : ∃ N, lenR l = N := ⟨_, rfl⟩
  rw [hT] at hS lt
  rw [hT]
  have HN := Lib.hid hN
  have HT := Lib.hid hT
  have OK := Lib.hid ok
  have HF := Lib.hid hf
  have LT := Lib.hid lt
  rw [hN] at hL e4
  clear hN ok hf hl lt hT r
  go_enter Try.func19, Try.ntmps19
  go_wp2_with fail
  go_loopw [3, 5, 11] (fun s _ i wr => ∃ j : Nat, j ≤ N ∧ i = .int .i64 j ∧ s = .int .i64 (lenR (l.take j)) ∧ Below w.heap.size w wr) (fun _ _ i _ => N - (intOf i).toNat)
  case atStart => exact ⟨0, by omega, rfl, by simp [lenR], Below.refl _ _⟩
  case round =>
    obtain ⟨j, hj, rfl, rfl, kw⟩ := hrel
    by_cases hlt : j < N
    · have hlt2 : j < l.length := by rw [HN.out]; exact hlt
      have e : lenR (l.take (j + 1)) = lenR (l.take j) + slLen l[j].2 := by rw [take_succ_get l j hlt2, lenR_append]; simp [lenR]
      obtain ⟨g, rfl, hc, zg0, hx⟩ := HF.out (by omega)
      obtain ⟨h0, h1⟩ := hx j hlt2
      obtain ⟨okk, xp, xn, xc, hxs⟩ := OK.out _ (List.getElem_mem hlt2)
      have b1 := LT.out (j + 1)
      have b0 := LT.out j
      rw [hxs] at h1 e
      have e2 : lenR (l.take (j + 1)) = lenR (l.take j) + xn := e
      rw [e2] at b1
      obtain ⟨S, hSj⟩ : ∃ S, lenR (l.take j) = S := ⟨_, rfl⟩
      rw [hSj] at e2 b1 b0 ⊢
      obtain ⟨xk, hxk⟩ : ∃ x, l[j].1 = x := ⟨_, rfl⟩
      rw [hxk] at h0
      have E2 := Lib.hid e2
      have wS : IntKind.i64.wrap ((S : Int) + (xn : Int)) = (S : Int) + xn := IntWalk.i64_in _ (by omega)
      have d0 := keepc kw zg0 h0
      have d1 := keepc kw zg0 h1
      have zg := size_lt zg0 kw
      clear hx hxs e e2 hSj hxk okk hc hlt2 h0 h1
      go_wp2_with fail
      go_roundw
      case rel => exact ⟨j + 1, by omega, by go_num, by rw [E2.out]; go_num, al kw _⟩
      case measure => simp [intOf]; omega
    · obtain rfl : j = N := by omega
      have e : l.take j = l := by rw [← HN.out, List.take_length]
      rw [e, HT.out]
      clear e
      go_wp2_with fail
      go_ret
      exact ⟨rfl, kw⟩
theorem b8_clone (v : Value) (B : List Int) (w : World) (h : BytsAt w v B) (hB : B.length ≤ 1000000000) : Calls Try.prog 34 #[v] w fun e w' => ∃ v', e = .returned v' ∧ w'.ownsRow w.heap.size 5 1 v' B.length (bytVs B) ∧ Below w.heap.size w w' := by
  obtain ⟨p, c, rfl, hf⟩ := h.form
  rcases p with _ | a
  · obtain rfl : B = [] := by
      rcases Nat.eq_zero_or_pos B.length with h0 | h0
      · exact List.length_eq_zero_iff.1 h0
      · obtain ⟨g, off, e, _⟩ := hf h0; cases e
    refine (Try.bytes_Clone_nil _ _ w).mono ?_
    rintro e w' ⟨rfl, rfl⟩
    exact ⟨_, rfl, World.ownsRow_nil _ _ _ _, Below.refl _ _⟩
  · refine (Try.bytes_Clone_at a B.length c B w rfl (by omega) (fun i hi => ?_)).mono ?_
    · obtain ⟨g, off, e, _, _, hx⟩ := hf (by omega)
      cases e
      rw [Addr.add_lit]
      rw [hx i hi]
      simp [List.getD_eq_getElem?_getD, hi]
    · rintro e w' ⟨v', rfl, ho, _, hb⟩
      exact ⟨v', rfl, ho, hb⟩
end Go.Proofs.Ytkephcmjigfepaa
