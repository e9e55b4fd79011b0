/- The check of rows of which one byte, or two side by side, are others. No program. -/
import Derived.Test.YtnpondgnmoedhaaK07
set_option linter.unusedVariables false
namespace Go.Proofs.Ytnpondgnmoedhaa
open Go Go.RowKit
theorem one_turn {l : List Int} (ok : bytOk l) {k : Nat} (hk : k < l.length) {x : Int} (hx : 0 ≤ x ∧ x ≤ 255) (c : W16) : sumV c (l.set k x) = sumV c l ↔ x = l[k] := by
  constructor
  · intro h
    have h2 : sumV c (l.set k x) = sumV c (l.set k l[k]) := by rw [List.set_getElem_self]; exact h
    rw [List.set_eq_take_append_cons_drop, if_pos hk, List.set_eq_take_append_cons_drop, if_pos hk, sumV_append, sumV_append] at h2
    exact one_inj hx (ok _ (List.getElem_mem hk)) (sum_inj (l.drop (k + 1)) h2)
  · rintro rfl; rw [List.set_getElem_self]
theorem two_parts {l : List Int} {k : Nat} (hk : k + 1 < l.length) : l = l.take k ++ l[k] :: l[k + 1] :: l.drop (k + 2) := by
  rw [List.getElem_cons_drop, List.getElem_cons_drop, List.take_append_drop]
theorem set_two (A : List Int) (a b x y : Int) (Z : List Int) : ((A ++ a :: b :: Z).set A.length x).set (A.length + 1) y = A ++ x :: y :: Z := by
  rw [List.set_append_right _ _ (Nat.le_refl _), List.set_append_right _ _ (Nat.le_succ _), Nat.sub_self, show A.length.succ - A.length = 1 by omega]
  rfl
theorem two_set {l : List Int} {k : Nat} (hk : k + 1 < l.length) (x y : Int) : (l.set k x).set (k + 1) y = l.take k ++ x :: y :: l.drop (k + 2) := by
  have h := set_two (l.take k) l[k] l[k + 1] x y (l.drop (k + 2))
  rw [← two_parts hk, List.length_take, Nat.min_eq_left (by omega)] at h
  exact h
theorem sumV_cons (c : W16) (a : Int) (l : List Int) : sumV c (a :: l) = sumV (stepV c a) l := rfl
theorem two_turn {l : List Int} (ok : bytOk l) {k : Nat} (hk : k + 1 < l.length) {x y : Int} (hx : 0 ≤ x ∧ x ≤ 255) (hy : 0 ≤ y ∧ y ≤ 255) (c : W16) : sumV c ((l.set k x).set (k + 1) y) = sumV c l ↔ x = l[k] ∧ y = l[k + 1] := by
  constructor
  · intro h
    have h2 : sumV c (l.take k ++ x :: y :: l.drop (k + 2)) = sumV c (l.take k ++ l[k] :: l[k + 1] :: l.drop (k + 2)) := by rw [← two_parts hk, ← two_set hk]; exact h
    rw [sumV_append, sumV_append, sumV_cons, sumV_cons, sumV_cons, sumV_cons] at h2
    exact two_inj hx hy (ok _ (List.getElem_mem (Nat.lt_of_succ_lt hk))) (ok _ (List.getElem_mem hk)) (sum_inj (l.drop (k + 2)) h2)
  · rintro ⟨e1, e2⟩; rw [e1, e2, two_set hk, ← two_parts hk]
theorem set_ok {l : List Int} (ok : bytOk l) (k : Nat) {x : Int} (hx : 0 ≤ x ∧ x ≤ 255) : bytOk (l.set k x) := fun z hz => by
  rcases List.mem_or_eq_of_mem_set hz with h | rfl
  · exact ok z h
  · exact hx
theorem good_turned {b : List Int} (ok : bytOk (sealF b)) {k : Nat} (hk : k < (sealF b).length) {x : Int} (hx : 0 ≤ x ∧ x ≤ 255) : goodB ((sealF b).set k x) = (x == (sealF b)[k]) := by
  have h1 := one_turn ok hk hx 65535#16
  have h2 : sumV 65535#16 (sealF b) = 0#16 := put_zero b
  have h3 := put_len b
  rw [h2] at h1
  unfold goodB
  rw [Bool.eq_iff_iff, Bool.and_eq_true, decide_eq_true_eq, beq_iff_eq, beq_iff_eq, List.length_set]
  exact ⟨fun h => h1.1 h.2, fun h => ⟨by omega, h1.2 h⟩⟩
theorem take_one {b : List Int} (ok : bytOk (sealF b)) {k : Nat} (hk : k < (sealF b).length) {x : Int} (hx : 0 ≤ x ∧ x ≤ 255) : takeE ((sealF b).set k x) = if x = (sealF b)[k] then 0 else 4 := by
  have h1 := one_turn ok hk hx 65535#16
  have h2 : sumV 65535#16 (sealF b) = 0#16 := put_zero b
  have h3 := put_len b
  rw [h2] at h1
  unfold takeE
  rw [if_neg (by rw [List.length_set]; omega)]
  simp only [show (ofV ((sealF b).set k x) = 0#16) = (x = (sealF b)[k]) from propext h1]
theorem take_two {b : List Int} (ok : bytOk (sealF b)) {k : Nat} (hk : k + 1 < (sealF b).length) {x y : Int} (hx : 0 ≤ x ∧ x ≤ 255) (hy : 0 ≤ y ∧ y ≤ 255) : takeE (((sealF b).set k x).set (k + 1) y) = if x = (sealF b)[k] ∧ y = (sealF b)[k + 1] then 0 else 4 := by
  have h1 := two_turn ok hk hx hy 65535#16
  have h2 : sumV 65535#16 (sealF b) = 0#16 := put_zero b
  have h3 := put_len b
  rw [h2] at h1
  unfold takeE
  rw [if_neg (by rw [List.length_set, List.length_set]; omega)]
  simp only [show (ofV (((sealF b).set k x).set (k + 1) y) = 0#16) = (x = (sealF b)[k] ∧ y = (sealF b)[k + 1]) from propext h1]
theorem own_some {w : World} {base : Nat} {e : TypeId} {size n : Nat} {v : Value} {xs : List Value} (h : w.ownsRow base e size v n xs) (hn : 0 < n) : ∃ g cap, v = .slice (some ⟨g, 0, none⟩) n cap := by
  rcases h.2 with ⟨_, hz0⟩ | ⟨g, cap, cur, rfl, _⟩
  · omega
  · exact ⟨g, cap, rfl⟩
theorem own_open {w : World} {base : Nat} {e : TypeId} {size n g cap : Nat} {xs : List Value} (h : w.ownsRow base e size (.slice (some ⟨g, 0, none⟩) n cap) n xs) : (∀ o, w.frozen? ⟨g, o, none⟩ = false) ∧ g < w.heap.size := by
  rcases h.2 with ⟨h, _⟩ | ⟨g', cap', cur, e, _, h, _⟩
  · cases h
  · simp only [Value.slice.injEq, Option.some.injEq, Addr.mk.injEq] at e
    obtain ⟨⟨rfl, _⟩, _⟩ := e
    exact ⟨fun o => by simp [World.frozen?, h], (Array.getElem?_eq_some_iff.1 h).1⟩
theorem same_two {l : List Int} (ok : bytOk l) {k : Nat} (hk : k + 1 < l.length) {x y : Int} (hx : 0 ≤ x ∧ x ≤ 255) (hy : 0 ≤ y ∧ y ≤ 255) :
    (((ofV l).toNat : Int) == ((ofV ((l.set k x).set (k + 1) y)).toNat : Int)) = ((l[k] == x) && (l[k + 1] == y)) := by
  have h1 := two_turn ok hk hx hy 65535#16
  rw [Bool.eq_iff_iff, Bool.and_eq_true, beq_iff_eq, beq_iff_eq, beq_iff_eq]
  constructor
  · intro h
    have h3 : (ofV l).toNat = (ofV ((l.set k x).set (k + 1) y)).toNat := by omega
    have h2 : sumV 65535#16 ((l.set k x).set (k + 1) y) = sumV 65535#16 l := BitVec.eq_of_toNat_eq h3.symm
    exact ⟨(h1.1 h2).1.symm, (h1.1 h2).2.symm⟩
  · rintro ⟨e1, e2⟩
    have h2 : ofV ((l.set k x).set (k + 1) y) = ofV l := h1.2 ⟨e1.symm, e2.symm⟩
    rw [h2]
end Go.Proofs.Ytnpondgnmoedhaa
