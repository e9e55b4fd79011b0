/- Texts behind each other. -/
import Derived.Test.YthjekbbldejlpaaZ09
import Derived.Test.YthjekbbldejlpaaZ10
import Derived.Test.YthjekbbldejlpaaZ11
/- The maths of what a crash leaves, round by round; rows of blobs as they rise. No program. -/
set_option linter.unusedVariables false
set_option linter.unusedSimpArgs false
namespace Go.Proofs.Ythjekbbldejlpaa
open Go Go.RowKit
abbrev cutB : List Int → Nat → List Int := fun B k => B.take k
theorem crash_full : ∀ (U S : Blobs) (K : Nat), sumB U ≤ K → crashGo List.length cutB S K U = nowF S U
  | [], S, K, _ => rfl
  | (q, B) :: U, S, K, h => by
    rw [sumB] at h
    have e : crashGo List.length cutB S K ((q, B) :: U) = if B.length ≤ K then crashGo List.length cutB (layF S (q, B)) (K - B.length) U else layF S (q, B.take K) := rfl
    rw [e, if_pos (by simp only [] at h; omega), crash_full U _ _ (by simp only [] at h; omega)]
    rfl
theorem crash_cut : ∀ (U S : Blobs) (K j : Nat) (hj : j < U.length), sumB (U.take j) ≤ K → K - sumB (U.take j) < U[j].2.length →
    crashGo List.length cutB S K U = layF (nowF S (U.take j)) (U[j].1, U[j].2.take (K - sumB (U.take j)))
  | (q, B) :: U, S, K, 0, hj, h1, h2 => by
    have e : crashGo List.length cutB S K ((q, B) :: U) = if B.length ≤ K then crashGo List.length cutB (layF S (q, B)) (K - B.length) U else layF S (q, B.take K) := rfl
    simp only [List.take_zero, sumB, List.getElem_cons_zero, Nat.sub_zero] at h2 ⊢
    rw [e, if_neg (by omega)]
    rfl
  | (q, B) :: U, S, K, j + 1, hj, h1, h2 => by
    have e : crashGo List.length cutB S K ((q, B) :: U) = if B.length ≤ K then crashGo List.length cutB (layF S (q, B)) (K - B.length) U else layF S (q, B.take K) := rfl
    simp only [List.take_succ_cons, sumB, List.getElem_cons_succ] at h1 h2 ⊢
    rw [e, if_pos (by omega), crash_cut U _ _ j (by simpa using hj) (by omega) (by rw [show K - B.length - sumB (U.take j) = K - (B.length + sumB (U.take j)) by omega]; exact h2)]
    rw [show K - B.length - sumB (U.take j) = K - (B.length + sumB (U.take j)) by omega]
    rfl
theorem crash_min (U S : Blobs) (K : Nat) : crashGo List.length cutB S (min K (sumB U)) U = crashGo List.length cutB S K U := by
  rcases Nat.le_total (sumB U) K with h | h
  · rw [Nat.min_eq_right h, crash_full U S _ (Nat.le_refl _), crash_full U S K h]
  · rw [Nat.min_eq_left h]
theorem sumB_take (U : Blobs) (j : Nat) : sumB (U.take j) ≤ sumB U := by
  conv => rhs; rw [← List.take_append_drop j U, sumB_append]
  omega
theorem sumB_next (U : Blobs) (j : Nat) (h : j < U.length) : sumB (U.take (j + 1)) = sumB (U.take j) + U[j].2.length := by
  rw [take_succ_get U j h, sumB_append]
  simp [sumB]
theorem nowF_next {β : Type} (S U : List (Int × β)) (j : Nat) (h : j < U.length) : nowF S (U.take (j + 1)) = layF (nowF S (U.take j)) U[j] := by
  rw [take_succ_get U j h, nowF_snoc]
section
variable {R : Value → List Int → Prop}
theorem rel_srt {rs : List Raw} {bs : Blobs} (h : RelG R rs bs) (hs : Srt bs) : Srt rs := by
  induction h with
  | nil => exact List.Pairwise.nil
  | @cons r b rs bs hx hr ih =>
    obtain ⟨h1, h2⟩ := List.pairwise_cons.1 hs
    refine List.pairwise_cons.2 ⟨fun y hy => ?_, ih h2⟩
    have hm : ∀ {rs : List Raw} {bs : Blobs}, RelG R rs bs → ∀ y ∈ rs, ∃ z ∈ bs, z.1 = y.1 := fun {rs bs} h => by
      induction h with
      | nil => intro y hy; cases hy
      | cons hx hr ih =>
        intro y hy
        rcases List.mem_cons.1 hy with rfl | hy
        · exact ⟨_, List.mem_cons_self .., hx.1.symm⟩
        · obtain ⟨z, hz, e⟩ := ih y hy
          exact ⟨z, List.mem_cons_of_mem _ hz, e⟩
    obtain ⟨z, hz, e⟩ := hm hr y hy
    have := h1 z hz
    rw [hx.1, ← e]
    exact this
theorem rel_nth {rs : List Raw} {bs : Blobs} (h : RelG R rs bs) : ∀ (j : Nat) (hj : j < rs.length) (hk : j < bs.length), rs[j].1 = bs[j].1 ∧ R rs[j].2 bs[j].2 := by
  induction h with
  | nil => intro j hj; simp at hj
  | cons hx hr ih =>
    intro j hj hk
    cases j with
    | zero => exact hx
    | succ j => exact ih j (by simpa using hj) (by simpa using hk)
theorem rel_mem {rs : List Raw} {bs : Blobs} (h : RelG R rs bs) : ∀ y ∈ rs, ∃ z ∈ bs, y.1 = z.1 ∧ R y.2 z.2 := by
  induction h with
  | nil => intro y hy; cases hy
  | cons hx hr ih =>
    intro y hy
    rcases List.mem_cons.1 hy with rfl | hy
    · exact ⟨_, List.mem_cons_self .., hx⟩
    · obtain ⟨z, hz, e⟩ := ih y hy
      exact ⟨z, List.mem_cons_of_mem _ hz, e⟩
end
theorem srt_keys {β γ : Type} : ∀ {l : List (Int × β)} {m : List (Int × γ)}, l.map (·.1) = m.map (·.1) → Srt m → Srt l
  | [], [], _, _ => List.Pairwise.nil
  | [], _ :: _, h, _ => by simp at h
  | _ :: _, [], h, _ => by simp at h
  | a :: l, b :: m, h, hs => by
    simp only [List.map_cons, List.cons.injEq] at h
    obtain ⟨h1, h2⟩ := List.pairwise_cons.1 hs
    refine List.pairwise_cons.2 ⟨fun y hy => ?_, srt_keys h.2 h2⟩
    have hm : y.1 ∈ m.map (·.1) := by rw [← h.2]; exact List.mem_map.2 ⟨y, hy, rfl⟩
    obtain ⟨z, hz, e⟩ := List.mem_map.1 hm
    have := h1 z hz
    rw [h.1, ← e]
    exact this
/-- Blobs that are all among others are no more bytes. -/
theorem lenR_sub : ∀ (S L : List Raw), Srt S → Srt L → (∀ x ∈ L, x ∈ S) → lenR L ≤ lenR S
  | [], [], _, _, _ => Nat.le_refl _
  | [], x :: L, _, _, h => by have := h x (List.mem_cons_self ..); cases this
  | s :: S, [], _, _, _ => by simp [lenR]
  | s :: S, x :: L, hs, hl, h => by
    obtain ⟨s1, s2⟩ := List.pairwise_cons.1 hs
    obtain ⟨l1, l2⟩ := List.pairwise_cons.1 hl
    rcases List.mem_cons.1 (h x (List.mem_cons_self ..)) with rfl | hx
    · have := lenR_sub S L s2 l2 fun y hy => by
        rcases List.mem_cons.1 (h y (List.mem_cons_of_mem _ hy)) with rfl | hy2
        · have := l1 y hy; omega
        · exact hy2
      rw [lenR, lenR]; omega
    · have := lenR_sub S (x :: L) s2 hl fun y hy => by
        rcases List.mem_cons.1 (h y hy) with rfl | hy2
        · have h1 := s1 x hx
          rcases List.mem_cons.1 hy with rfl | hy3
          · omega
          · have := l1 y hy3; omega
        · exact hy2
      refine Nat.le_trans this ?_
      show lenR S ≤ slLen s.2 + lenR S
      omega
theorem lenR_ins {k : Int} {v : Value} : ∀ {l : List Raw}, getF l k = none → lenR (insF l (k, v)) = lenR l + slLen v
  | [], _ => by simp [insF, lenR]
  | x :: l, h => by
    rw [getF] at h
    by_cases c : x.1 = k
    · rw [if_pos c] at h; cases h
    · rw [if_neg c] at h
      rw [insF]
      by_cases c2 : k ≤ x.1
      · rw [if_pos c2, if_neg c]; simp only [lenR]; omega
      · rw [if_neg c2]; simp only [lenR]; rw [lenR_ins h]; omega
theorem getF_in {β : Type} {k : Int} {v : β} : ∀ {l : List (Int × β)}, getF l k = some v → (k, v) ∈ l
  | [], h => by cases h
  | x :: l, h => by
    rw [getF] at h
    by_cases c : x.1 = k
    · rw [if_pos c] at h
      cases h
      subst c
      exact List.mem_cons_self ..
    · rw [if_neg c] at h
      exact List.mem_cons_of_mem _ (getF_in h)
theorem mem_getF {β : Type} {k : Int} {v : β} {l : List (Int × β)} (hs : Srt l) (h : (k, v) ∈ l) : getF l k = some v := by
  obtain ⟨j, hj, e⟩ := List.getElem_of_mem h
  have := hs.get hj
  rw [e] at this
  exact this
end Go.Proofs.Ythjekbbldejlpaa
/- The check of rows of which one byte, or two side by side, are others. No program. -/
set_option linter.unusedVariables false
namespace Go.Proofs.Ythjekbbldejlpaa
open Go Go.RowKit
theorem one_turn {l : List Int} (ok : bytOk l) {k : Nat} (hk : k < l.length) {x : Int} (hx : 0 ≤ x ∧ x ≤ 255) (c : W16) : sumV c (l.set k x) = sumV c l ↔ x = l[k] := by
  constructor
  · intro h
    have h2 : sumV c (l.set k x) = sumV c (l.set k l[k]) := by rw [List.set_getElem_self]; exact h
    rw [List.set_eq_take_append_cons_drop, if_pos hk, List.set_eq_take_append_cons_drop, if_pos hk, sumV_append, sumV_append] at h2
    exact one_inj hx (ok _ (List.getElem_mem hk)) (sum_inj (l.drop (k + 1)) h2)
  · rintro rfl; rw [List.set_getElem_self]
theorem two_parts {l : List Int} {k : Nat} (hk : k + 1 < l.length) : l = l.take k ++ l[k] :: l[k + 1] :: l.drop (k + 2) := by
  rw [List.getElem_cons_drop, List.getElem_cons_drop, List.take_append_drop]
theorem set_two (A : List Int) (a b x y : Int) (Z : List Int) : ((A ++ a :: b :: Z).set A.length x).set (A.length + 1) y = A ++ x :: y :: Z := by
  rw [List.set_append_right _ _ (Nat.le_refl _), List.set_append_right _ _ (Nat.le_succ _), Nat.sub_self, show A.length.succ - A.length = 1 by omega]
  rfl
theorem two_set {l : List Int} {k : Nat} (hk : k + 1 < l.length) (x y : Int) : (l.set k x).set (k + 1) y = l.take k ++ x :: y :: l.drop (k + 2) := by
  have h := set_two (l.take k) l[k] l[k + 1] x y (l.drop (k + 2))
  rw [← two_parts hk, List.length_take, Nat.min_eq_left (by omega)] at h
  exact h
theorem sumV_cons (c : W16) (a : Int) (l : List Int) : sumV c (a :: l) = sumV (stepV c a) l := rfl
theorem two_turn {l : List Int} (ok : bytOk l) {k : Nat} (hk : k + 1 < l.length) {x y : Int} (hx : 0 ≤ x ∧ x ≤ 255) (hy : 0 ≤ y ∧ y ≤ 255) (c : W16) : sumV c ((l.set k x).set (k + 1) y) = sumV c l ↔ x = l[k] ∧ y = l[k + 1] := by
  constructor
  · intro h
    have h2 : sumV c (l.take k ++ x :: y :: l.drop (k + 2)) = sumV c (l.take k ++ l[k] :: l[k + 1] :: l.drop (k + 2)) := by rw [← two_parts hk, ← two_set hk]; exact h
    rw [sumV_append, sumV_append, sumV_cons, sumV_cons, sumV_cons, sumV_cons] at h2
    exact two_inj hx hy (ok _ (List.getElem_mem (Nat.lt_of_succ_lt hk))) (ok _ (List.getElem_mem hk)) (sum_inj (l.drop (k + 2)) h2)
  · rintro ⟨e1, e2⟩; rw [e1, e2, two_set hk, ← two_parts hk]
theorem set_ok {l : List Int} (ok : bytOk l) (k : Nat) {x : Int} (hx : 0 ≤ x ∧ x ≤ 255) : bytOk (l.set k x) := fun z hz => by
  rcases List.mem_or_eq_of_mem_set hz with h | rfl
  · exact ok z h
  · exact hx
theorem good_turned {b : List Int} (ok : bytOk (sealF b)) {k : Nat} (hk : k < (sealF b).length) {x : Int} (hx : 0 ≤ x ∧ x ≤ 255) : goodB ((sealF b).set k x) = (x == (sealF b)[k]) := by
  have h1 := one_turn ok hk hx 65535#16
  have h2 : sumV 65535#16 (sealF b) = 0#16 := put_zero b
  have h3 := put_len b
  rw [h2] at h1
  unfold goodB
  rw [Bool.eq_iff_iff, Bool.and_eq_true, decide_eq_true_eq, beq_iff_eq, beq_iff_eq, List.length_set]
  exact ⟨fun h => h1.1 h.2, fun h => ⟨by omega, h1.2 h⟩⟩
theorem take_one {b : List Int} (ok : bytOk (sealF b)) {k : Nat} (hk : k < (sealF b).length) {x : Int} (hx : 0 ≤ x ∧ x ≤ 255) : takeE ((sealF b).set k x) = if x = (sealF b)[k] then 0 else 4 := by
  have h1 := one_turn ok hk hx 65535#16
  have h2 : sumV 65535#16 (sealF b) = 0#16 := put_zero b
  have h3 := put_len b
  rw [h2] at h1
  unfold takeE
  rw [if_neg (by rw [List.length_set]; omega)]
  simp only [show (ofV ((sealF b).set k x) = 0#16) = (x = (sealF b)[k]) from propext h1]
theorem take_two {b : List Int} (ok : bytOk (sealF b)) {k : Nat} (hk : k + 1 < (sealF b).length) {x y : Int} (hx : 0 ≤ x ∧ x ≤ 255) (hy : 0 ≤ y ∧ y ≤ 255) : takeE (((sealF b).set k x).set (k + 1) y) = if x = (sealF b)[k] ∧ y = (sealF b)[k + 1] then 0 else 4 := by
  have h1 := two_turn ok hk hx hy 65535#16
  have h2 : sumV 65535#16 (sealF b) = 0#16 := put_zero b
  have h3 := put_len b
  rw [h2] at h1
  unfold takeE
  rw [if_neg (by rw [List.length_set, List.length_set]; omega)]
  simp only [show (ofV (((sealF b).set k x).set (k + 1) y) = 0#16) = (x = (sealF b)[k] ∧ y = (sealF b)[k + 1]) from propext h1]
theorem own_some {w : World} {base : Nat} {e : TypeId} {size n : Nat} {v : Value} {xs : List Value} (h : w.ownsRow base e size v n xs) (hn : 0 < n) : ∃ g cap, v = .slice (some ⟨g, 0, none⟩) n cap := by
  rcases h.2 with ⟨_, hz0⟩ | ⟨g, cap, cur, rfl, _⟩
  · omega
  · exact ⟨g, cap, rfl⟩
theorem own_open {w : World} {base : Nat} {e : TypeId} {size n g cap : Nat} {xs : List Value} (h : w.ownsRow base e size (.slice (some ⟨g, 0, none⟩) n cap) n xs) : (∀ o, w.frozen? ⟨g, o, none⟩ = false) ∧ g < w.heap.size := by
  rcases h.2 with ⟨h, _⟩ | ⟨g', cap', cur, e, _, h, _⟩
  · cases h
  · simp only [Value.slice.injEq, Option.some.injEq, Addr.mk.injEq] at e
    obtain ⟨⟨rfl, _⟩, _⟩ := e
    exact ⟨fun o => by simp [World.frozen?, h], (Array.getElem?_eq_some_iff.1 h).1⟩
theorem same_two {l : List Int} (ok : bytOk l) {k : Nat} (hk : k + 1 < l.length) {x y : Int} (hx : 0 ≤ x ∧ x ≤ 255) (hy : 0 ≤ y ∧ y ≤ 255) :
    (((ofV l).toNat : Int) == ((ofV ((l.set k x).set (k + 1) y)).toNat : Int)) = ((l[k] == x) && (l[k + 1] == y)) := by
  have h1 := two_turn ok hk hx hy 65535#16
  rw [Bool.eq_iff_iff, Bool.and_eq_true, beq_iff_eq, beq_iff_eq, beq_iff_eq]
  constructor
  · intro h
    have h3 : (ofV l).toNat = (ofV ((l.set k x).set (k + 1) y)).toNat := by omega
    have h2 : sumV 65535#16 ((l.set k x).set (k + 1) y) = sumV 65535#16 l := BitVec.eq_of_toNat_eq h3.symm
    exact ⟨(h1.1 h2).1.symm, (h1.1 h2).2.symm⟩
  · rintro ⟨e1, e2⟩
    have h2 : ofV ((l.set k x).set (k + 1) y) = ofV l := h1.2 ⟨e1.symm, e2.symm⟩
    rw [h2]
end Go.Proofs.Ythjekbbldejlpaa
/- The maths of layer 9: an id's two slots, of which one has the record; what is under way of it. No program. -/
set_option linter.unusedVariables false
set_option linter.unusedSimpArgs false
namespace Go.Proofs.Ythjekbbldejlpaa
open Go Go.RowKit
/-- A key's bytes, or none. -/
def gb (M : Blobs) (q : Int) : List Int := (getF M q).getD []
/-- The slot, version, body of an id of those two slots' bytes. -/
def ofP (k : Int) (a b : List Int) : Int × Int × List Int :=
  if readE a ≠ 0 ∧ readE b ≠ 0 then (2 * k + 1, 0, []) else if readE b ≠ 0 ∨ (readE a = 0 ∧ readV b ≤ readV a) then (2 * k, readV a, readB a) else (2 * k + 1, readV b, readB b)
def of9 (d : St) (k : Int) : Int × Int × List Int := ofP k (gb d.all (2 * k)) (gb d.all (2 * k + 1))
def idB (k : Int) : Bool := decide (0 ≤ k) && decide (k ≤ 1099511627776)
def loadF (d : St) (k : Int) : List Int × Int × Bool := if idB k = true then ((of9 d k).2.2, (of9 d k).2.1, decide (0 < (of9 d k).2.1)) else ([], 0, false)
def saveSt (d : St) (k : Int) (B : List Int) : St × Int :=
  if idB k = true then
    if wr9 ((of9 d k).2.1 + 1) B = true then
      if (putSt d (4 * k + 1 - (of9 d k).1) (recF ((of9 d k).2.1 + 1) B)).2 = 0 then syncSt (putSt d (4 * k + 1 - (of9 d k).1) (recF ((of9 d k).2.1 + 1) B)).1
      else putSt d (4 * k + 1 - (of9 d k).1) (recF ((of9 d k).2.1 + 1) B)
    else (d, 1)
  else (d, 1)
theorem readV_none {b : List Int} (h : readE b ≠ 0) : readV b = 0 := by unfold readV; rw [if_neg h]
theorem readV_nn (b : List Int) : 0 ≤ readV b := (readV_bd b).1
/-- Which of the two slots has the record, of what version and body. -/
inductive HasP : List Int → List Int → Int → List Int → Bool → Prop
  | none {a b : List Int} (h1 : readE a ≠ 0) (h2 : readE b ≠ 0) : HasP a b 0 [] true
  | fst {a b : List Int} (h1 : readE a = 0) (h2 : readV b < readV a) : HasP a b (readV a) (readB a) false
  | snd {a b : List Int} (h1 : readE b = 0) (h2 : readV a < readV b) : HasP a b (readV b) (readB b) true
theorem HasP.nn {a b : List Int} {v : Int} {B : List Int} {s : Bool} (h : HasP a b v B s) : 0 ≤ v ∧ v ≤ 1073741824 := by
  cases h with
  | none => decide
  | fst => exact readV_bd a
  | snd => exact readV_bd b
theorem HasP.of {a b : List Int} {v : Int} {B : List Int} {s : Bool} (h : HasP a b v B s) (k : Int) : ofP k a b = (2 * k + (if s = true then 1 else 0), v, B) := by
  cases h with
  | none h1 h2 => unfold ofP; rw [if_pos ⟨h1, h2⟩]; rfl
  | fst h1 h2 =>
    unfold ofP
    rw [if_neg (fun h => h.1 h1), if_pos (.inr ⟨h1, Int.le_of_lt h2⟩)]
    simp
  | snd h1 h2 =>
    unfold ofP
    rw [if_neg (fun h => h.2 h1), if_neg (fun h => by
      rcases h with h | h
      · exact h h1
      · omega)]
    rfl
/-- What is put next, into the other slot. -/
theorem HasP.next {a b : List Int} {v : Int} {B : List Int} {s : Bool} (h : HasP a b v B s) {B' : List Int} (hw : wr9 (v + 1) B' = true) : HasP (if s = true then recF (v + 1) B' else a) (if s = true then b else recF (v + 1) B') (v + 1) B' (!s) := by
  obtain ⟨e0, e1, e2⟩ := read_rec hw
  cases h with
  | none h1 h2 =>
    have := HasP.fst (a := recF (0 + 1) B') (b := b) e0 (by rw [e1, readV_none h2]; decide)
    rw [e1, e2] at this
    exact this
  | fst h1 h2 =>
    have := HasP.snd (a := a) (b := recF (readV a + 1) B') e0 (by rw [e1]; omega)
    rw [e1, e2] at this
    exact this
  | snd h1 h2 =>
    have := HasP.fst (a := recF (readV b + 1) B') (b := b) e0 (by rw [e1]; omega)
    rw [e1, e2] at this
    exact this
/-- What is no record, in the other slot. -/
theorem HasP.torn {a b : List Int} {v : Int} {B : List Int} {s : Bool} (h : HasP a b v B s) {x : List Int} (hx : readE x ≠ 0) : HasP (if s = true then x else a) (if s = true then b else x) v B s := by
  have h0 := readV_none hx
  cases h with
  | none h1 h2 => exact .none hx h2
  | fst h1 h2 =>
    have h3 := readV_pos h1
    have h4 : HasP a x (readV a) (readB a) false := .fst h1 (by rw [h0]; omega)
    exact h4
  | snd h1 h2 =>
    have h3 := readV_pos h1
    have h4 : HasP x b (readV b) (readB b) true := .snd h1 (by rw [h0]; omega)
    exact h4
/-- The record's slot is turned: the other slot's, if there is one. -/
theorem rec_len {v : Int} {B : List Int} : (recF v B).length = B.length + 9 := recF_len v B
theorem torn_rec {v : Int} {B : List Int} (h : wr9 v B = true) {j : Nat} (hj : j < (recF v B).length) : readE ((recF v B).take j) ≠ 0 := by
  have hl := recF_len v B
  have hb : B.length ≤ 65536 := by
    simp only [wr9, Bool.and_eq_true, decide_eq_true_eq] at h
    exact h.2
  unfold readE
  by_cases c : takeE ((recF v B).take j) = 0
  · rw [if_neg (by simp [c])]
    have hg : goodB ((recF v B).take j) = true := by rw [goodB_iff, c]; rfl
    have hlen : ((recF v B).take j).length = j := by rw [List.length_take]; omega
    have hj2 : 2 ≤ j := by
      unfold goodB at hg
      rw [hlen] at hg
      simp only [Bool.and_eq_true, decide_eq_true_eq] at hg
      exact hg.1
    have ho : takeF ((recF v B).take j) = (headF v B).take (j - 2) := by
      unfold takeF
      rw [if_pos hg, hlen, List.take_take, show min (j - 2) j = j - 2 by omega]
      unfold recF sealF
      rw [List.take_append_of_le_length (by rw [headF_len]; omega)]
    have hol : (takeF ((recF v B).take j)).length = j - 2 := by rw [ho, List.length_take, headF_len]; omega
    unfold ownE
    by_cases c7 : (takeF ((recF v B).take j)).length < 7
    · rw [if_pos c7]; decide
    · rw [if_neg c7]
      have e3 : ((takeF ((recF v B).take j)).drop 4).take 3 = digs3 B.length := by
        rw [ho, List.drop_take, List.take_take, show min 3 (j - 2 - 4) = 3 by omega]
        simp [headF, digs4, digs3]
      have n3 := num_digs3 (n := (B.length : Int)) (by omega) (by omega)
      rw [e3, n3, if_pos (.inr (.inr (.inr (by omega))))]
      decide
  · rw [if_pos c]; exact c
theorem turned_rec {v : Int} {B : List Int} (ok : bytOk B) {k : Nat} (hk : k < (recF v B).length) {x : Int} (hx : 0 ≤ x ∧ x ≤ 255) (hne : x ≠ (recF v B)[k]) : readE ((recF v B).set k x) ≠ 0 := by
  have h : takeE ((recF v B).set k x) = if x = (recF v B)[k] then 0 else 4 := take_one (b := headF v B) (recF_ok ok) hk hx
  rw [if_neg hne] at h
  unfold readE
  have h2 : takeE ((recF v B).set k x) = 4 := h
  rw [if_pos (by rw [h2]; decide), h2]
  decide
theorem gb_lay {M : Blobs} (hs : Srt M) (q q' : Int) (X : List Int) : gb (layF M (q, X)) q' = if q = q' then X else gb M q' := by
  have e : getF (layF M (q, X)) q' = if q = q' then some X else getF M q' := by
    rw [layF_ins _ hs]
    by_cases c : q = q'
    · subst c
      rw [if_pos rfl]
      exact mem_getF (ins_srt _ _ hs) (by
        clear hs
        induction M with
        | nil => simp [insF]
        | cons x M ih =>
          rw [insF]
          split
          · split
            · exact List.mem_cons_self ..
            · exact List.mem_cons_self ..
          · exact List.mem_cons_of_mem _ ih)
    · rw [if_neg c]
      clear hs
      induction M with
      | nil => simp [insF, getF, c]
      | cons x M ih =>
        rw [insF]
        by_cases c1 : q ≤ x.1
        · rw [if_pos c1]
          by_cases c2 : x.1 = q
          · rw [if_pos c2, getF, if_neg c, getF, if_neg (by omega)]
          · rw [if_neg c2, getF, if_neg c]
        · rw [if_neg c1, getF, getF, ih]
  unfold gb
  rw [e]
  split <;> rfl
/-- What is under way of an id, from a record of that version in that slot on: records of the next versions, turn by turn into the other slot. -/
inductive ChainK (k : Int) : Blobs → Int → Bool → List (List Int) → Prop
  | nil (v : Int) (s : Bool) : ChainK k [] v s []
  | skip {q : Int} {X : List Int} {U : Blobs} {v : Int} {s : Bool} {Bs : List (List Int)} (h1 : q ≠ 2 * k) (h2 : q ≠ 2 * k + 1) (h : ChainK k U v s Bs) : ChainK k ((q, X) :: U) v s Bs
  | put {U : Blobs} {v : Int} {s : Bool} {B : List Int} {Bs : List (List Int)} (hw : wr9 (v + 1) B = true) (h : ChainK k U (v + 1) (!s) Bs) : ChainK k ((2 * k + (if s = true then 0 else 1), recF (v + 1) B) :: U) v s (B :: Bs)
abbrev HasM (M : Blobs) (k : Int) (v : Int) (B : List Int) (s : Bool) : Prop := HasP (gb M (2 * k)) (gb M (2 * k + 1)) v B s
theorem HasM.other {M : Blobs} (hs : Srt M) {k v : Int} {B : List Int} {s : Bool} (h : HasM M k v B s) {q : Int} (h1 : q ≠ 2 * k) (h2 : q ≠ 2 * k + 1) (X : List Int) : HasM (layF M (q, X)) k v B s := by
  unfold HasM
  rw [gb_lay hs, gb_lay hs, if_neg h1, if_neg h2]
  exact h
theorem HasM.put {M : Blobs} (hs : Srt M) {k v : Int} {B : List Int} {s : Bool} (h : HasM M k v B s) {B' : List Int} (hw : wr9 (v + 1) B' = true) : HasM (layF M (2 * k + (if s = true then 0 else 1), recF (v + 1) B')) k (v + 1) B' (!s) := by
  have := HasP.next h hw
  unfold HasM
  rw [gb_lay hs, gb_lay hs]
  cases s
  · simp only [Bool.false_eq_true, if_false] at this ⊢
    rw [if_neg (by omega)]
    simpa using this
  · simp only [if_true] at this ⊢
    rw [if_pos (by omega), if_neg (by omega)]
    exact this
theorem HasM.tear {M : Blobs} (hs : Srt M) {k v : Int} {B : List Int} {s : Bool} (h : HasM M k v B s) {x : List Int} (hx : readE x ≠ 0) : HasM (layF M (2 * k + (if s = true then 0 else 1), x)) k v B s := by
  have := HasP.torn h hx
  unfold HasM
  rw [gb_lay hs, gb_lay hs]
  cases s
  · simp only [Bool.false_eq_true, if_false] at this ⊢
    rw [if_neg (by omega)]
    simpa using this
  · simp only [if_true] at this ⊢
    rw [if_pos (by omega), if_neg (by omega)]
    exact this
/-- Some of what is under way has come. -/
theorem chain_crash {k : Int} : ∀ {U : Blobs} {v : Int} {s : Bool} {Bs : List (List Int)}, ChainK k U v s Bs → ∀ {M : Blobs} {B : List Int} (K : Nat), Srt M → HasM M k v B s →
    ∃ i s', i ≤ Bs.length ∧ HasM (crashGo List.length cutB M K U) k (v + i) ((B :: Bs)[i]?.getD []) s'
  | _, _, _, _, .nil v s, M, B, K, hs, h => ⟨0, s, Nat.le_refl _, by simpa [crashGo] using h⟩
  | _, _, _, _, .skip (q := q) (X := X) (U := U) (v := v) (s := s) (Bs := Bs) h1 h2 hc, M, B, K, hs, h => by
    have e : crashGo List.length cutB M K ((q, X) :: U) = if X.length ≤ K then crashGo List.length cutB (layF M (q, X)) (K - X.length) U else layF M (q, X.take K) := rfl
    rw [e]
    by_cases c : X.length ≤ K
    · rw [if_pos c]
      exact chain_crash hc _ (hs.lay _) (h.other hs h1 h2 X)
    · rw [if_neg c]
      exact ⟨0, s, Nat.zero_le _, by simpa using h.other hs h1 h2 (X.take K)⟩
  | _, _, _, _, .put (U := U) (v := v) (s := s) (B := B') (Bs := Bs) hw hc, M, B, K, hs, h => by
    have e : crashGo List.length cutB M K ((2 * k + (if s = true then 0 else 1), recF (v + 1) B') :: U) = if (recF (v + 1) B').length ≤ K then crashGo List.length cutB (layF M (2 * k + (if s = true then 0 else 1), recF (v + 1) B')) (K - (recF (v + 1) B').length) U else layF M (2 * k + (if s = true then 0 else 1), (recF (v + 1) B').take K) := rfl
    rw [e]
    by_cases c : (recF (v + 1) B').length ≤ K
    · rw [if_pos c]
      obtain ⟨i, s', h1, h2⟩ := chain_crash hc (K - (recF (v + 1) B').length) (hs.lay _) (h.put hs hw)
      refine ⟨i + 1, s', by simp only [List.length_cons]; omega, ?_⟩
      rw [show v + ((i + 1 : Nat) : Int) = v + 1 + (i : Int) by omega]
      simpa using h2
    · rw [if_neg c]
      exact ⟨0, s, Nat.zero_le _, by simpa using h.tear hs (torn_rec hw (by omega))⟩
/-- All of it has come. -/
theorem chain_now {k : Int} : ∀ {U : Blobs} {v : Int} {s : Bool} {Bs : List (List Int)}, ChainK k U v s Bs → ∀ {M : Blobs} {B : List Int}, Srt M → HasM M k v B s →
    ∃ s', HasM (nowF M U) k (v + Bs.length) ((B :: Bs)[Bs.length]?.getD []) s' ∧ ∀ {B' : List Int}, wr9 (v + Bs.length + 1) B' = true → ChainK k (U ++ [(2 * k + (if s' = true then 0 else 1), recF (v + Bs.length + 1) B')]) v s (Bs ++ [B'])
  | _, _, _, _, .nil v s, M, B, hs, h => ⟨s, by simpa [nowF] using h, fun {B'} hw => by
      have hw' : wr9 (v + 1) B' = true := by simpa using hw
      have := ChainK.put (k := k) (s := s) hw' (.nil _ _)
      simpa using this⟩
  | _, _, _, _, .skip (q := q) (X := X) (U := U) (v := v) (s := s) (Bs := Bs) h1 h2 hc, M, B, hs, h => by
    obtain ⟨s', g1, g2⟩ := chain_now hc (hs.lay (q, X)) (h.other hs h1 h2 X)
    exact ⟨s', g1, fun hw => ChainK.skip h1 h2 (g2 hw)⟩
  | _, _, _, _, .put (U := U) (v := v) (s := s) (B := B') (Bs := Bs) hw hc, M, B, hs, h => by
    obtain ⟨s', g1, g2⟩ := chain_now hc (hs.lay _) (h.put hs hw)
    have e : v + ((B' :: Bs).length : Int) = v + 1 + (Bs.length : Int) := by simp only [List.length_cons]; omega
    refine ⟨s', ?_, fun {B''} hw2 => ?_⟩
    · rw [e]
      have g3 : HasM (nowF M ((2 * k + (if s = true then 0 else 1), recF (v + 1) B') :: U)) k (v + 1 + Bs.length) ((B' :: Bs)[Bs.length]?.getD []) s' := g1
      have e4 : (B :: B' :: Bs)[(B' :: Bs).length]? = (B' :: Bs)[Bs.length]? := by simp
      rw [e4]
      exact g3
    · rw [e] at hw2 ⊢
      exact ChainK.put hw (g2 hw2)
theorem chain_more {k : Int} {q : Int} {X : List Int} (h1 : q ≠ 2 * k) (h2 : q ≠ 2 * k + 1) : ∀ {U : Blobs} {v : Int} {s : Bool} {Bs : List (List Int)}, ChainK k U v s Bs → ChainK k (U ++ [(q, X)]) v s Bs
  | _, _, _, _, .nil v s => .skip h1 h2 (.nil v s)
  | _, _, _, _, .skip g1 g2 h => .skip g1 g2 (chain_more h1 h2 h)
  | _, _, _, _, .put hw h => .put hw (chain_more h1 h2 h)
end Go.Proofs.Ythjekbbldejlpaa
/- Contracts of layer 9's reference (store): Read. -/
set_option linter.unusedVariables false
set_option linter.unusedSimpArgs false
namespace Go.Proofs.Ythjekbbldejlpaa
open Go.ChangeShapes Go.WideShapes Go.ChangeAt Go.RowKit
theorem r9_cut4 {g off N cap : Nat} (h : 7 ≤ N) (hc : N ≤ cap) (u : World) : (Instr.sliceAt 22 (.slice (some ⟨g, off, none⟩) N cap) none (some (.int .i64 4)) none).run Try.prog u = .ok (.slice (some ⟨g, off, none⟩) 4 cap) u := by
  have hs : Try.prog.cellsOf 5 = 1 := by kernel_rfl
  have h2 : ¬ 0 = cap := by omega
  have h3 : ¬ cap = 0 := by omega
  have h4 : (4 : Int) ≤ cap := by omega
  simp [go_sem, *]
theorem r9_cut7 {g off N cap : Nat} (h : 7 ≤ N) (hc : N ≤ cap) (u : World) : (Instr.sliceAt 22 (.slice (some ⟨g, off, none⟩) N cap) (some (.int .i64 4)) (some (.int .i64 7)) none).run Try.prog u = .ok (.slice (some ⟨g, off + 4, none⟩) 3 (cap - 4)) u := by
  have hs : Try.prog.cellsOf 5 = 1 := by kernel_rfl
  have h2 : ¬ 4 = cap := by omega
  have h3 : ¬ cap = 4 := by omega
  have h4 : (7 : Int) ≤ cap := by omega
  simp [go_sem, *]
theorem r9_from7 {w : World} {g off N cap : Nat} {b : List Int} (h : BytsAt w (.slice (some ⟨g, off, none⟩) N cap) b) (hN : b.length = N) (hc : N ≤ cap) (h7 : 7 ≤ N) :
    ∃ p, (∀ u, (Instr.sliceAt 22 (.slice (some ⟨g, off, none⟩) N cap) (some (.int .i64 7)) none none).run Try.prog u = .ok (.slice p (N - 7) (cap - 7)) u) ∧ BytsAt w (.slice p (N - 7) (cap - 7)) (b.drop 7) := by
  refine ⟨if cap = 7 then some ⟨g, off, none⟩ else some ⟨g, off + 7, none⟩, fun u => ?_, ?_⟩
  · have hs : Try.prog.cellsOf 5 = 1 := by kernel_rfl
    have h4 : (7 : Int) ≤ N := by omega
    by_cases hci : cap = 7
    · subst hci
      simp [go_sem, *]
    · have h2 : ¬ 7 = cap := by omega
      simp [go_sem, *]
  · by_cases hlt : 7 < N
    · rw [if_neg (by omega)]
      exact h.drop hlt _ (by omega)
    · obtain rfl : N = 7 := by omega
      rw [List.drop_of_length_le (by omega)]
      exact BytsAt.nil
set_option maxRecDepth 10000 in
set_option maxHeartbeats 8000000 in
theorem r9_read (v : Value) (l : List Int) (w : World) (hl : BytsAt w v l) (ok : bytOk l) (hL : l.length ≤ 100000) : Calls Try.prog 15 #[v] w fun e w' =>
    ∃ v', e = .returned (.tuple #[.int .i64 (readV l), v', .int .i64 (readE l)]) ∧ BytsAt w' v' (readB l) ∧ Below w.heap.size w w' := by
  obtain ⟨p, cap, rfl⟩ := hl.shape
  have ht := r7_take _ l w hl ok hL
  obtain ⟨N0, hN0⟩ : ∃ N, l.length = N := ⟨_, rfl⟩
  rw [hN0] at ht ⊢
  have HT := Lib.hid ht
  by_cases c : takeE l = 0
  · have hle : (takeF l).length ≤ 100000 := by
      unfold takeF
      split
      · rw [List.length_take]; omega
      · simp
    have oko : bytOk (takeF l) := by
      unfold takeF
      split
      · exact ok.take _
      · simp [bytOk]
    have e0 : readE l = ownE (takeF l) := by unfold readE; rw [if_neg (by simp [c])]
    have C := Lib.hid c
    by_cases c7 : (takeF l).length < 7
    · have e1 : readE l = 3 := by rw [e0]; unfold ownE; rw [if_pos c7]
      have e2 : readV l = 0 := readV_none (by rw [e1]; decide)
      have e3 : readB l = [] := by unfold readB; rw [e1, if_neg (by decide)]
      rw [e1, e2, e3]
      have C7 := Lib.hid c7
      clear hl ht hN0 hL ok oko hle e0 e1 e2 e3 c c7
      go_enter Try.func15, Try.ntmps15
      go_wp2_with fail
      (refine (HT.out).mono ?_; rintro e w1 ⟨v1, rfl, h1, hb⟩)
      obtain ⟨q, cq, rfl⟩ := h1.shape
      have HB := Lib.hid hb
      have hc := C.out
      have h7 : ((takeF l).length : Int) < 7 := by have := C7.out; omega
      rw [hc]
      obtain ⟨M, hM⟩ : ∃ M, (takeF l).length = M := ⟨_, rfl⟩
      rw [hM] at h7 ⊢
      have g1 : decide ((M : Int) < 7) = true := by simpa using h7
      clear h1 hb hc hM
      go_wp2
      exact bodyPost_ret (v := .tuple #[.int .i64 0, .slice none 0 0, .int .i64 3]) (by simp [results, Try.results15, go_sem]) rfl ⟨_, rfl, BytsAt.nil, HB.out⟩
    · have eo : ownE (takeF l) = if num9 ((takeF l).take 4) < 1 ∨ 1073741824 < num9 ((takeF l).take 4) ∨ 65536 < num9 (((takeF l).drop 4).take 3) ∨ num9 (((takeF l).drop 4).take 3) ≠ (takeF l).length - 7 then 2 else 0 := by unfold ownE; rw [if_neg c7]
      rw [eo] at e0
      have eV : readE l = 0 → readV l = num9 ((takeF l).take 4) ∧ readB l = (takeF l).drop 7 := fun h => by unfold readV readB; rw [if_pos h, if_pos h]; exact ⟨rfl, rfl⟩
      have eN : readE l ≠ 0 → readV l = 0 ∧ readB l = [] := fun h => by unfold readV readB; rw [if_neg h, if_neg h]; exact ⟨rfl, rfl⟩
      have b4 := num9_bd oko 4 (by omega)
      have b3 := num9_bd (l := (takeF l).drop 4) (fun x hx => oko x (List.mem_of_mem_drop hx)) 3 (by rw [List.length_drop]; omega)
      have o4 : bytOk ((takeF l).take 4) := oko.take 4
      have o3 : bytOk (((takeF l).drop 4).take 3) := fun x hx => oko x (List.mem_of_mem_drop (List.mem_of_mem_take hx))
      have l4 : ((takeF l).take 4).length = 4 := by rw [List.length_take]; omega
      have l3 : (((takeF l).drop 4).take 3).length = 3 := by rw [List.length_take, List.length_drop]; omega
      have n4 := fun u x (hx : BytsAt u x ((takeF l).take 4)) => r9_num x _ u hx o4 (by omega)
      have n3 := fun u x (hx : BytsAt u x (((takeF l).drop 4).take 3)) => r9_num x _ u hx o3 (by omega)
      obtain ⟨a4, ha4⟩ : ∃ a, num9 ((takeF l).take 4) = a := ⟨_, rfl⟩
      obtain ⟨a3, ha3⟩ : ∃ a, num9 (((takeF l).drop 4).take 3) = a := ⟨_, rfl⟩
      obtain ⟨M, hM⟩ : ∃ M, (takeF l).length = M := ⟨_, rfl⟩
      rw [ha4] at e0 b4 n4
      rw [ha3] at e0 b3 n3
      rw [ha4] at eV
      rw [hM] at e0 c7 hle
      obtain ⟨b40, b41⟩ := b4
      obtain ⟨b30, b31⟩ := b3
      have h7 : decide ((M : Int) < 7) = false := by simp; omega
      have wM : IntKind.i64.wrap ((M : Int) - 7) = (M : Int) - 7 := IntWalk.i64_in _ (by omega)
      have HM := Lib.hid hM
      have N4 := Lib.hid n4
      have N3 := Lib.hid n3
      have E0 := Lib.hid e0
      have EV := Lib.hid eV
      have EN := Lib.hid eN
      clear hl ht hN0 hL ok oko e0 eV eN eo o4 o3 l4 l3 n4 n3 ha4 ha3 hM c b41 b31
      have h77 : 7 ≤ M := by omega
      clear c7
      go_enter Try.func15, Try.ntmps15
      go_wp2_with fail
      (refine (HT.out).mono ?_; rintro e w1 ⟨v1, rfl, h1, hb⟩)
      have HB := Lib.hid hb
      have hc := C.out
      rw [hc]
      obtain ⟨q, cq, rfl, hf⟩ := h1.form
      obtain ⟨g, off, rfl, hcap, hg, _⟩ := hf (by rw [HM.out]; omega)
      rw [HM.out] at h1 hcap ⊢
      have s4 := fun u => r9_cut4 (g := g) (off := off) h77 hcap u
      have s7 := fun u => r9_cut7 (g := g) (off := off) h77 hcap u
      obtain ⟨P7, f7, hb7⟩ := r9_from7 h1 HM.out hcap h77
      have bt4 : BytsAt w1 (.slice (some ⟨g, off, none⟩) 4 cq) ((takeF l).take 4) := h1.take (by omega)
      have bt7 : BytsAt w1 (.slice (some ⟨g, off + 4, none⟩) 3 (cq - 4)) (((takeF l).drop 4).take 3) := (h1.drop (k := 4) (by omega) (cq - 4) (by omega)).take (by omega)
      have BT4 := Lib.hid bt4
      have BT7 := Lib.hid bt7
      have HB7 := Lib.hid hb7
      clear h1 hb hc hf hg bt4 bt7 hb7
      go_wp2_with fail
      refine (N4.out _ _ BT4.out).mono ?_
      rintro e w2 ⟨rfl, rfl⟩
      go_wp2_with fail
      refine (N3.out _ _ BT7.out).mono ?_
      rintro e w2 ⟨rfl, rfl⟩
      by_cases q1 : a4 < 1
      · have g1 : decide (a4 < 1) = true := by simpa using q1
        have hE : readE l = 2 := by rw [E0.out, if_pos (by omega)]
        obtain ⟨hV, hR⟩ := EN.out (by rw [hE]; decide)
        have H := Lib.hid (And.intro hV (And.intro hE hR))
        clear hV hR hE
        go_wp2
        exact bodyPost_ret (v := .tuple #[.int .i64 0, .slice none 0 0, .int .i64 2]) (by simp [results, Try.results15, go_sem]) rfl ⟨_, by rw [H.out.1, H.out.2.1], by rw [H.out.2.2]; exact BytsAt.nil, HB.out⟩
      · have g1 : decide (a4 < 1) = false := by simpa using q1
        by_cases q2 : 1073741824 < a4
        · have g2 : decide (1073741824 < a4) = true := by simpa using q2
          have g2' : decide (a4 > 1073741824) = true := g2
          have hE : readE l = 2 := by rw [E0.out, if_pos (by omega)]
          obtain ⟨hV, hR⟩ := EN.out (by rw [hE]; decide)
          have H := Lib.hid (And.intro hV (And.intro hE hR))
          clear hV hR hE
          go_wp2
          exact bodyPost_ret (v := .tuple #[.int .i64 0, .slice none 0 0, .int .i64 2]) (by simp [results, Try.results15, go_sem]) rfl ⟨_, by rw [H.out.1, H.out.2.1], by rw [H.out.2.2]; exact BytsAt.nil, HB.out⟩
        · have g2 : decide (1073741824 < a4) = false := by simpa using q2
          have g2' : decide (a4 > 1073741824) = false := g2
          by_cases q3 : 65536 < a3
          · have g3 : decide (65536 < a3) = true := by simpa using q3
            have g3' : decide (a3 > 65536) = true := g3
            have hE : readE l = 2 := by rw [E0.out, if_pos (by omega)]
            obtain ⟨hV, hR⟩ := EN.out (by rw [hE]; decide)
            have H := Lib.hid (And.intro hV (And.intro hE hR))
            clear hV hR hE
            go_wp2
            exact bodyPost_ret (v := .tuple #[.int .i64 0, .slice none 0 0, .int .i64 2]) (by simp [results, Try.results15, go_sem]) rfl ⟨_, by rw [H.out.1, H.out.2.1], by rw [H.out.2.2]; exact BytsAt.nil, HB.out⟩
          · have g3 : decide (65536 < a3) = false := by simpa using q3
            have g3' : decide (a3 > 65536) = false := g3
            by_cases q4 : a3 = (M : Int) - 7
            · have g4 : (a3 != (M : Int) - 7) = false := by simpa using q4
              have g4' : (a3 == (M : Int) - 7) = true := by simpa using q4
              have hE : readE l = 0 := by rw [E0.out, if_neg (by omega)]
              obtain ⟨hV, hR⟩ := EV.out hE
              have H := Lib.hid (And.intro hV (And.intro hE hR))
              have Q4 := Lib.hid q4
              clear hV hR hE q4
              go_wp2_with fail
              refine region_below 5 (by kernel_rfl) (by kernel_rfl) ?_
              simp only [List.take_succ_cons, List.take_zero, List.drop_succ_cons, List.drop_zero]
              repeat (first | (refine' InText.skip (by rfl) ?_; simp only [Act.put, List.setIfInBounds_toArray, List.set_cons_zero, List.set_cons_succ]) | (refine' InText.val (by rfl) (fun wr hr => ?_) ?_; rotate_left 1; (focus (obtain ⟨hrc, hrf⟩ := bcell hr; (go_simp <;> with_reducible rfl); done)); simp only [Act.put, List.setIfInBounds_toArray, List.set_cons_zero, List.set_cons_succ]))
              refine fun wrs hrs => ?_
              obtain ⟨hrcs, hrfs⟩ := bcell hrs
              have HB2 := Lib.hid (chain HB.out hrs)
              have HB8 := Lib.hid (HB7.out.keep hrs)
              clear hrs hrcs hrfs
              go_wp2
              exact bodyPost_ret (v := .tuple #[.int .i64 a4, .slice P7 (M - 7) (cq - 7), .int .i64 0]) (by simp [results, Try.results15, go_sem]) rfl ⟨_, by rw [H.out.1, H.out.2.1], by rw [H.out.2.2]; exact HB8.out, HB2.out⟩
            · have g4 : (a3 != (M : Int) - 7) = true := by simpa using q4
              have g4' : (a3 == (M : Int) - 7) = false := by simpa using q4
              have hE : readE l = 2 := by rw [E0.out, if_pos (by omega)]
              obtain ⟨hV, hR⟩ := EN.out (by rw [hE]; decide)
              have H := Lib.hid (And.intro hV (And.intro hE hR))
              clear hV hR hE
              go_wp2
              exact bodyPost_ret (v := .tuple #[.int .i64 0, .slice none 0 0, .int .i64 2]) (by simp [results, Try.results15, go_sem]) rfl ⟨_, by rw [H.out.1, H.out.2.1], by rw [H.out.2.2]; exact BytsAt.nil, HB.out⟩
  · have e1 : readE l = takeE l := by unfold readE; rw [if_pos c]
    have e2 : readV l = 0 := readV_none (by rw [e1]; exact c)
    have e3 : readB l = [] := by unfold readB; rw [e1, if_neg c]
    rw [e1, e2, e3]
    obtain ⟨x, hx⟩ : ∃ x, takeE l = x := ⟨_, rfl⟩
    rw [hx] at ht c ⊢
    have HT := Lib.hid ht
    have gd : (x != 0) = true := by simpa using c
    have gd2 : (x == 0) = false := by simpa using c
    clear hl ht hN0 hL ok e1 e2 e3 hx c
    go_enter Try.func15, Try.ntmps15
    go_wp2_with fail
    (refine (HT.out).mono ?_; rintro e w1 ⟨v1, rfl, h1, hb⟩)
    have HB := Lib.hid hb
    clear h1 hb
    go_wp2
    exact bodyPost_ret (v := .tuple #[.int .i64 0, .slice none 0 0, .int .i64 x]) (by simp [results, Try.results15, go_sem]) rfl ⟨_, rfl, BytsAt.nil, HB.out⟩
end Go.Proofs.Ythjekbbldejlpaa
