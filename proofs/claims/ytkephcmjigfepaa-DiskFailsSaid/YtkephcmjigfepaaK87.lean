/- The maths of what a crash leaves, round by round; rows of blobs as they rise. No program. -/
import Derived.Test.YtkephcmjigfepaaK84
set_option linter.unusedVariables false
set_option linter.unusedSimpArgs false
namespace Go.Proofs.Ytkephcmjigfepaa
open Go Go.RowKit
abbrev cutB : List Int → Nat → List Int := fun B k => B.take k
theorem crash_full : ∀ (U S : Blobs) (K : Nat), sumB U ≤ K → crashGo List.length cutB S K U = nowF S U
  | [], S, K, _ => rfl
  | (q, B) :: U, S, K, h => by
    rw [sumB] at h
    have e : crashGo List.length cutB S K ((q, B) :: U) = if B.length ≤ K then crashGo List.length cutB (layF S (q, B)) (K - B.length) U else layF S (q, B.take K) := rfl
    rw [e, if_pos (by simp only [] at h; omega), crash_full U _ _ (by simp only [] at h; omega)]
    rfl
theorem crash_cut : ∀ (U S : Blobs) (K j : Nat) (hj : j < U.length), sumB (U.take j) ≤ K → K - sumB (U.take j) < U[j].2.length →
    crashGo List.length cutB S K U = layF (nowF S (U.take j)) (U[j].1, U[j].2.take (K - sumB (U.take j)))
  | (q, B) :: U, S, K, 0, hj, h1, h2 => by
    have e : crashGo List.length cutB S K ((q, B) :: U) = if B.length ≤ K then crashGo List.length cutB (layF S (q, B)) (K - B.length) U else layF S (q, B.take K) := rfl
    simp only [List.take_zero, sumB, List.getElem_cons_zero, Nat.sub_zero] at h2 ⊢
    rw [e, if_neg (by omega)]
    rfl
  | (q, B) :: U, S, K, j + 1, hj, h1, h2 => by
    have e : crashGo List.length cutB S K ((q, B) :: U) = if B.length ≤ K then crashGo List.length cutB (layF S (q, B)) (K - B.length) U else layF S (q, B.take K) := rfl
    simp only [List.take_succ_cons, sumB, List.getElem_cons_succ] at h1 h2 ⊢
    rw [e, if_pos (by omega), crash_cut U _ _ j (by simpa using hj) (by omega) (by rw [show K - B.length - sumB (U.take j) = K - (B.length + sumB (U.take j)) by omega]; exact h2)]
    rw [show K - B.length - sumB (U.take j) = K - (B.length + sumB (U.take j)) by omega]
    rfl
theorem crash_min (U S : Blobs) (K : Nat) : crashGo List.length cutB S (min K (sumB U)) U = crashGo List.length cutB S K U := by
  rcases Nat.le_total (sumB U) K with h | h
  · rw [Nat.min_eq_right h, crash_full U S _ (Nat.le_refl _), crash_full U S K h]
  · rw [Nat.min_eq_left h]
theorem sumB_take (U : Blobs) (j : Nat) : sumB (U.take j) ≤ sumB U := by
  conv => rhs; rw [← List.take_append_drop j U, sumB_append]
  omega
theorem sumB_next (U : Blobs) (j : Nat) (h : j < U.length) : sumB (U.take (j + 1)) = sumB (U.take j) + U[j].2.length := by
  rw [take_succ_get U j h, sumB_append]
  simp [sumB]
theorem nowF_next {β : Type} (S U : List (Int × β)) (j : Nat) (h : j < U.length) : nowF S (U.take (j + 1)) = layF (nowF S (U.take j)) U[j] := by
  rw [take_succ_get U j h, nowF_snoc]
section
variable {R : Value → List Int → Prop}
theorem rel_srt {rs : List Raw} {bs : Blobs} (h : RelG R rs bs) (hs : Srt bs) : Srt rs := by
  induction h with
  | nil => exact List.Pairwise.nil
  | @cons r b rs bs hx hr ih =>
    obtain ⟨h1, h2⟩ := List.pairwise_cons.1 hs
    refine List.pairwise_cons.2 ⟨fun y hy => ?_, ih h2⟩
    have hm : ∀ {rs : List Raw} {bs : Blobs}, RelG R rs bs → ∀ y ∈ rs, ∃ z ∈ bs, z.1 = y.1 := fun {rs bs} h => by
      induction h with
      | nil => intro y hy; cases hy
      | cons hx hr ih =>
        intro y hy
        rcases List.mem_cons.1 hy with rfl | hy
        · exact ⟨_, List.mem_cons_self .., hx.1.symm⟩
        · obtain ⟨z, hz, e⟩ := ih y hy
          exact ⟨z, List.mem_cons_of_mem _ hz, e⟩
    obtain ⟨z, hz, e⟩ := hm hr y hy
    have := h1 z hz
    rw [hx.1, ← e]
    exact this
theorem rel_nth {rs : List Raw} {bs : Blobs} (h : RelG R rs bs) : ∀ (j : Nat) (hj : j < rs.length) (hk : j < bs.length), rs[j].1 = bs[j].1 ∧ R rs[j].2 bs[j].2 := by
  induction h with
  | nil => intro j hj; simp at hj
  | cons hx hr ih =>
    intro j hj hk
    cases j with
    | zero => exact hx
    | succ j => exact ih j (by simpa using hj) (by simpa using hk)
theorem rel_mem {rs : List Raw} {bs : Blobs} (h : RelG R rs bs) : ∀ y ∈ rs, ∃ z ∈ bs, y.1 = z.1 ∧ R y.2 z.2 := by
  induction h with
  | nil => intro y hy; cases hy
  | cons hx hr ih =>
    intro y hy
    rcases List.mem_cons.1 hy with rfl | hy
    · exact ⟨_, List.mem_cons_self .., hx⟩
    · obtain ⟨z, hz, e⟩ := ih y hy
      exact ⟨z, List.mem_cons_of_mem _ hz, e⟩
end
theorem srt_keys {β γ : Type} : ∀ {l : List (Int × β)} {m : List (Int × γ)}, l.map (·.1) = m.map (·.1) → Srt m → Srt l
  | [], [], _, _ => List.Pairwise.nil
  | [], _ :: _, h, _ => by simp at h
  | _ :: _, [], h, _ => by simp at h
  | a :: l, b :: m, h, hs => by
    simp only [List.map_cons, List.cons.injEq] at h
    obtain ⟨h1, h2⟩ := List.pairwise_cons.1 hs
    refine List.pairwise_cons.2 ⟨fun y hy => ?_, srt_keys h.2 h2⟩
    have hm : y.1 ∈ m.map (·.1) := by rw [← h.2]; exact List.mem_map.2 ⟨y, hy, rfl⟩
    obtain ⟨z, hz, e⟩ := List.mem_map.1 hm
    have := h1 z hz
    rw [h.1, ← e]
    exact this
/-- Blobs that are all among others are no more bytes. -/
theorem lenR_sub : ∀ (S L : List Raw), Srt S → Srt L → (∀ x ∈ L, x ∈ S) → lenR L ≤ lenR S
  | [], [], _, _, _ => Nat.le_refl _
  | [], x :: L, _, _, h => by have := h x (List.mem_cons_self ..); cases this
  | s :: S, [], _, _, _ => by simp [lenR]
  | s :: S, x :: L, hs, hl, h => by
    obtain ⟨s1, s2⟩ := List.pairwise_cons.1 hs
    obtain ⟨l1, l2⟩ := List.pairwise_cons.1 hl
    rcases List.mem_cons.1 (h x (List.mem_cons_self ..)) with rfl | hx
    · have := lenR_sub S L s2 l2 fun y hy => by
        rcases List.mem_cons.1 (h y (List.mem_cons_of_mem _ hy)) with rfl | hy2
        · have := l1 y hy; omega
        · exact hy2
      rw [lenR, lenR]; omega
    · have := lenR_sub S (x :: L) s2 hl fun y hy => by
        rcases List.mem_cons.1 (h y hy) with rfl | hy2
        · have h1 := s1 x hx
          rcases List.mem_cons.1 hy with rfl | hy3
          · omega
          · have := l1 y hy3; omega
        · exact hy2
      refine Nat.le_trans this ?_
      show lenR S ≤ slLen s.2 + lenR S
      omega
theorem lenR_ins {k : Int} {v : Value} : ∀ {l : List Raw}, getF l k = none → lenR (insF l (k, v)) = lenR l + slLen v
  | [], _ => by simp [insF, lenR]
  | x :: l, h => by
    rw [getF] at h
    by_cases c : x.1 = k
    · rw [if_pos c] at h; cases h
    · rw [if_neg c] at h
      rw [insF]
      by_cases c2 : k ≤ x.1
      · rw [if_pos c2, if_neg c]; simp only [lenR]; omega
      · rw [if_neg c2]; simp only [lenR]; rw [lenR_ins h]; omega
theorem getF_in {β : Type} {k : Int} {v : β} : ∀ {l : List (Int × β)}, getF l k = some v → (k, v) ∈ l
  | [], h => by cases h
  | x :: l, h => by
    rw [getF] at h
    by_cases c : x.1 = k
    · rw [if_pos c] at h
      cases h
      subst c
      exact List.mem_cons_self ..
    · rw [if_neg c] at h
      exact List.mem_cons_of_mem _ (getF_in h)
theorem mem_getF {β : Type} {k : Int} {v : β} {l : List (Int × β)} (hs : Srt l) (h : (k, v) ∈ l) : getF l k = some v := by
  obtain ⟨j, hj, e⟩ := List.getElem_of_mem h
  have := hs.get hj
  rw [e] at this
  exact this
end Go.Proofs.Ytkephcmjigfepaa
