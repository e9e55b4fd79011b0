/- Words of layer 8: all blobs as they were put last; how many bytes. No program. -/
import Derived.Test.YtkephcmjigfepaaK80
set_option linter.unusedVariables false
namespace Go.Proofs.Ytkephcmjigfepaa
open Go Go.RowKit
abbrev isSl (v : Value) : Prop := ∃ p n c, v = .slice p n c
abbrev rawOk (l : List Raw) : Prop := ∀ x ∈ l, i64 x.1 ∧ isSl x.2
def slLen : Value → Nat
  | .slice _ n _ => n
  | _ => 0
def lenR : List Raw → Nat
  | [] => 0
  | x :: l => slLen x.2 + lenR l
theorem lenR_append (a b : List Raw) : lenR (a ++ b) = lenR a + lenR b := by
  induction a with
  | nil => simp [lenR]
  | cons x a ih => simp only [List.cons_append, lenR, ih]; omega
theorem lenR_take (l : List Raw) (k : Nat) : lenR (l.take k) ≤ lenR l := by
  conv => rhs; rw [← List.take_append_drop k l, lenR_append]
  omega
def nowF {β : Type} (s l : List (Int × β)) : List (Int × β) := l.foldl layF s
theorem nowF_snoc {β : Type} (s l : List (Int × β)) (x : Int × β) : nowF s (l ++ [x]) = layF (nowF s l) x := by simp [nowF]
theorem layS_mem {β : Type} (w : Int × β) (l : List (Int × β)) : ∀ k, k ≤ l.length → ∀ x ∈ (layS w (l.take k)).1, x ∈ l ∨ x = w
  | 0, _ => by simp [layS]
  | k + 1, h => by
    have ih := layS_mem w l k (by omega)
    rw [take_succ_get l k (by omega), layS_snoc]
    generalize layS w (l.take k) = s at *
    obtain ⟨A, d⟩ := s
    have hm : l[k] ∈ l := List.getElem_mem (by omega)
    intro x hx
    unfold layStep at hx
    by_cases h1 : w.1 ≤ l[k].1 <;> by_cases h2 : l[k].1 = w.1 <;> cases d <;> simp [h1, h2] at hx ih <;>
      first
      | (rcases hx with hx | hx | hx; first | exact ih _ hx | exact ih _ _ hx; exact .inr hx; exact .inl (hx ▸ hm))
      | (rcases hx with hx | hx; first | exact ih _ hx | exact ih _ _ hx; first | exact .inr hx | exact .inl (hx ▸ hm))
      | exact ih _ hx
      | exact ih _ _ hx
theorem layF_mem {β : Type} {w : Int × β} {l : List (Int × β)} {x : Int × β} (h : x ∈ layF l w) : x ∈ l ∨ x = w := by
  have hm := layS_mem w l l.length (Nat.le_refl _) x
  rw [List.take_length] at hm
  unfold layF at h
  split at h
  · exact hm h
  · rcases List.mem_append.1 h with h | h
    · exact hm h
    · exact .inr (by simpa using h)
theorem rawOk.lay {l : List Raw} {w : Raw} (h : rawOk l) (hw : i64 w.1 ∧ isSl w.2) : rawOk (layF l w) := fun x hx => by
  rcases layF_mem hx with hx | rfl
  · exact h x hx
  · exact hw
theorem rawOk.now {s l : List Raw} (hs : rawOk s) (hl : rawOk l) : ∀ k, k ≤ l.length → rawOk (nowF s (l.take k))
  | 0, _ => by simpa [nowF] using hs
  | k + 1, h => by
    rw [take_succ_get l k (by omega), nowF_snoc]
    exact (rawOk.now hs hl k (by omega)).lay (hl _ (List.getElem_mem _))
theorem nowF_len {β : Type} (s l : List (Int × β)) : ∀ k, k ≤ l.length → (nowF s (l.take k)).length ≤ s.length + k
  | 0, _ => by simp [nowF]
  | k + 1, h => by
    rw [take_succ_get l k (by omega), nowF_snoc]
    have := nowF_len s l k (by omega)
    have h2 := layF_len (nowF s (l.take k)) l[k]
    omega
/-- A key's blob. -/
def getF {β : Type} : List (Int × β) → Int → Option β
  | [], _ => none
  | x :: l, k => if x.1 = k then some x.2 else getF l k
theorem getF_at {β : Type} {k : Int} : ∀ {l : List (Int × β)} {j : Nat} (hj : j < l.length) (h : l[j].1 = k) (hn : ∀ i (hi : i < j), l[i].1 ≠ k), getF l k = some l[j].2
  | x :: l, 0, _, h, _ => by simp only [List.getElem_cons_zero] at h; simp [getF, h]
  | x :: l, j + 1, hj, h, hn => by
    have h0 := hn 0 (by omega)
    simp only [List.getElem_cons_zero] at h0
    simp only [List.getElem_cons_succ] at h ⊢
    rw [getF, if_neg h0]
    exact getF_at (by simpa using hj) h fun i hi => by have := hn (i + 1) (by omega); simpa using this
theorem getF_none {β : Type} {k : Int} : ∀ {l : List (Int × β)} (hn : ∀ i (hi : i < l.length), l[i].1 ≠ k), getF l k = none
  | [], _ => rfl
  | x :: l, hn => by
    have h0 := hn 0 (by simp)
    simp only [List.getElem_cons_zero] at h0
    rw [getF, if_neg h0]
    exact getF_none fun i hi => by have := hn (i + 1) (by simpa using hi); simpa using this
/-- The row lies not in that block. -/
def offR (b : Nat) (v : Value) (l : List Raw) : Prop := l = [] ∨ ∀ g off n c, v = .slice (some ⟨g, off, none⟩) n c → g ≠ b
theorem cell_far {w : World} {g o : Nat} {p : Addr} (hg : g ≠ p.block) (x : Value) : (w.setCell p x).cell? ⟨g, o, none⟩ = w.cell? ⟨g, o, none⟩ := by
  have := Below.heap_setCell w p x g hg
  simp only [World.cell?, this]
theorem RawAt.setCell {w : World} {v : Value} {l : List Raw} (h : RawAt w v l) {p : Addr} (ho : offR p.block v l) (x : Value) : RawAt (w.setCell p x) v l := by
  rcases h with h | ⟨g, off, cap, e, hc, hg, ⟨cur, f, ht⟩, hx⟩
  · exact .inl h
  · rcases ho with rfl | ho
    · exact .inl ⟨⟨_, _, e⟩, rfl⟩
    · have hne := ho _ _ _ _ e
      exact .inr ⟨g, off, cap, e, hc, by simpa using hg, ⟨cur, f, (Below.heap_setCell w p x g hne).trans ht⟩, fun j hj => by rw [cell_far hne, cell_far hne]; exact hx j hj⟩
theorem RawAt.off {w : World} {v : Value} {l : List Raw} (h : RawAt w v l) {b : Nat} (hb : w.heap.size ≤ b) : offR b v l := by
  rcases h with ⟨_, h⟩ | ⟨g, off, cap, e, hc, hg, _, hx⟩
  · exact .inl h
  · exact .inr fun g' off' n c e' => by
      rw [e] at e'
      simp only [Value.slice.injEq, Option.some.injEq, Addr.mk.injEq] at e'
      omega
theorem off_of_owned {w : World} {base : Nat} {e : TypeId} {v : Value} {size n : Nat} {xs : List Value} (h : w.ownsRow base e size v n xs) {b : Nat} (hb : b < base) (l : List Raw) : offR b v l := by
  rcases h.2 with ⟨rfl, hn⟩ | ⟨g, cap, cur, rfl, hg, _⟩
  · exact .inr fun g' off' n c e' => by simp at e'
  · exact .inr fun g' off' n c e' => by
      simp only [Value.slice.injEq, Option.some.injEq, Addr.mk.injEq] at e'
      omega
end Go.Proofs.Ytkephcmjigfepaa
