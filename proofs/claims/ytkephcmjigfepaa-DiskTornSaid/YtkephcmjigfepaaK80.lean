/- Words of layer 8: rows of blobs by their keys (raw: what the blob's slice is), one laid among them. Of the program: the type of such rows' elements alone. -/
import Derived.Test.YtkephcmjigfepaaK6B
set_option linter.unusedVariables false
namespace Go.Proofs.Ytkephcmjigfepaa
open Go Go.RowKit
abbrev Raw := Int × Value
abbrev rawVs (l : List Raw) : List Value := l.flatMap (fun r => [.int .i64 r.1, r.2])
/-- The slice reads as those keys and slices. -/
def RawAt (w : World) (v : Value) (l : List Raw) : Prop :=
  ((∃ p cap, v = .slice p 0 cap) ∧ l = []) ∨ ∃ g off cap, v = .slice (some ⟨g, off, none⟩) l.length cap ∧ l.length ≤ cap ∧ g < w.heap.size ∧ (∃ cur f, w.heap[g]? = some (Obj.cells cur 70 f)) ∧
    ∀ j (h : j < l.length), w.cell? ⟨g, off + j * 2, none⟩ = some (.int .i64 l[j].1) ∧ w.cell? ⟨g, off + j * 2 + 1, none⟩ = some l[j].2
theorem RawAt.keep {w w' : World} {v : Value} {l : List Raw} (h : RawAt w v l) (hb : Below w.heap.size w w') : RawAt w' v l := by
  rcases h with h | ⟨g, off, cap, e, hc, hg, ⟨cur, f, ht⟩, hx⟩
  · exact .inl h
  · exact .inr ⟨g, off, cap, e, hc, Nat.lt_of_lt_of_le hg hb.size, ⟨cur, f, (hb.block g hg).trans ht⟩, fun j hj => ⟨keepc hb hg (hx j hj).1, keepc hb hg (hx j hj).2⟩⟩
/-- Whatever keeps the rows of that type keeps these. -/
theorem RawAt.typed {w w' : World} {v : Value} {l : List Raw} (h : RawAt w v l) (hk : ∀ (b : Nat) (c : Array Value) (f : Nat × Nat), w.heap[b]? = some (Obj.cells c 70 f) → w'.heap[b]? = some (Obj.cells c 70 f)) : RawAt w' v l := by
  rcases h with h | ⟨g, off, cap, e, hc, hg, ⟨cur, f, ht⟩, hx⟩
  · exact .inl h
  · have h2 := hk g cur f ht
    have hs : ∀ o, w'.cell? ⟨g, o, none⟩ = w.cell? ⟨g, o, none⟩ := fun o => World.cell?_of_block (a := ⟨g, o, none⟩) (h2.trans ht.symm)
    exact .inr ⟨g, off, cap, e, hc, (Array.getElem?_eq_some_iff.1 h2).1, ⟨cur, f, h2⟩, fun j hj => ⟨(hs _).trans (hx j hj).1, (hs _).trans (hx j hj).2⟩⟩
theorem rawVs_length (l : List Raw) : (rawVs l).length = l.length * 2 := by
  induction l with
  | nil => rfl
  | cons a l ih => rw [show rawVs (a :: l) = .int .i64 a.1 :: a.2 :: rawVs l by simp [rawVs], List.length_cons, List.length_cons, ih, List.length_cons]; omega
theorem rawVs_at : ∀ (l : List Raw) (j : Nat) (h : j < l.length), (rawVs l)[j * 2]? = some (.int .i64 l[j].1) ∧ (rawVs l)[j * 2 + 1]? = some l[j].2
  | a :: l, 0, _ => by simp [rawVs]
  | a :: l, j + 1, h => by
    have := rawVs_at l j (by simpa using h)
    simp only [rawVs, List.flatMap_cons] at *
    rw [show (j + 1) * 2 = j * 2 + 2 by omega, show j * 2 + 2 + 1 = (j * 2 + 1) + 2 by omega]
    simpa using this
theorem rawVs_snoc (l : List Raw) (k : Int) (v : Value) : rawVs (l ++ [(k, v)]) = rawVs l ++ [.int .i64 k, v] := by simp [rawVs]
theorem raws_of_owned {w : World} {base : Nat} {v : Value} {l : List Raw} (h : w.ownsRow base 70 2 v l.length (rawVs l)) : RawAt w v l := by
  rcases h.2 with ⟨rfl, hn⟩ | ⟨g, cap, cur, rfl, hb, hg, hc, hm, hs, ht⟩
  · exact .inl ⟨⟨_, _, rfl⟩, List.length_eq_zero_iff.1 hn⟩
  · refine .inr ⟨g, 0, cap, rfl, hc, (Array.getElem?_eq_some_iff.1 hg).1, ⟨cur, _, hg⟩, fun j hj => ?_⟩
    obtain ⟨h1, h2⟩ := rawVs_at l j hj
    rw [Nat.zero_add, cell_of_row w g _ cur _ (0, 0) hg, cell_of_row w g _ cur _ (0, 0) hg]
    rw [← ht, List.getElem?_take] at h1 h2
    constructor
    · split at h1
      · simpa using h1
      · cases h1
    · split at h2
      · simpa using h2
      · cases h2
theorem RawAt.form {w : World} {v : Value} {l : List Raw} (h : RawAt w v l) : ∃ p cap, v = .slice p l.length cap ∧ (0 < l.length → ∃ g off, p = some ⟨g, off, none⟩ ∧ l.length ≤ cap ∧ g < w.heap.size ∧
    ∀ j (h : j < l.length), w.cell? ⟨g, off + j * 2, none⟩ = some (.int .i64 l[j].1) ∧ w.cell? ⟨g, off + j * 2 + 1, none⟩ = some l[j].2) := by
  rcases h with ⟨⟨p, cap, rfl⟩, rfl⟩ | ⟨g, off, cap, e, hc, hg, _, hx⟩
  · exact ⟨p, cap, rfl, fun h => absurd h (by simp)⟩
  · exact ⟨some ⟨g, off, none⟩, cap, e, fun _ => ⟨g, off, rfl, hc, hg, hx⟩⟩
section
variable {P : Program} {ops : Array Oper} {rest : List Oper} {o : Oper} {a : Act} {Q : Exit → Act → World → Prop}
/-- One blob more at the end of a row that is owned. -/
theorem app_raw (w : World) (hgd : o.guard = none) (s x : Operand) (t : TypeId) (ho : o.op = .call { callee := .builtin .append, args := #[s, x], argTypes := #[t, t] }) (base : Nat) (e : TypeId) (i : TypeInfo) (z : Value)
    (ht : P.underlying t = some (.slice e)) (hi : P.info? e = some i) (hz : i.zero = some z) (hsize : i.size = 2) (hby : i.bytes = 32) (hzs : z.cells.size = 2)
    (v : Value) (n : Nat) (xs : List Value) (hs : a.eval s = v) (hown : w.ownsRow base e 2 v n xs) (g : Nat) (c d : Value) (hx : a.eval x = .slice (some ⟨g, 0, none⟩) 1 1) (hc : w.cell? ⟨g, 0, none⟩ = some c) (hd : w.cell? ⟨g, 1, none⟩ = some d)
    (h1 : c.oneCell' = true) (h2 : d.oneCell' = true) (hN : n ≤ 1000000) (hbase : base ≤ w.heap.size)
    (h : ∀ v' w', w'.ownsRow base e 2 v' (n + 1) (xs ++ [c, d]) → w.grownBy w' v.ownBlock → wpList P ops Q rest (a.put o.dst v') w') : wpList P ops Q (o :: rest) a w :=
  wpList_append_own w hgd s x t ho base e i z 2 32 ht hi hz hsize hby hzs (by omega) v n xs hs hown ⟨g, 0, none⟩ 1 1 [c, d] hx rfl (fun j u hu => by
    match j, hu with
    | 0, hu => simp at hu; subst hu; simpa [Addr.add] using hc
    | 1, hu => simp at hu; subst hu; simpa [Addr.add] using hd
    | j + 2, hu => simp at hu) (fun u hu => by
      simp at hu
      rcases hu with rfl | rfl
      · exact h1
      · exact h2) (by simp only [maxLen]; omega) (by omega) hbase (fun v' w' h2 h3 _ => h v' w' h2 h3)
end
/-- Blobs, of which one is as it was put: any kind of blob. -/
def layStep {β : Type} (w : Int × β) (s : List (Int × β) × Bool) (x : Int × β) : List (Int × β) × Bool :=
  let s1 := if s.2 = false ∧ w.1 ≤ x.1 then (s.1 ++ [w], true) else s
  if x.1 = w.1 then s1 else (s1.1 ++ [x], s1.2)
def layS {β : Type} (w : Int × β) (l : List (Int × β)) : List (Int × β) × Bool := l.foldl (layStep w) ([], false)
def layF {β : Type} (l : List (Int × β)) (w : Int × β) : List (Int × β) := if (layS w l).2 = true then (layS w l).1 else (layS w l).1 ++ [w]
theorem layS_snoc {β : Type} (w x : Int × β) (l : List (Int × β)) : layS w (l ++ [x]) = layStep w (layS w l) x := by unfold layS; rw [List.foldl_append]; rfl
theorem layS_len {β : Type} (w : Int × β) (l : List (Int × β)) : ∀ k, k ≤ l.length → (layS w (l.take k)).1.length ≤ k + (if (layS w (l.take k)).2 = true then 1 else 0)
  | 0, _ => by simp [layS]
  | k + 1, h => by
    have ih := layS_len w l k (by omega)
    rw [take_succ_get l k (by omega), layS_snoc]
    generalize layS w (l.take k) = s at *
    obtain ⟨A, d⟩ := s
    unfold layStep
    by_cases h1 : w.1 ≤ l[k].1 <;> by_cases h2 : l[k].1 = w.1 <;> cases d <;> simp [h1, h2] at ih ⊢ <;> omega
theorem layF_len {β : Type} (l : List (Int × β)) (w : Int × β) : (layF l w).length ≤ l.length + 1 := by
  have := layS_len w l l.length (Nat.le_refl _)
  rw [List.take_length] at this
  unfold layF
  split
  · rename_i h; rw [if_pos h] at this; exact this
  · rename_i h; rw [if_neg h] at this; simp; omega
end Go.Proofs.Ytkephcmjigfepaa
