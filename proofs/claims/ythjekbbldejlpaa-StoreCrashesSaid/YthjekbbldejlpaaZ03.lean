/- Texts behind each other. -/
import Derived.Test.YthjekbbldejlpaaZ02
import Derived.Laws.AppendOwn
import Derived.Laws.BytesArg
/- Words of layer 5: rows of whole numbers, and of runs, as they are read and as they are owned. No program. -/
set_option linter.unusedVariables false
namespace Go.Proofs.Ythjekbbldejlpaa
open Go Go.RowKit
/-- The slice reads as those numbers. -/
def IntsAt (w : World) (v : Value) (l : List Int) : Prop :=
  ((∃ p cap, v = .slice p 0 cap) ∧ l = []) ∨ ∃ g off cap, v = .slice (some ⟨g, off, none⟩) l.length cap ∧ l.length ≤ cap ∧ g < w.heap.size ∧ ∀ j (h : j < l.length), w.cell? ⟨g, off + j, none⟩ = some (.int .i64 l[j])
abbrev Run := Int × Int
/-- The slice reads as those runs. -/
def RunsAt (w : World) (v : Value) (l : List Run) : Prop :=
  ((∃ p cap, v = .slice p 0 cap) ∧ l = []) ∨ ∃ g off cap, v = .slice (some ⟨g, off, none⟩) l.length cap ∧ l.length ≤ cap ∧ g < w.heap.size ∧
    ∀ j (h : j < l.length), w.cell? ⟨g, off + j * 2, none⟩ = some (.int .i64 l[j].1) ∧ w.cell? ⟨g, off + j * 2 + 1, none⟩ = some (.int .i64 l[j].2)
theorem IntsAt.keep {w w' : World} {v : Value} {l : List Int} (h : IntsAt w v l) (hb : Below w.heap.size w w') : IntsAt w' v l := by
  rcases h with h | ⟨g, off, cap, e, hc, hg, hx⟩
  · exact .inl h
  · exact .inr ⟨g, off, cap, e, hc, Nat.lt_of_lt_of_le hg hb.size, fun j hj => keepc hb hg (hx j hj)⟩
theorem RunsAt.keep {w w' : World} {v : Value} {l : List Run} (h : RunsAt w v l) (hb : Below w.heap.size w w') : RunsAt w' v l := by
  rcases h with h | ⟨g, off, cap, e, hc, hg, hx⟩
  · exact .inl h
  · exact .inr ⟨g, off, cap, e, hc, Nat.lt_of_lt_of_le hg hb.size, fun j hj => ⟨keepc hb hg (hx j hj).1, keepc hb hg (hx j hj).2⟩⟩
abbrev intVs (l : List Int) : List Value := l.map (fun n => .int .i64 n)
abbrev runVs (l : List Run) : List Value := l.flatMap (fun r => [.int .i64 r.1, .int .i64 r.2])
theorem runVs_length (l : List Run) : (runVs l).length = l.length * 2 := by
  induction l with
  | nil => rfl
  | cons a l ih => rw [show runVs (a :: l) = .int .i64 a.1 :: .int .i64 a.2 :: runVs l by simp [runVs], List.length_cons, List.length_cons, ih, List.length_cons]; omega
theorem runVs_at : ∀ (l : List Run) (j : Nat) (h : j < l.length), (runVs l)[j * 2]? = some (.int .i64 l[j].1) ∧ (runVs l)[j * 2 + 1]? = some (.int .i64 l[j].2)
  | a :: l, 0, _ => by simp [runVs]
  | a :: l, j + 1, h => by
    have := runVs_at l j (by simpa using h)
    simp only [runVs, List.flatMap_cons] at *
    rw [show (j + 1) * 2 = j * 2 + 2 by omega, show j * 2 + 2 + 1 = (j * 2 + 1) + 2 by omega]
    simpa using this
theorem ints_of_owned {w : World} {base : Nat} {e : TypeId} {v : Value} {l : List Int} (h : w.ownsRow base e 1 v l.length (intVs l)) : IntsAt w v l := by
  rcases h.2 with ⟨rfl, hn⟩ | ⟨g, cap, cur, rfl, hb, hg, hc, hm, hs, ht⟩
  · exact .inl ⟨⟨_, _, rfl⟩, List.length_eq_zero_iff.1 hn⟩
  · refine .inr ⟨g, 0, cap, rfl, hc, (Array.getElem?_eq_some_iff.1 hg).1, fun j hj => ?_⟩
    rw [Nat.zero_add, cell_of_row w g j cur e (0, 0) hg]
    have h1 : (intVs l)[j]? = some (.int .i64 l[j]) := by simp [intVs, hj]
    rw [← ht, List.getElem?_take] at h1
    split at h1
    · simpa using h1
    · cases h1
theorem runs_of_owned {w : World} {base : Nat} {e : TypeId} {v : Value} {l : List Run} (h : w.ownsRow base e 2 v l.length (runVs l)) : RunsAt w v l := by
  rcases h.2 with ⟨rfl, hn⟩ | ⟨g, cap, cur, rfl, hb, hg, hc, hm, hs, ht⟩
  · exact .inl ⟨⟨_, _, rfl⟩, List.length_eq_zero_iff.1 hn⟩
  · refine .inr ⟨g, 0, cap, rfl, hc, (Array.getElem?_eq_some_iff.1 hg).1, fun j hj => ?_⟩
    obtain ⟨h1, h2⟩ := runVs_at l j hj
    rw [Nat.zero_add, cell_of_row w g _ cur e (0, 0) hg, cell_of_row w g _ cur e (0, 0) hg]
    rw [← ht, List.getElem?_take] at h1 h2
    constructor
    · split at h1
      · simpa using h1
      · cases h1
    · split at h2
      · simpa using h2
      · cases h2
/-- What an append of the call's own row leaves of the world ahead of the call. -/
theorem Below.own {w u u' : World} {v : Value} {e : TypeId} {size n : Nat} {xs : List Value} (h : Below w.heap.size w u) (ho : u.ownsRow w.heap.size e size v n xs) (hg : u.grownBy u' v.ownBlock) : Below w.heap.size w u' :=
  h.trans ⟨hg.os, hg.tape, hg.output, hg.size, fun k hk => hg.block k (Nat.lt_of_lt_of_le hk h.size) (fun e' => by have := (ho.lt k e'.symm).1; omega)⟩
/-- A row that is owned stays so in later worlds. -/
theorem own_keep {w u u' : World} {v : Value} {e : TypeId} {size n : Nat} {xs : List Value} (ho : u.ownsRow w.heap.size e size v n xs) (hb : Below u.heap.size u u') : u'.ownsRow w.heap.size e size v n xs :=
  ho.kept (row := none) ⟨hb.os, hb.tape, hb.output, hb.size, fun k hk _ => hb.block k hk⟩ (by cases v.ownBlock <;> simp)
section
variable {P : Program} {ops : Array Oper} {rest : List Oper} {o : Oper} {a : Act} {Q : Exit → Act → World → Prop}
/-- One number more at the end of a row that is owned. -/
theorem app_int (w : World) (hgd : o.guard = none) (s x : Operand) (t : TypeId) (ho : o.op = .call { callee := .builtin .append, args := #[s, x], argTypes := #[t, t] }) (base : Nat) (e : TypeId) (i : TypeInfo) (z : Value)
    (ht : P.underlying t = some (.slice e)) (hi : P.info? e = some i) (hz : i.zero = some z) (hsize : i.size = 1) (hby : i.bytes = 8) (hzs : z.cells.size = 1)
    (v : Value) (n : Nat) (xs : List Value) (hs : a.eval s = v) (hown : w.ownsRow base e 1 v n xs) (g : Nat) (c : Value) (hx : a.eval x = .slice (some ⟨g, 0, none⟩) 1 1) (hc : w.cell? ⟨g, 0, none⟩ = some c) (h1 : c.oneCell' = true)
    (hN : n ≤ 1000000) (hbase : base ≤ w.heap.size)
    (h : ∀ v' w', w'.ownsRow base e 1 v' (n + 1) (xs ++ [c]) → w.grownBy w' v.ownBlock → wpList P ops Q rest (a.put o.dst v') w') : wpList P ops Q (o :: rest) a w :=
  wpList_append_own w hgd s x t ho base e i z 1 8 ht hi hz hsize hby hzs (by omega) v n xs hs hown ⟨g, 0, none⟩ 1 1 [c] hx rfl (fun j u hu => by
    match j, hu with
    | 0, hu => simp at hu; subst hu; simpa [Addr.add] using hc
    | j + 1, hu => simp at hu) (fun u hu => by simp at hu; subst hu; exact h1) (by simp only [maxLen]; omega) (by omega) hbase (fun v' w' h2 h3 _ => h v' w' h2 h3)
/-- The same of a run. -/
theorem app_run (w : World) (hgd : o.guard = none) (s x : Operand) (t : TypeId) (ho : o.op = .call { callee := .builtin .append, args := #[s, x], argTypes := #[t, t] }) (base : Nat) (e : TypeId) (i : TypeInfo) (z : Value)
    (ht : P.underlying t = some (.slice e)) (hi : P.info? e = some i) (hz : i.zero = some z) (hsize : i.size = 2) (hby : i.bytes = 16) (hzs : z.cells.size = 2)
    (v : Value) (n : Nat) (xs : List Value) (hs : a.eval s = v) (hown : w.ownsRow base e 2 v n xs) (g : Nat) (c d : Value) (hx : a.eval x = .slice (some ⟨g, 0, none⟩) 1 1) (hc : w.cell? ⟨g, 0, none⟩ = some c) (hd : w.cell? ⟨g, 1, none⟩ = some d)
    (h1 : c.oneCell' = true) (h2 : d.oneCell' = true) (hN : n ≤ 1000000) (hbase : base ≤ w.heap.size)
    (h : ∀ v' w', w'.ownsRow base e 2 v' (n + 1) (xs ++ [c, d]) → w.grownBy w' v.ownBlock → wpList P ops Q rest (a.put o.dst v') w') : wpList P ops Q (o :: rest) a w :=
  wpList_append_own w hgd s x t ho base e i z 2 16 ht hi hz hsize hby hzs (by omega) v n xs hs hown ⟨g, 0, none⟩ 1 1 [c, d] hx rfl (fun j u hu => by
    match j, hu with
    | 0, hu => simp at hu; subst hu; simpa [Addr.add] using hc
    | 1, hu => simp at hu; subst hu; simpa [Addr.add] using hd
    | j + 2, hu => simp at hu) (fun u hu => by
      simp at hu
      rcases hu with rfl | rfl
      · exact h1
      · exact h2) (by simp only [maxLen]; omega) (by omega) hbase (fun v' w' h2 h3 _ => h v' w' h2 h3)
end
def cellsF (l : List Run) : List Int := l.flatMap (fun r => List.replicate r.1.toNat r.2)
theorem take_succ_get {α : Type} (l : List α) (k : Nat) (h : k < l.length) : l.take (k + 1) = l.take k ++ [l[k]] := by
  rw [List.take_succ_eq_append_getElem h]
theorem cellsF_append (a b : List Run) : cellsF (a ++ b) = cellsF a ++ cellsF b := by simp [cellsF]
theorem cellsF_take_succ (l : List Run) (k : Nat) (h : k < l.length) : cellsF (l.take (k + 1)) = cellsF (l.take k) ++ List.replicate l[k].1.toNat l[k].2 := by
  rw [take_succ_get l k h, cellsF_append]; simp [cellsF]
theorem cellsF_take_le (l : List Run) (k : Nat) : (cellsF (l.take k)).length ≤ (cellsF l).length := by
  conv => rhs; rw [← List.take_append_drop k l, cellsF_append]
  simp
/-- A cell of a row that is owned, written. -/
theorem own_set {w : World} {base : Nat} {e : TypeId} {size : Nat} {g cap n : Nat} {xs : List Value} (h : w.ownsRow base e size (.slice (some ⟨g, 0, none⟩) n cap) n xs) (j : Nat) (hj : j < n * size) (u : Value) :
    (w.setCell ⟨g, j, none⟩ u).ownsRow base e size (.slice (some ⟨g, 0, none⟩) n cap) n (xs.set j u) := by
  refine ⟨by rw [List.length_set]; exact h.1, ?_⟩
  rcases h.2 with ⟨h1, _⟩ | ⟨g', cap', cur, hv, hb, hg, hc, hm, hs, ht⟩
  · cases h1
  · simp only [Value.slice.injEq, Option.some.injEq, Addr.mk.injEq] at hv
    obtain ⟨⟨rfl, _⟩, _, rfl⟩ := hv
    refine .inr ⟨g, cap, cur.setIfInBounds j u, rfl, hb, ?_, hc, hm, by simp [hs], ?_⟩
    · have hlt : g < w.heap.size := (Array.getElem?_eq_some_iff.1 hg).1
      have hv : w.heap[g] = .cells cur e (0, 0) := (Array.getElem?_eq_some_iff.1 hg).2
      simp only [World.setCell]
      rw [Array.getElem?_eq_getElem (by simpa using hlt), Array.getElem_modify]
      simp [hv]
    · rw [Array.toList_setIfInBounds, List.take_set, ht]
theorem Below.own_set {w u : World} {e : TypeId} {size n g cap : Nat} {xs : List Value} (h : Below w.heap.size w u) (ho : u.ownsRow w.heap.size e size (.slice (some ⟨g, 0, none⟩) n cap) n xs) (j : Nat) (x : Value) : Below w.heap.size w (u.setCell ⟨g, j, none⟩ x) :=
  h.setCell (p := ⟨g, j, none⟩) (ho.lt g rfl).1 x
/-- The runs of cells. -/
def stepF (out : List Run) (c : Int) : List Run :=
  match out.getLast? with
  | some r => if r.2 = c then out.dropLast ++ [(r.1 + 1, c)] else out ++ [(1, c)]
  | none => [(1, c)]
def ofF (l : List Int) : List Run := l.foldl stepF []
theorem ofF_snoc (l : List Int) (c : Int) : ofF (l ++ [c]) = stepF (ofF l) c := by simp [ofF]
theorem stepF_nil (c : Int) : stepF [] c = [(1, c)] := rfl
theorem stepF_same (D : List Run) (r : Int) (c : Int) : stepF (D ++ [(r, c)]) c = D ++ [(r + 1, c)] := by simp [stepF]
theorem stepF_other (D : List Run) (r : Int) (b c : Int) (h : b ≠ c) : stepF (D ++ [(r, b)]) c = D ++ [(r, b)] ++ [(1, c)] := by simp [stepF, h]
theorem ofF_form (l : List Int) : ∀ k, k < l.length → ∃ (D : List Run) (r : Int), ofF (l.take (k + 1)) = D ++ [(r, l[k]!)] ∧ 1 ≤ r ∧ r ≤ k + 1 ∧ D.length ≤ k
  | 0, h => by
    rw [take_succ_get l 0 h, ofF_snoc]
    exact ⟨[], 1, by simp [ofF, stepF, h], by omega, by omega, by simp⟩
  | k + 1, h => by
    obtain ⟨D, r, e, h1, h2, h3⟩ := ofF_form l k (by omega)
    rw [take_succ_get l (k + 1) h, ofF_snoc, e]
    by_cases hq : l[k]! = l[k + 1]
    · rw [hq, stepF_same]
      exact ⟨D, r + 1, by simp [h], by omega, by omega, by omega⟩
    · rw [stepF_other _ _ _ _ hq]
      exact ⟨D ++ [(r, l[k]!)], 1, by simp [h], by omega, by omega, by simp; omega⟩
theorem ofF_length (l : List Int) (k : Nat) (h : k ≤ l.length) : (ofF (l.take k)).length ≤ k := by
  match k, h with
  | 0, _ => simp [ofF]
  | k + 1, h =>
    obtain ⟨D, r, e, _, _, h3⟩ := ofF_form l k (by omega)
    rw [e]; simp; omega
theorem runVs_append (a b : List Run) : runVs (a ++ b) = runVs a ++ runVs b := by simp [runVs]
theorem runVs_set (D : List Run) (r c n : Int) : (runVs (D ++ [(r, c)])).set (D.length * 2) (.int .i64 n) = runVs (D ++ [(n, c)]) := by
  rw [runVs_append, runVs_append, ← runVs_length D, List.set_append_right _ _ (Nat.le_refl _)]
  simp [runVs]
theorem own_cell {w : World} {base : Nat} {e : TypeId} {size : Nat} {g cap n : Nat} {xs : List Value} (h : w.ownsRow base e size (.slice (some ⟨g, 0, none⟩) n cap) n xs) (j : Nat) {u : Value} (hu : xs[j]? = some u) : w.cell? ⟨g, j, none⟩ = some u := by
  have hadd : (⟨g, 0, none⟩ : Addr).add j = ⟨g, j, none⟩ := by unfold Addr.add; split <;> simp_all
  have := h.cells rfl j u hu
  rwa [hadd] at this
/-- Whatever it reads as: a slice of that length, and where it isn't empty it lies somewhere. -/
theorem IntsAt.form {w : World} {v : Value} {l : List Int} (h : IntsAt w v l) : ∃ p cap, v = .slice p l.length cap ∧ (0 < l.length → ∃ g off, p = some ⟨g, off, none⟩ ∧ l.length ≤ cap ∧ g < w.heap.size ∧ ∀ j (h : j < l.length), w.cell? ⟨g, off + j, none⟩ = some (.int .i64 l[j])) := by
  rcases h with ⟨⟨p, cap, rfl⟩, rfl⟩ | ⟨g, off, cap, e, hc, hg, hx⟩
  · exact ⟨p, cap, rfl, fun h => absurd h (by simp)⟩
  · exact ⟨some ⟨g, off, none⟩, cap, e, fun _ => ⟨g, off, rfl, hc, hg, hx⟩⟩
theorem RunsAt.form {w : World} {v : Value} {l : List Run} (h : RunsAt w v l) : ∃ p cap, v = .slice p l.length cap ∧ (0 < l.length → ∃ g off, p = some ⟨g, off, none⟩ ∧ l.length ≤ cap ∧ g < w.heap.size ∧
    ∀ j (h : j < l.length), w.cell? ⟨g, off + j * 2, none⟩ = some (.int .i64 l[j].1) ∧ w.cell? ⟨g, off + j * 2 + 1, none⟩ = some (.int .i64 l[j].2)) := by
  rcases h with ⟨⟨p, cap, rfl⟩, rfl⟩ | ⟨g, off, cap, e, hc, hg, hx⟩
  · exact ⟨p, cap, rfl, fun h => absurd h (by simp)⟩
  · exact ⟨some ⟨g, off, none⟩, cap, e, fun _ => ⟨g, off, rfl, hc, hg, hx⟩⟩
theorem list_same {α : Type} [DecidableEq α] {a b : List α} (h : a.length = b.length) (hs : ∀ j (h1 : j < a.length) (h2 : j < b.length), a[j] = b[j]) : decide (a = b) = true := by
  simp only [decide_eq_true_eq]
  exact List.ext_getElem h hs
theorem list_other {α : Type} [DecidableEq α] {a b : List α} (j : Nat) (h1 : j < a.length) (h2 : j < b.length) (hne : a[j] ≠ b[j]) : decide (a = b) = false := by
  simp only [decide_eq_false_iff_not]
  intro e
  subst e
  exact hne rfl
theorem own_base {w : World} {base base' : Nat} {e : TypeId} {size n : Nat} {v : Value} {xs : List Value} (h : w.ownsRow base e size v n xs) (hb : base' ≤ base) : w.ownsRow base' e size v n xs := by
  refine ⟨h.1, ?_⟩
  rcases h.2 with h1 | ⟨g, cap, cur, hv, hb2, rest⟩
  · exact .inl h1
  · exact .inr ⟨g, cap, cur, hv, Nat.le_trans hb hb2, rest⟩
theorem own_form {w : World} {base : Nat} {e : TypeId} {size n : Nat} {v : Value} {xs : List Value} (h : w.ownsRow base e size v n xs) : ∃ p cap, v = .slice p n cap := by
  rcases h.2 with ⟨rfl, rfl⟩ | ⟨g, cap, cur, hv, _⟩
  · exact ⟨none, 0, rfl⟩
  · exact ⟨_, _, hv⟩
/-- A row cut at its end. -/
theorem IntsAt.take {w : World} {p : Option Addr} {n cap : Nat} {l : List Int} (h : IntsAt w (.slice p n cap) l) {k : Nat} (hk : k ≤ n) : IntsAt w (.slice p k cap) (l.take k) := by
  rcases h with ⟨⟨p', c', e⟩, rfl⟩ | ⟨g, off, c', e, hc, hg, hx⟩
  · simp only [Value.slice.injEq] at e
    obtain ⟨rfl, rfl, rfl⟩ := e
    obtain rfl : k = 0 := by omega
    exact .inl ⟨⟨_, _, rfl⟩, by simp⟩
  · simp only [Value.slice.injEq] at e
    obtain ⟨rfl, rfl, rfl⟩ := e
    have hl : (l.take k).length = k := by simp; omega
    exact .inr ⟨g, off, cap, by rw [hl], by omega, hg, fun j hj => by rw [List.getElem_take]; exact hx j (by omega)⟩
theorem RunsAt.take {w : World} {p : Option Addr} {n cap : Nat} {l : List Run} (h : RunsAt w (.slice p n cap) l) {k : Nat} (hk : k ≤ n) : RunsAt w (.slice p k cap) (l.take k) := by
  rcases h with ⟨⟨p', c', e⟩, rfl⟩ | ⟨g, off, c', e, hc, hg, hx⟩
  · simp only [Value.slice.injEq] at e
    obtain ⟨rfl, rfl, rfl⟩ := e
    obtain rfl : k = 0 := by omega
    exact .inl ⟨⟨_, _, rfl⟩, by simp⟩
  · simp only [Value.slice.injEq] at e
    obtain ⟨rfl, rfl, rfl⟩ := e
    have hl : (l.take k).length = k := by simp; omega
    exact .inr ⟨g, off, cap, by rw [hl], by omega, hg, fun j hj => by rw [List.getElem_take]; exact hx j (by omega)⟩
end Go.Proofs.Ythjekbbldejlpaa
/- Rows of bytes, as they are read; what is appended to them. No program. -/
set_option linter.unusedVariables false
namespace Go.Proofs.Ythjekbbldejlpaa
open Go Go.RowKit
/-- The slice reads as those bytes. -/
def BytsAt (w : World) (v : Value) (l : List Int) : Prop :=
  ((∃ p cap, v = .slice p 0 cap) ∧ l = []) ∨ ∃ g off cap, v = .slice (some ⟨g, off, none⟩) l.length cap ∧ l.length ≤ cap ∧ g < w.heap.size ∧ ∀ j (h : j < l.length), w.cell? ⟨g, off + j, none⟩ = some (.int .u8 l[j])
theorem BytsAt.keep {w w' : World} {v : Value} {l : List Int} (h : BytsAt w v l) (hb : Below w.heap.size w w') : BytsAt w' v l := by
  rcases h with h | ⟨g, off, cap, e, hc, hg, hx⟩
  · exact .inl h
  · exact .inr ⟨g, off, cap, e, hc, Nat.lt_of_lt_of_le hg hb.size, fun j hj => keepc hb hg (hx j hj)⟩
abbrev bytVs (l : List Int) : List Value := l.map (fun n => .int .u8 n)
theorem byts_of_owned {w : World} {base : Nat} {e : TypeId} {v : Value} {l : List Int} (h : w.ownsRow base e 1 v l.length (bytVs l)) : BytsAt w v l := by
  rcases h.2 with ⟨rfl, hn⟩ | ⟨g, cap, cur, rfl, hb, hg, hc, hm, hs, ht⟩
  · exact .inl ⟨⟨_, _, rfl⟩, List.length_eq_zero_iff.1 hn⟩
  · refine .inr ⟨g, 0, cap, rfl, hc, (Array.getElem?_eq_some_iff.1 hg).1, fun j hj => ?_⟩
    rw [Nat.zero_add, cell_of_row w g j cur e (0, 0) hg]
    have h1 : (bytVs l)[j]? = some (.int .u8 l[j]) := by simp [bytVs, hj]
    rw [← ht, List.getElem?_take] at h1
    split at h1
    · simpa using h1
    · cases h1
theorem BytsAt.form {w : World} {v : Value} {l : List Int} (h : BytsAt w v l) : ∃ p cap, v = .slice p l.length cap ∧ (0 < l.length → ∃ g off, p = some ⟨g, off, none⟩ ∧ l.length ≤ cap ∧ g < w.heap.size ∧ ∀ j (h : j < l.length), w.cell? ⟨g, off + j, none⟩ = some (.int .u8 l[j])) := by
  rcases h with ⟨⟨p, cap, rfl⟩, rfl⟩ | ⟨g, off, cap, e, hc, hg, hx⟩
  · exact ⟨p, cap, rfl, fun h => absurd h (by simp)⟩
  · exact ⟨some ⟨g, off, none⟩, cap, e, fun _ => ⟨g, off, rfl, hc, hg, hx⟩⟩
theorem BytsAt.shape {w : World} {v : Value} {l : List Int} (h : BytsAt w v l) : ∃ p cap, v = .slice p l.length cap := let ⟨p, cap, e, _⟩ := h.form; ⟨p, cap, e⟩
theorem BytsAt.nil {w : World} {p : Option Addr} {cap : Nat} : BytsAt w (.slice p 0 cap) [] := .inl ⟨⟨_, _, rfl⟩, rfl⟩
theorem BytsAt.take {w : World} {p : Option Addr} {n cap : Nat} {l : List Int} (h : BytsAt w (.slice p n cap) l) {k : Nat} (hk : k ≤ n) : BytsAt w (.slice p k cap) (l.take k) := by
  rcases h with ⟨⟨p', c', e⟩, rfl⟩ | ⟨g, off, c', e, hc, hg, hx⟩
  · simp only [Value.slice.injEq] at e
    obtain ⟨rfl, rfl, rfl⟩ := e
    obtain rfl : k = 0 := by omega
    exact .inl ⟨⟨_, _, rfl⟩, by simp⟩
  · simp only [Value.slice.injEq] at e
    obtain ⟨rfl, rfl, rfl⟩ := e
    have hl : (l.take k).length = k := by simp; omega
    exact .inr ⟨g, off, cap, by rw [hl], by omega, hg, fun j hj => by rw [List.getElem_take]; exact hx j (by omega)⟩
/-- A row of bytes without its first ones: where none is left, it may lie anywhere. -/
theorem BytsAt.drop {w : World} {g off n cap : Nat} {l : List Int} (h : BytsAt w (.slice (some ⟨g, off, none⟩) n cap) l) {k : Nat} (hk : k < n) (c : Nat) (hc : n - k ≤ c) : BytsAt w (.slice (some ⟨g, off + k, none⟩) (n - k) c) (l.drop k) := by
  rcases h with ⟨⟨p', c', e⟩, rfl⟩ | ⟨g', off', c', e, hc', hg, hx⟩
  · simp only [Value.slice.injEq] at e
    obtain ⟨_, rfl, _⟩ := e
    omega
  · simp only [Value.slice.injEq, Option.some.injEq, Addr.mk.injEq] at e
    obtain ⟨⟨rfl, rfl, _⟩, rfl, rfl⟩ := e
    exact .inr ⟨g, off + k, c, by rw [List.length_drop], by rw [List.length_drop]; exact hc, hg, fun j hj => by
      rw [List.getElem_drop, Nat.add_assoc]
      exact hx (k + j) (by rw [List.length_drop] at hj; omega)⟩
def bytOk (l : List Int) : Prop := ∀ x ∈ l, 0 ≤ x ∧ x ≤ 255
theorem bytOk.take {l : List Int} (h : bytOk l) (k : Nat) : bytOk (l.take k) := fun x hx => h x (List.mem_of_mem_take hx)
theorem bytOk.drop {l : List Int} (h : bytOk l) (k : Nat) : bytOk (l.drop k) := fun x hx => h x (List.mem_of_mem_drop hx)
theorem bytOk.append {a b : List Int} (h : bytOk a) (k : bytOk b) : bytOk (a ++ b) := fun x hx => (List.mem_append.1 hx).elim (h x) (k x)
theorem strOfNums_inj {a b : List Int} (ha : bytOk a) (hb : bytOk b) (h : (strOfNums a).toList = (strOfNums b).toList) : a = b := by
  have h2 : (a.map fun n => UInt8.ofNat n.toNat) = (b.map fun n => UInt8.ofNat n.toNat) := by
    rw [ByteArray.toList_eq, ByteArray.toList_eq] at h
    simpa [strOfNums] using h
  clear h
  induction a generalizing b with
  | nil => cases b with
    | nil => rfl
    | cons y b => simp at h2
  | cons x a ih => cases b with
    | nil => simp at h2
    | cons y b =>
      simp only [List.map_cons, List.cons.injEq] at h2
      have hx := ha x (by simp)
      have hy := hb y (by simp)
      have e : x = y := by
        have h3 := congrArg UInt8.toNat h2.1
        simp at h3
        omega
      rw [e, ih (fun z hz => ha z (by simp [hz])) (fun z hz => hb z (by simp [hz])) h2.2]
section
variable {P : Program} {ops : Array Oper} {rest : List Oper} {o : Oper} {a : Act} {Q : Exit → Act → World → Prop}
/-- One byte more at the end of a row that is owned. -/
theorem app_byte (w : World) (hgd : o.guard = none) (s x : Operand) (t : TypeId) (ho : o.op = .call { callee := .builtin .append, args := #[s, x], argTypes := #[t, t] }) (base : Nat) (e : TypeId) (i : TypeInfo) (z : Value)
    (ht : P.underlying t = some (.slice e)) (hi : P.info? e = some i) (hz : i.zero = some z) (hsize : i.size = 1) (hby : i.bytes = 1) (hzs : z.cells.size = 1)
    (v : Value) (n : Nat) (xs : List Value) (hs : a.eval s = v) (hown : w.ownsRow base e 1 v n xs) (g : Nat) (c : Value) (hx : a.eval x = .slice (some ⟨g, 0, none⟩) 1 1) (hc : w.cell? ⟨g, 0, none⟩ = some c) (h1 : c.oneCell' = true)
    (hN : n ≤ 10000000) (hbase : base ≤ w.heap.size)
    (h : ∀ v' w', w'.ownsRow base e 1 v' (n + 1) (xs ++ [c]) → w.grownBy w' v.ownBlock → wpList P ops Q rest (a.put o.dst v') w') : wpList P ops Q (o :: rest) a w :=
  wpList_append_own w hgd s x t ho base e i z 1 1 ht hi hz hsize hby hzs (by omega) v n xs hs hown ⟨g, 0, none⟩ 1 1 [c] hx rfl (fun j u hu => by
    match j, hu with
    | 0, hu => simp at hu; subst hu; simpa [Addr.add] using hc
    | j + 1, hu => simp at hu) (fun u hu => by simp at hu; subst hu; exact h1) (by simp only [maxLen]; omega) (by omega) hbase (fun v' w' h2 h3 _ => h v' w' h2 h3)
/-- A row of bytes more (there is at least one). -/
theorem app_bytes (w : World) (hgd : o.guard = none) (s x : Operand) (t : TypeId) (ho : o.op = .call { callee := .builtin .append, args := #[s, x], argTypes := #[t, t] }) (base : Nat) (e : TypeId) (i : TypeInfo) (z : Value)
    (ht : P.underlying t = some (.slice e)) (hi : P.info? e = some i) (hz : i.zero = some z) (hsize : i.size = 1) (hby : i.bytes = 1) (hzs : z.cells.size = 1)
    (v : Value) (n : Nat) (xs : List Value) (hs : a.eval s = v) (hown : w.ownsRow base e 1 v n xs) (l : List Int) (p : Option Addr) (m c : Nat) (hx : a.eval x = .slice p m c) (hl : BytsAt w (.slice p m c) l) (h0 : 0 < m)
    (hN : n + m ≤ 10000000) (hbase : base ≤ w.heap.size)
    (h : ∀ v' w', w'.ownsRow base e 1 v' (n + m) (xs ++ bytVs l) → w.grownBy w' v.ownBlock → wpList P ops Q rest (a.put o.dst v') w') : wpList P ops Q (o :: rest) a w := by
  rcases hl with ⟨⟨p', c', e'⟩, rfl⟩ | ⟨g, off, c', e', hc', hg, hcell⟩
  · simp only [Value.slice.injEq] at e'
    omega
  · simp only [Value.slice.injEq] at e'
    obtain ⟨rfl, rfl, rfl⟩ := e'
    refine wpList_append_own w hgd s x t ho base e i z 1 1 ht hi hz hsize hby hzs (by omega) v n xs hs hown ⟨g, off, none⟩ l.length c (bytVs l) hx (by simp) (fun j u hu => ?_) (fun u hu => ?_) (by simp only [maxLen]; omega) (by omega) hbase (fun v' w' h2 h3 _ => h v' w' h2 h3)
    · have hj : j < l.length := by
        rcases Nat.lt_or_ge j l.length with h | h
        · exact h
        · simp [bytVs, List.getElem?_eq_none h] at hu
      simp [bytVs, hj] at hu
      subst hu
      have : (⟨g, off, none⟩ : Addr).add j = ⟨g, off + j, none⟩ := by unfold Addr.add; split <;> simp_all
      rw [this]
      exact hcell j hj
    · obtain ⟨y, _, rfl⟩ := List.mem_map.1 hu
      rfl
/-- Nothing more. -/
theorem run_app_zero {w : World} (base : Nat) (t ty e : TypeId) (i : TypeInfo) (size : Nat) (ht : P.underlying t = some (.slice e)) (hi : P.info? e = some i)
    (v : Value) (n : Nat) (xs : List Value) (hown : w.ownsRow base e size v n xs) (p : Option Addr) (c : Nat) : (Builtin.append_ #[t, t] ty #[v, .slice p 0 c]).run P w = .ok v w := by
  have hl : ∀ a : Addr, (loadCells a 0).run P w = .ok #[] w := fun a => by simp [loadCells, go_sem]
  rcases hown.2 with ⟨rfl, rfl⟩ | ⟨g, cap, cur, rfl, _, _, hnc, _⟩
  · cases p <;> simp [Builtin.append_, run_underlying ht, sizeOf, typeInfo, hi, Builtin.lenOf, Builtin.firstCells, hl]
  · cases p <;> simp [Builtin.append_, run_underlying ht, sizeOf, typeInfo, hi, Builtin.lenOf, Builtin.firstCells, hnc, storeCells, hl]
theorem app_zero (w : World) (hgd : o.guard = none) (s x : Operand) (t : TypeId) (ho : o.op = .call { callee := .builtin .append, args := #[s, x], argTypes := #[t, t] }) (base : Nat) (e : TypeId) (i : TypeInfo) (size : Nat)
    (ht : P.underlying t = some (.slice e)) (hi : P.info? e = some i) (v : Value) (n : Nat) (xs : List Value) (hs : a.eval s = v) (hown : w.ownsRow base e size v n xs) (p : Option Addr) (c : Nat) (hx : a.eval x = .slice p 0 c)
    (h : wpList P ops Q rest (a.put o.dst v) w) : wpList P ops Q (o :: rest) a w := by
  refine wpList_plain hgd fun K hK => ?_
  have hrun := run_app_zero (P := P) (w := w) base t o.type e i size ht hi v n xs hown p c
  unfold Oper.wp
  simp [execOp, ho, resolve, invoke, builtin, hs, hx, hrun, Result.andThen]
  exact hK _ _ h
/-- A row of bytes more, none perhaps. -/
theorem app_any (w : World) (hgd : o.guard = none) (s x : Operand) (t : TypeId) (ho : o.op = .call { callee := .builtin .append, args := #[s, x], argTypes := #[t, t] }) (base : Nat) (e : TypeId) (i : TypeInfo) (z : Value)
    (ht : P.underlying t = some (.slice e)) (hi : P.info? e = some i) (hz : i.zero = some z) (hsize : i.size = 1) (hby : i.bytes = 1) (hzs : z.cells.size = 1)
    (v : Value) (n : Nat) (xs : List Value) (hs : a.eval s = v) (hown : w.ownsRow base e 1 v n xs) (l : List Int) (p : Option Addr) (m c : Nat) (hx : a.eval x = .slice p m c) (hl : BytsAt w (.slice p m c) l)
    (hN : n + m ≤ 10000000) (hbase : base ≤ w.heap.size)
    (h : ∀ v' w', w'.ownsRow base e 1 v' (n + m) (xs ++ bytVs l) → w.grownBy w' v.ownBlock → wpList P ops Q rest (a.put o.dst v') w') : wpList P ops Q (o :: rest) a w := by
  by_cases h0 : m = 0
  · subst h0
    have hl0 : l = [] := by
      obtain ⟨p', c', e', _⟩ := hl.form
      simp only [Value.slice.injEq] at e'
      exact List.length_eq_zero_iff.1 e'.2.1.symm
    subst hl0
    refine app_zero w hgd s x t ho base e i 1 ht hi v n xs hs hown p c hx (h v w ?_ ⟨rfl, rfl, rfl, Nat.le_refl _, fun _ _ _ => rfl⟩)
    simpa using hown
  · exact app_bytes w hgd s x t ho base e i z ht hi hz hsize hby hzs v n xs hs hown l p m c hx hl (by omega) hN hbase h
end
theorem BytsAt.grown {u u' : World} {v : Value} {l : List Int} (h : BytsAt u v l) (hg : u.grownBy u' (Value.slice none 0 0).ownBlock) : BytsAt u' v l :=
  h.keep ⟨hg.os, hg.tape, hg.output, hg.size, fun k hk => hg.block k hk (by simp [Value.ownBlock])⟩
theorem Below.own0 {w u u' : World} (h : Below w.heap.size w u) (hg : u.grownBy u' (Value.slice none 0 0).ownBlock) : Below w.heap.size w u' :=
  Below.own (e := 0) (size := 1) h (World.ownsRow_nil u w.heap.size 0 1) hg
end Go.Proofs.Ythjekbbldejlpaa
/- Words of layer 8: rows of blobs by their keys (raw: what the blob's slice is), one laid among them. Of the program: the type of such rows' elements alone. -/
set_option linter.unusedVariables false
namespace Go.Proofs.Ythjekbbldejlpaa
open Go Go.RowKit
abbrev Raw := Int × Value
abbrev rawVs (l : List Raw) : List Value := l.flatMap (fun r => [.int .i64 r.1, r.2])
/-- The slice reads as those keys and slices. -/
def RawAt (w : World) (v : Value) (l : List Raw) : Prop :=
  ((∃ p cap, v = .slice p 0 cap) ∧ l = []) ∨ ∃ g off cap, v = .slice (some ⟨g, off, none⟩) l.length cap ∧ l.length ≤ cap ∧ g < w.heap.size ∧ (∃ cur f, w.heap[g]? = some (Obj.cells cur 106 f)) ∧
    ∀ j (h : j < l.length), w.cell? ⟨g, off + j * 2, none⟩ = some (.int .i64 l[j].1) ∧ w.cell? ⟨g, off + j * 2 + 1, none⟩ = some l[j].2
theorem RawAt.keep {w w' : World} {v : Value} {l : List Raw} (h : RawAt w v l) (hb : Below w.heap.size w w') : RawAt w' v l := by
  rcases h with h | ⟨g, off, cap, e, hc, hg, ⟨cur, f, ht⟩, hx⟩
  · exact .inl h
  · exact .inr ⟨g, off, cap, e, hc, Nat.lt_of_lt_of_le hg hb.size, ⟨cur, f, (hb.block g hg).trans ht⟩, fun j hj => ⟨keepc hb hg (hx j hj).1, keepc hb hg (hx j hj).2⟩⟩
/-- Whatever keeps the rows of that type keeps these. -/
theorem RawAt.typed {w w' : World} {v : Value} {l : List Raw} (h : RawAt w v l) (hk : ∀ (b : Nat) (c : Array Value) (f : Nat × Nat), w.heap[b]? = some (Obj.cells c 106 f) → w'.heap[b]? = some (Obj.cells c 106 f)) : RawAt w' v l := by
  rcases h with h | ⟨g, off, cap, e, hc, hg, ⟨cur, f, ht⟩, hx⟩
  · exact .inl h
  · have h2 := hk g cur f ht
    have hs : ∀ o, w'.cell? ⟨g, o, none⟩ = w.cell? ⟨g, o, none⟩ := fun o => World.cell?_of_block (a := ⟨g, o, none⟩) (h2.trans ht.symm)
    exact .inr ⟨g, off, cap, e, hc, (Array.getElem?_eq_some_iff.1 h2).1, ⟨cur, f, h2⟩, fun j hj => ⟨(hs _).trans (hx j hj).1, (hs _).trans (hx j hj).2⟩⟩
theorem rawVs_length (l : List Raw) : (rawVs l).length = l.length * 2 := by
  induction l with
  | nil => rfl
  | cons a l ih => rw [show rawVs (a :: l) = .int .i64 a.1 :: a.2 :: rawVs l by simp [rawVs], List.length_cons, List.length_cons, ih, List.length_cons]; omega
theorem rawVs_at : ∀ (l : List Raw) (j : Nat) (h : j < l.length), (rawVs l)[j * 2]? = some (.int .i64 l[j].1) ∧ (rawVs l)[j * 2 + 1]? = some l[j].2
  | a :: l, 0, _ => by simp [rawVs]
  | a :: l, j + 1, h => by
    have := rawVs_at l j (by simpa using h)
    simp only [rawVs, List.flatMap_cons] at *
    rw [show (j + 1) * 2 = j * 2 + 2 by omega, show j * 2 + 2 + 1 = (j * 2 + 1) + 2 by omega]
    simpa using this
theorem rawVs_snoc (l : List Raw) (k : Int) (v : Value) : rawVs (l ++ [(k, v)]) = rawVs l ++ [.int .i64 k, v] := by simp [rawVs]
theorem raws_of_owned {w : World} {base : Nat} {v : Value} {l : List Raw} (h : w.ownsRow base 106 2 v l.length (rawVs l)) : RawAt w v l := by
  rcases h.2 with ⟨rfl, hn⟩ | ⟨g, cap, cur, rfl, hb, hg, hc, hm, hs, ht⟩
  · exact .inl ⟨⟨_, _, rfl⟩, List.length_eq_zero_iff.1 hn⟩
  · refine .inr ⟨g, 0, cap, rfl, hc, (Array.getElem?_eq_some_iff.1 hg).1, ⟨cur, _, hg⟩, fun j hj => ?_⟩
    obtain ⟨h1, h2⟩ := rawVs_at l j hj
    rw [Nat.zero_add, cell_of_row w g _ cur _ (0, 0) hg, cell_of_row w g _ cur _ (0, 0) hg]
    rw [← ht, List.getElem?_take] at h1 h2
    constructor
    · split at h1
      · simpa using h1
      · cases h1
    · split at h2
      · simpa using h2
      · cases h2
theorem RawAt.form {w : World} {v : Value} {l : List Raw} (h : RawAt w v l) : ∃ p cap, v = .slice p l.length cap ∧ (0 < l.length → ∃ g off, p = some ⟨g, off, none⟩ ∧ l.length ≤ cap ∧ g < w.heap.size ∧
    ∀ j (h : j < l.length), w.cell? ⟨g, off + j * 2, none⟩ = some (.int .i64 l[j].1) ∧ w.cell? ⟨g, off + j * 2 + 1, none⟩ = some l[j].2) := by
  rcases h with ⟨⟨p, cap, rfl⟩, rfl⟩ | ⟨g, off, cap, e, hc, hg, _, hx⟩
  · exact ⟨p, cap, rfl, fun h => absurd h (by simp)⟩
  · exact ⟨some ⟨g, off, none⟩, cap, e, fun _ => ⟨g, off, rfl, hc, hg, hx⟩⟩
section
variable {P : Program} {ops : Array Oper} {rest : List Oper} {o : Oper} {a : Act} {Q : Exit → Act → World → Prop}
/-- One blob more at the end of a row that is owned. -/
theorem app_raw (w : World) (hgd : o.guard = none) (s x : Operand) (t : TypeId) (ho : o.op = .call { callee := .builtin .append, args := #[s, x], argTypes := #[t, t] }) (base : Nat) (e : TypeId) (i : TypeInfo) (z : Value)
    (ht : P.underlying t = some (.slice e)) (hi : P.info? e = some i) (hz : i.zero = some z) (hsize : i.size = 2) (hby : i.bytes = 32) (hzs : z.cells.size = 2)
    (v : Value) (n : Nat) (xs : List Value) (hs : a.eval s = v) (hown : w.ownsRow base e 2 v n xs) (g : Nat) (c d : Value) (hx : a.eval x = .slice (some ⟨g, 0, none⟩) 1 1) (hc : w.cell? ⟨g, 0, none⟩ = some c) (hd : w.cell? ⟨g, 1, none⟩ = some d)
    (h1 : c.oneCell' = true) (h2 : d.oneCell' = true) (hN : n ≤ 1000000) (hbase : base ≤ w.heap.size)
    (h : ∀ v' w', w'.ownsRow base e 2 v' (n + 1) (xs ++ [c, d]) → w.grownBy w' v.ownBlock → wpList P ops Q rest (a.put o.dst v') w') : wpList P ops Q (o :: rest) a w :=
  wpList_append_own w hgd s x t ho base e i z 2 32 ht hi hz hsize hby hzs (by omega) v n xs hs hown ⟨g, 0, none⟩ 1 1 [c, d] hx rfl (fun j u hu => by
    match j, hu with
    | 0, hu => simp at hu; subst hu; simpa [Addr.add] using hc
    | 1, hu => simp at hu; subst hu; simpa [Addr.add] using hd
    | j + 2, hu => simp at hu) (fun u hu => by
      simp at hu
      rcases hu with rfl | rfl
      · exact h1
      · exact h2) (by simp only [maxLen]; omega) (by omega) hbase (fun v' w' h2 h3 _ => h v' w' h2 h3)
end
/-- Blobs, of which one is as it was put: any kind of blob. -/
def layStep {β : Type} (w : Int × β) (s : List (Int × β) × Bool) (x : Int × β) : List (Int × β) × Bool :=
  let s1 := if s.2 = false ∧ w.1 ≤ x.1 then (s.1 ++ [w], true) else s
  if x.1 = w.1 then s1 else (s1.1 ++ [x], s1.2)
def layS {β : Type} (w : Int × β) (l : List (Int × β)) : List (Int × β) × Bool := l.foldl (layStep w) ([], false)
def layF {β : Type} (l : List (Int × β)) (w : Int × β) : List (Int × β) := if (layS w l).2 = true then (layS w l).1 else (layS w l).1 ++ [w]
theorem layS_snoc {β : Type} (w x : Int × β) (l : List (Int × β)) : layS w (l ++ [x]) = layStep w (layS w l) x := by unfold layS; rw [List.foldl_append]; rfl
theorem layS_len {β : Type} (w : Int × β) (l : List (Int × β)) : ∀ k, k ≤ l.length → (layS w (l.take k)).1.length ≤ k + (if (layS w (l.take k)).2 = true then 1 else 0)
  | 0, _ => by simp [layS]
  | k + 1, h => by
    have ih := layS_len w l k (by omega)
    rw [take_succ_get l k (by omega), layS_snoc]
    generalize layS w (l.take k) = s at *
    obtain ⟨A, d⟩ := s
    unfold layStep
    by_cases h1 : w.1 ≤ l[k].1 <;> by_cases h2 : l[k].1 = w.1 <;> cases d <;> simp [h1, h2] at ih ⊢ <;> omega
theorem layF_len {β : Type} (l : List (Int × β)) (w : Int × β) : (layF l w).length ≤ l.length + 1 := by
  have := layS_len w l l.length (Nat.le_refl _)
  rw [List.take_length] at this
  unfold layF
  split
  · rename_i h; rw [if_pos h] at this; exact this
  · rename_i h; rw [if_neg h] at this; simp; omega
end Go.Proofs.Ythjekbbldejlpaa
