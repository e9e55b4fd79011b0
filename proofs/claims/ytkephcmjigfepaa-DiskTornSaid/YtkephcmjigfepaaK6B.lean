/- Rows of bytes, as they are read; what is appended to them. No program. -/
import Derived.Test.YtkephcmjigfepaaK05
import Derived.Laws.BytesArg
set_option linter.unusedVariables false
namespace Go.Proofs.Ytkephcmjigfepaa
open Go Go.RowKit
/-- The slice reads as those bytes. -/
def BytsAt (w : World) (v : Value) (l : List Int) : Prop :=
  ((∃ p cap, v = .slice p 0 cap) ∧ l = []) ∨ ∃ g off cap, v = .slice (some ⟨g, off, none⟩) l.length cap ∧ l.length ≤ cap ∧ g < w.heap.size ∧ ∀ j (h : j < l.length), w.cell? ⟨g, off + j, none⟩ = some (.int .u8 l[j])
theorem BytsAt.keep {w w' : World} {v : Value} {l : List Int} (h : BytsAt w v l) (hb : Below w.heap.size w w') : BytsAt w' v l := by
  rcases h with h | ⟨g, off, cap, e, hc, hg, hx⟩
  · exact .inl h
  · exact .inr ⟨g, off, cap, e, hc, Nat.lt_of_lt_of_le hg hb.size, fun j hj => keepc hb hg (hx j hj)⟩
abbrev bytVs (l : List Int) : List Value := l.map (fun n => .int .u8 n)
theorem byts_of_owned {w : World} {base : Nat} {e : TypeId} {v : Value} {l : List Int} (h : w.ownsRow base e 1 v l.length (bytVs l)) : BytsAt w v l := by
  rcases h.2 with ⟨rfl, hn⟩ | ⟨g, cap, cur, rfl, hb, hg, hc, hm, hs, ht⟩
  · exact .inl ⟨⟨_, _, rfl⟩, List.length_eq_zero_iff.1 hn⟩
  · refine .inr ⟨g, 0, cap, rfl, hc, (Array.getElem?_eq_some_iff.1 hg).1, fun j hj => ?_⟩
    rw [Nat.zero_add, cell_of_row w g j cur e (0, 0) hg]
    have h1 : (bytVs l)[j]? = some (.int .u8 l[j]) := by simp [bytVs, hj]
    rw [← ht, List.getElem?_take] at h1
    split at h1
    · simpa using h1
    · cases h1
theorem BytsAt.form {w : World} {v : Value} {l : List Int} (h : BytsAt w v l) : ∃ p cap, v = .slice p l.length cap ∧ (0 < l.length → ∃ g off, p = some ⟨g, off, none⟩ ∧ l.length ≤ cap ∧ g < w.heap.size ∧ ∀ j (h : j < l.length), w.cell? ⟨g, off + j, none⟩ = some (.int .u8 l[j])) := by
  rcases h with ⟨⟨p, cap, rfl⟩, rfl⟩ | ⟨g, off, cap, e, hc, hg, hx⟩
  · exact ⟨p, cap, rfl, fun h => absurd h (by simp)⟩
  · exact ⟨some ⟨g, off, none⟩, cap, e, fun _ => ⟨g, off, rfl, hc, hg, hx⟩⟩
theorem BytsAt.shape {w : World} {v : Value} {l : List Int} (h : BytsAt w v l) : ∃ p cap, v = .slice p l.length cap := let ⟨p, cap, e, _⟩ := h.form; ⟨p, cap, e⟩
theorem BytsAt.nil {w : World} {p : Option Addr} {cap : Nat} : BytsAt w (.slice p 0 cap) [] := .inl ⟨⟨_, _, rfl⟩, rfl⟩
theorem BytsAt.take {w : World} {p : Option Addr} {n cap : Nat} {l : List Int} (h : BytsAt w (.slice p n cap) l) {k : Nat} (hk : k ≤ n) : BytsAt w (.slice p k cap) (l.take k) := by
  rcases h with ⟨⟨p', c', e⟩, rfl⟩ | ⟨g, off, c', e, hc, hg, hx⟩
  · simp only [Value.slice.injEq] at e
    obtain ⟨rfl, rfl, rfl⟩ := e
    obtain rfl : k = 0 := by omega
    exact .inl ⟨⟨_, _, rfl⟩, by simp⟩
  · simp only [Value.slice.injEq] at e
    obtain ⟨rfl, rfl, rfl⟩ := e
    have hl : (l.take k).length = k := by simp; omega
    exact .inr ⟨g, off, cap, by rw [hl], by omega, hg, fun j hj => by rw [List.getElem_take]; exact hx j (by omega)⟩
/-- A row of bytes without its first ones: where none is left, it may lie anywhere. -/
theorem BytsAt.drop {w : World} {g off n cap : Nat} {l : List Int} (h : BytsAt w (.slice (some ⟨g, off, none⟩) n cap) l) {k : Nat} (hk : k < n) (c : Nat) (hc : n - k ≤ c) : BytsAt w (.slice (some ⟨g, off + k, none⟩) (n - k) c) (l.drop k) := by
  rcases h with ⟨⟨p', c', e⟩, rfl⟩ | ⟨g', off', c', e, hc', hg, hx⟩
  · simp only [Value.slice.injEq] at e
    obtain ⟨_, rfl, _⟩ := e
    omega
  · simp only [Value.slice.injEq, Option.some.injEq, Addr.mk.injEq] at e
    obtain ⟨⟨rfl, rfl, _⟩, rfl, rfl⟩ := e
    exact .inr ⟨g, off + k, c, by rw [List.length_drop], by rw [List.length_drop]; exact hc, hg, fun j hj => by
      rw [List.getElem_drop, Nat.add_assoc]
      exact hx (k + j) (by rw [List.length_drop] at hj; omega)⟩
def bytOk (l : List Int) : Prop := ∀ x ∈ l, 0 ≤ x ∧ x ≤ 255
theorem bytOk.take {l : List Int} (h : bytOk l) (k : Nat) : bytOk (l.take k) := fun x hx => h x (List.mem_of_mem_take hx)
theorem bytOk.drop {l : List Int} (h : bytOk l) (k : Nat) : bytOk (l.drop k) := fun x hx => h x (List.mem_of_mem_drop hx)
theorem bytOk.append {a b : List Int} (h : bytOk a) (k : bytOk b) : bytOk (a ++ b) := fun x hx => (List.mem_append.1 hx).elim (h x) (k x)
theorem strOfNums_inj {a b : List Int} (ha : bytOk a) (hb : bytOk b) (h : (strOfNums a).toList = (strOfNums b).toList) : a = b := by
  have h2 : (a.map fun n => UInt8.ofNat n.toNat) = (b.map fun n => UInt8.ofNat n.toNat) := by
    rw [ByteArray.toList_eq, ByteArray.toList_eq] at h
    simpa [strOfNums] using h
  clear h
  induction a generalizing b with
  | nil => cases b with
    | nil => rfl
    | cons y b => simp at h2
  | cons x a ih => cases b with
    | nil => simp at h2
    | cons y b =>
      simp only [List.map_cons, List.cons.injEq] at h2
      have hx := ha x (by simp)
      have hy := hb y (by simp)
      have e : x = y := by
        have h3 := congrArg UInt8.toNat h2.1
        simp at h3
        omega
      rw [e, ih (fun z hz => ha z (by simp [hz])) (fun z hz => hb z (by simp [hz])) h2.2]
section
variable {P : Program} {ops : Array Oper} {rest : List Oper} {o : Oper} {a : Act} {Q : Exit → Act → World → Prop}
/-- One byte more at the end of a row that is owned. -/
theorem app_byte (w : World) (hgd : o.guard = none) (s x : Operand) (t : TypeId) (ho : o.op = .call { callee := .builtin .append, args := #[s, x], argTypes := #[t, t] }) (base : Nat) (e : TypeId) (i : TypeInfo) (z : Value)
    (ht : P.underlying t = some (.slice e)) (hi : P.info? e = some i) (hz : i.zero = some z) (hsize : i.size = 1) (hby : i.bytes = 1) (hzs : z.cells.size = 1)
    (v : Value) (n : Nat) (xs : List Value) (hs : a.eval s = v) (hown : w.ownsRow base e 1 v n xs) (g : Nat) (c : Value) (hx : a.eval x = .slice (some ⟨g, 0, none⟩) 1 1) (hc : w.cell? ⟨g, 0, none⟩ = some c) (h1 : c.oneCell' = true)
    (hN : n ≤ 10000000) (hbase : base ≤ w.heap.size)
    (h : ∀ v' w', w'.ownsRow base e 1 v' (n + 1) (xs ++ [c]) → w.grownBy w' v.ownBlock → wpList P ops Q rest (a.put o.dst v') w') : wpList P ops Q (o :: rest) a w :=
  wpList_append_own w hgd s x t ho base e i z 1 1 ht hi hz hsize hby hzs (by omega) v n xs hs hown ⟨g, 0, none⟩ 1 1 [c] hx rfl (fun j u hu => by
    match j, hu with
    | 0, hu => simp at hu; subst hu; simpa [Addr.add] using hc
    | j + 1, hu => simp at hu) (fun u hu => by simp at hu; subst hu; exact h1) (by simp only [maxLen]; omega) (by omega) hbase (fun v' w' h2 h3 _ => h v' w' h2 h3)
/-- A row of bytes more (there is at least one). -/
theorem app_bytes (w : World) (hgd : o.guard = none) (s x : Operand) (t : TypeId) (ho : o.op = .call { callee := .builtin .append, args := #[s, x], argTypes := #[t, t] }) (base : Nat) (e : TypeId) (i : TypeInfo) (z : Value)
    (ht : P.underlying t = some (.slice e)) (hi : P.info? e = some i) (hz : i.zero = some z) (hsize : i.size = 1) (hby : i.bytes = 1) (hzs : z.cells.size = 1)
    (v : Value) (n : Nat) (xs : List Value) (hs : a.eval s = v) (hown : w.ownsRow base e 1 v n xs) (l : List Int) (p : Option Addr) (m c : Nat) (hx : a.eval x = .slice p m c) (hl : BytsAt w (.slice p m c) l) (h0 : 0 < m)
    (hN : n + m ≤ 10000000) (hbase : base ≤ w.heap.size)
    (h : ∀ v' w', w'.ownsRow base e 1 v' (n + m) (xs ++ bytVs l) → w.grownBy w' v.ownBlock → wpList P ops Q rest (a.put o.dst v') w') : wpList P ops Q (o :: rest) a w := by
  rcases hl with ⟨⟨p', c', e'⟩, rfl⟩ | ⟨g, off, c', e', hc', hg, hcell⟩
  · simp only [Value.slice.injEq] at e'
    omega
  · simp only [Value.slice.injEq] at e'
    obtain ⟨rfl, rfl, rfl⟩ := e'
    refine wpList_append_own w hgd s x t ho base e i z 1 1 ht hi hz hsize hby hzs (by omega) v n xs hs hown ⟨g, off, none⟩ l.length c (bytVs l) hx (by simp) (fun j u hu => ?_) (fun u hu => ?_) (by simp only [maxLen]; omega) (by omega) hbase (fun v' w' h2 h3 _ => h v' w' h2 h3)
    · have hj : j < l.length := by
        rcases Nat.lt_or_ge j l.length with h | h
        · exact h
        · simp [bytVs, List.getElem?_eq_none h] at hu
      simp [bytVs, hj] at hu
      subst hu
      have : (⟨g, off, none⟩ : Addr).add j = ⟨g, off + j, none⟩ := by unfold Addr.add; split <;> simp_all
      rw [this]
      exact hcell j hj
    · obtain ⟨y, _, rfl⟩ := List.mem_map.1 hu
      rfl
/-- Nothing more. -/
theorem run_app_zero {w : World} (base : Nat) (t ty e : TypeId) (i : TypeInfo) (size : Nat) (ht : P.underlying t = some (.slice e)) (hi : P.info? e = some i)
    (v : Value) (n : Nat) (xs : List Value) (hown : w.ownsRow base e size v n xs) (p : Option Addr) (c : Nat) : (Builtin.append_ #[t, t] ty #[v, .slice p 0 c]).run P w = .ok v w := by
  have hl : ∀ a : Addr, (loadCells a 0).run P w = .ok #[] w := fun a => by simp [loadCells, go_sem]
  rcases hown.2 with ⟨rfl, rfl⟩ | ⟨g, cap, cur, rfl, _, _, hnc, _⟩
  · cases p <;> simp [Builtin.append_, run_underlying ht, sizeOf, typeInfo, hi, Builtin.lenOf, Builtin.firstCells, hl]
  · cases p <;> simp [Builtin.append_, run_underlying ht, sizeOf, typeInfo, hi, Builtin.lenOf, Builtin.firstCells, hnc, storeCells, hl]
theorem app_zero (w : World) (hgd : o.guard = none) (s x : Operand) (t : TypeId) (ho : o.op = .call { callee := .builtin .append, args := #[s, x], argTypes := #[t, t] }) (base : Nat) (e : TypeId) (i : TypeInfo) (size : Nat)
    (ht : P.underlying t = some (.slice e)) (hi : P.info? e = some i) (v : Value) (n : Nat) (xs : List Value) (hs : a.eval s = v) (hown : w.ownsRow base e size v n xs) (p : Option Addr) (c : Nat) (hx : a.eval x = .slice p 0 c)
    (h : wpList P ops Q rest (a.put o.dst v) w) : wpList P ops Q (o :: rest) a w := by
  refine wpList_plain hgd fun K hK => ?_
  have hrun := run_app_zero (P := P) (w := w) base t o.type e i size ht hi v n xs hown p c
  unfold Oper.wp
  simp [execOp, ho, resolve, invoke, builtin, hs, hx, hrun, Result.andThen]
  exact hK _ _ h
/-- A row of bytes more, none perhaps. -/
theorem app_any (w : World) (hgd : o.guard = none) (s x : Operand) (t : TypeId) (ho : o.op = .call { callee := .builtin .append, args := #[s, x], argTypes := #[t, t] }) (base : Nat) (e : TypeId) (i : TypeInfo) (z : Value)
    (ht : P.underlying t = some (.slice e)) (hi : P.info? e = some i) (hz : i.zero = some z) (hsize : i.size = 1) (hby : i.bytes = 1) (hzs : z.cells.size = 1)
    (v : Value) (n : Nat) (xs : List Value) (hs : a.eval s = v) (hown : w.ownsRow base e 1 v n xs) (l : List Int) (p : Option Addr) (m c : Nat) (hx : a.eval x = .slice p m c) (hl : BytsAt w (.slice p m c) l)
    (hN : n + m ≤ 10000000) (hbase : base ≤ w.heap.size)
    (h : ∀ v' w', w'.ownsRow base e 1 v' (n + m) (xs ++ bytVs l) → w.grownBy w' v.ownBlock → wpList P ops Q rest (a.put o.dst v') w') : wpList P ops Q (o :: rest) a w := by
  by_cases h0 : m = 0
  · subst h0
    have hl0 : l = [] := by
      obtain ⟨p', c', e', _⟩ := hl.form
      simp only [Value.slice.injEq] at e'
      exact List.length_eq_zero_iff.1 e'.2.1.symm
    subst hl0
    refine app_zero w hgd s x t ho base e i 1 ht hi v n xs hs hown p c hx (h v w ?_ ⟨rfl, rfl, rfl, Nat.le_refl _, fun _ _ _ => rfl⟩)
    simpa using hown
  · exact app_bytes w hgd s x t ho base e i z ht hi hz hsize hby hzs v n xs hs hown l p m c hx hl (by omega) hN hbase h
end
theorem BytsAt.grown {u u' : World} {v : Value} {l : List Int} (h : BytsAt u v l) (hg : u.grownBy u' (Value.slice none 0 0).ownBlock) : BytsAt u' v l :=
  h.keep ⟨hg.os, hg.tape, hg.output, hg.size, fun k hk => hg.block k hk (by simp [Value.ownBlock])⟩
theorem Below.own0 {w u u' : World} (h : Below w.heap.size w u) (hg : u.grownBy u' (Value.slice none 0 0).ownBlock) : Below w.heap.size w u' :=
  Below.own (e := 0) (size := 1) h (World.ownsRow_nil u w.heap.size 0 1) hg
end Go.Proofs.Ytkephcmjigfepaa
