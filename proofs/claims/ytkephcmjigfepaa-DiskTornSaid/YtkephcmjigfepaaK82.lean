/- Words of layer 8: a row of blobs, appended whole to none. No program. -/
import Derived.Test.YtkephcmjigfepaaK81
import Derived.Laws.AppendOwnNone
set_option linter.unusedVariables false
set_option linter.unusedSimpArgs false
namespace Go.Proofs.Ytkephcmjigfepaa
open Go Go.RowKit
theorem RawAt.news {w : World} {v : Value} {l : List Raw} (h : RawAt w v l) : ∃ p cap, v = .slice p l.length cap ∧ (0 < l.length → ∃ g off, p = some ⟨g, off, none⟩ ∧ g < w.heap.size ∧ ∀ j u, (rawVs l)[j]? = some u → w.cell? ⟨g, off + j, none⟩ = some u) := by
  obtain ⟨p, cap, e, hf⟩ := h.form
  refine ⟨p, cap, e, fun h0 => ?_⟩
  obtain ⟨g, off, e2, _, hg, hx⟩ := hf h0
  refine ⟨g, off, e2, hg, fun j u hu => ?_⟩
  have hlt : j < l.length * 2 := by
    have := (List.getElem?_eq_some_iff.1 hu).1
    rwa [rawVs_length] at this
  have hk : j / 2 < l.length := by omega
  obtain ⟨h1, h2⟩ := rawVs_at l (j / 2) hk
  obtain ⟨c1, c2⟩ := hx (j / 2) hk
  rcases Nat.mod_two_eq_zero_or_one j with e | e
  · rw [show j / 2 * 2 = j by omega, hu] at h1
    rw [show off + j / 2 * 2 = off + j by omega] at c1
    rw [c1, Option.some.inj h1]
  · rw [show j / 2 * 2 + 1 = j by omega, hu] at h2
    rw [show off + j / 2 * 2 + 1 = off + j by omega] at c2
    rw [c2, Option.some.inj h2]
theorem rawVs_one {l : List Raw} (ok : rawOk l) : ∀ u ∈ rawVs l, u.oneCell' = true := fun u hu => by
  obtain ⟨r, hr, h⟩ := List.mem_flatMap.1 hu
  obtain ⟨_, p, n, c, e⟩ := ok r hr
  simp at h
  rcases h with rfl | rfl
  · rfl
  · rw [e]; rfl
/-- What a crash leaves: of those under way, one behind the other, k bytes are written. -/
def crashGo {β : Type} (len : β → Nat) (cut : β → Nat → β) : List (Int × β) → Nat → List (Int × β) → List (Int × β)
  | s, _, [] => s
  | s, k, x :: l => if len x.2 ≤ k then crashGo len cut (layF s x) (k - len x.2) l else layF s (x.1, cut x.2 k)
def slCut : Value → Nat → Value
  | .slice p _ c, k => .slice p k c
  | v, _ => v
theorem off_keep {b : Nat} {v : Value} {l : List Raw} (h : offR b v l) (l' : List Raw) (hl : l = [] → l' = []) : offR b v l' := by
  rcases h with h | h
  · exact .inl (hl h)
  · exact .inr h
theorem RawAt.set5 {w : World} {v : Value} {l : List Raw} {b : Nat} (h : RawAt w v l) (ho : offR b v l) (x0 x1 x2 x3 x4 : Value) :
    RawAt (((((w.setCell ⟨b, 0, none⟩ x0).setCell ⟨b, 1, none⟩ x1).setCell ⟨b, 2, none⟩ x2).setCell ⟨b, 3, none⟩ x3).setCell ⟨b, 4, none⟩ x4) v l :=
  ((((h.setCell (p := ⟨b, 0, none⟩) ho x0).setCell (p := ⟨b, 1, none⟩) ho x1).setCell (p := ⟨b, 2, none⟩) ho x2).setCell (p := ⟨b, 3, none⟩) ho x3).setCell (p := ⟨b, 4, none⟩) ho x4
section
variable {P : Program} {ops : Array Oper} {rest : List Oper} {o : Oper} {a : Act} {Q : Exit → Act → World → Prop}
/-- Blobs' row, appended to a nil one. -/
theorem app_raws (w : World) (hgd : o.guard = none) (s x : Operand) (t : TypeId) (ho : o.op = .call { callee := .builtin .append, args := #[s, x], argTypes := #[t, t] }) (e : TypeId) (i : TypeInfo) (z : Value)
    (ht : P.underlying t = some (.slice e)) (hi : P.info? e = some i) (hz : i.zero = some z) (hsize : i.size = 2) (hby : i.bytes = 32) (hzs : z.cells.size = 2)
    (hs : a.eval s = .slice none 0 0) (v : Value) (hx : a.eval x = v) (l : List Raw) (hl : RawAt w v l) (ok : rawOk l) (hN : l.length ≤ 1000000)
    (h : ∀ v' w', w'.ownsRow w.heap.size e 2 v' l.length (rawVs l) → Below w.heap.size w w' → wpList P ops Q rest (a.put o.dst v') w') : wpList P ops Q (o :: rest) a w := by
  obtain ⟨p, cap, rfl, hf⟩ := hl.news
  rcases p with _ | ad
  · have h0 : l = [] := by
      rcases Nat.eq_zero_or_pos l.length with h | h
      · exact List.length_eq_zero_iff.1 h
      · obtain ⟨g, off, e, _⟩ := hf h
        cases e
    subst h0
    refine wpList_plain hgd fun K hK => ?_
    have hrun : (Builtin.append_ #[t, t] o.type #[.slice none 0 0, .slice none 0 cap]).run P w = .ok (.slice none 0 0) w := by
      simp [Builtin.append_, run_underlying ht, sizeOf, typeInfo, hi, Builtin.lenOf, Builtin.firstCells, loadCells, loadCellsFrom]
    unfold Oper.wp
    simp [execOp, ho, resolve, invoke, builtin, hs, hx, hrun, Result.andThen]
    exact hK _ _ (h _ _ (World.ownsRow_nil _ _ _ _) (Below.refl _ _))
  · refine wpList_append_own w hgd s x t ho w.heap.size e i z 2 32 ht hi hz hsize hby hzs (by omega) _ 0 [] hs (World.ownsRow_nil _ _ _ _) ad l.length cap (rawVs l) hx (rawVs_length l) (fun j u hu => ?_) (rawVs_one ok) (by simp only [maxLen]; omega) (by omega) (Nat.le_refl _) (fun v' w' h2 h3 _ => h v' w' (by simpa using h2) (Below.own (Below.refl _ _) (World.ownsRow_nil w w.heap.size e 2) h3))
    have hj := (List.getElem?_eq_some_iff.1 hu).1
    rw [rawVs_length] at hj
    obtain ⟨g, off, e, hg, h⟩ := hf (by omega)
    cases e
    rw [Addr.add_lit]
    exact h j u hu
end
end Go.Proofs.Ytkephcmjigfepaa
