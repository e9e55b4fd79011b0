/- What comes in, opened: rows of rows of bytes, rows of truths. -/
import Derived.Test.YtkephcmjigfepaaO80
set_option linter.unusedVariables false
set_option linter.unusedSimpArgs false
namespace Go.Proofs.Ytkephcmjigfepaa
open Go.ChangeShapes Go.WideShapes Go.ChangeAt Go.RowKit Go.Deep
section
variable {H : Type} {enc : TypeId × Value → H} {w : World} {r : Reach} {b0 base : Nat} {spare : Nat → Bool} {held : Bool}
abbrev BRow := Value × List Int
def BRow.ok (w : World) (x : BRow) : Prop := BytsAt w x.1 x.2 ∧ bytOk x.2 ∧ x.2.length ≤ maxLen
def RowsBAt (w : World) (v : Value) (l : List BRow) : Prop :=
  ((∃ p cap, v = .slice p 0 cap) ∧ l = []) ∨ ∃ g off cap, v = .slice (some ⟨g, off, none⟩) l.length cap ∧ l.length ≤ cap ∧ g < w.heap.size ∧ ∀ j (h : j < l.length), w.cell? ⟨g, off + j, none⟩ = some l[j].1
abbrev RowsBIn (w : World) (v : Value) : Prop := ∃ l : List BRow, RowsBAt w v l ∧ (∀ j (h : j < l.length), l[j].ok w) ∧ l.length ≤ maxLen
set_option maxRecDepth 10000 in
theorem RowsBAt.form {w : World} {v : Value} {l : List BRow} (h : RowsBAt w v l) : ∃ p cap, v = .slice p l.length cap ∧ (0 < l.length → ∃ g off, p = some ⟨g, off, none⟩ ∧ l.length ≤ cap ∧ g < w.heap.size ∧ ∀ j (h : j < l.length), w.cell? ⟨g, off + j, none⟩ = some l[j].1) := by
  rcases h with ⟨⟨p, cap, rfl⟩, rfl⟩ | ⟨g, off, cap, e, hc, hg, hx⟩
  · exact ⟨p, cap, rfl, fun h => absurd h (by simp)⟩
  · exact ⟨some ⟨g, off, none⟩, cap, e, fun _ => ⟨g, off, rfl, hc, hg, hx⟩⟩
def BoolsAt (w : World) (v : Value) (l : List Bool) : Prop :=
  ((∃ p cap, v = .slice p 0 cap) ∧ l = []) ∨ ∃ g off cap, v = .slice (some ⟨g, off, none⟩) l.length cap ∧ l.length ≤ cap ∧ g < w.heap.size ∧ ∀ j (h : j < l.length), w.cell? ⟨g, off + j, none⟩ = some (.bool l[j])
abbrev BoolsIn (w : World) (v : Value) : Prop := ∃ l : List Bool, BoolsAt w v l ∧ l.length ≤ maxLen
set_option maxRecDepth 10000 in
theorem BoolsAt.form {w : World} {v : Value} {l : List Bool} (h : BoolsAt w v l) : ∃ p cap, v = .slice p l.length cap ∧ (0 < l.length → ∃ g off, p = some ⟨g, off, none⟩ ∧ l.length ≤ cap ∧ g < w.heap.size ∧ ∀ j (h : j < l.length), w.cell? ⟨g, off + j, none⟩ = some (.bool l[j])) := by
  rcases h with ⟨⟨p, cap, rfl⟩, rfl⟩ | ⟨g, off, cap, e, hc, hg, hx⟩
  · exact ⟨p, cap, rfl, fun h => absurd h (by simp)⟩
  · exact ⟨some ⟨g, off, none⟩, cap, e, fun _ => ⟨g, off, rfl, hc, hg, hx⟩⟩
set_option maxRecDepth 10000 in
theorem open_bytss {v : Value} {d : DataW H} {p : List MemPlace} (hv : Value.okWide Try.prog w r b0 49 v) (h : DataW.Trod enc Try.prog w 0 spare held 49 v d p) (hlt : ∀ x ∈ p, x.block < w.heap.size) : RowsBIn w v := by
  obtain ⟨a, len, cap, rfl⟩ := okWide_slice Try.underlying49 hv
  obtain ⟨fuel, hf⟩ := h
  rcases open_slice Try.underlying49 hf with ⟨hcs, _⟩ | ⟨a', len', cap', m, n, D, Pl, hcs, _, hl, hm, hmm, hx, hi⟩
  · simp [Value.cells] at hcs
    obtain ⟨rfl, rfl, rfl⟩ := hcs
    exact ⟨[], .inl ⟨⟨_, _, rfl⟩, rfl⟩, fun j h => absurd h (by simp), by simp⟩
  · simp [Value.cells] at hcs
    obtain ⟨rfl, rfl, rfl⟩ := hcs
    by_cases h0 : len = 0
    · subst h0; exact ⟨[], .inl ⟨⟨_, _, rfl⟩, rfl⟩, fun j h => absurd h (by simp), by simp⟩
    · have hlm : len ≤ m := by rw [hmm]; split <;> omega
      rw [one_bytes] at hi
      have key : ∀ i, i < len → ∃ q : BRow, q.ok w ∧ w.cell? (a'.add i) = some q.1 := by
        intro i hil
        obtain ⟨cs', hc, ht⟩ := hi i (by omega)
        obtain ⟨x, rfl, B, hB, oB, lB⟩ := byts_trod ht
        obtain ⟨_, _, hat⟩ := World.cells?_some hc
        have e0 := hat 0 (by omega)
        rw [Go.Deep.add_add] at e0
        exact ⟨(x, B), ⟨hB, oB, lB⟩, by simpa using e0⟩
      obtain ⟨f, hf'⟩ : ∃ f : Nat → BRow, ∀ i, i < len → (f i).ok w ∧ w.cell? (a'.add i) = some (f i).1 := by
        refine ⟨fun i => if h : i < len then (key i h).choose else (.slice none 0 0, []), fun i hil => ?_⟩
        simp only [hil, dif_pos]
        exact (key i hil).choose_spec
      obtain ⟨b, off, spot⟩ := a'
      have h00 := (hf' 0 (by omega)).2
      have hspot : spot = none := by simpa [Addr.add] using World.cell?_spot h00
      subst hspot
      have hlb : b < w.heap.size := World.block_lt_of_cell? w _ h00
      simp only [add_plain] at hf'
      refine ⟨(List.range len).map f, .inr ⟨b, off, cap, by simp, by simpa using hl, hlb, fun j hj => ?_⟩, fun j hj => ?_, by simp; omega⟩
      · simpa using (hf' j (by simpa using hj)).2
      · simpa using (hf' j (by simpa using hj)).1
set_option maxRecDepth 10000 in
theorem one_bool : Try.prog.cellsOf 4 = 1 := by kernel_rfl
set_option maxRecDepth 10000 in
theorem open_bools {v : Value} {d : DataW H} {p : List MemPlace} (hv : Value.okWide Try.prog w r b0 51 v) (h : DataW.Trod enc Try.prog w 0 spare held 51 v d p) (hlt : ∀ x ∈ p, x.block < w.heap.size) : BoolsIn w v := by
  obtain ⟨a, len, cap, rfl⟩ := okWide_slice Try.underlying51 hv
  obtain ⟨fuel, hf⟩ := h
  rcases open_slice Try.underlying51 hf with ⟨hcs, _⟩ | ⟨a', len', cap', m, n, D, Pl, hcs, _, hl, hm, hmm, hx, hi⟩
  · simp [Value.cells] at hcs
    obtain ⟨rfl, rfl, rfl⟩ := hcs
    exact ⟨[], .inl ⟨⟨_, _, rfl⟩, rfl⟩, by simp⟩
  · simp [Value.cells] at hcs
    obtain ⟨rfl, rfl, rfl⟩ := hcs
    by_cases h0 : len = 0
    · subst h0; exact ⟨[], .inl ⟨⟨_, _, rfl⟩, rfl⟩, by simp⟩
    · have hlm : len ≤ m := by rw [hmm]; split <;> omega
      rw [one_bool] at hi
      have key : ∀ i, i < len → ∃ q : Bool, w.cell? (a'.add i) = some (.bool q) := by
        intro i hil
        obtain ⟨cs', hc, ht⟩ := hi i (by omega)
        obtain ⟨q, e, _⟩ := DataW.trod_bool Try.underlying4 ht
        subst e
        obtain ⟨_, _, hat⟩ := World.cells?_some hc
        have e0 := hat 0 (by omega)
        rw [Go.Deep.add_add] at e0
        exact ⟨q, by simpa using e0⟩
      obtain ⟨f, hf'⟩ : ∃ f : Nat → Bool, ∀ i, i < len → w.cell? (a'.add i) = some (.bool (f i)) := by
        refine ⟨fun i => if h : i < len then (key i h).choose else false, fun i hil => ?_⟩
        simp only [hil, dif_pos]
        exact (key i hil).choose_spec
      obtain ⟨b, off, spot⟩ := a'
      have h00 := hf' 0 (by omega)
      have hspot : spot = none := by simpa [Addr.add] using World.cell?_spot h00
      subst hspot
      have hlb : b < w.heap.size := World.block_lt_of_cell? w _ h00
      simp only [add_plain] at hf'
      refine ⟨(List.range len).map f, .inr ⟨b, off, cap, by simp, by simpa using hl, hlb, fun j hj => ?_⟩, by simp; omega⟩
      simpa using hf' j (by simpa using hj)
end
end Go.Proofs.Ytkephcmjigfepaa
