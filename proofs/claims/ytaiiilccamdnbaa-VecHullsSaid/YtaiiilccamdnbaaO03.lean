/- What comes in, opened: boxes in a row. -/
import Derived.Test.YtaiiilccamdnbaaH02
set_option linter.unusedVariables false
namespace Go.Proofs.Ytaiiilccamdnbaa
open Go.ChangeShapes Go.WideShapes Go.ChangeAt Go.RowKit Go.Deep
def IsBoxes (w : World) (v : Value) : Prop := (∃ s cap, v = .slice s 0 cap) ∨
  ∃ (b off len cap : Nat) (f : Nat → V6), v = .slice (some ⟨b, off, none⟩) len cap ∧ 1 ≤ len ∧ len ≤ cap ∧ cap ≤ 9223372036854775807 ∧ RowBox w b off len f
section
variable {H : Type} {enc : TypeId × Value → H} {w : World} {r : Reach} {b0 : Nat} {spare : Nat → Bool} {held : Bool}
theorem open_boxes {v : Value} {d : DataW H} {p : List MemPlace} (hv : Value.okWide Try.prog w r b0 42 v) (h : DataW.Trod enc Try.prog w 0 spare held 42 v d p) (hlt : ∀ x ∈ p, x.block < w.heap.size) : IsBoxes w v := by
  obtain ⟨a, len, cap, rfl⟩ := okWide_slice Try.underlying42 hv
  obtain ⟨fuel, hf⟩ := h
  rcases open_slice Try.underlying42 hf with ⟨hcs, _⟩ | ⟨a', len', cap', m, n, D, Pl, hcs, _, hl, hm, hmm, hx, hi⟩
  · simp [Value.cells] at hcs
    obtain ⟨rfl, rfl, rfl⟩ := hcs
    exact .inl ⟨_, _, rfl⟩
  · simp [Value.cells] at hcs
    obtain ⟨rfl, rfl, rfl⟩ := hcs
    by_cases h0 : len = 0
    · subst h0; exact .inl ⟨_, _, rfl⟩
    · have hlm : len ≤ m := by rw [hmm]; split <;> omega
      rw [box_cells] at hi
      have key : ∀ i, i < len → ∃ a : V6, ∀ j : Nat, j < 6 → w.cell? (a'.add (i * 6 + j)) = [Value.int .i64 a.lo.x, .int .i64 a.lo.y, .int .i64 a.lo.z, .int .i64 a.hi.x, .int .i64 a.hi.y, .int .i64 a.hi.z][j]? := by
        intro i hil
        obtain ⟨cs', hc, ht⟩ := hi i (by omega)
        obtain ⟨a, rfl, _⟩ := box_trod ht
        obtain ⟨_, _, hat⟩ := World.cells?_some hc
        exact ⟨a, fun j hj => by rw [← hat j hj, Go.Deep.add_add]⟩
      obtain ⟨f, hf'⟩ : ∃ f : Nat → V6, ∀ i, i < len → ∀ j : Nat, j < 6 → w.cell? (a'.add (i * 6 + j)) = [Value.int .i64 (f i).lo.x, .int .i64 (f i).lo.y, .int .i64 (f i).lo.z, .int .i64 (f i).hi.x, .int .i64 (f i).hi.y, .int .i64 (f i).hi.z][j]? := by
        refine ⟨fun i => if h : i < len then (key i h).choose else ⟨⟨0, 0, 0⟩, ⟨0, 0, 0⟩⟩, fun i hil j hj => ?_⟩
        simp only [hil, dif_pos]
        exact (key i hil).choose_spec j hj
      obtain ⟨b, off, spot⟩ := a'
      have h00 := hf' 0 (by omega) 0 (by omega)
      have hspot : spot = none := by simpa [Addr.add] using World.cell?_spot h00
      subst hspot
      refine .inr ⟨b, off, len, cap, f, rfl, by omega, hl, by unfold maxLen at hm; exact hm, fun i hil => ?_⟩
      have hlb : b < w.heap.size := World.block_lt_of_cell? w _ h00
      have at_ := fun j hj => hf' i hil j hj
      simp only [add_plain] at at_
      exact ⟨hlb, by simpa using at_ 0 (by omega), by simpa [Nat.add_assoc] using at_ 1 (by omega), by simpa [Nat.add_assoc] using at_ 2 (by omega), by simpa [Nat.add_assoc] using at_ 3 (by omega), by simpa [Nat.add_assoc] using at_ 4 (by omega), by simpa [Nat.add_assoc] using at_ 5 (by omega)⟩
end
theorem hull_le (f : Nat → V6) : ∀ (n i : Nat), i ≤ n → ((hullF f n).lo.x ≤ (f i).lo.x ∧ (hullF f n).lo.y ≤ (f i).lo.y ∧ (hullF f n).lo.z ≤ (f i).lo.z) ∧ ((f i).hi.x ≤ (hullF f n).hi.x ∧ (f i).hi.y ≤ (hullF f n).hi.y ∧ (f i).hi.z ≤ (hullF f n).hi.z)
  | 0, i, h => by
    obtain rfl : i = 0 := by omega
    exact ⟨⟨Int.le_refl _, Int.le_refl _, Int.le_refl _⟩, ⟨Int.le_refl _, Int.le_refl _, Int.le_refl _⟩⟩
  | n + 1, i, h => by
    rw [hullF, merge]
    by_cases hi : i = n + 1
    · subst hi
      refine ⟨⟨?_, ?_, ?_⟩, ⟨?_, ?_, ?_⟩⟩ <;> simp only [] <;> omega
    · have ih := hull_le f n i (by omega)
      refine ⟨⟨?_, ?_, ?_⟩, ⟨?_, ?_, ?_⟩⟩ <;> simp only [] <;> omega
end Go.Proofs.Ytaiiilccamdnbaa
