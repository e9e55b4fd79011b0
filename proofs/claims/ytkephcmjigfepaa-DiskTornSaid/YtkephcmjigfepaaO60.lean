/- What comes in, opened: a byte, and rows of bytes. -/
import Derived.Test.YtkephcmjigfepaaO02
import Derived.Test.YtkephcmjigfepaaK6B
set_option linter.unusedVariables false
set_option linter.unusedSimpArgs false
namespace Go.Proofs.Ytkephcmjigfepaa
open Go.ChangeShapes Go.WideShapes Go.ChangeAt Go.RowKit Go.Deep
section
variable {H : Type} {enc : TypeId × Value → H} {w : World} {r : Reach} {b0 base : Nat} {spare : Nat → Bool} {held : Bool}
abbrev BytsIn (w : World) (v : Value) : Prop := ∃ l : List Int, BytsAt w v l ∧ bytOk l ∧ l.length ≤ maxLen
set_option maxRecDepth 10000 in
theorem one_byte : Try.prog.cellsOf 5 = 1 := by kernel_rfl
set_option maxRecDepth 10000 in
theorem wf_u8 {a : Int} (h : (Lit.int .u8 a).wf = true) : 0 ≤ a ∧ a ≤ 255 := by
  have h1 : IntKind.u8.min = 0 := rfl
  have h2 : IntKind.u8.max = 255 := rfl
  simp only [Lit.wf, Bool.and_eq_true, decide_eq_true_eq] at h
  omega
set_option maxRecDepth 10000 in
theorem byte_trod {n : Nat} {cs : List Value} {x : DataW H × List MemPlace} (h : DataW.trod enc Try.prog w base spare held n 5 cs = some x) : ∃ a : Int, cs = [.int .u8 a] ∧ 0 ≤ a ∧ a ≤ 255 := by
  obtain ⟨a, e, _, wf⟩ := DataW.trod_int Try.underlying5 h
  exact ⟨a, e, wf_u8 wf⟩
set_option maxRecDepth 10000 in
theorem open_byte {v : Value} {d : DataW H} {p : List MemPlace} (hv : Value.okWide Try.prog w r b0 5 v) (h : DataW.Trod enc Try.prog w base spare held 5 v d p) :
    ∃ a : Int, v = .int .u8 a ∧ 0 ≤ a ∧ a ≤ 255 := by
  obtain ⟨a, rfl, _, _, wf⟩ := open_int Try.underlying5 hv h
  exact ⟨a, rfl, wf_u8 wf⟩
set_option maxRecDepth 10000 in
theorem open_byts {v : Value} {d : DataW H} {p : List MemPlace} (hv : Value.okWide Try.prog w r b0 32 v) (h : DataW.Trod enc Try.prog w 0 spare held 32 v d p) (hlt : ∀ x ∈ p, x.block < w.heap.size) : BytsIn w v := by
  obtain ⟨a, len, cap, rfl⟩ := okWide_slice Try.underlying32 hv
  obtain ⟨fuel, hf⟩ := h
  rcases open_slice Try.underlying32 hf with ⟨hcs, _⟩ | ⟨a', len', cap', m, n, D, Pl, hcs, _, hl, hm, hmm, hx, hi⟩
  · simp [Value.cells] at hcs
    obtain ⟨rfl, rfl, rfl⟩ := hcs
    exact ⟨[], .inl ⟨⟨_, _, rfl⟩, rfl⟩, by simp [bytOk], by simp⟩
  · simp [Value.cells] at hcs
    obtain ⟨rfl, rfl, rfl⟩ := hcs
    by_cases h0 : len = 0
    · subst h0; exact ⟨[], .inl ⟨⟨_, _, rfl⟩, rfl⟩, by simp [bytOk], by simp⟩
    · have hlm : len ≤ m := by rw [hmm]; split <;> omega
      rw [one_byte] at hi
      have key : ∀ i, i < len → ∃ n : Int, (0 ≤ n ∧ n ≤ 255) ∧ w.cell? (a'.add i) = some (.int .u8 n) := by
        intro i hil
        obtain ⟨cs', hc, ht⟩ := hi i (by omega)
        obtain ⟨n, rfl, h1, h2⟩ := byte_trod ht
        obtain ⟨_, _, hat⟩ := World.cells?_some hc
        have := hat 0 (by omega)
        rw [Go.Deep.add_add] at this
        exact ⟨n, ⟨h1, h2⟩, by simpa using this⟩
      obtain ⟨f, hf'⟩ : ∃ f : Nat → Int, ∀ i, i < len → (0 ≤ f i ∧ f i ≤ 255) ∧ w.cell? (a'.add i) = some (.int .u8 (f i)) := by
        refine ⟨fun i => if h : i < len then (key i h).choose else 0, fun i hil => ?_⟩
        simp only [hil, dif_pos]
        exact (key i hil).choose_spec
      obtain ⟨b, off, spot⟩ := a'
      have h00 := (hf' 0 (by omega)).2
      have hspot : spot = none := by simpa [Addr.add] using World.cell?_spot h00
      subst hspot
      have hlb : b < w.heap.size := World.block_lt_of_cell? w _ h00
      simp only [add_plain] at hf'
      refine ⟨(List.range len).map f, .inr ⟨b, off, cap, by simp, by simpa using hl, hlb, fun j hj => ?_⟩, fun x hx => ?_, by simp; omega⟩
      · simpa using (hf' j (by simpa using hj)).2
      · obtain ⟨j, hj, rfl⟩ := List.mem_map.1 hx
        exact (hf' j (List.mem_range.1 hj)).1
end
end Go.Proofs.Ytkephcmjigfepaa
