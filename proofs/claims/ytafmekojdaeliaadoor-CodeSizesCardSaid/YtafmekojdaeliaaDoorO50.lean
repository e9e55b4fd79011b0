/- What comes in, opened: rows of numbers, and of runs. -/
import Derived.Test.YtafmekojdaeliaaDoorO02
import Derived.Test.YtafmekojdaeliaaDoorK05
set_option linter.unusedVariables false
set_option linter.unusedSimpArgs false
namespace Go.Proofs.YtafmekojdaeliaaDoor
open Go.ChangeShapes Go.WideShapes Go.ChangeAt Go.RowKit Go.Deep
section
variable {H : Type} {enc : TypeId × Value → H} {w : World} {r : Reach} {b0 : Nat} {spare : Nat → Bool} {held : Bool}
abbrev IntsIn (w : World) (v : Value) : Prop := ∃ l : List Int, IntsAt w v l ∧ (∀ j (h : j < l.length), i64 l[j]) ∧ l.length ≤ maxLen
abbrev RunsIn (w : World) (v : Value) : Prop := ∃ l : List Run, RunsAt w v l ∧ (∀ j (h : j < l.length), i64 l[j].1 ∧ i64 l[j].2) ∧ l.length ≤ maxLen
theorem open_ilist {v : Value} {d : DataW H} {p : List MemPlace} (hv : Value.okWide Tryd.prog w r b0 32 v) (h : DataW.Trod enc Tryd.prog w 0 spare held 32 v d p) (hlt : ∀ x ∈ p, x.block < w.heap.size) : IntsIn w v := by
  obtain ⟨a, len, cap, rfl⟩ := okWide_slice Tryd.underlying32 hv
  obtain ⟨fuel, hf⟩ := h
  rcases open_slice Tryd.underlying32 hf with ⟨hcs, _⟩ | ⟨a', len', cap', m, n, D, Pl, hcs, _, hl, hm, hmm, hx, hi⟩
  · simp [Value.cells] at hcs
    obtain ⟨rfl, rfl, rfl⟩ := hcs
    exact ⟨[], .inl ⟨⟨_, _, rfl⟩, rfl⟩, fun j h => absurd h (by simp), by simp⟩
  · simp [Value.cells] at hcs
    obtain ⟨rfl, rfl, rfl⟩ := hcs
    by_cases h0 : len = 0
    · subst h0; exact ⟨[], .inl ⟨⟨_, _, rfl⟩, rfl⟩, fun j h => absurd h (by simp), by simp⟩
    · have hlm : len ≤ m := by rw [hmm]; split <;> omega
      rw [one_int] at hi
      have key : ∀ i, i < len → ∃ n : Int, i64 n ∧ w.cell? (a'.add i) = some (.int .i64 n) := by
        intro i hil
        obtain ⟨cs', hc, ht⟩ := hi i (by omega)
        obtain ⟨n, rfl, h1, h2⟩ := int_trod ht
        obtain ⟨_, _, hat⟩ := World.cells?_some hc
        have := hat 0 (by omega)
        rw [Go.Deep.add_add] at this
        exact ⟨n, ⟨h1, h2⟩, by simpa using this⟩
      obtain ⟨f, hf'⟩ : ∃ f : Nat → Int, ∀ i, i < len → i64 (f i) ∧ w.cell? (a'.add i) = some (.int .i64 (f i)) := by
        refine ⟨fun i => if h : i < len then (key i h).choose else 0, fun i hil => ?_⟩
        simp only [hil, dif_pos]
        exact (key i hil).choose_spec
      obtain ⟨b, off, spot⟩ := a'
      have h00 := (hf' 0 (by omega)).2
      have hspot : spot = none := by simpa [Addr.add] using World.cell?_spot h00
      subst hspot
      have hlb : b < w.heap.size := World.block_lt_of_cell? w _ h00
      simp only [add_plain] at hf'
      refine ⟨(List.range len).map f, .inr ⟨b, off, cap, by simp, by simpa using hl, hlb, fun j hj => ?_⟩, fun j hj => ?_, by simp; omega⟩
      · simpa using (hf' j (by simpa using hj)).2
      · simpa using (hf' j (by simpa using hj)).1
theorem run_cells : Tryd.prog.cellsOf 49 = 2 := by kernel_rfl
theorem run_trod {n : Nat} {cs : List Value} {x : DataW H × List MemPlace} (h : DataW.trod enc Tryd.prog w 0 spare held n 49 cs = some x) :
    ∃ a b : Int, cs = [.int .i64 a, .int .i64 b] ∧ i64 a ∧ i64 b := by
  obtain ⟨y0, y1, m, _, hl, g0, g1⟩ := trod_struct2 Tryd.underlying49 h
  rw [run_cells] at hl
  simp only [one_int] at g0 g1
  obtain ⟨a, ea, wa⟩ := int_trod g0
  obtain ⟨b, eb, wb⟩ := int_trod g1
  match cs, hl with
  | [c0, c1], _ =>
    simp at ea eb
    subst ea eb
    exact ⟨a, b, rfl, wa, wb⟩
theorem open_run {v : Value} {d : DataW H} {p : List MemPlace} (hv : Value.okWide Tryd.prog w r b0 49 v) (h : DataW.Trod enc Tryd.prog w 0 spare held 49 v d p) : ∃ a : Run, v = .agg #[.int .i64 a.1, .int .i64 a.2] ∧ i64 a.1 ∧ i64 a.2 := by
  obtain ⟨cs, rfl, hsz⟩ := okWide_struct Tryd.underlying49 hv
  obtain ⟨fuel, hf⟩ := h
  obtain ⟨a, b, e, wa, wb⟩ := run_trod hf
  exact ⟨(a, b), by congr 1; cases cs; simpa [Value.cells] using e, wa, wb⟩
theorem open_runs {v : Value} {d : DataW H} {p : List MemPlace} (hv : Value.okWide Tryd.prog w r b0 22 v) (h : DataW.Trod enc Tryd.prog w 0 spare held 22 v d p) (hlt : ∀ x ∈ p, x.block < w.heap.size) : RunsIn w v := by
  obtain ⟨a, len, cap, rfl⟩ := okWide_slice Tryd.underlying22 hv
  obtain ⟨fuel, hf⟩ := h
  rcases open_slice Tryd.underlying22 hf with ⟨hcs, _⟩ | ⟨a', len', cap', m, n, D, Pl, hcs, _, hl, hm, hmm, hx, hi⟩
  · simp [Value.cells] at hcs
    obtain ⟨rfl, rfl, rfl⟩ := hcs
    exact ⟨[], .inl ⟨⟨_, _, rfl⟩, rfl⟩, fun j h => absurd h (by simp), by simp⟩
  · simp [Value.cells] at hcs
    obtain ⟨rfl, rfl, rfl⟩ := hcs
    by_cases h0 : len = 0
    · subst h0; exact ⟨[], .inl ⟨⟨_, _, rfl⟩, rfl⟩, fun j h => absurd h (by simp), by simp⟩
    · have hlm : len ≤ m := by rw [hmm]; split <;> omega
      rw [run_cells] at hi
      have key : ∀ i, i < len → ∃ q : Run, (i64 q.1 ∧ i64 q.2) ∧ w.cell? (a'.add (i * 2)) = some (.int .i64 q.1) ∧ w.cell? (a'.add (i * 2 + 1)) = some (.int .i64 q.2) := by
        intro i hil
        obtain ⟨cs', hc, ht⟩ := hi i (by omega)
        obtain ⟨n1, n2, rfl, h1, h2⟩ := run_trod ht
        obtain ⟨_, _, hat⟩ := World.cells?_some hc
        have e0 := hat 0 (by omega)
        have e1 := hat 1 (by omega)
        rw [Go.Deep.add_add] at e0 e1
        exact ⟨(n1, n2), ⟨h1, h2⟩, by simpa using e0, by simpa using e1⟩
      obtain ⟨f, hf'⟩ : ∃ f : Nat → Run, ∀ i, i < len → (i64 (f i).1 ∧ i64 (f i).2) ∧ w.cell? (a'.add (i * 2)) = some (.int .i64 (f i).1) ∧ w.cell? (a'.add (i * 2 + 1)) = some (.int .i64 (f i).2) := by
        refine ⟨fun i => if h : i < len then (key i h).choose else (0, 0), fun i hil => ?_⟩
        simp only [hil, dif_pos]
        exact (key i hil).choose_spec
      obtain ⟨b, off, spot⟩ := a'
      have h00 := (hf' 0 (by omega)).2.1
      have hspot : spot = none := by simpa [Addr.add] using World.cell?_spot h00
      subst hspot
      have hlb : b < w.heap.size := World.block_lt_of_cell? w _ h00
      simp only [add_plain] at hf'
      refine ⟨(List.range len).map f, .inr ⟨b, off, cap, by simp, by simpa using hl, hlb, fun j hj => ?_⟩, fun j hj => ?_, by simp; omega⟩
      · have := (hf' j (by simpa using hj)).2
        simpa [Nat.add_assoc] using this
      · simpa using (hf' j (by simpa using hj)).1
end
end Go.Proofs.YtafmekojdaeliaaDoor
