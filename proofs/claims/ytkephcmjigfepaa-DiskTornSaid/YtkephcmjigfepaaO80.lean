/- What comes in, opened: deeds (three numbers and bytes), rows of rows of bytes, rows of truths. -/
import Derived.Test.YtkephcmjigfepaaO60
import Derived.Lib.SmallJoins
set_option linter.unusedVariables false
set_option linter.unusedSimpArgs false
namespace Go.Proofs.Ytkephcmjigfepaa
open Go.ChangeShapes Go.WideShapes Go.ChangeAt Go.RowKit Go.Deep
section
variable {H : Type} {enc : TypeId × Value → H} {w : World} {r : Reach} {b0 base : Nat} {spare : Nat → Bool} {held : Bool}
set_option maxRecDepth 10000 in
/-- A row of bytes, out of what it is told as. -/
theorem byts_trod {fuel : Nat} {cs : List Value} {x : DataW H × List MemPlace} (hf : DataW.trod enc Try.prog w 0 spare held fuel 32 cs = some x) : ∃ v, cs = [v] ∧ BytsIn w v := by
  rcases open_slice Try.underlying32 hf with ⟨hcs, _⟩ | ⟨a', len', cap', m, n, D, Pl, hcs, _, hl, hm, hmm, hx, hi⟩
  · exact ⟨_, hcs, [], .inl ⟨⟨_, _, rfl⟩, rfl⟩, by simp [bytOk], by simp⟩
  · refine ⟨_, hcs, ?_⟩
    by_cases h0 : len' = 0
    · subst h0; exact ⟨[], .inl ⟨⟨_, _, rfl⟩, rfl⟩, by simp [bytOk], by simp⟩
    · have hlm : len' ≤ m := by rw [hmm]; split <;> omega
      rw [one_byte] at hi
      have key : ∀ i, i < len' → ∃ n : Int, (0 ≤ n ∧ n ≤ 255) ∧ w.cell? (a'.add i) = some (.int .u8 n) := by
        intro i hil
        obtain ⟨cs', hc, ht⟩ := hi i (by omega)
        obtain ⟨n, rfl, h1, h2⟩ := byte_trod ht
        obtain ⟨_, _, hat⟩ := World.cells?_some hc
        have := hat 0 (by omega)
        rw [Go.Deep.add_add] at this
        exact ⟨n, ⟨h1, h2⟩, by simpa using this⟩
      obtain ⟨f, hf'⟩ : ∃ f : Nat → Int, ∀ i, i < len' → (0 ≤ f i ∧ f i ≤ 255) ∧ w.cell? (a'.add i) = some (.int .u8 (f i)) := by
        refine ⟨fun i => if h : i < len' then (key i h).choose else 0, fun i hil => ?_⟩
        simp only [hil, dif_pos]
        exact (key i hil).choose_spec
      obtain ⟨b, off, spot⟩ := a'
      have h00 := (hf' 0 (by omega)).2
      have hspot : spot = none := by simpa [Addr.add] using World.cell?_spot h00
      subst hspot
      have hlb : b < w.heap.size := World.block_lt_of_cell? w _ h00
      simp only [add_plain] at hf'
      refine ⟨(List.range len').map f, .inr ⟨b, off, cap', by simp, by simpa using hl, hlb, fun j hj => ?_⟩, fun x hx => ?_, by simp; omega⟩
      · simpa using (hf' j (by simpa using hj)).2
      · obtain ⟨j, hj, rfl⟩ := List.mem_map.1 hx
        exact (hf' j (List.mem_range.1 hj)).1
set_option maxRecDepth 10000 in
theorem one_bytes : Try.prog.cellsOf 32 = 1 := by kernel_rfl
/-- A deed: its kind, key and number, its bytes' slice, and the bytes. -/
structure Deed8 where
  kind : Int
  key : Int
  num : Int
  vb : Value
  B : List Int
def Deed8.ok (w : World) (x : Deed8) : Prop := i64 x.kind ∧ i64 x.key ∧ i64 x.num ∧ BytsAt w x.vb x.B ∧ bytOk x.B ∧ x.B.length ≤ maxLen
def DeedsAt (w : World) (v : Value) (l : List Deed8) : Prop :=
  ((∃ p cap, v = .slice p 0 cap) ∧ l = []) ∨ ∃ g off cap, v = .slice (some ⟨g, off, none⟩) l.length cap ∧ l.length ≤ cap ∧ g < w.heap.size ∧
    ∀ j (h : j < l.length), w.cell? ⟨g, off + j * 4, none⟩ = some (.int .i64 l[j].kind) ∧ w.cell? ⟨g, off + j * 4 + 1, none⟩ = some (.int .i64 l[j].key) ∧ w.cell? ⟨g, off + j * 4 + 2, none⟩ = some (.int .i64 l[j].num) ∧ w.cell? ⟨g, off + j * 4 + 3, none⟩ = some l[j].vb
abbrev DeedsIn (w : World) (v : Value) : Prop := ∃ l : List Deed8, DeedsAt w v l ∧ (∀ j (h : j < l.length), l[j].ok w) ∧ l.length ≤ maxLen
set_option maxRecDepth 10000 in
theorem deed_cells : Try.prog.cellsOf 34 = 4 := by kernel_rfl
set_option maxRecDepth 10000 in
theorem deed_trod {n : Nat} {cs : List Value} {x : DataW H × List MemPlace} (h : DataW.trod enc Try.prog w 0 spare held n 34 cs = some x) :
    ∃ y : Deed8, cs = [.int .i64 y.kind, .int .i64 y.key, .int .i64 y.num, y.vb] ∧ y.ok w := by
  obtain ⟨y0, y1, y2, y3, m, _, hl, g0, g1, g2, g3⟩ := Joins.trod_struct4 Try.underlying34 h
  rw [deed_cells] at hl
  simp only [one_int, one_bytes] at g0 g1 g2 g3
  obtain ⟨a, ea, wa⟩ := int_trod g0
  obtain ⟨b, eb, wb⟩ := int_trod g1
  obtain ⟨c, ec, wc⟩ := int_trod g2
  obtain ⟨v, ev, B, hB, oB, lB⟩ := byts_trod g3
  match cs, hl with
  | [c0, c1, c2, c3], _ =>
    simp at ea eb ec ev
    subst ea eb ec ev
    exact ⟨⟨a, b, c, c3, B⟩, rfl, wa, wb, wc, hB, oB, lB⟩
set_option maxRecDepth 10000 in
theorem open_deeds {v : Value} {d : DataW H} {p : List MemPlace} (hv : Value.okWide Try.prog w r b0 22 v) (h : DataW.Trod enc Try.prog w 0 spare held 22 v d p) (hlt : ∀ x ∈ p, x.block < w.heap.size) : DeedsIn w v := by
  obtain ⟨a, len, cap, rfl⟩ := okWide_slice Try.underlying22 hv
  obtain ⟨fuel, hf⟩ := h
  rcases open_slice Try.underlying22 hf with ⟨hcs, _⟩ | ⟨a', len', cap', m, n, D, Pl, hcs, _, hl, hm, hmm, hx, hi⟩
  · simp [Value.cells] at hcs
    obtain ⟨rfl, rfl, rfl⟩ := hcs
    exact ⟨[], .inl ⟨⟨_, _, rfl⟩, rfl⟩, fun j h => absurd h (by simp), by simp⟩
  · simp [Value.cells] at hcs
    obtain ⟨rfl, rfl, rfl⟩ := hcs
    by_cases h0 : len = 0
    · subst h0; exact ⟨[], .inl ⟨⟨_, _, rfl⟩, rfl⟩, fun j h => absurd h (by simp), by simp⟩
    · have hlm : len ≤ m := by rw [hmm]; split <;> omega
      rw [deed_cells] at hi
      have key : ∀ i, i < len → ∃ q : Deed8, q.ok w ∧ w.cell? (a'.add (i * 4)) = some (.int .i64 q.kind) ∧ w.cell? (a'.add (i * 4 + 1)) = some (.int .i64 q.key) ∧ w.cell? (a'.add (i * 4 + 2)) = some (.int .i64 q.num) ∧ w.cell? (a'.add (i * 4 + 3)) = some q.vb := by
        intro i hil
        obtain ⟨cs', hc, ht⟩ := hi i (by omega)
        obtain ⟨q, rfl, ok⟩ := deed_trod ht
        obtain ⟨_, _, hat⟩ := World.cells?_some hc
        have e0 := hat 0 (by omega)
        have e1 := hat 1 (by omega)
        have e2 := hat 2 (by omega)
        have e3 := hat 3 (by omega)
        rw [Go.Deep.add_add] at e0 e1 e2 e3
        exact ⟨q, ok, by simpa using e0, by simpa using e1, by simpa using e2, by simpa using e3⟩
      obtain ⟨f, hf'⟩ : ∃ f : Nat → Deed8, ∀ i, i < len → (f i).ok w ∧ w.cell? (a'.add (i * 4)) = some (.int .i64 (f i).kind) ∧ w.cell? (a'.add (i * 4 + 1)) = some (.int .i64 (f i).key) ∧ w.cell? (a'.add (i * 4 + 2)) = some (.int .i64 (f i).num) ∧ w.cell? (a'.add (i * 4 + 3)) = some (f i).vb := by
        refine ⟨fun i => if h : i < len then (key i h).choose else ⟨0, 0, 0, .slice none 0 0, []⟩, fun i hil => ?_⟩
        simp only [hil, dif_pos]
        exact (key i hil).choose_spec
      obtain ⟨b, off, spot⟩ := a'
      have h00 := (hf' 0 (by omega)).2.1
      have hspot : spot = none := by simpa [Addr.add] using World.cell?_spot h00
      subst hspot
      have hlb : b < w.heap.size := World.block_lt_of_cell? w _ h00
      simp only [add_plain] at hf'
      refine ⟨(List.range len).map f, .inr ⟨b, off, cap, by simp, by simpa using hl, hlb, fun j hj => ?_⟩, fun j hj => ?_, by simp; omega⟩
      · have := (hf' j (by simpa using hj)).2
        simpa [Nat.add_assoc] using this
      · simpa using (hf' j (by simpa using hj)).1
end
end Go.Proofs.Ytkephcmjigfepaa
