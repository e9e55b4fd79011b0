/- Rows: a block's cells told whole, and carried from world to world. No program. -/
import Derived.Test.YtkephcmjigfepaaS01
import Derived.Laws.Rows
import Derived.Laws.Tables
import Derived.Laws.CopyOwn
set_option linter.unusedVariables false
set_option linter.unusedSimpArgs false
namespace Go.Proofs.Ytkephcmjigfepaa
open Go Go.RowKit
/-- Block b holds those cells, and may be written. -/
def RowAt (w : World) (b : Nat) (cs : Array Value) (t : TypeId) : Prop := w.heap[b]? = some (.cells cs t (0, 0))
section
variable {w w' : World} {b : Nat} {cs : Array Value} {t : TypeId}
theorem RowAt.lt (h : RowAt w b cs t) : b < w.heap.size := (Array.getElem?_eq_some_iff.1 h).1
theorem RowAt.cell (h : RowAt w b cs t) (j : Nat) : w.cell? ⟨b, j, none⟩ = cs[j]? := cell_of_row w b j cs t (0, 0) h
theorem RowAt.frozen (h : RowAt w b cs t) (j : Nat) : w.frozen? ⟨b, j, none⟩ = false := by
  unfold RowAt at h
  simp [World.frozen?, h]
theorem RowAt.keep (h : RowAt w b cs t) (hb : Below w.heap.size w w') : RowAt w' b cs t := (hb.block b h.lt).trans h
theorem RowAt.other (h : RowAt w b cs t) {p : Addr} (hp : b ≠ p.block) (v : Value) : RowAt (w.setCell p v) b cs t := (Below.heap_setCell w p v b hp).trans h
theorem RowAt.alloc (h : RowAt w b cs t) (o : Obj) : RowAt (w.alloc o) b cs t := (Below.heap_alloc w o b h.lt).trans h
theorem RowAt.new (w : World) (cs : Array Value) (t : TypeId) : RowAt (w.alloc (.cells cs t)) w.heap.size cs t := by
  show (w.heap.push _)[w.heap.size]? = _
  simp
theorem RowAt.make (w : World) (cs : Array Value) (t : TypeId) {b : Nat} (h : w.heap.size = b) : RowAt (w.alloc (.cells cs t)) b cs t := h ▸ RowAt.new w cs t
theorem RowAt.set (h : RowAt w b cs t) (k : Nat) (v : Value) : RowAt (w.setCell ⟨b, k, none⟩ v) b (cs.setIfInBounds k v) t := by
  unfold RowAt at *
  have hlt : b < w.heap.size := (Array.getElem?_eq_some_iff.1 h).1
  have hv : w.heap[b] = .cells cs t (0, 0) := (Array.getElem?_eq_some_iff.1 h).2
  simp only [World.setCell]
  rw [Array.getElem?_eq_getElem (by simpa using hlt), Array.getElem_modify]
  simp [hv]
theorem RowAt.row (h : RowAt w b cs t) (cs' : Array Value) : RowAt (w.setRow b cs') b cs' t := setRow_heap w b cs cs' t (0, 0) h
theorem RowAt.row_other (h : RowAt w b cs t) {g : Nat} (hg : b ≠ g) (cs' : Array Value) : RowAt (w.setRow g cs') b cs t := (setRow_other w g b cs' hg).trans h
end
theorem RowAt.two {w : World} {b : Nat} {x y : Value} {t : TypeId} (h : RowAt w b #[x, y] t) : w.cell? ⟨b, 0, none⟩ = some x ∧ w.cell? ⟨b, 1, none⟩ = some y := ⟨by rw [h.cell]; rfl, by rw [h.cell]; rfl⟩
theorem RowAt.one {w : World} {b : Nat} {x : Value} {t : TypeId} (h : RowAt w b #[x] t) : w.cell? ⟨b, 0, none⟩ = some x := by rw [h.cell]; rfl
end Go.Proofs.Ytkephcmjigfepaa
