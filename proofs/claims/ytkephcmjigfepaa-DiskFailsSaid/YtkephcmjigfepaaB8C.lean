/- The landed disk: New. -/
import Derived.Test.YtkephcmjigfepaaB8B
import Derived.Lib.MinMax
import Derived.Carry
set_option linter.unusedVariables false
set_option linter.unusedSimpArgs false
namespace Go.Proofs.Ytkephcmjigfepaa
open Go.ChangeShapes Go.WideShapes Go.ChangeAt Go.RowKit
theorem heap_at_alloc (w : World) (o : Obj) : (w.alloc o).heap[w.heap.size]? = some o := by
  show (w.heap.push o)[w.heap.size]? = _
  simp
theorem new_blocks {w w' : World} {m n : Nat} (hm : m = w.heap.size + 1) (hn : n = w.heap.size + 2) (cs : Array Value) (t : TypeId) (e : w' = ((w.alloc (.map #[] 0)).alloc (.map #[] 0)).alloc (.cells cs t)) :
    MapAt w' w.heap.size [] ∧ MapAt w' m [] ∧ RowAt w' n cs t ∧ w'.heap.size = w.heap.size + 3 ∧ Below w.heap.size w w' := by
  subst hm hn e
  have s1 : (w.alloc (.map #[] 0)).heap.size = w.heap.size + 1 := by simp
  have s2 : ((w.alloc (.map #[] 0)).alloc (.map #[] 0)).heap.size = w.heap.size + 2 := by simp
  have m1 := MapAt.new w
  have m2 := MapAt.new (w.alloc (.map #[] 0))
  rw [s1] at m2
  have r3 := RowAt.new ((w.alloc (.map #[] 0)).alloc (.map #[] 0)) cs t
  rw [s2] at r3
  refine ⟨(m1.keep (al (Below.refl _ _) _)).keep (al (Below.refl _ _) _), m2.keep (al (Below.refl _ _) _), r3, by simp, al (al (al (Below.refl _ _) _) _) _⟩
theorem LD.new {w w' : World} {m n : Nat} (hm : m = w.heap.size + 1) (hn : n = w.heap.size + 2) (room : Int)
    (e : w' = ((w.alloc (.map #[] 0)).alloc (.map #[] 0)).alloc (.cells #[.int .i64 (min (max room 0) 1048576), .map (some w.heap.size), .int .i64 0, .map (some m), .slice none 0 0, .bool false, .int .i64 0] 57)) :
    LD w' (fun x => w.heap.size ≤ x ∧ x < w.heap.size + 3) n w.heap.size m (.slice none 0 0) [] [] [] (newSt room) := by
  obtain ⟨m1, m2, r, hs, hb⟩ := new_blocks hm hn _ _ e
  refine ⟨r, m1, m2, World.ownsRow_nil _ _ _ _, .nil, .nil, .nil, by omega, by omega, by omega, fun g hg => (by cases hg), by omega, fun x hx => by omega, fun x c t f hx ht => ?_⟩
  have h3 : x = w.heap.size ∨ x = m ∨ x = n := by omega
  rcases h3 with rfl | rfl | rfl
  · exact (m1.nocells ht).elim
  · exact (m2.nocells ht).elim
  · unfold RowAt at r
    rw [ht] at r
    simp only [Option.some.injEq, Obj.cells.injEq] at r
    exact notcalm (.inl r.2.1)
theorem b8_new (room : Int) (w : World) (hr : i64 room) : Calls Try.prog 10 #[.int .i64 room] w fun e w' => ∃ p F, e = .returned p ∧ DiskAt w' F p (newSt room) ∧ (∀ b, F b → w.heap.size ≤ b) ∧ Below w.heap.size w w' := by
  have hmm := @run_makeMap Try.prog
  obtain ⟨M, hM⟩ : ∃ M, min (max room 0) 1048576 = M := ⟨_, rfl⟩
  have hL := fun (w' : World) (m n : Nat) (hm : m = w.heap.size + 1) (hn : n = w.heap.size + 2) (e : w' = _) => LD.new (w := w) (w' := w') (m := m) (n := n) hm hn room e
  rw [hM] at hL
  have HL := Lib.hid hL
  clear hL
  go_enter Try.func10, Try.ntmps10
  go_wp2
  go_ret
  have hL := HL.out _ (w.heap.size + 1) _ rfl rfl rfl
  exact ⟨_, _, rfl, ⟨_, _, _, _, _, _, _, rfl, hL⟩, fun b hb => hb.1, al (al (al (Below.refl _ _) _) _) _⟩
end Go.Proofs.Ytkephcmjigfepaa
