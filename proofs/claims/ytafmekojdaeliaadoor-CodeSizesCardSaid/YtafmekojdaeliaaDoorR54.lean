/- Contracts of layer 5's reference (runs): At, Set, Fill. -/
import Derived.Test.YtafmekojdaeliaaDoorR51
set_option linter.unusedVariables false
set_option linter.unusedSimpArgs false
namespace Go.Proofs.YtafmekojdaeliaaDoor
open Go.ChangeShapes Go.WideShapes Go.ChangeAt Go.RowKit
def atF (C : List Int) (i : Int) : Int := if 0 ≤ i ∧ i < C.length then C[i.toNat]! else -1
def setF (C : List Int) (i b : Int) : List Int := if mayB b = true ∧ 0 ≤ i ∧ i < C.length then C.set i.toNat b else C
/-- The first k cells filled. -/
def fillF (C : List Int) (f t b : Int) (k : Nat) : List Int := C.mapIdx fun j c => if mayB b = true ∧ f ≤ j ∧ (j : Int) < t ∧ j < k then b else c
theorem fillF_length (C : List Int) (f t b : Int) (k : Nat) : (fillF C f t b k).length = C.length := by simp [fillF]
theorem fillF_zero (C : List Int) (f t b : Int) : fillF C f t b 0 = C := by
  apply List.ext_getElem (by simp [fillF])
  intro j h1 h2
  simp [fillF]
theorem fillF_skip (C : List Int) (f t b : Int) (k : Nat) (h : ¬ (mayB b = true ∧ f ≤ k ∧ (k : Int) < t)) : fillF C f t b (k + 1) = fillF C f t b k := by
  apply List.ext_getElem (by simp [fillF])
  intro j h1 h2
  simp only [fillF, List.getElem_mapIdx]
  by_cases hj : j = k
  · subst hj
    rw [if_neg (fun h' => h ⟨h'.1, h'.2.1, h'.2.2.1⟩), if_neg (fun h' => h ⟨h'.1, h'.2.1, h'.2.2.1⟩)]
  · congr 1
    apply propext
    constructor
    · intro h'; exact ⟨h'.1, h'.2.1, h'.2.2.1, by omega⟩
    · intro h'; exact ⟨h'.1, h'.2.1, h'.2.2.1, by omega⟩
theorem fillF_put (C : List Int) (f t b : Int) (k : Nat) (h : mayB b = true ∧ f ≤ k ∧ (k : Int) < t) : fillF C f t b (k + 1) = (fillF C f t b k).set k b := by
  apply List.ext_getElem (by simp [fillF])
  intro j h1 h2
  rw [List.getElem_set]
  simp only [fillF, List.getElem_mapIdx]
  by_cases hj : k = j
  · subst hj
    rw [if_pos ⟨h.1, h.2.1, h.2.2, by omega⟩, if_pos rfl]
  · rw [if_neg hj]
    congr 1
    apply propext
    constructor
    · intro h'; exact ⟨h'.1, h'.2.1, h'.2.2.1, by omega⟩
    · intro h'; exact ⟨h'.1, h'.2.1, h'.2.2.1, by omega⟩
