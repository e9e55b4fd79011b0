/- Contracts of layer 5 (runs), of the landed code: all of them; here: Cells (a range over a function, in which a row grows). -/
import Derived.Test.YtafmekojdaeliaaDoorB51
import Derived.Test.YtafmekojdaeliaaDoorB5C
import Derived.RangeFuncBox
set_option linter.unusedVariables false
set_option linter.unusedSimpArgs false
namespace Go.Proofs.YtafmekojdaeliaaDoor
open Go.ChangeShapes Go.WideShapes Go.ChangeAt Go.RowKit Go.Shelf
attribute [local go_sem] Oper.semAt_some
/-- The law of a range over a function, whatever the iterator asks of a round. -/
theorem wpIn_rangeK {F : Fence} {n : Nat} {P : Program} {α : Type} {g : Operand} {ps : Array Tmp} {assign body : Code} {Q : Exit → Act → World → Prop} {a : Act} {w : World} {Kp : World → World → Prop} (upd : α → Array Value → Array Value)
    (hKt : ∀ {A B C : World}, Kp A B → Kp B C → Kp A C) (hKb : ∀ (W : World) (l : Nat) (o o' : Obj), w.heap.size ≤ l → W.heap[l]? = some o → o.isCells = false → o.isWalk = false → Kp W (W.putObj l o'))
    (hro : F.round = none) (h1 : 1 ≤ n) {gf : Nat} {lb : Array Value} (hg : a.eval g = .func (.func gf) #[] lb) (hFg : F.fn gf) (eg : ∀ args w, (callFunc gf args).run P w = .ok (.enter gf args) w)
    {encs : α → Array Value} {S Sp : List α → Prop} {N : Nat} (hseq : SeqStopsK F (n - 1) P gf lb encs Kp S Sp N w) (hps : ∀ x, (encs x).size = ps.size)
    (I : List α → World → Prop) (Ix : Code → List α → World → Prop) (hI : OwnFrom w.heap.size I) (hIx : ∀ c, OwnFrom w.heap.size (Ix c)) (h0 : I [] w)
    (hassign : ∀ (l : Nat) (x : α) (W : World) (K : Act → World → Prop), K { tmps := upd x a.tmps, defers := [] } W →
      assign.wpIn (F.inRound l) (n - 1 - 1) P (Exit.then K (fun _ _ _ => False)) { tmps := (ps.zip (encs x)).foldl (fun t (p, v) => t.setIfInBounds p v) a.tmps, defers := [] } W)
    (hbody : ∀ (l : Nat) (pre : List α) (x : α) (W : World), I pre W → pre.length < N → body.wpIn (F.inRound l) (n - 1 - 1) P (ownPostK Kp I Ix (pre ++ [x]) W) { tmps := upd x a.tmps, defers := [] } W)
    (hdone : ∀ (D : Nat) (xs : List α) (W : World), w.heap.size ≤ D → S xs → I xs W → W.heap[D]? = some (.deferred (some [])) → Q .normal { a with defers := { target := .collected D, args := #[] } :: a.defers } W)
    (hstop : ∀ (D : Nat) (c : Code) (pre : List α) (W : World), w.heap.size ≤ D → Sp pre → Ix c pre W → W.heap[D]? = some (.deferred (some [])) → c.wpIn F n P Q { a with defers := { target := .collected D, args := #[] } :: a.defers } W) :
    (Code.rangeFunc g ps assign body).wpIn F n P Q a w :=
  wpIn_rangeFunc_ownF hro h1 hg hFg eg hseq hKt hKb (Below.refl _ _) hps I Ix hI hIx h0 (fun x => { tmps := upd x a.tmps, defers := [] }) hassign hbody hdone hstop
theorem KeptT.whole {lo hi : Nat} {A B : World} (h : KeptT 0 0 A B) : KeptT lo hi A B := ⟨h.size, fun b c t f _ ht hc => h.rows b c t f (.inr (Nat.zero_le _)) ht hc⟩
theorem KeptT.putObj {W : World} {l : Nat} {o o' : Obj} (h : W.heap[l]? = some o) (hc : o.isCells = false) : KeptT 0 0 W (W.putObj l o') :=
  ⟨by simp [World.putObj], fun b c t f _ _ hb => (World.putObj_heap_other (by
    rintro rfl
    rw [h] at hb
    cases hb
    simp [Obj.isCells] at hc)).trans hb⟩
/-- A row of whole numbers that grows, and its variable: no row of runs is touched. -/
theorem KeptT.app {W w1 : World} {B base n : Nat} {v x : Value} {xs : List Value} {tmp : Obj} (hb : Boxed W B 32 v) (ho : W.ownsRow base 3 1 v n xs) (hg : (W.alloc tmp).grownBy w1 v.ownBlock) : KeptT 0 0 W (w1.setCell ⟨B, 0, none⟩ x) := by
  refine ⟨by have := hg.size; simp [World.setCell] at *; omega, fun b c t f _ ht hc => ?_⟩
  have hlt : b < W.heap.size := (Array.getElem?_eq_some_iff.1 hc).1
  have h1 : (W.alloc tmp).heap[b]? = W.heap[b]? := Below.heap_alloc _ _ _ (by omega)
  have hne : some b ≠ v.ownBlock := fun e => by
    rcases ho.2 with ⟨rfl, _⟩ | ⟨g, cap, cur, rfl, _, hgb, _⟩
    · simp [Value.ownBlock] at e
    · obtain rfl : b = g := by simpa [Value.ownBlock] using e
      rw [hgb] at hc
      cases hc
      revert ht
      decide
  have hnB : b ≠ B := by
    rintro rfl
    rw [show W.heap[b]? = _ from hb] at hc
    cases hc
    revert ht
    decide
  rw [Below.heap_setCell _ _ _ b hnB, hg.block b (by simp; omega) hne, h1]
  exact hc
theorem pairsF_snd (C : List Int) : (pairsF C).map (·.2) = C := by
  apply List.ext_getElem
  · simp [pairsF]
  · intro j h1 h2
    simp [pairsF]
