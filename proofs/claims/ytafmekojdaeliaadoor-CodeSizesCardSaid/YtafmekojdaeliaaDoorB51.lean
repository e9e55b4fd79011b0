/- Contract of layer 5's All (cells, told in a range over a function), of the landed code. -/
import Derived.Test.YtafmekojdaeliaaDoorB5D
import Derived.RangeFuncNested
import Derived.RangeFuncFrom
import Derived.RangeFuncBound
import Derived.RangeFuncCalls
import Derived.RangeFuncLeaves
import Derived.Shelf.Abstract
import Derived.Shelf.RegionOpen
import Derived.OwnWalkIn
import Derived.TacticsInMore
import Derived.LoopNIn
import Derived.LoopIn
set_option linter.unusedVariables false
set_option linter.unusedSimpArgs false
namespace Go.Proofs.YtafmekojdaeliaaDoor
open Go.ChangeShapes Go.WideShapes Go.ChangeAt Go.RowKit Go.Shelf
attribute [local go_sem] Oper.semAt_some
def pairsF (C : List Int) : List (Int × Int) := C.mapIdx fun j c => ((j : Int), c)
abbrev pairV (x : Int × Int) : Array Value := #[.int .i64 x.1, .int .i64 x.2]
theorem pairsF_length (C : List Int) : (pairsF C).length = C.length := by simp [pairsF]
theorem pairsF_at (C : List Int) (k : Nat) (h : k < C.length) : (pairsF C)[k]? = some ((k : Int), C[k]) := by simp [pairsF, h]
theorem pairsF_take (C : List Int) (k : Nat) (h : k < C.length) : (pairsF C).take (k + 1) = (pairsF C).take k ++ [((k : Int), C[k])] := by
  rw [take_succ_get _ k (by rw [pairsF_length]; exact h)]
  congr 2
  simp [pairsF]
/-- What a round that goes on keeps: whatever lay below lo, and the cells that lie from hi on. -/
structure Kept (lo hi : Nat) (W W' : World) : Prop where
  below : Below lo W W'
  above : ∀ b c t f, hi ≤ b → W.heap[b]? = some (.cells c t f) → W'.heap[b]? = some (.cells c t f)
theorem Kept.refl (lo hi : Nat) (W : World) : Kept lo hi W W := ⟨Below.refl _ _, fun _ _ _ _ _ h => h⟩
theorem Kept.trans {lo hi : Nat} {A B C : World} (h : Kept lo hi A B) (k : Kept lo hi B C) : Kept lo hi A C := ⟨h.below.trans k.below, fun b c t f hb hc => k.above b c t f hb (h.above b c t f hb hc)⟩
theorem Kept.of {lo hi : Nat} {A B : World} (h : Below A.heap.size A B) (hl : lo ≤ A.heap.size) : Kept lo hi A B := ⟨h.mono hl, fun b c t f _ hc => (h.block b (Array.getElem?_eq_some_iff.1 hc).1).trans hc⟩
theorem Kept.set {lo hi : Nat} (A : World) {b o : Nat} (v : Value) (h0 : lo ≤ b) (h1 : b < hi) : Kept lo hi A (A.setCell ⟨b, o, none⟩ v) :=
  ⟨(Below.refl _ _).setCell (p := ⟨b, o, none⟩) h0 v, fun k c t f hk hc => (Below.heap_setCell A ⟨b, o, none⟩ v k (by show k ≠ b; omega)).trans hc⟩
theorem Kept.row {lo hi : Nat} {A B : World} (h : Kept lo hi A B) {b : Nat} {cs : Array Value} {t : TypeId} (hb : hi ≤ b) (r : RowAt A b cs t) : RowAt B b cs t := h.above b _ _ _ hb r
theorem keptK {lo hi : Nat} {w : World} (hl : lo ≤ w.heap.size) (hh : hi ≤ w.heap.size) (W : World) (l : Nat) (o o' : Obj) (h : w.heap.size ≤ l) (ho : W.heap[l]? = some o) (hc : o.isCells = false) (hw : o.isWalk = false) : Kept lo hi W (W.putObj l o') :=
  ⟨belowK_b hl W l o o' h ho hc hw, fun b c t f _ hb => (World.putObj_heap_other (by
    rintro rfl
    rw [ho] at hb
    cases hb
    simp [Obj.isCells] at hc)).trans hb⟩
/-- What a range over the function is told. -/
def Tells (P : Program) (gf : Nat) (lb : Array Value) (C : List Int) (lo : Nat) (w : World) : Prop := ∀ n, 1 ≤ n → SeqStopsK Fence.wide n P gf lb pairV (Kept lo w.heap.size) (fun ys => ys = pairsF C) (fun pre => pre <+: pairsF C) C.length w
theorem cell_other {W : World} {b o b' o' : Nat} {v : Value} (h : b ≠ b') : (W.setCell ⟨b', o', none⟩ v).cell? ⟨b, o, none⟩ = W.cell? ⟨b, o, none⟩ := by
  unfold World.cell?
  simp only [Below.heap_setCell W ⟨b', o', none⟩ v b h]
theorem grown_of {A B : World} (h : Below A.heap.size A B) : A.grownBy B none := ⟨h.os, h.tape, h.output, h.size, fun k hk _ => h.block k hk⟩
theorem abides {β : Type} {B : Nat} {J : β → World → Prop} (h : AbidesFrom B J) {s : β} {X Y : World} (hs : J s X) (hb : Below X.heap.size X Y) : J s Y := h s X Y none hs (grown_of hb) (fun r e => by cases e)
/-- The law of a range over a function, the loop's variables laid by 'upd'. -/
theorem wpIn_range {F : Fence} {n : Nat} {P : Program} {α : Type} {g : Operand} {ps : Array Tmp} {assign body : Code} {Q : Exit → Act → World → Prop} {a : Act} {w : World} (upd : α → Array Value → Array Value)
    (hro : F.round = none) (h1 : 1 ≤ n) {gf : Nat} {lb : Array Value} (hg : a.eval g = .func (.func gf) #[] lb) (hFg : F.fn gf) (eg : ∀ args w, (callFunc gf args).run P w = .ok (.enter gf args) w)
    {encs : α → Array Value} {lo : Nat} {S Sp : List α → Prop} {N : Nat} (hseq : SeqStopsK F (n - 1) P gf lb encs (Kept lo w.heap.size) S Sp N w) (hlo : lo ≤ w.heap.size) (hps : ∀ x, (encs x).size = ps.size)
    (I : List α → World → Prop) (Ix : Code → List α → World → Prop) (hI : OwnFrom w.heap.size I) (hIx : ∀ c, OwnFrom w.heap.size (Ix c)) (h0 : I [] w)
    (hassign : ∀ (l : Nat) (x : α) (W : World) (K : Act → World → Prop), K { tmps := upd x a.tmps, defers := [] } W →
      assign.wpIn (F.inRound l) (n - 1 - 1) P (Exit.then K (fun _ _ _ => False)) { tmps := (ps.zip (encs x)).foldl (fun t (p, v) => t.setIfInBounds p v) a.tmps, defers := [] } W)
    (hbody : ∀ (l : Nat) (pre : List α) (x : α) (W : World), I pre W → pre.length < N → body.wpIn (F.inRound l) (n - 1 - 1) P (ownPostK (Kept lo w.heap.size) I Ix (pre ++ [x]) W) { tmps := upd x a.tmps, defers := [] } W)
    (hdone : ∀ (D : Nat) (xs : List α) (W : World), w.heap.size ≤ D → S xs → I xs W → W.heap[D]? = some (.deferred (some [])) → Q .normal { a with defers := { target := .collected D, args := #[] } :: a.defers } W)
    (hstop : ∀ (D : Nat) (c : Code) (pre : List α) (W : World), w.heap.size ≤ D → Sp pre → Ix c pre W → W.heap[D]? = some (.deferred (some [])) → c.wpIn F n P Q { a with defers := { target := .collected D, args := #[] } :: a.defers } W) :
    (Code.rangeFunc g ps assign body).wpIn F n P Q a w :=
  wpIn_rangeFunc_ownF hro h1 hg hFg eg hseq (fun h k => Kept.trans h k) (fun W l o o' h ho hc hw => keptK hlo (Nat.le_refl _) W l o o' h ho hc hw) (Below.refl _ _) hps I Ix hI hIx h0 (fun x => { tmps := upd x a.tmps, defers := [] }) hassign hbody hdone hstop
theorem pairs_next {C : List Int} {pre : List (Int × Int)} {x : Int × Int} (hp : pre <+: pairsF C) (hl : pre.length < C.length) : pre ++ [x] <+: pairsF C ↔ x = ((pre.length : Int), C[pre.length]) := by
  have e := List.prefix_iff_eq_take.1 hp
  have ht := pairsF_take C pre.length hl
  constructor
  · intro h
    have e2 := List.prefix_iff_eq_take.1 h
    rw [List.length_append, List.length_singleton, ht, ← e] at e2
    have := List.append_cancel_left e2
    simpa using this
  · rintro rfl
    have : pre ++ [((pre.length : Int), C[pre.length])] = (pairsF C).take (pre.length + 1) := by rw [ht, ← e]
    rw [this]
    exact List.take_prefix _ _
/-- What the iterator asks of a round that goes on: the rows of runs, and of slices of runs, that lie below lo, or from hi on. -/
structure KeptT (lo hi : Nat) (W W' : World) : Prop where
  size : W.heap.size ≤ W'.heap.size
  rows : ∀ b c t f, (b < lo ∨ hi ≤ b) → (t = 49 ∨ t = 22) → W.heap[b]? = some (.cells c t f) → W'.heap[b]? = some (.cells c t f)
theorem KeptT.refl (lo hi : Nat) (W : World) : KeptT lo hi W W := ⟨Nat.le_refl _, fun _ _ _ _ _ _ h => h⟩
theorem KeptT.trans {lo hi : Nat} {A B C : World} (h : KeptT lo hi A B) (k : KeptT lo hi B C) : KeptT lo hi A C := ⟨Nat.le_trans h.size k.size, fun b c t f hb ht hc => k.rows b c t f hb ht (h.rows b c t f hb ht hc)⟩
theorem KeptT.of {lo hi : Nat} {A B : World} (h : Below A.heap.size A B) : KeptT lo hi A B := ⟨h.size, fun b c t f _ _ hc => (h.block b (Array.getElem?_eq_some_iff.1 hc).1).trans hc⟩
theorem Kept.keptT {lo hi : Nat} {A B : World} (h : Kept lo hi A B) (hlo : lo ≤ A.heap.size) : KeptT lo hi A B :=
  ⟨h.below.size, fun b c t f hb _ hc => by
    rcases hb with hb | hb
    · exact (h.below.block b hb).trans hc
    · exact h.above b c t f hb hc⟩
theorem KeptT.row {lo hi : Nat} {A B : World} (h : KeptT lo hi A B) {b : Nat} {cs : Array Value} {t : TypeId} (hb : b < lo ∨ hi ≤ b) (ht : t = 49 ∨ t = 22) (r : RowAt A b cs t) : RowAt B b cs t := h.rows b _ _ _ hb ht r
theorem KeptT.cell {lo hi : Nat} {A B : World} (h : KeptT lo hi A B) {b : Nat} {c : Array Value} {t : TypeId} {f : Nat × Nat} (hb : b < lo ∨ hi ≤ b) (ht : t = 49 ∨ t = 22) (r : A.heap[b]? = some (.cells c t f)) (o : Nat) : B.cell? ⟨b, o, none⟩ = A.cell? ⟨b, o, none⟩ :=
  World.cell?_of_block (a := ⟨b, o, none⟩) ((h.rows b c t f hb ht r).trans r.symm)
