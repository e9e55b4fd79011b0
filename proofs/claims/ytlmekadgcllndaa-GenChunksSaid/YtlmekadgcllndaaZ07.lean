/- Texts behind each other. -/
import Derived.Test.YtlmekadgcllndaaZ06
import Derived.RangeFuncNested
import Derived.RangeFuncFrom
import Derived.RangeFuncBound
import Derived.RangeFuncCalls
import Derived.RangeFuncLeaves
import Derived.Shelf.Abstract
import Derived.Shelf.RegionOpen
import Derived.OwnWalkIn
import Derived.TacticsInMore
import Derived.LoopNIn
import Derived.LoopIn
import Derived.RangeFuncBox
import Derived.Test.YtlmekadgcllndaaZ04
/- Contract of layer 5's All (cells, told in a range over a function), of the landed code. -/
set_option linter.unusedVariables false
set_option linter.unusedSimpArgs false
namespace Go.Proofs.Ytlmekadgcllndaa
open Go.ChangeShapes Go.WideShapes Go.ChangeAt Go.RowKit Go.Shelf
attribute [local go_sem] Oper.semAt_some
def pairsF (C : List Int) : List (Int × Int) := C.mapIdx fun j c => ((j : Int), c)
abbrev pairV (x : Int × Int) : Array Value := #[.int .i64 x.1, .int .i64 x.2]
theorem pairsF_length (C : List Int) : (pairsF C).length = C.length := by simp [pairsF]
theorem pairsF_at (C : List Int) (k : Nat) (h : k < C.length) : (pairsF C)[k]? = some ((k : Int), C[k]) := by simp [pairsF, h]
theorem pairsF_take (C : List Int) (k : Nat) (h : k < C.length) : (pairsF C).take (k + 1) = (pairsF C).take k ++ [((k : Int), C[k])] := by
  rw [take_succ_get _ k (by rw [pairsF_length]; exact h)]
  congr 2
  simp [pairsF]
/-- What a round that goes on keeps: whatever lay below lo, and the cells that lie from hi on. -/
structure Kept (lo hi : Nat) (W W' : World) : Prop where
  below : Below lo W W'
  above : ∀ b c t f, hi ≤ b → W.heap[b]? = some (.cells c t f) → W'.heap[b]? = some (.cells c t f)
theorem Kept.refl (lo hi : Nat) (W : World) : Kept lo hi W W := ⟨Below.refl _ _, fun _ _ _ _ _ h => h⟩
theorem Kept.trans {lo hi : Nat} {A B C : World} (h : Kept lo hi A B) (k : Kept lo hi B C) : Kept lo hi A C := ⟨h.below.trans k.below, fun b c t f hb hc => k.above b c t f hb (h.above b c t f hb hc)⟩
theorem Kept.of {lo hi : Nat} {A B : World} (h : Below A.heap.size A B) (hl : lo ≤ A.heap.size) : Kept lo hi A B := ⟨h.mono hl, fun b c t f _ hc => (h.block b (Array.getElem?_eq_some_iff.1 hc).1).trans hc⟩
theorem Kept.set {lo hi : Nat} (A : World) {b o : Nat} (v : Value) (h0 : lo ≤ b) (h1 : b < hi) : Kept lo hi A (A.setCell ⟨b, o, none⟩ v) :=
  ⟨(Below.refl _ _).setCell (p := ⟨b, o, none⟩) h0 v, fun k c t f hk hc => (Below.heap_setCell A ⟨b, o, none⟩ v k (by show k ≠ b; omega)).trans hc⟩
theorem Kept.row {lo hi : Nat} {A B : World} (h : Kept lo hi A B) {b : Nat} {cs : Array Value} {t : TypeId} (hb : hi ≤ b) (r : RowAt A b cs t) : RowAt B b cs t := h.above b _ _ _ hb r
theorem keptK {lo hi : Nat} {w : World} (hl : lo ≤ w.heap.size) (hh : hi ≤ w.heap.size) (W : World) (l : Nat) (o o' : Obj) (h : w.heap.size ≤ l) (ho : W.heap[l]? = some o) (hc : o.isCells = false) (hw : o.isWalk = false) : Kept lo hi W (W.putObj l o') :=
  ⟨belowK_b hl W l o o' h ho hc hw, fun b c t f _ hb => (World.putObj_heap_other (by
    rintro rfl
    rw [ho] at hb
    cases hb
    simp [Obj.isCells] at hc)).trans hb⟩
/-- What a range over the function is told. -/
def Tells (P : Program) (gf : Nat) (lb : Array Value) (C : List Int) (lo : Nat) (w : World) : Prop := ∀ n, 1 ≤ n → SeqStopsK Fence.wide n P gf lb pairV (Kept lo w.heap.size) (fun ys => ys = pairsF C) (fun pre => pre <+: pairsF C) C.length w
theorem cell_other {W : World} {b o b' o' : Nat} {v : Value} (h : b ≠ b') : (W.setCell ⟨b', o', none⟩ v).cell? ⟨b, o, none⟩ = W.cell? ⟨b, o, none⟩ := by
  unfold World.cell?
  simp only [Below.heap_setCell W ⟨b', o', none⟩ v b h]
theorem grown_of {A B : World} (h : Below A.heap.size A B) : A.grownBy B none := ⟨h.os, h.tape, h.output, h.size, fun k hk _ => h.block k hk⟩
theorem abides {β : Type} {B : Nat} {J : β → World → Prop} (h : AbidesFrom B J) {s : β} {X Y : World} (hs : J s X) (hb : Below X.heap.size X Y) : J s Y := h s X Y none hs (grown_of hb) (fun r e => by cases e)
/-- The law of a range over a function, the loop's variables laid by 'upd'. -/
theorem wpIn_range {F : Fence} {n : Nat} {P : Program} {α : Type} {g : Operand} {ps : Array Tmp} {assign body : Code} {Q : Exit → Act → World → Prop} {a : Act} {w : World} (upd : α → Array Value → Array Value)
    (hro : F.round = none) (h1 : 1 ≤ n) {gf : Nat} {lb : Array Value} (hg : a.eval g = .func (.func gf) #[] lb) (hFg : F.fn gf) (eg : ∀ args w, (callFunc gf args).run P w = .ok (.enter gf args) w)
    {encs : α → Array Value} {lo : Nat} {S Sp : List α → Prop} {N : Nat} (hseq : SeqStopsK F (n - 1) P gf lb encs (Kept lo w.heap.size) S Sp N w) (hlo : lo ≤ w.heap.size) (hps : ∀ x, (encs x).size = ps.size)
    (I : List α → World → Prop) (Ix : Code → List α → World → Prop) (hI : OwnFrom w.heap.size I) (hIx : ∀ c, OwnFrom w.heap.size (Ix c)) (h0 : I [] w)
    (hassign : ∀ (l : Nat) (x : α) (W : World) (K : Act → World → Prop), K { tmps := upd x a.tmps, defers := [] } W →
      assign.wpIn (F.inRound l) (n - 1 - 1) P (Exit.then K (fun _ _ _ => False)) { tmps := (ps.zip (encs x)).foldl (fun t (p, v) => t.setIfInBounds p v) a.tmps, defers := [] } W)
    (hbody : ∀ (l : Nat) (pre : List α) (x : α) (W : World), I pre W → pre.length < N → body.wpIn (F.inRound l) (n - 1 - 1) P (ownPostK (Kept lo w.heap.size) I Ix (pre ++ [x]) W) { tmps := upd x a.tmps, defers := [] } W)
    (hdone : ∀ (D : Nat) (xs : List α) (W : World), w.heap.size ≤ D → S xs → I xs W → W.heap[D]? = some (.deferred (some [])) → Q .normal { a with defers := { target := .collected D, args := #[] } :: a.defers } W)
    (hstop : ∀ (D : Nat) (c : Code) (pre : List α) (W : World), w.heap.size ≤ D → Sp pre → Ix c pre W → W.heap[D]? = some (.deferred (some [])) → c.wpIn F n P Q { a with defers := { target := .collected D, args := #[] } :: a.defers } W) :
    (Code.rangeFunc g ps assign body).wpIn F n P Q a w :=
  wpIn_rangeFunc_ownF hro h1 hg hFg eg hseq (fun h k => Kept.trans h k) (fun W l o o' h ho hc hw => keptK hlo (Nat.le_refl _) W l o o' h ho hc hw) (Below.refl _ _) hps I Ix hI hIx h0 (fun x => { tmps := upd x a.tmps, defers := [] }) hassign hbody hdone hstop
theorem pairs_next {C : List Int} {pre : List (Int × Int)} {x : Int × Int} (hp : pre <+: pairsF C) (hl : pre.length < C.length) : pre ++ [x] <+: pairsF C ↔ x = ((pre.length : Int), C[pre.length]) := by
  have e := List.prefix_iff_eq_take.1 hp
  have ht := pairsF_take C pre.length hl
  constructor
  · intro h
    have e2 := List.prefix_iff_eq_take.1 h
    rw [List.length_append, List.length_singleton, ht, ← e] at e2
    have := List.append_cancel_left e2
    simpa using this
  · rintro rfl
    have : pre ++ [((pre.length : Int), C[pre.length])] = (pairsF C).take (pre.length + 1) := by rw [ht, ← e]
    rw [this]
    exact List.take_prefix _ _
/-- What the iterator asks of a round that goes on: the rows of runs, and of slices of runs, that lie below lo, or from hi on. -/
structure KeptT (lo hi : Nat) (W W' : World) : Prop where
  size : W.heap.size ≤ W'.heap.size
  rows : ∀ b c t f, (b < lo ∨ hi ≤ b) → (t = 45 ∨ t = 25) → W.heap[b]? = some (.cells c t f) → W'.heap[b]? = some (.cells c t f)
theorem KeptT.refl (lo hi : Nat) (W : World) : KeptT lo hi W W := ⟨Nat.le_refl _, fun _ _ _ _ _ _ h => h⟩
theorem KeptT.trans {lo hi : Nat} {A B C : World} (h : KeptT lo hi A B) (k : KeptT lo hi B C) : KeptT lo hi A C := ⟨Nat.le_trans h.size k.size, fun b c t f hb ht hc => k.rows b c t f hb ht (h.rows b c t f hb ht hc)⟩
theorem KeptT.of {lo hi : Nat} {A B : World} (h : Below A.heap.size A B) : KeptT lo hi A B := ⟨h.size, fun b c t f _ _ hc => (h.block b (Array.getElem?_eq_some_iff.1 hc).1).trans hc⟩
theorem Kept.keptT {lo hi : Nat} {A B : World} (h : Kept lo hi A B) (hlo : lo ≤ A.heap.size) : KeptT lo hi A B :=
  ⟨h.below.size, fun b c t f hb _ hc => by
    rcases hb with hb | hb
    · exact (h.below.block b hb).trans hc
    · exact h.above b c t f hb hc⟩
theorem KeptT.row {lo hi : Nat} {A B : World} (h : KeptT lo hi A B) {b : Nat} {cs : Array Value} {t : TypeId} (hb : b < lo ∨ hi ≤ b) (ht : t = 45 ∨ t = 25) (r : RowAt A b cs t) : RowAt B b cs t := h.rows b _ _ _ hb ht r
theorem KeptT.cell {lo hi : Nat} {A B : World} (h : KeptT lo hi A B) {b : Nat} {c : Array Value} {t : TypeId} {f : Nat × Nat} (hb : b < lo ∨ hi ≤ b) (ht : t = 45 ∨ t = 25) (r : A.heap[b]? = some (.cells c t f)) (o : Nat) : B.cell? ⟨b, o, none⟩ = A.cell? ⟨b, o, none⟩ :=
  World.cell?_of_block (a := ⟨b, o, none⟩) ((h.rows b c t f hb ht r).trans r.symm)
end Go.Proofs.Ytlmekadgcllndaa
/- Contracts of layer 5 (runs), of the landed code: all of them; here: Cells (a range over a function, in which a row grows). -/
set_option linter.unusedVariables false
set_option linter.unusedSimpArgs false
namespace Go.Proofs.Ytlmekadgcllndaa
open Go.ChangeShapes Go.WideShapes Go.ChangeAt Go.RowKit Go.Shelf
attribute [local go_sem] Oper.semAt_some
/-- The law of a range over a function, whatever the iterator asks of a round. -/
theorem wpIn_rangeK {F : Fence} {n : Nat} {P : Program} {α : Type} {g : Operand} {ps : Array Tmp} {assign body : Code} {Q : Exit → Act → World → Prop} {a : Act} {w : World} {Kp : World → World → Prop} (upd : α → Array Value → Array Value)
    (hKt : ∀ {A B C : World}, Kp A B → Kp B C → Kp A C) (hKb : ∀ (W : World) (l : Nat) (o o' : Obj), w.heap.size ≤ l → W.heap[l]? = some o → o.isCells = false → o.isWalk = false → Kp W (W.putObj l o'))
    (hro : F.round = none) (h1 : 1 ≤ n) {gf : Nat} {lb : Array Value} (hg : a.eval g = .func (.func gf) #[] lb) (hFg : F.fn gf) (eg : ∀ args w, (callFunc gf args).run P w = .ok (.enter gf args) w)
    {encs : α → Array Value} {S Sp : List α → Prop} {N : Nat} (hseq : SeqStopsK F (n - 1) P gf lb encs Kp S Sp N w) (hps : ∀ x, (encs x).size = ps.size)
    (I : List α → World → Prop) (Ix : Code → List α → World → Prop) (hI : OwnFrom w.heap.size I) (hIx : ∀ c, OwnFrom w.heap.size (Ix c)) (h0 : I [] w)
    (hassign : ∀ (l : Nat) (x : α) (W : World) (K : Act → World → Prop), K { tmps := upd x a.tmps, defers := [] } W →
      assign.wpIn (F.inRound l) (n - 1 - 1) P (Exit.then K (fun _ _ _ => False)) { tmps := (ps.zip (encs x)).foldl (fun t (p, v) => t.setIfInBounds p v) a.tmps, defers := [] } W)
    (hbody : ∀ (l : Nat) (pre : List α) (x : α) (W : World), I pre W → pre.length < N → body.wpIn (F.inRound l) (n - 1 - 1) P (ownPostK Kp I Ix (pre ++ [x]) W) { tmps := upd x a.tmps, defers := [] } W)
    (hdone : ∀ (D : Nat) (xs : List α) (W : World), w.heap.size ≤ D → S xs → I xs W → W.heap[D]? = some (.deferred (some [])) → Q .normal { a with defers := { target := .collected D, args := #[] } :: a.defers } W)
    (hstop : ∀ (D : Nat) (c : Code) (pre : List α) (W : World), w.heap.size ≤ D → Sp pre → Ix c pre W → W.heap[D]? = some (.deferred (some [])) → c.wpIn F n P Q { a with defers := { target := .collected D, args := #[] } :: a.defers } W) :
    (Code.rangeFunc g ps assign body).wpIn F n P Q a w :=
  wpIn_rangeFunc_ownF hro h1 hg hFg eg hseq hKt hKb (Below.refl _ _) hps I Ix hI hIx h0 (fun x => { tmps := upd x a.tmps, defers := [] }) hassign hbody hdone hstop
theorem KeptT.whole {lo hi : Nat} {A B : World} (h : KeptT 0 0 A B) : KeptT lo hi A B := ⟨h.size, fun b c t f _ ht hc => h.rows b c t f (.inr (Nat.zero_le _)) ht hc⟩
theorem KeptT.putObj {W : World} {l : Nat} {o o' : Obj} (h : W.heap[l]? = some o) (hc : o.isCells = false) : KeptT 0 0 W (W.putObj l o') :=
  ⟨by simp [World.putObj], fun b c t f _ _ hb => (World.putObj_heap_other (by
    rintro rfl
    rw [h] at hb
    cases hb
    simp [Obj.isCells] at hc)).trans hb⟩
/-- A row of whole numbers that grows, and its variable: no row of runs is touched. -/
theorem KeptT.app {W w1 : World} {B base n : Nat} {v x : Value} {xs : List Value} {tmp : Obj} (hb : Boxed W B 42 v) (ho : W.ownsRow base 3 1 v n xs) (hg : (W.alloc tmp).grownBy w1 v.ownBlock) : KeptT 0 0 W (w1.setCell ⟨B, 0, none⟩ x) := by
  refine ⟨by have := hg.size; simp [World.setCell] at *; omega, fun b c t f _ ht hc => ?_⟩
  have hlt : b < W.heap.size := (Array.getElem?_eq_some_iff.1 hc).1
  have h1 : (W.alloc tmp).heap[b]? = W.heap[b]? := Below.heap_alloc _ _ _ (by omega)
  have hne : some b ≠ v.ownBlock := fun e => by
    rcases ho.2 with ⟨rfl, _⟩ | ⟨g, cap, cur, rfl, _, hgb, _⟩
    · simp [Value.ownBlock] at e
    · obtain rfl : b = g := by simpa [Value.ownBlock] using e
      rw [hgb] at hc
      cases hc
      revert ht
      decide
  have hnB : b ≠ B := by
    rintro rfl
    rw [show W.heap[b]? = _ from hb] at hc
    cases hc
    revert ht
    decide
  rw [Below.heap_setCell _ _ _ b hnB, hg.block b (by simp; omega) hne, h1]
  exact hc
theorem pairsF_snd (C : List Int) : (pairsF C).map (·.2) = C := by
  apply List.ext_getElem
  · simp [pairsF]
  · intro j h1 h2
    simp [pairsF]
end Go.Proofs.Ytlmekadgcllndaa
/- What the statements of layer 5 call: the reference's answers in terms of cells; the example. -/
set_option linter.unusedVariables false
set_option linter.unusedSimpArgs false
namespace Go.Proofs.Ytlmekadgcllndaa
open Go.ChangeShapes Go.WideShapes Go.ChangeAt Go.RowKit
theorem l5_same (v v' : Value) (a b : List Run) (h : a = b) (w : World) (ha : RunsAt w v a) (hb : RunsAt w v' b) (hL : a.length ≤ 100000000) : Calls Try.prog 7 #[v, v'] w fun e w' => e = .returned (.bool true) ∧ Below w.heap.size w w' := by
  have := r5_same v v' a b w ha hb hL
  rwa [decide_eq_true h] at this
end Go.Proofs.Ytlmekadgcllndaa
/- GenChunks, over what is asked of gen. -/
set_option linter.unusedVariables false
set_option linter.unusedSimpArgs false
namespace Go.Proofs.Ytlmekadgcllndaa
open Go.ChangeShapes Go.WideShapes Go.ChangeAt Go.RowKit Go.Shelf
attribute [local go_sem] Oper.semAt_some
theorem below_others {W W' : World} (h : Below W.heap.size W W') : KeepsOthers W W' := ⟨h.size, fun k o hk _ => (h.block k (Array.getElem?_eq_some_iff.1 hk).1).trans hk⟩
/-- An iterator that tells numbers, one by one. -/
def TellsA (P : Program) (gf : Nat) (lb : Array Value) (C : List Int) (lo : Nat) (w : World) : Prop := ∀ n, 1 ≤ n → SeqStopsK Fence.wide n P gf lb (fun x : Int => #[.int .i64 x]) (Kept lo w.heap.size) (fun ys => ys = C) (fun pre => pre <+: C) C.length w
theorem fnA_nil (lb : Array Value) (W : World) : Sem.run Try.prog (binOp .eql 29 (.func (.func 19) #[] lb) .nilFunc) W = .ok (.bool false) W := by kernel_rfl
structure GenC (I : GenI) : Prop where
  cells : ∀ (s px pz : Int) (w : World), Vars w → i64 s → (-134217728 ≤ px ∧ px ≤ 134217727) → (-134217728 ≤ pz ∧ pz ≤ 134217727) → Calls Try.prog 9 #[.int .i64 s, posV px pz] w fun e w' =>
    ∃ lb, e = .returned (.func (.func 19) #[] lb) ∧ Below w.heap.size w w' ∧ ∀ w2, Below w'.heap.size w' w2 → TellsA Try.prog 19 lb (chunkF s px pz 8192) w'.heap.size w2
theorem lA_pos (x z : Int) (hx : i64 x) (hz : i64 z) (w : World) : Calls Try.prog 5 #[posV x z] w fun e w' => e = .returned (posV (aroundF x 268435456 - 134217728) (aroundF z 268435456 - 134217728)) ∧ Below w.heap.size w w' := by
  have bx := around_bd x 268435456 (by omega)
  have bz := around_bd z 268435456 (by omega)
  have kx := fun k => r_around x 268435456 hx.1 hx.2 (by omega) (by omega) k
  have kz := fun k => r_around z 268435456 hz.1 hz.2 (by omega) (by omega) k
  generalize aroundF x 268435456 = X at *
  generalize aroundF z 268435456 = Z at *
  have KX := Lib.hid kx
  have KZ := Lib.hid kz
  clear kx kz
  have wx : IntKind.i64.wrap (X - 134217728) = X - 134217728 := IntWalk.i64_in _ (by omega)
  have wz : IntKind.i64.wrap (Z - 134217728) = Z - 134217728 := IntWalk.i64_in _ (by omega)
  go_enter Try.func5, Try.ntmps5
  go_wp2_with fail
  refine region_below 9 (by kernel_rfl) (by kernel_rfl) ?_
  simp only [List.take_succ_cons, List.take_zero, List.drop_succ_cons, List.drop_zero]
  repeat (first | (refine' InText.skip (by rfl) ?_; simp only [Act.put, List.setIfInBounds_toArray, List.set_cons_zero, List.set_cons_succ]) | (refine' InText.val (by rfl) (fun wr hr => ?_) ?_; rotate_left 1; (focus (obtain ⟨hrc, hrf⟩ := bcell hr; (go_simp <;> with_reducible rfl); done)); simp only [Act.put, List.setIfInBounds_toArray, List.set_cons_zero, List.set_cons_succ]) | (refine' InText.call (by rfl) (fun wr hr => ?_) (fun wr hr => ?_) ?_; rotate_left 3; (focus ((go_simp <;> (first | with_reducible rfl | exact ⟨rfl, rfl⟩)); done)); (focus (first | with_reducible exact pureB (KX.out _) | with_reducible exact pureB (KZ.out _))); simp only [Act.put, List.setIfInBounds_toArray, List.set_cons_zero, List.set_cons_succ]))
  refine fun wr hr => ?_
  obtain ⟨hrc, hrf⟩ := bcell hr
  go_wp2
  refine bodyPost_ret (v := posV (X - 134217728) (Z - 134217728)) (by simp [results, Try.results5, go_sem, *]; done) rfl ⟨rfl, ?_⟩
  (repeat (first | with_reducible assumption | with_reducible exact Below.refl _ _ | with_reducible refine Below.drew ?_ | with_reducible refine below_drewN ?_ _ | with_reducible refine al ?_ _ | (with_reducible refine sc ?_ ?_; (focus (first | omega | (simp; done) | (simp; omega)))) | (with_reducible refine chain ?_ (by assumption))))
set_option maxRecDepth 10000 in
set_option maxHeartbeats 16000000 in
theorem genChunks_core (I : GenI) (IC : GenC I) (s px pz i : Int) (hs : i64 s) (hx : i64 px) (hz : i64 pz) (hi : i64 i) (w : World) (hV : Vars w) : Calls Try.prog 3 #[.int .i64 s, posV px pz, .int .i64 i] w fun e w' => e = .returned (.bool true) ∧ Below w.heap.size w w' := by
  have bx := around_bd px 268435456 (by omega)
  have bz := around_bd pz 268435456 (by omega)
  have hpos := fun u => lA_pos px pz hx hz u
  obtain ⟨PX, hPX⟩ : ∃ n, aroundF px 268435456 - 134217728 = n := ⟨_, rfl⟩
  obtain ⟨PZ, hPZ⟩ : ∃ n, aroundF pz 268435456 - 134217728 = n := ⟨_, rfl⟩
  rw [hPX, hPZ] at hpos
  have qx : -134217728 ≤ PX ∧ PX ≤ 134217727 := by omega
  have qz : -134217728 ≤ PZ ∧ PZ ≤ 134217727 := by omega
  have CH := Lib.hid (fun u (hu : Below w.heap.size w u) => I.chunk s PX PZ u (hV.keep hu) hs qx qz)
  have RC := Lib.hid (fun u => rA_chunk s PX PZ hs ⟨qx.1, by omega⟩ ⟨qz.1, by omega⟩ u)
  have CE := Lib.hid (fun u (hu : Below w.heap.size w u) => IC.cells s PX PZ u (hV.keep hu) hs qx qz)
  have LV := Lib.hid (fun u => lA_lives I u)
  have bk := around_bd i 8192 (by omega)
  have hk := fun u => r_around i 8192 hi.1 hi.2 (by omega) (by omega) u
  obtain ⟨K, hK⟩ : ∃ K : Nat, aroundF i 8192 = K := ⟨(aroundF i 8192).toNat, by omega⟩
  rw [hK] at hk bk
  have HKA := Lib.hid hk
  have fr := fun u => r3_from PX PZ (K : Int) ⟨qx.1, by omega⟩ ⟨qz.1, by omega⟩ (by omega) (by omega) u
  obtain ⟨X, hX⟩ : ∃ n, PX * 16 + (K : Int) % 16 = n := ⟨_, rfl⟩
  obtain ⟨Y, hY⟩ : ∃ n, (K : Int) / 256 = n := ⟨_, rfl⟩
  obtain ⟨Z, hZ⟩ : ∃ n, PZ * 16 + (K : Int) % 256 / 16 = n := ⟨_, rfl⟩
  have hbl := fun u => rA_block s X Y Z hs ⟨by omega, by omega⟩ ⟨by omega, by omega⟩ u
  have hcell : cellA s PX PZ K = blockF s X Y Z := by unfold cellA; rw [hX, hY, hZ]
  rw [hX, hY, hZ] at fr
  obtain ⟨C, hC⟩ : ∃ C, chunkF s PX PZ 8192 = C := ⟨_, rfl⟩
  have cl := chunkF_len s PX PZ 8192
  have cat : ∀ (h : K < C.length), C[K] = blockF s X Y Z := by
    intro h
    rw [← hcell]
    subst hC
    exact chunkF_at s PX PZ (by omega)
  rw [hC] at CH RC CE cl
  generalize blockF s X Y Z = b at *
  have FR := Lib.hid fr
  have BL := Lib.hid hbl
  have CAT := Lib.hid cat
  have CLN := Lib.hid cl
  have hK8 : K < 8192 := by omega
  have hofl : (ofF C).length ≤ 100000000 := by have h := ofF_length C 8192 (by omega); rw [← cl, List.take_length] at h; omega
  have OFL := Lib.hid hofl
  have HPOS := Lib.hid hpos
  clear bx bz hpos hPX hPZ qx qz hk hK fr hX hY hZ hbl hcell hC cl cat hofl hs hx hz hi bk hV
  obtain ⟨u, hu⟩ : ∃ u, ((w.alloc (.cells #[.int .i64 s] 3)).alloc (.cells #[.int .i64 px, .int .i64 pz] 23)).alloc (.cells #[.bool false] 4) = u := ⟨_, rfl⟩
  have kw : Below w.heap.size w u := by rw [← hu]; exact al (al (al (Below.refl _ _) _) _) _
  have r3 : RowAt u w.heap.size #[.int .i64 s] 3 := by rw [← hu]; exact ((RowAt.new w _ _).alloc _).alloc _
  have r4 : RowAt u (w.heap.size + 1) #[.int .i64 px, .int .i64 pz] 23 := by rw [← hu]; exact (RowAt.make _ _ _ (by simp)).alloc _
  have r6 : RowAt u (w.heap.size + 1 + 1) #[.bool false] 4 := by rw [← hu]; exact RowAt.make _ _ _ (by simp)
  have HU := Lib.hid hu
  clear hu
  have c4 := r4.cell
  have f4 := r4.frozen
  have z4 := r4.lt
  refine (callsIn_wide (n := 9)).1 ?_
  refine callsIn_of_wp_marks Try.func3 rfl trivial ?_ rfl
  simp only [Try.ntmps3, List.size_toArray, List.length_cons, List.length_nil, Nat.reduceAdd, Nat.reduceSub, Array.replicate_succ, Array.replicate_zero, List.push_toArray, List.append_toArray, List.nil_append, List.cons_append]
  gi_wp2_with fail
  rw [HU.out]
  gi_wp2_with fail
  refine ⟨trivial, (callsIn_wide.2 (HPOS.out _)).mono ?_⟩
  rintro e W1 ⟨rfl, hv⟩
  replace kw := chain kw hv
  replace r3 := r3.keep hv
  replace r4 := r4.keep hv
  replace r6 := r6.keep hv
  clear hv c4 f4 z4
  have c4 := r4.cell
  have f4 := r4.frozen
  have z4 := r4.lt
  have c3 := r3.one
  have z3 := r3.lt
  gi_wp2_with fail
  clear c4 f4 z4 c3 z3
  have kw2 : Below w.heap.size w ((W1.setCell ⟨w.heap.size + 1, 0, none⟩ (.int .i64 PX)).setCell ⟨w.heap.size + 1, 1, none⟩ (.int .i64 PZ)) := (kw.setCell (p := ⟨w.heap.size + 1, 0, none⟩) (by simp) _).setCell (p := ⟨w.heap.size + 1, 1, none⟩) (by simp) _
  have q3 := (r3.other (p := ⟨w.heap.size + 1, 0, none⟩) (by simp) (.int .i64 PX)).other (p := ⟨w.heap.size + 1, 1, none⟩) (by simp) (.int .i64 PZ)
  have q6 := (r6.other (p := ⟨w.heap.size + 1, 0, none⟩) (by simp) (.int .i64 PX)).other (p := ⟨w.heap.size + 1, 1, none⟩) (by simp) (.int .i64 PZ)
  have q4 : RowAt ((W1.setCell ⟨w.heap.size + 1, 0, none⟩ (.int .i64 PX)).setCell ⟨w.heap.size + 1, 1, none⟩ (.int .i64 PZ)) (w.heap.size + 1) #[.int .i64 PX, .int .i64 PZ] 23 := (r4.set 0 (.int .i64 PX)).set 1 (.int .i64 PZ)
  clear kw r3 r4 r6
  generalize (W1.setCell ⟨w.heap.size + 1, 0, none⟩ (.int .i64 PX)).setCell ⟨w.heap.size + 1, 1, none⟩ (.int .i64 PZ) = W2 at *
  refine ⟨trivial, (callsIn_wide.2 (CH.out _ kw2)).mono ?_⟩
  rintro e W3 ⟨vc, rfl, hc, hv⟩
  replace kw2 := chain kw2 hv
  replace q3 := q3.keep hv
  replace q4 := q4.keep hv
  replace q6 := q6.keep hv
  clear hv
  have c4 := q4.cell
  have z4 := q4.lt
  have c3 := q3.one
  have z3 := q3.lt
  gi_wp2_with fail
  refine ⟨trivial, (callsIn_wide.2 (RC.out _)).mono ?_⟩
  rintro e W4 ⟨vr, rfl, hr, hv⟩
  replace kw2 := chain kw2 hv
  replace q3 := q3.keep hv
  replace q4 := q4.keep hv
  replace q6 := q6.keep hv
  have hc4 := hc.keep hv
  have hr4 := runs_of_owned hr
  clear hv hc hr c4 z4 c3 z3
  have sm := r5_same _ _ (ofF C) (ofF C) W4 hc4 hr4 OFL.out
  simp only [decide_true] at sm
  have SM := Lib.hid sm
  clear sm hc4 hr4
  gi_wp2_with fail
  refine ⟨trivial, (callsIn_wide.2 SM.out).mono ?_⟩
  rintro e W5 ⟨rfl, hv⟩
  replace kw2 := chain kw2 hv
  replace q3 := q3.keep hv
  replace q4 := q4.keep hv
  replace q6 := q6.keep hv
  clear hv
  have c4 := q4.cell
  have z4 := q4.lt
  have c3 := q3.one
  have z3 := q3.lt
  gi_wp2_with fail
  refine ⟨trivial, (callsIn_wide.2 (CE.out _ kw2)).mono ?_⟩
  rintro e Wa ⟨lb, rfl, hv, ht⟩
  have HT := Lib.hid ht
  replace kw2 := chain kw2 hv
  replace q3 := q3.keep hv
  replace q4 := q4.keep hv
  replace q6 := q6.keep hv
  clear hv ht c4 z4 c3 z3
  have fnil := fnA_nil lb
  gi_wp2_with fail
  refine ⟨trivial, (callsIn_wide.2 (HKA.out _)).mono ?_⟩
  rintro e Wb ⟨rfl, rfl⟩
  gi_wp2_with fail
  obtain ⟨Wc, hWc⟩ : ∃ Wc, (Wa.alloc (.cells #[.int .i64 K] 3)).alloc (.cells #[.int .i64 0] 3) = Wc := ⟨_, rfl⟩
  have r9 : RowAt Wc Wa.heap.size #[.int .i64 K] 3 := by rw [← hWc]; exact (RowAt.new Wa _ _).alloc _
  have r10 : RowAt Wc (Wa.heap.size + 1) #[.int .i64 0] 3 := by rw [← hWc]; exact RowAt.make _ _ _ (by simp)
  have kc : Below Wa.heap.size Wa Wc := by rw [← hWc]; exact al (al (Below.refl _ _) _) _
  have sc0 : Wc.heap.size = Wa.heap.size + 1 + 1 := by rw [← hWc]; simp
  have c9 := r9.one
  have c10 := r10.one
  have f10 := r10.frozen 0
  rw [hWc]
  clear hWc
  have hT := HT.out Wc kc (9 - 1) (by omega)
  have sw := kw2.size
  have zq3 := q3.lt
  have zq4 := q4.lt
  have zq6 := q6.lt
  have hJ : OwnFrom Wc.heap.size (fun (_ : List Int) W => (W.cell? ⟨Wa.heap.size, 0, none⟩ = some (.int .i64 K) ∧ W.cell? ⟨Wa.heap.size + 1, 0, none⟩ = some (.int .i64 K)) ∧ Below Wa.heap.size Wa W) :=
    OwnFrom.and (Own.from (fun s A B row hs hg hr => ⟨cell_kept hs.1 hg hr, cell_kept hs.2 hg hr⟩) _) (ownFrom_below (Nat.le_refl _) (by omega))
  refine wpIn_range (lo := Wa.heap.size) (fun (x : Int) t => (t.setIfInBounds 33 (.int .i64 x)).setIfInBounds 11 (.int .i64 x)) rfl (by omega) (gf := 19) rfl trivial (enters_of Try.func19 (by kernel_rfl) rfl)
    hT (by have := kc.size; omega) (fun _ => rfl)
    (fun pre W => (pre.length ≤ K ∧ W.cell? ⟨Wa.heap.size, 0, none⟩ = some (.int .i64 K) ∧ W.cell? ⟨Wa.heap.size + 1, 0, none⟩ = some (.int .i64 pre.length) ∧ W.frozen? ⟨Wa.heap.size + 1, 0, none⟩ = false) ∧ Below Wa.heap.size Wa W)
    (fun c pre W => ¬ pre <+: C ∨ (c = .exit 0 ∧ (W.cell? ⟨Wa.heap.size, 0, none⟩ = some (.int .i64 K) ∧ W.cell? ⟨Wa.heap.size + 1, 0, none⟩ = some (.int .i64 K)) ∧ Below Wa.heap.size Wa W))
    (OwnFrom.and (Own.from (fun s A B row hs hg hr => ⟨hs.1, cell_kept hs.2.1 hg hr, cell_kept hs.2.2.1 hg hr, (frozen_kept hs.2.2.1 hg hr).trans hs.2.2.2⟩) _) (ownFrom_below (Nat.le_refl _) (by omega)))
    (fun c => fun s A B row hs hg hr => hs.imp id (fun h => ⟨h.1, hJ s A B row h.2 hg hr⟩))
    ⟨⟨Nat.zero_le _, c9, c10, f10⟩, kc⟩ ?assign ?body ?done ?stop
  case assign =>
    intro l x W K hK
    simp only [List.setIfInBounds_toArray, List.set_cons_zero, List.set_cons_succ] at hK
    gi_wp2
    exact hK
  case body =>
    rintro l pre x W ⟨⟨hle, hc1, hc2, hf2⟩, hB⟩ hlen
    simp only [List.setIfInBounds_toArray, List.set_cons_zero, List.set_cons_succ]
    have zn : Wa.heap.size + 1 < W.heap.size := World.block_lt_of_cell? W _ hc2
    by_cases hk : pre.length = K
    · have c3 : W.cell? ⟨w.heap.size, 0, none⟩ = some (.int .i64 s) := (q3.keep hB).one
      have c4 := (q4.keep hB).cell
      have z3 := (q3.keep hB).lt
      have z4 := (q4.keep hB).lt
      rw [hk] at hc2
      have HL := Lib.hid hlen
      have HKP := Lib.hid hk
      have HB := Lib.hid hB
      clear hlen hk hle hB
      gi_wp2_with fail
      refine ⟨trivial, (CallsIn.inRound l (callsIn_wide.2 (FR.out _))).mono ?_⟩
      rintro e V1 ⟨rfl, hv1⟩
      have d3 := keepc hv1 z3 c3
      have y3 := size_lt z3 hv1
      have H1 := Lib.hid hv1
      clear c3 c4 z3 z4
      gi_wp2_with fail
      refine ⟨trivial, (CallsIn.inRound l (callsIn_wide.2 (BL.out _))).mono ?_⟩
      rintro e V2 ⟨rfl, hv2⟩
      have kv : Below W.heap.size W V2 := chain (chain H1.out (al (Below.refl _ _) _)) hv2
      have KV := Lib.hid kv
      have kb := chain HB.out kv
      have q6V := q6.keep kb
      have c6 := q6V.one
      have f6 := q6V.frozen
      have z6 := q6V.lt
      have e1 := keepc kv (World.block_lt_of_cell? W _ hc1) hc1
      have e2 := keepc kv (World.block_lt_of_cell? W _ hc2) hc2
      have E12 := Lib.hid (And.intro e1 e2)
      have KB := Lib.hid kb
      clear d3 y3 hv2 kv kb hc1 hc2 hf2 e1 e2 q6V
      by_cases hxb : x = b
      · have g1 : (x != b) = false := by simp [hxb]
        have g2 : (x == b) = true := by simp [hxb]
        clear hxb
        gi_wp2
        exact ⟨below_others KV.out, .inr ⟨rfl, E12.out, KB.out⟩⟩
      · have g1 : (x != b) = true := by simp [hxb]
        have g2 : (x == b) = false := by simp [hxb]
        have hno : ¬ (pre ++ [x]) <+: C := fun h => by
          have hKC : K < C.length := by rw [CLN.out]; omega
          have h9 := h.getElem (i := K) (by rw [List.length_append, List.length_singleton, HKP.out]; omega)
          rw [CAT.out hKC, List.getElem_append_right (by rw [HKP.out]; exact Nat.le_refl _)] at h9
          simp [HKP.out] at h9
          exact hxb h9
        have HNO := Lib.hid hno
        clear hxb hno
        gi_wp2
        exact ⟨(below_others KV.out).trans (KeepsOthers.setCell _ _ _), .inl HNO.out⟩
    · have hlt : pre.length < K := by omega
      have hne : ((pre.length : Int) == (K : Int)) = false := by simp; omega
      have wl : IntKind.i64.wrap ((pre.length : Int) + 1) = (pre.length : Int) + 1 := IntWalk.i64_in _ (by omega)
      have HLT := Lib.hid hlt
      clear hk hle hlt hlen
      gi_wp2
      exact ⟨KeepsOthers.setCell _ _ _, Kept.set _ _ (by omega) (by omega), ⟨by have := HLT.out; simp; omega, by rw [cell_other (by simp)]; exact hc1, by rw [World.cell?_setCell_same' _ _ _ (by rw [hc2]; rfl), List.length_append, List.length_singleton, Int.natCast_add]; rfl, by rw [World.frozen?_setCell]; exact hf2⟩, hB.setCell (p := ⟨Wa.heap.size + 1, 0, none⟩) (by simp) _⟩
  case done =>
    rintro D2 ys W hD rfl ⟨⟨hle, _⟩, _⟩ hK
    have := CLN.out
    omega
  case stop =>
    rintro D c pre W hD h1 h2 hDD
    rcases h2 with h2 | ⟨rfl, ⟨hc1, hc2⟩, hB⟩
    · exact absurd h1 h2
    · replace kw2 := chain kw2 hB
      replace q6 := q6.keep hB
      have z9 := World.block_lt_of_cell? W _ hc1
      have z10 := World.block_lt_of_cell? W _ hc2
      clear hB
      gi_wp2_with fail
      refine ⟨trivial, (callsIn_wide.2 (LV.out _)).mono ?_⟩
      rintro e X4 ⟨rfl, hv⟩
      replace kw2 := chain kw2 hv
      replace q6 := q6.keep hv
      replace hDD := (hv.block D (Array.getElem?_eq_some_iff.1 hDD).1).trans hDD
      clear hv hc1 hc2 z9 z10
      have cr : X4.cell? ⟨w.heap.size + 1 + 1, 0, none⟩ = some (.bool false) := q6.one
      have fr : X4.frozen? ⟨w.heap.size + 1 + 1, 0, none⟩ = false := q6.frozen 0
      have zr3 := q6.lt
      clear q6
      gi_wp2
      have hK' := (KeepsOthers.setCell X4 ⟨w.heap.size + 1 + 1, 0, none⟩ (.bool true)).same D _ hDD rfl
      refine ⟨by simp, .inl ⟨_, _, rfl, run_takeDeferred hK', ?_⟩⟩
      have hc5 := cell_kept (World.cell?_setCell_same' X4 ⟨w.heap.size + 1 + 1, 0, none⟩ (.bool true) (by rw [cr]; rfl)) (grownBy_putObj' _ D (.deferred none)) (fun r e => by cases e; exact ⟨_, hK', rfl⟩)
      refine ⟨.bool true, ?_, rfl, (kw2.setCell (p := ⟨w.heap.size + 1 + 1, 0, none⟩) (by simp; omega) _).trans (belowK_b (w := w) (Nat.le_refl _) _ D _ _ (by omega) hK' rfl rfl)⟩
      simp [results, Try.f3, go_sem, hc5]
end Go.Proofs.Ytlmekadgcllndaa
