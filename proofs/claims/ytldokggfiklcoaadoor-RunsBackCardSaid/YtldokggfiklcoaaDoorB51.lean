/- Contract of layer 5's All (cells, told in a range over a function), of the landed code. -/
import Derived.Test.YtldokggfiklcoaaDoorB5D
import Derived.RangeFuncNested
import Derived.RangeFuncFrom
import Derived.RangeFuncBound
import Derived.RangeFuncCalls
import Derived.RangeFuncLeaves
import Derived.Shelf.Abstract
import Derived.Shelf.RegionOpen
import Derived.OwnWalkIn
import Derived.TacticsInMore
import Derived.LoopNIn
import Derived.LoopIn
set_option linter.unusedVariables false
set_option linter.unusedSimpArgs false
namespace Go.Proofs.YtldokggfiklcoaaDoor
open Go.ChangeShapes Go.WideShapes Go.ChangeAt Go.RowKit Go.Shelf
attribute [local go_sem] Oper.semAt_some
def pairsF (C : List Int) : List (Int × Int) := C.mapIdx fun j c => ((j : Int), c)
abbrev pairV (x : Int × Int) : Array Value := #[.int .i64 x.1, .int .i64 x.2]
theorem pairsF_length (C : List Int) : (pairsF C).length = C.length := by simp [pairsF]
theorem pairsF_at (C : List Int) (k : Nat) (h : k < C.length) : (pairsF C)[k]? = some ((k : Int), C[k]) := by simp [pairsF, h]
theorem pairsF_take (C : List Int) (k : Nat) (h : k < C.length) : (pairsF C).take (k + 1) = (pairsF C).take k ++ [((k : Int), C[k])] := by
  rw [take_succ_get _ k (by rw [pairsF_length]; exact h)]
  congr 2
  simp [pairsF]
/-- What a round that goes on keeps: whatever lay below lo, and the cells that lie from hi on. -/
structure Kept (lo hi : Nat) (W W' : World) : Prop where
  below : Below lo W W'
  above : ∀ b c t f, hi ≤ b → W.heap[b]? = some (.cells c t f) → W'.heap[b]? = some (.cells c t f)
theorem Kept.refl (lo hi : Nat) (W : World) : Kept lo hi W W := ⟨Below.refl _ _, fun _ _ _ _ _ h => h⟩
theorem Kept.trans {lo hi : Nat} {A B C : World} (h : Kept lo hi A B) (k : Kept lo hi B C) : Kept lo hi A C := ⟨h.below.trans k.below, fun b c t f hb hc => k.above b c t f hb (h.above b c t f hb hc)⟩
theorem Kept.of {lo hi : Nat} {A B : World} (h : Below A.heap.size A B) (hl : lo ≤ A.heap.size) : Kept lo hi A B := ⟨h.mono hl, fun b c t f _ hc => (h.block b (Array.getElem?_eq_some_iff.1 hc).1).trans hc⟩
theorem Kept.set {lo hi : Nat} (A : World) {b o : Nat} (v : Value) (h0 : lo ≤ b) (h1 : b < hi) : Kept lo hi A (A.setCell ⟨b, o, none⟩ v) :=
  ⟨(Below.refl _ _).setCell (p := ⟨b, o, none⟩) h0 v, fun k c t f hk hc => (Below.heap_setCell A ⟨b, o, none⟩ v k (by show k ≠ b; omega)).trans hc⟩
theorem Kept.row {lo hi : Nat} {A B : World} (h : Kept lo hi A B) {b : Nat} {cs : Array Value} {t : TypeId} (hb : hi ≤ b) (r : RowAt A b cs t) : RowAt B b cs t := h.above b _ _ _ hb r
theorem keptK {lo hi : Nat} {w : World} (hl : lo ≤ w.heap.size) (hh : hi ≤ w.heap.size) (W : World) (l : Nat) (o o' : Obj) (h : w.heap.size ≤ l) (ho : W.heap[l]? = some o) (hc : o.isCells = false) (hw : o.isWalk = false) : Kept lo hi W (W.putObj l o') :=
  ⟨belowK_b hl W l o o' h ho hc hw, fun b c t f _ hb => (World.putObj_heap_other (by
    rintro rfl
    rw [ho] at hb
    cases hb
    simp [Obj.isCells] at hc)).trans hb⟩
/-- What a range over the function is told. -/
def Tells (P : Program) (gf : Nat) (lb : Array Value) (C : List Int) (lo : Nat) (w : World) : Prop := ∀ n, 1 ≤ n → SeqStopsK Fence.wide n P gf lb pairV (Kept lo w.heap.size) (fun ys => ys = pairsF C) (fun pre => pre <+: pairsF C) C.length w
theorem cell_other {W : World} {b o b' o' : Nat} {v : Value} (h : b ≠ b') : (W.setCell ⟨b', o', none⟩ v).cell? ⟨b, o, none⟩ = W.cell? ⟨b, o, none⟩ := by
  unfold World.cell?
  simp only [Below.heap_setCell W ⟨b', o', none⟩ v b h]
theorem grown_of {A B : World} (h : Below A.heap.size A B) : A.grownBy B none := ⟨h.os, h.tape, h.output, h.size, fun k hk _ => h.block k hk⟩
theorem abides {β : Type} {B : Nat} {J : β → World → Prop} (h : AbidesFrom B J) {s : β} {X Y : World} (hs : J s X) (hb : Below X.heap.size X Y) : J s Y := h s X Y none hs (grown_of hb) (fun r e => by cases e)
/-- The law of a range over a function, the loop's variables laid by 'upd'. -/
theorem wpIn_range {F : Fence} {n : Nat} {P : Program} {α : Type} {g : Operand} {ps : Array Tmp} {assign body : Code} {Q : Exit → Act → World → Prop} {a : Act} {w : World} (upd : α → Array Value → Array Value)
    (hro : F.round = none) (h1 : 1 ≤ n) {gf : Nat} {lb : Array Value} (hg : a.eval g = .func (.func gf) #[] lb) (hFg : F.fn gf) (eg : ∀ args w, (callFunc gf args).run P w = .ok (.enter gf args) w)
    {encs : α → Array Value} {lo : Nat} {S Sp : List α → Prop} {N : Nat} (hseq : SeqStopsK F (n - 1) P gf lb encs (Kept lo w.heap.size) S Sp N w) (hlo : lo ≤ w.heap.size) (hps : ∀ x, (encs x).size = ps.size)
    (I : List α → World → Prop) (Ix : Code → List α → World → Prop) (hI : OwnFrom w.heap.size I) (hIx : ∀ c, OwnFrom w.heap.size (Ix c)) (h0 : I [] w)
    (hassign : ∀ (l : Nat) (x : α) (W : World) (K : Act → World → Prop), K { tmps := upd x a.tmps, defers := [] } W →
      assign.wpIn (F.inRound l) (n - 1 - 1) P (Exit.then K (fun _ _ _ => False)) { tmps := (ps.zip (encs x)).foldl (fun t (p, v) => t.setIfInBounds p v) a.tmps, defers := [] } W)
    (hbody : ∀ (l : Nat) (pre : List α) (x : α) (W : World), I pre W → pre.length < N → body.wpIn (F.inRound l) (n - 1 - 1) P (ownPostK (Kept lo w.heap.size) I Ix (pre ++ [x]) W) { tmps := upd x a.tmps, defers := [] } W)
    (hdone : ∀ (D : Nat) (xs : List α) (W : World), w.heap.size ≤ D → S xs → I xs W → W.heap[D]? = some (.deferred (some [])) → Q .normal { a with defers := { target := .collected D, args := #[] } :: a.defers } W)
    (hstop : ∀ (D : Nat) (c : Code) (pre : List α) (W : World), w.heap.size ≤ D → Sp pre → Ix c pre W → W.heap[D]? = some (.deferred (some [])) → c.wpIn F n P Q { a with defers := { target := .collected D, args := #[] } :: a.defers } W) :
    (Code.rangeFunc g ps assign body).wpIn F n P Q a w :=
  wpIn_rangeFunc_ownF hro h1 hg hFg eg hseq (fun h k => Kept.trans h k) (fun W l o o' h ho hc hw => keptK hlo (Nat.le_refl _) W l o o' h ho hc hw) (Below.refl _ _) hps I Ix hI hIx h0 (fun x => { tmps := upd x a.tmps, defers := [] }) hassign hbody hdone hstop
theorem pairs_next {C : List Int} {pre : List (Int × Int)} {x : Int × Int} (hp : pre <+: pairsF C) (hl : pre.length < C.length) : pre ++ [x] <+: pairsF C ↔ x = ((pre.length : Int), C[pre.length]) := by
  have e := List.prefix_iff_eq_take.1 hp
  have ht := pairsF_take C pre.length hl
  constructor
  · intro h
    have e2 := List.prefix_iff_eq_take.1 h
    rw [List.length_append, List.length_singleton, ht, ← e] at e2
    have := List.append_cancel_left e2
    simpa using this
  · rintro rfl
    have : pre ++ [((pre.length : Int), C[pre.length])] = (pairsF C).take (pre.length + 1) := by rw [ht, ← e]
    rw [this]
    exact List.take_prefix _ _
/-- What the iterator asks of a round that goes on: the rows of runs, and of slices of runs, that lie below lo, or from hi on. -/
structure KeptT (lo hi : Nat) (W W' : World) : Prop where
  size : W.heap.size ≤ W'.heap.size
  rows : ∀ b c t f, (b < lo ∨ hi ≤ b) → (t = 24 ∨ t = 22) → W.heap[b]? = some (.cells c t f) → W'.heap[b]? = some (.cells c t f)
theorem KeptT.refl (lo hi : Nat) (W : World) : KeptT lo hi W W := ⟨Nat.le_refl _, fun _ _ _ _ _ _ h => h⟩
theorem KeptT.trans {lo hi : Nat} {A B C : World} (h : KeptT lo hi A B) (k : KeptT lo hi B C) : KeptT lo hi A C := ⟨Nat.le_trans h.size k.size, fun b c t f hb ht hc => k.rows b c t f hb ht (h.rows b c t f hb ht hc)⟩
theorem KeptT.of {lo hi : Nat} {A B : World} (h : Below A.heap.size A B) : KeptT lo hi A B := ⟨h.size, fun b c t f _ _ hc => (h.block b (Array.getElem?_eq_some_iff.1 hc).1).trans hc⟩
theorem Kept.keptT {lo hi : Nat} {A B : World} (h : Kept lo hi A B) (hlo : lo ≤ A.heap.size) : KeptT lo hi A B :=
  ⟨h.below.size, fun b c t f hb _ hc => by
    rcases hb with hb | hb
    · exact (h.below.block b hb).trans hc
    · exact h.above b c t f hb hc⟩
theorem KeptT.row {lo hi : Nat} {A B : World} (h : KeptT lo hi A B) {b : Nat} {cs : Array Value} {t : TypeId} (hb : b < lo ∨ hi ≤ b) (ht : t = 24 ∨ t = 22) (r : RowAt A b cs t) : RowAt B b cs t := h.rows b _ _ _ hb ht r
theorem KeptT.cell {lo hi : Nat} {A B : World} (h : KeptT lo hi A B) {b : Nat} {c : Array Value} {t : TypeId} {f : Nat × Nat} (hb : b < lo ∨ hi ≤ b) (ht : t = 24 ∨ t = 22) (r : A.heap[b]? = some (.cells c t f)) (o : Nat) : B.cell? ⟨b, o, none⟩ = A.cell? ⟨b, o, none⟩ :=
  World.cell?_of_block (a := ⟨b, o, none⟩) ((h.rows b c t f hb ht r).trans r.symm)
set_option maxRecDepth 100000 in
set_option maxHeartbeats 4000000 in
theorem b5_allK (v : Value) (C : List Int) (hC : okC C) (w : World) (hl0 : RunsAt w v (ofF C)) : Calls Tryd.prog 23 #[v] w fun e w' =>
    ∃ lb, e = .returned (.func (.func 37) #[] lb) ∧ Below w.heap.size w w' ∧ ∀ w2, Below w'.heap.size w' w2 → ∀ Kp : World → World → Prop, (∀ A B, w'.heap.size ≤ A.heap.size → Kp A B → KeptT w'.heap.size w2.heap.size A B) → ∀ n, 1 ≤ n → SeqStopsK Fence.wide n Tryd.prog 37 lb pairV Kp (fun ys => ys = pairsF C) (fun pre => pre <+: pairsF C) C.length w2 := by
  obtain ⟨l, hle⟩ : ∃ l, ofF C = l := ⟨_, rfl⟩
  have hl := hl0
  rw [hle] at hl
  have hg : goodL none l := hle ▸ good_of hC.1
  have hcc : cellsF l = C := by rw [← hle, cells_of hC.1]
  have hbig := hC.2
  clear hl0 hle hC
  have hN0 : l.length ≤ 100000 := by have h1 := goodL_length l none hg; have h2 := (goodL_cells l none hg).1; rw [hcc] at h2; omega
  have CL := Lib.hid (b5_clone v l hN0 w hl)
  have HG := Lib.hid hg
  have HCC := Lib.hid hcc
  clear hg hcc hl
  go_enter Tryd.func23, Tryd.ntmps23
  go_wp2_with fail
  refine CL.out.mono ?_
  rintro e w1 ⟨v1, rfl, ho, hb1⟩
  have hl := runs_of_owned ho
  have hty : 0 < l.length → ∃ g cur, (∃ n c, v1 = .slice (some ⟨g, 0, none⟩) n c) ∧ w1.heap[g]? = some (.cells cur 24 (0, 0)) := fun h => by
    rcases ho.2 with ⟨_, h0⟩ | ⟨g, cap, cur, e, _, hgg, _⟩
    · omega
    · exact ⟨g, cur, ⟨_, _, e⟩, hgg⟩
  obtain ⟨p, cap, rfl, hf⟩ := hl.form
  obtain ⟨N, hN⟩ : ∃ N, l.length = N := ⟨_, rfl⟩
  have hNn : N ≤ 100000 := by rw [← hN]; exact hN0
  have hfs : 0 < N → ∃ g off, p = some ⟨g, off, none⟩ ∧ g < w1.heap.size ∧ (∃ cur, w1.heap[g]? = some (.cells cur 24 (0, 0))) ∧ ∀ j (h : j < l.length), w1.cell? ⟨g, off + j * 2, none⟩ = some (.int .i64 l[j].1) ∧ w1.cell? ⟨g, off + j * 2 + 1, none⟩ = some (.int .i64 l[j].2) := fun h => by
    obtain ⟨g, off, e, _, h1, h2⟩ := hf (by omega)
    obtain ⟨g', cur, ⟨_, _, e2⟩, hgg⟩ := hty (by omega)
    rw [e] at e2
    simp only [Value.slice.injEq, Option.some.injEq, Addr.mk.injEq] at e2
    obtain ⟨⟨rfl, _⟩, _⟩ := e2
    exact ⟨g, off, e, h1, ⟨cur, hgg⟩, h2⟩
  clear ho hty
  rw [hN]
  have HN := Lib.hid hN
  have HF := Lib.hid hfs
  clear hf hl hN hfs hN0 CL
  obtain ⟨u, hu⟩ : ∃ u, w1.alloc (.cells #[.slice p N cap] 22) = u := ⟨_, rfl⟩
  have kw : Below w1.heap.size w1 u := by rw [← hu]; exact al (Below.refl _ _) _
  have rb : RowAt u w1.heap.size #[.slice p N cap] 22 := by rw [← hu]; exact RowAt.new w1 _ _
  have HU := Lib.hid hu
  clear hu
  go_wp2
  rw [HU.out]
  go_ret
  refine ⟨_, rfl, chain hb1 kw, ?_⟩
  clear hb1
  intro w2 hw2 Kp hKp n hn l1 J Jx W hW0 hJ hJx hY h0
  have hW : Below u.heap.size u W := chain hw2 hW0
  have kW : Below w1.heap.size w1 W := chain kw hW
  have hi2 := hW0.size
  have lo2 := hw2.size
  have rW := rb.keep hW
  have zu : w1.heap.size < u.heap.size := rb.lt
  have zW : w1.heap.size < W.heap.size := rW.lt
  have cW : W.cell? ⟨w1.heap.size, 0, none⟩ = some (.slice p N cap) := by rw [rW.cell]; rfl
  have HY := Lib.hid hY
  have HJ := Lib.hid hJ
  replace hKp := Lib.hid hKp
  clear rb rW hY hJ hJx hW hW0 hw2
  refine callsIn_of_wp Tryd.func37 rfl trivial ?_ rfl
  simp only [Tryd.ntmps37, List.size_toArray, List.length_cons, List.length_nil, Nat.reduceAdd, Nat.reduceSub, Array.replicate_succ, Array.replicate_zero, List.push_toArray, List.append_toArray, List.nil_append, List.cons_append]
  gi_wp2
  gi_loopw [3, 8] (fun i r wr => ∃ k : Nat, k ≤ N ∧ r = .int .i64 k ∧ i = .int .i64 (cellsF (l.take k)).length ∧ J ((pairsF C).take (cellsF (l.take k)).length) wr ∧ KeptT u.heap.size w2.heap.size W wr) (fun _ r _ => N - (intOf r).toNat)
  case atStart => exact ⟨0, by omega, rfl, rfl, by simpa [cellsF] using h0, KeptT.refl _ _ _⟩
  case round =>
    obtain ⟨k, hk, rfl, rfl, hJs, kb⟩ := hrel
    have hsz := kb.size
    by_cases hlt : k < N
    · obtain ⟨g, off, rfl, hg, ⟨cur, hcur⟩, hx⟩ := HF.out (by omega)
      obtain ⟨h1, h2⟩ := hx k (by rw [HN.out]; exact hlt)
      have hs := cellsF_take_succ l k (by rw [HN.out]; exact hlt)
      have hle := cellsF_take_le l (k + 1)
      have hsplit : C = cellsF (l.take k) ++ List.replicate (l[k]'(by rw [HN.out]; exact hlt)).1.toNat (l[k]'(by rw [HN.out]; exact hlt)).2 ++ cellsF (l.drop (k + 1)) := by
        rw [← hs, ← cellsF_append, List.take_append_drop, HCC.out]
      have gu : g < u.heap.size := by have := kw.size; omega
      have hcW := (kW.block g hg).trans hcur
      have h1 : wr.cell? ⟨g, off + k * 2, none⟩ = some _ := (kb.cell (.inl gu) (.inl rfl) hcW _).trans (keepc kW hg h1)
      have h2 : wr.cell? ⟨g, off + k * 2 + 1, none⟩ = some _ := (kb.cell (.inl gu) (.inl rfl) hcW _).trans (keepc kW hg h2)
      clear hcW hcur
      rw [hs, HCC.out, List.length_append, List.length_replicate] at hle
      obtain ⟨n0, hn0⟩ : ∃ x, (l[k]'(by rw [HN.out]; exact hlt)).1 = x := ⟨_, rfl⟩
      obtain ⟨b0, hb0⟩ : ∃ x, (l[k]'(by rw [HN.out]; exact hlt)).2 = x := ⟨_, rfl⟩
      rw [hn0] at h1 hs hle hsplit
      rw [hb0] at h2 hs hsplit
      obtain ⟨D, hD⟩ : ∃ D, cellsF (l.take k) = D := ⟨_, rfl⟩
      rw [hD] at hJs hs hle hsplit
      have HS := Lib.hid hs
      have HD := Lib.hid hD
      have HSP := Lib.hid hsplit
      have bD : D.length ≤ 100000 := by omega
      have bn : n0 ≤ 100000 := by omega
      rw [hD]
      obtain ⟨X, hX⟩ : ∃ X, wr.alloc (.cells #[.int .i64 n0, .int .i64 b0] 24) = X := ⟨_, rfl⟩
      have kX : Below wr.heap.size wr X := by rw [← hX]; exact al (Below.refl _ _) _
      have rX : RowAt X wr.heap.size #[.int .i64 n0, .int .i64 b0] 24 := by rw [← hX]; exact RowAt.new wr _ _
      have jX := abides HJ.out hJs kX
      have kbX : KeptT u.heap.size w2.heap.size W X := kb.trans (KeptT.of kX)
      have HX := Lib.hid hX
      have qX : w2.heap.size ≤ wr.heap.size := by omega
      have cX0 : X.cell? ⟨wr.heap.size, 0, none⟩ = some (.int .i64 n0) := by rw [rX.cell]; rfl
      clear hs hD hsplit hX hx hn0 hb0 kb hJs kX
      gi_wp2
      rw [HX.out]
      gi_loopw [3, 14] (fun i m ws => ∃ q : Nat, q ≤ n0.toNat ∧ m = .int .i64 q ∧ i = .int .i64 (D.length + q : Nat) ∧ J ((pairsF C).take (D.length + q)) ws ∧ KeptT u.heap.size w2.heap.size W ws ∧ RowAt ws wr.heap.size #[.int .i64 n0, .int .i64 b0] 24) (fun _ m _ => n0.toNat - (intOf m).toNat)
      case atStart => exact ⟨0, by omega, rfl, rfl, jX, kbX, rX⟩
      case round =>
        obtain ⟨q, hq, rfl, rfl, hJs, kb, rX2⟩ := hrel
        by_cases hqn : q < n0.toNat
        · obtain ⟨hlen, hat⟩ := rep_at D q n0.toNat b0 (cellsF (l.drop (k + 1))) hqn
          have htk := pairsF_take C (D.length + q) (by rw [HSP.out]; exact hlen)
          have hel : (C[D.length + q]'(by rw [HSP.out]; exact hlen)) = b0 := by
            have : ∀ (E : List Int) (h : E = C) (h2 : D.length + q < E.length), (C[D.length + q]'(by rw [← h]; exact h2)) = E[D.length + q] := by
              rintro E rfl h2; rfl
            rw [this _ HSP.out.symm hlen, hat]
          rw [hel, show (((D.length + q : Nat) : Int)) = (D.length : Int) + (q : Int) by omega] at htk
          obtain ⟨fn, tmps, assign, body, hy, hR⟩ := HY.out _ ((D.length : Int) + (q : Int), b0) wr hJs (by rw [List.length_take, pairsF_length]; have := hlen; rw [← HSP.out] at this; omega)
          have HT := Lib.hid htk
          have c1 := rX2.two.2
          have zX := rX2.lt
          have hqi : (q : Int) < n0 := by omega
          clear htk hel hat hlen
          try dsimp only at hy
          gi_wp2
          refine hR.mono ?_
          rintro e W3 (⟨rfl, hJ3, hk3⟩ | ⟨rfl, hJx3⟩)
          · replace hk3 := hKp.out _ _ (by omega) hk3
            have hs3 := hk3.size
            have rX3 := hk3.row (.inr qX) (.inl rfl) rX2
            rw [← HT.out] at hJ3
            gi_wp2
            go_roundw
            case rel => exact ⟨q + 1, by omega, by go_num, by rw [show ((D.length : Int) + (q : Int) + 1) = ((D.length + (q + 1) : Nat) : Int) by omega], hJ3, kb.trans hk3, rX3⟩
            case measure => simp [intOf]; omega
          · rw [← HT.out] at hJx3
            gi_wp2
            refine bodyPost_ret (results_none rfl _ _ _) rfl ?_
            exact ⟨⟨_, rfl⟩, .inr ⟨_, List.take_prefix _ _, hJx3⟩⟩
        · obtain rfl : q = n0.toNat := by omega
          have hqi : ¬ (n0.toNat : Int) < n0 := by omega
          gi_wp2
          go_roundw
          case rel => exact ⟨k + 1, by omega, by go_num, by rw [HS.out, List.length_append, List.length_replicate], by rw [HS.out, List.length_append, List.length_replicate]; exact hJs, kb⟩
          case measure => simp [intOf]; omega
    · obtain rfl : k = N := by omega
      have e : cellsF (l.take k) = C := by rw [← HN.out, List.take_length, HCC.out]
      rw [e] at hJs
      rw [show (pairsF C).take C.length = pairsF C by rw [← pairsF_length C, List.take_length]] at hJs
      gi_wp2
      go_end0
      exact ⟨⟨_, rfl⟩, .inl ⟨_, rfl, hJs⟩⟩
theorem b5_all (v : Value) (C : List Int) (hC : okC C) (w : World) (hl0 : RunsAt w v (ofF C)) : Calls Tryd.prog 23 #[v] w fun e w' =>
    ∃ lb, e = .returned (.func (.func 37) #[] lb) ∧ Below w.heap.size w w' ∧ ∀ w2, Below w'.heap.size w' w2 → Tells Tryd.prog 37 lb C w'.heap.size w2 := by
  refine (b5_allK v C hC w hl0).mono ?_
  rintro e w' ⟨lb, he, hb, ht⟩
  exact ⟨lb, he, hb, fun w2 hw2 n hn => ht w2 hw2 _ (fun A B hA h => h.keptT hA) n hn⟩
end Go.Proofs.YtldokggfiklcoaaDoor
