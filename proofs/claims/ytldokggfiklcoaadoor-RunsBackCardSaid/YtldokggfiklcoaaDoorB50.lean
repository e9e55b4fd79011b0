/- Contracts of layer 5 (runs), of the landed code: all of them; here: Cells (a range over a function, in which a row grows). -/
import Derived.Test.YtldokggfiklcoaaDoorB51
import Derived.Test.YtldokggfiklcoaaDoorB5C
import Derived.RangeFuncBox
set_option linter.unusedVariables false
set_option linter.unusedSimpArgs false
namespace Go.Proofs.YtldokggfiklcoaaDoor
open Go.ChangeShapes Go.WideShapes Go.ChangeAt Go.RowKit Go.Shelf
attribute [local go_sem] Oper.semAt_some
/-- The law of a range over a function, whatever the iterator asks of a round. -/
theorem wpIn_rangeK {F : Fence} {n : Nat} {P : Program} {α : Type} {g : Operand} {ps : Array Tmp} {assign body : Code} {Q : Exit → Act → World → Prop} {a : Act} {w : World} {Kp : World → World → Prop} (upd : α → Array Value → Array Value)
    (hKt : ∀ {A B C : World}, Kp A B → Kp B C → Kp A C) (hKb : ∀ (W : World) (l : Nat) (o o' : Obj), w.heap.size ≤ l → W.heap[l]? = some o → o.isCells = false → o.isWalk = false → Kp W (W.putObj l o'))
    (hro : F.round = none) (h1 : 1 ≤ n) {gf : Nat} {lb : Array Value} (hg : a.eval g = .func (.func gf) #[] lb) (hFg : F.fn gf) (eg : ∀ args w, (callFunc gf args).run P w = .ok (.enter gf args) w)
    {encs : α → Array Value} {S Sp : List α → Prop} {N : Nat} (hseq : SeqStopsK F (n - 1) P gf lb encs Kp S Sp N w) (hps : ∀ x, (encs x).size = ps.size)
    (I : List α → World → Prop) (Ix : Code → List α → World → Prop) (hI : OwnFrom w.heap.size I) (hIx : ∀ c, OwnFrom w.heap.size (Ix c)) (h0 : I [] w)
    (hassign : ∀ (l : Nat) (x : α) (W : World) (K : Act → World → Prop), K { tmps := upd x a.tmps, defers := [] } W →
      assign.wpIn (F.inRound l) (n - 1 - 1) P (Exit.then K (fun _ _ _ => False)) { tmps := (ps.zip (encs x)).foldl (fun t (p, v) => t.setIfInBounds p v) a.tmps, defers := [] } W)
    (hbody : ∀ (l : Nat) (pre : List α) (x : α) (W : World), I pre W → pre.length < N → body.wpIn (F.inRound l) (n - 1 - 1) P (ownPostK Kp I Ix (pre ++ [x]) W) { tmps := upd x a.tmps, defers := [] } W)
    (hdone : ∀ (D : Nat) (xs : List α) (W : World), w.heap.size ≤ D → S xs → I xs W → W.heap[D]? = some (.deferred (some [])) → Q .normal { a with defers := { target := .collected D, args := #[] } :: a.defers } W)
    (hstop : ∀ (D : Nat) (c : Code) (pre : List α) (W : World), w.heap.size ≤ D → Sp pre → Ix c pre W → W.heap[D]? = some (.deferred (some [])) → c.wpIn F n P Q { a with defers := { target := .collected D, args := #[] } :: a.defers } W) :
    (Code.rangeFunc g ps assign body).wpIn F n P Q a w :=
  wpIn_rangeFunc_ownF hro h1 hg hFg eg hseq hKt hKb (Below.refl _ _) hps I Ix hI hIx h0 (fun x => { tmps := upd x a.tmps, defers := [] }) hassign hbody hdone hstop
theorem KeptT.whole {lo hi : Nat} {A B : World} (h : KeptT 0 0 A B) : KeptT lo hi A B := ⟨h.size, fun b c t f _ ht hc => h.rows b c t f (.inr (Nat.zero_le _)) ht hc⟩
theorem KeptT.putObj {W : World} {l : Nat} {o o' : Obj} (h : W.heap[l]? = some o) (hc : o.isCells = false) : KeptT 0 0 W (W.putObj l o') :=
  ⟨by simp [World.putObj], fun b c t f _ _ hb => (World.putObj_heap_other (by
    rintro rfl
    rw [h] at hb
    cases hb
    simp [Obj.isCells] at hc)).trans hb⟩
/-- A row of whole numbers that grows, and its variable: no row of runs is touched. -/
theorem KeptT.app {W w1 : World} {B base n : Nat} {v x : Value} {xs : List Value} {tmp : Obj} (hb : Boxed W B 26 v) (ho : W.ownsRow base 3 1 v n xs) (hg : (W.alloc tmp).grownBy w1 v.ownBlock) : KeptT 0 0 W (w1.setCell ⟨B, 0, none⟩ x) := by
  refine ⟨by have := hg.size; simp [World.setCell] at *; omega, fun b c t f _ ht hc => ?_⟩
  have hlt : b < W.heap.size := (Array.getElem?_eq_some_iff.1 hc).1
  have h1 : (W.alloc tmp).heap[b]? = W.heap[b]? := Below.heap_alloc _ _ _ (by omega)
  have hne : some b ≠ v.ownBlock := fun e => by
    rcases ho.2 with ⟨rfl, _⟩ | ⟨g, cap, cur, rfl, _, hgb, _⟩
    · simp [Value.ownBlock] at e
    · obtain rfl : b = g := by simpa [Value.ownBlock] using e
      rw [hgb] at hc
      cases hc
      revert ht
      decide
  have hnB : b ≠ B := by
    rintro rfl
    rw [show W.heap[b]? = _ from hb] at hc
    cases hc
    revert ht
    decide
  rw [Below.heap_setCell _ _ _ b hnB, hg.block b (by simp; omega) hne, h1]
  exact hc
theorem pairsF_snd (C : List Int) : (pairsF C).map (·.2) = C := by
  apply List.ext_getElem
  · simp [pairsF]
  · intro j h1 h2
    simp [pairsF]
set_option maxHeartbeats 4000000 in
theorem b5_cells (v : Value) (C : List Int) (hC : okC C) (w : World) (hl : RunsAt w v (ofF C)) : Calls Tryd.prog 21 #[v] w fun e w' => ∃ v', e = .returned v' ∧ IntsAt w' v' C ∧ Below w.heap.size w w' := by
  obtain ⟨i0, hi, hz, hsz, hby⟩ := int_info
  obtain ⟨u, hu⟩ : ∃ u, w.alloc (.cells #[.slice none 0 0] 26) = u := ⟨_, rfl⟩
  have ku : Below w.heap.size w u := by rw [← hu]; exact al (Below.refl _ _) _
  have ru : Boxed u w.heap.size 26 (.slice none 0 0) := by rw [← hu]; exact Boxed.new w _ _
  have hlu := hl.keep ku
  have hCl := hC.2
  have HU := Lib.hid hu
  have HC := Lib.hid hC
  clear hu hl hC
  refine (callsIn_wide (n := 9)).1 ?_
  refine callsIn_of_wp_marks Tryd.func21 rfl trivial ?_ rfl
  simp only [Tryd.ntmps21, List.size_toArray, List.length_cons, List.length_nil, Nat.reduceAdd, Nat.reduceSub, Array.replicate_succ, Array.replicate_zero, List.push_toArray, List.append_toArray, List.nil_append, List.cons_append]
  gi_wp2_with fail
  rw [HU.out]
  refine ⟨trivial, (callsIn_wide.2 (b5_allK _ C HC.out _ hlu)).mono ?_⟩
  rintro e Wa ⟨lb, rfl, hv, ht⟩
  have ka : Below w.heap.size w Wa := chain ku hv
  have ra : Boxed Wa w.heap.size 26 (.slice none 0 0) := (hv.block _ ru.lt).trans ru
  have hT := ht Wa (Below.refl _ _) (KeptT 0 0) (fun A B _ h => h.whole) (9 - 1) (by omega)
  clear hv ht hlu ku ru
  gi_wp2_with fail
  refine wpIn_rangeK (Kp := KeptT 0 0) (fun x t => ((t.setIfInBounds 8 (.int .i64 x.1)).setIfInBounds 9 (.int .i64 x.2)).setIfInBounds 5 (.int .i64 x.2)) (fun h k => h.trans k) (fun W l o o' _ h hc _ => KeptT.putObj h hc) rfl (by omega) (gf := 37) rfl trivial (enters_of Tryd.func37 (by kernel_rfl) rfl)
    hT (fun _ => rfl)
    (fun (pre : List (Int × Int)) W => (∃ v', Boxed W w.heap.size 26 v' ∧ W.ownsRow w.heap.size 3 1 v' pre.length (intVs (pre.map (·.2))) ∧ True) ∧ Below w.heap.size w W)
    (fun _ _ _ => False)
    (OwnFrom.and (Own.from (holdsRow_own _ _ _ _ _ (fun pre : List (Int × Int) => pre.length) (fun pre : List (Int × Int) => intVs (pre.map (·.2))) (fun _ _ => True)) _) (ownFrom_below (Nat.le_refl _) ka.size))
    (fun _ => Own.from (fun _ _ _ _ hs _ _ => hs) _)
    ⟨⟨_, ra, World.ownsRow_nil _ _ _ _, trivial⟩, ka⟩ ?assign ?body ?done ?stop
  case assign =>
    intro l x W K hK
    simp only [List.setIfInBounds_toArray, List.set_cons_zero, List.set_cons_succ] at hK
    gi_wp2
    exact hK
  case body =>
    rintro l pre ⟨x1, x2⟩ W ⟨⟨v', hbx, hown, _⟩, hB⟩ hlen
    simp only [List.setIfInBounds_toArray, List.set_cons_zero, List.set_cons_succ]
    obtain ⟨po, co, rfl⟩ := own_form hown
    obtain ⟨k, hk⟩ : ∃ k, pre.length = k := ⟨_, rfl⟩
    rw [hk] at hown hbx hlen
    have hc1 := hbx.cell
    have hf1 := hbx.frozen
    have zb := hbx.lt
    have HBX := Lib.hid hbx
    have HO := Lib.hid hown
    have hwB := hB.size
    clear hbx hown
    gi_wp2_with (gi_at_builtin; refine wpListIn_append_own _ rfl _ _ 26 rfl w.heap.size 3 i0 _ 1 8 Tryd.underlying26 hi hz hsz hby rfl (by decide) _ k _ rfl (HO.out.alloc _) ⟨W.heap.size, 0, none⟩ 1 1 [.int .i64 x2] rfl rfl (cell_one_new _ _ _) (by simp [Value.oneCell']) (by simp only [maxLen]; omega) (by omega) (by simp; omega) ?_; intro v1 w1 ho1 hg1 _; obtain ⟨a1, a2, a3, a4, a5⟩ := HBX.out.appended (by decide) HO.out hwB (Nat.le_refl _) ho1 hg1; have a6 := KeptT.app (x := v1) HBX.out HO.out hg1; obtain ⟨g1, cap1, rfl⟩ := ownsRow_succ ho1; have c2 := a1.cell; have f2 := a1.frozen; have z2 := a1.lt)
    exact ⟨a4, a6, ⟨_, a2, by rw [List.length_append, hk]; simpa using a3, trivial⟩, hB.trans a5⟩
  case done =>
    rintro D2 ys W hD rfl ⟨⟨v', hbx, hown, _⟩, hB⟩ hK
    have hc1 := hbx.cell
    have zb := hbx.lt
    have HO := Lib.hid hown
    clear hown hbx
    gi_wp2
    refine ⟨by simp, .inl ⟨_, _, rfl, run_takeDeferred hK, ?_⟩⟩
    have hq := ownsRow_putObj HO.out (.deferred none) hK rfl
    rw [pairsF_snd, pairsF_length] at hq
    exact ⟨_, results_tmp rfl _ _ _, v', rfl, ints_of_owned hq, hB.trans (belowK_b (w := w) (Nat.le_refl _) W D2 _ _ (by have := ka.size; omega) hK rfl rfl)⟩
  case stop =>
    rintro D c pre W _ h1 h2 _
    exact h2.elim
end Go.Proofs.YtldokggfiklcoaaDoor
