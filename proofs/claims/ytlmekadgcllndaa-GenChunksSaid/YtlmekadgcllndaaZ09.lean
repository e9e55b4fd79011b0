/- Texts behind each other. -/
import Derived.Test.YtlmekadgcllndaaZ08
import Derived.Test.YtlmekadgcllndaaZ07
import Derived.Test.YtlmekadgcllndaaZ04
/- Layer 10's landed code (gen): Chunk. -/
set_option linter.unusedVariables false
set_option linter.unusedSimpArgs false
namespace Go.Proofs.Ytlmekadgcllndaa
open Go.ChangeShapes Go.WideShapes Go.ChangeAt Go.RowKit Go.Shelf
attribute [local go_sem] Oper.semAt_some
/-- What the iterator asks of a round: the rows of grounds. -/
structure KeptG (W W' : World) : Prop where
  rows : ∀ b cs, RowAt W b cs 47 → RowAt W' b cs 47
theorem KeptG.trans {A B C : World} (h : KeptG A B) (k : KeptG B C) : KeptG A C := ⟨fun b cs r => k.rows b cs (h.rows b cs r)⟩
theorem KeptG.putObj {W : World} {l : Nat} {o o' : Obj} (h : W.heap[l]? = some o) (hc : o.isCells = false) : KeptG W (W.putObj l o') :=
  ⟨fun b cs hb => (World.putObj_heap_other (by
    rintro rfl
    rw [show W.heap[b]? = _ from hb] at h
    cases h
    simp [Obj.isCells] at hc)).trans hb⟩
theorem KeptG.app {W w1 : World} {B base n : Nat} {v x : Value} {xs : List Value} {tmp : Obj} (hb : Boxed W B 42 v) (ho : W.ownsRow base 3 1 v n xs) (hg : (W.alloc tmp).grownBy w1 v.ownBlock) : KeptG W (w1.setCell ⟨B, 0, none⟩ x) := by
  refine ⟨fun b cs hr => ?_⟩
  have hc : W.heap[b]? = some (.cells cs 47 (0, 0)) := hr
  have hlt : b < W.heap.size := (Array.getElem?_eq_some_iff.1 hc).1
  have h1 : (W.alloc tmp).heap[b]? = W.heap[b]? := Below.heap_alloc _ _ _ (by omega)
  have hne : some b ≠ v.ownBlock := fun e => by
    rcases ho.2 with ⟨rfl, _⟩ | ⟨g, cap, cur, rfl, _, hgb, _⟩
    · simp [Value.ownBlock] at e
    · obtain rfl : b = g := by simpa [Value.ownBlock] using e
      rw [hgb] at hc
      cases hc
  have hnB : b ≠ B := by
    rintro rfl
    rw [show W.heap[b]? = _ from hb] at hc
    cases hc
  show (w1.setCell ⟨B, 0, none⟩ x).heap[b]? = _
  rw [Below.heap_setCell _ _ _ b hnB, hg.block b (by simp; omega) hne, h1]
  exact hc
theorem runs_putObj {W : World} {v : Value} {l : List Run} (h : RunsAt W v l) (D : Nat) (o' : Obj) {ds : Option (List Deferred)} (hK : W.heap[D]? = some (.deferred ds)) : RunsAt (W.putObj D o') v l := by
  rcases h with h | ⟨g, off, cap, e, hc, hg, hx⟩
  · exact .inl h
  · refine .inr ⟨g, off, cap, e, hc, by simpa [World.putObj] using hg, fun j hj => ?_⟩
    obtain ⟨h1, h2⟩ := hx j hj
    exact ⟨cell_kept h1 (grownBy_putObj' _ D o') (fun r e => by cases e; exact ⟨_, hK, rfl⟩), cell_kept h2 (grownBy_putObj' _ D o') (fun r e => by cases e; exact ⟨_, hK, rfl⟩)⟩
set_option maxRecDepth 10000 in
set_option maxHeartbeats 4000000 in
theorem gA_chunk (s px pz : Int) (hs : i64 s) (hx : -134217728 ≤ px ∧ px ≤ 134217728) (hz : -134217728 ≤ pz ∧ pz ≤ 134217728) (w : World) : Calls Try.prog 6 #[.int .i64 s, posV px pz] w fun e w' => ∃ v', e = .returned v' ∧ RunsAt w' v' (ofF (chunkF s px pz 8192)) ∧ Below w.heap.size w w' := by
  obtain ⟨i0, hi, hzz, hsz, hby⟩ := int_info
  have hce := fun u => gA_cellsK s px pz hs hx hz u
  have hcl := chunkF_len s px pz 8192
  generalize chunkF s px pz 8192 = C at *
  have CE := Lib.hid hce
  have CLN := Lib.hid hcl
  clear hce hcl hs hx hz
  obtain ⟨u, hu⟩ : ∃ u, (w.alloc (.cells #[.int .i64 px, .int .i64 pz] 23)).alloc (.cells #[.slice none 0 0] 42) = u := ⟨_, rfl⟩
  have ku : Below w.heap.size w u := by rw [← hu]; exact al (al (Below.refl _ _) _) _
  have rp : RowAt u w.heap.size #[.int .i64 px, .int .i64 pz] 23 := by rw [← hu]; exact (RowAt.new w _ _).alloc _
  have ru : Boxed u (w.heap.size + 1) 42 (.slice none 0 0) := by rw [← hu]; exact RowAt.make _ _ _ (by simp)
  have su : u.heap.size = w.heap.size + 1 + 1 := by rw [← hu]; simp
  have HU := Lib.hid hu
  have c0 := rp.cell
  have z0 := rp.lt
  clear hu
  refine (callsIn_wide (n := 9)).1 ?_
  refine callsIn_of_wp_marks Try.func6 rfl trivial ?_ rfl
  simp only [Try.ntmps6, List.size_toArray, List.length_cons, List.length_nil, Nat.reduceAdd, Nat.reduceSub, Array.replicate_succ, Array.replicate_zero, List.push_toArray, List.append_toArray, List.nil_append, List.cons_append]
  gi_wp2_with fail
  rw [HU.out]
  gi_wp2_with fail
  refine ⟨trivial, (callsIn_wide.2 (CE.out _)).mono ?_⟩
  rintro e Wa ⟨lb, rfl, hv, ht⟩
  have ka : Below w.heap.size w Wa := chain ku hv
  have ra : Boxed Wa (w.heap.size + 1) 42 (.slice none 0 0) := (hv.block _ ru.lt).trans ru
  have hT := ht Wa (Below.refl _ _) KeptG (fun A B b cs _ h r => h.rows b cs r) (9 - 1) (by omega)
  have sa : w.heap.size + 1 < Wa.heap.size := ra.lt
  clear hv ht ku ru rp c0 z0
  gi_wp2_with fail
  refine wpIn_rangeK (Kp := KeptG) (fun (x : Int) t => (t.setIfInBounds 10 (.int .i64 x)).setIfInBounds 6 (.int .i64 x)) (fun h k => h.trans k) (fun W l o o' _ h hc _ => KeptG.putObj h hc) rfl (by omega) (gf := 19) rfl trivial (enters_of Try.func19 (by kernel_rfl) rfl)
    hT (fun _ => rfl)
    (fun (pre : List Int) W => (∃ v', Boxed W (w.heap.size + 1) 42 v' ∧ W.ownsRow (w.heap.size + 1) 3 1 v' pre.length (intVs pre) ∧ True) ∧ Below w.heap.size w W)
    (fun _ _ _ => False)
    (OwnFrom.and (Own.from (holdsRow_own _ _ _ _ _ (fun pre : List Int => pre.length) (fun pre : List Int => intVs pre) (fun _ _ => True)) _) (ownFrom_below (Nat.le_refl _) ka.size))
    (fun _ => Own.from (fun _ _ _ _ hs _ _ => hs) _)
    ⟨⟨_, ra, World.ownsRow_nil _ _ _ _, trivial⟩, ka⟩ ?assign ?body ?done ?stop
  case assign =>
    intro l x W K hK
    simp only [List.setIfInBounds_toArray, List.set_cons_zero, List.set_cons_succ] at hK
    gi_wp2
    exact hK
  case body =>
    rintro l pre x W ⟨⟨v', hbx, hown, _⟩, hB⟩ hlen
    simp only [List.setIfInBounds_toArray, List.set_cons_zero, List.set_cons_succ]
    obtain ⟨po, co, rfl⟩ := own_form hown
    obtain ⟨k, hk⟩ : ∃ k, pre.length = k := ⟨_, rfl⟩
    have hk9 : k < 8192 := by have := CLN.out; omega
    rw [hk] at hown hbx hlen
    have hc1 := hbx.cell
    have hf1 := hbx.frozen
    have zb := hbx.lt
    have HBX := Lib.hid hbx
    have HO := Lib.hid hown
    have hwB := hB.size
    clear hbx hown
    gi_wp2_with (gi_at_builtin; refine wpListIn_append_own _ rfl _ _ 42 rfl (w.heap.size + 1) 3 i0 _ 1 8 Try.underlying42 hi hzz hsz hby rfl (by decide) _ k _ rfl (HO.out.alloc _) ⟨W.heap.size, 0, none⟩ 1 1 [.int .i64 x] rfl rfl (cell_one_new _ _ _) (by simp [Value.oneCell']) (by simp only [maxLen]; omega) (by omega) (by simp; omega) ?_; intro v1 w1 ho1 hg1 _; obtain ⟨a1, a2, a3, a4, a5⟩ := HBX.out.appended (by decide) HO.out (by omega) (Nat.le_refl _) ho1 hg1; have a6 := KeptG.app (x := v1) HBX.out HO.out hg1; obtain ⟨g1, cap1, rfl⟩ := ownsRow_succ ho1; have c2 := a1.cell; have f2 := a1.frozen; have z2 := a1.lt)
    exact ⟨a4, a6, ⟨_, a2, by rw [List.length_append, hk]; simpa using a3, trivial⟩, hB.trans (a5.mono (by omega))⟩
  case done =>
    rintro D2 ys W hD rfl ⟨⟨v', hbx, hown, _⟩, hB⟩ hK
    have hc1 := hbx.cell
    have zb := hbx.lt
    have hio := ints_of_owned hown
    have hof := b5_of _ _ _ hio (by rw [CLN.out]; omega)
    have HOF := Lib.hid hof
    have HB := Lib.hid hB
    clear hown hbx hio hof hB
    gi_wp2_with fail
    refine ⟨trivial, (callsIn_wide.2 HOF.out).mono ?_⟩
    rintro e X ⟨v9, rfl, hr, hv⟩
    have hK' := (hv.block D2 (Array.getElem?_eq_some_iff.1 hK).1).trans hK
    have hB2 := chain HB.out hv
    have hR := Lib.hid hr
    clear hv hc1 zb hr
    gi_wp2
    refine ⟨by simp, .inl ⟨_, _, rfl, run_takeDeferred hK', ?_⟩⟩
    exact ⟨_, results_tmp rfl _ _ _, v9, rfl, runs_putObj hR.out _ (.deferred none) hK', hB2.trans (belowK_b (w := w) (Nat.le_refl _) X D2 _ _ (by have := ka.size; omega) hK' rfl rfl)⟩
  case stop =>
    rintro D c pre W _ h1 h2 _
    exact h2.elim
end Go.Proofs.Ytlmekadgcllndaa
/- The landed gen is what the laws of layer 10 ask. -/
set_option linter.unusedVariables false
set_option linter.unusedSimpArgs false
namespace Go.Proofs.Ytlmekadgcllndaa
open Go.ChangeShapes Go.WideShapes Go.ChangeAt Go.RowKit Go.Shelf
theorem genI : GenI where
  zero := fun w => by
    have h := gA_hash 0 0 0 ⟨by decide, by decide⟩ ⟨by decide, by decide⟩ ⟨by decide, by decide⟩ w
    rw [hash_zero] at h
    refine h.mono ?_
    rintro e w' ⟨rfl, rfl⟩
    exact ⟨rfl, Below.refl _ _⟩
  ground := fun s x z w hs hx hz => gA_ground s x z hs hx hz w
  block := fun s x y z w hs hx hy hz => gA_block s x y z hs hx hz w
  chunk := fun s px pz w hV hs hx hz => by
    refine (gA_chunk s px pz hs ⟨hx.1, by omega⟩ ⟨hz.1, by omega⟩ w).mono ?_
    rintro e w' ⟨v, rfl, hr, hb⟩
    exact ⟨v, rfl, hr, hb⟩
theorem genC : GenC genI := ⟨fun s px pz w hV hs hx hz => gA_cells s px pz hs ⟨hx.1, by omega⟩ ⟨hz.1, by omega⟩ w⟩
end Go.Proofs.Ytlmekadgcllndaa
