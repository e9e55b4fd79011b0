/- Regions that draw their order, where every operation but the last ones lands, in every world that meets one condition, in one value and in such a world: they go as the text stands. No program. -/
import Derived.StillTail
import Derived.Deep.Cut
import Derived.Below
set_option linter.unusedVariables false
namespace Go.Proofs.Ytaiiilccamdnbaa
open Go Go.RowKit
section
variable {P : Program} {ops : Array Oper} {md : Region.Mode} {S : World → Prop}

/-- A run that leaves v, in a world that meets S. -/
def Lands (P : Program) (S : World → Prop) (v : Value) (r : Result Next) : Prop :=
  (∃ w', r = .ok (.value v) w' ∧ S w') ∨ (∃ f args w', r = .ok (.enter f args) w' ∧ Calls P f args w' fun e w'' => e = .returned v ∧ S w'')

/-- In state a, from every world that meets S, operation o leaves v (or is not wanted). -/
def Settled (P : Program) (ops : Array Oper) (S : World → Prop) (o : Oper) (v : Value) (a : Act) : Prop :=
  (Region.wanted o (yielded ops a.tmps) = true → ∀ w, S w → Lands P S v ((execOp a.eval o).run P w)) ∧ (Region.wanted o (yielded ops a.tmps) = false → v = undef)

theorem Settled.same {o : Oper} {v : Value} {a b : Act} (h : Settled P ops S o v a) (he : execOp b.eval o = execOp a.eval o)
    (hw : Region.wanted o (yielded ops b.tmps) = Region.wanted o (yielded ops a.tmps)) : Settled P ops S o v b :=
  ⟨fun h1 w hS => he ▸ h.1 (hw ▸ h1) w hS, fun h1 => h.2 (hw ▸ h1)⟩

theorem Settled.op {i : Nat} {o : Oper} {v : Value} {a : Act} (hi : ops[i]? = some o) (h : Settled P ops S o v a)
    {Q : Exit → Act → World → Prop} {K : Act → World → Prop} {w : World} (hS : S w) (hK : ∀ w', S w' → K (a.put o.dst v) w') : wpOp P ops Q i K a w := by
  unfold wpOp
  rw [hi]
  cases hw : Region.wanted o (yielded ops a.tmps) with
  | false =>
    obtain rfl := h.2 hw
    simp only [hw, Bool.false_eq_true, if_false]
    exact hK w hS
  | true =>
    simp only [hw, if_true]
    left
    unfold Oper.wp
    rcases h.1 hw w hS with ⟨w', hr, hS'⟩ | ⟨f, args, w', hr, hc⟩
    · rw [hr]; exact hK w' hS'
    · rw [hr]
      refine Calls.mono hc ?_
      rintro e w'' ⟨rfl, hS''⟩
      exact hK w'' hS''

/-- Whichever of the first n operations come up, all are settled; then L. -/
def AllSettled (P : Program) (md : Region.Mode) (ops : Array Oper) (S : World → Prop) (n : Nat) (L : Array Bool → Act → Prop) : Nat → Array Bool → Act → Prop
  | 0, listed, a => L listed a
  | f + 1, listed, a => Region.ready md ops listed ≠ [] ∧ ∀ j ∈ Region.ready md ops listed, j < n ∧
      ∃ o v, ops[j]? = some o ∧ Settled P ops S o v a ∧ AllSettled P md ops S n L f (listed.setIfInBounds j true) (a.put o.dst v)

theorem any_of_settled {n g : Nat} {L : Array Bool → Act → Prop} {Q : Exit → Act → World → Prop} (hL : ∀ listed a, L listed a → ∀ w, S w → wpAny P md ops Q g listed a w) :
    ∀ (f : Nat) (listed : Array Bool) (a : Act), AllSettled P md ops S n L f listed a → ∀ w, S w → wpAny P md ops Q (f + g) listed a w
  | 0, listed, a, h, w, hS => by rw [Nat.zero_add]; exact hL _ _ h w hS
  | f + 1, listed, a, h, w, hS => by
    rw [show f + 1 + g = (f + g) + 1 by omega]
    refine ⟨fun h0 => absurd h0 h.1, fun j hj => ?_⟩
    obtain ⟨_, o, v, ho, hs, hrest⟩ := h.2 j hj
    exact hs.op ho hS fun w' hS' => any_of_settled hL f _ _ hrest w' hS'

theorem settled_first {n i : Nat} {oi : Oper} {v : Value} {L : Array Bool → Act → Prop} (hi : ops[i]? = some oi) (hsel : ∀ (j : Nat) (o : Oper) cs b, ops[j]? = some o → o.op ≠ .select cs b)
    (hs : Region.sinkB md ops n = true) (hc : Region.chainB md ops n = true) (hn : n < ops.size) (hin : i < n)
    (hdone : ∀ listed a, L listed a → ∀ j ∈ Region.ready md ops listed, n ≤ j) :
    ∀ (f : Nat) (listed : Array Bool) (a : Act), HeadInv md ops n listed →
      (∀ j oj, ops[j]? = some oj → j ≠ i → listed.getD j true = false → (∀ e ∈ oj.after, Region.binds md e = true → e.on ≠ i) → oi.apart ops oj = true) →
      i ∈ Region.ready md ops listed → Settled P ops S oi v a →
      AllSettled P md ops S n L f (listed.setIfInBounds i true) (a.put oi.dst v) → AllSettled P md ops S n L (f + 1) listed a := by
  intro f
  induction f with
  | zero =>
    intro listed a inv _ hr hy H
    refine ⟨fun h => absurd hr (by rw [h]; exact List.not_mem_nil), fun j hj => ?_⟩
    have hjn : j < n := Nat.lt_of_not_le fun h => tail_waits hs hc hn inv _ i rfl hin (mem_ready.1 hr).1 j h hj
    by_cases hji : j = i
    · subst hji; exact ⟨hjn, oi, v, hi, hy, H⟩
    · have := hdone _ _ H j (ready_mono hj hji); omega
  | succ f ih =>
    intro listed a inv hfree hr hy H
    have hun := (mem_ready.1 hr).1
    refine ⟨fun h => absurd hr (by rw [h]; exact List.not_mem_nil), fun j hj => ?_⟩
    have hjn : j < n := Nat.lt_of_not_le fun h => tail_waits hs hc hn inv _ i rfl hin hun j h hj
    refine ⟨hjn, ?_⟩
    by_cases hji : j = i
    · subst hji; exact ⟨oi, v, hi, hy, H⟩
    obtain ⟨_, oj, u, hoj, hsj, hrest⟩ := H.2 j (ready_mono hj hji)
    obtain ⟨hjun, oj', hoj', hall⟩ := mem_ready.1 hj
    obtain rfl : oj = oj' := Option.some.inj (hoj.symm.trans hoj')
    have hnot : ∀ e ∈ oj.after, Region.binds md e = true → e.on ≠ i := fun e he hb heq => by
      have h1 := hall e he hb
      rw [heq, getD_both hun] at h1
      cases h1
    obtain ⟨p1, p2, p3⟩ := Oper.apart_spec (hfree j oj hoj hji hjun hnot)
    have hsj' : Settled P ops S oj u a := hsj.same (execOp_put oj (fun cs b => hsel j oj cs b hoj) a oi.dst v p1).symm (wanted_put oj a oi.dst v p1).symm
    have hyi : Settled P ops S oi v (a.put oj.dst u) := hy.same (execOp_put oi (fun cs b => hsel i oi cs b hi) a oj.dst u p3) (wanted_put oi a oj.dst u p3)
    refine ⟨oj, u, hoj, hsj', ih (listed.setIfInBounds j true) (a.put oj.dst u) (inv.set hj hjn) (fun k ok hk hki hkun hno => ?_) (ready_mono hr (Ne.symm hji)) hyi ?_⟩
    · refine hfree k ok hk hki ?_ hno
      by_cases hjk : j = k
      · subst hjk; exact hjun
      · rwa [getD_set_ne true hjk] at hkun
    · rw [Array.setIfInBounds_comm _ _ hji, ← Act.put_comm a v u p2]
      exact hrest

/-- The operations in the text's order. -/
def InText (P : Program) (ops : Array Oper) (S : World → Prop) (L : Act → Prop) : List Oper → Act → Prop
  | [], a => L a
  | o :: l, a => ∃ v, Settled P ops S o v a ∧ InText P ops S L l (a.put o.dst v)

theorem settled_lex {n g : Nat} {Lq : Act → Prop} (hsel : Region.noSelect ops = true) (hs : Region.sinkB md ops n = true) (hc : Region.chainB md ops n = true) (hn : n < ops.size) :
    ∀ (l : List Oper) (k : Nat) (listed : Array Bool) (a : Act), (∀ j, j < l.length → l[j]? = ops[k + j]?) → k + l.length = n → HeadInv md ops n listed →
    Region.lexHead md ops g l.length k listed = true → InText P ops S Lq l a →
    AllSettled P md ops S n (fun listed' a' => Region.seqB md ops g n listed' = true ∧ Lq a') l.length listed a
  | [], k, listed, a, _, hk, _, hB, h => by
    obtain rfl : k = n := hk
    exact ⟨by rwa [List.length_nil, Region.lexHead] at hB, h⟩
  | o :: l, k, listed, a, hl, hk, inv, hB, h => by
    have ho : ops[k]? = some o := (hl 0 (Nat.zero_lt_succ _)).symm
    rw [List.length_cons, Region.lexHead, Bool.and_eq_true, Bool.and_eq_true] at hB
    have hkn : k < n := by rw [List.length_cons] at hk; omega
    have hr : k ∈ Region.ready md ops listed := List.contains_iff_mem.1 hB.1.1
    obtain ⟨v, hv, hrest⟩ := h
    refine settled_first ho (Region.noSelect_spec hsel) hs hc hn hkn (fun _ _ hL => seqB_ready hL.1) l.length listed a inv (Region.free_spec ho hB.1.2) hr hv ?_
    refine settled_lex hsel hs hc hn l (k + 1) _ _ (fun j hj => ?_) (by rw [List.length_cons] at hk; omega) (inv.set hr hkn) hB.2 hrest
    have := hl (j + 1) (Nat.succ_lt_succ hj)
    rwa [List.getElem?_cons_succ, show k + (j + 1) = k + 1 + j by omega] at this

theorem region_settled {id : Nat} {Q : Exit → Act → World → Prop} {a : Act} {w : World} {l : List Oper} (S : World → Prop) (n : Nat) (hm : P.follows .mixedOrders = true) (hB : Region.lexTailB .any l.toArray n = true)
    (hS : S w.drew) (h : InText P l.toArray S (fun a' => ∀ w', S w' → wpList P l.toArray Q (l.drop n) a' w') (l.take n) a) : (Code.region id l.toArray true).wp P Q a w := by
  rw [Region.lexTailB, Bool.and_eq_true, Bool.and_eq_true, Bool.and_eq_true, Bool.and_eq_true] at hB
  obtain ⟨⟨⟨⟨hsel, hn⟩, hs⟩, hc⟩, hlex⟩ := hB
  have hn : n < l.toArray.size := of_decide_eq_true hn
  have hl : n < l.length := by simpa using hn
  have htl : (l.take n).length = n := by simp; omega
  have hdl : (l.drop n).length = l.toArray.size - n := by simp
  have inv : HeadInv .any l.toArray n (Array.replicate l.toArray.size false) :=
    ⟨by simp, fun j oj _ hj => absurd hj (by rw [getD_replicate_false]; exact Bool.false_ne_true), fun t _ ht => getD_in (by simpa using ht) (getD_replicate_false _ _)⟩
  have H := settled_lex (md := .any) (g := l.toArray.size - n) hsel hs hc hn (l.take n) 0 _ a (fun j hj => by
    have hjn : j < n := by rwa [htl] at hj
    simp [hjn]) (by rw [htl]; omega) inv (by rw [htl]; exact hlex) h
  have K := any_of_settled (Q := Q) (g := l.toArray.size - n) (fun listed a' hL w' hw' => by
    have := wpAny_of_seq (md := .any) (Q' := Q) (l.drop n) n listed a' w' (fun j => by simp [List.getElem?_drop]) (by rw [hdl]; exact hL.1) (hL.2 w' hw')
    rwa [hdl] at this) _ _ _ H w.drew hS
  rw [htl, show n + (l.toArray.size - n) = l.toArray.size by omega] at K
  exact wp_region_any hm K

/-- The same in a region that goes as the text stands. -/
theorem list_in_text {Q : Exit → Act → World → Prop} {rest : List Oper} {L : Act → Prop} (hL : ∀ a w, L a → S w → wpList P ops Q rest a w) :
    ∀ (l : List Oper) (a : Act) (w : World), S w → InText P ops S L l a → wpList P ops Q (l ++ rest) a w
  | [], a, w, hS, h => hL a w h hS
  | o :: l, a, w, hS, h => by
    obtain ⟨v, hv, hrest⟩ := h
    have ih : ∀ w', S w' → wpList P ops Q (l ++ rest) (a.put o.dst v) w' := fun w' hS' => list_in_text hL l _ w' hS' hrest
    rw [List.cons_append, wpList]
    cases hw : Region.wanted o (yielded ops a.tmps) with
    | false =>
      obtain rfl := hv.2 hw
      rw [if_neg (by decide)]
      exact ih w hS
    | true =>
      rw [if_pos rfl]
      left
      unfold Oper.wp
      rcases hv.1 hw w hS with ⟨w', hr, hS'⟩ | ⟨f, args, w', hr, hc⟩
      · rw [hr]; exact ih w' hS'
      · rw [hr]
        refine Calls.mono hc ?_
        rintro e w'' ⟨rfl, hS''⟩
        exact ih w'' hS''
theorem plain_settled {id : Nat} {Q : Exit → Act → World → Prop} {a : Act} {w : World} {l : List Oper} (S : World → Prop) (n : Nat) (hS : S w)
    (h : InText P l.toArray S (fun a' => ∀ w', S w' → wpList P l.toArray Q (l.drop n) a' w') (l.take n) a) : (Code.region id l.toArray false).wp P Q a w := by
  refine wp_region_lit ?_
  have := list_in_text (Q := Q) (rest := l.drop n) (L := fun a' => ∀ w', S w' → wpList P l.toArray Q (l.drop n) a' w') (fun a w h hS => h w hS) (l.take n) a w hS h
  rwa [List.take_append_drop] at this

/-! ### The steps -/
variable {L : Act → Prop} {l : List Oper} {o : Oper} {a : Act} {v : Value}
theorem InText.val (hw : Region.wanted o (yielded ops a.tmps) = true) (hv : ∀ w, S w → (execOp a.eval o).run P w = .ok (.value v) w)
    (h : InText P ops S L l (a.put o.dst v)) : InText P ops S L (o :: l) a :=
  ⟨v, ⟨fun _ w hS => .inl ⟨w, hv w hS, hS⟩, fun h0 => absurd (hw.symm.trans h0) (by decide)⟩, h⟩
theorem InText.call {f : FuncId} {args : Array Value} (hw : Region.wanted o (yielded ops a.tmps) = true) (hv : ∀ w, S w → (execOp a.eval o).run P w = .ok (.enter f args) w)
    (hc : ∀ w, S w → Calls P f args w fun e w' => e = .returned v ∧ S w') (h : InText P ops S L l (a.put o.dst v)) : InText P ops S L (o :: l) a :=
  ⟨v, ⟨fun _ w hS => .inr ⟨f, args, w, hv w hS, hc w hS⟩, fun h0 => absurd (hw.symm.trans h0) (by decide)⟩, h⟩
theorem InText.skip (hw : Region.wanted o (yielded ops a.tmps) = false) (h : InText P ops S L l (a.put o.dst undef)) : InText P ops S L (o :: l) a :=
  ⟨undef, ⟨fun h0 => absurd (hw.symm.trans h0) (by decide), fun _ => rfl⟩, h⟩

/-! ### Of worlds in which what was there is as it was -/
theorem region_below {id : Nat} {Q : Exit → Act → World → Prop} {a : Act} {w : World} {l : List Oper} (n : Nat) (hm : P.follows .mixedOrders = true) (hB : Region.lexTailB .any l.toArray n = true)
    (h : InText P l.toArray (Below w.heap.size w) (fun a' => ∀ w', Below w.heap.size w w' → wpList P l.toArray Q (l.drop n) a' w') (l.take n) a) : (Code.region id l.toArray true).wp P Q a w :=
  region_settled (Below w.heap.size w) n hm hB (Below.refl _ _).drew h
theorem plain_below {id : Nat} {Q : Exit → Act → World → Prop} {a : Act} {w : World} {l : List Oper} (n : Nat)
    (h : InText P l.toArray (Below w.heap.size w) (fun a' => ∀ w', Below w.heap.size w w' → wpList P l.toArray Q (l.drop n) a' w') (l.take n) a) : (Code.region id l.toArray false).wp P Q a w :=
  plain_settled (Below w.heap.size w) n (Below.refl _ _) h
theorem through {f : FuncId} {args : Array Value} {w W : World} {v : Value} (hS : Below w.heap.size w W) (h : Calls P f args W fun e w' => e = .returned v ∧ Below W.heap.size W w') :
    Calls P f args W fun e w' => e = .returned v ∧ Below w.heap.size w w' := h.mono fun _ _ ⟨he, hb⟩ => ⟨he, hS.trans (hb.mono hS.size)⟩
theorem throughP {f : FuncId} {args : Array Value} {w W : World} {v : Value} (hS : Below w.heap.size w W) (h : Calls P f args W fun e w' => e = .returned v ∧ W = w') :
    Calls P f args W fun e w' => e = .returned v ∧ Below w.heap.size w w' := h.mono fun _ _ ⟨he, hb⟩ => ⟨he, hb ▸ hS⟩
end
end Go.Proofs.Ytaiiilccamdnbaa
