/- Texts behind each other. -/
import Derived.StillTail
import Derived.Deep.Cut
import Derived.Below
import Derived.Deep.DrawnRows
import Derived.Deep.RegionWith
import Derived.Test.YtlmekadgcllndaaZ01
import Derived.Test.YtlmekadgcllndaaRows
import Derived.Test.YtlmekadgcllndaaShelf
import Derived.WalkKit
import Derived.ProofKit
import Derived.OpenShut
import Derived.WalkLawsBesides
import Derived.WalkSpells
import Derived.Deep.QuietTactic
import Derived.BigQuiet
import Derived.Lib.Hide
import Derived.Handy
import Derived.Lib.MinMax
import Derived.WalkSmall
/- Regions that draw their order, where every operation but the last ones, from every world in which what was there is as it was, leaves one value, and such a world: they go as the text stands; a new variable's allocation among them may come up anywhere. No program. -/
set_option linter.unusedVariables false
namespace Go.Proofs.Ytlmekadgcllndaa
open Go Go.RowKit
section
variable {P : Program} {ops : Array Oper} {md : Region.Mode} {w : World}

/-- In state a, from every world that has w's memory, operation o leaves v, and that memory (or is not wanted). -/
def Calm (P : Program) (ops : Array Oper) (w : World) (o : Oper) (v : Value) (a : Act) : Prop :=
  (Region.wanted o (yielded ops a.tmps) = true → ∀ u, Below w.heap.size w u → ((execOp a.eval o).run P u = .ok (.value v) u) ∨
    ∃ f args, (execOp a.eval o).run P u = .ok (.enter f args) u ∧ Calls P f args u fun e u' => e = .returned v ∧ Below u.heap.size u u') ∧
  (Region.wanted o (yielded ops a.tmps) = false → v = undef)

theorem Calm.same {o : Oper} {v : Value} {a b : Act} (h : Calm P ops w o v a) (he : execOp b.eval o = execOp a.eval o)
    (hw : Region.wanted o (yielded ops b.tmps) = Region.wanted o (yielded ops a.tmps)) : Calm P ops w o v b :=
  ⟨fun h1 u hu => he ▸ h.1 (hw ▸ h1) u hu, fun h1 => h.2 (hw ▸ h1)⟩

/-- A condition that holds on: what calls leave alone keeps it; it has w's memory. -/
structure Keeps (w : World) (S : World → Prop) : Prop where
  mono : ∀ u u', S u → Below u.heap.size u u' → S u'
  base : ∀ u, S u → Below w.heap.size w u

theorem keeps_below (w : World) : Keeps w (Below w.heap.size w) := ⟨fun _ _ h hb => h.trans (hb.mono h.size), fun _ h => h⟩

theorem Calm.op {S : World → Prop} (hS : Keeps w S) {i : Nat} {o : Oper} {v : Value} {a : Act} (hi : ops[i]? = some o) (h : Calm P ops w o v a)
    {Q : Exit → Act → World → Prop} {K : Act → World → Prop} {u : World} (hu : S u) (hK : ∀ u', S u' → K (a.put o.dst v) u') : wpOp P ops Q i K a u := by
  unfold wpOp
  rw [hi]
  cases hw : Region.wanted o (yielded ops a.tmps) with
  | false =>
    obtain rfl := h.2 hw
    simp only [hw, Bool.false_eq_true, if_false]
    exact hK u hu
  | true =>
    simp only [hw, if_true]
    left
    unfold Oper.wp
    rcases h.1 hw u (hS.base u hu) with hr | ⟨f, args, hr, hc⟩
    · rw [hr]; exact hK u hu
    · rw [hr]
      refine Calls.mono hc ?_
      rintro e u' ⟨rfl, hb⟩
      exact hK u' (hS.mono u u' hu hb)

/-- Whichever of the first n operations come up, all are calm; then L. -/
def AllCalm (P : Program) (md : Region.Mode) (ops : Array Oper) (w : World) (n : Nat) (L : Array Bool → Act → Prop) : Nat → Array Bool → Act → Prop
  | 0, listed, a => L listed a
  | f + 1, listed, a => Region.ready md ops listed ≠ [] ∧ ∀ j ∈ Region.ready md ops listed, j < n ∧
      ∃ o v, ops[j]? = some o ∧ Calm P ops w o v a ∧ AllCalm P md ops w n L f (listed.setIfInBounds j true) (a.put o.dst v)

theorem any_of_calm {S : World → Prop} (hS : Keeps w S) {n g : Nat} {L : Array Bool → Act → Prop} {Q : Exit → Act → World → Prop} (hL : ∀ listed a, L listed a → ∀ u, S u → wpAny P md ops Q g listed a u) :
    ∀ (f : Nat) (listed : Array Bool) (a : Act), AllCalm P md ops w n L f listed a → ∀ u, S u → wpAny P md ops Q (f + g) listed a u
  | 0, listed, a, h, u, hu => by rw [Nat.zero_add]; exact hL _ _ h u hu
  | f + 1, listed, a, h, u, hu => by
    rw [show f + 1 + g = (f + g) + 1 by omega]
    refine ⟨fun h0 => absurd h0 h.1, fun j hj => ?_⟩
    obtain ⟨_, o, v, ho, hs, hrest⟩ := h.2 j hj
    exact hs.op hS ho hu fun u' hu' => any_of_calm hS hL f _ _ hrest u' hu'

/-- An invariant of what has come up, by which none of the last operations comes up while one of the first n is to come. -/
structure Holds (md : Region.Mode) (ops : Array Oper) (n : Nat) (I : Array Bool → Prop) : Prop where
  set : ∀ listed j, I listed → j ∈ Region.ready md ops listed → j < n → I (listed.setIfInBounds j true)
  lt : ∀ listed i, I listed → i < n → listed.getD i true = false → ∀ j ∈ Region.ready md ops listed, j < n

theorem calm_first {n i : Nat} {oi : Oper} {v : Value} {I : Array Bool → Prop} {L : Array Bool → Act → Prop} (hI : Holds md ops n I) (hi : ops[i]? = some oi) (hsel : ∀ (j : Nat) (o : Oper) cs b, ops[j]? = some o → o.op ≠ .select cs b)
    (hin : i < n) (hdone : ∀ listed a, L listed a → ∀ j ∈ Region.ready md ops listed, n ≤ j) :
    ∀ (f : Nat) (listed : Array Bool) (a : Act), I listed →
      (∀ j oj, ops[j]? = some oj → j ≠ i → listed.getD j true = false → (∀ e ∈ oj.after, Region.binds md e = true → e.on ≠ i) → oi.apart ops oj = true) →
      i ∈ Region.ready md ops listed → Calm P ops w oi v a →
      AllCalm P md ops w n L f (listed.setIfInBounds i true) (a.put oi.dst v) → AllCalm P md ops w n L (f + 1) listed a := by
  intro f
  induction f with
  | zero =>
    intro listed a inv _ hr hy H
    refine ⟨fun h => absurd hr (by rw [h]; exact List.not_mem_nil), fun j hj => ?_⟩
    have hjn : j < n := hI.lt listed i inv hin (mem_ready.1 hr).1 j hj
    by_cases hji : j = i
    · subst hji; exact ⟨hjn, oi, v, hi, hy, H⟩
    · have := hdone _ _ H j (ready_mono hj hji); omega
  | succ f ih =>
    intro listed a inv hfree hr hy H
    have hun := (mem_ready.1 hr).1
    refine ⟨fun h => absurd hr (by rw [h]; exact List.not_mem_nil), fun j hj => ?_⟩
    have hjn : j < n := hI.lt listed i inv hin hun j hj
    refine ⟨hjn, ?_⟩
    by_cases hji : j = i
    · subst hji; exact ⟨oi, v, hi, hy, H⟩
    obtain ⟨_, oj, u, hoj, hsj, hrest⟩ := H.2 j (ready_mono hj hji)
    obtain ⟨hjun, oj', hoj', hall⟩ := mem_ready.1 hj
    obtain rfl : oj = oj' := Option.some.inj (hoj.symm.trans hoj')
    have hnot : ∀ e ∈ oj.after, Region.binds md e = true → e.on ≠ i := fun e he hb heq => by
      have h1 := hall e he hb
      rw [heq, getD_both hun] at h1
      cases h1
    obtain ⟨p1, p2, p3⟩ := Oper.apart_spec (hfree j oj hoj hji hjun hnot)
    have hsj' : Calm P ops w oj u a := hsj.same (execOp_put oj (fun cs b => hsel j oj cs b hoj) a oi.dst v p1).symm (wanted_put oj a oi.dst v p1).symm
    have hyi : Calm P ops w oi v (a.put oj.dst u) := hy.same (execOp_put oi (fun cs b => hsel i oi cs b hi) a oj.dst u p3) (wanted_put oi a oj.dst u p3)
    refine ⟨oj, u, hoj, hsj', ih (listed.setIfInBounds j true) (a.put oj.dst u) (hI.set _ _ inv hj hjn) (fun k ok hk hki hkun hno => ?_) (ready_mono hr (Ne.symm hji)) hyi ?_⟩
    · refine hfree k ok hk hki ?_ hno
      by_cases hjk : j = k
      · subst hjk; exact hjun
      · rwa [getD_set_ne true hjk] at hkun
    · rw [Array.setIfInBounds_comm _ _ hji, ← Act.put_comm a v u p2]
      exact hrest

/-- The operations in the text's order. -/
def InText (P : Program) (ops : Array Oper) (w : World) (L : Act → Prop) : List Oper → Act → Prop
  | [], a => L a
  | o :: l, a => ∃ v, Calm P ops w o v a ∧ InText P ops w L l (a.put o.dst v)

/-- The text's order is one that the region allows, each operation free when it comes; B of what has come up at the end. -/
def Region.headB (md : Region.Mode) (ops : Array Oper) (B : Array Bool → Bool) : Nat → Nat → Array Bool → Bool
  | 0, _, listed => B listed
  | f + 1, k, listed => (Region.ready md ops listed).contains k && Region.free md ops listed k && Region.headB md ops B f (k + 1) (listed.setIfInBounds k true)

theorem calm_lex {n : Nat} {B : Array Bool → Bool} {I : Array Bool → Prop} {Lq : Act → Prop} (hI : Holds md ops n I) (hsel : Region.noSelect ops = true)
    (hdone : ∀ listed, B listed = true → ∀ j ∈ Region.ready md ops listed, n ≤ j) :
    ∀ (l : List Oper) (k : Nat) (listed : Array Bool) (a : Act), (∀ j, j < l.length → l[j]? = ops[k + j]?) → k + l.length = n → I listed →
    Region.headB md ops B l.length k listed = true → InText P ops w Lq l a →
    AllCalm P md ops w n (fun listed' a' => B listed' = true ∧ Lq a') l.length listed a
  | [], k, listed, a, _, hk, _, hB, h => ⟨hB, h⟩
  | o :: l, k, listed, a, hl, hk, inv, hB, h => by
    have ho : ops[k]? = some o := (hl 0 (Nat.zero_lt_succ _)).symm
    rw [List.length_cons, Region.headB, Bool.and_eq_true, Bool.and_eq_true] at hB
    have hkn : k < n := by rw [List.length_cons] at hk; omega
    have hr : k ∈ Region.ready md ops listed := List.contains_iff_mem.1 hB.1.1
    obtain ⟨v, hv, hrest⟩ := h
    refine calm_first hI ho (Region.noSelect_spec hsel) hkn (fun _ _ hL => hdone _ hL.1) l.length listed a inv (Region.free_spec ho hB.1.2) hr hv ?_
    refine calm_lex hI hsel hdone l (k + 1) _ _ (fun j hj => ?_) (by rw [List.length_cons] at hk; omega) (hI.set _ _ inv hr hkn) hB.2 hrest
    have := hl (j + 1) (Nat.succ_lt_succ hj)
    rwa [List.getElem?_cons_succ, show k + (j + 1) = k + 1 + j by omega] at this

theorem headB_lexHead {g : Nat} (n : Nat) : ∀ (f k : Nat) (listed : Array Bool), k + f = n → Region.lexHead md ops g f k listed = true → Region.headB md ops (fun l => Region.seqB md ops g n l) f k listed = true
  | 0, k, listed, hk, h => by obtain rfl : k = n := by omega
                              rwa [Region.lexHead] at h
  | f + 1, k, listed, hk, h => by
    rw [Region.lexHead, Bool.and_eq_true] at h
    rw [Region.headB, Bool.and_eq_true]
    exact ⟨h.1, headB_lexHead n f (k + 1) _ (by omega) h.2⟩

theorem region_below {id : Nat} {Q : Exit → Act → World → Prop} {a : Act} {w : World} {l : List Oper} (n : Nat) (hm : P.follows .mixedOrders = true) (hB : Region.lexTailB .any l.toArray n = true)
    (h : InText P l.toArray w (fun a' => ∀ w', Below w.heap.size w w' → wpList P l.toArray Q (l.drop n) a' w') (l.take n) a) : (Code.region id l.toArray true).wp P Q a w := by
  rw [Region.lexTailB, Bool.and_eq_true, Bool.and_eq_true, Bool.and_eq_true, Bool.and_eq_true] at hB
  obtain ⟨⟨⟨⟨hsel, hn⟩, hs⟩, hc⟩, hlex⟩ := hB
  have hn : n < l.toArray.size := of_decide_eq_true hn
  have hl : n < l.length := by simpa using hn
  have htl : (l.take n).length = n := by simp; omega
  have hdl : (l.drop n).length = l.toArray.size - n := by simp
  have inv : HeadInv .any l.toArray n (Array.replicate l.toArray.size false) :=
    ⟨by simp, fun j oj _ hj => absurd hj (by rw [getD_replicate_false]; exact Bool.false_ne_true), fun t _ ht => getD_in (by simpa using ht) (getD_replicate_false _ _)⟩
  have hI : Holds .any l.toArray n (HeadInv .any l.toArray n) :=
    ⟨fun _ _ inv hj hjn => inv.set hj hjn, fun listed i inv hin hun j hj => Nat.lt_of_not_le fun h => tail_waits hs hc hn inv _ i rfl hin hun j h hj⟩
  have H := calm_lex (md := .any) (B := fun l' => Region.seqB .any l.toArray (l.toArray.size - n) n l') hI hsel (fun _ h => seqB_ready h) (l.take n) 0 _ a (fun j hj => by
    have hjn : j < n := by rwa [htl] at hj
    simp [hjn]) (by rw [htl]; omega) inv (headB_lexHead n _ 0 _ (by rw [htl]; omega) (by rw [htl]; exact hlex)) h
  have K := any_of_calm (keeps_below w) (Q := Q) (g := l.toArray.size - n) (fun listed a' hL w' hw' => by
    have := wpAny_of_seq (md := .any) (Q' := Q) (l.drop n) n listed a' w' (fun j => by simp [List.getElem?_drop]) (by rw [hdl]; exact hL.1) (hL.2 w' hw')
    rwa [hdl] at this) _ _ _ H w.drew (Below.refl _ _).drew
  rw [htl, show n + (l.toArray.size - n) = l.toArray.size by omega] at K
  exact wp_region_any hm K

/-- The same in a region that goes as the text stands. -/
theorem list_in_text {Q : Exit → Act → World → Prop} {rest : List Oper} {L : Act → Prop} (hL : ∀ a u, L a → Below w.heap.size w u → wpList P ops Q rest a u) :
    ∀ (l : List Oper) (a : Act) (u : World), Below w.heap.size w u → InText P ops w L l a → wpList P ops Q (l ++ rest) a u
  | [], a, u, hu, h => hL a u h hu
  | o :: l, a, u, hu, h => by
    obtain ⟨v, hv, hrest⟩ := h
    have ih : ∀ w', Below w.heap.size w w' → wpList P ops Q (l ++ rest) (a.put o.dst v) w' := fun w' hS' => list_in_text hL l _ w' hS' hrest
    rw [List.cons_append, wpList]
    cases hw : Region.wanted o (yielded ops a.tmps) with
    | false =>
      obtain rfl := hv.2 hw
      rw [if_neg (by decide)]
      exact ih u hu
    | true =>
      rw [if_pos rfl]
      left
      unfold Oper.wp
      rcases hv.1 hw u hu with hr | ⟨f, args, hr, hc⟩
      · rw [hr]; exact ih u hu
      · rw [hr]
        refine Calls.mono hc ?_
        rintro e w'' ⟨rfl, hb⟩
        exact ih w'' (hu.trans (hb.mono hu.size))
theorem plain_below {id : Nat} {Q : Exit → Act → World → Prop} {a : Act} {w : World} {l : List Oper} (n : Nat)
    (h : InText P l.toArray w (fun a' => ∀ w', Below w.heap.size w w' → wpList P l.toArray Q (l.drop n) a' w') (l.take n) a) : (Code.region id l.toArray false).wp P Q a w := by
  refine wp_region_lit ?_
  have := list_in_text (Q := Q) (rest := l.drop n) (L := fun a' => ∀ w', Below w.heap.size w w' → wpList P l.toArray Q (l.drop n) a' w') (fun a u h hu => h u hu) (l.take n) a w (Below.refl _ _) h
  rwa [List.take_append_drop] at this

/-! ### A new variable among them: its allocation may come up anywhere; the last operation fills it -/
theorem AllCalm.put {n : Nat} {L L' : Array Bool → Act → Prop} {d : Option Tmp} {u : Value} (hL : ∀ l a, L l a → L' l (a.put d u))
    (hd : ∀ j o, j < n → ops[j]? = some o → (∀ t, d = some t → t ∉ o.looksAt ops) ∧ (∀ t, d = some t → o.dst ≠ some t))
    (hsel : ∀ (j : Nat) (o : Oper) cs b, ops[j]? = some o → o.op ≠ .select cs b) :
    ∀ (f : Nat) (listed : Array Bool) (a : Act), AllCalm P md ops w n L f listed a → AllCalm P md ops w n L' f listed (a.put d u)
  | 0, _, _, h => hL _ _ h
  | f + 1, listed, a, h => by
    refine ⟨h.1, fun j hj => ?_⟩
    obtain ⟨hjn, o, v, ho, hs, hrest⟩ := h.2 j hj
    obtain ⟨h1, h2⟩ := hd j o hjn ho
    refine ⟨hjn, o, v, ho, hs.same (execOp_put o (fun cs b => hsel j o cs b ho) a d u h1) (wanted_put o a d u h1), ?_⟩
    rw [Act.put_comm a u v (fun t ht => h2 t ht)]
    exact AllCalm.put hL hd hsel f _ _ hrest

/-- Operation n allocates, and waits for nobody; nobody but the last one looks at its slot; the last one waits for all. -/
def Region.allocB (md : Region.Mode) (ops : Array Oper) (n : Nat) (d : Tmp) : Bool :=
  decide (ops.size = n + 2) && (Region.noSelect ops && ((match ops[n]? with | some o => o.dst == some d && (o.guard.isNone && o.after.isEmpty) | none => false) &&
    (((List.range n).all fun j => match ops[j]? with | some o => !(o.looksAt ops).contains d && o.dst != some d | none => false) &&
      (((List.range (n + 1)).all fun i => Region.waitsFor md ops (n + 1) i) &&
        Region.headB md ops (fun l => Region.seqB md ops 1 (n + 1) l) n 0 ((Array.replicate ops.size false).setIfInBounds n true)))))

/-- V: the world that the variable was laid upon. -/
def Fresh (w : World) (obj : Obj) (V u : World) : Prop := Below w.heap.size w V ∧ Below (V.alloc obj).heap.size (V.alloc obj) u
theorem keeps_fresh (w : World) (obj : Obj) (V : World) : Keeps w (Fresh w obj V) :=
  ⟨fun u u' hu hb => ⟨hu.1, hu.2.trans (hb.mono hu.2.size)⟩, fun u hu => (hu.1.alloc hu.1.size obj).trans (hu.2.mono (by have := hu.1.size; simp; omega))⟩

theorem any_alloc {n : Nat} {d : Tmp} {obj : Obj} {Q : Exit → Act → World → Prop} {L : Act → Prop} {on ol : Oper} (hon : ops[n]? = some on) (hdst : on.dst = some d) (hg : on.guard = none) (haf : on.after = #[])
    (hol : ∀ j, [ol][j]? = ops[n + 1 + j]?) (hwait : Region.waitsFor md ops (n + 1) n = true)
    (hd : ∀ j o, j < n → ops[j]? = some o → (∀ t, some d = some t → t ∉ o.looksAt ops) ∧ (∀ t, some d = some t → o.dst ≠ some t))
    (hsel : ∀ (j : Nat) (o : Oper) cs b, ops[j]? = some o → o.op ≠ .select cs b)
    (hrun : ∀ (a : Act) (u : World), (execOp a.eval on).run P u = .ok (.value (.pointer (some ⟨u.heap.size, 0, none⟩))) (u.alloc obj))
    (hL : ∀ a V u, L a → Fresh w obj V u → wpList P ops Q [ol] (a.put (some d) (.pointer (some ⟨V.heap.size, 0, none⟩))) u) :
    ∀ (f : Nat) (listed : Array Bool) (a : Act), listed.getD n true = false →
      AllCalm P md ops w n (fun l a' => Region.seqB md ops 1 (n + 1) l = true ∧ L a') f (listed.setIfInBounds n true) a →
      ∀ u, Below w.heap.size w u → wpAny P md ops Q (f + 2) listed a u := by
  have behind : ∀ (f : Nat) (listed : Array Bool) (a : Act) (V : World), Below w.heap.size w V →
      AllCalm P md ops w n (fun l a' => Region.seqB md ops 1 (n + 1) l = true ∧ L a') f (listed.setIfInBounds n true) a →
      wpOp P ops Q n (wpAny P md ops Q (f + 1) (listed.setIfInBounds n true)) a V := by
    intro f listed a V hV H
    have H2 : AllCalm P md ops w n (fun l a' => Region.seqB md ops 1 (n + 1) l = true ∧ ∀ u, Fresh w obj V u → wpList P ops Q [ol] a' u) f (listed.setIfInBounds n true) (a.put (some d) (.pointer (some ⟨V.heap.size, 0, none⟩))) :=
      AllCalm.put (fun l a' h => ⟨h.1, fun u hu => hL a' V u h.2 hu⟩) hd hsel f _ _ H
    have H3 := any_of_calm (keeps_fresh w obj V) (Q := Q) (g := 1) (fun l a' h u hu => wpAny_of_seq (md := md) (Q' := Q) [ol] (n + 1) l a' u hol h.1 (h.2 u hu)) f _ _ H2 (V.alloc obj) ⟨hV, Below.refl _ _⟩
    unfold wpOp
    rw [hon]
    have hw : Region.wanted on (yielded ops a.tmps) = true := by simp [Region.wanted, hg]
    simp only [hw, if_true]
    left
    unfold Oper.wp
    rw [hrun, Oper.upon_value, hdst]
    exact H3
  intro f
  induction f with
  | zero =>
    intro listed a hn H u hu
    refine ⟨fun h0 => absurd (mem_ready.2 ⟨hn, on, hon, fun e he => absurd he (by rw [haf]; simp)⟩) (by rw [h0]; exact List.not_mem_nil), fun j hj => ?_⟩
    by_cases hjn : j = n
    · subst hjn; exact behind 0 listed a u hu H
    · have h1 := seqB_ready H.1 j (ready_mono hj hjn)
      obtain ⟨_, o, ho, hall⟩ := mem_ready.1 hj
      have hlt : j < ops.size := (Array.getElem?_eq_some_iff.1 ho).1
      have hB := H.1
      simp only [Region.seqB, Bool.and_eq_true, decide_eq_true_eq] at hB
      have h2 := ready_mono hj hjn
      rw [hB.1] at h2
      obtain rfl : j = n + 1 := by simpa using h2
      obtain ⟨o', ho', e, he, hb, hon'⟩ := Region.waitsFor_spec hwait
      obtain rfl : o' = o := Option.some.inj (ho'.symm.trans ho)
      have h3 := hall e he hb
      rw [hon', getD_both hn] at h3
      cases h3
  | succ f ih =>
    intro listed a hn H u hu
    refine ⟨fun h0 => absurd (mem_ready.2 ⟨hn, on, hon, fun e he => absurd he (by rw [haf]; simp)⟩) (by rw [h0]; exact List.not_mem_nil), fun j hj => ?_⟩
    by_cases hjn : j = n
    · subst hjn; exact behind (f + 1) listed a u hu H
    · obtain ⟨hlt, o, v, ho, hs, hrest⟩ := H.2 j (ready_mono hj hjn)
      refine hs.op (keeps_below w) ho hu fun u' hu' => ih (listed.setIfInBounds j true) (a.put o.dst v) (by rw [getD_set_ne true hjn]; exact hn) ?_ u' hu'
      rw [Array.setIfInBounds_comm _ _ hjn]
      exact hrest

theorem region_alloc {id : Nat} {Q : Exit → Act → World → Prop} {a : Act} {w : World} {l : List Oper} (n : Nat) (d : Tmp) (obj : Obj) (on ol : Oper) (hm : P.follows .mixedOrders = true) (hB : Region.allocB .any l.toArray n d = true)
    (hn : l.drop n = [on, ol]) (hrun : ∀ (a : Act) (u : World), (execOp a.eval on).run P u = .ok (.value (.pointer (some ⟨u.heap.size, 0, none⟩))) (u.alloc obj))
    (h : InText P l.toArray w (fun a' => ∀ V u, Below w.heap.size w V → Below (V.alloc obj).heap.size (V.alloc obj) u → wpList P l.toArray Q [ol] (a'.put (some d) (.pointer (some ⟨V.heap.size, 0, none⟩))) u) (l.take n) a) : (Code.region id l.toArray true).wp P Q a w := by
  rw [Region.allocB, Bool.and_eq_true, Bool.and_eq_true, Bool.and_eq_true, Bool.and_eq_true, Bool.and_eq_true] at hB
  obtain ⟨hsz, hsel, halloc, hlook, hwait, hhead⟩ := hB
  have hsz : l.length = n + 2 := by simpa using hsz
  have hon : l.toArray[n]? = some on := by
    have : (l.drop n)[0]? = some on := by rw [hn]; rfl
    simpa using this
  have hol : ∀ j, [ol][j]? = l.toArray[n + 1 + j]? := by
    intro j
    have : (l.drop n)[j + 1]? = [ol][j]? := by rw [hn]; rfl
    rw [← this]; simp [List.getElem?_drop]; congr 1; omega
  rw [hon] at halloc
  simp only [Bool.and_eq_true, beq_iff_eq, Option.isNone_iff_eq_none] at halloc
  obtain ⟨hdst, hg, haf⟩ := halloc
  have haf : on.after = #[] := by simpa using haf
  have hd : ∀ j o, j < n → l.toArray[j]? = some o → (∀ t, some d = some t → t ∉ o.looksAt l.toArray) ∧ (∀ t, some d = some t → o.dst ≠ some t) := by
    intro j o hj ho
    have := List.all_eq_true.1 hlook j (List.mem_range.2 hj)
    rw [ho] at this
    simp only [Bool.and_eq_true, Bool.not_eq_true', bne_iff_ne, ne_eq] at this
    refine ⟨fun t ht => ?_, fun t ht => ?_⟩
    · obtain rfl := Option.some.inj ht
      intro hmem
      rw [List.contains_iff_mem.2 hmem] at this
      exact absurd this.1 (by decide)
    · obtain rfl := Option.some.inj ht
      exact this.2
  have hwaits : ∀ i, i ≤ n → Region.waitsFor .any l.toArray (n + 1) i = true := fun i hi => List.all_eq_true.1 hwait i (List.mem_range.2 (by omega))
  have htl : (l.take n).length = n := by simp; omega
  have hI : Holds .any l.toArray n (fun listed => listed.getD n false = true) := by
    refine ⟨fun listed j h _ _ => getD_set_true h, fun listed i h hi hun j hj => ?_⟩
    obtain ⟨hj0, o, ho, hall⟩ := mem_ready.1 hj
    have hlt : j < l.toArray.size := (Array.getElem?_eq_some_iff.1 ho).1
    rcases Nat.lt_or_ge j n with h1 | h1
    · exact h1
    · exfalso
      by_cases hjn : j = n
      · subst hjn; rw [getD_both hj0] at h; cases h
      · obtain rfl : j = n + 1 := by simp at hlt; omega
        obtain ⟨o', ho', e, he, hb, hon'⟩ := Region.waitsFor_spec (hwaits i (by omega))
        obtain rfl : o' = o := Option.some.inj (ho'.symm.trans ho)
        have h3 := hall e he hb
        rw [hon', getD_both hun] at h3
        cases h3
  have hset : ((Array.replicate l.toArray.size false).setIfInBounds n true).getD n false = true := by simp [hsz]
  have H := calm_lex (md := .any) (B := fun l' => Region.seqB .any l.toArray 1 (n + 1) l') hI hsel (fun _ h j hj => by have := seqB_ready h j hj; omega) (l.take n) 0 _ a (fun j hj => by
    have hjn : j < n := by rwa [htl] at hj
    simp [hjn]) (by rw [htl]; omega) hset (by rw [htl]; exact hhead) h
  have K := any_alloc (md := .any) (Q := Q) (obj := obj) hon hdst hg haf hol (hwaits n (Nat.le_refl _)) hd (Region.noSelect_spec hsel) hrun
    (fun a' V u ha hf => ha V u hf.1 hf.2) _ (Array.replicate l.toArray.size false) a (getD_in (by simp [hsz]) (getD_replicate_false _ _)) H w.drew (Below.refl _ _).drew
  rw [htl, show n + 2 = l.toArray.size by simp [hsz]] at K
  exact wp_region_any hm K

/-! ### The steps -/
variable {L : Act → Prop} {l : List Oper} {o : Oper} {a : Act} {v : Value}
theorem InText.val (hw : Region.wanted o (yielded ops a.tmps) = true) (hv : ∀ u, Below w.heap.size w u → (execOp a.eval o).run P u = .ok (.value v) u)
    (h : InText P ops w L l (a.put o.dst v)) : InText P ops w L (o :: l) a :=
  ⟨v, ⟨fun _ u hu => .inl (hv u hu), fun h0 => absurd (hw.symm.trans h0) (by decide)⟩, h⟩
theorem InText.call {f : FuncId} {args : Array Value} (hw : Region.wanted o (yielded ops a.tmps) = true) (hv : ∀ u, Below w.heap.size w u → (execOp a.eval o).run P u = .ok (.enter f args) u)
    (hc : ∀ u, Below w.heap.size w u → Calls P f args u fun e u' => e = .returned v ∧ Below u.heap.size u u') (h : InText P ops w L l (a.put o.dst v)) : InText P ops w L (o :: l) a :=
  ⟨v, ⟨fun _ u hu => .inr ⟨f, args, hv u hu, hc u hu⟩, fun h0 => absurd (hw.symm.trans h0) (by decide)⟩, h⟩
theorem InText.skip (hw : Region.wanted o (yielded ops a.tmps) = false) (h : InText P ops w L l (a.put o.dst undef)) : InText P ops w L (o :: l) a :=
  ⟨undef, ⟨fun h0 => absurd (hw.symm.trans h0) (by decide), fun _ => rfl⟩, h⟩
/-- A contract that leaves the world alone. -/
theorem pureB {f : FuncId} {args : Array Value} {u : World} {v : Value} (h : Calls P f args u fun e u' => e = .returned v ∧ u = u') :
    Calls P f args u fun e u' => e = .returned v ∧ Below u.heap.size u u' := h.mono fun _ _ ⟨he, hb⟩ => ⟨he, hb ▸ Below.refl _ _⟩
end
/-! ### Of later worlds -/
theorem bcell {W w1 : World} (hb : Below W.heap.size W w1) : (∀ b o, b < W.heap.size → w1.cell? ⟨b, o, none⟩ = W.cell? ⟨b, o, none⟩) ∧ (∀ b o, b < W.heap.size → w1.frozen? ⟨b, o, none⟩ = W.frozen? ⟨b, o, none⟩) :=
  ⟨fun b o h => hb.cell (p := ⟨b, o, none⟩) h, fun b o h => hb.frozen (p := ⟨b, o, none⟩) h⟩
theorem al {w W : World} (k : Below w.heap.size w W) (o : Obj) : Below w.heap.size w (W.alloc o) := k.alloc k.size o
theorem sc {w W : World} {b o : Nat} {v : Value} (h : w.heap.size ≤ b) (k : Below w.heap.size w W) : Below w.heap.size w (W.setCell ⟨b, o, none⟩ v) := k.setCell h v
theorem size_lt {W w1 : World} {n : Nat} (h : n < W.heap.size) (hb : Below W.heap.size W w1) : n < w1.heap.size := Nat.lt_of_lt_of_le h hb.size
theorem keepc {W w1 : World} (hb : Below W.heap.size W w1) {b o : Nat} {v : Value} (h : b < W.heap.size) (hc : W.cell? ⟨b, o, none⟩ = some v) : w1.cell? ⟨b, o, none⟩ = some v := (hb.cell (p := ⟨b, o, none⟩) h).trans hc
theorem keepf {W w1 : World} (hb : Below W.heap.size W w1) {b o : Nat} (h : b < W.heap.size) (hc : W.frozen? ⟨b, o, none⟩ = false) : w1.frozen? ⟨b, o, none⟩ = false := (hb.frozen (p := ⟨b, o, none⟩) h).trans hc
theorem set3 {w W : World} (k : Below w.heap.size w W) {b : Nat} (h : w.heap.size ≤ b) (x y z : Value) : Below w.heap.size w (((W.setCell ⟨b, 0, none⟩ x).setCell ⟨b, 1, none⟩ y).setCell ⟨b, 2, none⟩ z) :=
  ((k.setCell h x).setCell h y).setCell h z
theorem to_v {P : Program} {f : FuncId} {args : Array Value} {u : World} {R R' : Value} (h : Calls P f args u fun e u' => e = .returned R ∧ Below u.heap.size u u') (hr : R = R') :
    Calls P f args u fun e u' => e = .returned R' ∧ Below u.heap.size u u' := hr ▸ h
theorem lt_at {w wr : World} {o : Obj} (hr : Below (w.alloc o).heap.size (w.alloc o) wr) : w.heap.size < wr.heap.size := size_lt (by simp) hr
end Go.Proofs.Ytlmekadgcllndaa
/- Plain words of layer 2: ways, boxes, where they lie. -/
set_option linter.unusedVariables false
namespace Go.Proofs.Ytlmekadgcllndaa
open Go Go.RowKit
abbrev vecV (x y z : Int) : Value := .agg #[.int .i64 x, .int .i64 y, .int .i64 z]
abbrev boxV (x y z x' y' z' : Int) : Value := .agg #[.int .i64 x, .int .i64 y, .int .i64 z, .int .i64 x', .int .i64 y', .int .i64 z']
/-- The number of an axis. -/
def axisF (x y z i : Int) : Int := if i = 0 then x else if i = 1 then y else if i = 2 then z else 0
/-- Three whole numbers lie side by side, in every later world. -/
structure At3 (w : World) (b o : Nat) (x y z : Int) : Prop where
  lt : b < w.heap.size
  c0 : w.cell? ⟨b, o, none⟩ = some (.int .i64 x)
  c1 : w.cell? ⟨b, o + 1, none⟩ = some (.int .i64 y)
  c2 : w.cell? ⟨b, o + 2, none⟩ = some (.int .i64 z)
theorem At3.keep {w W : World} {b o : Nat} {x y z : Int} (h : At3 w b o x y z) (hb : Below w.heap.size w W) : At3 W b o x y z :=
  ⟨Nat.lt_of_lt_of_le h.1 hb.size, keepc hb h.1 h.2, keepc hb h.1 h.3, keepc hb h.1 h.4⟩
theorem At3.all {w : World} {b o : Nat} {x y z : Int} (h : At3 w b o x y z) :
    (∀ W, Below w.heap.size w W → W.cell? ⟨b, o, none⟩ = some (.int .i64 x)) ∧ (∀ W, Below w.heap.size w W → W.cell? ⟨b, o + 1, none⟩ = some (.int .i64 y)) ∧ (∀ W, Below w.heap.size w W → W.cell? ⟨b, o + 2, none⟩ = some (.int .i64 z)) :=
  ⟨fun _ hb => keepc hb h.1 h.2, fun _ hb => keepc hb h.1 h.3, fun _ hb => keepc hb h.1 h.4⟩
theorem ax0 (x y z : Int) : axisF x y z 0 = x := rfl
theorem ax1 (x y z : Int) : axisF x y z 1 = y := rfl
theorem ax2 (x y z : Int) : axisF x y z 2 = z := rfl
def eq3B (x y z x' y' z' : Int) : Bool := decide (x = x' ∧ y = y' ∧ z = z')
theorem eq3_self (x y z : Int) : eq3B x y z x y z = true := by simp [eq3B]
theorem cut_in {a : Int} (h : -140737488355328 ≤ a) (h1 : a ≤ 140737488355328) : cut a = a := by unfold cut; omega
theorem eq3_symm (x y z u v t : Int) : eq3B x y z u v t = eq3B u v t x y z := by unfold eq3B; rw [Bool.eq_iff_iff]; simp; omega
theorem vec_eq {x y z u v t : Int} (h0 : x = u) (h1 : y = v) (h2 : z = t) : vecV x y z = vecV u v t := by rw [h0, h1, h2]
theorem box_eq {x y z u v t x' y' z' u' v' t' : Int} (h0 : x = u) (h1 : y = v) (h2 : z = t) (h3 : x' = u') (h4 : y' = v') (h5 : z' = t') : boxV x y z x' y' z' = boxV u v t u' v' t' := by rw [h0, h1, h2, h3, h4, h5]
theorem near_cut {a : Int} (h : -105553116266496 ≤ a ∧ a ≤ 105553116266496) : cut a = a := cut_in (by omega) (by omega)
def aroundF (n m : Int) : Int := (if n < 0 then -(n + 1) else n) % m
theorem around_bd (n m : Int) (hm : 1 ≤ m) : 0 ≤ aroundF n m ∧ aroundF n m < m := ⟨Int.emod_nonneg _ (by omega), Int.emod_lt_of_pos _ (by omega)⟩
def smallF (n : Int) : Int := aroundF n 70368744177665 - 35184372088832
abbrev i64 (n : Int) : Prop := -9223372036854775808 ≤ n ∧ n ≤ 9223372036854775807
theorem small_bd (n : Int) : -35184372088832 ≤ smallF n ∧ smallF n ≤ 35184372088832 := by
  have := around_bd n 70368744177665 (by omega); unfold smallF; omega
/-- A box lies at o. -/
structure BoxAt (w : World) (b o : Nat) (x y z x' y' z' : Int) : Prop where
  lt : b < w.heap.size
  c0 : w.cell? ⟨b, o, none⟩ = some (.int .i64 x)
  c1 : w.cell? ⟨b, o + 1, none⟩ = some (.int .i64 y)
  c2 : w.cell? ⟨b, o + 2, none⟩ = some (.int .i64 z)
  c3 : w.cell? ⟨b, o + 3, none⟩ = some (.int .i64 x')
  c4 : w.cell? ⟨b, o + 4, none⟩ = some (.int .i64 y')
  c5 : w.cell? ⟨b, o + 5, none⟩ = some (.int .i64 z')
theorem BoxAt.keep {w W : World} {b o : Nat} {x y z x' y' z' : Int} (h : BoxAt w b o x y z x' y' z') (hb : Below w.heap.size w W) : BoxAt W b o x y z x' y' z' :=
  ⟨Nat.lt_of_lt_of_le h.lt hb.size, keepc hb h.lt h.c0, keepc hb h.lt h.c1, keepc hb h.lt h.c2, keepc hb h.lt h.c3, keepc hb h.lt h.c4, keepc hb h.lt h.c5⟩
end Go.Proofs.Ytlmekadgcllndaa
/- The maths of layer 10: hashes, the ground, blocks. No program. -/
set_option linter.unusedVariables false
set_option linter.unusedSimpArgs false
namespace Go.Proofs.Ytlmekadgcllndaa
open Go Go.RowKit
/-- A hash, step by step. -/
def hA (s x : Int) : Int := IntKind.u64.wrap (IntKind.u64.wrap (IntKind.u64.wrap s * 11400714819323198485) + IntKind.u64.wrap (IntKind.u64.wrap x * 14029467366897019727))
def hB (s x z : Int) : Int := IntKind.u64.wrap (hA s x + IntKind.u64.wrap (IntKind.u64.wrap z * 1609587929392839161))
def hC (n : Int) : Int := IntKind.u64.wrap (bits .xor .u64 n (n / 536870912) * 13787848793156543929)
def hD (n : Int) : Int := bits .xor .u64 n (n / 4294967296)
def hashF (s x z : Int) : Int := hD (hC (hB s x z))
theorem u64_bd (n : Int) : 0 ≤ IntKind.u64.wrap n ∧ IntKind.u64.wrap n ≤ 18446744073709551615 := by
  rw [IntKind.wrap_u64]
  omega
theorem bits_bd (op : BinOp) (a b : Int) : 0 ≤ bits op .u64 a b ∧ bits op .u64 a b ≤ 18446744073709551615 := by
  unfold bits
  exact u64_bd _
theorem hash_bd (s x z : Int) : 0 ≤ hashF s x z ∧ hashF s x z ≤ 18446744073709551615 := by unfold hashF hD; exact bits_bd _ _ _
theorem hash_zero : hashF 0 0 0 = 0 := by decide +kernel
/-- A corner's number. -/
def h9F (s i k : Int) : Int := hashF s i k % 9
theorem h9_bd (s i k : Int) : 0 ≤ h9F s i k ∧ h9F s i k ≤ 8 := by unfold h9F; omega
def groundN (s x z : Int) : Int :=
  (8 - x % 8) * (8 - z % 8) * h9F s (x / 8) (z / 8) + (8 - x % 8) * (z % 8) * h9F s (x / 8) (z / 8 + 1) + x % 8 * (8 - z % 8) * h9F s (x / 8 + 1) (z / 8) + x % 8 * (z % 8) * h9F s (x / 8 + 1) (z / 8 + 1)
def groundF (s x z : Int) : Int := 6 + groundN s x z / 64
theorem near_bd {u v h : Int} (hu : 0 ≤ u) (hv : 0 ≤ v) (h0 : 0 ≤ h) (h1 : h ≤ 8) : 0 ≤ u * v * h ∧ u * v * h ≤ u * v * 8 :=
  ⟨Int.mul_nonneg (Int.mul_nonneg hu hv) h0, Int.mul_le_mul_of_nonneg_left h1 (Int.mul_nonneg hu hv)⟩
theorem nears (u v : Int) : (8 - u) * (8 - v) * 8 + (8 - u) * v * 8 + u * (8 - v) * 8 + u * v * 8 = 512 := by
  simp only [Int.sub_mul, Int.mul_sub]
  omega
theorem uv_bd {u v : Int} (hu : 0 ≤ u ∧ u ≤ 8) (hv : 0 ≤ v ∧ v ≤ 8) : 0 ≤ u * v ∧ u * v ≤ 64 := by
  refine ⟨Int.mul_nonneg hu.1 hv.1, ?_⟩
  have h1 := Int.mul_le_mul_of_nonneg_right hu.2 hv.1
  have h2 := hv.2
  omega
theorem groundN_bd (s x z : Int) : 0 ≤ groundN s x z ∧ groundN s x z ≤ 512 := by
  have hu : 0 ≤ x % 8 ∧ x % 8 ≤ 7 := by omega
  have hv : 0 ≤ z % 8 ∧ z % 8 ≤ 7 := by omega
  unfold groundN
  generalize x % 8 = u at *
  generalize z % 8 = v at *
  obtain ⟨a0, a1⟩ := h9_bd s (x / 8) (z / 8)
  obtain ⟨b0, b1⟩ := h9_bd s (x / 8) (z / 8 + 1)
  obtain ⟨c0, c1⟩ := h9_bd s (x / 8 + 1) (z / 8)
  obtain ⟨d0, d1⟩ := h9_bd s (x / 8 + 1) (z / 8 + 1)
  have ha := near_bd (u := 8 - u) (v := 8 - v) (by omega) (by omega) a0 a1
  have hb := near_bd (u := 8 - u) (v := v) (by omega) (by omega) b0 b1
  have hc := near_bd (u := u) (v := 8 - v) (by omega) (by omega) c0 c1
  have hd := near_bd (u := u) (v := v) (by omega) (by omega) d0 d1
  have hn := nears u v
  generalize (8 - u) * (8 - v) * h9F s (x / 8) (z / 8) = A at *
  generalize (8 - u) * v * h9F s (x / 8) (z / 8 + 1) = B at *
  generalize u * (8 - v) * h9F s (x / 8 + 1) (z / 8) = C at *
  generalize u * v * h9F s (x / 8 + 1) (z / 8 + 1) = D at *
  generalize (8 - u) * (8 - v) * 8 = A' at *
  generalize (8 - u) * v * 8 = B' at *
  generalize u * (8 - v) * 8 = C' at *
  generalize u * v * 8 = D' at *
  omega
theorem ground_bd (s x z : Int) : 6 ≤ groundF s x z ∧ groundF s x z ≤ 14 := by
  have := groundN_bd s x z
  unfold groundF
  omega
/-- The block of a cell of that Y, the ground being g. -/
def blockG (g y : Int) : Int :=
  if y < 0 ∨ 31 < y then 0 else if y = 0 ∨ y < g - 3 then 1 else if y < g - 1 then 2 else if y = g - 1 then (if g ≤ 9 then 3 else 2) else if y < 9 then 8 else 0
def blockF (s x y z : Int) : Int := blockG (groundF s x z) y
theorem blockG_may (g y : Int) : blockG g y = 0 ∨ blockG g y = 1 ∨ blockG g y = 2 ∨ blockG g y = 3 ∨ blockG g y = 8 := by
  unfold blockG
  repeat' split
  all_goals omega
theorem block_bd (s x y z : Int) : 0 ≤ blockF s x y z ∧ blockF s x y z ≤ 8 := by
  have := blockG_may (groundF s x z) y
  unfold blockF
  omega
/-- A chunk's cells. -/
def cellA (s px pz : Int) (i : Nat) : Int := blockF s (px * 16 + (i : Int) % 16) ((i : Int) / 256) (pz * 16 + (i : Int) % 256 / 16)
def chunkF (s px pz : Int) (n : Nat) : List Int := (List.range n).map (cellA s px pz)
theorem chunkF_succ (s px pz : Int) (n : Nat) : chunkF s px pz (n + 1) = chunkF s px pz n ++ [cellA s px pz n] := by simp [chunkF, List.range_succ]
theorem chunkF_len (s px pz : Int) (n : Nat) : (chunkF s px pz n).length = n := by simp [chunkF]
theorem chunkF_at (s px pz : Int) {n i : Nat} (h : i < n) : (chunkF s px pz n)[i]'(by rw [chunkF_len]; exact h) = cellA s px pz i := by simp [chunkF]
end Go.Proofs.Ytlmekadgcllndaa
/- Contracts of layer 1's reference, and of the example that every statement ends in. -/
set_option linter.unusedVariables false
namespace Go.Proofs.Ytlmekadgcllndaa
open Go.ChangeShapes Go.WideShapes Go.ChangeAt Go.RowKit
theorem r_div (a b : Int) (h0 : -9223372036854775808 ≤ a) (h1 : a ≤ 9223372036854775807) (h2 : 1 ≤ b) (h3 : b ≤ 9223372036854775807) (w : World) :
    Calls Try.prog 32 #[.int .i64 a, .int .i64 b] w fun e w' => e = .returned (.int .i64 (a / b)) ∧ w = w' := by
  obtain ⟨f1, f2, f3, f4, f5, f6⟩ := tdiv_facts a b h2
  have hb0 : (b == 0) = false := by simp; omega
  obtain ⟨q, hq⟩ : ∃ q, a.tdiv b = q := ⟨_, rfl⟩
  rw [hq] at f1 f2 f3 f4 f5 f6
  have hw : IntKind.i64.wrap q = q := IntWalk.i64_in _ (by omega)
  have f7 : q ≤ 0 → q * b ≤ q := fun h => by have := Int.mul_le_mul_of_nonpos_left h h2; rwa [Int.mul_one] at this
  obtain ⟨p, hp⟩ : ∃ p, q * b = p := ⟨_, rfl⟩
  rw [hp] at f1 f2 f3 f4 f7
  have hwp : IntKind.i64.wrap p = p := IntWalk.i64_in _ (by omega)
  have F1 := Lib.hid f1; have F2 := Lib.hid f2; have F3 := Lib.hid f3; have F4 := Lib.hid f4; have F5 := Lib.hid f5; have F6 := Lib.hid f6
  have bp : -9223372036854775808 ≤ p ∧ p ≤ 9223372036854775807 := by omega
  have bq : -9223372036854775808 ≤ q ∧ q ≤ 9223372036854775807 := by omega
  have bq1 : a < p → -9223372036854775808 < q := by omega
  clear f1 f2 f3 f4 f5 f6 f7
  by_cases hlt : a < p
  · have bq2 := bq1 hlt
    clear bq1
    go_enter Try.func32, Try.ntmps32
    go_wp2
    go_ret
    exact ⟨ret_int (F3.out hlt), rfl⟩
  · clear bq1
    go_enter Try.func32, Try.ntmps32
    go_wp2
    go_ret
    exact ⟨ret_int (F4.out (by omega)), rfl⟩
end Go.Proofs.Ytlmekadgcllndaa
/- Contracts of layer 2's reference. -/
set_option linter.unusedVariables false
namespace Go.Proofs.Ytlmekadgcllndaa
open Go.ChangeShapes Go.WideShapes Go.ChangeAt Go.RowKit
attribute [local go_sem ↓] Go.wp_at_zero Go.wp_at_succ
end Go.Proofs.Ytlmekadgcllndaa
/- Contracts of layer 2's reference: a box made good; what is near 0. -/
set_option linter.unusedVariables false
namespace Go.Proofs.Ytlmekadgcllndaa
open Go.ChangeShapes Go.WideShapes Go.ChangeAt Go.RowKit
attribute [local go_sem ↓] Go.wp_at_zero Go.wp_at_succ
theorem r_around (n m : Int) (h0 : -9223372036854775808 ≤ n) (h1 : n ≤ 9223372036854775807) (hm : 1 ≤ m) (hm1 : m ≤ 9223372036854775807) (w : World) : Calls Try.prog 10 #[.int .i64 n, .int .i64 m] w fun e w' => e = .returned (.int .i64 (aroundF n m)) ∧ w = w' := by
  have em : (m == 0) = false := by rw [beq_eq_false_iff_ne]; omega
  unfold aroundF
  by_cases hn : n < 0
  · rw [if_pos hn]
    have e : -(n + 1).tmod m = -(n + 1) % m := by rw [← Int.neg_tmod]; exact Int.tmod_eq_emod_of_nonneg (by omega)
    have E := Lib.hid e
    clear e
    go_enter Try.func10, Try.ntmps10
    go_wp2
    go_ret
    exact ⟨ret_int E.out, rfl⟩
  · rw [if_neg hn]
    go_enter Try.func10, Try.ntmps10
    go_wp2
    go_ret
    exact ⟨rfl, rfl⟩
end Go.Proofs.Ytlmekadgcllndaa
