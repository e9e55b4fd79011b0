/- Regions that draw their order, with whatever calls in them: a plan says which operation is taken when: one that leaves a value in every later world may be taken first, whatever else could come up; another one only when nothing else can. No program. -/
import Derived.Test.YtkephcmjigfepaaS05
set_option linter.unusedVariables false
set_option linter.unusedSimpArgs false
namespace Go.Proofs.Ytkephcmjigfepaa
open Go Go.RowKit
section
variable {P : Program} {ops : Array Oper} {md : Region.Mode} {S : World → Prop} {Q : Exit → Act → World → Prop}
/-- From every world with S the operation leaves v, and that world (or is not wanted). -/
def CalmS (P : Program) (ops : Array Oper) (S : World → Prop) (o : Oper) (v : Value) (a : Act) : Prop :=
  (Region.wanted o (yielded ops a.tmps) = true ∧ ∀ u, S u → (execOp a.eval o).run P u = .ok (.value v) u) ∨ (Region.wanted o (yielded ops a.tmps) = false ∧ v = undef)
def SameOp (ops : Array Oper) (o : Oper) (a a' : Act) : Prop := execOp a'.eval o = execOp a.eval o ∧ Region.wanted o (yielded ops a'.tmps) = Region.wanted o (yielded ops a.tmps)
theorem CalmS.same {o : Oper} {v : Value} {a a' : Act} (h : CalmS P ops S o v a) (hs : SameOp ops o a a') : CalmS P ops S o v a' := by
  unfold CalmS at *
  rw [hs.1, hs.2]
  exact h
theorem CalmS.wpOp {i : Nat} {o : Oper} {v : Value} {a : Act} (hi : ops[i]? = some o) (h : CalmS P ops S o v a) {K : Act → World → Prop} {u : World} (hu : S u) (hK : K (a.put o.dst v) u) : wpOp P ops Q i K a u := by
  unfold Go.wpOp
  simp only [hi]
  rcases h with ⟨hw, hv⟩ | ⟨hw, rfl⟩
  · simp only [hw, if_true, Oper.wp, hv u hu, Oper.upon]; exact .inl hK
  · simp only [hw, Bool.false_eq_true, if_false]; exact hK
/-- What an operation does beside one that is apart from it, whose value is laid already. -/
theorem wpOp_apart {j : Nat} {oi oj : Oper} {v : Value} (hj : ops[j]? = some oj) (hap : oi.apart ops oj = true) (hsi : ∀ cs b, oi.op ≠ .select cs b) (hsj : ∀ cs b, oj.op ≠ .select cs b)
    (hQ : ∀ c (a : Act) (d : Option Tmp) v w, Q (.panic c) (a.put d v) w → Q (.panic c) a w) {K : Act → World → Prop} {a : Act} {w : World} (h : wpOp P ops Q j K (a.put oi.dst v) w) :
    wpOp P ops Q j (fun a' w' => SameOp ops oi a a' ∧ K (a'.put oi.dst v) w') a w := by
  obtain ⟨h1, h2, h3⟩ := Oper.apart_spec hap
  have sm : ∀ (b : Act) (x : Value), SameOp ops oi b (b.put oj.dst x) := fun b x => ⟨execOp_put oi hsi b oj.dst x h3, wanted_put oi b oj.dst x h3⟩
  have fin : ∀ (x : Value) (u : World), K ((a.put oi.dst v).put oj.dst x) u → SameOp ops oi a (a.put oj.dst x) ∧ K ((a.put oj.dst x).put oi.dst v) u := fun x u hk => ⟨sm a x, by rw [← Act.put_comm a v x h2]; exact hk⟩
  unfold Go.wpOp at *
  simp only [hj] at *
  rw [wanted_put oj a oi.dst v h1] at h
  cases hw : Region.wanted oj (yielded ops a.tmps) with
  | false =>
    simp only [hw, Bool.false_eq_true, if_false] at h ⊢
    exact fin _ _ h
  | true =>
    simp only [hw, if_true] at h ⊢
    rcases h with h | ⟨ha, hl⟩
    · left
      unfold Oper.wp at *
      rw [execOp_put oj hsj a oi.dst v h1] at h
      cases hr : (execOp a.eval oj).run P w with
      | ok n w' =>
        rw [hr] at h
        cases n with
        | value x => exact fin _ _ h
        | skip => exact fin _ _ h
        | defer d =>
          simp only [Oper.upon] at h ⊢
          refine ⟨⟨(sm { a with defers := d :: a.defers } undef).1, (sm { a with defers := d :: a.defers } undef).2⟩, ?_⟩
          rw [← Act.put_comm _ v undef h2, ← Act.put_defers]
          exact h
        | enter f args =>
          refine Calls.mono h fun e u he => ?_
          cases e with
          | returned x => exact fin _ _ he
          | panicked c => exact hQ _ _ _ _ _ he
          | outgrown => exact he
        | row row args => exact Rows.mono h fun x u he => fin _ _ he
        | _ => simp only [Oper.upon] at h
      | halt x w' =>
        rw [hr] at h
        cases x <;> simp only [Oper.upon] at h ⊢
        exact hQ _ _ _ _ _ h
    · exact .inr ⟨by unfold Oper.asks at *; rwa [execOp_put oj hsj a oi.dst v h1] at ha, hl⟩
/-- Until the last one, n, has come, S holds. -/
def tillS (S : World → Prop) (n : Nat) (l : Array Bool) (u : World) : Prop := l.getD n false = false → S u
/-- Whatever comes up, that holds behind it; then the rest. -/
def anyS (P : Program) (md : Region.Mode) (ops : Array Oper) (S : World → Prop) (n : Nat) (Q : Exit → Act → World → Prop) : Nat → Array Bool → Act → World → Prop
  | 0, l, a, u => Region.ready md ops l = [] ∧ Q .normal a u
  | g + 1, l, a, u => (Region.ready md ops l = [] → Q .normal a u) ∧ ∀ i ∈ Region.ready md ops l, wpOp P ops Q i (fun a' u' => tillS S n (l.setIfInBounds i true) u' ∧ anyS P md ops S n Q g (l.setIfInBounds i true) a' u') a u
theorem anyS.any {n : Nat} : ∀ (g : Nat) (l : Array Bool) (a : Act) (u : World), anyS P md ops S n Q g l a u → wpAny P md ops Q g l a u
  | 0, _, _, _, h => h
  | g + 1, l, a, u, h => ⟨h.1, fun i hi => wpOp_mono (fun a' u' hk => anyS.any g _ a' u' hk.2) (h.2 i hi)⟩
/-- The last one waits for all others (or there is none such). -/
def lastB (md : Region.Mode) (ops : Array Oper) (n : Nat) : Bool := decide (n = ops.size) || (decide (n + 1 = ops.size) && Region.sinkB md ops n)
theorem lastB_spec {n i : Nat} {l : Array Bool} (hn : lastB md ops n = true) (hc : Closed md ops l) (hl : l.size = ops.size) (hi : i < ops.size) (hne : i ≠ n) (hun : l.getD i true = false) : l.getD n false = false := by
  simp only [lastB, Bool.or_eq_true, Bool.and_eq_true, decide_eq_true_eq] at hn
  rcases hn with rfl | ⟨h1, h2⟩
  · simp [← hl]
  · cases h : l.getD n false with
    | false => rfl
    | true =>
      have := hc.sink h2 h (n - i) i (by omega)
      rw [getD_both hun] at this
      cases this
theorem anyS_first {n i : Nat} {oi : Oper} {v : Value} (hn : lastB md ops n = true) (hin : i ≠ n) (hi : ops[i]? = some oi) (hsel : ∀ (j : Nat) (o : Oper) cs b, ops[j]? = some o → o.op ≠ .select cs b) (hQ : ∀ c (a : Act) (d : Option Tmp) v w, Q (.panic c) (a.put d v) w → Q (.panic c) a w) :
    ∀ (g : Nat) (l : Array Bool) (a : Act) (u : World), Closed md ops l → l.size = ops.size →
      (∀ j oj, ops[j]? = some oj → j ≠ i → l.getD j true = false → (∀ e ∈ oj.after, Region.binds md e = true → e.on ≠ i) → oi.apart ops oj = true) →
      i ∈ Region.ready md ops l → CalmS P ops S oi v a → tillS S n l u → anyS P md ops S n Q g (l.setIfInBounds i true) (a.put oi.dst v) u → anyS P md ops S n Q (g + 1) l a u := by
  have hlt : i < ops.size := (Array.getElem?_eq_some_iff.1 hi).1
  intro g
  induction g with
  | zero =>
    intro l a u hc hsz _ hr hy hu H
    have hS := hu (lastB_spec hn hc hsz hlt hin (mem_ready.1 hr).1)
    refine ⟨fun h => absurd hr (by rw [h]; exact List.not_mem_nil), fun j hj => ?_⟩
    by_cases hji : j = i
    · subst hji; exact hy.wpOp hi hS ⟨fun _ => hS, H⟩
    · have := ready_mono hj hji
      rw [H.1] at this
      exact absurd this List.not_mem_nil
  | succ g ih =>
    intro l a u hc hsz hfree hr hy hu H
    have hS := hu (lastB_spec hn hc hsz hlt hin (mem_ready.1 hr).1)
    refine ⟨fun h => absurd hr (by rw [h]; exact List.not_mem_nil), fun j hj => ?_⟩
    by_cases hji : j = i
    · subst hji; exact hy.wpOp hi hS ⟨fun _ => hS, H⟩
    · have h1 := H.2 j (ready_mono hj hji)
      have hun := (mem_ready.1 hr).1
      obtain ⟨hjun, oj, hoj, hall⟩ := mem_ready.1 hj
      have hnot : ∀ e ∈ oj.after, Region.binds md e = true → e.on ≠ i := fun e he hb heq => by
        have h1 := hall e he hb
        rw [heq, getD_both hun] at h1
        cases h1
      refine wpOp_mono (fun a' u' hk => ?_) (wpOp_apart hoj (hfree j oj hoj hji hjun hnot) (fun cs b => hsel i oi cs b hi) (fun cs b => hsel j oj cs b hoj) hQ h1)
      have ht : tillS S n (l.setIfInBounds j true) u' := fun h => hk.2.1 (by rw [Array.setIfInBounds_comm _ _ (Ne.symm hji), getD_set_ne false hin]; exact h)
      refine ⟨ht, ih (l.setIfInBounds j true) a' u' (hc.set hj) (by simpa using hsz) (fun k ok hk2 hki hkun hno => ?_) (ready_mono hr (Ne.symm hji)) (hy.same hk.1) ht (by rw [Array.setIfInBounds_comm _ _ hji]; exact hk.2.2)⟩
      refine hfree k ok hk2 hki ?_ hno
      by_cases hjk : j = k
      · subst hjk; exact hjun
      · rwa [getD_set_ne true hjk] at hkun
/-- A plan: the operations by their numbers, in the order in which they are taken: calm: it may be taken first, whatever else could come up; one: nothing else can come up; two: either of both can, and no other. -/
inductive PlanT where
  | done
  | calm (i : Nat) (r : PlanT)
  | one (i : Nat) (r : PlanT)
  | two (i : Nat) (r : PlanT) (j : Nat) (s : PlanT)
def PlanT.len : PlanT → Nat
  | .done => 0
  | .calm _ r => r.len + 1
  | .one _ r => r.len + 1
  | .two _ r _ _ => r.len + 1
def planB (md : Region.Mode) (ops : Array Oper) (n : Nat) : PlanT → Array Bool → Bool
  | .done, l => (Region.ready md ops l).isEmpty
  | .calm i r, l => !(i == n) && ((Region.ready md ops l).contains i && (Region.free md ops l i && planB md ops n r (l.setIfInBounds i true)))
  | .one i r, l => decide (i < ops.size) && (decide (Region.ready md ops l = [i]) && planB md ops n r (l.setIfInBounds i true))
  | .two i r j s, l => (decide (i < ops.size) && (decide (j < ops.size) && decide (r.len = s.len))) && (decide (Region.ready md ops l = [i, j]) && (planB md ops n r (l.setIfInBounds i true) && planB md ops n s (l.setIfInBounds j true)))
def planQ (C : World → Prop) (K : Act → World → Prop) (Q : Exit → Act → World → Prop) : Exit → Act → World → Prop
  | .normal, a, u => C u ∧ K a u
  | e, a, u => Q e a u
/-- What is to be shown, step by step. -/
def PlanW (P : Program) (ops : Array Oper) (S : World → Prop) (n : Nat) (Q : Exit → Act → World → Prop) : PlanT → Act → World → Prop
  | .done, a, u => Q .normal a u
  | .calm i r, a, u => ∃ o v, ops[i]? = some o ∧ CalmS P ops S o v a ∧ PlanW P ops S n Q r (a.put o.dst v) u
  | .one i r, a, u => ∃ o, ops[i]? = some o ∧ wpList P ops (planQ (fun u' => i = n ∨ S u') (PlanW P ops S n Q r) Q) [o] a u
  | .two i r j s, a, u => (∃ o, ops[i]? = some o ∧ wpList P ops (planQ (fun u' => i = n ∨ S u') (PlanW P ops S n Q r) Q) [o] a u) ∧ (∃ o, ops[j]? = some o ∧ wpList P ops (planQ (fun u' => j = n ∨ S u') (PlanW P ops S n Q s) Q) [o] a u)
theorem letsOut_plan {C : World → Prop} {K : Act → World → Prop} (h : LetsOut (planQ C K Q)) : LetsOut Q := h
theorem wp_plan {C : World → Prop} {K K' : Act → World → Prop} {o : Oper} {a : Act} {w : World} (h : o.wp P a w K' (planQ C K Q)) : o.wp P a w K' Q := by
  unfold Oper.wp at *
  generalize (execOp a.eval o).run P w = r at *
  cases r with
  | ok n w' =>
    cases n <;> simp only [Oper.upon] at h ⊢ <;>
      first
        | exact h
        | exact Calls.mono h (fun e w'' he => by cases e <;> exact he)
  | halt x w' => cases x <;> simp only [Oper.upon] at h ⊢ <;> exact h
/-- One operation of which what follows is known. -/
theorem wpOp_plan {n i : Nat} {l : Array Bool} {o : Oper} {a : Act} {u : World} {K : Act → World → Prop} {G : Act → World → Prop} (hlt : i < ops.size) (hsz : l.size = ops.size) (ho : ops[i]? = some o)
    (hw : wpList P ops (planQ (fun u' => i = n ∨ S u') K Q) [o] a u) (hK : ∀ a2 u2, tillS S n (l.setIfInBounds i true) u2 → K a2 u2 → G a2 u2) : wpOp P ops Q i (fun a2 u2 => tillS S n (l.setIfInBounds i true) u2 ∧ G a2 u2) a u := by
  unfold Go.wpOp
  simp only [ho]
  have tail : ∀ (a2 : Act) (u2 : World), planQ (fun u' => i = n ∨ S u') K Q .normal a2 u2 → tillS S n (l.setIfInBounds i true) u2 ∧ G a2 u2 := fun a2 u2 hk => by
    have ht : tillS S n (l.setIfInBounds i true) u2 := fun h => by
      rcases hk.1 with rfl | h2
      · simp [hsz, hlt] at h
      · exact h2
    exact ⟨ht, hK a2 u2 ht hk.2⟩
  unfold wpList at hw
  split at hw
  · rename_i hwt
    rw [if_pos hwt]
    rcases hw with hw | ⟨hw, hlo⟩
    · exact .inl (wp_plan (Oper.wp_mono (fun a2 u2 hk => tail a2 u2 hk) hw))
    · exact .inr ⟨hw, letsOut_plan hlo⟩
  · rename_i hwt
    rw [if_neg hwt]
    exact tail _ _ hw
theorem anyS_plan {n : Nat} (hn : lastB md ops n = true) (hsel : Region.noSelect ops = true) (hQ : ∀ c (a : Act) (d : Option Tmp) v w, Q (.panic c) (a.put d v) w → Q (.panic c) a w) :
    ∀ (p : PlanT) (l : Array Bool) (a : Act) (u : World), planB md ops n p l = true → Closed md ops l → l.size = ops.size → tillS S n l u → PlanW P ops S n Q p a u → anyS P md ops S n Q p.len l a u
  | .done, l, a, u, hB, _, _, _, h => ⟨by simpa [planB] using hB, h⟩
  | .calm i r, l, a, u, hB, hc, hsz, hu, h => by
    simp only [planB, Bool.and_eq_true, Bool.not_eq_true', beq_eq_false_iff_ne] at hB
    obtain ⟨o, v, ho, hy, hr⟩ := h
    have hready : i ∈ Region.ready md ops l := List.contains_iff_mem.1 hB.2.1
    have hS := hu (lastB_spec hn hc hsz (Array.getElem?_eq_some_iff.1 ho).1 hB.1 (mem_ready.1 hready).1)
    exact anyS_first hn hB.1 ho (Region.noSelect_spec hsel) hQ r.len l a u hc hsz (Region.free_spec ho hB.2.2.1) hready hy hu (anyS_plan hn hsel hQ r _ _ u hB.2.2.2 (hc.set hready) (by simpa using hsz) (fun _ => hS) hr)
  | .one i r, l, a, u, hB, hc, hsz, hu, h => by
    simp only [planB, Bool.and_eq_true, decide_eq_true_eq] at hB
    obtain ⟨hlt, hready, hB⟩ := hB
    obtain ⟨o, ho, hw⟩ := h
    have hri : i ∈ Region.ready md ops l := by rw [hready]; exact List.mem_singleton.2 rfl
    refine ⟨fun h0 => (by rw [hready] at h0; cases h0), fun j hj => ?_⟩
    rw [hready] at hj
    obtain rfl : j = i := by simpa using hj
    exact wpOp_plan hlt hsz ho hw fun a2 u2 ht hk => anyS_plan hn hsel hQ r _ a2 u2 hB (hc.set hri) (by simpa using hsz) ht hk
  | .two i r j s, l, a, u, hB, hc, hsz, hu, h => by
    simp only [planB, Bool.and_eq_true, decide_eq_true_eq] at hB
    obtain ⟨⟨hli, hlj, hlen⟩, hready, hBi, hBj⟩ := hB
    obtain ⟨⟨oi, hoi, hwi⟩, oj, hoj, hwj⟩ := h
    have hri : i ∈ Region.ready md ops l := by rw [hready]; simp
    have hrj : j ∈ Region.ready md ops l := by rw [hready]; simp
    refine ⟨fun h0 => (by rw [hready] at h0; cases h0), fun k hk => ?_⟩
    rw [hready] at hk
    rcases List.mem_cons.1 hk with rfl | hk
    · exact wpOp_plan hli hsz hoi hwi fun a2 u2 ht hk => anyS_plan hn hsel hQ r _ a2 u2 hBi (hc.set hri) (by simpa using hsz) ht hk
    · obtain rfl : k = j := by simpa using hk
      exact wpOp_plan hlj hsz hoj hwj fun a2 u2 ht hk => by
        have := anyS_plan hn hsel hQ s _ a2 u2 hBj (hc.set hrj) (by simpa using hsz) ht hk
        rw [← hlen] at this
        exact this
/-- A region that draws, with whatever S the operations that leave one value ask. -/
theorem region_planS {id : Nat} {a : Act} {w : World} {l : List Oper} (S : World → Prop) (n : Nat) (p : PlanT) (hm : P.follows .mixedOrders = true) (hn : lastB .any l.toArray n = true) (hsel : Region.noSelect l.toArray = true) (hlen : p.len = l.length) (hB : planB .any l.toArray n p (Array.replicate l.length false) = true)
    (hQ : ∀ c (a : Act) (d : Option Tmp) v w, Q (.panic c) (a.put d v) w → Q (.panic c) a w) (hS : S { w with drawn := w.drawn + 1 })
    (h : ∀ u, Below w.heap.size w u → u.heap.size = w.heap.size → S u → PlanW P l.toArray S n Q p a u) : (Code.region id l.toArray true).wp P Q a w := by
  refine wp_region_any hm ?_
  have hd : Below w.heap.size w { w with drawn := w.drawn + 1 } := (Below.refl _ w).drew
  have := anyS.any _ _ _ _ (anyS_plan (md := .any) hn hsel hQ p (Array.replicate l.length false) a { w with drawn := w.drawn + 1 } hB (fun j oj _ hj => absurd hj (by rw [getD_replicate_false]; exact Bool.false_ne_true)) (by simp) (fun _ => hS) (h _ hd rfl hS))
  rw [hlen] at this
  simpa using this
theorem region_plan {id : Nat} {a : Act} {w : World} {l : List Oper} (n : Nat) (p : PlanT) (hm : P.follows .mixedOrders = true) (hn : lastB .any l.toArray n = true) (hsel : Region.noSelect l.toArray = true) (hlen : p.len = l.length) (hB : planB .any l.toArray n p (Array.replicate l.length false) = true)
    (hQ : ∀ c (a : Act) (d : Option Tmp) v w, Q (.panic c) (a.put d v) w → Q (.panic c) a w)
    (h : ∀ u, Below w.heap.size w u → u.heap.size = w.heap.size → PlanW P l.toArray (Below w.heap.size w) n Q p a u) : (Code.region id l.toArray true).wp P Q a w :=
  region_planS _ n p hm hn hsel hlen hB hQ (Below.refl _ w).drew (fun u h1 h2 _ => h u h1 h2)
theorem PlanW.val {n i : Nat} {r : PlanT} {o : Oper} {v : Value} {a : Act} {u : World} (ho : ops[i]? = some o) (hw : Region.wanted o (yielded ops a.tmps) = true) (hv : ∀ x, S x → (execOp a.eval o).run P x = .ok (.value v) x)
    (h : PlanW P ops S n Q r (a.put o.dst v) u) : PlanW P ops S n Q (.calm i r) a u := ⟨o, v, ho, .inl ⟨hw, hv⟩, h⟩
theorem PlanW.skip {n i : Nat} {r : PlanT} {o : Oper} {a : Act} {u : World} (ho : ops[i]? = some o) (hw : Region.wanted o (yielded ops a.tmps) = false) (h : PlanW P ops S n Q r (a.put o.dst undef) u) : PlanW P ops S n Q (.calm i r) a u := ⟨o, undef, ho, .inr ⟨hw, rfl⟩, h⟩
theorem PlanW.one {n i : Nat} {r : PlanT} {o : Oper} {a : Act} {u : World} (ho : ops[i]? = some o) (h : wpList P ops (planQ (fun u' => i = n ∨ S u') (PlanW P ops S n Q r) Q) [o] a u) : PlanW P ops S n Q (.one i r) a u := ⟨o, ho, h⟩
theorem PlanW.two {n i j : Nat} {r s : PlanT} {oi oj : Oper} {a : Act} {u : World} (hi : ops[i]? = some oi) (hj : ops[j]? = some oj) (h1 : wpList P ops (planQ (fun u' => i = n ∨ S u') (PlanW P ops S n Q r) Q) [oi] a u) (h2 : wpList P ops (planQ (fun u' => j = n ∨ S u') (PlanW P ops S n Q s) Q) [oj] a u) : PlanW P ops S n Q (.two i r j s) a u := ⟨⟨oi, hi, h1⟩, oj, hj, h2⟩
theorem PlanW.done {n : Nat} {a : Act} {u : World} (h : Q .normal a u) : PlanW P ops S n Q .done a u := h
end
end Go.Proofs.Ytkephcmjigfepaa
