/- Texts behind each other. -/
import Derived.Test.YthjekbbldejlpaaZ07
import Derived.Test.YthjekbbldejlpaaZ06
import Derived.Test.YthjekbbldejlpaaZ04
/- Regions that draw their order, with whatever calls in them: a plan says which operation is taken when: one that leaves a value in every later world may be taken first, whatever else could come up; another one only when nothing else can. No program. -/
set_option linter.unusedVariables false
set_option linter.unusedSimpArgs false
namespace Go.Proofs.Ythjekbbldejlpaa
open Go Go.RowKit
section
variable {P : Program} {ops : Array Oper} {md : Region.Mode} {S : World → Prop} {Q : Exit → Act → World → Prop}
/-- From every world with S the operation leaves v, and that world (or is not wanted). -/
def CalmS (P : Program) (ops : Array Oper) (S : World → Prop) (o : Oper) (v : Value) (a : Act) : Prop :=
  (Region.wanted o (yielded ops a.tmps) = true ∧ ∀ u, S u → (execOp a.eval o).run P u = .ok (.value v) u) ∨ (Region.wanted o (yielded ops a.tmps) = false ∧ v = undef)
def SameOp (ops : Array Oper) (o : Oper) (a a' : Act) : Prop := execOp a'.eval o = execOp a.eval o ∧ Region.wanted o (yielded ops a'.tmps) = Region.wanted o (yielded ops a.tmps)
theorem CalmS.same {o : Oper} {v : Value} {a a' : Act} (h : CalmS P ops S o v a) (hs : SameOp ops o a a') : CalmS P ops S o v a' := by
  unfold CalmS at *
  rw [hs.1, hs.2]
  exact h
theorem CalmS.wpOp {i : Nat} {o : Oper} {v : Value} {a : Act} (hi : ops[i]? = some o) (h : CalmS P ops S o v a) {K : Act → World → Prop} {u : World} (hu : S u) (hK : K (a.put o.dst v) u) : wpOp P ops Q i K a u := by
  unfold Go.wpOp
  simp only [hi]
  rcases h with ⟨hw, hv⟩ | ⟨hw, rfl⟩
  · simp only [hw, if_true, Oper.wp, hv u hu, Oper.upon]; exact .inl hK
  · simp only [hw, Bool.false_eq_true, if_false]; exact hK
/-- What an operation does beside one that is apart from it, whose value is laid already. -/
theorem wpOp_apart {j : Nat} {oi oj : Oper} {v : Value} (hj : ops[j]? = some oj) (hap : oi.apart ops oj = true) (hsi : ∀ cs b, oi.op ≠ .select cs b) (hsj : ∀ cs b, oj.op ≠ .select cs b)
    (hQ : ∀ c (a : Act) (d : Option Tmp) v w, Q (.panic c) (a.put d v) w → Q (.panic c) a w) {K : Act → World → Prop} {a : Act} {w : World} (h : wpOp P ops Q j K (a.put oi.dst v) w) :
    wpOp P ops Q j (fun a' w' => SameOp ops oi a a' ∧ K (a'.put oi.dst v) w') a w := by
  obtain ⟨h1, h2, h3⟩ := Oper.apart_spec hap
  have sm : ∀ (b : Act) (x : Value), SameOp ops oi b (b.put oj.dst x) := fun b x => ⟨execOp_put oi hsi b oj.dst x h3, wanted_put oi b oj.dst x h3⟩
  have fin : ∀ (x : Value) (u : World), K ((a.put oi.dst v).put oj.dst x) u → SameOp ops oi a (a.put oj.dst x) ∧ K ((a.put oj.dst x).put oi.dst v) u := fun x u hk => ⟨sm a x, by rw [← Act.put_comm a v x h2]; exact hk⟩
  unfold Go.wpOp at *
  simp only [hj] at *
  rw [wanted_put oj a oi.dst v h1] at h
  cases hw : Region.wanted oj (yielded ops a.tmps) with
  | false =>
    simp only [hw, Bool.false_eq_true, if_false] at h ⊢
    exact fin _ _ h
  | true =>
    simp only [hw, if_true] at h ⊢
    rcases h with h | ⟨ha, hl⟩
    · left
      unfold Oper.wp at *
      rw [execOp_put oj hsj a oi.dst v h1] at h
      cases hr : (execOp a.eval oj).run P w with
      | ok n w' =>
        rw [hr] at h
        cases n with
        | value x => exact fin _ _ h
        | skip => exact fin _ _ h
        | defer d =>
          simp only [Oper.upon] at h ⊢
          refine ⟨⟨(sm { a with defers := d :: a.defers } undef).1, (sm { a with defers := d :: a.defers } undef).2⟩, ?_⟩
          rw [← Act.put_comm _ v undef h2, ← Act.put_defers]
          exact h
        | enter f args =>
          refine Calls.mono h fun e u he => ?_
          cases e with
          | returned x => exact fin _ _ he
          | panicked c => exact hQ _ _ _ _ _ he
          | outgrown => exact he
        | row row args => exact Rows.mono h fun x u he => fin _ _ he
        | _ => simp only [Oper.upon] at h
      | halt x w' =>
        rw [hr] at h
        cases x <;> simp only [Oper.upon] at h ⊢
        exact hQ _ _ _ _ _ h
    · exact .inr ⟨by unfold Oper.asks at *; rwa [execOp_put oj hsj a oi.dst v h1] at ha, hl⟩
/-- Until the last one, n, has come, S holds. -/
def tillS (S : World → Prop) (n : Nat) (l : Array Bool) (u : World) : Prop := l.getD n false = false → S u
/-- Whatever comes up, that holds behind it; then the rest. -/
def anyS (P : Program) (md : Region.Mode) (ops : Array Oper) (S : World → Prop) (n : Nat) (Q : Exit → Act → World → Prop) : Nat → Array Bool → Act → World → Prop
  | 0, l, a, u => Region.ready md ops l = [] ∧ Q .normal a u
  | g + 1, l, a, u => (Region.ready md ops l = [] → Q .normal a u) ∧ ∀ i ∈ Region.ready md ops l, wpOp P ops Q i (fun a' u' => tillS S n (l.setIfInBounds i true) u' ∧ anyS P md ops S n Q g (l.setIfInBounds i true) a' u') a u
theorem anyS.any {n : Nat} : ∀ (g : Nat) (l : Array Bool) (a : Act) (u : World), anyS P md ops S n Q g l a u → wpAny P md ops Q g l a u
  | 0, _, _, _, h => h
  | g + 1, l, a, u, h => ⟨h.1, fun i hi => wpOp_mono (fun a' u' hk => anyS.any g _ a' u' hk.2) (h.2 i hi)⟩
/-- The last one waits for all others (or there is none such). -/
def lastB (md : Region.Mode) (ops : Array Oper) (n : Nat) : Bool := decide (n = ops.size) || (decide (n + 1 = ops.size) && Region.sinkB md ops n)
theorem lastB_spec {n i : Nat} {l : Array Bool} (hn : lastB md ops n = true) (hc : Closed md ops l) (hl : l.size = ops.size) (hi : i < ops.size) (hne : i ≠ n) (hun : l.getD i true = false) : l.getD n false = false := by
  simp only [lastB, Bool.or_eq_true, Bool.and_eq_true, decide_eq_true_eq] at hn
  rcases hn with rfl | ⟨h1, h2⟩
  · simp [← hl]
  · cases h : l.getD n false with
    | false => rfl
    | true =>
      have := hc.sink h2 h (n - i) i (by omega)
      rw [getD_both hun] at this
      cases this
theorem anyS_first {n i : Nat} {oi : Oper} {v : Value} (hn : lastB md ops n = true) (hin : i ≠ n) (hi : ops[i]? = some oi) (hsel : ∀ (j : Nat) (o : Oper) cs b, ops[j]? = some o → o.op ≠ .select cs b) (hQ : ∀ c (a : Act) (d : Option Tmp) v w, Q (.panic c) (a.put d v) w → Q (.panic c) a w) :
    ∀ (g : Nat) (l : Array Bool) (a : Act) (u : World), Closed md ops l → l.size = ops.size →
      (∀ j oj, ops[j]? = some oj → j ≠ i → l.getD j true = false → (∀ e ∈ oj.after, Region.binds md e = true → e.on ≠ i) → oi.apart ops oj = true) →
      i ∈ Region.ready md ops l → CalmS P ops S oi v a → tillS S n l u → anyS P md ops S n Q g (l.setIfInBounds i true) (a.put oi.dst v) u → anyS P md ops S n Q (g + 1) l a u := by
  have hlt : i < ops.size := (Array.getElem?_eq_some_iff.1 hi).1
  intro g
  induction g with
  | zero =>
    intro l a u hc hsz _ hr hy hu H
    have hS := hu (lastB_spec hn hc hsz hlt hin (mem_ready.1 hr).1)
    refine ⟨fun h => absurd hr (by rw [h]; exact List.not_mem_nil), fun j hj => ?_⟩
    by_cases hji : j = i
    · subst hji; exact hy.wpOp hi hS ⟨fun _ => hS, H⟩
    · have := ready_mono hj hji
      rw [H.1] at this
      exact absurd this List.not_mem_nil
  | succ g ih =>
    intro l a u hc hsz hfree hr hy hu H
    have hS := hu (lastB_spec hn hc hsz hlt hin (mem_ready.1 hr).1)
    refine ⟨fun h => absurd hr (by rw [h]; exact List.not_mem_nil), fun j hj => ?_⟩
    by_cases hji : j = i
    · subst hji; exact hy.wpOp hi hS ⟨fun _ => hS, H⟩
    · have h1 := H.2 j (ready_mono hj hji)
      have hun := (mem_ready.1 hr).1
      obtain ⟨hjun, oj, hoj, hall⟩ := mem_ready.1 hj
      have hnot : ∀ e ∈ oj.after, Region.binds md e = true → e.on ≠ i := fun e he hb heq => by
        have h1 := hall e he hb
        rw [heq, getD_both hun] at h1
        cases h1
      refine wpOp_mono (fun a' u' hk => ?_) (wpOp_apart hoj (hfree j oj hoj hji hjun hnot) (fun cs b => hsel i oi cs b hi) (fun cs b => hsel j oj cs b hoj) hQ h1)
      have ht : tillS S n (l.setIfInBounds j true) u' := fun h => hk.2.1 (by rw [Array.setIfInBounds_comm _ _ (Ne.symm hji), getD_set_ne false hin]; exact h)
      refine ⟨ht, ih (l.setIfInBounds j true) a' u' (hc.set hj) (by simpa using hsz) (fun k ok hk2 hki hkun hno => ?_) (ready_mono hr (Ne.symm hji)) (hy.same hk.1) ht (by rw [Array.setIfInBounds_comm _ _ hji]; exact hk.2.2)⟩
      refine hfree k ok hk2 hki ?_ hno
      by_cases hjk : j = k
      · subst hjk; exact hjun
      · rwa [getD_set_ne true hjk] at hkun
/-- A plan: the operations by their numbers, in the order in which they are taken: calm: it may be taken first, whatever else could come up; one: nothing else can come up; two: either of both can, and no other. -/
inductive PlanT where
  | done
  | calm (i : Nat) (r : PlanT)
  | one (i : Nat) (r : PlanT)
  | two (i : Nat) (r : PlanT) (j : Nat) (s : PlanT)
def PlanT.len : PlanT → Nat
  | .done => 0
  | .calm _ r => r.len + 1
  | .one _ r => r.len + 1
  | .two _ r _ _ => r.len + 1
def planB (md : Region.Mode) (ops : Array Oper) (n : Nat) : PlanT → Array Bool → Bool
  | .done, l => (Region.ready md ops l).isEmpty
  | .calm i r, l => !(i == n) && ((Region.ready md ops l).contains i && (Region.free md ops l i && planB md ops n r (l.setIfInBounds i true)))
  | .one i r, l => decide (i < ops.size) && (decide (Region.ready md ops l = [i]) && planB md ops n r (l.setIfInBounds i true))
  | .two i r j s, l => (decide (i < ops.size) && (decide (j < ops.size) && decide (r.len = s.len))) && (decide (Region.ready md ops l = [i, j]) && (planB md ops n r (l.setIfInBounds i true) && planB md ops n s (l.setIfInBounds j true)))
def planQ (C : World → Prop) (K : Act → World → Prop) (Q : Exit → Act → World → Prop) : Exit → Act → World → Prop
  | .normal, a, u => C u ∧ K a u
  | e, a, u => Q e a u
/-- What is to be shown, step by step. -/
def PlanW (P : Program) (ops : Array Oper) (S : World → Prop) (n : Nat) (Q : Exit → Act → World → Prop) : PlanT → Act → World → Prop
  | .done, a, u => Q .normal a u
  | .calm i r, a, u => ∃ o v, ops[i]? = some o ∧ CalmS P ops S o v a ∧ PlanW P ops S n Q r (a.put o.dst v) u
  | .one i r, a, u => ∃ o, ops[i]? = some o ∧ wpList P ops (planQ (fun u' => i = n ∨ S u') (PlanW P ops S n Q r) Q) [o] a u
  | .two i r j s, a, u => (∃ o, ops[i]? = some o ∧ wpList P ops (planQ (fun u' => i = n ∨ S u') (PlanW P ops S n Q r) Q) [o] a u) ∧ (∃ o, ops[j]? = some o ∧ wpList P ops (planQ (fun u' => j = n ∨ S u') (PlanW P ops S n Q s) Q) [o] a u)
theorem letsOut_plan {C : World → Prop} {K : Act → World → Prop} (h : LetsOut (planQ C K Q)) : LetsOut Q := h
theorem wp_plan {C : World → Prop} {K K' : Act → World → Prop} {o : Oper} {a : Act} {w : World} (h : o.wp P a w K' (planQ C K Q)) : o.wp P a w K' Q := by
  unfold Oper.wp at *
  generalize (execOp a.eval o).run P w = r at *
  cases r with
  | ok n w' =>
    cases n <;> simp only [Oper.upon] at h ⊢ <;>
      first
        | exact h
        | exact Calls.mono h (fun e w'' he => by cases e <;> exact he)
  | halt x w' => cases x <;> simp only [Oper.upon] at h ⊢ <;> exact h
/-- One operation of which what follows is known. -/
theorem wpOp_plan {n i : Nat} {l : Array Bool} {o : Oper} {a : Act} {u : World} {K : Act → World → Prop} {G : Act → World → Prop} (hlt : i < ops.size) (hsz : l.size = ops.size) (ho : ops[i]? = some o)
    (hw : wpList P ops (planQ (fun u' => i = n ∨ S u') K Q) [o] a u) (hK : ∀ a2 u2, tillS S n (l.setIfInBounds i true) u2 → K a2 u2 → G a2 u2) : wpOp P ops Q i (fun a2 u2 => tillS S n (l.setIfInBounds i true) u2 ∧ G a2 u2) a u := by
  unfold Go.wpOp
  simp only [ho]
  have tail : ∀ (a2 : Act) (u2 : World), planQ (fun u' => i = n ∨ S u') K Q .normal a2 u2 → tillS S n (l.setIfInBounds i true) u2 ∧ G a2 u2 := fun a2 u2 hk => by
    have ht : tillS S n (l.setIfInBounds i true) u2 := fun h => by
      rcases hk.1 with rfl | h2
      · simp [hsz, hlt] at h
      · exact h2
    exact ⟨ht, hK a2 u2 ht hk.2⟩
  unfold wpList at hw
  split at hw
  · rename_i hwt
    rw [if_pos hwt]
    rcases hw with hw | ⟨hw, hlo⟩
    · exact .inl (wp_plan (Oper.wp_mono (fun a2 u2 hk => tail a2 u2 hk) hw))
    · exact .inr ⟨hw, letsOut_plan hlo⟩
  · rename_i hwt
    rw [if_neg hwt]
    exact tail _ _ hw
theorem anyS_plan {n : Nat} (hn : lastB md ops n = true) (hsel : Region.noSelect ops = true) (hQ : ∀ c (a : Act) (d : Option Tmp) v w, Q (.panic c) (a.put d v) w → Q (.panic c) a w) :
    ∀ (p : PlanT) (l : Array Bool) (a : Act) (u : World), planB md ops n p l = true → Closed md ops l → l.size = ops.size → tillS S n l u → PlanW P ops S n Q p a u → anyS P md ops S n Q p.len l a u
  | .done, l, a, u, hB, _, _, _, h => ⟨by simpa [planB] using hB, h⟩
  | .calm i r, l, a, u, hB, hc, hsz, hu, h => by
    simp only [planB, Bool.and_eq_true, Bool.not_eq_true', beq_eq_false_iff_ne] at hB
    obtain ⟨o, v, ho, hy, hr⟩ := h
    have hready : i ∈ Region.ready md ops l := List.contains_iff_mem.1 hB.2.1
    have hS := hu (lastB_spec hn hc hsz (Array.getElem?_eq_some_iff.1 ho).1 hB.1 (mem_ready.1 hready).1)
    exact anyS_first hn hB.1 ho (Region.noSelect_spec hsel) hQ r.len l a u hc hsz (Region.free_spec ho hB.2.2.1) hready hy hu (anyS_plan hn hsel hQ r _ _ u hB.2.2.2 (hc.set hready) (by simpa using hsz) (fun _ => hS) hr)
  | .one i r, l, a, u, hB, hc, hsz, hu, h => by
    simp only [planB, Bool.and_eq_true, decide_eq_true_eq] at hB
    obtain ⟨hlt, hready, hB⟩ := hB
    obtain ⟨o, ho, hw⟩ := h
    have hri : i ∈ Region.ready md ops l := by rw [hready]; exact List.mem_singleton.2 rfl
    refine ⟨fun h0 => (by rw [hready] at h0; cases h0), fun j hj => ?_⟩
    rw [hready] at hj
    obtain rfl : j = i := by simpa using hj
    exact wpOp_plan hlt hsz ho hw fun a2 u2 ht hk => anyS_plan hn hsel hQ r _ a2 u2 hB (hc.set hri) (by simpa using hsz) ht hk
  | .two i r j s, l, a, u, hB, hc, hsz, hu, h => by
    simp only [planB, Bool.and_eq_true, decide_eq_true_eq] at hB
    obtain ⟨⟨hli, hlj, hlen⟩, hready, hBi, hBj⟩ := hB
    obtain ⟨⟨oi, hoi, hwi⟩, oj, hoj, hwj⟩ := h
    have hri : i ∈ Region.ready md ops l := by rw [hready]; simp
    have hrj : j ∈ Region.ready md ops l := by rw [hready]; simp
    refine ⟨fun h0 => (by rw [hready] at h0; cases h0), fun k hk => ?_⟩
    rw [hready] at hk
    rcases List.mem_cons.1 hk with rfl | hk
    · exact wpOp_plan hli hsz hoi hwi fun a2 u2 ht hk => anyS_plan hn hsel hQ r _ a2 u2 hBi (hc.set hri) (by simpa using hsz) ht hk
    · obtain rfl : k = j := by simpa using hk
      exact wpOp_plan hlj hsz hoj hwj fun a2 u2 ht hk => by
        have := anyS_plan hn hsel hQ s _ a2 u2 hBj (hc.set hrj) (by simpa using hsz) ht hk
        rw [← hlen] at this
        exact this
/-- A region that draws, with whatever S the operations that leave one value ask. -/
theorem region_planS {id : Nat} {a : Act} {w : World} {l : List Oper} (S : World → Prop) (n : Nat) (p : PlanT) (hm : P.follows .mixedOrders = true) (hn : lastB .any l.toArray n = true) (hsel : Region.noSelect l.toArray = true) (hlen : p.len = l.length) (hB : planB .any l.toArray n p (Array.replicate l.length false) = true)
    (hQ : ∀ c (a : Act) (d : Option Tmp) v w, Q (.panic c) (a.put d v) w → Q (.panic c) a w) (hS : S { w with drawn := w.drawn + 1 })
    (h : ∀ u, Below w.heap.size w u → u.heap.size = w.heap.size → S u → PlanW P l.toArray S n Q p a u) : (Code.region id l.toArray true).wp P Q a w := by
  refine wp_region_any hm ?_
  have hd : Below w.heap.size w { w with drawn := w.drawn + 1 } := (Below.refl _ w).drew
  have := anyS.any _ _ _ _ (anyS_plan (md := .any) hn hsel hQ p (Array.replicate l.length false) a { w with drawn := w.drawn + 1 } hB (fun j oj _ hj => absurd hj (by rw [getD_replicate_false]; exact Bool.false_ne_true)) (by simp) (fun _ => hS) (h _ hd rfl hS))
  rw [hlen] at this
  simpa using this
theorem region_plan {id : Nat} {a : Act} {w : World} {l : List Oper} (n : Nat) (p : PlanT) (hm : P.follows .mixedOrders = true) (hn : lastB .any l.toArray n = true) (hsel : Region.noSelect l.toArray = true) (hlen : p.len = l.length) (hB : planB .any l.toArray n p (Array.replicate l.length false) = true)
    (hQ : ∀ c (a : Act) (d : Option Tmp) v w, Q (.panic c) (a.put d v) w → Q (.panic c) a w)
    (h : ∀ u, Below w.heap.size w u → u.heap.size = w.heap.size → PlanW P l.toArray (Below w.heap.size w) n Q p a u) : (Code.region id l.toArray true).wp P Q a w :=
  region_planS _ n p hm hn hsel hlen hB hQ (Below.refl _ w).drew (fun u h1 h2 _ => h u h1 h2)
theorem PlanW.val {n i : Nat} {r : PlanT} {o : Oper} {v : Value} {a : Act} {u : World} (ho : ops[i]? = some o) (hw : Region.wanted o (yielded ops a.tmps) = true) (hv : ∀ x, S x → (execOp a.eval o).run P x = .ok (.value v) x)
    (h : PlanW P ops S n Q r (a.put o.dst v) u) : PlanW P ops S n Q (.calm i r) a u := ⟨o, v, ho, .inl ⟨hw, hv⟩, h⟩
theorem PlanW.skip {n i : Nat} {r : PlanT} {o : Oper} {a : Act} {u : World} (ho : ops[i]? = some o) (hw : Region.wanted o (yielded ops a.tmps) = false) (h : PlanW P ops S n Q r (a.put o.dst undef) u) : PlanW P ops S n Q (.calm i r) a u := ⟨o, undef, ho, .inr ⟨hw, rfl⟩, h⟩
theorem PlanW.one {n i : Nat} {r : PlanT} {o : Oper} {a : Act} {u : World} (ho : ops[i]? = some o) (h : wpList P ops (planQ (fun u' => i = n ∨ S u') (PlanW P ops S n Q r) Q) [o] a u) : PlanW P ops S n Q (.one i r) a u := ⟨o, ho, h⟩
theorem PlanW.two {n i j : Nat} {r s : PlanT} {oi oj : Oper} {a : Act} {u : World} (hi : ops[i]? = some oi) (hj : ops[j]? = some oj) (h1 : wpList P ops (planQ (fun u' => i = n ∨ S u') (PlanW P ops S n Q r) Q) [oi] a u) (h2 : wpList P ops (planQ (fun u' => j = n ∨ S u') (PlanW P ops S n Q s) Q) [oj] a u) : PlanW P ops S n Q (.two i r j s) a u := ⟨⟨oi, hi, h1⟩, oj, hj, h2⟩
theorem PlanW.done {n : Nat} {a : Act} {u : World} (h : Q .normal a u) : PlanW P ops S n Q .done a u := h
end
end Go.Proofs.Ythjekbbldejlpaa
/- Contracts of layer 8's reference (disk): Put. Written by gen_r85.py. -/
set_option linter.unusedVariables false
set_option linter.unusedSimpArgs false
namespace Go.Proofs.Ythjekbbldejlpaa
open Go.ChangeShapes Go.WideShapes Go.ChangeAt Go.RowKit
/-- What Put answers: how often it fails then, and waits; the blobs under way; the error. -/
def putF {β : Type} (len : List (Int × β) → Nat) (room fails wait : Int) (s l : List (Int × β)) (x : Int × β) : List (Int × β) × Int :=
  if (askF fails wait).2 = true then (l, 9) else if room < len (layF (nowF s l) x) then (l, 8) else (l ++ [x], 0)
set_option maxRecDepth 10000 in
set_option maxHeartbeats 8000000 in
theorem r8_put (room fails wait key : Int) (vs vl : Value) (s l : List Raw) (pb : Option Addr) (nb mc : Nat) (w : World) (hf : i64 fails) (hk : i64 key) (hs : RawAt w vs s) (hl : RawAt w vl l) (oks : rawOk s) (okl : rawOk l) (hS : s.length ≤ 40000) (hL : l.length ≤ 40000) (hB : lenR (layF (nowF s l) (key, .slice pb nb mc)) ≤ 1000000000000) :
    Calls Try.prog 57 #[dV room fails wait vs vl, .int .i64 key, .slice pb nb mc] w fun e w' =>
      ∃ vl', e = .returned (.tuple #[dV room (askF fails wait).1.1 (askF fails wait).1.2 vs vl', .int .i64 (putF lenR room fails wait s l (key, .slice pb nb mc)).2]) ∧ RawAt w' vl' (putF lenR room fails wait s l (key, .slice pb nb mc)).1 ∧ Below w.heap.size w w' := by
  obtain ⟨i0, hi, hz, hsz, hby⟩ := w8_info
  have ask := fun p q n c m d u => r8_asked room fails wait p q n c m d u hf
  unfold putF
  obtain ⟨⟨⟨f2, w2⟩, b⟩, hA⟩ : ∃ A, askF fails wait = A := ⟨_, rfl⟩
  simp only [hA] at ask ⊢
  have ASK := Lib.hid ask
  obtain ⟨T, hT⟩ : ∃ T, layF (nowF s l) (key, .slice pb nb mc) = T := ⟨_, rfl⟩
  have now := fun u hu hv => r8_now room f2 w2 vs vl s l u hu hv oks okl hS hL
  have oknow : rawOk (nowF s l) := by have := rawOk.now oks okl l.length (Nat.le_refl _); rwa [List.take_length] at this
  have lnnow : (nowF s l).length ≤ 80000 := by have := nowF_len s l l.length (Nat.le_refl _); rw [List.take_length] at this; omega
  have lay := fun v u hu => r8_lay v (nowF s l) key pb nb mc u hu oknow (by omega)
  have okT : rawOk T := by rw [← hT]; exact oknow.lay ⟨hk, _, _, _, rfl⟩
  have lnT : T.length ≤ 100000 := by rw [← hT]; have := layF_len (nowF s l) (key, Value.slice pb nb mc); omega
  rw [hT] at lay hB ⊢
  have len := fun v u hu => r8_len v T u hu okT lnT hB
  obtain ⟨X, hX⟩ : ∃ X, lenR T = X := ⟨_, rfl⟩
  rw [hX] at len hB ⊢
  obtain ⟨ps, cs, rfl, _⟩ := hs.form
  obtain ⟨p, cap, rfl, hfl⟩ := hl.form
  obtain ⟨N, hN⟩ : ∃ N, l.length = N := ⟨_, rfl⟩
  obtain ⟨M, hM⟩ : ∃ N, s.length = N := ⟨_, rfl⟩
  rw [hN] at hl now hL ⊢
  rw [hM] at hs now ⊢
  have NOW := Lib.hid now
  have LAY := Lib.hid lay
  have LEN := Lib.hid len
  have HN := Lib.hid hN
  have HFL := Lib.hid hfl
  have OKL := Lib.hid okl
  clear now lay len ask hA hN hM oks okl hS hf hX hT oknow lnnow okT lnT hfl
  cases b
  · go_enter Try.func57, Try.ntmps57
    go_wp2_with fail
    refine (ASK.out _ _ _ _ _ _ _).mono ?_
    rintro e w1 ⟨rfl, hv⟩
    have kw : Below w.heap.size w w1 := by (repeat (first | with_reducible assumption | with_reducible exact Below.refl _ _ | with_reducible refine Below.drew ?_ | with_reducible refine below_drewN ?_ _ | with_reducible refine al ?_ _ | (with_reducible refine sc ?_ ?_; (focus (first | omega | (simp; done) | (simp; omega)))) | (with_reducible refine chain ?_ (by assumption))))
    have rb : RowAt w1 w.heap.size #[.int .i64 room, .int .i64 fails, .int .i64 wait, .slice ps M cs, .slice p N cap] 39 := ((RowAt.new w _ _).alloc _).keep hv
    have rr : RowAt w1 (w.heap.size + 1) #[.int .i64 0, .int .i64 0, .int .i64 0, .slice none 0 0, .slice none 0 0] 39 := (RowAt.make _ _ _ (by simp)).keep hv
    have cb : ∀ j, w1.cell? ⟨w.heap.size, j, none⟩ = (#[.int .i64 room, .int .i64 fails, .int .i64 wait, .slice ps M cs, .slice p N cap] : Array Value)[j]? := rb.cell
    have fb : ∀ j, w1.frozen? ⟨w.heap.size, j, none⟩ = false := rb.frozen
    have zb : w.heap.size < w1.heap.size := rb.lt
    have cr : ∀ j, w1.cell? ⟨(w.heap.size + 1), j, none⟩ = (#[.int .i64 0, .int .i64 0, .int .i64 0, .slice none 0 0, .slice none 0 0] : Array Value)[j]? := rr.cell
    have fr : ∀ j, w1.frozen? ⟨(w.heap.size + 1), j, none⟩ = false := rr.frozen
    have zr : (w.heap.size + 1) < w1.heap.size := rr.lt
    clear hv
    go_upto_region 2 with (fail)
    clear cb fb zb cr fr zr
    have k2 := below5 kw (Nat.le_refl _) (.int .i64 room) (.int .i64 f2) (.int .i64 w2) (.slice ps M cs) (.slice p N cap)
    replace rr := row5_other rr (Nat.succ_ne_self _) (.int .i64 room) (.int .i64 f2) (.int .i64 w2) (.slice ps M cs) (.slice p N cap)
    replace rb := row5 rb (.int .i64 room) (.int .i64 f2) (.int .i64 w2) (.slice ps M cs) (.slice p N cap)
    generalize (((((w1.setCell ⟨w.heap.size, 0, none⟩ (.int .i64 room)).setCell ⟨w.heap.size, 1, none⟩ (.int .i64 f2)).setCell ⟨w.heap.size, 2, none⟩ (.int .i64 w2)).setCell ⟨w.heap.size, 3, none⟩ (.slice ps M cs)).setCell ⟨w.heap.size, 4, none⟩ (.slice p N cap)) = u2 at *
    clear kw
    have cb : ∀ j, u2.cell? ⟨w.heap.size, j, none⟩ = (#[.int .i64 room, .int .i64 f2, .int .i64 w2, .slice ps M cs, .slice p N cap] : Array Value)[j]? := rb.cell
    have fb : ∀ j, u2.frozen? ⟨w.heap.size, j, none⟩ = false := rb.frozen
    have zb : w.heap.size < u2.heap.size := rb.lt
    have cr : ∀ j, u2.cell? ⟨(w.heap.size + 1), j, none⟩ = (#[.int .i64 0, .int .i64 0, .int .i64 0, .slice none 0 0, .slice none 0 0] : Array Value)[j]? := rr.cell
    have fr : ∀ j, u2.frozen? ⟨(w.heap.size + 1), j, none⟩ = false := rr.frozen
    have zr : (w.heap.size + 1) < u2.heap.size := rr.lt
    have ze1 := zr
    go_upto_region 5 with (fail)
    clear cb fb zb cr fr zr
    obtain ⟨u3, hu3⟩ : ∃ u, u2.alloc (.cells #[.int .i64 key, .slice pb nb mc] 106) = u := ⟨_, rfl⟩
    have kv : Below u2.heap.size u2 u3 := by rw [← hu3]; exact al (Below.refl _ _) _
    have rw3 : RowAt u3 u2.heap.size #[.int .i64 key, .slice pb nb mc] 106 := by rw [← hu3]; exact RowAt.new u2 _ _
    rw [hu3]
    have k3 := chain k2 kv
    replace rb := rb.keep kv
    replace rr := rr.keep kv
    have zg := k2.size
    have sz3 : u2.heap.size < u3.heap.size := rw3.lt
    clear hu3 kv k2
    have cb : ∀ j, u3.cell? ⟨w.heap.size, j, none⟩ = (#[.int .i64 room, .int .i64 f2, .int .i64 w2, .slice ps M cs, .slice p N cap] : Array Value)[j]? := rb.cell
    have fb : ∀ j, u3.frozen? ⟨w.heap.size, j, none⟩ = false := rb.frozen
    have zb : w.heap.size < u3.heap.size := rb.lt
    have cw : ∀ j, u3.cell? ⟨u2.heap.size, j, none⟩ = (#[.int .i64 key, .slice pb nb mc] : Array Value)[j]? := rw3.cell
    have fw : ∀ j, u3.frozen? ⟨u2.heap.size, j, none⟩ = false := rw3.frozen
    have zw : u2.heap.size < u3.heap.size := rw3.lt
    refine region_plan 8 (.calm 0 (.calm 2 (.calm 5 (.calm 6 (.one 1 (.one 3 (.one 4 (.calm 7 .done)))))))) (by kernel_rfl) (by kernel_rfl) (by kernel_rfl) rfl (by kernel_rfl) (fun c a d v w h => by cases d <;> exact h) ?_
    intro u4 hu4 hsz4
    (refine' PlanW.val (by rfl) (by rfl) (fun wx hx => ?_) ?_; rotate_left 1; (focus (obtain ⟨hrc, hrf⟩ := bcell hx; (go_simp <;> with_reducible rfl); done)); simp only [Act.put, List.setIfInBounds_toArray, List.set_cons_zero, List.set_cons_succ])
    (refine' PlanW.val (by rfl) (by rfl) (fun wx hx => ?_) ?_; rotate_left 1; (focus (obtain ⟨hrc, hrf⟩ := bcell hx; (go_simp <;> with_reducible rfl); done)); simp only [Act.put, List.setIfInBounds_toArray, List.set_cons_zero, List.set_cons_succ])
    (refine' PlanW.val (by rfl) (by rfl) (fun wx hx => ?_) ?_; rotate_left 1; (focus (obtain ⟨hrc, hrf⟩ := bcell hx; (go_simp <;> with_reducible rfl); done)); simp only [Act.put, List.setIfInBounds_toArray, List.set_cons_zero, List.set_cons_succ])
    (refine' PlanW.val (by rfl) (by rfl) (fun wx hx => ?_) ?_; rotate_left 1; (focus (obtain ⟨hrc, hrf⟩ := bcell hx; (go_simp <;> with_reducible rfl); done)); simp only [Act.put, List.setIfInBounds_toArray, List.set_cons_zero, List.set_cons_succ])
    have k4 := chain k3 hu4
    have fin : u3.heap.size ≤ u4.heap.size := hu4.size
    clear cb fb zb cw fw zw
    refine PlanW.one (by rfl) ?_
    go_wp2_with fail
    refine (NOW.out _ (hs.keep k4) (hl.keep k4)).mono ?_
    rintro e w5 ⟨v5, rfl, hr5, _, hv5⟩
    have q5 := chain hu4 hv5
    go_wp2_with fail
    refine ⟨.inr q5, PlanW.one (by rfl) ?_⟩
    go_wp2_with fail
    refine (LAY.out _ _ hr5).mono ?_
    rintro e w6 ⟨v6, rfl, ho6, hv6⟩
    have q6 := chain q5 hv6
    go_wp2_with fail
    refine ⟨.inr q6, PlanW.one (by rfl) ?_⟩
    go_wp2_with fail
    refine (LEN.out _ _ (raws_of_owned ho6)).mono ?_
    rintro e w7 ⟨rfl, hv7⟩
    have q7 := chain q6 hv7
    have k7 := chain k3 q7
    replace rb := rb.keep q7
    replace rr := rr.keep q7
    replace rw3 := rw3.keep q7
    clear hr5 ho6 hv5 hv6 hv7 q5 q6 k4 fin hu4 hsz4
    go_wp2_with fail
    refine ⟨.inr q7, ?_⟩
    clear q7
    have e1 := rb.lt
    have e2 := rr.lt
    by_cases hgt : room < (X : Int)
    · (refine' PlanW.val (by rfl) (by rfl) (fun wx hx => ?_) ?_; rotate_left 1; (focus (obtain ⟨hrc, hrf⟩ := bcell hx; (go_simp <;> with_reducible rfl); done)); simp only [Act.put, List.setIfInBounds_toArray, List.set_cons_zero, List.set_cons_succ])
      have cb : ∀ j, w7.cell? ⟨w.heap.size, j, none⟩ = (#[.int .i64 room, .int .i64 f2, .int .i64 w2, .slice ps M cs, .slice p N cap] : Array Value)[j]? := rb.cell
      have fb : ∀ j, w7.frozen? ⟨w.heap.size, j, none⟩ = false := rb.frozen
      have zb : w.heap.size < w7.heap.size := rb.lt
      have cr : ∀ j, w7.cell? ⟨(w.heap.size + 1), j, none⟩ = (#[.int .i64 0, .int .i64 0, .int .i64 0, .slice none 0 0, .slice none 0 0] : Array Value)[j]? := rr.cell
      have fr : ∀ j, w7.frozen? ⟨(w.heap.size + 1), j, none⟩ = false := rr.frozen
      have zr : (w.heap.size + 1) < w7.heap.size := rr.lt
      have cw : ∀ j, w7.cell? ⟨u2.heap.size, j, none⟩ = (#[.int .i64 key, .slice pb nb mc] : Array Value)[j]? := rw3.cell
      have fw : ∀ j, w7.frozen? ⟨u2.heap.size, j, none⟩ = false := rw3.frozen
      have zw : u2.heap.size < w7.heap.size := rw3.lt
      refine PlanW.done ?_
      go_wp2_with fail
      clear cb fb zb cr fr zr cw fw zw
      clear rw3
      have k9 := below5 k7 (Nat.le_succ _) (.int .i64 room) (.int .i64 f2) (.int .i64 w2) (.slice ps M cs) (.slice p N cap)
      have r9 := row5 rr (.int .i64 room) (.int .i64 f2) (.int .i64 w2) (.slice ps M cs) (.slice p N cap)
      clear rb rr
      generalize (((((w7.setCell ⟨(w.heap.size + 1), 0, none⟩ (.int .i64 room)).setCell ⟨(w.heap.size + 1), 1, none⟩ (.int .i64 f2)).setCell ⟨(w.heap.size + 1), 2, none⟩ (.int .i64 w2)).setCell ⟨(w.heap.size + 1), 3, none⟩ (.slice ps M cs)).setCell ⟨(w.heap.size + 1), 4, none⟩ (.slice p N cap)) = u9 at *
      have cr := r9.cell
      exact bodyPost_ret (v := .tuple #[dV room f2 w2 (.slice ps M cs) (.slice p N cap), .int .i64 8]) (by simp [results, Try.results57, go_sem, cr]) rfl ⟨_, rfl, hl.keep k9, k9⟩
    · (refine' PlanW.val (by rfl) (by rfl) (fun wx hx => ?_) ?_; rotate_left 1; (focus (obtain ⟨hrc, hrf⟩ := bcell hx; (go_simp <;> with_reducible rfl); done)); simp only [Act.put, List.setIfInBounds_toArray, List.set_cons_zero, List.set_cons_succ])
      have cb : ∀ j, w7.cell? ⟨w.heap.size, j, none⟩ = (#[.int .i64 room, .int .i64 f2, .int .i64 w2, .slice ps M cs, .slice p N cap] : Array Value)[j]? := rb.cell
      have fb : ∀ j, w7.frozen? ⟨w.heap.size, j, none⟩ = false := rb.frozen
      have zb : w.heap.size < w7.heap.size := rb.lt
      have cr : ∀ j, w7.cell? ⟨(w.heap.size + 1), j, none⟩ = (#[.int .i64 0, .int .i64 0, .int .i64 0, .slice none 0 0, .slice none 0 0] : Array Value)[j]? := rr.cell
      have fr : ∀ j, w7.frozen? ⟨(w.heap.size + 1), j, none⟩ = false := rr.frozen
      have zr : (w.heap.size + 1) < w7.heap.size := rr.lt
      have cw : ∀ j, w7.cell? ⟨u2.heap.size, j, none⟩ = (#[.int .i64 key, .slice pb nb mc] : Array Value)[j]? := rw3.cell
      have fw : ∀ j, w7.frozen? ⟨u2.heap.size, j, none⟩ = false := rw3.frozen
      have zw : u2.heap.size < w7.heap.size := rw3.lt
      refine PlanW.done ?_
      go_upto_region 9 with (at_builtin; refine app_raws _ rfl _ _ 37 rfl 106 i0 _ Try.underlying37 hi hz hsz hby rfl rfl _ rfl l (hl.keep k7) OKL.out (by rw [HN.out]; omega) ?_; intro v8 w8 ho8 hb8)
      clear cb fb zb cr fr zr cw fw zw
      rw [HN.out] at ho8
      have rw8 := rw3.keep hb8
      obtain ⟨p8, c8, rfl⟩ := own_form ho8
      have HO8 := Lib.hid ho8
      have hz7 : w7.heap.size ≤ w8.heap.size := hb8.size
      clear ho8 rw3
      have cw : ∀ j, w8.cell? ⟨u2.heap.size, j, none⟩ = (#[.int .i64 key, .slice pb nb mc] : Array Value)[j]? := rw8.cell
      have fw : ∀ j, w8.frozen? ⟨u2.heap.size, j, none⟩ = false := rw8.frozen
      have zw : u2.heap.size < w8.heap.size := rw8.lt
      go_upto_region 10 with (at_builtin; refine app_raw _ rfl _ _ 37 rfl w7.heap.size 106 i0 _ Try.underlying37 hi hz hsz hby rfl _ N (rawVs l) rfl (HO8.out.alloc _) w8.heap.size (.int .i64 key) (.slice pb nb mc) rfl (by go_simp) (by go_simp) rfl rfl (by omega) (by simp; omega) ?_; intro v10 w10 ho10 hg10; have h10 := Below.own (al hb8 _) (HO8.out.alloc _) hg10; replace rb := rb.keep h10; replace rr := rr.keep h10; obtain ⟨p10, c10, rfl⟩ := own_form ho10; have cb : ∀ j, w10.cell? ⟨w.heap.size, j, none⟩ = (#[.int .i64 room, .int .i64 f2, .int .i64 w2, .slice ps M cs, .slice p N cap] : Array Value)[j]? := rb.cell; have fb : ∀ j, w10.frozen? ⟨w.heap.size, j, none⟩ = false := rb.frozen; have zb : w.heap.size < w10.heap.size := rb.lt; have cr : ∀ j, w10.cell? ⟨(w.heap.size + 1), j, none⟩ = (#[.int .i64 0, .int .i64 0, .int .i64 0, .slice none 0 0, .slice none 0 0] : Array Value)[j]? := rr.cell; have fr : ∀ j, w10.frozen? ⟨(w.heap.size + 1), j, none⟩ = false := rr.frozen; have zr : (w.heap.size + 1) < w10.heap.size := rr.lt)
      clear cb fb zb cr fr zr
      have k10 := chain k7 h10
      have hl2 : (l ++ [(key, Value.slice pb nb mc)]).length = N + 1 := by rw [List.length_append, HN.out]; rfl
      have hr10 : RawAt w10 (.slice p10 (N + 1) c10) (l ++ [(key, Value.slice pb nb mc)]) := raws_of_owned (base := w7.heap.size) (by rw [hl2, rawVs_snoc]; exact ho10)
      have of0 : offR w.heap.size (.slice p10 (N + 1) c10) (l ++ [(key, Value.slice pb nb mc)]) := off_of_owned ho10 (by omega) _
      have of1 : offR (w.heap.size + 1) (.slice p10 (N + 1) c10) (l ++ [(key, Value.slice pb nb mc)]) := off_of_owned ho10 (by omega) _
      have k11 := k10.setCell (p := ⟨w.heap.size, 4, none⟩) (Nat.le_refl _) (.slice p10 (N + 1) c10)
      have hr11 := hr10.setCell (p := ⟨w.heap.size, 4, none⟩) of0 (.slice p10 (N + 1) c10)
      replace rr := rr.other (p := ⟨w.heap.size, 4, none⟩) (Nat.succ_ne_self _) (.slice p10 (N + 1) c10)
      have rb4 : RowAt (w10.setCell ⟨w.heap.size, 4, none⟩ (.slice p10 (N + 1) c10)) w.heap.size #[.int .i64 room, .int .i64 f2, .int .i64 w2, .slice ps M cs, .slice p10 (N + 1) c10] 39 := by simpa using rb.set 4 (.slice p10 (N + 1) c10)
      clear rb hr10 k10 ho10 hg10
      generalize w10.setCell ⟨w.heap.size, 4, none⟩ (.slice p10 (N + 1) c10) = u10 at *
      have rb := rb4
      clear rb4
      have cb : ∀ j, u10.cell? ⟨w.heap.size, j, none⟩ = (#[.int .i64 room, .int .i64 f2, .int .i64 w2, .slice ps M cs, .slice p10 (N + 1) c10] : Array Value)[j]? := rb.cell
      have fb : ∀ j, u10.frozen? ⟨w.heap.size, j, none⟩ = false := rb.frozen
      have zb : w.heap.size < u10.heap.size := rb.lt
      have cr : ∀ j, u10.cell? ⟨(w.heap.size + 1), j, none⟩ = (#[.int .i64 0, .int .i64 0, .int .i64 0, .slice none 0 0, .slice none 0 0] : Array Value)[j]? := rr.cell
      have fr : ∀ j, u10.frozen? ⟨(w.heap.size + 1), j, none⟩ = false := rr.frozen
      have zr : (w.heap.size + 1) < u10.heap.size := rr.lt
      go_wp2_with fail
      clear cb fb zb cr fr zr
      have hr9 := hr11.set5 of1 (.int .i64 room) (.int .i64 f2) (.int .i64 w2) (.slice ps M cs) (.slice p10 (N + 1) c10)
      clear hr11 of0 of1
      have k9 := below5 k11 (Nat.le_succ _) (.int .i64 room) (.int .i64 f2) (.int .i64 w2) (.slice ps M cs) (.slice p10 (N + 1) c10)
      have r9 := row5 rr (.int .i64 room) (.int .i64 f2) (.int .i64 w2) (.slice ps M cs) (.slice p10 (N + 1) c10)
      clear rb rr
      generalize (((((u10.setCell ⟨(w.heap.size + 1), 0, none⟩ (.int .i64 room)).setCell ⟨(w.heap.size + 1), 1, none⟩ (.int .i64 f2)).setCell ⟨(w.heap.size + 1), 2, none⟩ (.int .i64 w2)).setCell ⟨(w.heap.size + 1), 3, none⟩ (.slice ps M cs)).setCell ⟨(w.heap.size + 1), 4, none⟩ (.slice p10 (N + 1) c10)) = u9 at *
      have cr := r9.cell
      exact bodyPost_ret (v := .tuple #[dV room f2 w2 (.slice ps M cs) (.slice p10 (N + 1) c10), .int .i64 0]) (by simp [results, Try.results57, go_sem, cr]) rfl ⟨_, rfl, hr9, k9⟩
  · go_enter Try.func57, Try.ntmps57
    go_wp2_with fail
    refine (ASK.out _ _ _ _ _ _ _).mono ?_
    rintro e w1 ⟨rfl, hv⟩
    have kw : Below w.heap.size w w1 := by (repeat (first | with_reducible assumption | with_reducible exact Below.refl _ _ | with_reducible refine Below.drew ?_ | with_reducible refine below_drewN ?_ _ | with_reducible refine al ?_ _ | (with_reducible refine sc ?_ ?_; (focus (first | omega | (simp; done) | (simp; omega)))) | (with_reducible refine chain ?_ (by assumption))))
    have rb : RowAt w1 w.heap.size #[.int .i64 room, .int .i64 fails, .int .i64 wait, .slice ps M cs, .slice p N cap] 39 := ((RowAt.new w _ _).alloc _).keep hv
    have rr : RowAt w1 (w.heap.size + 1) #[.int .i64 0, .int .i64 0, .int .i64 0, .slice none 0 0, .slice none 0 0] 39 := (RowAt.make _ _ _ (by simp)).keep hv
    have cb : ∀ j, w1.cell? ⟨w.heap.size, j, none⟩ = (#[.int .i64 room, .int .i64 fails, .int .i64 wait, .slice ps M cs, .slice p N cap] : Array Value)[j]? := rb.cell
    have fb : ∀ j, w1.frozen? ⟨w.heap.size, j, none⟩ = false := rb.frozen
    have zb : w.heap.size < w1.heap.size := rb.lt
    have cr : ∀ j, w1.cell? ⟨(w.heap.size + 1), j, none⟩ = (#[.int .i64 0, .int .i64 0, .int .i64 0, .slice none 0 0, .slice none 0 0] : Array Value)[j]? := rr.cell
    have fr : ∀ j, w1.frozen? ⟨(w.heap.size + 1), j, none⟩ = false := rr.frozen
    have zr : (w.heap.size + 1) < w1.heap.size := rr.lt
    clear hv
    go_upto_region 2 with (fail)
    clear cb fb zb cr fr zr
    have k2 := below5 kw (Nat.le_refl _) (.int .i64 room) (.int .i64 f2) (.int .i64 w2) (.slice ps M cs) (.slice p N cap)
    replace rr := row5_other rr (Nat.succ_ne_self _) (.int .i64 room) (.int .i64 f2) (.int .i64 w2) (.slice ps M cs) (.slice p N cap)
    replace rb := row5 rb (.int .i64 room) (.int .i64 f2) (.int .i64 w2) (.slice ps M cs) (.slice p N cap)
    generalize (((((w1.setCell ⟨w.heap.size, 0, none⟩ (.int .i64 room)).setCell ⟨w.heap.size, 1, none⟩ (.int .i64 f2)).setCell ⟨w.heap.size, 2, none⟩ (.int .i64 w2)).setCell ⟨w.heap.size, 3, none⟩ (.slice ps M cs)).setCell ⟨w.heap.size, 4, none⟩ (.slice p N cap)) = u2 at *
    clear kw
    have cb : ∀ j, u2.cell? ⟨w.heap.size, j, none⟩ = (#[.int .i64 room, .int .i64 f2, .int .i64 w2, .slice ps M cs, .slice p N cap] : Array Value)[j]? := rb.cell
    have fb : ∀ j, u2.frozen? ⟨w.heap.size, j, none⟩ = false := rb.frozen
    have zb : w.heap.size < u2.heap.size := rb.lt
    have cr : ∀ j, u2.cell? ⟨(w.heap.size + 1), j, none⟩ = (#[.int .i64 0, .int .i64 0, .int .i64 0, .slice none 0 0, .slice none 0 0] : Array Value)[j]? := rr.cell
    have fr : ∀ j, u2.frozen? ⟨(w.heap.size + 1), j, none⟩ = false := rr.frozen
    have zr : (w.heap.size + 1) < u2.heap.size := rr.lt
    go_wp2_with fail
    clear cb fb zb cr fr zr
    have k9 := below5 k2 (Nat.le_succ _) (.int .i64 room) (.int .i64 f2) (.int .i64 w2) (.slice ps M cs) (.slice p N cap)
    have r9 := row5 rr (.int .i64 room) (.int .i64 f2) (.int .i64 w2) (.slice ps M cs) (.slice p N cap)
    clear rb rr
    generalize (((((u2.setCell ⟨(w.heap.size + 1), 0, none⟩ (.int .i64 room)).setCell ⟨(w.heap.size + 1), 1, none⟩ (.int .i64 f2)).setCell ⟨(w.heap.size + 1), 2, none⟩ (.int .i64 w2)).setCell ⟨(w.heap.size + 1), 3, none⟩ (.slice ps M cs)).setCell ⟨(w.heap.size + 1), 4, none⟩ (.slice p N cap)) = u9 at *
    have cr := r9.cell
    exact bodyPost_ret (v := .tuple #[dV room f2 w2 (.slice ps M cs) (.slice p N cap), .int .i64 9]) (by simp [results, Try.results57, go_sem, cr]) rfl ⟨_, rfl, hl.keep k9, k9⟩
end Go.Proofs.Ythjekbbldejlpaa
