/- Texts behind each other. -/
import Derived.Test.YthjekbbldejlpaaZ02
/- Regions that draw their order, with two new variables: operations that leave one value first, then such as only put together what lies in slots (they may come late), then two allocations (they may come up anywhere), then the last ones in one row. No program. -/
set_option linter.unusedVariables false
set_option linter.unusedSimpArgs false
namespace Go.Proofs.Ythjekbbldejlpaa
open Go Go.RowKit
section
variable {P : Program} {ops : Array Oper} {md : Region.Mode} {w : World}

theorem undo_set {l l' : Array Bool} {i : Nat} (h : l.getD i true = false) (he : l.setIfInBounds i true = l') : l = l'.setIfInBounds i false := by
  subst he
  rw [Array.setIfInBounds_setIfInBounds]
  refine Array.ext_getElem? fun k => ?_
  rcases Nat.lt_or_ge i l.size with hi | hi
  · by_cases hk : i = k
    · subst hk; simp [hi] at h; simp [hi, h]
    · rw [Array.getElem?_setIfInBounds_ne hk]
  · have h1 : l.getD i true = true := by simp [Array.getElem?_eq_none hi]
    rw [h1] at h; cases h

/-- What is done has all done that it waits for. -/
def Closed (md : Region.Mode) (ops : Array Oper) (listed : Array Bool) : Prop :=
  ∀ (j : Nat) (oj : Oper), ops[j]? = some oj → listed.getD j false = true → ∀ e ∈ oj.after, Region.binds md e = true → listed.getD e.on false = true
theorem Closed.set {listed : Array Bool} {i : Nat} (h : Closed md ops listed) (hi : i ∈ Region.ready md ops listed) : Closed md ops (listed.setIfInBounds i true) := by
  obtain ⟨_, oi, hoi, hall⟩ := mem_ready.1 hi
  intro j oj hj hl e he hb
  by_cases hij : i = j
  · subst hij
    obtain rfl : oi = oj := Option.some.inj (hoi.symm.trans hj)
    exact getD_set_true (hall e he hb)
  · rw [getD_set_ne false hij] at hl
    exact getD_set_true (h j oj hj hl e he hb)
theorem Closed.sink {listed : Array Bool} {n : Nat} (h : Closed md ops listed) (hs : Region.sinkB md ops n = true) (hn : listed.getD n false = true) : ∀ k i, i + k = n → listed.getD i false = true := by
  intro k
  induction k using Nat.strongRecOn with
  | ind k ih =>
    intro i hi
    by_cases h0 : i = n
    · subst h0; exact hn
    · have h1 := List.all_eq_true.1 hs i (List.mem_range.2 (by omega))
      obtain ⟨j, hj, h2⟩ := List.any_eq_true.1 h1
      simp only [Bool.and_eq_true, decide_eq_true_eq] at h2
      have hjn : j < n + 1 := List.mem_range.1 hj
      obtain ⟨oj, ho, e, he, hb, hon⟩ := Region.waitsFor_spec h2.2
      have h3 := h j oj ho (ih (n - j) (by omega) j (by omega)) e he hb
      rwa [hon] at h3

def putAll (a : Act) : List (Tmp × Value) → Act
  | [] => a
  | p :: l => putAll (a.put (some p.1) p.2) l
/-- o neither looks at those slots nor writes them. -/
def Asides (ops : Array Oper) (o : Oper) (ps : List (Tmp × Value)) : Prop := ∀ p ∈ ps, p.1 ∉ o.looksAt ops ∧ o.dst ≠ some p.1
theorem putAll_put {o : Oper} {v : Value} : ∀ (ps : List (Tmp × Value)) (a : Act), Asides ops o ps → putAll (a.put o.dst v) ps = (putAll a ps).put o.dst v
  | [], _, _ => rfl
  | p :: l, a, h => by
    have h1 := h p (List.mem_cons_self ..)
    rw [putAll, putAll, ← putAll_put l _ (fun q hq => h q (List.mem_cons_of_mem _ hq)), Act.put_comm a p.2 v (fun t ht => by obtain rfl := Option.some.inj ht; exact h1.2)]
theorem putAll_exec {o : Oper} (hs : ∀ cs b, o.op ≠ .select cs b) : ∀ (ps : List (Tmp × Value)) (a : Act), Asides ops o ps →
    execOp (putAll a ps).eval o = execOp a.eval o ∧ Region.wanted o (yielded ops (putAll a ps).tmps) = Region.wanted o (yielded ops a.tmps)
  | [], _, _ => ⟨rfl, rfl⟩
  | p :: l, a, h => by
    have h1 := h p (List.mem_cons_self ..)
    obtain ⟨e1, e2⟩ := putAll_exec hs l (a.put (some p.1) p.2) (fun q hq => h q (List.mem_cons_of_mem _ hq))
    rw [putAll, e1, e2]
    exact ⟨execOp_put o hs a _ _ (fun d hd => by obtain rfl := Option.some.inj hd; exact h1.1), wanted_put o a _ _ (fun d hd => by obtain rfl := Option.some.inj hd; exact h1.1)⟩

/-- Operations that only look at slots, in the text's order. -/
def Lates (P : Program) (ops : Array Oper) (L : Act → Prop) : List Oper → Act → Prop
  | [], a => L a
  | o :: l, a => ∃ v, Yields P ops o v a ∧ Lates P ops L l (a.put o.dst v)
theorem InText.done {L : Act → Prop} {a : Act} (h : L a) : InText P ops w L [] a := h
theorem Lates.done {L : Act → Prop} {a : Act} (h : L a) : Lates P ops L [] a := h
theorem Lates.val {L : Act → Prop} {o : Oper} {l : List Oper} {v : Value} {a : Act} (hw : Region.wanted o (yielded ops a.tmps) = true) (hv : ∀ u, (execOp a.eval o).run P u = .ok (.value v) u)
    (h : Lates P ops L l (a.put o.dst v)) : Lates P ops L (o :: l) a := ⟨v, .inl ⟨hw, hv⟩, h⟩
def Region.lateB (md : Region.Mode) (ops : Array Oper) : Nat → Nat → Array Bool → Bool
  | 0, _, _ => true
  | m + 1, q, listed => Region.free md ops listed q && ((Region.ready md ops listed).contains q && Region.lateB md ops m (q + 1) (listed.setIfInBounds q true))
def setL : Nat → Nat → Array Bool → Array Bool
  | 0, _, listed => listed
  | m + 1, q, listed => setL m (q + 1) (listed.setIfInBounds q true)
theorem any_lates {Q : Exit → Act → World → Prop} {L : Act → Prop} {k : Nat} {u : World} (hsel : Region.noSelect ops = true) (hQ : ∀ c (a : Act) (d : Tmp) v w, Q (.panic c) (a.put (some d) v) w → Q (.panic c) a w) (ps : List (Tmp × Value)) :
    ∀ (l : List Oper) (q : Nat) (listed : Array Bool) (a : Act), (∀ j, j < l.length → l[j]? = ops[q + j]?) → (∀ o ∈ l, Asides ops o ps) → Region.lateB md ops l.length q listed = true → Lates P ops L l a →
      (∀ a', L a' → wpAny P md ops Q k (setL l.length q listed) (putAll a' ps) u) → wpAny P md ops Q (l.length + k) listed (putAll a ps) u
  | [], q, listed, a, _, _, _, h, hK => by rw [List.length_nil, Nat.zero_add]; exact hK a h
  | o :: l, q, listed, a, hl, has, hB, h, hK => by
    obtain ⟨v, hv, hrest⟩ := h
    have ho : ops[q]? = some o := (hl 0 (Nat.zero_lt_succ _)).symm
    rw [List.length_cons, Region.lateB, Bool.and_eq_true, Bool.and_eq_true] at hB
    have hs := Region.noSelect_spec hsel q o
    obtain ⟨e1, e2⟩ := putAll_exec (fun cs b => hs cs b ho) ps a (has o (List.mem_cons_self ..))
    rw [List.length_cons, show l.length + 1 + k = (l.length + k) + 1 by omega]
    refine wpAny_take ho hsel hB.1 hB.2.1 (fun c a w h => by
      cases hd : o.dst with
      | none => rw [hd] at h; exact h
      | some d => rw [hd] at h; exact hQ c _ _ _ w h) (v := v) (hv.of_same e1 e2) ?_
    rw [← putAll_put ps a (has o (List.mem_cons_self ..))]
    exact any_lates hsel hQ ps l (q + 1) _ _ (fun j hj => by
      have := hl (j + 1) (Nat.succ_lt_succ hj)
      rwa [List.getElem?_cons_succ, show q + (j + 1) = q + 1 + j by omega] at this) (fun o ho => has o (List.mem_cons_of_mem _ ho)) hB.2.2 hrest hK

/-- V: the world that the variable was laid upon. -/
def New (w : World) (obj : Obj) (V u : World) : Prop := Below w.heap.size w V ∧ Below (V.alloc obj).heap.size (V.alloc obj) u
theorem New.base {obj : Obj} {V u : World} (h : New w obj V u) : Below w.heap.size w u := (h.1.alloc h.1.size obj).trans (h.2.mono (by have := h.1.size; simp; omega))
theorem New.on {obj : Obj} {V u u' : World} (h : New w obj V u) (hb : Below u.heap.size u u') : New w obj V u' := ⟨h.1, h.2.trans (hb.mono h.2.size)⟩
theorem New.lt {obj : Obj} {V u : World} (h : New w obj V u) : V.heap.size < u.heap.size := size_lt (by simp) h.2

/-- An allocation that comes up. -/
theorem op_alloc {j : Nat} {d : Tmp} {obj : Obj} {on : Oper} (hon : ops[j]? = some on) (hdst : on.dst = some d) (hg : on.guard = none)
    (hrun : ∀ (a : Act) (u : World), (execOp a.eval on).run P u = .ok (.value (.pointer (some ⟨u.heap.size, 0, none⟩))) (u.alloc obj))
    {Q : Exit → Act → World → Prop} {K : Act → World → Prop} {a : Act} {u : World} (hK : K (a.put (some d) (.pointer (some ⟨u.heap.size, 0, none⟩))) (u.alloc obj)) : wpOp P ops Q j K a u := by
  unfold wpOp
  rw [hon]
  have hw : Region.wanted on (yielded ops a.tmps) = true := by simp [Region.wanted, hg]
  simp only [hw, if_true]
  left
  unfold Oper.wp
  rw [hrun, Oper.upon_value, hdst]
  exact hK

/-- An allocation that waits for nobody, and which none of the first n looks at. -/
structure Loose (P : Program) (ops : Array Oper) (n i : Nat) (d : Tmp) (obj : Obj) : Prop where
  op : ∃ on, ops[i]? = some on ∧ on.dst = some d ∧ on.guard = none ∧ on.after = #[] ∧ ∀ (a : Act) (u : World), (execOp a.eval on).run P u = .ok (.value (.pointer (some ⟨u.heap.size, 0, none⟩))) (u.alloc obj)
  aside : ∀ j o, j < n → ops[j]? = some o → (∀ t, some d = some t → t ∉ o.looksAt ops) ∧ (∀ t, some d = some t → o.dst ≠ some t)

theorem Loose.ready {n i : Nat} {d : Tmp} {obj : Obj} (h : Loose P ops n i d obj) {listed : Array Bool} (hn : listed.getD i true = false) : i ∈ Region.ready md ops listed := by
  obtain ⟨on, hon, _, _, haf, _⟩ := h.op
  exact mem_ready.2 ⟨hn, on, hon, fun e he => absurd he (by rw [haf]; simp)⟩

/-- One allocation pends. -/
theorem any_one {S : World → Prop} (hS : Keeps w S) {n i g : Nat} {d : Tmp} {obj : Obj} {Q : Exit → Act → World → Prop} {L : Array Bool → Act → Prop} (hl : Loose P ops n i d obj)
    (hsel : ∀ (j : Nat) (o : Oper) cs b, ops[j]? = some o → o.op ≠ .select cs b)
    (hK : ∀ listed a u, listed.getD i true = false → L (listed.setIfInBounds i true) a → S u → wpAny P md ops Q (g + 1) listed a u)
    (hK' : ∀ listed a V u, L listed a → S V → Below (V.alloc obj).heap.size (V.alloc obj) u → wpAny P md ops Q g listed (a.put (some d) (.pointer (some ⟨V.heap.size, 0, none⟩))) u) :
    ∀ (f : Nat) (listed : Array Bool) (a : Act), listed.getD i true = false → AllCalm P md ops w n L f (listed.setIfInBounds i true) a →
      ∀ u, S u → wpAny P md ops Q (f + (g + 1)) listed a u := by
  intro f
  induction f with
  | zero => intro listed a hn H u hu; rw [Nat.zero_add]; exact hK listed a u hn H hu
  | succ f ih =>
    intro listed a hn H u hu
    rw [show f + 1 + (g + 1) = (f + (g + 1)) + 1 by omega]
    refine ⟨fun h0 => absurd (hl.ready hn) (by rw [h0]; exact List.not_mem_nil), fun j hj => ?_⟩
    by_cases hji : j = i
    · subst hji
      obtain ⟨on, hon, hdst, hg, haf, hrun⟩ := hl.op
      refine op_alloc hon hdst hg hrun ?_
      have H2 : AllCalm P md ops w n (fun l a' => ∀ v, Below (u.alloc obj).heap.size (u.alloc obj) v → wpAny P md ops Q g l a' v) (f + 1) (listed.setIfInBounds j true) (a.put (some d) (.pointer (some ⟨u.heap.size, 0, none⟩))) :=
        AllCalm.put (fun l a' h v hv => hK' l a' u v h hu hv) hl.aside hsel (f + 1) _ _ H
      have H3 := any_of_calm (w := w) (S := fun v => Below (u.alloc obj).heap.size (u.alloc obj) v) ⟨fun _ _ h hb => h.trans (hb.mono h.size), fun v hv => New.base ⟨hS.base u hu, hv⟩⟩ (Q := Q) (g := g) (fun l a' h v hv => h v hv) (f + 1) _ _ H2 (u.alloc obj) (Below.refl _ _)
      rwa [show f + 1 + g = f + (g + 1) by omega] at H3
    · obtain ⟨hlt, o, v, ho, hs, hrest⟩ := H.2 j (ready_mono hj hji)
      refine hs.op hS ho hu fun u' hu' => ih (listed.setIfInBounds j true) (a.put o.dst v) (by rw [getD_set_ne true hji]; exact hn) ?_ u' hu'
      rw [Array.setIfInBounds_comm _ _ hji]
      exact hrest

/-- Two allocations pend. -/
theorem any_two {n i k g : Nat} {d e : Tmp} {obj obj' : Obj} {Q : Exit → Act → World → Prop} {L : Array Bool → Act → Prop} (hik : i ≠ k) (hl : Loose P ops n i d obj) (hl' : Loose P ops n k e obj')
    (hsel : ∀ (j : Nat) (o : Oper) cs b, ops[j]? = some o → o.op ≠ .select cs b)
    (h00 : ∀ listed a u, listed.getD i true = false → listed.getD k true = false → L ((listed.setIfInBounds i true).setIfInBounds k true) a → Below w.heap.size w u → wpAny P md ops Q (g + 2) listed a u)
    (h10 : ∀ listed a V u, listed.getD k true = false → L (listed.setIfInBounds k true) a → New w obj V u → wpAny P md ops Q (g + 1) listed (a.put (some d) (.pointer (some ⟨V.heap.size, 0, none⟩))) u)
    (h01 : ∀ listed a V u, listed.getD i true = false → L (listed.setIfInBounds i true) a → New w obj' V u → wpAny P md ops Q (g + 1) listed (a.put (some e) (.pointer (some ⟨V.heap.size, 0, none⟩))) u)
    (h11 : ∀ listed a V V' u, L listed a → New w obj V u → New w obj' V' u → V.heap.size ≠ V'.heap.size →
      wpAny P md ops Q g listed ((a.put (some d) (.pointer (some ⟨V.heap.size, 0, none⟩))).put (some e) (.pointer (some ⟨V'.heap.size, 0, none⟩))) u)
    (hde : d ≠ e) :
    ∀ (f : Nat) (listed : Array Bool) (a : Act), listed.getD i true = false → listed.getD k true = false → AllCalm P md ops w n L f ((listed.setIfInBounds i true).setIfInBounds k true) a →
      ∀ u, Below w.heap.size w u → wpAny P md ops Q (f + (g + 2)) listed a u := by
  intro f
  induction f with
  | zero => intro listed a hi hk H u hu; rw [Nat.zero_add]; exact h00 listed a u hi hk H hu
  | succ f ih =>
    intro listed a hi hk H u hu
    rw [show f + 1 + (g + 2) = (f + (g + 2)) + 1 by omega]
    refine ⟨fun h0 => absurd (hl.ready hi) (by rw [h0]; exact List.not_mem_nil), fun j hj => ?_⟩
    by_cases hji : j = i
    · subst hji
      obtain ⟨on, hon, hdst, hg, haf, hrun⟩ := hl.op
      refine op_alloc hon hdst hg hrun ?_
      have H2 : AllCalm P md ops w n (fun l a' => ∃ a0, a' = a0.put (some d) (.pointer (some ⟨u.heap.size, 0, none⟩)) ∧ L l a0) (f + 1) ((listed.setIfInBounds j true).setIfInBounds k true) (a.put (some d) (.pointer (some ⟨u.heap.size, 0, none⟩))) :=
        AllCalm.put (fun l a' h => ⟨a', rfl, h⟩) hl.aside hsel (f + 1) _ _ H
      have H3 := any_one (w := w) (S := fun v => New w obj u v) ⟨fun _ _ h hb => h.on hb, fun v hv => hv.base⟩ (Q := Q) (g := g) hl' hsel
        (fun l a' v hn h hv => by obtain ⟨a0, rfl, h⟩ := h; exact h10 l a0 u v hn h hv)
        (fun l a' V v h hV hv => by
          obtain ⟨a0, rfl, h⟩ := h
          exact h11 l a0 u V v h ((hV.on (al (Below.refl _ _) obj')).on (hv.mono (by simp))) ⟨hV.base, hv⟩ (Nat.ne_of_lt hV.lt)) (f + 1) (listed.setIfInBounds j true) _ (by rw [getD_set_ne true hik]; exact hk) H2 (u.alloc obj) ⟨hu, Below.refl _ _⟩
      rwa [show f + 1 + (g + 1) = f + (g + 2) by omega] at H3
    by_cases hjk : j = k
    · subst hjk
      obtain ⟨on, hon, hdst, hg, haf, hrun⟩ := hl'.op
      refine op_alloc hon hdst hg hrun ?_
      have H2 : AllCalm P md ops w n (fun l a' => ∃ a0, a' = a0.put (some e) (.pointer (some ⟨u.heap.size, 0, none⟩)) ∧ L l a0) (f + 1) ((listed.setIfInBounds j true).setIfInBounds i true) (a.put (some e) (.pointer (some ⟨u.heap.size, 0, none⟩))) :=
        AllCalm.put (fun l a' h => ⟨a', rfl, h⟩) hl'.aside hsel (f + 1) _ _ (by rw [Array.setIfInBounds_comm _ _ hji]; exact H)
      have H3 := any_one (w := w) (S := fun v => New w obj' u v) ⟨fun _ _ h hb => h.on hb, fun v hv => hv.base⟩ (Q := Q) (g := g) hl hsel
        (fun l a' v hn h hv => by obtain ⟨a0, rfl, h⟩ := h; exact h01 l a0 u v hn h hv)
        (fun l a' V v h hV hv => by
          obtain ⟨a0, rfl, h⟩ := h
          have := h11 l a0 V u v h ⟨hV.base, hv⟩ ((hV.on (al (Below.refl _ _) obj)).on (hv.mono (by simp))) (Nat.ne_of_gt hV.lt)
          rwa [Act.put_comm a0 _ _ (fun t ht => by obtain rfl := Option.some.inj ht; simpa using Ne.symm hde)] at this) (f + 1) (listed.setIfInBounds j true) _ (by rw [getD_set_ne true hji]; exact hi) H2 (u.alloc obj') ⟨hu, Below.refl _ _⟩
      rwa [show f + 1 + (g + 1) = f + (g + 2) by omega] at H3
    obtain ⟨hlt, o, v, ho, hs, hrest⟩ := H.2 j (ready_mono (ready_mono hj hji) hjk)
    refine hs.op (keeps_below w) ho hu fun u' hu' => ih (listed.setIfInBounds j true) (a.put o.dst v) (by rw [getD_set_ne true hji]; exact hi) (by rw [getD_set_ne true hjk]; exact hk) ?_ u' hu'
    rw [Array.setIfInBounds_comm _ _ hji, Array.setIfInBounds_comm _ _ hjk]
    exact hrest
def Region.looseB (ops : Array Oper) (i : Nat) (d : Tmp) : Bool := match ops[i]? with | some o => o.dst == some d && (o.guard.isNone && o.after.isEmpty) | none => false
def asideB (ops : Array Oper) (j : Nat) (d : Tmp) : Bool := match ops[j]? with | some o => !(o.looksAt ops).contains d && o.dst != some d | none => false
def Region.alloc2B (md : Region.Mode) (ops : Array Oper) (n m : Nat) (d e : Tmp) : Bool :=
  let i := n + m
  let k := n + m + 1
  let lA := ((Array.replicate ops.size false).setIfInBounds i true).setIfInBounds k true
  let lC := setL n 0 lA
  let l10 := lC.setIfInBounds k false
  let l01 := lC.setIfInBounds i false
  let l00 := l10.setIfInBounds i false
  Region.noSelect ops && (decide (0 < n) && (decide (n + m + 2 ≤ ops.size) && (decide (d ≠ e) && (Region.looseB ops i d && (Region.looseB ops k e &&
  (((List.range (n + m)).all fun j => asideB ops j d && asideB ops j e) && (Region.sinkB md ops (n - 1) &&
  (((List.range ops.size).all fun t => decide (t < n) || (t == i || (t == k || Region.waitsFor md ops t (n - 1)))) &&
  (Region.headB md ops (fun l => l == lC) n 0 lA && (((Region.ready md ops lC).all fun j => decide (n ≤ j)) &&
  (Region.lateB md ops m n l00 && (Region.lateB md ops m n l10 && (Region.lateB md ops m n l01 && (Region.lateB md ops m n lC &&
  (decide (Region.ready md ops (setL m n l00) = [i, k]) && (decide (Region.ready md ops (setL m n l10) = [k]) && (decide (Region.ready md ops (setL m n l01) = [i]) &&
  (decide ((setL m n l00).setIfInBounds i true = setL m n l10) && (decide ((setL m n l00).setIfInBounds k true = setL m n l01) &&
  (decide ((setL m n l10).setIfInBounds k true = setL m n lC) && (decide ((setL m n l01).setIfInBounds i true = setL m n lC) &&
  Region.seqB md ops (ops.size - (n + m + 2)) (n + m + 2) (setL m n lC))))))))))))))))))))))

theorem loose_of {n m i : Nat} {d : Tmp} {obj : Obj} {on : Oper} (hon : ops[i]? = some on) (h : Region.looseB ops i d = true) (ha : ∀ j, j < n + m → asideB ops j d = true)
    (hrun : ∀ (a : Act) (u : World), (execOp a.eval on).run P u = .ok (.value (.pointer (some ⟨u.heap.size, 0, none⟩))) (u.alloc obj)) : Loose P ops n i d obj := by
  refine ⟨⟨on, hon, ?_⟩, fun j o hj ho => ?_⟩
  · unfold Region.looseB at h
    rw [hon] at h
    simp only [Bool.and_eq_true, beq_iff_eq, Option.isNone_iff_eq_none] at h
    exact ⟨h.1, h.2.1, by simpa using h.2.2, hrun⟩
  · have := ha j (by omega)
    unfold asideB at this
    rw [ho] at this
    simp only [Bool.and_eq_true, Bool.not_eq_true', bne_iff_ne, ne_eq] at this
    refine ⟨fun t ht => ?_, fun t ht => ?_⟩
    · obtain rfl := Option.some.inj ht
      intro hmem
      rw [List.contains_iff_mem.2 hmem] at this
      exact absurd this.1 (by decide)
    · obtain rfl := Option.some.inj ht
      exact this.2

theorem region_alloc2 {id : Nat} {Q : Exit → Act → World → Prop} {a : Act} {w : World} {l : List Oper} (n m : Nat) (d e : Tmp) (obj obj' : Obj) (on on' : Oper) (hm : P.follows .mixedOrders = true)
    (hB : Region.alloc2B .any l.toArray n m d e = true) (hn : (l.drop (n + m)).take 2 = [on, on'])
    (hrun : ∀ (a : Act) (u : World), (execOp a.eval on).run P u = .ok (.value (.pointer (some ⟨u.heap.size, 0, none⟩))) (u.alloc obj))
    (hrun' : ∀ (a : Act) (u : World), (execOp a.eval on').run P u = .ok (.value (.pointer (some ⟨u.heap.size, 0, none⟩))) (u.alloc obj'))
    (hQ : ∀ c (a : Act) (d : Tmp) v w, Q (.panic c) (a.put (some d) v) w → Q (.panic c) a w)
    (h : InText P l.toArray w (Lates P l.toArray (fun a' => ∀ V V' u, New w obj V u → New w obj' V' u → V.heap.size ≠ V'.heap.size →
      wpList P l.toArray Q (l.drop (n + m + 2)) (putAll a' [(d, .pointer (some ⟨V.heap.size, 0, none⟩)), (e, .pointer (some ⟨V'.heap.size, 0, none⟩))]) u) ((l.drop n).take m)) (l.take n) a) : (Code.region id l.toArray true).wp P Q a w := by
  simp only [Region.alloc2B, Bool.and_eq_true, decide_eq_true_eq] at hB
  obtain ⟨hsel, hn0, hsz, hde, hli, hlk, hasd, hsink, hwait, hhead, hrC, b00, b10, b01, b11, r00, r10, r01, s1, s2, s3, s4, hseq⟩ := hB
  have hsz : n + m + 2 ≤ l.length := by simpa using hsz
  have hon : l.toArray[n + m]? = some on := by
    have : ((l.drop (n + m)).take 2)[0]? = some on := by rw [hn]; rfl
    simpa using this
  have hon' : l.toArray[n + m + 1]? = some on' := by
    have : ((l.drop (n + m)).take 2)[1]? = some on' := by rw [hn]; rfl
    simpa [List.getElem?_take, List.getElem?_drop] using this
  have hasd : ∀ j, j < n + m → asideB l.toArray j d = true ∧ asideB l.toArray j e = true := fun j hj => by
    have := List.all_eq_true.1 hasd j (List.mem_range.2 hj); simpa using this
  have Li : Loose P l.toArray n (n + m) d obj := loose_of hon hli (fun j hj => (hasd j hj).1) hrun
  have Lk : Loose P l.toArray n (n + m + 1) e obj' := loose_of hon' hlk (fun j hj => (hasd j hj).2) hrun'
  have hS := Region.noSelect_spec hsel
  have htl : (l.take n).length = n := by simp; omega
  have hml : ((l.drop n).take m).length = m := by simp; omega
  have hdl : (l.drop (n + m + 2)).length = l.toArray.size - (n + m + 2) := by simp
  -- what the late ones look at
  have hlate : ∀ j, j < ((l.drop n).take m).length → ((l.drop n).take m)[j]? = l.toArray[n + j]? := fun j hj => by
    rw [hml] at hj
    simp [hj]
  have hasL : ∀ o ∈ (l.drop n).take m, ∀ ps : List (Tmp × Value), (∀ p ∈ ps, p.1 = d ∨ p.1 = e) → Asides l.toArray o ps := by
    intro o ho ps hps p hp
    obtain ⟨j, hj, rfl⟩ := List.getElem_of_mem ho
    have h1 := hlate j hj
    rw [List.getElem?_eq_getElem hj] at h1
    rw [hml] at hj
    have h2 := hasd (n + j) (by omega)
    unfold asideB at h2
    rw [← h1] at h2
    simp only [Bool.and_eq_true, Bool.not_eq_true', bne_iff_ne, ne_eq] at h2
    rcases hps p hp with hp | hp <;> rw [hp]
    · exact ⟨fun hmem => by rw [List.contains_iff_mem.2 hmem] at h2; exact absurd h2.1.1 (by decide), h2.1.2⟩
    · exact ⟨fun hmem => by rw [List.contains_iff_mem.2 hmem] at h2; exact absurd h2.2.1 (by decide), h2.2.2⟩
  generalize hlA : ((Array.replicate l.toArray.size false).setIfInBounds (n + m) true).setIfInBounds (n + m + 1) true = lA at *
  generalize hlC : setL n 0 lA = lC at *
  generalize hLq : (fun a' : Act => ∀ V V' u, New w obj V u → New w obj' V' u → V.heap.size ≠ V'.heap.size →
      wpList P l.toArray Q (l.drop (n + m + 2)) (putAll a' [(d, .pointer (some ⟨V.heap.size, 0, none⟩)), (e, .pointer (some ⟨V'.heap.size, 0, none⟩))]) u) = Lq at h
  -- behind all of them
  have T11 : ∀ a' V V' u, Lq a' → New w obj V u → New w obj' V' u → V.heap.size ≠ V'.heap.size → wpAny P .any l.toArray Q (l.toArray.size - (n + m + 2)) (setL m n lC) (putAll a' [(d, .pointer (some ⟨V.heap.size, 0, none⟩)), (e, .pointer (some ⟨V'.heap.size, 0, none⟩))]) u := by
    intro a' V V' u ha hV hV' hne
    subst hLq
    have := wpAny_of_seq (P := P) (md := .any) (Q' := Q) (l.drop (n + m + 2)) (n + m + 2) (setL m n lC) _ u (fun j => by simp [List.getElem?_drop]) (by rw [hdl]; exact hseq) (ha V V' u hV hV' hne)
    rwa [hdl] at this
  have T10 : ∀ a' V u, Lq a' → New w obj V u → wpAny P .any l.toArray Q (l.toArray.size - (n + m + 2) + 1) (setL m n (lC.setIfInBounds (n + m + 1) false)) (a'.put (some d) (.pointer (some ⟨V.heap.size, 0, none⟩))) u := by
    intro a' V u ha hV
    refine ⟨fun h0 => (by rw [r10] at h0; cases h0), fun j hj => ?_⟩
    rw [r10] at hj
    obtain rfl : j = n + m + 1 := by simpa using hj
    obtain ⟨o2, ho2, hdst, hg, haf, hr2⟩ := Lk.op
    refine op_alloc ho2 hdst hg hr2 ?_
    rw [s3]
    exact T11 a' V u _ ha (hV.on (al (Below.refl _ _) obj')) ⟨hV.base, Below.refl _ _⟩ (Nat.ne_of_lt hV.lt)
  have T01 : ∀ a' V u, Lq a' → New w obj' V u → wpAny P .any l.toArray Q (l.toArray.size - (n + m + 2) + 1) (setL m n (lC.setIfInBounds (n + m) false)) (a'.put (some e) (.pointer (some ⟨V.heap.size, 0, none⟩))) u := by
    intro a' V u ha hV
    refine ⟨fun h0 => (by rw [r01] at h0; cases h0), fun j hj => ?_⟩
    rw [r01] at hj
    obtain rfl : j = n + m := by simpa using hj
    obtain ⟨o2, ho2, hdst, hg, haf, hr2⟩ := Li.op
    refine op_alloc ho2 hdst hg hr2 ?_
    rw [s4]
    have := T11 a' u V _ ha ⟨hV.base, Below.refl _ _⟩ (hV.on (al (Below.refl _ _) obj)) (Nat.ne_of_gt hV.lt)
    rw [putAll, putAll, putAll, Act.put_comm a' _ _ (fun t ht => by obtain rfl := Option.some.inj ht; simpa using Ne.symm hde)] at this
    exact this
  have T00 : ∀ a' u, Lq a' → Below w.heap.size w u → wpAny P .any l.toArray Q (l.toArray.size - (n + m + 2) + 2) (setL m n ((lC.setIfInBounds (n + m + 1) false).setIfInBounds (n + m) false)) a' u := by
    intro a' u ha hu
    refine ⟨fun h0 => (by rw [r00] at h0; cases h0), fun j hj => ?_⟩
    rw [r00] at hj
    rcases (show j = n + m ∨ j = n + m + 1 by simpa using hj) with rfl | rfl
    · obtain ⟨o2, ho2, hdst, hg, haf, hr2⟩ := Li.op
      refine op_alloc ho2 hdst hg hr2 ?_
      rw [s1]
      exact T10 a' u _ ha ⟨hu, Below.refl _ _⟩
    · obtain ⟨o2, ho2, hdst, hg, haf, hr2⟩ := Lk.op
      refine op_alloc ho2 hdst hg hr2 ?_
      rw [s2]
      exact T01 a' u _ ha ⟨hu, Below.refl _ _⟩
  have lates := fun (k : Nat) (u : World) (ps : List (Tmp × Value)) (hps : ∀ p ∈ ps, p.1 = d ∨ p.1 = e) (listed : Array Bool) (a' : Act) => any_lates (P := P) (md := .any) (Q := Q) (L := Lq) (k := k) (u := u) hsel hQ ps ((l.drop n).take m) n listed a' hlate (fun o ho => hasL o ho ps hps)
  rw [hml] at lates
  have hI : Holds .any l.toArray n (fun listed => Closed .any l.toArray listed ∧ listed.getD (n + m) false = true ∧ listed.getD (n + m + 1) false = true) := by
    refine ⟨fun listed j h hj _ => ⟨h.1.set hj, getD_set_true h.2.1, getD_set_true h.2.2⟩, fun listed i h hi hun j hj => ?_⟩
    obtain ⟨hj0, o, ho, hall⟩ := mem_ready.1 hj
    have hlt : j < l.toArray.size := (Array.getElem?_eq_some_iff.1 ho).1
    rcases Nat.lt_or_ge j n with h1 | h1
    · exact h1
    · exfalso
      by_cases hjn : j = n + m
      · subst hjn; rw [getD_both hj0] at h; cases h.2.1
      by_cases hjk : j = n + m + 1
      · subst hjk; rw [getD_both hj0] at h; cases h.2.2
      have h2 := List.all_eq_true.1 hwait j (List.mem_range.2 hlt)
      simp only [Bool.or_eq_true, decide_eq_true_eq, beq_iff_eq, hjn, hjk, false_or, Nat.not_lt.2 h1] at h2
      obtain ⟨o', ho', e', he, hb, hon2⟩ := Region.waitsFor_spec h2
      obtain rfl : o' = o := Option.some.inj (ho'.symm.trans ho)
      have h3 := hall e' he hb
      rw [hon2] at h3
      have h4 := h.1.sink hsink h3 (n - 1 - i) i (by omega)
      rw [getD_both hun] at h4
      cases h4
  have hset : Closed .any l.toArray lA ∧ lA.getD (n + m) false = true ∧ lA.getD (n + m + 1) false = true := by
    subst hlA
    refine ⟨fun j oj hj hl e' he hb => ?_, ?_, ?_⟩
    · by_cases h1 : n + m + 1 = j
      · subst h1
        obtain ⟨o2, ho2, _, _, haf, _⟩ := Lk.op
        obtain rfl : oj = o2 := Option.some.inj (hj.symm.trans ho2)
        rw [haf] at he; simp at he
      by_cases h2 : n + m = j
      · subst h2
        obtain ⟨o2, ho2, _, _, haf, _⟩ := Li.op
        obtain rfl : oj = o2 := Option.some.inj (hj.symm.trans ho2)
        rw [haf] at he; simp at he
      rw [getD_set_ne false h1, getD_set_ne false h2, getD_replicate_false] at hl
      cases hl
    · refine getD_set_true ?_
      have : n + m < l.length := by omega
      simp [this]
    · have : n + m + 1 < l.length := by omega
      simp [this]
  have H := calm_lex (P := P) (md := .any) (w := w) (B := fun l' => l' == lC) hI hsel (fun listed h j hj => by
    obtain rfl := eq_of_beq h
    have := List.all_eq_true.1 hrC j hj
    simpa using this) (l.take n) 0 lA a (fun j hj => by
    have hjn : j < n := by rwa [htl] at hj
    simp [hjn]) (by rw [htl]; omega) hset (by rw [htl]; exact hhead) h
  have K := any_two (P := P) (md := .any) (w := w) (Q := Q) (L := fun l' a' => (l' == lC) = true ∧ Lates P l.toArray Lq ((l.drop n).take m) a') (g := m + (l.toArray.size - (n + m + 2))) (show n + m ≠ n + m + 1 by omega) Li Lk hS
    (fun listed a' u h1 h2 hL hu => by
      have e1 := undo_set (by rw [getD_set_ne true (by omega)]; exact h2) (eq_of_beq hL.1)
      obtain rfl := undo_set h1 e1
      rw [show m + (l.toArray.size - (n + m + 2)) + 2 = m + (l.toArray.size - (n + m + 2) + 2) by omega]
      exact lates _ u [] (fun _ hp => absurd hp (List.not_mem_nil)) _ a' b00 hL.2 fun a2 h2 => T00 a2 u h2 hu)
    (fun listed a' V u h2 hL hV => by
      obtain rfl := undo_set h2 (eq_of_beq hL.1)
      rw [show m + (l.toArray.size - (n + m + 2)) + 1 = m + (l.toArray.size - (n + m + 2) + 1) by omega]
      exact lates _ u [(d, .pointer (some ⟨V.heap.size, 0, none⟩))] (fun p hp => .inl (by rw [List.mem_singleton.1 hp])) _ a' b10 hL.2 fun a2 h2 => T10 a2 V u h2 hV)
    (fun listed a' V u h2 hL hV => by
      obtain rfl := undo_set h2 (eq_of_beq hL.1)
      rw [show m + (l.toArray.size - (n + m + 2)) + 1 = m + (l.toArray.size - (n + m + 2) + 1) by omega]
      exact lates _ u [(e, .pointer (some ⟨V.heap.size, 0, none⟩))] (fun p hp => .inr (by rw [List.mem_singleton.1 hp])) _ a' b01 hL.2 fun a2 h2 => T01 a2 V u h2 hV)
    (fun listed a' V V' u hL hV hV' hne => by
      obtain rfl := eq_of_beq hL.1
      exact lates _ u [(d, .pointer (some ⟨V.heap.size, 0, none⟩)), (e, .pointer (some ⟨V'.heap.size, 0, none⟩))] (fun p hp => by
        rcases List.mem_cons.1 hp with rfl | hp
        · exact .inl rfl
        · exact .inr (by rw [List.mem_singleton.1 hp])) _ a' b11 hL.2 fun a2 h2 => T11 a2 V V' u h2 hV hV' hne)
    hde _ (Array.replicate l.toArray.size false) a (getD_in (by simp; omega) (getD_replicate_false _ _)) (getD_in (by simp; omega) (getD_replicate_false _ _)) (by rw [hlA]; exact H) w.drew (Below.refl _ _).drew
  rw [htl, show n + (m + (l.toArray.size - (n + m + 2)) + 2) = l.toArray.size by simp; omega] at K
  exact wp_region_any hm K
end
end Go.Proofs.Ythjekbbldejlpaa
/- Regions that draw their order: operations that leave one value first, then one operation alone (a call, whatever it answers), then such as only put together what lies in slots. No program. -/
set_option linter.unusedVariables false
set_option linter.unusedSimpArgs false
namespace Go.Proofs.Ythjekbbldejlpaa
open Go Go.RowKit
section
variable {P : Program} {ops : Array Oper} {md : Region.Mode} {w : World}
/-- What is asked behind the one: the late ones. -/
def midQ (P : Program) (ops : Array Oper) (Q : Exit → Act → World → Prop) (late : List Oper) : Exit → Act → World → Prop
  | .normal, a, w => Lates P ops (fun a' => Q .normal a' w) late a
  | e, a, w => Q e a w
theorem letsOut_mid {Q : Exit → Act → World → Prop} {late : List Oper} (h : LetsOut (midQ P ops Q late)) : LetsOut Q := h
theorem wp_mid {Q : Exit → Act → World → Prop} {late : List Oper} {o : Oper} {a : Act} {K : Act → World → Prop} (h : o.wp P a w K (midQ P ops Q late)) : o.wp P a w K Q := by
  unfold Oper.wp at *
  generalize (execOp a.eval o).run P w = r at *
  cases r with
  | ok n w' =>
    cases n <;> simp only [Oper.upon] at h ⊢ <;>
      first
        | exact h
        | exact Calls.mono h (fun e w'' he => by cases e <;> exact he)
  | halt x w' => cases x <;> simp only [Oper.upon] at h ⊢ <;> exact h
def Region.behindB (md : Region.Mode) (ops : Array Oper) (n : Nat) : Bool :=
  (List.range ops.size).all fun t => decide (t ≤ n) || (List.range t).any fun t' => decide (n ≤ t') && Region.waitsFor md ops t t'
theorem Closed.behind {listed : Array Bool} {n : Nat} (h : Closed md ops listed) (hb : Region.behindB md ops n = true) : ∀ t, n ≤ t → t < ops.size → listed.getD t false = true → listed.getD n false = true := by
  intro t
  induction t using Nat.strongRecOn with
  | ind t ih =>
    intro hnt hts hl
    by_cases h0 : t = n
    · subst h0; exact hl
    · have h1 := List.all_eq_true.1 hb t (List.mem_range.2 hts)
      simp only [Bool.or_eq_true, decide_eq_true_eq] at h1
      rcases h1 with h1 | h1
      · omega
      · obtain ⟨t', ht', h2⟩ := List.any_eq_true.1 h1
        simp only [Bool.and_eq_true, decide_eq_true_eq] at h2
        have hlt : t' < t := List.mem_range.1 ht'
        obtain ⟨oj, ho, e, he, hbd, hon⟩ := Region.waitsFor_spec h2.2
        have h3 := h t oj ho hl e he hbd
        rw [hon] at h3
        exact ih t' hlt h2.1 (by omega) h3
def Region.midB (md : Region.Mode) (ops : Array Oper) (n : Nat) : Bool :=
  let l0 := Array.replicate ops.size false
  let lC := setL n 0 l0
  let lD := lC.setIfInBounds n true
  Region.noSelect ops && (decide (n < ops.size) && (Region.sinkB md ops n && (Region.behindB md ops n && (Region.headB md ops (fun l => l == lC) n 0 l0 && (decide (Region.ready md ops lC = [n]) &&
    (Region.lateB md ops (ops.size - (n + 1)) (n + 1) lD && (Region.ready md ops (setL (ops.size - (n + 1)) (n + 1) lD)).isEmpty))))))
theorem region_mid {id : Nat} {Q : Exit → Act → World → Prop} {a : Act} {w : World} {l : List Oper} (n : Nat) (on : Oper) (hm : P.follows .mixedOrders = true) (hB : Region.midB .any l.toArray n = true) (hon : (l.drop n).take 1 = [on])
    (hQ : ∀ c (a : Act) (d : Tmp) v w, Q (.panic c) (a.put (some d) v) w → Q (.panic c) a w)
    (h : InText P l.toArray w (fun a' => ∀ w', Below w.heap.size w w' → wpList P l.toArray (midQ P l.toArray Q (l.drop (n + 1))) [on] a' w') (l.take n) a) : (Code.region id l.toArray true).wp P Q a w := by
  simp only [Region.midB, Bool.and_eq_true, decide_eq_true_eq] at hB
  obtain ⟨hsel, hn, hsink, hbeh, hhead, hrC, hlate, hend⟩ := hB
  have hl : n < l.length := by simpa using hn
  have ho : l.toArray[n]? = some on := by
    have : ((l.drop n).take 1)[0]? = some on := by rw [hon]; rfl
    simpa using this
  have htl : (l.take n).length = n := by simp; omega
  have hdl : (l.drop (n + 1)).length = l.toArray.size - (n + 1) := by simp
  generalize hlC : setL n 0 (Array.replicate l.toArray.size false) = lC at *
  have hI : Holds .any l.toArray n (Closed .any l.toArray) := by
    refine ⟨fun listed j h hj _ => h.set hj, fun listed i h hi hun j hj => ?_⟩
    obtain ⟨hj0, o, hoj, hall⟩ := mem_ready.1 hj
    have hlt : j < l.toArray.size := (Array.getElem?_eq_some_iff.1 hoj).1
    rcases Nat.lt_or_ge j n with h1 | h1
    · exact h1
    · exfalso
      have hc := h.set hj
      have hjl : (listed.setIfInBounds j true).getD j false = true := by
        have h5 : j < listed.size := by
          rcases Nat.lt_or_ge j listed.size with h' | h'
          · exact h'
          · simp [Array.getElem?_eq_none h'] at hj0
        simp [h5]
      have hnl := hc.behind hbeh j h1 hlt hjl
      have hil := hc.sink hsink hnl (n - i) i (by omega)
      rw [getD_set_ne false (by omega)] at hil
      rw [getD_both hun] at hil
      cases hil
  have H := calm_lex (md := .any) (B := fun l' => l' == lC) hI hsel (fun listed hb j hj => by
    have : listed = lC := by simpa using hb
    rw [this, hrC] at hj
    have : j = n := by simpa using hj
    omega) (l.take n) 0 _ a (fun j hj => by
    have hjn : j < n := by rwa [htl] at hj
    simp [hjn]) (by rw [htl]; omega) (fun j oj _ hj => absurd hj (by rw [getD_replicate_false]; exact Bool.false_ne_true)) (by rw [htl]; exact hhead) h
  have K := any_of_calm (keeps_below w) (Q := Q) (g := l.toArray.size - (n + 1) + 1) (fun listed a' hL w' hw' => by
    obtain ⟨hb, hL2⟩ := hL
    have he : listed = lC := by simpa using hb
    subst he
    refine ⟨fun h0 => (by rw [hrC] at h0; cases h0), fun j hj => ?_⟩
    rw [hrC] at hj
    obtain rfl : j = n := by simpa using hj
    have hw := hL2 w' hw'
    unfold wpOp
    simp only [ho]
    have tail : ∀ (a2 : Act) (u : World), midQ P l.toArray Q (l.drop (j + 1)) .normal a2 u → wpAny P .any l.toArray Q (l.toArray.size - (j + 1)) (listed.setIfInBounds j true) a2 u := fun a2 u hK => by
      have := any_lates (P := P) (md := .any) (Q := Q) (L := fun a3 => Q .normal a3 u) (k := 0) (u := u) hsel hQ [] (l.drop (j + 1)) (j + 1) (listed.setIfInBounds j true) a2 (fun i hi => by simp [List.getElem?_drop])
        (fun o _ p hp => absurd hp (by simp)) (by rw [hdl]; exact hlate) hK (fun a3 h3 => ⟨by rw [hdl]; simpa using hend, h3⟩)
      rw [hdl, Nat.add_zero] at this
      exact this
    unfold wpList at hw
    split at hw
    · rename_i hwt
      rw [if_pos hwt]
      rcases hw with hw | ⟨hw, hlo⟩
      · exact .inl (wp_mid (Oper.wp_mono (fun a2 u hK => tail a2 u hK) hw))
      · exact .inr ⟨hw, letsOut_mid hlo⟩
    · rename_i hwt
      rw [if_neg hwt]
      exact tail _ _ hw) _ _ _ H w.drew (Below.refl _ _).drew
  rw [htl, show n + (l.toArray.size - (n + 1) + 1) = l.toArray.size by have : n < l.toArray.size := hn; omega] at K
  exact wp_region_any hm K
end
end Go.Proofs.Ythjekbbldejlpaa
