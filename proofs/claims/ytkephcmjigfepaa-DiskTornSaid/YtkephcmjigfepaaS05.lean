/- Regions that draw their order: operations that leave one value first, then one operation alone (a call, whatever it answers), then such as only put together what lies in slots. No program. -/
import Derived.Test.YtkephcmjigfepaaS02
set_option linter.unusedVariables false
set_option linter.unusedSimpArgs false
namespace Go.Proofs.Ytkephcmjigfepaa
open Go Go.RowKit
section
variable {P : Program} {ops : Array Oper} {md : Region.Mode} {w : World}
/-- What is asked behind the one: the late ones. -/
def midQ (P : Program) (ops : Array Oper) (Q : Exit → Act → World → Prop) (late : List Oper) : Exit → Act → World → Prop
  | .normal, a, w => Lates P ops (fun a' => Q .normal a' w) late a
  | e, a, w => Q e a w
theorem letsOut_mid {Q : Exit → Act → World → Prop} {late : List Oper} (h : LetsOut (midQ P ops Q late)) : LetsOut Q := h
theorem wp_mid {Q : Exit → Act → World → Prop} {late : List Oper} {o : Oper} {a : Act} {K : Act → World → Prop} (h : o.wp P a w K (midQ P ops Q late)) : o.wp P a w K Q := by
  unfold Oper.wp at *
  generalize (execOp a.eval o).run P w = r at *
  cases r with
  | ok n w' =>
    cases n <;> simp only [Oper.upon] at h ⊢ <;>
      first
        | exact h
        | exact Calls.mono h (fun e w'' he => by cases e <;> exact he)
  | halt x w' => cases x <;> simp only [Oper.upon] at h ⊢ <;> exact h
def Region.behindB (md : Region.Mode) (ops : Array Oper) (n : Nat) : Bool :=
  (List.range ops.size).all fun t => decide (t ≤ n) || (List.range t).any fun t' => decide (n ≤ t') && Region.waitsFor md ops t t'
theorem Closed.behind {listed : Array Bool} {n : Nat} (h : Closed md ops listed) (hb : Region.behindB md ops n = true) : ∀ t, n ≤ t → t < ops.size → listed.getD t false = true → listed.getD n false = true := by
  intro t
  induction t using Nat.strongRecOn with
  | ind t ih =>
    intro hnt hts hl
    by_cases h0 : t = n
    · subst h0; exact hl
    · have h1 := List.all_eq_true.1 hb t (List.mem_range.2 hts)
      simp only [Bool.or_eq_true, decide_eq_true_eq] at h1
      rcases h1 with h1 | h1
      · omega
      · obtain ⟨t', ht', h2⟩ := List.any_eq_true.1 h1
        simp only [Bool.and_eq_true, decide_eq_true_eq] at h2
        have hlt : t' < t := List.mem_range.1 ht'
        obtain ⟨oj, ho, e, he, hbd, hon⟩ := Region.waitsFor_spec h2.2
        have h3 := h t oj ho hl e he hbd
        rw [hon] at h3
        exact ih t' hlt h2.1 (by omega) h3
def Region.midB (md : Region.Mode) (ops : Array Oper) (n : Nat) : Bool :=
  let l0 := Array.replicate ops.size false
  let lC := setL n 0 l0
  let lD := lC.setIfInBounds n true
  Region.noSelect ops && (decide (n < ops.size) && (Region.sinkB md ops n && (Region.behindB md ops n && (Region.headB md ops (fun l => l == lC) n 0 l0 && (decide (Region.ready md ops lC = [n]) &&
    (Region.lateB md ops (ops.size - (n + 1)) (n + 1) lD && (Region.ready md ops (setL (ops.size - (n + 1)) (n + 1) lD)).isEmpty))))))
theorem region_mid {id : Nat} {Q : Exit → Act → World → Prop} {a : Act} {w : World} {l : List Oper} (n : Nat) (on : Oper) (hm : P.follows .mixedOrders = true) (hB : Region.midB .any l.toArray n = true) (hon : (l.drop n).take 1 = [on])
    (hQ : ∀ c (a : Act) (d : Tmp) v w, Q (.panic c) (a.put (some d) v) w → Q (.panic c) a w)
    (h : InText P l.toArray w (fun a' => ∀ w', Below w.heap.size w w' → wpList P l.toArray (midQ P l.toArray Q (l.drop (n + 1))) [on] a' w') (l.take n) a) : (Code.region id l.toArray true).wp P Q a w := by
  simp only [Region.midB, Bool.and_eq_true, decide_eq_true_eq] at hB
  obtain ⟨hsel, hn, hsink, hbeh, hhead, hrC, hlate, hend⟩ := hB
  have hl : n < l.length := by simpa using hn
  have ho : l.toArray[n]? = some on := by
    have : ((l.drop n).take 1)[0]? = some on := by rw [hon]; rfl
    simpa using this
  have htl : (l.take n).length = n := by simp; omega
  have hdl : (l.drop (n + 1)).length = l.toArray.size - (n + 1) := by simp
  generalize hlC : setL n 0 (Array.replicate l.toArray.size false) = lC at *
  have hI : Holds .any l.toArray n (Closed .any l.toArray) := by
    refine ⟨fun listed j h hj _ => h.set hj, fun listed i h hi hun j hj => ?_⟩
    obtain ⟨hj0, o, hoj, hall⟩ := mem_ready.1 hj
    have hlt : j < l.toArray.size := (Array.getElem?_eq_some_iff.1 hoj).1
    rcases Nat.lt_or_ge j n with h1 | h1
    · exact h1
    · exfalso
      have hc := h.set hj
      have hjl : (listed.setIfInBounds j true).getD j false = true := by
        have h5 : j < listed.size := by
          rcases Nat.lt_or_ge j listed.size with h' | h'
          · exact h'
          · simp [Array.getElem?_eq_none h'] at hj0
        simp [h5]
      have hnl := hc.behind hbeh j h1 hlt hjl
      have hil := hc.sink hsink hnl (n - i) i (by omega)
      rw [getD_set_ne false (by omega)] at hil
      rw [getD_both hun] at hil
      cases hil
  have H := calm_lex (md := .any) (B := fun l' => l' == lC) hI hsel (fun listed hb j hj => by
    have : listed = lC := by simpa using hb
    rw [this, hrC] at hj
    have : j = n := by simpa using hj
    omega) (l.take n) 0 _ a (fun j hj => by
    have hjn : j < n := by rwa [htl] at hj
    simp [hjn]) (by rw [htl]; omega) (fun j oj _ hj => absurd hj (by rw [getD_replicate_false]; exact Bool.false_ne_true)) (by rw [htl]; exact hhead) h
  have K := any_of_calm (keeps_below w) (Q := Q) (g := l.toArray.size - (n + 1) + 1) (fun listed a' hL w' hw' => by
    obtain ⟨hb, hL2⟩ := hL
    have he : listed = lC := by simpa using hb
    subst he
    refine ⟨fun h0 => (by rw [hrC] at h0; cases h0), fun j hj => ?_⟩
    rw [hrC] at hj
    obtain rfl : j = n := by simpa using hj
    have hw := hL2 w' hw'
    unfold wpOp
    simp only [ho]
    have tail : ∀ (a2 : Act) (u : World), midQ P l.toArray Q (l.drop (j + 1)) .normal a2 u → wpAny P .any l.toArray Q (l.toArray.size - (j + 1)) (listed.setIfInBounds j true) a2 u := fun a2 u hK => by
      have := any_lates (P := P) (md := .any) (Q := Q) (L := fun a3 => Q .normal a3 u) (k := 0) (u := u) hsel hQ [] (l.drop (j + 1)) (j + 1) (listed.setIfInBounds j true) a2 (fun i hi => by simp [List.getElem?_drop])
        (fun o _ p hp => absurd hp (by simp)) (by rw [hdl]; exact hlate) hK (fun a3 h3 => ⟨by rw [hdl]; simpa using hend, h3⟩)
      rw [hdl, Nat.add_zero] at this
      exact this
    unfold wpList at hw
    split at hw
    · rename_i hwt
      rw [if_pos hwt]
      rcases hw with hw | ⟨hw, hlo⟩
      · exact .inl (wp_mid (Oper.wp_mono (fun a2 u hK => tail a2 u hK) hw))
      · exact .inr ⟨hw, letsOut_mid hlo⟩
    · rename_i hwt
      rw [if_neg hwt]
      exact tail _ _ hw) _ _ _ H w.drew (Below.refl _ _).drew
  rw [htl, show n + (l.toArray.size - (n + 1) + 1) = l.toArray.size by have : n < l.toArray.size := hn; omega] at K
  exact wp_region_any hm K
end
end Go.Proofs.Ytkephcmjigfepaa
