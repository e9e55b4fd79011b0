/- The maths of DiskSafe. No program. -/
import Derived.Test.YtkephcmjigfepaaP08
set_option linter.unusedVariables false
set_option linter.unusedSimpArgs false
namespace Go.Proofs.Ytkephcmjigfepaa
open Go.ChangeShapes Go.WideShapes Go.ChangeAt Go.RowKit
theorem does_room (d : St) (kind key num : Int) (B : List Int) : (doesSt d kind key num B).room = d.room := by
  unfold doesSt
  split
  · unfold putSt; split
    · rfl
    · split <;> rfl
  · split
    · unfold syncSt; split <;> rfl
    · split
      · rfl
      · split <;> rfl
theorem getF_ins_same {β : Type} {k : Int} {v : β} : ∀ {l : List (Int × β)}, Srt l → getF (insF l (k, v)) k = some v
  | [], _ => by simp [insF, getF]
  | x :: l, h => by
    obtain ⟨_, h2⟩ := List.pairwise_cons.1 h
    rw [insF]
    by_cases c : k ≤ x.1
    · rw [if_pos c]
      by_cases c2 : x.1 = k
      · rw [if_pos c2, getF, if_pos rfl]
      · rw [if_neg c2, getF, if_pos rfl]
    · rw [if_neg c, getF, if_neg (by omega)]
      exact getF_ins_same h2
theorem getF_ins_other {β : Type} {k k' : Int} {v : β} (hne : k ≠ k') : ∀ {l : List (Int × β)}, getF (insF l (k, v)) k' = getF l k'
  | [] => by simp [insF, getF, hne]
  | x :: l => by
    rw [insF]
    by_cases c : k ≤ x.1
    · rw [if_pos c]
      by_cases c2 : x.1 = k
      · rw [if_pos c2, getF, if_neg hne, getF, if_neg (by omega)]
      · rw [if_neg c2, getF, if_neg hne]
    · rw [if_neg c, getF, getF, getF_ins_other hne]
theorem get_lay_same {β : Type} {l : List (Int × β)} (h : Srt l) (k : Int) (v : β) : getF (layF l (k, v)) k = some v := by rw [layF_ins _ h]; exact getF_ins_same h
theorem get_lay_other {β : Type} {l : List (Int × β)} (h : Srt l) {k k' : Int} (v : β) (hne : k ≠ k') : getF (layF l (k, v)) k' = getF l k' := by rw [layF_ins _ h]; exact getF_ins_other hne
/-- The states of DiskSafe, and what they tell. -/
theorem safe_states {d : St} (ok : StOk d 30 600) (hr : d.room = 1000000) {B O : List Int} (hB : B.length ≤ 20) (hO : O.length ≤ 20) (K : Int) (hK : 0 ≤ K) :
    ∃ d1 d2 d3 d4, failSt d 0 = d1 ∧ (putSt d1 100 B) = (d2, 0) ∧ syncSt d2 = (d3, 0) ∧ sumB d3.under = 0 ∧ putSt d3 101 O = (d4, 0) ∧ sumB d4.under = O.length ∧ (crashSt d4 K).2 = (O.length : Int) - (min K.toNat O.length : Nat) ∧
      getSt (crashSt d4 K).1 100 = (B, true) ∧ getSt (crashSt d4 K).1 101 = (O.take (min K.toNat O.length), true) ∧ sumB (crashSt d4 K).1.under = 0 := by
  have hsum := ok.sum
  have hnow := nowF_sum d.under d.safe
  have e1 : failSt d 0 = { d with fails := 0, wait := 0 } := rfl
  refine ⟨_, { d with fails := 0, wait := 0, under := d.under ++ [(100, B)] }, { d with fails := 0, wait := 0, safe := nowF d.safe (d.under ++ [(100, B)]), under := [] }, { d with fails := 0, wait := 0, safe := nowF d.safe (d.under ++ [(100, B)]), under := [(101, O)] }, rfl, ?p1, ?p2, ?p3, ?p4, ?p5, ?p6, ?p7, ?p8, ?p9⟩
  case p1 =>
    rw [e1]
    have h2 := layF_sum d.all (100, B)
    have h3 : ¬ d.room < (sumB (layF d.all (100, B)) : Int) := by unfold St.all at *; simp only [] at h2; omega
    show putSt { d with fails := 0, wait := 0 } 100 B = ({ d with fails := 0, wait := 0, under := d.under ++ [(100, B)] }, 0)
    unfold putSt
    rw [if_neg (by show ¬ (askF 0 0).2 = true; decide)]
    refine (if_neg h3).trans ?_
    rfl
  case p2 =>
    show syncSt { d with fails := 0, wait := 0, under := d.under ++ [(100, B)] } = ({ d with fails := 0, wait := 0, safe := nowF d.safe (d.under ++ [(100, B)]), under := [] }, 0)
    unfold syncSt
    rw [if_neg (by show ¬ (askF 0 0).2 = true; decide)]
    rfl
  case p3 => rfl
  case p4 =>
    have e : nowF d.safe (d.under ++ [(100, B)]) = layF d.all (100, B) := nowF_snoc _ _ _
    have h2 := layF_sum d.all (100, B)
    have h4 := layF_sum (layF d.all (100, B)) (101, O)
    have h3 : ¬ d.room < (sumB (layF (layF d.all (100, B)) (101, O)) : Int) := by unfold St.all at *; simp only [] at h2 h4; omega
    show putSt { d with fails := 0, wait := 0, safe := nowF d.safe (d.under ++ [(100, B)]), under := [] } 101 O = ({ d with fails := 0, wait := 0, safe := nowF d.safe (d.under ++ [(100, B)]), under := [(101, O)] }, 0)
    unfold putSt
    rw [if_neg (by show ¬ (askF 0 0).2 = true; decide), if_neg (by show ¬ d.room < (sumB (layF (nowF d.safe (d.under ++ [(100, B)])) (101, O)) : Int); rw [e]; exact h3)]
    rfl
  case p5 => simp [sumB]
  case p6 => simp [crashSt, keptOf, sumB]
  all_goals
    have e : nowF d.safe (d.under ++ [(100, B)]) = layF d.all (100, B) := nowF_snoc _ _ _
    have sA : Srt d.all := ok.srt.now
    have e2 : (crashSt { d with fails := 0, wait := 0, safe := nowF d.safe (d.under ++ [(100, B)]), under := [(101, O)] } K).1.all = layF (layF d.all (100, B)) (101, O.take (min K.toNat O.length)) := by
      show crashGo List.length (fun B k => B.take k) (nowF d.safe (d.under ++ [(100, B)])) (min K.toNat (O.length + 0)) [(101, O)] = _
      rw [e, Nat.add_zero]
      have e3 : ∀ k, crashGo List.length (fun B k => B.take k) (layF d.all (100, B)) k [(101, O)] = if O.length ≤ k then layF (layF d.all (100, B)) (101, O) else layF (layF d.all (100, B)) (101, O.take k) := fun k => rfl
      rw [e3]
      split
      · rename_i c
        rw [show min K.toNat O.length = O.length by omega, List.take_length]
      · rfl
  case p7 =>
    unfold getSt
    rw [e2, get_lay_other (sA.lay _) _ (by decide), get_lay_same sA]
    rfl
  case p8 =>
    unfold getSt
    rw [e2, get_lay_same (sA.lay _)]
    rfl
  case p9 => rfl
end Go.Proofs.Ytkephcmjigfepaa
