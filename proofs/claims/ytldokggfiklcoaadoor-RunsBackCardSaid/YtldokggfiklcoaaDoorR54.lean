/- Contracts of layer 5's reference (runs): At, Set, Fill. -/
import Derived.Test.YtldokggfiklcoaaDoorR51
set_option linter.unusedVariables false
set_option linter.unusedSimpArgs false
namespace Go.Proofs.YtldokggfiklcoaaDoor
open Go.ChangeShapes Go.WideShapes Go.ChangeAt Go.RowKit
def atF (C : List Int) (i : Int) : Int := if 0 ≤ i ∧ i < C.length then C[i.toNat]! else -1
def setF (C : List Int) (i b : Int) : List Int := if mayB b = true ∧ 0 ≤ i ∧ i < C.length then C.set i.toNat b else C
/-- The first k cells filled. -/
def fillF (C : List Int) (f t b : Int) (k : Nat) : List Int := C.mapIdx fun j c => if mayB b = true ∧ f ≤ j ∧ (j : Int) < t ∧ j < k then b else c
theorem fillF_length (C : List Int) (f t b : Int) (k : Nat) : (fillF C f t b k).length = C.length := by simp [fillF]
theorem fillF_zero (C : List Int) (f t b : Int) : fillF C f t b 0 = C := by
  apply List.ext_getElem (by simp [fillF])
  intro j h1 h2
  simp [fillF]
theorem fillF_skip (C : List Int) (f t b : Int) (k : Nat) (h : ¬ (mayB b = true ∧ f ≤ k ∧ (k : Int) < t)) : fillF C f t b (k + 1) = fillF C f t b k := by
  apply List.ext_getElem (by simp [fillF])
  intro j h1 h2
  simp only [fillF, List.getElem_mapIdx]
  by_cases hj : j = k
  · subst hj
    rw [if_neg (fun h' => h ⟨h'.1, h'.2.1, h'.2.2.1⟩), if_neg (fun h' => h ⟨h'.1, h'.2.1, h'.2.2.1⟩)]
  · congr 1
    apply propext
    constructor
    · intro h'; exact ⟨h'.1, h'.2.1, h'.2.2.1, by omega⟩
    · intro h'; exact ⟨h'.1, h'.2.1, h'.2.2.1, by omega⟩
theorem fillF_put (C : List Int) (f t b : Int) (k : Nat) (h : mayB b = true ∧ f ≤ k ∧ (k : Int) < t) : fillF C f t b (k + 1) = (fillF C f t b k).set k b := by
  apply List.ext_getElem (by simp [fillF])
  intro j h1 h2
  rw [List.getElem_set]
  simp only [fillF, List.getElem_mapIdx]
  by_cases hj : k = j
  · subst hj
    rw [if_pos ⟨h.1, h.2.1, h.2.2, by omega⟩, if_pos rfl]
  · rw [if_neg hj]
    congr 1
    apply propext
    constructor
    · intro h'; exact ⟨h'.1, h'.2.1, h'.2.2.1, by omega⟩
    · intro h'; exact ⟨h'.1, h'.2.1, h'.2.2.1, by omega⟩
set_option maxHeartbeats 2000000 in
theorem r5_at (v : Value) (l : List Run) (i : Int) (w : World) (hl : RunsAt w v l) (hT : (cellsF l).length ≤ 100000) (hL : l.length ≤ 100000) : Calls Tryd.prog 28 #[v, .int .i64 i] w fun e w' =>
    e = .returned (.int .i64 (atF (cellsF l) i)) ∧ Below w.heap.size w w' := by
  obtain ⟨R, hR⟩ : ∃ R, atF (cellsF l) i = R := ⟨_, rfl⟩
  rw [hR]
  have cs := fun u => r5_cells v l u
  generalize cellsF l = C at *
  have CS := Lib.hid cs
  have HR := Lib.hid hR
  clear cs hR
  go_enter Tryd.func28, Tryd.ntmps28
  go_wp2_with fail
  refine (CS.out w hl hT hL).mono ?_
  rintro e w1 ⟨v1, rfl, ho, k1⟩
  obtain ⟨N, hN⟩ : ∃ N, C.length = N := ⟨_, rfl⟩
  have HN := Lib.hid hN
  rw [hN] at ho hT
  clear hN
  by_cases hi : 0 ≤ i ∧ i < N
  · obtain ⟨h0, h1⟩ := hi
    obtain ⟨j, rfl⟩ : ∃ j : Nat, i = j := ⟨i.toNat, by omega⟩
    have hR := HR.out
    unfold atF at hR
    rw [if_pos ⟨h0, by rw [HN.out]; exact h1⟩] at hR
    have hj : j < C.length := by rw [HN.out]; omega
    have hR2 : C[j] = R := by rw [← hR]; simp [hj]
    rcases ho.2 with ⟨_, hz0⟩ | ⟨g, cap, cur, rfl, hb, hgg, _⟩
    · omega
    have d1 : w1.cell? ⟨g, j, none⟩ = some (.int .i64 R) := own_cell ho j (by rw [← hR2]; simp [intVs, hj])
    have hjN : (j : Int) < N := h1
    have HR2 := Lib.hid hR2
    clear hR hR2 hgg
    go_wp2_with fail
    go_ret
    exact ⟨rfl, by (repeat (first | with_reducible assumption | with_reducible exact Below.refl _ _ | with_reducible refine Below.drew ?_ | with_reducible refine below_drewN ?_ _ | with_reducible refine al ?_ _ | (with_reducible refine sc ?_ ?_; (focus (first | omega | (simp; done) | (simp; omega)))) | (with_reducible refine chain ?_ (by assumption))))⟩
  · have hR := HR.out
    unfold atF at hR
    rw [if_neg (by rw [HN.out]; exact hi)] at hR
    obtain ⟨p, c, rfl⟩ := own_form ho
    subst hR
    clear HR
    have gen : i < 0 ∨ (0 ≤ i ∧ (N : Int) ≤ i) := by omega
    rcases gen with g1 | ⟨g1, g2⟩
    all_goals
      go_wp2_with fail
      go_ret
      exact ⟨rfl, by (repeat (first | with_reducible assumption | with_reducible exact Below.refl _ _ | with_reducible refine Below.drew ?_ | with_reducible refine below_drewN ?_ _ | with_reducible refine al ?_ _ | (with_reducible refine sc ?_ ?_; (focus (first | omega | (simp; done) | (simp; omega)))) | (with_reducible refine chain ?_ (by assumption))))⟩
set_option maxHeartbeats 4000000 in
theorem r5_set (v : Value) (l : List Run) (i b : Int) (w : World) (hl : RunsAt w v l) (hT : (cellsF l).length ≤ 100000) (hL : l.length ≤ 100000) : Calls Tryd.prog 26 #[v, .int .i64 i, .int .i64 b] w fun e w' =>
    ∃ v', e = .returned v' ∧ w'.ownsRow w.heap.size 24 2 v' (ofF (setF (cellsF l) i b)).length (runVs (ofF (setF (cellsF l) i b))) ∧ Below w.heap.size w w' := by
  obtain ⟨R, hR⟩ : ∃ R, setF (cellsF l) i b = R := ⟨_, rfl⟩
  rw [hR]
  have cs := fun u => r5_cells v l u
  generalize cellsF l = C at *
  have my := fun u => r4_may b u
  obtain ⟨m, hm⟩ : ∃ m, mayB b = m := ⟨_, rfl⟩
  rw [hm] at my
  have CS := Lib.hid cs
  have MY := Lib.hid my
  unfold setF at hR
  rw [hm] at hR
  have HR := Lib.hid hR
  clear cs hR my hm
  go_enter Tryd.func26, Tryd.ntmps26
  go_wp2_with fail
  refine (CS.out w hl hT hL).mono ?_
  rintro e w1 ⟨v1, rfl, ho, k1⟩
  obtain ⟨N, hN⟩ : ∃ N, C.length = N := ⟨_, rfl⟩
  have HN := Lib.hid hN
  rw [hN] at ho hT
  have hR := HR.out
  rw [hN] at hR
  clear hN HR
  by_cases hi : m = true ∧ 0 ≤ i ∧ i < N
  · rw [if_pos hi] at hR
    obtain ⟨rfl, h0, h1⟩ := hi
    obtain ⟨j, rfl⟩ : ∃ j : Nat, i = j := ⟨i.toNat, by omega⟩
    have hR2 : intVs R = (intVs C).set j (.int .i64 b) := by rw [← hR]; simp [intVs]
    have hlen : R.length = N := by rw [← hR]; simp [HN.out]
    rcases ho.2 with ⟨_, hz0⟩ | ⟨g, cap, cur, rfl, hb, hgg, _⟩
    · omega
    have d1 := own_cell ho j (u := .int .i64 (C[j]'(by rw [HN.out]; omega))) (by simp [intVs, HN.out, show j < N by omega])
    have fz : ∀ o, w1.frozen? ⟨g, o, none⟩ = false := fun o => by simp [World.frozen?, hgg]
    have hos := own_set ho j (by omega) (.int .i64 b)
    rw [← hR2] at hos
    have k2 : Below w.heap.size w (w1.setCell ⟨g, j, none⟩ (.int .i64 b)) := Below.own_set k1 ho j _
    generalize C[j]'(by rw [HN.out]; omega) = old at *
    have HLE := Lib.hid hlen
    clear hR hR2 hgg hlen
    go_wp2_with (go_at_call 34; refine (MY.out _).mono ?_; rintro e w' ⟨rfl, rfl⟩)
    refine (r5_of _ R _ (ints_of_owned (by rw [HLE.out]; exact hos)) (by rw [HLE.out]; omega)).mono ?_
    rintro e w2 ⟨v2, rfl, ho2, hb2⟩
    have k3 : Below w.heap.size w w2 := k2.trans (hb2.mono k2.size)
    have ho3 := own_base ho2 k2.size
    clear ho2 hb2
    go_wp2_with fail
    go_ret
    exact ⟨_, rfl, ho3, k3⟩
  · rw [if_neg hi] at hR
    subst hR
    obtain ⟨p, c, rfl⟩ := own_form ho
    have gen : m = false ∨ (m = true ∧ i < 0) ∨ (m = true ∧ 0 ≤ i ∧ (N : Int) ≤ i) := by
      cases m
      · exact .inl rfl
      · have h2 : ¬ (0 ≤ i ∧ i < N) := fun h => hi ⟨rfl, h⟩
        by_cases h0 : i < 0
        · exact .inr (.inl ⟨rfl, h0⟩)
        · exact .inr (.inr ⟨rfl, by omega, by omega⟩)
    rcases gen with rfl | ⟨rfl, g1⟩ | ⟨rfl, g1, g2⟩
    all_goals
      clear hi
      go_wp2_with (go_at_call 34; refine (MY.out _).mono ?_; rintro e w' ⟨rfl, rfl⟩)
      refine (r5_of _ C _ (ints_of_owned (by rw [HN.out]; exact ho)) (by rw [HN.out]; omega)).mono ?_
      rintro e w2 ⟨v2, rfl, ho2, hb2⟩
      have k3 : Below w.heap.size w w2 := chain k1 hb2
      have ho3 := own_base ho2 k1.size
      clear ho2 hb2
      go_wp2_with fail
      go_ret
      exact ⟨_, rfl, ho3, k3⟩
set_option maxHeartbeats 4000000 in
theorem r5_fill (v : Value) (l : List Run) (f t b : Int) (w : World) (hl : RunsAt w v l) (hT : (cellsF l).length ≤ 100000) (hL : l.length ≤ 100000) : Calls Tryd.prog 30 #[v, .int .i64 f, .int .i64 t, .int .i64 b] w fun e w' =>
    ∃ v', e = .returned v' ∧ w'.ownsRow w.heap.size 24 2 v' (ofF (fillF (cellsF l) f t b (cellsF l).length)).length (runVs (ofF (fillF (cellsF l) f t b (cellsF l).length))) ∧ Below w.heap.size w w' := by
  have cs := fun u => r5_cells v l u
  generalize cellsF l = C at *
  obtain ⟨N, hN⟩ : ∃ N, C.length = N := ⟨_, rfl⟩
  obtain ⟨R, hR⟩ : ∃ R, fillF C f t b C.length = R := ⟨_, rfl⟩
  rw [hR]
  rw [hN] at hR
  obtain ⟨F, hF⟩ : ∃ F : Nat → List Int, ∀ k, fillF C f t b k = F k := ⟨_, fun _ => rfl⟩
  rw [hF] at hR
  have hlen : ∀ k, (F k).length = N := fun k => by rw [← hF, fillF_length, hN]
  have hz0 : F 0 = C := by rw [← hF, fillF_zero]
  have hsk : ∀ k : Nat, ¬ (mayB b = true ∧ f ≤ k ∧ (k : Int) < t) → F (k + 1) = F k := fun k h => by rw [← hF, ← hF, fillF_skip C f t b k h]
  have hpt : ∀ k : Nat, (mayB b = true ∧ f ≤ k ∧ (k : Int) < t) → F (k + 1) = (F k).set k b := fun k h => by rw [← hF, ← hF, fillF_put C f t b k h]
  have my := fun u => r4_may b u
  obtain ⟨m, hm⟩ : ∃ m, mayB b = m := ⟨_, rfl⟩
  rw [hm] at my
  simp only [hm] at hsk hpt
  rw [hN] at hT
  have CS := Lib.hid cs
  have MY := Lib.hid my
  have HR := Lib.hid hR
  have HL := Lib.hid hlen
  have HZ := Lib.hid hz0
  have HSK := Lib.hid hsk
  have HPT := Lib.hid hpt
  have HN := Lib.hid hN
  clear cs my hR hlen hz0 hsk hpt hm hF hN
  go_enter Tryd.func30, Tryd.ntmps30
  go_wp2_with fail
  refine (CS.out w hl (by rw [HN.out]; exact hT) hL).mono ?_
  rintro e w1 ⟨v1, rfl, ho, k1⟩
  rw [HN.out] at ho
  obtain ⟨p, c, rfl⟩ := own_form ho
  go_wp2_with (go_at_call 34; refine (MY.out _).mono ?_; rintro e w' ⟨rfl, rfl⟩)
  go_loopw [11] (fun i wr => ∃ k : Nat, k ≤ N ∧ i = .int .i64 k ∧ wr.ownsRow w.heap.size 3 1 (.slice p N c) N (intVs (F k)) ∧ Below w.heap.size w wr) (fun i _ => N - (intOf i).toNat)
  case atStart => exact ⟨0, by omega, rfl, by rw [HZ.out]; exact ho, k1⟩
  case round =>
    clear ho k1
    obtain ⟨k, hk, rfl, ho, kw⟩ := hrel
    by_cases hlt : k < N
    · by_cases hin : m = true ∧ f ≤ k ∧ (k : Int) < t
      · have hs := HPT.out k hin
        obtain ⟨rfl, g1, g2⟩ := hin
        rcases ho.2 with ⟨_, hz0⟩ | ⟨g, cap, cur, hv, hb, hgg, hc, _⟩
        · omega
        simp only [Value.slice.injEq] at hv
        obtain ⟨rfl, _, rfl⟩ := hv
        have hj : k < (F k).length := by rw [HL.out]; exact hlt
        have d1 := own_cell ho k (u := .int .i64 ((F k)[k])) (by simp [intVs, hj])
        have fz : ∀ o, wr.frozen? ⟨g, o, none⟩ = false := fun o => by simp [World.frozen?, hgg]
        have hos := own_set ho k (by omega) (.int .i64 b)
        have e2 : (intVs (F k)).set k (.int .i64 b) = intVs (F (k + 1)) := by rw [hs]; simp [intVs]
        rw [e2] at hos
        have k2 : Below w.heap.size w (wr.setCell ⟨g, k, none⟩ (.int .i64 b)) := Below.own_set kw ho k _
        generalize (F k)[k] = old at *
        have kN : (k : Int) < N := by omega
        clear hs e2 hgg
        go_wp2_with fail
        go_roundw
        case rel => exact ⟨k + 1, by omega, by go_num, hos, k2⟩
        case measure => simp [intOf]; omega
      · have hs := HSK.out k hin
        have gen : m = false ∨ (m = true ∧ (k : Int) < f) ∨ (m = true ∧ f ≤ k ∧ t ≤ k) := by
          cases m
          · exact .inl rfl
          · have h2 : ¬ (f ≤ k ∧ (k : Int) < t) := fun h => hin ⟨rfl, h⟩
            by_cases h0 : (k : Int) < f
            · exact .inr (.inl ⟨rfl, h0⟩)
            · exact .inr (.inr ⟨rfl, by omega, by omega⟩)
        rw [← hs] at ho
        clear hs hin
        rcases gen with rfl | ⟨rfl, g1⟩ | ⟨rfl, g1, g2⟩
        all_goals
          go_wp2_with fail
          go_roundw
          case rel => exact ⟨k + 1, by omega, by go_num, ho, kw⟩
          case measure => simp [intOf]; omega
    · obtain rfl : k = N := by omega
      rw [HR.out] at ho
      have hlen : R.length = k := by rw [← HR.out]; exact HL.out k
      have HLE := Lib.hid hlen
      clear hlen
      go_wp2_with fail
      refine (r5_of _ R _ (ints_of_owned (by rw [HLE.out]; exact ho)) (by rw [HLE.out]; omega)).mono ?_
      rintro e w2 ⟨v2, rfl, ho2, hb2⟩
      have k3 : Below w.heap.size w w2 := kw.trans (hb2.mono kw.size)
      have ho3 := own_base ho2 kw.size
      clear ho2 hb2
      go_wp2_with fail
      go_ret
      exact ⟨_, rfl, ho3, k3⟩
end Go.Proofs.YtldokggfiklcoaaDoor
