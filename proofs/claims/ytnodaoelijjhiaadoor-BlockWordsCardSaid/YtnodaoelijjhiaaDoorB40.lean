/- Contracts of layer 4 (block). -/
import Derived.Test.YtnodaoelijjhiaaDoorK04
import Derived.Test.YtnodaoelijjhiaaDoorK05
import Derived.Test.YtnodaoelijjhiaaDoorVRS
import Derived.Test.YtnodaoelijjhiaaDoorR50
set_option linter.unusedVariables false
set_option linter.unusedSimpArgs false
namespace Go.Proofs.YtnodaoelijjhiaaDoor
open Go.ChangeShapes Go.WideShapes Go.ChangeAt Go.RowKit
set_option maxHeartbeats 1000000 in
theorem b4_name (b : Int) (hb : i64 b) (w : World) (hV : Vars w) : Calls Tryd.prog 22 #[.int .i64 b] w fun e w' => e = .returned (.string (nameF b)) ∧ Below w.heap.size w w' := by
  by_cases h : 0 ≤ b ∧ b < 16
  · obtain ⟨k, rfl⟩ : ∃ k : Nat, b = k := ⟨b.toNat, by omega⟩
    obtain ⟨T, r⟩ := hV.names
    have h1 : w.cell? ⟨0, k, none⟩ = some (.string (nameF k)) := by rw [r.cell]; exact namesRow_at k (by omega)
    have h2 := h.2
    have h3 := h.1
    clear r hV h hb
    generalize nameF k = X at *
    go_enter Tryd.func22, Tryd.ntmps22
    go_wp2
    all_goals
      go_ret
      exact ⟨rfl, by (repeat (first | with_reducible assumption | with_reducible exact Below.refl _ _ | with_reducible refine Below.drew ?_ | with_reducible refine below_drewN ?_ _ | with_reducible refine al ?_ _ | (with_reducible refine sc ?_ ?_; (focus (first | omega | (simp; done) | (simp; omega)))) | (with_reducible refine chain ?_ (by assumption))))⟩
  · rw [name_none (by unfold mayB; simp; omega)]
    by_cases h1 : b < 0
    · go_enter Tryd.func22, Tryd.ntmps22
      go_wp2
      go_ret
      exact ⟨rfl, by (repeat (first | with_reducible assumption | with_reducible exact Below.refl _ _ | with_reducible refine Below.drew ?_ | with_reducible refine below_drewN ?_ _ | with_reducible refine al ?_ _ | (with_reducible refine sc ?_ ?_; (focus (first | omega | (simp; done) | (simp; omega)))) | (with_reducible refine chain ?_ (by assumption))))⟩
    · have h2 : ¬ b < 16 := by omega
      have h3 : 16 ≤ b := by omega
      go_enter Tryd.func22, Tryd.ntmps22
      go_wp2
      go_ret
      exact ⟨rfl, by (repeat (first | with_reducible assumption | with_reducible exact Below.refl _ _ | with_reducible refine Below.drew ?_ | with_reducible refine below_drewN ?_ _ | with_reducible refine al ?_ _ | (with_reducible refine sc ?_ ?_; (focus (first | omega | (simp; done) | (simp; omega)))) | (with_reducible refine chain ?_ (by assumption))))⟩
theorem b4_may (b : Int) (hb : i64 b) (w : World) (hV : Vars w) : Calls Tryd.prog 7 #[.int .i64 b] w fun e w' => e = .returned (.bool (mayB b)) ∧ Below w.heap.size w w' := by
  have h := fun u hu => b4_name b hb u hu
  have e0 : (!(nameF b).toList.isEmpty) = mayB b := by
    cases hm : mayB b
    · rw [name_none hm]; kernel_rfl
    · rcases may_cases hm with rfl | rfl | rfl | rfl | rfl | rfl | rfl | rfl | rfl | rfl | rfl | rfl | rfl | rfl
      all_goals kernel_rfl
  generalize nameF b = X at *
  generalize mayB b = m at *
  have H := Lib.hid h
  have E0 := Lib.hid e0
  clear h e0
  go_enter Tryd.func7, Tryd.ntmps7
  go_wp2_with fail
  (refine (H.out _ hV).mono ?_; rintro e w1 ⟨rfl, hb1⟩)
  go_wp2
  go_ret
  exact ⟨ret_bool E0.out, by (repeat (first | with_reducible assumption | with_reducible exact Below.refl _ _ | with_reducible refine Below.drew ?_ | with_reducible refine below_drewN ?_ _ | with_reducible refine al ?_ _ | (with_reducible refine sc ?_ ?_; (focus (first | omega | (simp; done) | (simp; omega)))) | (with_reducible refine chain ?_ (by assumption))))⟩
theorem b4_wet (b : Int) (hb : i64 b) (w : World) : Calls Tryd.prog 11 #[.int .i64 b] w fun e w' => e = .returned (.bool (wetB b)) ∧ Below w.heap.size w w' := by
  unfold wetB
  go_enter Tryd.func11, Tryd.ntmps11
  go_wp2
  all_goals
    go_ret
    exact ⟨ret_bool (by first | (simp [*]; done) | (rw [Bool.eq_iff_iff]; simp [*]; omega)), by (repeat (first | with_reducible assumption | with_reducible exact Below.refl _ _ | with_reducible refine Below.drew ?_ | with_reducible refine below_drewN ?_ _ | with_reducible refine al ?_ _ | (with_reducible refine sc ?_ ?_; (focus (first | omega | (simp; done) | (simp; omega)))) | (with_reducible refine chain ?_ (by assumption))))⟩
theorem b4_solid (b : Int) (hb : i64 b) (w : World) : Calls Tryd.prog 9 #[.int .i64 b] w fun e w' => e = .returned (.bool (solidB b)) ∧ Below w.heap.size w w' := by
  unfold solidB
  go_enter Tryd.func9, Tryd.ntmps9
  go_wp2
  all_goals
    go_ret
    exact ⟨ret_bool (by first | (simp [*]; done) | (rw [Bool.eq_iff_iff]; simp [*]; omega)), by (repeat (first | with_reducible assumption | with_reducible exact Below.refl _ _ | with_reducible refine Below.drew ?_ | with_reducible refine below_drewN ?_ _ | with_reducible refine al ?_ _ | (with_reducible refine sc ?_ ?_; (focus (first | omega | (simp; done) | (simp; omega)))) | (with_reducible refine chain ?_ (by assumption))))⟩
theorem b4_yields (b : Int) (hb : i64 b) (w : World) : Calls Tryd.prog 13 #[.int .i64 b] w fun e w' => e = .returned (.bool (yieldsB b)) ∧ Below w.heap.size w w' := by
  unfold yieldsB
  have h := fun k => b4_wet b hb k
  obtain ⟨z, hz⟩ : ∃ z, (b == 0) = z := ⟨_, rfl⟩
  rw [hz]
  generalize wetB b = y at *
  have H := Lib.hid h
  clear h
  cases z
  all_goals
    go_enter Tryd.func13, Tryd.ntmps13
    go_wp2_with (go_at_call 11; refine (H.out _).mono ?_; rintro e w' ⟨rfl, hb1⟩)
    go_ret
    exact ⟨rfl, by (repeat (first | with_reducible assumption | with_reducible exact Below.refl _ _ | with_reducible refine Below.drew ?_ | with_reducible refine below_drewN ?_ _ | with_reducible refine al ?_ _ | (with_reducible refine sc ?_ ?_; (focus (first | omega | (simp; done) | (simp; omega)))) | (with_reducible refine chain ?_ (by assumption))))⟩
theorem b4_falls (b : Int) (hb : i64 b) (w : World) : Calls Tryd.prog 15 #[.int .i64 b] w fun e w' => e = .returned (.bool (b == 3)) ∧ Below w.heap.size w w' := by
  go_enter Tryd.func15, Tryd.ntmps15
  go_wp2
  go_ret
  exact ⟨rfl, by (repeat (first | with_reducible assumption | with_reducible exact Below.refl _ _ | with_reducible refine Below.drew ?_ | with_reducible refine below_drewN ?_ _ | with_reducible refine al ?_ _ | (with_reducible refine sc ?_ ?_; (focus (first | omega | (simp; done) | (simp; omega)))) | (with_reducible refine chain ?_ (by assumption))))⟩
theorem b4_climbs (b : Int) (hb : i64 b) (w : World) : Calls Tryd.prog 16 #[.int .i64 b] w fun e w' => e = .returned (.bool (b == 4)) ∧ Below w.heap.size w w' := by
  go_enter Tryd.func16, Tryd.ntmps16
  go_wp2
  go_ret
  exact ⟨rfl, by (repeat (first | with_reducible assumption | with_reducible exact Below.refl _ _ | with_reducible refine Below.drew ?_ | with_reducible refine below_drewN ?_ _ | with_reducible refine al ?_ _ | (with_reducible refine sc ?_ ?_; (focus (first | omega | (simp; done) | (simp; omega)))) | (with_reducible refine chain ?_ (by assumption))))⟩
theorem b4_level (b : Int) (hb : i64 b) (w : World) : Calls Tryd.prog 17 #[.int .i64 b] w fun e w' => e = .returned (.int .i64 (levelF b)) ∧ Below w.heap.size w w' := by
  unfold levelF
  have h := fun k => b4_wet b hb k
  have hw : wetB b = true → 8 ≤ b ∧ b ≤ 15 := fun h => by unfold wetB at h; simpa using h
  generalize wetB b = y at *
  cases y
  · have H := Lib.hid h
    clear h hw
    go_enter Tryd.func17, Tryd.ntmps17
    go_wp2_with (go_at_call 11; refine (H.out _).mono ?_; rintro e w' ⟨rfl, hb1⟩)
    go_ret
    exact ⟨rfl, by (repeat (first | with_reducible assumption | with_reducible exact Below.refl _ _ | with_reducible refine Below.drew ?_ | with_reducible refine below_drewN ?_ _ | with_reducible refine al ?_ _ | (with_reducible refine sc ?_ ?_; (focus (first | omega | (simp; done) | (simp; omega)))) | (with_reducible refine chain ?_ (by assumption))))⟩
  · have hw := hw rfl
    have H := Lib.hid h
    clear h
    go_enter Tryd.func17, Tryd.ntmps17
    go_wp2_with (go_at_call 11; refine (H.out _).mono ?_; rintro e w' ⟨rfl, hb1⟩)
    go_ret
    exact ⟨rfl, by (repeat (first | with_reducible assumption | with_reducible exact Below.refl _ _ | with_reducible refine Below.drew ?_ | with_reducible refine below_drewN ?_ _ | with_reducible refine al ?_ _ | (with_reducible refine sc ?_ ?_; (focus (first | omega | (simp; done) | (simp; omega)))) | (with_reducible refine chain ?_ (by assumption))))⟩
theorem b4_water (n : Int) (hb : i64 n) (w : World) : Calls Tryd.prog 24 #[.int .i64 n] w fun e w' => e = .returned (.int .i64 (waterF n)) ∧ Below w.heap.size w w' := by
  unfold waterF
  go_enter Tryd.func24, Tryd.ntmps24
  go_wp2
  all_goals
    go_ret
    exact ⟨ret_int (by omega), by (repeat (first | with_reducible assumption | with_reducible exact Below.refl _ _ | with_reducible refine Below.drew ?_ | with_reducible refine below_drewN ?_ _ | with_reducible refine al ?_ _ | (with_reducible refine sc ?_ ?_; (focus (first | omega | (simp; done) | (simp; omega)))) | (with_reducible refine chain ?_ (by assumption))))⟩
theorem index_names (k : Nat) (h : k < 16) (u : World) : (Instr.index 32 (.agg namesRow) (.int .i64 k)).run Tryd.prog u = .ok (.string (nameF k)) u := by
  rcases (show k = 0 ∨ k = 1 ∨ k = 2 ∨ k = 3 ∨ k = 4 ∨ k = 5 ∨ k = 6 ∨ k = 7 ∨ k = 8 ∨ k = 9 ∨ k = 10 ∨ k = 11 ∨ k = 12 ∨ k = 13 ∨ k = 14 ∨ k = 15 by omega) with rfl | rfl | rfl | rfl | rfl | rfl | rfl | rfl | rfl | rfl | rfl | rfl | rfl | rfl | rfl | rfl
  all_goals kernel_rfl
set_option maxHeartbeats 4000000 in
theorem b4_parse (s : ByteArray) (w : World) (hV : Vars w) : Calls Tryd.prog 20 #[.string s] w fun e w' => e = .returned (parseV s) ∧ Below w.heap.size w w' := by
  obtain ⟨T, r⟩ := hV.names
  go_enter Tryd.func20, Tryd.ntmps20
  go_upto_region 1 with (fail)
  refine plain_below 1 ?_
  simp only [List.take_succ_cons, List.take_zero, List.drop_succ_cons, List.drop_zero]
  repeat (first | (refine' InText.skip (by rfl) ?_; simp only [Act.put, List.setIfInBounds_toArray, List.set_cons_zero, List.set_cons_succ]) | (refine' InText.val (by rfl) (fun wr hr => exec_load_row 32 (.global 0) rfl rfl (r.keep hr) Tryd.underlying32 rfl (by kernel_rfl)) ?_; simp only [Act.put, List.setIfInBounds_toArray, List.set_cons_zero, List.set_cons_succ]) | (refine' InText.val (by rfl) (fun wr hr => ?_) ?_; rotate_left 1; (focus (obtain ⟨hrc, hrf⟩ := bcell hr; (go_simp <;> with_reducible rfl); done)); simp only [Act.put, List.setIfInBounds_toArray, List.set_cons_zero, List.set_cons_succ]))
  refine fun wr hr => ?_
  obtain ⟨hrc, hrf⟩ := bcell hr
  have k0 : Below w.heap.size w wr := hr
  clear hr hrc hrf r
  go_wp2_with fail
  go_loopw [7] (fun i wr => ∃ k : Nat, k ≤ 16 ∧ i = .int .i64 k ∧ (∀ j, j < k → isB s j = false) ∧ Below w.heap.size w wr) (fun i _ => 16 - (intOf i).toNat)
  case atStart => exact ⟨0, by omega, rfl, fun j hj => absurd hj (by omega), k0⟩
  case round =>
    clear k0
    obtain ⟨k, hk, rfl, hno, kw⟩ := hrel
    by_cases hlt : k < 16
    · have hm := fun u hu => b4_may k (by constructor <;> omega) u hu
      have hat := fun u => index_names k hlt u
      obtain ⟨m, hm0⟩ : ∃ m, mayB k = m := ⟨_, rfl⟩
      obtain ⟨X, hX⟩ : ∃ X, nameF k = X := ⟨_, rfl⟩
      obtain ⟨q, hq0⟩ : ∃ q, (X.toList == s.toList) = q := ⟨_, rfl⟩
      have hB : isB s k = (m && q) := by unfold isB; rw [hm0, hX, hq0]
      rw [hm0] at hm
      rw [hX] at hat
      have HM := Lib.hid hm
      have HB := Lib.hid hB
      have HQ := Lib.hid hno
      have HV := hV.keep kw
      clear hm hB hm0 hno hX hV
      cases q
      · go_wp2_with fail
        go_roundw
        case rel =>
          exact ⟨k + 1, by omega, by go_num, fun j hj => by
            by_cases h : j = k
            · subst h; simpa using HB.out
            · exact HQ.out j (by omega), by (repeat (first | with_reducible assumption | with_reducible exact Below.refl _ _ | with_reducible refine Below.drew ?_ | with_reducible refine below_drewN ?_ _ | with_reducible refine al ?_ _ | (with_reducible refine sc ?_ ?_; (focus (first | omega | (simp; done) | (simp; omega)))) | (with_reducible refine chain ?_ (by assumption))))⟩
        case measure => simp [intOf]; omega
      · go_wp2_with fail
        (refine (HM.out _ HV).mono ?_; rintro e w1 ⟨rfl, hb1⟩)
        have k1 : Below w.heap.size w w1 := chain kw hb1
        cases m
        · go_wp2_with fail
          go_roundw
          case rel =>
            exact ⟨k + 1, by omega, by go_num, fun j hj => by
              by_cases h : j = k
              · subst h; simpa using HB.out
              · exact HQ.out j (by omega), by (repeat (first | with_reducible assumption | with_reducible exact Below.refl _ _ | with_reducible refine Below.drew ?_ | with_reducible refine below_drewN ?_ _ | with_reducible refine al ?_ _ | (with_reducible refine sc ?_ ?_; (focus (first | omega | (simp; done) | (simp; omega)))) | (with_reducible refine chain ?_ (by assumption))))⟩
          case measure => simp [intOf]; omega
        · go_wp2_with fail
          go_ret2
          exact ⟨by rw [parse_some (by simpa using HB.out) hlt HQ.out]; rfl, by (repeat (first | with_reducible assumption | with_reducible exact Below.refl _ _ | with_reducible refine Below.drew ?_ | with_reducible refine below_drewN ?_ _ | with_reducible refine al ?_ _ | (with_reducible refine sc ?_ ?_; (focus (first | omega | (simp; done) | (simp; omega)))) | (with_reducible refine chain ?_ (by assumption))))⟩
    · obtain rfl : k = 16 := by omega
      have e := parse_none hno
      have E := Lib.hid e
      clear e hno
      go_wp2_with fail
      go_ret2
      exact ⟨by rw [E.out]; rfl, by (repeat (first | with_reducible assumption | with_reducible exact Below.refl _ _ | with_reducible refine Below.drew ?_ | with_reducible refine below_drewN ?_ _ | with_reducible refine al ?_ _ | (with_reducible refine sc ?_ ?_; (focus (first | omega | (simp; done) | (simp; omega)))) | (with_reducible refine chain ?_ (by assumption))))⟩
def allK : Nat → List Int
  | 0 => []
  | k + 1 => if mayB k then allK k ++ [(k : Int)] else allK k
theorem allK_length : ∀ k, (allK k).length ≤ k
  | 0 => by simp [allK]
  | k + 1 => by
    have := allK_length k
    unfold allK
    split
    · simp; omega
    · omega
theorem allK_all : allK 16 = allL := by decide
set_option maxHeartbeats 4000000 in
theorem b4_all (w : World) (hV : Vars w) : Calls Tryd.prog 25 #[] w fun e w' => ∃ v, e = .returned v ∧ IntsAt w' v allL ∧ Below w.heap.size w w' := by
  obtain ⟨i0, hi, hz, hsz, hby⟩ := int_info
  go_enter Tryd.func25, Tryd.ntmps25
  go_wp2_with fail
  go_loopw [1, 3] (fun o i wr => ∃ k : Nat, k ≤ 16 ∧ i = .int .i64 k ∧ wr.ownsRow w.heap.size 3 1 o (allK k).length (intVs (allK k)) ∧ Below w.heap.size w wr) (fun _ i _ => 16 - (intOf i).toNat)
  case atStart => exact ⟨0, by omega, rfl, World.ownsRow_nil _ _ _ _, by (repeat (first | with_reducible assumption | with_reducible exact Below.refl _ _ | with_reducible refine Below.drew ?_ | with_reducible refine below_drewN ?_ _ | with_reducible refine al ?_ _ | (with_reducible refine sc ?_ ?_; (focus (first | omega | (simp; done) | (simp; omega)))) | (with_reducible refine chain ?_ (by assumption))))⟩
  case round =>
    obtain ⟨k, hk, rfl, ho, kw⟩ := hrel
    by_cases hlt : k < 16
    · have hm := fun u hu => b4_may k (by constructor <;> omega) u hu
      have hs : allK (k + 1) = if mayB k then allK k ++ [(k : Int)] else allK k := rfl
      have hle := allK_length k
      obtain ⟨m, hm0⟩ : ∃ m, mayB k = m := ⟨_, rfl⟩
      obtain ⟨C, hC⟩ : ∃ C, allK k = C := ⟨_, rfl⟩
      rw [hC] at ho hs hle
      rw [hm0] at hm hs
      have HM := Lib.hid hm
      have HS := Lib.hid hs
      have HV := hV.keep kw
      clear hm hs hm0 hC hV
      have bk : (k : Int) < 16 := by omega
      go_wp2_with fail
      (refine (HM.out _ HV).mono ?_; rintro e w1 ⟨rfl, hb1⟩)
      have k1 : Below w.heap.size w w1 := chain kw hb1
      have ho1 := own_keep ho hb1
      clear ho kw HV
      cases m
      · go_wp2_with fail
        go_roundw
        case rel => exact ⟨k + 1, by omega, by go_num, by rw [HS.out]; exact ho1, k1⟩
        case measure => simp [intOf]; omega
      · go_wp2_with (at_builtin; refine app_int _ rfl _ _ 29 rfl w.heap.size 3 i0 _ Tryd.underlying29 hi hz hsz hby rfl _ _ _ rfl (ho1.alloc _) w1.heap.size (.int .i64 k) rfl (by go_simp) rfl (by omega) (by have := k1.size; simp; omega) ?_; intro v1 w2 ho2 hg1)
        go_roundw
        case rel => exact ⟨k + 1, by omega, by go_num, by rw [HS.out]; simpa [intVs] using ho2, Below.own (al k1 _) (ho1.alloc _) hg1⟩
        case measure => simp [intOf]; omega
    · obtain rfl : k = 16 := by omega
      rw [allK_all] at ho
      go_wp2_with fail
      go_ret
      exact ⟨_, rfl, ints_of_owned ho, by (repeat (first | with_reducible assumption | with_reducible exact Below.refl _ _ | with_reducible refine Below.drew ?_ | with_reducible refine below_drewN ?_ _ | with_reducible refine al ?_ _ | (with_reducible refine sc ?_ ?_; (focus (first | omega | (simp; done) | (simp; omega)))) | (with_reducible refine chain ?_ (by assumption))))⟩
end Go.Proofs.YtnodaoelijjhiaaDoor
