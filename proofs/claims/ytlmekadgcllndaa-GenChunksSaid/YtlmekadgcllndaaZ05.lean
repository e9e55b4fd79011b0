/- Texts behind each other. -/
import Derived.Test.YtlmekadgcllndaaZ04
import Derived.Test.YtlmekadgcllndaaZ03
import Derived.Lib.MinMax
/- Contracts of layer 3 (cell): Box, Index, From. -/
set_option linter.unusedVariables false
set_option linter.unusedSimpArgs false
namespace Go.Proofs.Ytlmekadgcllndaa
open Go.ChangeShapes Go.WideShapes Go.ChangeAt Go.RowKit
theorem cellC_bd (n : Int) : -2147483648 ≤ cellC n ∧ cellC n ≤ 2147483648 := by unfold cellC; omega
theorem cellC_in {n : Int} (h0 : -2147483648 ≤ n) (h1 : n ≤ 2147483648) : cellC n = n := by unfold cellC; omega
/-- The far corner's number. -/
def topF (n : Int) : Int := cut (n * 65536 + 65536)
abbrev cbox (X Y Z : Int) : Value := boxV (X * 65536) (Y * 65536) (Z * 65536) (topF X) (topF Y) (topF Z)
theorem whole_in {n : Int} (h0 : -2147483648 ≤ n) (h1 : n ≤ 2147483648) : whole n * 65536 = n * 65536 := by unfold whole; omega
theorem whole_top {n : Int} (h0 : -2147483648 ≤ n) (h1 : n ≤ 2147483648) : whole (n + 1) * 65536 = topF n := by unfold whole topF cut; omega
theorem c3_from (x z i : Int) (hx : -134217728 ≤ x ∧ x ≤ 134217728) (hz : -134217728 ≤ z ∧ z ≤ 134217728) (h0 : 0 ≤ i) (h1 : i ≤ 8191) (w : World) : Calls Try.prog 28 #[posV x z, .int .i64 i] w fun e w' =>
    e = .returned (.tuple #[vecV (x * 16 + i % 16) (i / 256) (z * 16 + i % 256 / 16), .bool true]) ∧ Below w.heap.size w w' := by
  obtain ⟨hx0, hx1⟩ := hx
  obtain ⟨hz0, hz1⟩ := hz
  have ee : i % 256 / 16 = i / 16 % 16 := by omega
  rw [ee]
  clear ee
  go_enter Try.func28, Try.ntmps28
  go_wp2
  refine bodyPost_ret (v := .tuple #[vecV (x * 16 + i % 16) (i / 256) (z * 16 + i / 16 % 16), .bool true]) (by simp [results, Try.results28, go_sem, *]; done) rfl ⟨rfl, ?_⟩
  (repeat (first | with_reducible assumption | with_reducible exact Below.refl _ _ | with_reducible refine Below.drew ?_ | with_reducible refine below_drewN ?_ _ | with_reducible refine al ?_ _ | (with_reducible refine sc ?_ ?_; (focus (first | omega | (simp; done) | (simp; omega)))) | (with_reducible refine chain ?_ (by assumption))))
theorem c3_from_no (x z i : Int) (h : i < 0 ∨ 8191 < i) (w : World) : Calls Try.prog 28 #[posV x z, .int .i64 i] w fun e w' =>
    e = .returned (.tuple #[vecV 0 0 0, .bool false]) ∧ Below w.heap.size w w' := by
  rcases h with h | h
  all_goals
    go_enter Try.func28, Try.ntmps28
    go_wp2
    refine bodyPost_ret (v := .tuple #[vecV 0 0 0, .bool false]) (by simp [results, Try.results28, go_sem, *]; done) rfl ⟨rfl, ?_⟩
    (repeat (first | with_reducible assumption | with_reducible exact Below.refl _ _ | with_reducible refine Below.drew ?_ | with_reducible refine below_drewN ?_ _ | with_reducible refine al ?_ _ | (with_reducible refine sc ?_ ?_; (focus (first | omega | (simp; done) | (simp; omega)))) | (with_reducible refine chain ?_ (by assumption))))
end Go.Proofs.Ytlmekadgcllndaa
/- Contracts of layer 3's reference (cells): Box, Good. -/
set_option linter.unusedVariables false
set_option linter.unusedSimpArgs false
namespace Go.Proofs.Ytlmekadgcllndaa
open Go.ChangeShapes Go.WideShapes Go.ChangeAt Go.RowKit
theorem r3_good (x y z : Int) (hx : i64 x) (hy : i64 y) (hz : i64 z) (w : World) : Calls Try.prog 14 #[vecV x y z, .int .i64 40] w fun e w' =>
    e = .returned (vecV (aroundF x 81 - 40) (aroundF y 32) (aroundF z 81 - 40)) ∧ Below w.heap.size w w' := by
  have bx := around_bd x 81 (by omega)
  have bz := around_bd z 81 (by omega)
  have kx := fun k => r_around x 81 hx.1 hx.2 (by omega) (by omega) k
  have ky := fun k => r_around y 32 hy.1 hy.2 (by omega) (by omega) k
  have kz := fun k => r_around z 81 hz.1 hz.2 (by omega) (by omega) k
  generalize aroundF x 81 = X at *
  generalize aroundF y 32 = Y at *
  generalize aroundF z 81 = Z at *
  have KX := Lib.hid kx
  have KY := Lib.hid ky
  have KZ := Lib.hid kz
  clear kx ky kz
  have w80 : IntKind.i64.wrap 80 = 80 := rfl
  have w81 : IntKind.i64.wrap 81 = 81 := rfl
  have wx : IntKind.i64.wrap (X - 40) = X - 40 := IntWalk.i64_in _ (by omega)
  have wz : IntKind.i64.wrap (Z - 40) = Z - 40 := IntWalk.i64_in _ (by omega)
  go_enter Try.func14, Try.ntmps14
  go_wp2_with fail
  refine region_below 20 (by kernel_rfl) (by kernel_rfl) ?_
  simp only [List.take_succ_cons, List.take_zero, List.drop_succ_cons, List.drop_zero]
  repeat (first | (refine' InText.skip (by rfl) ?_; simp only [Act.put, List.setIfInBounds_toArray, List.set_cons_zero, List.set_cons_succ]) | (refine' InText.val (by rfl) (fun wr hr => ?_) ?_; rotate_left 1; (focus (obtain ⟨hrc, hrf⟩ := bcell hr; (go_simp <;> with_reducible rfl); done)); simp only [Act.put, List.setIfInBounds_toArray, List.set_cons_zero, List.set_cons_succ]) | (refine' InText.call (by rfl) (fun wr hr => ?_) (fun wr hr => ?_) ?_; rotate_left 3; (focus ((go_simp <;> (first | with_reducible rfl | exact ⟨rfl, rfl⟩)); done)); (focus (first | with_reducible exact pureB (KX.out _) | with_reducible exact pureB (KY.out _) | with_reducible exact pureB (KZ.out _))); simp only [Act.put, List.setIfInBounds_toArray, List.set_cons_zero, List.set_cons_succ]))
  refine fun wr hr => ?_
  obtain ⟨hrc, hrf⟩ := bcell hr
  go_wp2
  refine bodyPost_ret (v := vecV (X - 40) Y (Z - 40)) (by simp [results, Try.results14, go_sem, *]; done) rfl ⟨rfl, ?_⟩
  (repeat (first | with_reducible assumption | with_reducible exact Below.refl _ _ | with_reducible refine Below.drew ?_ | with_reducible refine below_drewN ?_ _ | with_reducible refine al ?_ _ | (with_reducible refine sc ?_ ?_; (focus (first | omega | (simp; done) | (simp; omega)))) | (with_reducible refine chain ?_ (by assumption))))
end Go.Proofs.Ytlmekadgcllndaa
/- Contract of layer 3's reference: Good, at most 200 cells from 0. -/
set_option linter.unusedVariables false
set_option linter.unusedSimpArgs false
namespace Go.Proofs.Ytlmekadgcllndaa
open Go.ChangeShapes Go.WideShapes Go.ChangeAt Go.RowKit
theorem r3_good200 (x y z : Int) (hx : i64 x) (hy : i64 y) (hz : i64 z) (w : World) : Calls Try.prog 14 #[vecV x y z, .int .i64 200] w fun e w' =>
    e = .returned (vecV (aroundF x 401 - 200) (aroundF y 32) (aroundF z 401 - 200)) ∧ Below w.heap.size w w' := by
  have bx := around_bd x 401 (by omega)
  have bz := around_bd z 401 (by omega)
  have kx := fun k => r_around x 401 hx.1 hx.2 (by omega) (by omega) k
  have ky := fun k => r_around y 32 hy.1 hy.2 (by omega) (by omega) k
  have kz := fun k => r_around z 401 hz.1 hz.2 (by omega) (by omega) k
  generalize aroundF x 401 = X at *
  generalize aroundF y 32 = Y at *
  generalize aroundF z 401 = Z at *
  have KX := Lib.hid kx
  have KY := Lib.hid ky
  have KZ := Lib.hid kz
  clear kx ky kz
  have w400 : IntKind.i64.wrap 400 = 400 := rfl
  have w401 : IntKind.i64.wrap 401 = 401 := rfl
  have wx : IntKind.i64.wrap (X - 200) = X - 200 := IntWalk.i64_in _ (by omega)
  have wz : IntKind.i64.wrap (Z - 200) = Z - 200 := IntWalk.i64_in _ (by omega)
  go_enter Try.func14, Try.ntmps14
  go_wp2_with fail
  refine region_below 20 (by kernel_rfl) (by kernel_rfl) ?_
  simp only [List.take_succ_cons, List.take_zero, List.drop_succ_cons, List.drop_zero]
  repeat (first | (refine' InText.skip (by rfl) ?_; simp only [Act.put, List.setIfInBounds_toArray, List.set_cons_zero, List.set_cons_succ]) | (refine' InText.val (by rfl) (fun wr hr => ?_) ?_; rotate_left 1; (focus (obtain ⟨hrc, hrf⟩ := bcell hr; (go_simp <;> with_reducible rfl); done)); simp only [Act.put, List.setIfInBounds_toArray, List.set_cons_zero, List.set_cons_succ]) | (refine' InText.call (by rfl) (fun wr hr => ?_) (fun wr hr => ?_) ?_; rotate_left 3; (focus ((go_simp <;> (first | with_reducible rfl | exact ⟨rfl, rfl⟩)); done)); (focus (first | with_reducible exact pureB (KX.out _) | with_reducible exact pureB (KY.out _) | with_reducible exact pureB (KZ.out _))); simp only [Act.put, List.setIfInBounds_toArray, List.set_cons_zero, List.set_cons_succ]))
  refine fun wr hr => ?_
  obtain ⟨hrc, hrf⟩ := bcell hr
  go_wp2
  refine bodyPost_ret (v := vecV (X - 200) Y (Z - 200)) (by simp [results, Try.results14, go_sem, *]; done) rfl ⟨rfl, ?_⟩
  (repeat (first | with_reducible assumption | with_reducible exact Below.refl _ _ | with_reducible refine Below.drew ?_ | with_reducible refine below_drewN ?_ _ | with_reducible refine al ?_ _ | (with_reducible refine sc ?_ ?_; (focus (first | omega | (simp; done) | (simp; omega)))) | (with_reducible refine chain ?_ (by assumption))))
end Go.Proofs.Ytlmekadgcllndaa
/- GenSeas, over what is asked of gen. -/
set_option linter.unusedVariables false
set_option linter.unusedSimpArgs false
namespace Go.Proofs.Ytlmekadgcllndaa
open Go.ChangeShapes Go.WideShapes Go.ChangeAt Go.RowKit
set_option maxRecDepth 10000 in
set_option maxHeartbeats 8000000 in
theorem genSeas_core (I : GenI) (s x y z : Int) (hs : i64 s) (hx : i64 x) (hy : i64 y) (hz : i64 z) (w : World) : Calls Try.prog 4 #[.int .i64 s, vecV x y z] w fun e w' => e = .returned (.bool true) ∧ Below w.heap.size w w' := by
  have gd := fun u => r3_good200 x y z hx hy hz u
  have bx := around_bd x 401 (by omega)
  have by' := around_bd y 32 (by omega)
  have bz := around_bd z 401 (by omega)
  obtain ⟨X, hX⟩ : ∃ n, aroundF x 401 - 200 = n := ⟨_, rfl⟩
  obtain ⟨Y, hY⟩ : ∃ n, aroundF y 32 = n := ⟨_, rfl⟩
  obtain ⟨Z, hZ⟩ : ∃ n, aroundF z 401 - 200 = n := ⟨_, rfl⟩
  rw [hX, hY, hZ] at gd
  rw [hY] at by'
  have hb := fun u => I.block s X Y Z u hs ⟨by omega, by omega⟩ ⟨by omega, by omega⟩ ⟨by omega, by omega⟩
  have hg := fun u => I.ground s X Z u hs ⟨by omega, by omega⟩ ⟨by omega, by omega⟩
  have bg := ground_bd s X Z
  unfold blockF at hb
  generalize groundF s X Z = g at *
  obtain ⟨b, hB⟩ : ∃ n, blockG g Y = n := ⟨_, rfl⟩
  rw [hB] at hb
  unfold blockG at hB
  obtain ⟨y0, y1⟩ := by'
  obtain ⟨g0, g1⟩ := bg
  have GD := Lib.hid gd
  have HBL := Lib.hid hb
  have HGR := Lib.hid hg
  have LV := Lib.hid (fun u => lA_lives I u)
  have w1' : IntKind.i64.wrap (g - 1) = g - 1 := IntWalk.i64_in _ (by omega)
  obtain ⟨G1, hG1⟩ : ∃ n, g - 1 = n := ⟨_, rfl⟩
  rw [hG1] at w1'
  obtain ⟨M, hM⟩ : ∃ n, max g 9 = n := ⟨_, rfl⟩
  have m0 : g ≤ M := by omega
  have m1 : 9 ≤ M := by omega
  have m2 : M = g ∨ M = 9 := by omega
  have HB := Lib.hid hB
  have HG1 := Lib.hid hG1
  have FCT := Lib.hid (And.intro y0 (And.intro y1 (And.intro g0 (And.intro g1 (And.intro m0 (And.intro m1 m2))))))
  clear gd hb hg hB hs hx hy hz bx bz hX hY hZ y0 y1 g0 g1 m0 m1 m2
  go_enter Try.func4, Try.ntmps4
  go_upto_region 1 with (fail)
  obtain ⟨u0, hu⟩ : ∃ u, w.alloc (.cells #[.int .i64 x, .int .i64 y, .int .i64 z] 33) = u := ⟨_, rfl⟩
  rw [hu]
  have k00 : Below w.heap.size w u0 := by rw [← hu]; exact al (Below.refl _ _) _
  have rb0 : RowAt u0 w.heap.size #[.int .i64 x, .int .i64 y, .int .i64 z] 33 := by rw [← hu]; exact RowAt.new w _ _
  have c0 := rb0.cell
  have z0 := rb0.lt
  clear hu
  go_wp2_with fail
  (refine (GD.out _).mono ?_; rintro e v1 ⟨rfl, hb1⟩)
  have k1 := chain k00 hb1
  clear c0 z0 rb0 hb1 k00
  go_wp2_with fail
  obtain ⟨u2, hu2⟩ : ∃ u, v1.alloc (.cells #[.int .i64 X, .int .i64 Y, .int .i64 Z] 33) = u := ⟨_, rfl⟩
  rw [hu2]
  have k2 : Below w.heap.size w u2 := by rw [← hu2]; exact al k1 _
  have rd : RowAt u2 v1.heap.size #[.int .i64 X, .int .i64 Y, .int .i64 Z] 33 := by rw [← hu2]; exact RowAt.new v1 _ _
  clear hu2 k1
  (refine (HBL.out _).mono ?_; rintro e v3 ⟨rfl, hb3⟩)
  have k3 := chain k2 hb3
  have rd3 := rd.keep hb3
  clear hb3 k2 rd
  have c0 := rd3.cell
  have z0 := rd3.lt
  go_wp2_with fail
  (refine (HGR.out _).mono ?_; rintro e v4 ⟨rfl, hb4⟩)
  have K4 := Lib.hid (chain k3 hb4)
  have rd4 := rd3.keep hb4
  clear hb4 k3 rd3 c0 z0
  have c0 := rd4.cell
  have z0 := rd4.lt
  clear rd4
  by_cases q_eq0 : Y = 0
  · obtain ⟨y0, y1, g0, g1, m0, m1, m2⟩ := FCT.out
    have hg1 := HG1.out
    obtain rfl : b = 1 := by rw [← HB.out]; (repeat' split) <;> omega
    have f1 : decide (M ≤ Y) = false := decide_eq_false (by omega)
    have f2 : decide (Y ≥ M) = false := f1
    clear q_eq0 y0 y1 g0 g1 m0 m1 m2 hg1
    go_wp2_with fail
    (refine (LV.out _).mono ?_; rintro e v5 ⟨rfl, hb5⟩)
    have K5 := Lib.hid (chain K4.out hb5)
    clear hb5
    go_wp2
    go_ret
    exact ⟨rfl, K5.out⟩
  · by_cases q_ltG3 : Y < g - 3
    · obtain ⟨y0, y1, g0, g1, m0, m1, m2⟩ := FCT.out
      have hg1 := HG1.out
      obtain rfl : b = 1 := by rw [← HB.out]; (repeat' split) <;> omega
      have f1 : decide (M ≤ Y) = false := decide_eq_false (by omega)
      have f2 : decide (Y ≥ M) = false := f1
      clear q_eq0 q_ltG3 y0 y1 g0 g1 m0 m1 m2 hg1
      go_wp2_with fail
      (refine (LV.out _).mono ?_; rintro e v5 ⟨rfl, hb5⟩)
      have K5 := Lib.hid (chain K4.out hb5)
      clear hb5
      go_wp2
      go_ret
      exact ⟨rfl, K5.out⟩
    · by_cases q_ltG1 : Y < G1
      · obtain ⟨y0, y1, g0, g1, m0, m1, m2⟩ := FCT.out
        have hg1 := HG1.out
        obtain rfl : b = 2 := by rw [← HB.out]; (repeat' split) <;> omega
        have f1 : decide (M ≤ Y) = false := decide_eq_false (by omega)
        have f2 : decide (Y ≥ M) = false := f1
        clear q_eq0 q_ltG3 q_ltG1 y0 y1 g0 g1 m0 m1 m2 hg1
        go_wp2_with fail
        (refine (LV.out _).mono ?_; rintro e v5 ⟨rfl, hb5⟩)
        have K5 := Lib.hid (chain K4.out hb5)
        clear hb5
        go_wp2
        go_ret
        exact ⟨rfl, K5.out⟩
      · by_cases q_eqG1 : Y = G1
        · by_cases q_le9 : g ≤ 9
          · obtain ⟨y0, y1, g0, g1, m0, m1, m2⟩ := FCT.out
            have hg1 := HG1.out
            obtain rfl : b = 3 := by rw [← HB.out]; (repeat' split) <;> omega
            have f1 : decide (g ≤ 9) = true := decide_eq_true (by omega)
            have f2 : (Y == G1) = true := by simp; omega
            clear q_eq0 q_ltG3 q_ltG1 q_eqG1 q_le9 y0 y1 g0 g1 m0 m1 m2 hg1
            go_wp2_with fail
            (refine (LV.out _).mono ?_; rintro e v5 ⟨rfl, hb5⟩)
            have K5 := Lib.hid (chain K4.out hb5)
            clear hb5
            go_wp2
            go_ret
            exact ⟨rfl, K5.out⟩
          · obtain ⟨y0, y1, g0, g1, m0, m1, m2⟩ := FCT.out
            have hg1 := HG1.out
            obtain rfl : b = 2 := by rw [← HB.out]; (repeat' split) <;> omega
            have f1 : decide (M ≤ Y) = false := decide_eq_false (by omega)
            have f2 : decide (Y ≥ M) = false := f1
            clear q_eq0 q_ltG3 q_ltG1 q_eqG1 q_le9 y0 y1 g0 g1 m0 m1 m2 hg1
            go_wp2_with fail
            (refine (LV.out _).mono ?_; rintro e v5 ⟨rfl, hb5⟩)
            have K5 := Lib.hid (chain K4.out hb5)
            clear hb5
            go_wp2
            go_ret
            exact ⟨rfl, K5.out⟩
        · by_cases q_lt9 : Y < 9
          · obtain ⟨y0, y1, g0, g1, m0, m1, m2⟩ := FCT.out
            have hg1 := HG1.out
            obtain rfl : b = 8 := by rw [← HB.out]; (repeat' split) <;> omega
            have f1 : decide (Y < 9) = true := decide_eq_true (by omega)
            have f2 : decide (g ≤ Y) = true := decide_eq_true (by omega)
            have f3 : decide (Y ≥ g) = true := f2
            clear q_eq0 q_ltG3 q_ltG1 q_eqG1 q_lt9 y0 y1 g0 g1 m0 m1 m2 hg1
            go_wp2_with fail
            (refine (LV.out _).mono ?_; rintro e v5 ⟨rfl, hb5⟩)
            have K5 := Lib.hid (chain K4.out hb5)
            clear hb5
            go_wp2
            go_ret
            exact ⟨rfl, K5.out⟩
          · obtain ⟨y0, y1, g0, g1, m0, m1, m2⟩ := FCT.out
            have hg1 := HG1.out
            obtain rfl : b = 0 := by rw [← HB.out]; (repeat' split) <;> omega
            have f1 : decide (M ≤ Y) = true := decide_eq_true (by omega)
            have f2 : decide (Y ≥ M) = true := f1
            clear q_eq0 q_ltG3 q_ltG1 q_eqG1 q_lt9 y0 y1 g0 g1 m0 m1 m2 hg1
            go_wp2_with fail
            (refine (LV.out _).mono ?_; rintro e v5 ⟨rfl, hb5⟩)
            have K5 := Lib.hid (chain K4.out hb5)
            clear hb5
            go_wp2
            go_ret
            exact ⟨rfl, K5.out⟩
end Go.Proofs.Ytlmekadgcllndaa
/- Contracts of layer 5's reference (runs): Blocks, Good. -/
set_option linter.unusedVariables false
set_option linter.unusedSimpArgs false
namespace Go.Proofs.Ytlmekadgcllndaa
open Go.ChangeShapes Go.WideShapes Go.ChangeAt Go.RowKit
theorem goodF_i64 (n : Int) : 0 ≤ goodF n ∧ goodF n ≤ 15 := by
  have := mayB_bd (goodF_may n); omega
theorem map_take_succ (f : Int → Int) (l : List Int) (k : Nat) (h : k < l.length) : (l.take (k + 1)).map f = (l.take k).map f ++ [f l[k]] := by rw [take_succ_get l k h, List.map_append]; rfl
def goodCs (l : List Run) : List Int := (l.take 12).flatMap (fun r => List.replicate (1 + aroundF r.1 40).toNat (goodF r.2))
def goodC (l : List Run) : List Int := if (goodCs l).length = 0 then [0] else goodCs l
theorem goodCs_succ (l : List Run) (k : Nat) (h : k < l.length) : (l.take (k + 1)).flatMap (fun r => List.replicate (1 + aroundF r.1 40).toNat (goodF r.2)) = (l.take k).flatMap (fun r => List.replicate (1 + aroundF r.1 40).toNat (goodF r.2)) ++ List.replicate (1 + aroundF l[k].1 40).toNat (goodF l[k].2) := by
  rw [take_succ_get l k h, List.flatMap_append]; simp
theorem goodCs_len (l : List Run) : ∀ k, ((l.take k).flatMap (fun r => List.replicate (1 + aroundF r.1 40).toNat (goodF r.2))).length ≤ k * 40
  | 0 => by simp
  | k + 1 => by
    by_cases h : k < l.length
    · rw [goodCs_succ l k h, List.length_append, List.length_replicate]
      have := goodCs_len l k
      have hb := around_bd l[k].1 40 (by omega)
      omega
    · rw [List.take_of_length_le (by omega)]
      have := goodCs_len l k
      rw [List.take_of_length_le (by omega)] at this
      omega
end Go.Proofs.Ytlmekadgcllndaa
/- Contracts of layer 5's reference (runs): At, Set, Fill. -/
set_option linter.unusedVariables false
set_option linter.unusedSimpArgs false
namespace Go.Proofs.Ytlmekadgcllndaa
open Go.ChangeShapes Go.WideShapes Go.ChangeAt Go.RowKit
def atF (C : List Int) (i : Int) : Int := if 0 ≤ i ∧ i < C.length then C[i.toNat]! else -1
def setF (C : List Int) (i b : Int) : List Int := if mayB b = true ∧ 0 ≤ i ∧ i < C.length then C.set i.toNat b else C
/-- The first k cells filled. -/
def fillF (C : List Int) (f t b : Int) (k : Nat) : List Int := C.mapIdx fun j c => if mayB b = true ∧ f ≤ j ∧ (j : Int) < t ∧ j < k then b else c
theorem fillF_length (C : List Int) (f t b : Int) (k : Nat) : (fillF C f t b k).length = C.length := by simp [fillF]
theorem fillF_zero (C : List Int) (f t b : Int) : fillF C f t b 0 = C := by
  apply List.ext_getElem (by simp [fillF])
  intro j h1 h2
  simp [fillF]
theorem fillF_skip (C : List Int) (f t b : Int) (k : Nat) (h : ¬ (mayB b = true ∧ f ≤ k ∧ (k : Int) < t)) : fillF C f t b (k + 1) = fillF C f t b k := by
  apply List.ext_getElem (by simp [fillF])
  intro j h1 h2
  simp only [fillF, List.getElem_mapIdx]
  by_cases hj : j = k
  · subst hj
    rw [if_neg (fun h' => h ⟨h'.1, h'.2.1, h'.2.2.1⟩), if_neg (fun h' => h ⟨h'.1, h'.2.1, h'.2.2.1⟩)]
  · congr 1
    apply propext
    constructor
    · intro h'; exact ⟨h'.1, h'.2.1, h'.2.2.1, by omega⟩
    · intro h'; exact ⟨h'.1, h'.2.1, h'.2.2.1, by omega⟩
theorem fillF_put (C : List Int) (f t b : Int) (k : Nat) (h : mayB b = true ∧ f ≤ k ∧ (k : Int) < t) : fillF C f t b (k + 1) = (fillF C f t b k).set k b := by
  apply List.ext_getElem (by simp [fillF])
  intro j h1 h2
  rw [List.getElem_set]
  simp only [fillF, List.getElem_mapIdx]
  by_cases hj : k = j
  · subst hj
    rw [if_pos ⟨h.1, h.2.1, h.2.2, by omega⟩, if_pos rfl]
  · rw [if_neg hj]
    congr 1
    apply propext
    constructor
    · intro h'; exact ⟨h'.1, h'.2.1, h'.2.2.1, by omega⟩
    · intro h'; exact ⟨h'.1, h'.2.1, h'.2.2.1, by omega⟩
end Go.Proofs.Ytlmekadgcllndaa
/- Contracts of layer 5's reference (runs): May. -/
set_option linter.unusedVariables false
set_option linter.unusedSimpArgs false
namespace Go.Proofs.Ytlmekadgcllndaa
open Go.ChangeShapes Go.WideShapes Go.ChangeAt Go.RowKit
def mayGo : Option Int → Int → List Run → Bool
  | _, left, [] => left == 0
  | p, left, r :: l => mayB r.2 && (decide (1 ≤ r.1) && (decide (r.1 ≤ left) && (!(p == some r.2) && mayGo (some r.2) (left - r.1) l)))
def mayR (l : List Run) (n : Int) : Bool := mayGo none n l && decide (0 < n)
def prevF (l : List Run) : Nat → Option Int
  | 0 => none
  | k + 1 => (l[k]?).map (·.2)
theorem drop_cons {l : List Run} {k : Nat} (h : k < l.length) : l.drop k = l[k] :: l.drop (k + 1) := List.drop_eq_getElem_cons h
end Go.Proofs.Ytlmekadgcllndaa
/- Words of layer 5: runs that may be, and their cells. No program. -/
set_option linter.unusedVariables false
namespace Go.Proofs.Ytlmekadgcllndaa
open Go Go.RowKit
def goodL : Option Int → List Run → Prop
  | _, [] => True
  | p, r :: l => mayB r.2 = true ∧ 1 ≤ r.1 ∧ p ≠ some r.2 ∧ goodL (some r.2) l
def sumL : List Run → Int
  | [] => 0
  | r :: l => r.1 + sumL l
def lastP (p : Option Int) (D : List Run) : Option Int := match D.getLast? with | some r => some r.2 | none => p
theorem sumL_append : ∀ a b : List Run, sumL (a ++ b) = sumL a + sumL b
  | [], b => by simp [sumL]
  | r :: a, b => by rw [List.cons_append, sumL, sumL, sumL_append a b]; omega
theorem goodL_sum : ∀ (l : List Run) (p : Option Int), goodL p l → 0 ≤ sumL l
  | [], _, _ => by simp [sumL]
  | r :: l, p, h => by have := goodL_sum l _ h.2.2.2; have := h.2.1; rw [sumL]; omega
theorem mayGo_iff : ∀ (l : List Run) (p : Option Int) (left : Int), mayGo p left l = true ↔ goodL p l ∧ sumL l = left
  | [], p, left => by simp [mayGo, goodL, sumL]; omega
  | r :: l, p, left => by
    rw [mayGo, goodL, sumL]
    simp only [Bool.and_eq_true, decide_eq_true_eq, Bool.not_eq_true', beq_eq_false_iff_ne, mayGo_iff l]
    constructor
    · rintro ⟨a, b, c, d, e, f⟩
      exact ⟨⟨a, b, d, e⟩, by omega⟩
    · rintro ⟨⟨a, b, d, e⟩, f⟩
      have := goodL_sum l _ e
      exact ⟨a, b, by omega, d, e, by omega⟩
theorem lastP_cons (p : Option Int) (r : Run) (D : List Run) : lastP p (r :: D) = lastP (some r.2) D := by
  unfold lastP
  rw [List.getLast?_cons]
  cases h : D.getLast? <;> simp
theorem goodL_append : ∀ (D l : List Run) (p : Option Int), goodL p (D ++ l) ↔ goodL p D ∧ goodL (lastP p D) l
  | [], l, p => by simp [goodL, lastP]
  | r :: D, l, p => by
    rw [List.cons_append, goodL, goodL, goodL_append D l, lastP_cons]
    constructor
    · rintro ⟨a, b, c, d, e⟩; exact ⟨⟨a, b, c, d⟩, e⟩
    · rintro ⟨⟨a, b, c, d⟩, e⟩; exact ⟨a, b, c, d, e⟩
theorem lastP_snoc (p : Option Int) (D : List Run) (r : Run) : lastP p (D ++ [r]) = some r.2 := by simp [lastP]
theorem goodL_cells : ∀ (l : List Run) (p : Option Int), goodL p l → ((cellsF l).length : Int) = sumL l ∧ ∀ c ∈ cellsF l, mayB c = true
  | [], _, _ => by simp [cellsF, sumL]
  | r :: l, p, h => by
    obtain ⟨h1, h2⟩ := goodL_cells l _ h.2.2.2
    have h3 := h.2.1
    rw [show cellsF (r :: l) = List.replicate r.1.toNat r.2 ++ cellsF l by simp [cellsF], sumL]
    refine ⟨by rw [List.length_append, List.length_replicate]; omega, fun c hc => ?_⟩
    rcases List.mem_append.1 hc with hc | hc
    · rw [(List.mem_replicate.1 hc).2]; exact h.1
    · exact h2 c hc
theorem nil_or_snoc (D : List Run) : D = [] ∨ ∃ D' r b, D = D' ++ [(r, b)] := by
  rcases List.eq_nil_or_concat D with h | ⟨D, ⟨r, b⟩, h⟩
  · exact .inl h
  · exact .inr ⟨D, r, b, by rw [h, List.concat_eq_append]⟩
theorem step_good (D : List Run) (c : Int) (h : goodL none D) (hc : mayB c = true) : goodL none (stepF D c) ∧ sumL (stepF D c) = sumL D + 1 ∧ cellsF (stepF D c) = cellsF D ++ [c] := by
  rcases nil_or_snoc D with rfl | ⟨D, r, b, rfl⟩
  · rw [stepF_nil]
    refine ⟨⟨hc, by simp, by simp, trivial⟩, by simp [sumL], by simp [cellsF]⟩
  · obtain ⟨g0, g1, g2, g3, _⟩ := (goodL_append D [(r, b)] none).1 h
    have g2 : (1 : Int) ≤ r := g2
    by_cases e : b = c
    · subst e
      rw [stepF_same]
      refine ⟨(goodL_append _ _ _).2 ⟨g0, g1, show (1 : Int) ≤ r + 1 by omega, g3, trivial⟩, by rw [sumL_append, sumL_append]; simp [sumL]; omega, ?_⟩
      rw [cellsF_append, cellsF_append, List.append_assoc]
      congr 1
      simp only [cellsF, List.flatMap_cons, List.flatMap_nil, List.append_nil]
      rw [show (r + 1).toNat = r.toNat + 1 by omega, List.replicate_succ']
    · rw [stepF_other _ _ _ _ e]
      refine ⟨(goodL_append _ _ _).2 ⟨h, hc, by simp, ?_, trivial⟩, by rw [sumL_append _ [(1, c)]]; simp [sumL], by rw [cellsF_append _ [(1, c)]]; simp [cellsF]⟩
      rw [lastP_snoc]
      simpa using e
theorem fold_good : ∀ (C : List Int) (D : List Run), goodL none D → (∀ c ∈ C, mayB c = true) → goodL none (C.foldl stepF D) ∧ sumL (C.foldl stepF D) = sumL D + C.length ∧ cellsF (C.foldl stepF D) = cellsF D ++ C
  | [], D, h, _ => by simp [h]
  | c :: C, D, h, hc => by
    obtain ⟨h1, h2, h3⟩ := step_good D c h (hc c (by simp))
    obtain ⟨g1, g2, g3⟩ := fold_good C (stepF D c) h1 (fun x hx => hc x (by simp [hx]))
    rw [List.foldl_cons]
    refine ⟨g1, by rw [g2, h2]; simp; omega, by rw [g3, h3]; simp⟩
theorem ofF_good {C : List Int} (h : ∀ c ∈ C, mayB c = true) : goodL none (ofF C) ∧ sumL (ofF C) = C.length ∧ cellsF (ofF C) = C := by
  obtain ⟨h1, h2, h3⟩ := fold_good C [] trivial h
  exact ⟨h1, by unfold ofF; rw [h2]; simp [sumL], by unfold ofF; rw [h3]; simp [cellsF]⟩
theorem cells_of {C : List Int} (h : ∀ c ∈ C, mayB c = true) : cellsF (ofF C) = C := (ofF_good h).2.2
theorem good_of {C : List Int} (h : ∀ c ∈ C, mayB c = true) : goodL none (ofF C) := (ofF_good h).1
theorem may_of {C : List Int} (h : ∀ c ∈ C, mayB c = true) (h0 : 0 < C.length) : mayR (ofF C) C.length = true := by
  obtain ⟨h1, h2, _⟩ := ofF_good h
  unfold mayR
  rw [(mayGo_iff _ _ _).2 ⟨h1, h2⟩]
  simpa using h0
theorem mayR_iff {l : List Run} {n : Int} : mayR l n = true ↔ goodL none l ∧ sumL l = n ∧ 0 < n := by
  unfold mayR
  rw [Bool.and_eq_true, mayGo_iff]
  simp [and_assoc]
theorem may_other {C : List Int} (h : ∀ c ∈ C, mayB c = true) {n : Int} (hn : n ≠ C.length) : mayR (ofF C) n = false := by
  cases hm : mayR (ofF C) n with
  | false => rfl
  | true =>
    have h1 := mayR_iff.1 hm
    have := (ofF_good h).2.1
    omega
theorem step_new (D : List Run) (b : Int) (h : lastP none D ≠ some b) : stepF D b = D ++ [(1, b)] := by
  rcases nil_or_snoc D with rfl | ⟨D, r, c, rfl⟩
  · rfl
  · rw [lastP_snoc] at h
    exact stepF_other _ _ _ _ (by simpa using h)
theorem fold_rep (b : Int) : ∀ (n : Nat) (D : List Run) (r : Int), (List.replicate n b).foldl stepF (D ++ [(r, b)]) = D ++ [(r + n, b)]
  | 0, D, r => by simp
  | n + 1, D, r => by
    rw [List.replicate_succ, List.foldl_cons, stepF_same, fold_rep b n]
    rw [show r + 1 + (n : Int) = r + ((n + 1 : Nat) : Int) by omega]
theorem fold_of : ∀ (l : List Run) (D : List Run), goodL (lastP none D) l → (cellsF l).foldl stepF D = D ++ l
  | [], D, _ => by simp [cellsF]
  | (r, b) :: l, D, h => by
    obtain ⟨h1, h2, h3, h4⟩ := h
    have h2 : (1 : Int) ≤ r := h2
    rw [show cellsF ((r, b) :: l) = List.replicate r.toNat b ++ cellsF l by simp [cellsF], List.foldl_append, show r.toNat = (r.toNat - 1) + 1 by omega, List.replicate_succ, List.foldl_cons, step_new D b h3, fold_rep]
    rw [show (1 : Int) + ((r.toNat - 1 : Nat) : Int) = r by omega, fold_of l (D ++ [(r, b)]) (by rw [lastP_snoc]; exact h4)]
    simp
theorem of_cells {l : List Run} (h : goodL none l) : ofF (cellsF l) = l := by
  have h := fold_of l [] h
  unfold ofF
  rw [h]
  rfl
theorem ofF_inj {C D : List Int} (hc : ∀ c ∈ C, mayB c = true) (hd : ∀ c ∈ D, mayB c = true) (h : ofF C = ofF D) : C = D := by rw [← cells_of hc, ← cells_of hd, h]
theorem ofF_len (C : List Int) : (ofF C).length ≤ C.length := by
  have := ofF_length C C.length (Nat.le_refl _)
  rwa [List.take_length] at this
theorem ofF_pos {C : List Int} (h : 0 < C.length) : 0 < (ofF C).length := by
  obtain ⟨D, r, e, _⟩ := ofF_form C (C.length - 1) (by omega)
  rw [show C.length - 1 + 1 = C.length by omega, List.take_length] at e
  rw [e]; simp
/-- Runs that may be, and what they are cells of. -/
theorem goodC_may (l : List Run) : ∀ c ∈ goodC l, mayB c = true := by
  unfold goodC
  split
  · intro c hc
    simp at hc
    subst hc
    decide
  · intro c hc
    unfold goodCs at hc
    obtain ⟨r, _, hr⟩ := List.mem_flatMap.1 hc
    rw [(List.mem_replicate.1 hr).2]
    exact goodF_may _
theorem goodC_len (l : List Run) : 0 < (goodC l).length ∧ (goodC l).length ≤ 480 := by
  have h := goodCs_len l 12
  have h : (goodCs l).length ≤ 480 := h
  unfold goodC
  split
  · simp
  · omega
theorem setF_len (C : List Int) (i b : Int) : (setF C i b).length = C.length := by unfold setF; split <;> simp
theorem setF_may {C : List Int} (h : ∀ c ∈ C, mayB c = true) (i b : Int) : ∀ c ∈ setF C i b, mayB c = true := by
  unfold setF
  split
  · rename_i hb
    intro c hc
    rcases List.mem_or_eq_of_mem_set hc with hc | rfl
    · exact h c hc
    · exact hb.1
  · exact h
theorem fillF_may {C : List Int} (h : ∀ c ∈ C, mayB c = true) (f t b : Int) (k : Nat) : ∀ c ∈ fillF C f t b k, mayB c = true := by
  intro c hc
  unfold fillF at hc
  obtain ⟨j, hj, rfl⟩ := List.mem_mapIdx.1 hc
  split
  · rename_i hb; exact hb.1
  · exact h _ (List.getElem_mem _)
theorem ofF_rep (n : Nat) (b : Int) : ofF (List.replicate (n + 1) b) = [(((n + 1 : Nat) : Int), b)] := by
  have h : (List.replicate n b).foldl stepF [(1, b)] = [(1 + (n : Int), b)] := by simpa using fold_rep b n [] 1
  unfold ofF
  rw [List.replicate_succ, List.foldl_cons, stepF_nil, h, show (1 : Int) + (n : Int) = ((n + 1 : Nat) : Int) by omega]
theorem RunsAt.shape {w : World} {v : Value} {l : List Run} (h : RunsAt w v l) : ∃ p cap, v = .slice p l.length cap := let ⟨p, cap, e, _⟩ := h.form; ⟨p, cap, e⟩
theorem IntsAt.shape {w : World} {v : Value} {l : List Int} (h : IntsAt w v l) : ∃ p cap, v = .slice p l.length cap := let ⟨p, cap, e, _⟩ := h.form; ⟨p, cap, e⟩
def okC (C : List Int) : Prop := (∀ c ∈ C, mayB c = true) ∧ C.length ≤ 100000
def makeF (n b : Int) : List Run := if n < 1 then [] else [(n, b)]
def countF (C : List Int) (b : Int) : Int := (C.filter (· == b)).length
theorem len_of {C : List Int} (hC : okC C) : (cellsF (ofF C)).length ≤ 100000 ∧ (ofF C).length ≤ 100000 := ⟨by rw [cells_of hC.1]; exact hC.2, Nat.le_trans (ofF_len C) hC.2⟩
theorem sumL_take (l : List Run) (k : Nat) (h : k < l.length) : sumL (l.take (k + 1)) = sumL (l.take k) + l[k].1 := by
  rw [take_succ_get l k h, sumL_append]; simp [sumL]
theorem goodL_take (l : List Run) (p : Option Int) (h : goodL p l) (k : Nat) : goodL p (l.take k) := by
  have := (List.take_append_drop k l) ▸ h
  exact ((goodL_append _ _ _).1 this).1
def cntL (b : Int) : List Run → Int
  | [] => 0
  | r :: l => (if r.2 = b then r.1 else 0) + cntL b l
theorem cntL_append (b : Int) : ∀ x y : List Run, cntL b (x ++ y) = cntL b x + cntL b y
  | [], y => by simp [cntL]
  | r :: x, y => by rw [List.cons_append, cntL, cntL, cntL_append b x y]; omega
theorem cntL_take (b : Int) (l : List Run) (k : Nat) (h : k < l.length) : cntL b (l.take (k + 1)) = cntL b (l.take k) + (if l[k].2 = b then l[k].1 else 0) := by
  rw [take_succ_get l k h, cntL_append]; simp [cntL]
theorem cntL_cells (b : Int) : ∀ (l : List Run) (p : Option Int), goodL p l → cntL b l = countF (cellsF l) b ∧ 0 ≤ cntL b l ∧ cntL b l ≤ sumL l
  | [], _, _ => by simp [cntL, countF, cellsF, sumL]
  | r :: l, p, h => by
    obtain ⟨h1, h2, h3⟩ := cntL_cells b l _ h.2.2.2
    have h4 := h.2.1
    rw [show cellsF (r :: l) = List.replicate r.1.toNat r.2 ++ cellsF l by simp [cellsF], cntL, sumL]
    have : countF (List.replicate r.1.toNat r.2 ++ cellsF l) b = countF (List.replicate r.1.toNat r.2) b + countF (cellsF l) b := by unfold countF; rw [List.filter_append, List.length_append]; omega
    rw [this, ← h1]
    by_cases e : r.2 = b
    · rw [if_pos e]
      have : countF (List.replicate r.1.toNat r.2) b = r.1 := by unfold countF; rw [List.filter_replicate]; simp [e]; omega
      omega
    · rw [if_neg e]
      have : countF (List.replicate r.1.toNat r.2) b = 0 := by unfold countF; rw [List.filter_replicate]; simp [e]
      omega
theorem goodL_length : ∀ (l : List Run) (p : Option Int), goodL p l → (l.length : Int) ≤ sumL l
  | [], _, _ => by simp [sumL]
  | r :: l, p, h => by have := goodL_length l _ h.2.2.2; have := h.2.1; rw [sumL]; simp; omega
theorem atF_put {C : List Int} {i b : Int} (hb : mayB b = true) (h0 : 0 ≤ i) (h1 : i < C.length) : atF (setF C i b) i = b := by
  unfold atF
  rw [setF_len, if_pos ⟨h0, h1⟩]
  unfold setF
  rw [if_pos ⟨hb, h0, h1⟩]
  have : i.toNat < C.length := by omega
  simp [getElem!_pos, this]
theorem atF_low (C : List Int) : atF C (-1) = -1 := by unfold atF; rw [if_neg (by omega)]
theorem atF_high (C : List Int) (n : Int) (h : (C.length : Int) ≤ n) : atF C n = -1 := by unfold atF; rw [if_neg (by omega)]
theorem set_apart {C : List Int} {i k : Int} (a b : Int) (h : i ≠ k) (h0 : 0 ≤ i) (h2 : 0 ≤ k) : setF (setF C i a) k b = setF (setF C k b) i a := by
  have hne : i.toNat ≠ k.toNat := by omega
  unfold setF
  by_cases ha : mayB a = true ∧ 0 ≤ i ∧ i < C.length
  · by_cases hb : mayB b = true ∧ 0 ≤ k ∧ k < C.length
    · rw [if_pos ha, if_pos hb, if_pos (by simpa using hb), if_pos (by simpa using ha), List.set_comm _ _ hne]
    · rw [if_pos ha, if_neg hb, if_neg (by simpa using hb), if_pos ha]
  · by_cases hb : mayB b = true ∧ 0 ≤ k ∧ k < C.length
    · rw [if_neg ha, if_pos hb, if_neg (by simpa using ha)]
    · rw [if_neg ha, if_neg hb, if_neg ha]
theorem set_twice {C : List Int} {i : Int} {a b : Int} (ha : mayB a = true) (hb : mayB b = true) (h0 : 0 ≤ i) (h1 : i < C.length) : setF (setF C i a) i b = setF C i b := by
  have e1 : setF C i a = C.set i.toNat a := by unfold setF; rw [if_pos ⟨ha, h0, h1⟩]
  have e2 : setF C i b = C.set i.toNat b := by unfold setF; rw [if_pos ⟨hb, h0, h1⟩]
  rw [e1, e2]
  unfold setF
  rw [if_pos ⟨hb, h0, by simpa using h1⟩, List.set_set]
theorem set_back {C : List Int} {i : Int} {b : Int} (hC : ∀ c ∈ C, mayB c = true) (hb : mayB b = true) (h0 : 0 ≤ i) (h1 : i < C.length) : setF (setF C i b) i (atF C i) = C := by
  have hlt : i.toNat < C.length := by omega
  have ea : atF C i = C[i.toNat] := by unfold atF; rw [if_pos ⟨h0, h1⟩, getElem!_pos C i.toNat hlt]
  have hm : mayB (atF C i) = true := by rw [ea]; exact hC _ (List.getElem_mem _)
  rw [set_twice hb hm h0 h1]
  unfold setF
  rw [if_pos ⟨hm, h0, h1⟩, ea, List.set_getElem_self]
theorem atF_may {C : List Int} (hC : ∀ c ∈ C, mayB c = true) {i : Int} (h0 : 0 ≤ i) (h1 : i < C.length) : mayB (atF C i) = true := by
  have hlt : i.toNat < C.length := by omega
  unfold atF
  rw [if_pos ⟨h0, h1⟩, getElem!_pos C i.toNat hlt]
  exact hC _ (List.getElem_mem _)
theorem atF_i64 {C : List Int} (hC : ∀ c ∈ C, mayB c = true) (i : Int) : i64 (atF C i) := by
  by_cases h : 0 ≤ i ∧ i < C.length
  · have := mayB_bd (atF_may hC h.1 h.2)
    constructor <;> omega
  · unfold atF; rw [if_neg h]; decide
def cumF (X : List Int) (j : Int) : Int := (X.filter (fun c => decide (c < j))).length
theorem cumF_succ (X : List Int) (j : Int) : cumF X (j + 1) = cumF X j + countF X j := by
  unfold cumF countF
  induction X with
  | nil => simp
  | cons c X ih =>
    simp only [List.filter_cons]
    by_cases h1 : c < j
    · rw [if_pos (by simp; omega), if_pos (by simpa using h1), if_neg (by simp; omega)]
      simp only [List.length_cons]; omega
    · by_cases h2 : c = j
      · rw [if_pos (by simp; omega), if_neg (by simpa using h1), if_pos (by simpa using h2)]
        simp only [List.length_cons]; omega
      · rw [if_neg (by simp; omega), if_neg (by simpa using h1), if_neg (by simpa using h2)]
        exact ih
theorem cumF_all {X : List Int} (h : ∀ c ∈ X, mayB c = true) : cumF X 16 = X.length ∧ cumF X 0 = 0 := by
  unfold cumF
  constructor
  · rw [List.filter_eq_self.2 (fun c hc => by have := mayB_bd (h c hc); simp; omega)]
  · rw [List.filter_eq_nil_iff.2 (fun c hc => by have := mayB_bd (h c hc); simp; omega)]; rfl
theorem cumF_le (X : List Int) (j : Int) : 0 ≤ cumF X j ∧ cumF X j ≤ X.length := by
  unfold cumF
  exact ⟨by omega, by have := List.length_filter_le (fun c => decide (c < j)) X; omega⟩
theorem countF_le (X : List Int) (j : Int) : 0 ≤ countF X j ∧ countF X j ≤ X.length := by
  unfold countF
  exact ⟨by omega, by have := List.length_filter_le (fun c => c == j) X; omega⟩
theorem goodL_one {n b : Int} (h : mayB b = true) (hn : 1 ≤ n) : goodL none [(n, b)] := ⟨h, hn, by simp, trivial⟩
theorem runVs_put : ∀ (D : List Run) (k : Nat) (a b : Int), k < D.length → ((runVs D).set (k * 2) (.int .i64 a)).set (k * 2 + 1) (.int .i64 b) = runVs (D.set k (a, b))
  | r :: D, 0, a, b, _ => by simp [runVs]
  | r :: D, k + 1, a, b, h => by
    have := runVs_put D k a b (by simpa using h)
    simp only [runVs, List.flatMap_cons, List.set_cons_succ] at *
    rw [← this, show (k + 1) * 2 = k * 2 + 2 by omega, show k * 2 + 2 + 1 = (k * 2 + 1) + 2 by omega]
    simp
theorem i64_put {D : List Run} {k : Nat} {a b : Int} (h : ∀ j (h : j < D.length), i64 D[j].1 ∧ i64 D[j].2) (ha : i64 a) (hb : i64 b) : ∀ j (h : j < (D.set k (a, b)).length), i64 (D.set k (a, b))[j].1 ∧ i64 (D.set k (a, b))[j].2 := fun j hj => by
  rw [List.getElem_set]
  split
  · exact ⟨ha, hb⟩
  · exact h j (by simpa using hj)
theorem i64_take {D : List Run} (k : Nat) (h : ∀ j (h : j < D.length), i64 D[j].1 ∧ i64 D[j].2) : ∀ j (h : j < (D.take k).length), i64 (D.take k)[j].1 ∧ i64 (D.take k)[j].2 := fun j hj => by
  rw [List.getElem_take]
  exact h j (by simp at hj; omega)
theorem okC_set {C : List Int} (hC : okC C) (i b : Int) : okC (setF C i b) := ⟨setF_may hC.1 i b, by rw [setF_len]; exact hC.2⟩
theorem okC_fill {C : List Int} (hC : okC C) (f t b : Int) (k : Nat) : okC (fillF C f t b k) := ⟨fillF_may hC.1 f t b k, by rw [fillF_length]; exact hC.2⟩
theorem okC_len {C : List Int} (hC : okC C) : (ofF C).length ≤ 100000000 := by have := (len_of hC).2; omega
theorem okC_i64 {C : List Int} (hC : okC C) : ∀ j (h : j < (ofF C).length), i64 (ofF C)[j].1 ∧ i64 (ofF C)[j].2 := by
  have hg := good_of hC.1
  have hs := (ofF_good hC.1).2.1
  have hl := hC.2
  generalize ofF C = l at *
  have key : ∀ (l : List Run) (p : Option Int), goodL p l → sumL l ≤ 100000 → ∀ j (h : j < l.length), i64 l[j].1 ∧ i64 l[j].2 := by
    intro l
    induction l with
    | nil => intro p _ _ j h; exact absurd h (by simp)
    | cons r l ih =>
      intro p hg hs j h
      have h0 := goodL_sum l _ hg.2.2.2
      have h1 := hg.2.1
      have h2 := mayB_bd hg.1
      rw [sumL] at hs
      match j with
      | 0 => exact ⟨by constructor <;> simp <;> omega, by constructor <;> simp <;> omega⟩
      | j + 1 => exact ih _ hg.2.2.2 (by omega) j (by simpa using h)
  exact key l none hg (by omega)
end Go.Proofs.Ytlmekadgcllndaa
