/- For any bytes, any place, any two bytes the law CrcBursts of layer 7 answers true: checked bytes that are turned within two bytes side by side are found. Conditions: none: every input. -/
import Derived.Test.YtnpondgnmoedhaaRows
import Derived.Test.YtnpondgnmoedhaaO02
import Derived.Test.YtnpondgnmoedhaaO60
import Derived.Test.YtnpondgnmoedhaaO61
import Derived.Test.YtnpondgnmoedhaaL07
import Derived.Test.YtnpondgnmoedhaaK73
import Derived.Test.YtnpondgnmoedhaaVRS
import Derived.WalkKit
import Derived.ProofKit
import Derived.OpenShut
import Derived.Below
import Derived.Carry
namespace Go.Proofs.Ytnpondgnmoedhaa.crcBursts
open Go.Proofs.Ytnpondgnmoedhaa Go.ChangeShapes Go.WideShapes Go.ChangeAt Go.RowKit
set_option linter.unusedVariables false
set_option linter.unusedSimpArgs false
attribute [local go_sem ↓] Go.wp_at_zero Go.wp_at_succ
set_option maxHeartbeats 16000000 in
theorem walk (a0 : Value) (a1 : Int) (w1 : -9223372036854775808 ≤ a1 ∧ a1 ≤ 9223372036854775807) (a2 : Run) (w2 : (0 ≤ a2.1 ∧ a2.1 ≤ 255) ∧ 0 ≤ a2.2 ∧ a2.2 ≤ 255) (w : World) (w0 : BytsIn w a0) (hV : Vars w) :
    Calls Try.prog 5 #[a0, .int .i64 a1, .agg #[.int .u8 a2.1, .int .u8 a2.2]] w fun e w' => e = .returned (.bool true) ∧ Below w.heap.size w w' := by
  obtain ⟨b0, hb0, ok0, hm0⟩ := w0
  obtain ⟨B, hB⟩ : ∃ B, b0.take 200 = B := ⟨_, rfl⟩
  have okB : bytOk B := hB ▸ ok0.take 200
  have lB : B.length ≤ 200 := by rw [← hB]; simp; omega
  have few0 := fun k hk => r6_few a0 b0 200 k hk hm0 (by omega)
  rw [hB] at few0
  have few : ∀ k, BytsAt k a0 b0 → Calls Try.prog 8 #[a0, .int .i64 200] k fun e w' => ∃ p cap, e = .returned (.slice p B.length cap) ∧ BytsAt w' (.slice p B.length cap) B ∧ Below k.heap.size k w' := few0
  obtain ⟨nB, hnB⟩ : ∃ n, B.length = n := ⟨_, rfl⟩
  rw [hnB] at few lB
  have FEW := Lib.hid few
  have OKB := Lib.hid okB
  have HNB := Lib.hid hnB
  clear few0 few okB hB hnB ok0 hm0
  obtain ⟨x0, x1⟩ := a2
  obtain ⟨w20, w21⟩ := w2
  dsimp only at w20 w21 ⊢
  have okP0 : bytOk (sealF B) := put_ok OKB.out
  have pl : (sealF B).length = nB + 2 := by rw [put_len, HNB.out]
  obtain ⟨nP, hnP⟩ : ∃ n, nB + 2 = n := ⟨_, rfl⟩
  have hnI : (nB : Int) + 2 = nP := by omega
  have w2I : IntKind.i64.wrap ((nB : Int) + 2) = nP := by rw [hnI]; exact IntWalk.i64_in _ (by omega)
  rw [hnP] at pl
  have lP : nP ≤ 202 := by omega
  have ga := fun k => r_around a1 (nP : Int) w1.1 w1.2 (by omega) (by omega) k
  have ba := around_bd a1 (nP : Int) (by omega)
  obtain ⟨at0, hat⟩ : ∃ k : Nat, aroundF a1 (nP : Int) = k := ⟨(aroundF a1 (nP : Int)).toNat, by omega⟩
  rw [hat] at ga ba
  have n0 : at0 < nP := by omega
  have n0I : (at0 : Int) < nP := by omega
  have hlt : at0 < (sealF B).length := by omega
  obtain ⟨old0, hold0⟩ : ∃ x, (sealF B)[at0] = x := ⟨_, rfl⟩
  have old0b : 0 ≤ old0 ∧ old0 ≤ 255 := hold0 ▸ okP0 _ (List.getElem_mem hlt)
  have r0 : (bytVs (sealF B))[at0]? = some (.int .u8 old0) := by simp [bytVs, hlt, hold0]
  obtain ⟨v0b, v0e⟩ := u8_xor old0b w20
  obtain ⟨v0, hv0⟩ : ∃ x, bits .xor .u8 old0 x0 = x := ⟨_, rfl⟩
  rw [hv0] at v0b v0e
  have wr0 : IntKind.i64.wrap (at0 : Int) = at0 := IntWalk.i64_in _ (by omega)
  have GA := Lib.hid ga
  clear ga ba hat w1
  by_cases hl : at0 + 1 = nP
  · have hlI : ¬ (at0 : Int) + 1 < nP := by omega
    have wr1 : IntKind.i64.wrap ((at0 : Int) + 1) = (at0 : Int) + 1 := IntWalk.i64_in _ (by omega)
    have te := take_one okP0 hlt v0b
    rw [hold0] at te
    simp only [v0e] at te
    have okE0 := set_ok okP0 at0 v0b
    obtain ⟨P, hP⟩ : ∃ P, sealF B = P := ⟨_, rfl⟩
    rw [hP] at te okE0 pl r0
    have hnP0 := pl
    obtain ⟨E, hE⟩ : ∃ E, P.set at0 v0 = E := ⟨_, rfl⟩
    have eE : (bytVs P).set at0 (.int .u8 v0) = bytVs E := by rw [← hE]; simp [bytVs]
    have lE : E.length = nP := by rw [← hE]; simpa using pl
    rw [hE] at te okE0
    have lE2 : E.length ≤ 1000 := by omega
    have pt := fun u (h : Vars u) v hv => b7_put v B u h hv OKB.out (by rw [HNB.out]; omega)
    rw [hP, hnP0] at pt
    have tk := fun u (h : Vars u) v hv => b7_take v E u h hv okE0 lE2
    rw [te] at tk
    have PT := Lib.hid pt
    have R0 := Lib.hid r0
    have EE := Lib.hid eE
    have LE := Lib.hid lE
    
    clear pt r0 eE lE lE2 okE0 te hP hnP0  hE pl okP0 hold0 hl hlt hnP hnI old0b v0b v0e w20 w21
    by_cases hx0 : x0 = 0
    · have xb0 : (x0 == 0) = true := by simpa using hx0
      have xn0 : (x0 != 0) = false := by rw [bne, xb0]; rfl
      simp only [hx0, if_true] at tk
      have TK := Lib.hid tk
      clear tk hx0
      go_enter Try.func5, Try.ntmps5
      obtain ⟨u0, hu0⟩ : ∃ u, w.alloc (.cells #[.int .u8 x0, .int .u8 x1] 28) = u := ⟨_, rfl⟩
      have k00 : Below w.heap.size w u0 := by rw [← hu0]; exact al (Below.refl _ _) _
      have rb0 : RowAt u0 w.heap.size #[.int .u8 x0, .int .u8 x1] 28 := by rw [← hu0]; exact RowAt.new w _ _
      have hbu := hb0.keep k00
      have hVu := hV.keep k00
      have kw : Below u0.heap.size u0 u0 := Below.refl _ _
      have HU0 := Lib.hid hu0
      clear hu0
      go_wp2_with fail
      rw [HU0.out]
      refine (FEW.out _ hbu).mono ?_
      rintro e W1 ⟨pb, cb, rfl, hB, hv1⟩
      replace kw := chain kw hv1
      clear hv1
      have kz := kw.size
      go_wp2_with fail
      refine (PT.out _ (hVu.keep kw) _ hB).mono ?_
      rintro e W2 ⟨vp, rfl, hop, hv2⟩
      replace kw := chain kw hv2
      clear hv2
      replace hop := own_base hop kz
      clear kz hB
      obtain ⟨g, cap, rfl⟩ := own_some hop (by omega)
      go_wp2_with fail
      refine (GA.out _).mono ?_
      rintro e w' ⟨rfl, rfl⟩
      go_wp2_with fail
      refine wp_loop_rounds 3 ?_
      rw [rounds_succ]
      go_wp2_with fail
      have d0 : W2.cell? ⟨g, at0, none⟩ = some (.int .u8 old0) := own_cell hop at0 R0.out
      obtain ⟨fz, zg⟩ := own_open hop
      have rb := rb0.keep kw
      have e0 := rb.two.1
      have zb := rb.lt
      refine region_below 15 (by kernel_rfl) (by kernel_rfl) ?_
      simp only [List.take_succ_cons, List.take_zero, List.drop_succ_cons, List.drop_zero]
      repeat (first | (refine' InText.skip (by rfl) ?_; simp only [Act.put, List.setIfInBounds_toArray, List.set_cons_zero, List.set_cons_succ]) | (refine' InText.val (by rfl) (fun wr hr => ?_) ?_; rotate_left 1; (focus (obtain ⟨hrc, hrf⟩ := bcell hr; (go_simp <;> with_reducible rfl); done)); simp only [Act.put, List.setIfInBounds_toArray, List.set_cons_zero, List.set_cons_succ]))
      refine fun wrs hrs => ?_
      obtain ⟨hrcs, hrfs⟩ := bcell hrs
      have hos := own_set (own_keep hop hrs) at0 (by omega) (.int .u8 v0)
      have ks : Below u0.heap.size u0 (wrs.setCell ⟨g, at0, none⟩ (.int .u8 v0)) := Below.own_set (chain kw hrs) (own_keep hop hrs) at0 _
      obtain ⟨Us, hu⟩ : ∃ u, wrs.setCell ⟨g, at0, none⟩ (.int .u8 v0) = u := ⟨_, rfl⟩
      rw [hu] at hos ks
      have HUs := Lib.hid hu
      clear hu
      go_upto_region 11 with (fail)
      rw [HUs.out]
      clear d0 fz zg e0 zb hrs hrcs hrfs rb hop kw HUs
      have rb := rb0.keep ks
      have e0 := rb.two.1
      have zb := rb.lt
      go_wp2_with fail
      rw [rounds_succ]
      go_wp2_with fail
      clear e0 zb rb
      rw [EE.out] at hos
      have he : BytsAt Us (.slice (some ⟨g, 0, none⟩) nP cap) E := byts_of_owned (by rw [LE.out]; exact hos)
      have kw := ks
      clear hos ks
      refine (TK.out _ (hVu.keep kw) _ he).mono ?_
      rintro e W3 ⟨vt, rfl, ht, hv3⟩
      replace kw := chain kw hv3
      clear hv3
      go_wp2_with fail
      refine (l7_lives _ (hVu.keep kw)).mono ?_
      rintro e W4 ⟨rfl, hv4⟩
      replace kw := chain kw hv4
      clear hv4
      replace kw := chain k00 kw
      clear k00
      go_wp2
      go_ret
      exact ⟨rfl, by (repeat (first | with_reducible assumption | with_reducible exact Below.refl _ _ | with_reducible refine Below.drew ?_ | with_reducible refine below_drewN ?_ _ | with_reducible refine al ?_ _ | (with_reducible refine sc ?_ ?_; (focus (first | omega | (simp; done) | (simp; omega)))) | (with_reducible refine chain ?_ (by assumption))))⟩
    · have xb0 : (x0 == 0) = false := by simpa using hx0
      have xn0 : (x0 != 0) = true := by rw [bne, xb0]; rfl
      simp only [hx0, if_false] at tk
      have TK := Lib.hid tk
      clear tk hx0
      go_enter Try.func5, Try.ntmps5
      obtain ⟨u0, hu0⟩ : ∃ u, w.alloc (.cells #[.int .u8 x0, .int .u8 x1] 28) = u := ⟨_, rfl⟩
      have k00 : Below w.heap.size w u0 := by rw [← hu0]; exact al (Below.refl _ _) _
      have rb0 : RowAt u0 w.heap.size #[.int .u8 x0, .int .u8 x1] 28 := by rw [← hu0]; exact RowAt.new w _ _
      have hbu := hb0.keep k00
      have hVu := hV.keep k00
      have kw : Below u0.heap.size u0 u0 := Below.refl _ _
      have HU0 := Lib.hid hu0
      clear hu0
      go_wp2_with fail
      rw [HU0.out]
      refine (FEW.out _ hbu).mono ?_
      rintro e W1 ⟨pb, cb, rfl, hB, hv1⟩
      replace kw := chain kw hv1
      clear hv1
      have kz := kw.size
      go_wp2_with fail
      refine (PT.out _ (hVu.keep kw) _ hB).mono ?_
      rintro e W2 ⟨vp, rfl, hop, hv2⟩
      replace kw := chain kw hv2
      clear hv2
      replace hop := own_base hop kz
      clear kz hB
      obtain ⟨g, cap, rfl⟩ := own_some hop (by omega)
      go_wp2_with fail
      refine (GA.out _).mono ?_
      rintro e w' ⟨rfl, rfl⟩
      go_wp2_with fail
      refine wp_loop_rounds 3 ?_
      rw [rounds_succ]
      go_wp2_with fail
      have d0 : W2.cell? ⟨g, at0, none⟩ = some (.int .u8 old0) := own_cell hop at0 R0.out
      obtain ⟨fz, zg⟩ := own_open hop
      have rb := rb0.keep kw
      have e0 := rb.two.1
      have zb := rb.lt
      refine region_below 15 (by kernel_rfl) (by kernel_rfl) ?_
      simp only [List.take_succ_cons, List.take_zero, List.drop_succ_cons, List.drop_zero]
      repeat (first | (refine' InText.skip (by rfl) ?_; simp only [Act.put, List.setIfInBounds_toArray, List.set_cons_zero, List.set_cons_succ]) | (refine' InText.val (by rfl) (fun wr hr => ?_) ?_; rotate_left 1; (focus (obtain ⟨hrc, hrf⟩ := bcell hr; (go_simp <;> with_reducible rfl); done)); simp only [Act.put, List.setIfInBounds_toArray, List.set_cons_zero, List.set_cons_succ]))
      refine fun wrs hrs => ?_
      obtain ⟨hrcs, hrfs⟩ := bcell hrs
      have hos := own_set (own_keep hop hrs) at0 (by omega) (.int .u8 v0)
      have ks : Below u0.heap.size u0 (wrs.setCell ⟨g, at0, none⟩ (.int .u8 v0)) := Below.own_set (chain kw hrs) (own_keep hop hrs) at0 _
      obtain ⟨Us, hu⟩ : ∃ u, wrs.setCell ⟨g, at0, none⟩ (.int .u8 v0) = u := ⟨_, rfl⟩
      rw [hu] at hos ks
      have HUs := Lib.hid hu
      clear hu
      go_upto_region 11 with (fail)
      rw [HUs.out]
      clear d0 fz zg e0 zb hrs hrcs hrfs rb hop kw HUs
      have rb := rb0.keep ks
      have e0 := rb.two.1
      have zb := rb.lt
      go_wp2_with fail
      rw [rounds_succ]
      go_wp2_with fail
      clear e0 zb rb
      rw [EE.out] at hos
      have he : BytsAt Us (.slice (some ⟨g, 0, none⟩) nP cap) E := byts_of_owned (by rw [LE.out]; exact hos)
      have kw := ks
      clear hos ks
      refine (TK.out _ (hVu.keep kw) _ he).mono ?_
      rintro e W3 ⟨vt, rfl, ht, hv3⟩
      replace kw := chain kw hv3
      clear hv3
      go_wp2_with fail
      refine (l7_lives _ (hVu.keep kw)).mono ?_
      rintro e W4 ⟨rfl, hv4⟩
      replace kw := chain kw hv4
      clear hv4
      replace kw := chain k00 kw
      clear k00
      go_wp2
      go_ret
      exact ⟨rfl, by (repeat (first | with_reducible assumption | with_reducible exact Below.refl _ _ | with_reducible refine Below.drew ?_ | with_reducible refine below_drewN ?_ _ | with_reducible refine al ?_ _ | (with_reducible refine sc ?_ ?_; (focus (first | omega | (simp; done) | (simp; omega)))) | (with_reducible refine chain ?_ (by assumption))))⟩
  · have hlt1 : at0 + 1 < (sealF B).length := by omega
    obtain ⟨old1, hold1⟩ : ∃ x, (sealF B)[at0 + 1] = x := ⟨_, rfl⟩
    have old1b : 0 ≤ old1 ∧ old1 ≤ 255 := hold1 ▸ okP0 _ (List.getElem_mem hlt1)
    have r1 : ((bytVs (sealF B)).set at0 (.int .u8 v0))[at0 + 1]? = some (.int .u8 old1) := by rw [List.getElem?_set_ne (by omega)]; simp [bytVs, hlt1, hold1]
    obtain ⟨v1b, v1e⟩ := u8_xor old1b w21
    obtain ⟨v1, hv1⟩ : ∃ x, bits .xor .u8 old1 x1 = x := ⟨_, rfl⟩
    rw [hv1] at v1b v1e
    have te := take_two okP0 hlt1 v0b v1b
    rw [hold0, hold1] at te
    simp only [v0e, v1e] at te
    have okE0 := set_ok (set_ok okP0 at0 v0b) (at0 + 1) v1b
    obtain ⟨P, hP⟩ : ∃ P, sealF B = P := ⟨_, rfl⟩
    rw [hP] at te okE0 pl r0 r1
    have hnP0 := pl
    obtain ⟨E, hE⟩ : ∃ E, (P.set at0 v0).set (at0 + 1) v1 = E := ⟨_, rfl⟩
    have eE : ((bytVs P).set at0 (.int .u8 v0)).set (at0 + 1) (.int .u8 v1) = bytVs E := by rw [← hE]; simp [bytVs]
    have lE : E.length = nP := by rw [← hE]; simpa using pl
    rw [hE] at te okE0
    obtain ⟨at1, h1⟩ : ∃ n, at0 + 1 = n := ⟨_, rfl⟩
    rw [h1] at r1 eE
    have h1I : (at0 : Int) + 1 = at1 := by omega
    have wr1 : IntKind.i64.wrap ((at0 : Int) + 1) = at1 := by rw [h1I]; exact IntWalk.i64_in _ (by omega)
    have n1 : at1 < nP := by omega
    have n1I : (at1 : Int) < nP := by omega
    have lE2 : E.length ≤ 1000 := by omega
    have pt := fun u (h : Vars u) v hv => b7_put v B u h hv OKB.out (by rw [HNB.out]; omega)
    rw [hP, hnP0] at pt
    have tk := fun u (h : Vars u) v hv => b7_take v E u h hv okE0 lE2
    rw [te] at tk
    have PT := Lib.hid pt
    have R0 := Lib.hid r0
    have EE := Lib.hid eE
    have LE := Lib.hid lE
    have R1 := Lib.hid r1
    clear pt r0 eE lE lE2 okE0 te hP hnP0 r1 hlt1 old1b v1b v1e hold1 h1 h1I hE pl okP0 hold0 hl hlt hnP hnI old0b v0b v0e w20 w21
    by_cases hx0 : x0 = 0
    · by_cases hx1 : x1 = 0
      · have xb0 : (x0 == 0) = true := by simpa using hx0
        have xn0 : (x0 != 0) = false := by rw [bne, xb0]; rfl
        have xb1 : (x1 == 0) = true := by simpa using hx1
        have xn1 : (x1 != 0) = false := by rw [bne, xb1]; rfl
        simp only [hx0, hx1, and_self, if_true] at tk
        have TK := Lib.hid tk
        clear tk hx0 hx1
        go_enter Try.func5, Try.ntmps5
        obtain ⟨u0, hu0⟩ : ∃ u, w.alloc (.cells #[.int .u8 x0, .int .u8 x1] 28) = u := ⟨_, rfl⟩
        have k00 : Below w.heap.size w u0 := by rw [← hu0]; exact al (Below.refl _ _) _
        have rb0 : RowAt u0 w.heap.size #[.int .u8 x0, .int .u8 x1] 28 := by rw [← hu0]; exact RowAt.new w _ _
        have hbu := hb0.keep k00
        have hVu := hV.keep k00
        have kw : Below u0.heap.size u0 u0 := Below.refl _ _
        have HU0 := Lib.hid hu0
        clear hu0
        go_wp2_with fail
        rw [HU0.out]
        refine (FEW.out _ hbu).mono ?_
        rintro e W1 ⟨pb, cb, rfl, hB, hv1⟩
        replace kw := chain kw hv1
        clear hv1
        have kz := kw.size
        go_wp2_with fail
        refine (PT.out _ (hVu.keep kw) _ hB).mono ?_
        rintro e W2 ⟨vp, rfl, hop, hv2⟩
        replace kw := chain kw hv2
        clear hv2
        replace hop := own_base hop kz
        clear kz hB
        obtain ⟨g, cap, rfl⟩ := own_some hop (by omega)
        go_wp2_with fail
        refine (GA.out _).mono ?_
        rintro e w' ⟨rfl, rfl⟩
        go_wp2_with fail
        refine wp_loop_rounds 3 ?_
        rw [rounds_succ]
        go_wp2_with fail
        have d0 : W2.cell? ⟨g, at0, none⟩ = some (.int .u8 old0) := own_cell hop at0 R0.out
        obtain ⟨fz, zg⟩ := own_open hop
        have rb := rb0.keep kw
        have e0 := rb.two.1
        have zb := rb.lt
        refine region_below 15 (by kernel_rfl) (by kernel_rfl) ?_
        simp only [List.take_succ_cons, List.take_zero, List.drop_succ_cons, List.drop_zero]
        repeat (first | (refine' InText.skip (by rfl) ?_; simp only [Act.put, List.setIfInBounds_toArray, List.set_cons_zero, List.set_cons_succ]) | (refine' InText.val (by rfl) (fun wr hr => ?_) ?_; rotate_left 1; (focus (obtain ⟨hrc, hrf⟩ := bcell hr; (go_simp <;> with_reducible rfl); done)); simp only [Act.put, List.setIfInBounds_toArray, List.set_cons_zero, List.set_cons_succ]))
        refine fun wrs hrs => ?_
        obtain ⟨hrcs, hrfs⟩ := bcell hrs
        have hos := own_set (own_keep hop hrs) at0 (by omega) (.int .u8 v0)
        have ks : Below u0.heap.size u0 (wrs.setCell ⟨g, at0, none⟩ (.int .u8 v0)) := Below.own_set (chain kw hrs) (own_keep hop hrs) at0 _
        obtain ⟨Us, hu⟩ : ∃ u, wrs.setCell ⟨g, at0, none⟩ (.int .u8 v0) = u := ⟨_, rfl⟩
        rw [hu] at hos ks
        have HUs := Lib.hid hu
        clear hu
        go_upto_region 11 with (fail)
        rw [HUs.out]
        clear d0 fz zg e0 zb hrs hrcs hrfs rb hop kw HUs
        have rb := rb0.keep ks
        have e0 := rb.two.1
        have zb := rb.lt
        go_wp2_with fail
        rw [rounds_succ]
        go_wp2_with fail
        clear e0 zb rb
        have d0 : Us.cell? ⟨g, at1, none⟩ = some (.int .u8 old1) := own_cell hos at1 R1.out
        obtain ⟨fz, zg⟩ := own_open hos
        have rb := rb0.keep ks
        have e0 := rb.two.2
        have zb := rb.lt
        refine region_below 15 (by kernel_rfl) (by kernel_rfl) ?_
        simp only [List.take_succ_cons, List.take_zero, List.drop_succ_cons, List.drop_zero]
        repeat (first | (refine' InText.skip (by rfl) ?_; simp only [Act.put, List.setIfInBounds_toArray, List.set_cons_zero, List.set_cons_succ]) | (refine' InText.val (by rfl) (fun wr hr => ?_) ?_; rotate_left 1; (focus (obtain ⟨hrc, hrf⟩ := bcell hr; (go_simp <;> with_reducible rfl); done)); simp only [Act.put, List.setIfInBounds_toArray, List.set_cons_zero, List.set_cons_succ]))
        refine fun wrt hrt => ?_
        obtain ⟨hrct, hrft⟩ := bcell hrt
        have hot := own_set (own_keep hos hrt) at1 (by omega) (.int .u8 v1)
        have kt : Below u0.heap.size u0 (wrt.setCell ⟨g, at1, none⟩ (.int .u8 v1)) := Below.own_set (chain ks hrt) (own_keep hos hrt) at1 _
        obtain ⟨Ut, hu⟩ : ∃ u, wrt.setCell ⟨g, at1, none⟩ (.int .u8 v1) = u := ⟨_, rfl⟩
        rw [hu] at hot kt
        have HUt := Lib.hid hu
        clear hu
        go_upto_region 11 with (fail)
        rw [HUt.out]
        clear d0 fz zg e0 zb hrt hrct hrft rb hos ks HUt
        have rb := rb0.keep kt
        have e0 := rb.two.2
        have zb := rb.lt
        go_wp2_with fail
        rw [rounds_succ]
        go_wp2_with fail
        clear e0 zb rb
        rw [EE.out] at hot
        have he : BytsAt Ut (.slice (some ⟨g, 0, none⟩) nP cap) E := byts_of_owned (by rw [LE.out]; exact hot)
        have kw := kt
        clear hot kt
        refine (TK.out _ (hVu.keep kw) _ he).mono ?_
        rintro e W3 ⟨vt, rfl, ht, hv3⟩
        replace kw := chain kw hv3
        clear hv3
        go_wp2_with fail
        refine (l7_lives _ (hVu.keep kw)).mono ?_
        rintro e W4 ⟨rfl, hv4⟩
        replace kw := chain kw hv4
        clear hv4
        replace kw := chain k00 kw
        clear k00
        go_wp2
        go_ret
        exact ⟨rfl, by (repeat (first | with_reducible assumption | with_reducible exact Below.refl _ _ | with_reducible refine Below.drew ?_ | with_reducible refine below_drewN ?_ _ | with_reducible refine al ?_ _ | (with_reducible refine sc ?_ ?_; (focus (first | omega | (simp; done) | (simp; omega)))) | (with_reducible refine chain ?_ (by assumption))))⟩
      · have xb0 : (x0 == 0) = true := by simpa using hx0
        have xn0 : (x0 != 0) = false := by rw [bne, xb0]; rfl
        have xb1 : (x1 == 0) = false := by simpa using hx1
        have xn1 : (x1 != 0) = true := by rw [bne, xb1]; rfl
        simp only [hx1, and_false, if_false] at tk
        have TK := Lib.hid tk
        clear tk hx0 hx1
        go_enter Try.func5, Try.ntmps5
        obtain ⟨u0, hu0⟩ : ∃ u, w.alloc (.cells #[.int .u8 x0, .int .u8 x1] 28) = u := ⟨_, rfl⟩
        have k00 : Below w.heap.size w u0 := by rw [← hu0]; exact al (Below.refl _ _) _
        have rb0 : RowAt u0 w.heap.size #[.int .u8 x0, .int .u8 x1] 28 := by rw [← hu0]; exact RowAt.new w _ _
        have hbu := hb0.keep k00
        have hVu := hV.keep k00
        have kw : Below u0.heap.size u0 u0 := Below.refl _ _
        have HU0 := Lib.hid hu0
        clear hu0
        go_wp2_with fail
        rw [HU0.out]
        refine (FEW.out _ hbu).mono ?_
        rintro e W1 ⟨pb, cb, rfl, hB, hv1⟩
        replace kw := chain kw hv1
        clear hv1
        have kz := kw.size
        go_wp2_with fail
        refine (PT.out _ (hVu.keep kw) _ hB).mono ?_
        rintro e W2 ⟨vp, rfl, hop, hv2⟩
        replace kw := chain kw hv2
        clear hv2
        replace hop := own_base hop kz
        clear kz hB
        obtain ⟨g, cap, rfl⟩ := own_some hop (by omega)
        go_wp2_with fail
        refine (GA.out _).mono ?_
        rintro e w' ⟨rfl, rfl⟩
        go_wp2_with fail
        refine wp_loop_rounds 3 ?_
        rw [rounds_succ]
        go_wp2_with fail
        have d0 : W2.cell? ⟨g, at0, none⟩ = some (.int .u8 old0) := own_cell hop at0 R0.out
        obtain ⟨fz, zg⟩ := own_open hop
        have rb := rb0.keep kw
        have e0 := rb.two.1
        have zb := rb.lt
        refine region_below 15 (by kernel_rfl) (by kernel_rfl) ?_
        simp only [List.take_succ_cons, List.take_zero, List.drop_succ_cons, List.drop_zero]
        repeat (first | (refine' InText.skip (by rfl) ?_; simp only [Act.put, List.setIfInBounds_toArray, List.set_cons_zero, List.set_cons_succ]) | (refine' InText.val (by rfl) (fun wr hr => ?_) ?_; rotate_left 1; (focus (obtain ⟨hrc, hrf⟩ := bcell hr; (go_simp <;> with_reducible rfl); done)); simp only [Act.put, List.setIfInBounds_toArray, List.set_cons_zero, List.set_cons_succ]))
        refine fun wrs hrs => ?_
        obtain ⟨hrcs, hrfs⟩ := bcell hrs
        have hos := own_set (own_keep hop hrs) at0 (by omega) (.int .u8 v0)
        have ks : Below u0.heap.size u0 (wrs.setCell ⟨g, at0, none⟩ (.int .u8 v0)) := Below.own_set (chain kw hrs) (own_keep hop hrs) at0 _
        obtain ⟨Us, hu⟩ : ∃ u, wrs.setCell ⟨g, at0, none⟩ (.int .u8 v0) = u := ⟨_, rfl⟩
        rw [hu] at hos ks
        have HUs := Lib.hid hu
        clear hu
        go_upto_region 11 with (fail)
        rw [HUs.out]
        clear d0 fz zg e0 zb hrs hrcs hrfs rb hop kw HUs
        have rb := rb0.keep ks
        have e0 := rb.two.1
        have zb := rb.lt
        go_wp2_with fail
        rw [rounds_succ]
        go_wp2_with fail
        clear e0 zb rb
        have d0 : Us.cell? ⟨g, at1, none⟩ = some (.int .u8 old1) := own_cell hos at1 R1.out
        obtain ⟨fz, zg⟩ := own_open hos
        have rb := rb0.keep ks
        have e0 := rb.two.2
        have zb := rb.lt
        refine region_below 15 (by kernel_rfl) (by kernel_rfl) ?_
        simp only [List.take_succ_cons, List.take_zero, List.drop_succ_cons, List.drop_zero]
        repeat (first | (refine' InText.skip (by rfl) ?_; simp only [Act.put, List.setIfInBounds_toArray, List.set_cons_zero, List.set_cons_succ]) | (refine' InText.val (by rfl) (fun wr hr => ?_) ?_; rotate_left 1; (focus (obtain ⟨hrc, hrf⟩ := bcell hr; (go_simp <;> with_reducible rfl); done)); simp only [Act.put, List.setIfInBounds_toArray, List.set_cons_zero, List.set_cons_succ]))
        refine fun wrt hrt => ?_
        obtain ⟨hrct, hrft⟩ := bcell hrt
        have hot := own_set (own_keep hos hrt) at1 (by omega) (.int .u8 v1)
        have kt : Below u0.heap.size u0 (wrt.setCell ⟨g, at1, none⟩ (.int .u8 v1)) := Below.own_set (chain ks hrt) (own_keep hos hrt) at1 _
        obtain ⟨Ut, hu⟩ : ∃ u, wrt.setCell ⟨g, at1, none⟩ (.int .u8 v1) = u := ⟨_, rfl⟩
        rw [hu] at hot kt
        have HUt := Lib.hid hu
        clear hu
        go_upto_region 11 with (fail)
        rw [HUt.out]
        clear d0 fz zg e0 zb hrt hrct hrft rb hos ks HUt
        have rb := rb0.keep kt
        have e0 := rb.two.2
        have zb := rb.lt
        go_wp2_with fail
        rw [rounds_succ]
        go_wp2_with fail
        clear e0 zb rb
        rw [EE.out] at hot
        have he : BytsAt Ut (.slice (some ⟨g, 0, none⟩) nP cap) E := byts_of_owned (by rw [LE.out]; exact hot)
        have kw := kt
        clear hot kt
        refine (TK.out _ (hVu.keep kw) _ he).mono ?_
        rintro e W3 ⟨vt, rfl, ht, hv3⟩
        replace kw := chain kw hv3
        clear hv3
        go_wp2_with fail
        refine (l7_lives _ (hVu.keep kw)).mono ?_
        rintro e W4 ⟨rfl, hv4⟩
        replace kw := chain kw hv4
        clear hv4
        replace kw := chain k00 kw
        clear k00
        go_wp2
        go_ret
        exact ⟨rfl, by (repeat (first | with_reducible assumption | with_reducible exact Below.refl _ _ | with_reducible refine Below.drew ?_ | with_reducible refine below_drewN ?_ _ | with_reducible refine al ?_ _ | (with_reducible refine sc ?_ ?_; (focus (first | omega | (simp; done) | (simp; omega)))) | (with_reducible refine chain ?_ (by assumption))))⟩
    · by_cases hx1 : x1 = 0
      · have xb0 : (x0 == 0) = false := by simpa using hx0
        have xn0 : (x0 != 0) = true := by rw [bne, xb0]; rfl
        have xb1 : (x1 == 0) = true := by simpa using hx1
        have xn1 : (x1 != 0) = false := by rw [bne, xb1]; rfl
        simp only [hx0, false_and, if_false] at tk
        have TK := Lib.hid tk
        clear tk hx0 hx1
        go_enter Try.func5, Try.ntmps5
        obtain ⟨u0, hu0⟩ : ∃ u, w.alloc (.cells #[.int .u8 x0, .int .u8 x1] 28) = u := ⟨_, rfl⟩
        have k00 : Below w.heap.size w u0 := by rw [← hu0]; exact al (Below.refl _ _) _
        have rb0 : RowAt u0 w.heap.size #[.int .u8 x0, .int .u8 x1] 28 := by rw [← hu0]; exact RowAt.new w _ _
        have hbu := hb0.keep k00
        have hVu := hV.keep k00
        have kw : Below u0.heap.size u0 u0 := Below.refl _ _
        have HU0 := Lib.hid hu0
        clear hu0
        go_wp2_with fail
        rw [HU0.out]
        refine (FEW.out _ hbu).mono ?_
        rintro e W1 ⟨pb, cb, rfl, hB, hv1⟩
        replace kw := chain kw hv1
        clear hv1
        have kz := kw.size
        go_wp2_with fail
        refine (PT.out _ (hVu.keep kw) _ hB).mono ?_
        rintro e W2 ⟨vp, rfl, hop, hv2⟩
        replace kw := chain kw hv2
        clear hv2
        replace hop := own_base hop kz
        clear kz hB
        obtain ⟨g, cap, rfl⟩ := own_some hop (by omega)
        go_wp2_with fail
        refine (GA.out _).mono ?_
        rintro e w' ⟨rfl, rfl⟩
        go_wp2_with fail
        refine wp_loop_rounds 3 ?_
        rw [rounds_succ]
        go_wp2_with fail
        have d0 : W2.cell? ⟨g, at0, none⟩ = some (.int .u8 old0) := own_cell hop at0 R0.out
        obtain ⟨fz, zg⟩ := own_open hop
        have rb := rb0.keep kw
        have e0 := rb.two.1
        have zb := rb.lt
        refine region_below 15 (by kernel_rfl) (by kernel_rfl) ?_
        simp only [List.take_succ_cons, List.take_zero, List.drop_succ_cons, List.drop_zero]
        repeat (first | (refine' InText.skip (by rfl) ?_; simp only [Act.put, List.setIfInBounds_toArray, List.set_cons_zero, List.set_cons_succ]) | (refine' InText.val (by rfl) (fun wr hr => ?_) ?_; rotate_left 1; (focus (obtain ⟨hrc, hrf⟩ := bcell hr; (go_simp <;> with_reducible rfl); done)); simp only [Act.put, List.setIfInBounds_toArray, List.set_cons_zero, List.set_cons_succ]))
        refine fun wrs hrs => ?_
        obtain ⟨hrcs, hrfs⟩ := bcell hrs
        have hos := own_set (own_keep hop hrs) at0 (by omega) (.int .u8 v0)
        have ks : Below u0.heap.size u0 (wrs.setCell ⟨g, at0, none⟩ (.int .u8 v0)) := Below.own_set (chain kw hrs) (own_keep hop hrs) at0 _
        obtain ⟨Us, hu⟩ : ∃ u, wrs.setCell ⟨g, at0, none⟩ (.int .u8 v0) = u := ⟨_, rfl⟩
        rw [hu] at hos ks
        have HUs := Lib.hid hu
        clear hu
        go_upto_region 11 with (fail)
        rw [HUs.out]
        clear d0 fz zg e0 zb hrs hrcs hrfs rb hop kw HUs
        have rb := rb0.keep ks
        have e0 := rb.two.1
        have zb := rb.lt
        go_wp2_with fail
        rw [rounds_succ]
        go_wp2_with fail
        clear e0 zb rb
        have d0 : Us.cell? ⟨g, at1, none⟩ = some (.int .u8 old1) := own_cell hos at1 R1.out
        obtain ⟨fz, zg⟩ := own_open hos
        have rb := rb0.keep ks
        have e0 := rb.two.2
        have zb := rb.lt
        refine region_below 15 (by kernel_rfl) (by kernel_rfl) ?_
        simp only [List.take_succ_cons, List.take_zero, List.drop_succ_cons, List.drop_zero]
        repeat (first | (refine' InText.skip (by rfl) ?_; simp only [Act.put, List.setIfInBounds_toArray, List.set_cons_zero, List.set_cons_succ]) | (refine' InText.val (by rfl) (fun wr hr => ?_) ?_; rotate_left 1; (focus (obtain ⟨hrc, hrf⟩ := bcell hr; (go_simp <;> with_reducible rfl); done)); simp only [Act.put, List.setIfInBounds_toArray, List.set_cons_zero, List.set_cons_succ]))
        refine fun wrt hrt => ?_
        obtain ⟨hrct, hrft⟩ := bcell hrt
        have hot := own_set (own_keep hos hrt) at1 (by omega) (.int .u8 v1)
        have kt : Below u0.heap.size u0 (wrt.setCell ⟨g, at1, none⟩ (.int .u8 v1)) := Below.own_set (chain ks hrt) (own_keep hos hrt) at1 _
        obtain ⟨Ut, hu⟩ : ∃ u, wrt.setCell ⟨g, at1, none⟩ (.int .u8 v1) = u := ⟨_, rfl⟩
        rw [hu] at hot kt
        have HUt := Lib.hid hu
        clear hu
        go_upto_region 11 with (fail)
        rw [HUt.out]
        clear d0 fz zg e0 zb hrt hrct hrft rb hos ks HUt
        have rb := rb0.keep kt
        have e0 := rb.two.2
        have zb := rb.lt
        go_wp2_with fail
        rw [rounds_succ]
        go_wp2_with fail
        clear e0 zb rb
        rw [EE.out] at hot
        have he : BytsAt Ut (.slice (some ⟨g, 0, none⟩) nP cap) E := byts_of_owned (by rw [LE.out]; exact hot)
        have kw := kt
        clear hot kt
        refine (TK.out _ (hVu.keep kw) _ he).mono ?_
        rintro e W3 ⟨vt, rfl, ht, hv3⟩
        replace kw := chain kw hv3
        clear hv3
        go_wp2_with fail
        refine (l7_lives _ (hVu.keep kw)).mono ?_
        rintro e W4 ⟨rfl, hv4⟩
        replace kw := chain kw hv4
        clear hv4
        replace kw := chain k00 kw
        clear k00
        go_wp2
        go_ret
        exact ⟨rfl, by (repeat (first | with_reducible assumption | with_reducible exact Below.refl _ _ | with_reducible refine Below.drew ?_ | with_reducible refine below_drewN ?_ _ | with_reducible refine al ?_ _ | (with_reducible refine sc ?_ ?_; (focus (first | omega | (simp; done) | (simp; omega)))) | (with_reducible refine chain ?_ (by assumption))))⟩
      · have xb0 : (x0 == 0) = false := by simpa using hx0
        have xn0 : (x0 != 0) = true := by rw [bne, xb0]; rfl
        have xb1 : (x1 == 0) = false := by simpa using hx1
        have xn1 : (x1 != 0) = true := by rw [bne, xb1]; rfl
        simp only [hx0, false_and, if_false] at tk
        have TK := Lib.hid tk
        clear tk hx0 hx1
        go_enter Try.func5, Try.ntmps5
        obtain ⟨u0, hu0⟩ : ∃ u, w.alloc (.cells #[.int .u8 x0, .int .u8 x1] 28) = u := ⟨_, rfl⟩
        have k00 : Below w.heap.size w u0 := by rw [← hu0]; exact al (Below.refl _ _) _
        have rb0 : RowAt u0 w.heap.size #[.int .u8 x0, .int .u8 x1] 28 := by rw [← hu0]; exact RowAt.new w _ _
        have hbu := hb0.keep k00
        have hVu := hV.keep k00
        have kw : Below u0.heap.size u0 u0 := Below.refl _ _
        have HU0 := Lib.hid hu0
        clear hu0
        go_wp2_with fail
        rw [HU0.out]
        refine (FEW.out _ hbu).mono ?_
        rintro e W1 ⟨pb, cb, rfl, hB, hv1⟩
        replace kw := chain kw hv1
        clear hv1
        have kz := kw.size
        go_wp2_with fail
        refine (PT.out _ (hVu.keep kw) _ hB).mono ?_
        rintro e W2 ⟨vp, rfl, hop, hv2⟩
        replace kw := chain kw hv2
        clear hv2
        replace hop := own_base hop kz
        clear kz hB
        obtain ⟨g, cap, rfl⟩ := own_some hop (by omega)
        go_wp2_with fail
        refine (GA.out _).mono ?_
        rintro e w' ⟨rfl, rfl⟩
        go_wp2_with fail
        refine wp_loop_rounds 3 ?_
        rw [rounds_succ]
        go_wp2_with fail
        have d0 : W2.cell? ⟨g, at0, none⟩ = some (.int .u8 old0) := own_cell hop at0 R0.out
        obtain ⟨fz, zg⟩ := own_open hop
        have rb := rb0.keep kw
        have e0 := rb.two.1
        have zb := rb.lt
        refine region_below 15 (by kernel_rfl) (by kernel_rfl) ?_
        simp only [List.take_succ_cons, List.take_zero, List.drop_succ_cons, List.drop_zero]
        repeat (first | (refine' InText.skip (by rfl) ?_; simp only [Act.put, List.setIfInBounds_toArray, List.set_cons_zero, List.set_cons_succ]) | (refine' InText.val (by rfl) (fun wr hr => ?_) ?_; rotate_left 1; (focus (obtain ⟨hrc, hrf⟩ := bcell hr; (go_simp <;> with_reducible rfl); done)); simp only [Act.put, List.setIfInBounds_toArray, List.set_cons_zero, List.set_cons_succ]))
        refine fun wrs hrs => ?_
        obtain ⟨hrcs, hrfs⟩ := bcell hrs
        have hos := own_set (own_keep hop hrs) at0 (by omega) (.int .u8 v0)
        have ks : Below u0.heap.size u0 (wrs.setCell ⟨g, at0, none⟩ (.int .u8 v0)) := Below.own_set (chain kw hrs) (own_keep hop hrs) at0 _
        obtain ⟨Us, hu⟩ : ∃ u, wrs.setCell ⟨g, at0, none⟩ (.int .u8 v0) = u := ⟨_, rfl⟩
        rw [hu] at hos ks
        have HUs := Lib.hid hu
        clear hu
        go_upto_region 11 with (fail)
        rw [HUs.out]
        clear d0 fz zg e0 zb hrs hrcs hrfs rb hop kw HUs
        have rb := rb0.keep ks
        have e0 := rb.two.1
        have zb := rb.lt
        go_wp2_with fail
        rw [rounds_succ]
        go_wp2_with fail
        clear e0 zb rb
        have d0 : Us.cell? ⟨g, at1, none⟩ = some (.int .u8 old1) := own_cell hos at1 R1.out
        obtain ⟨fz, zg⟩ := own_open hos
        have rb := rb0.keep ks
        have e0 := rb.two.2
        have zb := rb.lt
        refine region_below 15 (by kernel_rfl) (by kernel_rfl) ?_
        simp only [List.take_succ_cons, List.take_zero, List.drop_succ_cons, List.drop_zero]
        repeat (first | (refine' InText.skip (by rfl) ?_; simp only [Act.put, List.setIfInBounds_toArray, List.set_cons_zero, List.set_cons_succ]) | (refine' InText.val (by rfl) (fun wr hr => ?_) ?_; rotate_left 1; (focus (obtain ⟨hrc, hrf⟩ := bcell hr; (go_simp <;> with_reducible rfl); done)); simp only [Act.put, List.setIfInBounds_toArray, List.set_cons_zero, List.set_cons_succ]))
        refine fun wrt hrt => ?_
        obtain ⟨hrct, hrft⟩ := bcell hrt
        have hot := own_set (own_keep hos hrt) at1 (by omega) (.int .u8 v1)
        have kt : Below u0.heap.size u0 (wrt.setCell ⟨g, at1, none⟩ (.int .u8 v1)) := Below.own_set (chain ks hrt) (own_keep hos hrt) at1 _
        obtain ⟨Ut, hu⟩ : ∃ u, wrt.setCell ⟨g, at1, none⟩ (.int .u8 v1) = u := ⟨_, rfl⟩
        rw [hu] at hot kt
        have HUt := Lib.hid hu
        clear hu
        go_upto_region 11 with (fail)
        rw [HUt.out]
        clear d0 fz zg e0 zb hrt hrct hrft rb hos ks HUt
        have rb := rb0.keep kt
        have e0 := rb.two.2
        have zb := rb.lt
        go_wp2_with fail
        rw [rounds_succ]
        go_wp2_with fail
        clear e0 zb rb
        rw [EE.out] at hot
        have he : BytsAt Ut (.slice (some ⟨g, 0, none⟩) nP cap) E := byts_of_owned (by rw [LE.out]; exact hot)
        have kw := kt
        clear hot kt
        refine (TK.out _ (hVu.keep kw) _ he).mono ?_
        rintro e W3 ⟨vt, rfl, ht, hv3⟩
        replace kw := chain kw hv3
        clear hv3
        go_wp2_with fail
        refine (l7_lives _ (hVu.keep kw)).mono ?_
        rintro e W4 ⟨rfl, hv4⟩
        replace kw := chain kw hv4
        clear hv4
        replace kw := chain k00 kw
        clear k00
        go_wp2
        go_ret
        exact ⟨rfl, by (repeat (first | with_reducible assumption | with_reducible exact Below.refl _ _ | with_reducible refine Below.drew ?_ | with_reducible refine below_drewN ?_ _ | with_reducible refine al ?_ _ | (with_reducible refine sc ?_ ?_; (focus (first | omega | (simp; done) | (simp; omega)))) | (with_reducible refine chain ?_ (by assumption))))⟩
theorem own : ownKnob Try.prog.godebug = none := by kernel_rfl
set_option maxRecDepth 100000 in
theorem lifted (os : Os) (started : os.Started) (H : Type) (enc : TypeId × Value → H) :
    ReturnsInHanded {} Try.checked os 5 .any (Rows.crcBurstsSpec.pre6 enc Try.prog Try.f5 Rows.crcBurstsRow.domain false) (Rows.crcBurstsSpec.post enc Try.prog Try.f5 false true false false) := by
  refine returnsInHanded_of_change (C := Try.checked) own started (by kernel_rfl) Try.func5
    (ChangeSpec.witness6 (enc := enc) (C := Try.checked) false ⟨#[], #[.slice none 0 0, .int .i64 0, .agg #[.int .u8 0, .int .u8 0]], []⟩ 8 (by kernel_rfl) (by kernel_rfl) (by kernel_rfl) (by kernel_rfl)) ?_
  intro W base args ds gs before hval0 hW hcnd _
  have hval : ∀ (j : Nat) t v, Try.f5.params[j]? = some t → args[j]? = some v → Value.okWide Try.prog W .any base t v := hval0
  clear hval0
  have hW' := hW
  obtain ⟨p, q, hA0, hV0, rfl, hfz, hnd⟩ := hW
  have hA : DataW.TrodAll enc Try.prog W 0 (fun _ => true) true Try.f5.params.toList args.toList ds p := hA0
  rw [Try.params5] at hA hval
  obtain ⟨v0, vs0, d0, ds0, p0, q0, hargs, rfl, rfl, h0, r0⟩ := trodAll_cons hA
  obtain ⟨v1, vs1, d1, ds1, p1, q1, rfl, rfl, rfl, h1, r1⟩ := trodAll_cons r0
  obtain ⟨v2, vs2, d2, ds2, p2, q2, rfl, rfl, rfl, h2, r2⟩ := trodAll_cons r1
  obtain ⟨rfl, rfl, rfl⟩ := trodAll_nil r2
  obtain rfl : args = #[v0, v1, v2] := by cases args; simp_all
  obtain ⟨rfl, rfl⟩ := trodVars_none hV0
  simp only [List.append_nil] at hW'
  have hlt : ∀ x ∈ p0 ++ (p1 ++ (p2 ++ ([]))), x.block < W.heap.size := fun x hx => hW'.lt x (by simpa using hx)
  have hlt0 : ∀ x ∈ p0, x.block < W.heap.size := fun x hx => hlt x (List.mem_append.2 (.inl hx))
  have hlt1 : ∀ x ∈ p1, x.block < W.heap.size := fun x hx => hlt x (List.mem_append.2 (.inr (List.mem_append.2 (.inl hx))))
  have hlt2 : ∀ x ∈ p2, x.block < W.heap.size := fun x hx => hlt x (List.mem_append.2 (.inr (List.mem_append.2 (.inr (List.mem_append.2 (.inl hx))))))
  have k0 := h0
  have k1 := h1
  have k2 := h2
  have w0 := open_byts (hval 0 22 v0 rfl rfl) h0 hlt0
  obtain ⟨a1, rfl, w1⟩ := open_num (hval 1 3 v1 rfl rfl) h1
  obtain ⟨a2, rfl, w2⟩ := open_two (hval 2 28 v2 rfl rfl) h2
  clear hA0
  refine (walk v0 a1 w1 a2 w2 W w0 ⟨trivial⟩).mono fun e W' ⟨he, hg⟩ => ?_
  subst he
  exact ⟨_, rfl, _, _, _, [], _, [], hW', (trodAll_cons_mk (shut_bool Try.underlying4 _) trodAll_mk0), (trodAll_cons_mk (Below.trod laidOut (by kernel_rfl) (of_decide_eq_true (by kernel_rfl)) k0 hg hlt0) (trodAll_cons_mk (Below.trod laidOut (by kernel_rfl) (of_decide_eq_true (by kernel_rfl)) k1 hg hlt1) (trodAll_cons_mk (Below.trod laidOut (by kernel_rfl) (of_decide_eq_true (by kernel_rfl)) k2 hg hlt2) trodAll_mk0))), rfl, hg.frame _, fun h => by cases h⟩
theorem over : Rows.crcBurstsRow.holds Try.pinned (OpenSpec.ofChange Rows.crcBurstsSpec) :=
  OpenClaim.holds_of_wide 5 Try.f5 rfl rfl rfl rfl rfl rfl rfl ⟨rfl, rfl, rfl, rfl, rfl⟩ rfl rfl rfl rfl rfl (by kernel_rfl) Try.func5 (by kernel_rfl)
    (of_decide_eq_true (by kernel_rfl)) (by unfold Func.isWrapper; first | (rw [if_pos (by decide +kernel)]; kernel_rfl) | (rw [if_neg (by decide +kernel)]; exact ⟨rfl, rfl⟩))
    (fun os started H enc _ => lifted os started H enc)
theorem proved : Rows.CrcBurstsSaid := over
#print axioms proved
end Go.Proofs.Ytnpondgnmoedhaa.crcBursts
