/- For any bytes, any place, any two bytes in their place the law CrcOne of layer 7 answers true: of bytes that are the same but for two side by side the checks are the same only if these are. Conditions: none: every input. -/
import Derived.Test.YtnpondgnmoedhaaRows
import Derived.Test.YtnpondgnmoedhaaO02
import Derived.Test.YtnpondgnmoedhaaO60
import Derived.Test.YtnpondgnmoedhaaL07
import Derived.Test.YtnpondgnmoedhaaK72
import Derived.Test.YtnpondgnmoedhaaVRS
import Derived.WalkKit
import Derived.ProofKit
import Derived.OpenShut
import Derived.Below
import Derived.Carry
namespace Go.Proofs.Ytnpondgnmoedhaa.crcOne
open Go.Proofs.Ytnpondgnmoedhaa Go.ChangeShapes Go.WideShapes Go.ChangeAt Go.RowKit
set_option linter.unusedVariables false
set_option linter.unusedSimpArgs false
attribute [local go_sem ↓] Go.wp_at_zero Go.wp_at_succ
set_option maxHeartbeats 16000000 in
theorem walk (a0 : Value) (a1 : Int) (w1 : -9223372036854775808 ≤ a1 ∧ a1 ≤ 9223372036854775807) (a2 : Int) (w2 : 0 ≤ a2 ∧ a2 ≤ 255) (a3 : Int) (w3 : 0 ≤ a3 ∧ a3 ≤ 255) (w : World) (w0 : BytsIn w a0) (hV : Vars w) :
    Calls Try.prog 7 #[a0, .int .i64 a1, .int .u8 a2, .int .u8 a3] w fun e w' => e = .returned (.bool true) ∧ Below w.heap.size w w' := by
  obtain ⟨b0, hb0, ok0, hm0⟩ := w0
  obtain ⟨B, hB⟩ : ∃ B, b0.take 100 = B := ⟨_, rfl⟩
  have okB : bytOk B := hB ▸ ok0.take 100
  have lB : B.length ≤ 100 := by rw [← hB]; simp; omega
  have few0 := fun k hk => r6_few a0 b0 100 k hk hm0 (by omega)
  rw [hB] at few0
  have few : ∀ k, BytsAt k a0 b0 → Calls Try.prog 8 #[a0, .int .i64 100] k fun e w' => ∃ p cap, e = .returned (.slice p B.length cap) ∧ BytsAt w' (.slice p B.length cap) B ∧ Below k.heap.size k w' := few0
  obtain ⟨nB, hnB⟩ : ∃ n, B.length = n := ⟨_, rfl⟩
  rw [hnB] at few lB
  have FEW := Lib.hid few
  have OKB := Lib.hid okB
  have HNB := Lib.hid hnB
  clear few0 few okB hB hnB ok0 hm0
  by_cases hs : nB < 2
  · have hsI : (nB : Int) < 2 := by omega
    have kw : Below w.heap.size w w := Below.refl _ _
    go_enter Try.func7, Try.ntmps7
    go_wp2_with fail
    refine (FEW.out _ hb0).mono ?_
    rintro e W1 ⟨pb, cb, rfl, hB, hv1⟩
    replace kw := chain kw hv1
    clear hv1
    go_wp2_with fail
    refine (l7_lives _ (hV.keep kw)).mono ?_
    rintro e W2 ⟨rfl, hv2⟩
    replace kw := chain kw hv2
    replace hB := hB.keep hv2
    clear hv2
    go_wp2
    go_ret
    exact ⟨rfl, by (repeat (first | with_reducible assumption | with_reducible exact Below.refl _ _ | with_reducible refine Below.drew ?_ | with_reducible refine below_drewN ?_ _ | with_reducible refine al ?_ _ | (with_reducible refine sc ?_ ?_; (focus (first | omega | (simp; done) | (simp; omega)))) | (with_reducible refine chain ?_ (by assumption))))⟩
  · obtain ⟨i0, hi, hz, hsz, hby⟩ := byte_info
    have ga := fun k => r_around a1 ((nB : Int) - 1) w1.1 w1.2 (by omega) (by omega) k
    have ba := around_bd a1 ((nB : Int) - 1) (by omega)
    obtain ⟨at0, hat⟩ : ∃ k : Nat, aroundF a1 ((nB : Int) - 1) = k := ⟨(aroundF a1 ((nB : Int) - 1)).toNat, by omega⟩
    rw [hat] at ga ba
    have hlt : at0 + 1 < B.length := by rw [HNB.out]; omega
    have sm := same_two OKB.out hlt w2 w3
    have okE0 := set_ok (set_ok OKB.out at0 w2) (at0 + 1) w3
    obtain ⟨x0, hx0⟩ : ∃ x, B[at0]'(by omega) = x := ⟨_, rfl⟩
    obtain ⟨y0, hy0⟩ : ∃ x, B[at0 + 1] = x := ⟨_, rfl⟩
    have hlt0 : at0 < B.length := by omega
    have X0 : (bytVs B)[at0]? = some (.int .u8 x0) := by simp [bytVs, show at0 < B.length by omega, hx0]
    have Y0 : (bytVs B)[at0 + 1]? = some (.int .u8 y0) := by simp [bytVs, hlt, hy0]
    rw [hx0, hy0] at sm
    obtain ⟨E, hE⟩ : ∃ E, (B.set at0 a2).set (at0 + 1) a3 = E := ⟨_, rfl⟩
    have eE : ((bytVs B).set at0 (.int .u8 a2)).set (at0 + 1) (.int .u8 a3) = bytVs E := by rw [← hE]; simp [bytVs]
    have lE : E.length = nB := by rw [← hE]; simpa using HNB.out
    rw [hE] at sm okE0
    have lB2 : B.length ≤ 100 := by rw [HNB.out]; exact lB
    have lE2 : E.length ≤ 100 := by rw [lE]; exact lB
    obtain ⟨at1, h1⟩ : ∃ n, at0 + 1 = n := ⟨_, rfl⟩
    have h1I : (at0 : Int) + 1 = at1 := by omega
    have v1 : IntKind.i64.wrap ((at0 : Int) + 1) = at1 := by rw [h1I]; exact IntWalk.i64_in _ (by omega)
    obtain ⟨m, hm⟩ : ∃ m : Int, (nB : Int) - 1 = m := ⟨_, rfl⟩
    have vm : IntKind.i64.wrap ((nB : Int) - 1) = m := by rw [hm]; exact IntWalk.i64_in _ (by omega)
    rw [hm] at ga
    rw [h1] at Y0 eE
    have xb : ∀ h : at0 < B.length, B[at0] = x0 := fun h => hx0
    have yb : ∀ h : at1 < B.length, B[at1] = y0 := by subst h1; exact fun h => hy0
    have n0 : at0 < nB := by omega
    have n1 : at1 < nB := by omega
    have n2 : at0 ≠ at1 := by omega
    have n0I : (at0 : Int) < nB := by omega
    have n1I : (at1 : Int) < nB := by omega
    have nb2 : ¬ (nB : Int) < 2 := by omega
    have ob := fun u (h : Vars u) v hv => b7_of v B u h hv OKB.out (by omega)
    have oe := fun u (h : Vars u) v hv => b7_of v E u h hv okE0 (by omega)
    obtain ⟨cB, hcB⟩ : ∃ t : Int, ((ofV B).toNat : Int) = t := ⟨_, rfl⟩
    obtain ⟨cE, hcE⟩ : ∃ t : Int, ((ofV E).toNat : Int) = t := ⟨_, rfl⟩
    simp only [hcB] at ob
    simp only [hcE] at oe
    rw [hcB, hcE] at sm
    have GA := Lib.hid ga
    have OB := Lib.hid ob
    have OE := Lib.hid oe
    have XX := Lib.hid X0
    have XB := Lib.hid xb
    have YB := Lib.hid yb
    have YY := Lib.hid Y0
    have EE := Lib.hid eE
    have LE := Lib.hid lE
    clear ob oe ga ba hat X0 Y0 xb yb eE lE hE hlt hlt0 hx0 hy0 hcB hcE lB2 lE2 hm h1 w1 w2 w3 okE0 hs h1I
    obtain ⟨p, hp⟩ : ∃ p, (x0 == a2) = p := ⟨_, rfl⟩
    obtain ⟨q, hq⟩ : ∃ p, (y0 == a3) = p := ⟨_, rfl⟩
    rw [hp, hq] at sm
    cases p <;> cases q <;> simp only [Bool.and_true, Bool.and_false, Bool.true_and, Bool.false_and] at sm
    · have kw : Below w.heap.size w w := Below.refl _ _
      go_enter Try.func7, Try.ntmps7
      go_wp2_with fail
      refine (FEW.out _ hb0).mono ?_
      rintro e W1 ⟨pb, cb, rfl, hB, hv1⟩
      replace kw := chain kw hv1
      clear hv1
      go_wp2_with fail
      refine (GA.out _).mono ?_
      rintro e w' ⟨rfl, rfl⟩
      have hB1 := hB
      have kz := kw
      go_upto_region 9 with (at_builtin; refine app_any _ rfl _ _ 22 rfl W1.heap.size 5 i0 _ Try.underlying22 hi hz hsz hby rfl _ _ _ rfl (World.ownsRow_nil _ _ _ _) B _ _ _ rfl hB (by omega) (Nat.le_refl _) ?_; intro v1 U ho1 hg1; have k1 : Below W1.heap.size W1 U := Below.own0 (Below.refl _ _) hg1; clear hg1 hB; simp only [Nat.zero_add, List.nil_append] at ho1; obtain ⟨g, cap, rfl⟩ := own_some ho1 (by omega); obtain ⟨fz, zg⟩ := own_open ho1; have d0 := own_cell ho1 at0 XX.out; have d1 := own_cell ho1 at1 YY.out)
      have hos := own_set ho1 at0 (by omega) (.int .u8 a2)
      have ho2 := own_set hos at1 (by omega) (.int .u8 a3)
      rw [EE.out] at ho2
      have k2 : Below W1.heap.size W1 ((U.setCell ⟨g, at0, none⟩ (.int .u8 a2)).setCell ⟨g, at1, none⟩ (.int .u8 a3)) := Below.own_set (Below.own_set k1 ho1 at0 _) hos at1 _
      obtain ⟨u, hu⟩ : ∃ u, (U.setCell ⟨g, at0, none⟩ (.int .u8 a2)).setCell ⟨g, at1, none⟩ (.int .u8 a3) = u := ⟨_, rfl⟩
      rw [hu] at ho2 k2 ⊢
      clear hos k1 ho1 fz zg d0 d1 hu kw
      have kw := chain kz k2
      have hB := hB1.keep k2
      clear hB1 kz k2
      have he : BytsAt u (.slice (some ⟨g, 0, none⟩) nB cap) E := byts_of_owned (by rw [LE.out]; exact ho2)
      clear ho2
      obtain ⟨pb, cb, e0, hx⟩ := hB.form
      simp only [Value.slice.injEq] at e0
      obtain ⟨rfl, e1, rfl⟩ := e0
      clear e1
      obtain ⟨gb, ob, rfl, hcap, zb, hx⟩ := hx (by rw [HNB.out]; omega)
      have d0 := hx at0 (by rw [HNB.out]; omega)
      have d1 := hx at1 (by rw [HNB.out]; omega)
      rw [XB.out] at d0
      rw [YB.out] at d1
      clear hx
      go_wp2_with fail
      refine (OB.out _ (hV.keep kw) _ hB).mono ?_
      rintro e W2 ⟨rfl, hv2⟩
      replace kw := chain kw hv2
      replace hB := hB.keep hv2
      replace he := he.keep hv2
      clear hv2
      go_wp2_with fail
      refine (OE.out _ (hV.keep kw) _ he).mono ?_
      rintro e W3 ⟨rfl, hv3⟩
      replace kw := chain kw hv3
      replace hB := hB.keep hv3
      replace he := he.keep hv3
      clear hv3
      go_wp2_with fail
      refine (l7_lives _ (hV.keep kw)).mono ?_
      rintro e W4 ⟨rfl, hv4⟩
      replace kw := chain kw hv4
      replace hB := hB.keep hv4
      replace he := he.keep hv4
      clear hv4
      go_wp2
      go_ret
      exact ⟨rfl, by (repeat (first | with_reducible assumption | with_reducible exact Below.refl _ _ | with_reducible refine Below.drew ?_ | with_reducible refine below_drewN ?_ _ | with_reducible refine al ?_ _ | (with_reducible refine sc ?_ ?_; (focus (first | omega | (simp; done) | (simp; omega)))) | (with_reducible refine chain ?_ (by assumption))))⟩
    · have kw : Below w.heap.size w w := Below.refl _ _
      go_enter Try.func7, Try.ntmps7
      go_wp2_with fail
      refine (FEW.out _ hb0).mono ?_
      rintro e W1 ⟨pb, cb, rfl, hB, hv1⟩
      replace kw := chain kw hv1
      clear hv1
      go_wp2_with fail
      refine (GA.out _).mono ?_
      rintro e w' ⟨rfl, rfl⟩
      have hB1 := hB
      have kz := kw
      go_upto_region 9 with (at_builtin; refine app_any _ rfl _ _ 22 rfl W1.heap.size 5 i0 _ Try.underlying22 hi hz hsz hby rfl _ _ _ rfl (World.ownsRow_nil _ _ _ _) B _ _ _ rfl hB (by omega) (Nat.le_refl _) ?_; intro v1 U ho1 hg1; have k1 : Below W1.heap.size W1 U := Below.own0 (Below.refl _ _) hg1; clear hg1 hB; simp only [Nat.zero_add, List.nil_append] at ho1; obtain ⟨g, cap, rfl⟩ := own_some ho1 (by omega); obtain ⟨fz, zg⟩ := own_open ho1; have d0 := own_cell ho1 at0 XX.out; have d1 := own_cell ho1 at1 YY.out)
      have hos := own_set ho1 at0 (by omega) (.int .u8 a2)
      have ho2 := own_set hos at1 (by omega) (.int .u8 a3)
      rw [EE.out] at ho2
      have k2 : Below W1.heap.size W1 ((U.setCell ⟨g, at0, none⟩ (.int .u8 a2)).setCell ⟨g, at1, none⟩ (.int .u8 a3)) := Below.own_set (Below.own_set k1 ho1 at0 _) hos at1 _
      obtain ⟨u, hu⟩ : ∃ u, (U.setCell ⟨g, at0, none⟩ (.int .u8 a2)).setCell ⟨g, at1, none⟩ (.int .u8 a3) = u := ⟨_, rfl⟩
      rw [hu] at ho2 k2 ⊢
      clear hos k1 ho1 fz zg d0 d1 hu kw
      have kw := chain kz k2
      have hB := hB1.keep k2
      clear hB1 kz k2
      have he : BytsAt u (.slice (some ⟨g, 0, none⟩) nB cap) E := byts_of_owned (by rw [LE.out]; exact ho2)
      clear ho2
      obtain ⟨pb, cb, e0, hx⟩ := hB.form
      simp only [Value.slice.injEq] at e0
      obtain ⟨rfl, e1, rfl⟩ := e0
      clear e1
      obtain ⟨gb, ob, rfl, hcap, zb, hx⟩ := hx (by rw [HNB.out]; omega)
      have d0 := hx at0 (by rw [HNB.out]; omega)
      have d1 := hx at1 (by rw [HNB.out]; omega)
      rw [XB.out] at d0
      rw [YB.out] at d1
      clear hx
      go_wp2_with fail
      refine (OB.out _ (hV.keep kw) _ hB).mono ?_
      rintro e W2 ⟨rfl, hv2⟩
      replace kw := chain kw hv2
      replace hB := hB.keep hv2
      replace he := he.keep hv2
      clear hv2
      go_wp2_with fail
      refine (OE.out _ (hV.keep kw) _ he).mono ?_
      rintro e W3 ⟨rfl, hv3⟩
      replace kw := chain kw hv3
      replace hB := hB.keep hv3
      replace he := he.keep hv3
      clear hv3
      go_wp2_with fail
      refine (l7_lives _ (hV.keep kw)).mono ?_
      rintro e W4 ⟨rfl, hv4⟩
      replace kw := chain kw hv4
      replace hB := hB.keep hv4
      replace he := he.keep hv4
      clear hv4
      go_wp2
      go_ret
      exact ⟨rfl, by (repeat (first | with_reducible assumption | with_reducible exact Below.refl _ _ | with_reducible refine Below.drew ?_ | with_reducible refine below_drewN ?_ _ | with_reducible refine al ?_ _ | (with_reducible refine sc ?_ ?_; (focus (first | omega | (simp; done) | (simp; omega)))) | (with_reducible refine chain ?_ (by assumption))))⟩
    · have kw : Below w.heap.size w w := Below.refl _ _
      go_enter Try.func7, Try.ntmps7
      go_wp2_with fail
      refine (FEW.out _ hb0).mono ?_
      rintro e W1 ⟨pb, cb, rfl, hB, hv1⟩
      replace kw := chain kw hv1
      clear hv1
      go_wp2_with fail
      refine (GA.out _).mono ?_
      rintro e w' ⟨rfl, rfl⟩
      have hB1 := hB
      have kz := kw
      go_upto_region 9 with (at_builtin; refine app_any _ rfl _ _ 22 rfl W1.heap.size 5 i0 _ Try.underlying22 hi hz hsz hby rfl _ _ _ rfl (World.ownsRow_nil _ _ _ _) B _ _ _ rfl hB (by omega) (Nat.le_refl _) ?_; intro v1 U ho1 hg1; have k1 : Below W1.heap.size W1 U := Below.own0 (Below.refl _ _) hg1; clear hg1 hB; simp only [Nat.zero_add, List.nil_append] at ho1; obtain ⟨g, cap, rfl⟩ := own_some ho1 (by omega); obtain ⟨fz, zg⟩ := own_open ho1; have d0 := own_cell ho1 at0 XX.out; have d1 := own_cell ho1 at1 YY.out)
      have hos := own_set ho1 at0 (by omega) (.int .u8 a2)
      have ho2 := own_set hos at1 (by omega) (.int .u8 a3)
      rw [EE.out] at ho2
      have k2 : Below W1.heap.size W1 ((U.setCell ⟨g, at0, none⟩ (.int .u8 a2)).setCell ⟨g, at1, none⟩ (.int .u8 a3)) := Below.own_set (Below.own_set k1 ho1 at0 _) hos at1 _
      obtain ⟨u, hu⟩ : ∃ u, (U.setCell ⟨g, at0, none⟩ (.int .u8 a2)).setCell ⟨g, at1, none⟩ (.int .u8 a3) = u := ⟨_, rfl⟩
      rw [hu] at ho2 k2 ⊢
      clear hos k1 ho1 fz zg d0 d1 hu kw
      have kw := chain kz k2
      have hB := hB1.keep k2
      clear hB1 kz k2
      have he : BytsAt u (.slice (some ⟨g, 0, none⟩) nB cap) E := byts_of_owned (by rw [LE.out]; exact ho2)
      clear ho2
      obtain ⟨pb, cb, e0, hx⟩ := hB.form
      simp only [Value.slice.injEq] at e0
      obtain ⟨rfl, e1, rfl⟩ := e0
      clear e1
      obtain ⟨gb, ob, rfl, hcap, zb, hx⟩ := hx (by rw [HNB.out]; omega)
      have d0 := hx at0 (by rw [HNB.out]; omega)
      have d1 := hx at1 (by rw [HNB.out]; omega)
      rw [XB.out] at d0
      rw [YB.out] at d1
      clear hx
      go_wp2_with fail
      refine (OB.out _ (hV.keep kw) _ hB).mono ?_
      rintro e W2 ⟨rfl, hv2⟩
      replace kw := chain kw hv2
      replace hB := hB.keep hv2
      replace he := he.keep hv2
      clear hv2
      go_wp2_with fail
      refine (OE.out _ (hV.keep kw) _ he).mono ?_
      rintro e W3 ⟨rfl, hv3⟩
      replace kw := chain kw hv3
      replace hB := hB.keep hv3
      replace he := he.keep hv3
      clear hv3
      go_wp2_with fail
      refine (l7_lives _ (hV.keep kw)).mono ?_
      rintro e W4 ⟨rfl, hv4⟩
      replace kw := chain kw hv4
      replace hB := hB.keep hv4
      replace he := he.keep hv4
      clear hv4
      go_wp2
      go_ret
      exact ⟨rfl, by (repeat (first | with_reducible assumption | with_reducible exact Below.refl _ _ | with_reducible refine Below.drew ?_ | with_reducible refine below_drewN ?_ _ | with_reducible refine al ?_ _ | (with_reducible refine sc ?_ ?_; (focus (first | omega | (simp; done) | (simp; omega)))) | (with_reducible refine chain ?_ (by assumption))))⟩
    · have kw : Below w.heap.size w w := Below.refl _ _
      go_enter Try.func7, Try.ntmps7
      go_wp2_with fail
      refine (FEW.out _ hb0).mono ?_
      rintro e W1 ⟨pb, cb, rfl, hB, hv1⟩
      replace kw := chain kw hv1
      clear hv1
      go_wp2_with fail
      refine (GA.out _).mono ?_
      rintro e w' ⟨rfl, rfl⟩
      have hB1 := hB
      have kz := kw
      go_upto_region 9 with (at_builtin; refine app_any _ rfl _ _ 22 rfl W1.heap.size 5 i0 _ Try.underlying22 hi hz hsz hby rfl _ _ _ rfl (World.ownsRow_nil _ _ _ _) B _ _ _ rfl hB (by omega) (Nat.le_refl _) ?_; intro v1 U ho1 hg1; have k1 : Below W1.heap.size W1 U := Below.own0 (Below.refl _ _) hg1; clear hg1 hB; simp only [Nat.zero_add, List.nil_append] at ho1; obtain ⟨g, cap, rfl⟩ := own_some ho1 (by omega); obtain ⟨fz, zg⟩ := own_open ho1; have d0 := own_cell ho1 at0 XX.out; have d1 := own_cell ho1 at1 YY.out)
      have hos := own_set ho1 at0 (by omega) (.int .u8 a2)
      have ho2 := own_set hos at1 (by omega) (.int .u8 a3)
      rw [EE.out] at ho2
      have k2 : Below W1.heap.size W1 ((U.setCell ⟨g, at0, none⟩ (.int .u8 a2)).setCell ⟨g, at1, none⟩ (.int .u8 a3)) := Below.own_set (Below.own_set k1 ho1 at0 _) hos at1 _
      obtain ⟨u, hu⟩ : ∃ u, (U.setCell ⟨g, at0, none⟩ (.int .u8 a2)).setCell ⟨g, at1, none⟩ (.int .u8 a3) = u := ⟨_, rfl⟩
      rw [hu] at ho2 k2 ⊢
      clear hos k1 ho1 fz zg d0 d1 hu kw
      have kw := chain kz k2
      have hB := hB1.keep k2
      clear hB1 kz k2
      have he : BytsAt u (.slice (some ⟨g, 0, none⟩) nB cap) E := byts_of_owned (by rw [LE.out]; exact ho2)
      clear ho2
      obtain ⟨pb, cb, e0, hx⟩ := hB.form
      simp only [Value.slice.injEq] at e0
      obtain ⟨rfl, e1, rfl⟩ := e0
      clear e1
      obtain ⟨gb, ob, rfl, hcap, zb, hx⟩ := hx (by rw [HNB.out]; omega)
      have d0 := hx at0 (by rw [HNB.out]; omega)
      have d1 := hx at1 (by rw [HNB.out]; omega)
      rw [XB.out] at d0
      rw [YB.out] at d1
      clear hx
      go_wp2_with fail
      refine (OB.out _ (hV.keep kw) _ hB).mono ?_
      rintro e W2 ⟨rfl, hv2⟩
      replace kw := chain kw hv2
      replace hB := hB.keep hv2
      replace he := he.keep hv2
      clear hv2
      go_wp2_with fail
      refine (OE.out _ (hV.keep kw) _ he).mono ?_
      rintro e W3 ⟨rfl, hv3⟩
      replace kw := chain kw hv3
      replace hB := hB.keep hv3
      replace he := he.keep hv3
      clear hv3
      go_wp2_with fail
      refine (l7_lives _ (hV.keep kw)).mono ?_
      rintro e W4 ⟨rfl, hv4⟩
      replace kw := chain kw hv4
      replace hB := hB.keep hv4
      replace he := he.keep hv4
      clear hv4
      go_wp2
      go_ret
      exact ⟨rfl, by (repeat (first | with_reducible assumption | with_reducible exact Below.refl _ _ | with_reducible refine Below.drew ?_ | with_reducible refine below_drewN ?_ _ | with_reducible refine al ?_ _ | (with_reducible refine sc ?_ ?_; (focus (first | omega | (simp; done) | (simp; omega)))) | (with_reducible refine chain ?_ (by assumption))))⟩
theorem own : ownKnob Try.prog.godebug = none := by kernel_rfl
set_option maxRecDepth 100000 in
theorem lifted (os : Os) (started : os.Started) (H : Type) (enc : TypeId × Value → H) :
    ReturnsInHanded {} Try.checked os 7 .any (Rows.crcOneSpec.pre6 enc Try.prog Try.f7 Rows.crcOneRow.domain false) (Rows.crcOneSpec.post enc Try.prog Try.f7 false true false false) := by
  refine returnsInHanded_of_change (C := Try.checked) own started (by kernel_rfl) Try.func7
    (ChangeSpec.witness6 (enc := enc) (C := Try.checked) false ⟨#[], #[.slice none 0 0, .int .i64 0, .int .u8 0, .int .u8 0], []⟩ 8 (by kernel_rfl) (by kernel_rfl) (by kernel_rfl) (by kernel_rfl)) ?_
  intro W base args ds gs before hval0 hW hcnd _
  have hval : ∀ (j : Nat) t v, Try.f7.params[j]? = some t → args[j]? = some v → Value.okWide Try.prog W .any base t v := hval0
  clear hval0
  have hW' := hW
  obtain ⟨p, q, hA0, hV0, rfl, hfz, hnd⟩ := hW
  have hA : DataW.TrodAll enc Try.prog W 0 (fun _ => true) true Try.f7.params.toList args.toList ds p := hA0
  rw [Try.params7] at hA hval
  obtain ⟨v0, vs0, d0, ds0, p0, q0, hargs, rfl, rfl, h0, r0⟩ := trodAll_cons hA
  obtain ⟨v1, vs1, d1, ds1, p1, q1, rfl, rfl, rfl, h1, r1⟩ := trodAll_cons r0
  obtain ⟨v2, vs2, d2, ds2, p2, q2, rfl, rfl, rfl, h2, r2⟩ := trodAll_cons r1
  obtain ⟨v3, vs3, d3, ds3, p3, q3, rfl, rfl, rfl, h3, r3⟩ := trodAll_cons r2
  obtain ⟨rfl, rfl, rfl⟩ := trodAll_nil r3
  obtain rfl : args = #[v0, v1, v2, v3] := by cases args; simp_all
  obtain ⟨rfl, rfl⟩ := trodVars_none hV0
  simp only [List.append_nil] at hW'
  have hlt : ∀ x ∈ p0 ++ (p1 ++ (p2 ++ (p3 ++ ([])))), x.block < W.heap.size := fun x hx => hW'.lt x (by simpa using hx)
  have hlt0 : ∀ x ∈ p0, x.block < W.heap.size := fun x hx => hlt x (List.mem_append.2 (.inl hx))
  have hlt1 : ∀ x ∈ p1, x.block < W.heap.size := fun x hx => hlt x (List.mem_append.2 (.inr (List.mem_append.2 (.inl hx))))
  have hlt2 : ∀ x ∈ p2, x.block < W.heap.size := fun x hx => hlt x (List.mem_append.2 (.inr (List.mem_append.2 (.inr (List.mem_append.2 (.inl hx))))))
  have hlt3 : ∀ x ∈ p3, x.block < W.heap.size := fun x hx => hlt x (List.mem_append.2 (.inr (List.mem_append.2 (.inr (List.mem_append.2 (.inr (List.mem_append.2 (.inl hx))))))))
  have k0 := h0
  have k1 := h1
  have k2 := h2
  have k3 := h3
  have w0 := open_byts (hval 0 22 v0 rfl rfl) h0 hlt0
  obtain ⟨a1, rfl, w1⟩ := open_num (hval 1 3 v1 rfl rfl) h1
  obtain ⟨a2, rfl, w2⟩ := open_byte (hval 2 5 v2 rfl rfl) h2
  obtain ⟨a3, rfl, w3⟩ := open_byte (hval 3 5 v3 rfl rfl) h3
  clear hA0
  refine (walk v0 a1 w1 a2 w2 a3 w3 W w0 ⟨trivial⟩).mono fun e W' ⟨he, hg⟩ => ?_
  subst he
  exact ⟨_, rfl, _, _, _, [], _, [], hW', (trodAll_cons_mk (shut_bool Try.underlying4 _) trodAll_mk0), (trodAll_cons_mk (Below.trod laidOut (by kernel_rfl) (of_decide_eq_true (by kernel_rfl)) k0 hg hlt0) (trodAll_cons_mk (Below.trod laidOut (by kernel_rfl) (of_decide_eq_true (by kernel_rfl)) k1 hg hlt1) (trodAll_cons_mk (Below.trod laidOut (by kernel_rfl) (of_decide_eq_true (by kernel_rfl)) k2 hg hlt2) (trodAll_cons_mk (Below.trod laidOut (by kernel_rfl) (of_decide_eq_true (by kernel_rfl)) k3 hg hlt3) trodAll_mk0)))), rfl, hg.frame _, fun h => by cases h⟩
theorem over : Rows.crcOneRow.holds Try.pinned (OpenSpec.ofChange Rows.crcOneSpec) :=
  OpenClaim.holds_of_wide 7 Try.f7 rfl rfl rfl rfl rfl rfl rfl ⟨rfl, rfl, rfl, rfl, rfl⟩ rfl rfl rfl rfl rfl (by kernel_rfl) Try.func7 (by kernel_rfl)
    (of_decide_eq_true (by kernel_rfl)) (by unfold Func.isWrapper; first | (rw [if_pos (by decide +kernel)]; kernel_rfl) | (rw [if_neg (by decide +kernel)]; exact ⟨rfl, rfl⟩))
    (fun os started H enc _ => lifted os started H enc)
theorem proved : Rows.CrcOneSaid := over
#print axioms proved
end Go.Proofs.Ytnpondgnmoedhaa.crcOne
