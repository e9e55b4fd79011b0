/- For any bytes, any place, any byte the law CrcTakes of layer 7 answers true: what is checked, or why it is not, is the document's. Conditions: none: every input. -/
import Derived.Test.YtnpondgnmoedhaaRows
import Derived.Test.YtnpondgnmoedhaaO02
import Derived.Test.YtnpondgnmoedhaaO60
import Derived.Test.YtnpondgnmoedhaaL07
import Derived.Test.YtnpondgnmoedhaaK72
import Derived.Test.YtnpondgnmoedhaaVRS
import Derived.WalkKit
import Derived.ProofKit
import Derived.OpenShut
import Derived.Below
import Derived.Carry
namespace Go.Proofs.Ytnpondgnmoedhaa.crcTakes
open Go.Proofs.Ytnpondgnmoedhaa Go.ChangeShapes Go.WideShapes Go.ChangeAt Go.RowKit
set_option linter.unusedVariables false
set_option linter.unusedSimpArgs false
attribute [local go_sem ↓] Go.wp_at_zero Go.wp_at_succ
set_option maxHeartbeats 16000000 in
theorem walk (a0 : Value) (a1 : Int) (w1 : -9223372036854775808 ≤ a1 ∧ a1 ≤ 9223372036854775807) (a2 : Int) (w2 : 0 ≤ a2 ∧ a2 ≤ 255) (w : World) (w0 : BytsIn w a0) (hV : Vars w) :
    Calls Try.prog 4 #[a0, .int .i64 a1, .int .u8 a2] w fun e w' => e = .returned (.bool true) ∧ Below w.heap.size w w' := by
  obtain ⟨b0, hb0, ok0, hm0⟩ := w0
  obtain ⟨B, hB⟩ : ∃ B, b0.take 100 = B := ⟨_, rfl⟩
  have okB : bytOk B := hB ▸ ok0.take 100
  have lB : B.length ≤ 100 := by rw [← hB]; simp; omega
  have few0 := fun k hk => r6_few a0 b0 100 k hk hm0 (by omega)
  rw [hB] at few0
  have few : ∀ k, BytsAt k a0 b0 → Calls Try.prog 8 #[a0, .int .i64 100] k fun e w' => ∃ p cap, e = .returned (.slice p B.length cap) ∧ BytsAt w' (.slice p B.length cap) B ∧ Below k.heap.size k w' := few0
  obtain ⟨nB, hnB⟩ : ∃ n, B.length = n := ⟨_, rfl⟩
  rw [hnB] at few lB
  have FEW := Lib.hid few
  have OKB := Lib.hid okB
  have HNB := Lib.hid hnB
  clear few0 few okB hB hnB ok0 hm0
  have okP0 : bytOk (sealF B) := put_ok OKB.out
  have pl : (sealF B).length = nB + 2 := by rw [put_len, HNB.out]
  have ga := fun k => r_around a1 ((nB : Int) + 2) w1.1 w1.2 (by omega) (by omega) k
  have ba := around_bd a1 ((nB : Int) + 2) (by omega)
  obtain ⟨at0, hat⟩ : ∃ k : Nat, aroundF a1 ((nB : Int) + 2) = k := ⟨(aroundF a1 ((nB : Int) + 2)).toNat, by omega⟩
  rw [hat] at ga ba
  have hlt : at0 < (sealF B).length := by omega
  have ge := good_turned okP0 hlt w2
  have okE0 := set_ok okP0 at0 w2
  obtain ⟨old, hold⟩ : ∃ x, (sealF B)[at0] = x := ⟨_, rfl⟩
  have old2 : (bytVs (sealF B))[at0]? = some (.int .u8 old) := by simp [bytVs, hlt, hold]
  rw [hold] at ge
  obtain ⟨P, hP⟩ : ∃ P, sealF B = P := ⟨_, rfl⟩
  rw [hP] at ge okP0 okE0 pl old2
  obtain ⟨E, hE⟩ : ∃ E, P.set at0 a2 = E := ⟨_, rfl⟩
  have eE : (bytVs P).set at0 (.int .u8 a2) = bytVs E := by rw [← hE]; simp [bytVs]
  have lE : E.length = nB + 2 := by rw [← hE]; simpa using pl
  rw [hE] at ge okE0
  have lB2 : B.length ≤ 100 := by rw [HNB.out]; exact lB
  obtain ⟨nP, hnP⟩ : ∃ n, nB + 2 = n := ⟨_, rfl⟩
  have hnI : (nB : Int) + 2 = nP := by omega
  have w2I : IntKind.i64.wrap ((nB : Int) + 2) = nP := by rw [hnI]; exact IntWalk.i64_in _ (by omega)
  rw [hnI] at ga
  rw [hnP] at pl lE
  have ba1 : at0 < nP := by omega
  have lP : nP ≤ 102 := by omega
  have tb := fun u (h : Vars u) v hv => b7_take v B u h hv OKB.out (by omega)
  have rb0 := fun u v hv => r7_take v B u hv OKB.out (by omega)
  have gb := fun u (h : Vars u) v hv => b7_good v B u h hv OKB.out (by omega)
  have te := fun u (h : Vars u) v hv => b7_take v E u h hv okE0 (by omega)
  have re := fun u v hv => r7_take v E u hv okE0 (by omega)
  have gf := fun u (h : Vars u) v hv => b7_good v E u h hv okE0 (by omega)
  have gl := fun u (h : Vars u) v hv => b7_good v E u h hv okE0 (by omega)
  simp only [ge] at gl
  simp only [goodB_iff] at gb gf
  obtain ⟨tB, htB⟩ : ∃ t, takeE B = t := ⟨_, rfl⟩
  obtain ⟨tE, htE⟩ : ∃ t, takeE E = t := ⟨_, rfl⟩
  simp only [htB] at tb rb0 gb
  simp only [htE] at te re gf
  have OTB := Lib.hid (takeF_ok OKB.out)
  have OTE := Lib.hid (takeF_ok okE0)
  obtain ⟨fB, hfB⟩ : ∃ t, takeF B = t := ⟨_, rfl⟩
  obtain ⟨fE, hfE⟩ : ∃ t, takeF E = t := ⟨_, rfl⟩
  simp only [hfB] at tb rb0 OTB
  simp only [hfE] at te re OTE
  have GA := Lib.hid ga
  have TB := Lib.hid tb
  have RB := Lib.hid rb0
  have GB := Lib.hid gb
  have TE := Lib.hid te
  have RE := Lib.hid re
  have GE := Lib.hid gf
  have GL := Lib.hid gl
  have HP := Lib.hid hP
  have HLP := Lib.hid pl
  have OKP := Lib.hid okP0
  have OLD := Lib.hid old2
  have EE := Lib.hid eE
  have LE := Lib.hid lE
  clear tb rb0 gb te re gf gl ga ba hat hP pl okP0 okE0 old2 eE lE hE hold ge hlt htB htE hfB hfE lB2 hnP w1
  have kw : Below w.heap.size w w := Below.refl _ _
  go_enter Try.func4, Try.ntmps4
  go_wp2_with fail
  refine (FEW.out _ hb0).mono ?_
  rintro e W1 ⟨pb, cb, rfl, hB, hv1⟩
  replace kw := chain kw hv1
  clear hv1
  have hB1 := hB
  have kz := kw
  have k1 : Below W1.heap.size W1 W1 := Below.refl _ _
  go_wp2_with fail
  refine (b7_put _ B _ (hV.keep kw) hB OKB.out (by rw [HNB.out]; omega)).mono ?_
  rintro e W2 ⟨vp, rfl, hop, hv2⟩
  replace kw := chain kw hv2
  replace hB := hB.keep hv2
  replace k1 := chain k1 hv2
  clear hv2
  rw [HP.out, HLP.out] at hop
  obtain ⟨g, cap, rfl⟩ : ∃ g cap, vp = .slice (some ⟨g, 0, none⟩) nP cap := by
    rcases hop.2 with ⟨_, hz0⟩ | ⟨g, cap, cur, rfl, _⟩
    · omega
    · exact ⟨g, cap, rfl⟩
  go_wp2_with fail
  refine (l7_put _ B _ hB OKB.out (by rw [HNB.out]; omega)).mono ?_
  rintro e W3 ⟨vq, rfl, hq, hv3⟩
  replace kw := chain kw hv3
  replace hB := hB.keep hv3
  replace k1 := chain k1 hv3
  replace hop := own_keep hop hv3
  clear hv3
  rw [HP.out] at hq
  have hp : BytsAt W3 (.slice (some ⟨g, 0, none⟩) nP cap) P := byts_of_owned (by rw [HLP.out]; exact hop)
  go_wp2_with fail
  refine (l7_same _ _ _ _ rfl _ hp hq OKP.out).mono ?_
  rintro e W4 ⟨rfl, hv4⟩
  replace kw := chain kw hv4
  replace hB := hB.keep hv4
  replace k1 := chain k1 hv4
  replace hop := own_keep hop hv4
  replace hq := hq.keep hv4
  replace hp := hp.keep hv4
  clear hv4
  clear hp hq
  go_wp2_with fail
  refine (GA.out _).mono ?_
  rintro e w' ⟨rfl, rfl⟩
  have d0 : W4.cell? ⟨g, at0, none⟩ = some (.int .u8 old) := own_cell hop at0 OLD.out
  obtain ⟨cur, hgg⟩ : ∃ cur, W4.heap[g]? = some (.cells cur 5 (0, 0)) := by
    rcases hop.2 with ⟨h, _⟩ | ⟨g', cap', cur, e, _, h, _⟩
    · cases h
    · simp only [Value.slice.injEq, Option.some.injEq, Addr.mk.injEq] at e
      obtain ⟨⟨rfl, _⟩, _⟩ := e
      exact ⟨cur, h⟩
  have fz : ∀ o, W4.frozen? ⟨g, o, none⟩ = false := fun o => by simp [World.frozen?, hgg]
  have zg : g < W4.heap.size := (Array.getElem?_eq_some_iff.1 hgg).1
  have hos := own_set hop at0 (by omega) (.int .u8 a2)
  rw [EE.out] at hos
  have k2 : Below W1.heap.size W1 (W4.setCell ⟨g, at0, none⟩ (.int .u8 a2)) := Below.own_set k1 hop at0 _
  obtain ⟨U, hU⟩ : ∃ U, W4.setCell ⟨g, at0, none⟩ (.int .u8 a2) = U := ⟨_, rfl⟩
  rw [hU] at hos k2
  have HU := Lib.hid hU
  clear hgg hU kw hB
  replace hB := hB1.keep k2
  have kw := chain kz k2
  have he : BytsAt U (.slice (some ⟨g, 0, none⟩) nP cap) E := byts_of_owned (by rw [LE.out]; exact hos)
  clear hos k1 k2 kz hB1
  go_upto_region 10 with (fail)
  rw [HU.out]
  clear d0 fz zg hop
  obtain ⟨u2, hu⟩ : ∃ u, U.alloc (.cells #[.slice pb nB cb, .slice (some ⟨g, 0, none⟩) nP cap] 22) = u := ⟨_, rfl⟩
  have ku : Below U.heap.size U u2 := by rw [← hu]; exact al (Below.refl _ _) _
  have rb : RowAt u2 U.heap.size #[.slice pb nB cb, .slice (some ⟨g, 0, none⟩) nP cap] 22 := by rw [← hu]; exact RowAt.new U _ _
  replace kw := chain kw ku
  replace he := he.keep ku
  replace hB := hB.keep ku
  have HU2 := Lib.hid hu
  clear hu ku
  go_upto_region 11 with (fail)
  rw [HU2.out]
  go_wp2_with fail
  refine wp_loop_rounds 3 ?_
  rw [rounds_succ]
  have d0 := rb.two.1
  have zb := rb.lt
  go_wp2_with fail
  refine (TB.out _ (hV.keep kw) _ hB).mono ?_
  rintro e W5 ⟨vt, rfl, ht, hv5⟩
  replace kw := chain kw hv5
  replace hB := hB.keep hv5
  replace he := he.keep hv5
  replace rb := rb.keep hv5
  clear hv5
  clear d0 zb
  have d0 := rb.two.1
  have zb := rb.lt
  go_wp2_with fail
  refine (RB.out _ _ hB).mono ?_
  rintro e W6 ⟨vr, rfl, hr, hv6⟩
  replace kw := chain kw hv6
  replace hB := hB.keep hv6
  replace he := he.keep hv6
  replace rb := rb.keep hv6
  replace ht := ht.keep hv6
  clear hv6
  clear d0 zb
  have d0 := rb.two.1
  have zb := rb.lt
  go_wp2_with fail
  refine (l7_same _ _ _ _ rfl _ ht hr OTB.out).mono ?_
  rintro e W7 ⟨rfl, hv7⟩
  replace kw := chain kw hv7
  replace hB := hB.keep hv7
  replace he := he.keep hv7
  replace rb := rb.keep hv7
  replace ht := ht.keep hv7
  replace hr := hr.keep hv7
  clear hv7
  clear d0 zb
  have d0 := rb.two.1
  have zb := rb.lt
  go_wp2_with fail
  refine (GB.out _ (hV.keep kw) _ hB).mono ?_
  rintro e W8 ⟨rfl, hv8⟩
  replace kw := chain kw hv8
  replace hB := hB.keep hv8
  replace he := he.keep hv8
  replace rb := rb.keep hv8
  replace ht := ht.keep hv8
  replace hr := hr.keep hv8
  clear hv8
  clear d0 zb
  clear ht hr
  go_wp2_with fail
  rw [rounds_succ]
  have d0 := rb.two.2
  have zb := rb.lt
  go_wp2_with fail
  refine (TE.out _ (hV.keep kw) _ he).mono ?_
  rintro e W9 ⟨vt, rfl, ht, hv9⟩
  replace kw := chain kw hv9
  replace hB := hB.keep hv9
  replace he := he.keep hv9
  replace rb := rb.keep hv9
  clear hv9
  clear d0 zb
  have d0 := rb.two.2
  have zb := rb.lt
  go_wp2_with fail
  refine (RE.out _ _ he).mono ?_
  rintro e W10 ⟨vr, rfl, hr, hv10⟩
  replace kw := chain kw hv10
  replace hB := hB.keep hv10
  replace he := he.keep hv10
  replace rb := rb.keep hv10
  replace ht := ht.keep hv10
  clear hv10
  clear d0 zb
  have d0 := rb.two.2
  have zb := rb.lt
  go_wp2_with fail
  refine (l7_same _ _ _ _ rfl _ ht hr OTE.out).mono ?_
  rintro e W11 ⟨rfl, hv11⟩
  replace kw := chain kw hv11
  replace hB := hB.keep hv11
  replace he := he.keep hv11
  replace rb := rb.keep hv11
  replace ht := ht.keep hv11
  replace hr := hr.keep hv11
  clear hv11
  clear d0 zb
  have d0 := rb.two.2
  have zb := rb.lt
  go_wp2_with fail
  refine (GE.out _ (hV.keep kw) _ he).mono ?_
  rintro e W12 ⟨rfl, hv12⟩
  replace kw := chain kw hv12
  replace hB := hB.keep hv12
  replace he := he.keep hv12
  replace rb := rb.keep hv12
  replace ht := ht.keep hv12
  replace hr := hr.keep hv12
  clear hv12
  clear d0 zb
  clear ht hr
  go_wp2_with fail
  rw [rounds_succ]
  go_wp2_with fail
  refine (GL.out _ (hV.keep kw) _ he).mono ?_
  rintro e W13 ⟨rfl, hv13⟩
  replace kw := chain kw hv13
  replace hB := hB.keep hv13
  replace he := he.keep hv13
  replace rb := rb.keep hv13
  clear hv13
  go_wp2_with fail
  refine (l7_lives _ (hV.keep kw)).mono ?_
  rintro e W14 ⟨rfl, hv14⟩
  replace kw := chain kw hv14
  replace hB := hB.keep hv14
  replace he := he.keep hv14
  replace rb := rb.keep hv14
  clear hv14
  go_wp2
  go_ret
  exact ⟨rfl, by (repeat (first | with_reducible assumption | with_reducible exact Below.refl _ _ | with_reducible refine Below.drew ?_ | with_reducible refine below_drewN ?_ _ | with_reducible refine al ?_ _ | (with_reducible refine sc ?_ ?_; (focus (first | omega | (simp; done) | (simp; omega)))) | (with_reducible refine chain ?_ (by assumption))))⟩
theorem own : ownKnob Try.prog.godebug = none := by kernel_rfl
set_option maxRecDepth 100000 in
theorem lifted (os : Os) (started : os.Started) (H : Type) (enc : TypeId × Value → H) :
    ReturnsInHanded {} Try.checked os 4 .any (Rows.crcTakesSpec.pre6 enc Try.prog Try.f4 Rows.crcTakesRow.domain false) (Rows.crcTakesSpec.post enc Try.prog Try.f4 false true false false) := by
  refine returnsInHanded_of_change (C := Try.checked) own started (by kernel_rfl) Try.func4
    (ChangeSpec.witness6 (enc := enc) (C := Try.checked) false ⟨#[], #[.slice none 0 0, .int .i64 0, .int .u8 0], []⟩ 8 (by kernel_rfl) (by kernel_rfl) (by kernel_rfl) (by kernel_rfl)) ?_
  intro W base args ds gs before hval0 hW hcnd _
  have hval : ∀ (j : Nat) t v, Try.f4.params[j]? = some t → args[j]? = some v → Value.okWide Try.prog W .any base t v := hval0
  clear hval0
  have hW' := hW
  obtain ⟨p, q, hA0, hV0, rfl, hfz, hnd⟩ := hW
  have hA : DataW.TrodAll enc Try.prog W 0 (fun _ => true) true Try.f4.params.toList args.toList ds p := hA0
  rw [Try.params4] at hA hval
  obtain ⟨v0, vs0, d0, ds0, p0, q0, hargs, rfl, rfl, h0, r0⟩ := trodAll_cons hA
  obtain ⟨v1, vs1, d1, ds1, p1, q1, rfl, rfl, rfl, h1, r1⟩ := trodAll_cons r0
  obtain ⟨v2, vs2, d2, ds2, p2, q2, rfl, rfl, rfl, h2, r2⟩ := trodAll_cons r1
  obtain ⟨rfl, rfl, rfl⟩ := trodAll_nil r2
  obtain rfl : args = #[v0, v1, v2] := by cases args; simp_all
  obtain ⟨rfl, rfl⟩ := trodVars_none hV0
  simp only [List.append_nil] at hW'
  have hlt : ∀ x ∈ p0 ++ (p1 ++ (p2 ++ ([]))), x.block < W.heap.size := fun x hx => hW'.lt x (by simpa using hx)
  have hlt0 : ∀ x ∈ p0, x.block < W.heap.size := fun x hx => hlt x (List.mem_append.2 (.inl hx))
  have hlt1 : ∀ x ∈ p1, x.block < W.heap.size := fun x hx => hlt x (List.mem_append.2 (.inr (List.mem_append.2 (.inl hx))))
  have hlt2 : ∀ x ∈ p2, x.block < W.heap.size := fun x hx => hlt x (List.mem_append.2 (.inr (List.mem_append.2 (.inr (List.mem_append.2 (.inl hx))))))
  have k0 := h0
  have k1 := h1
  have k2 := h2
  have w0 := open_byts (hval 0 22 v0 rfl rfl) h0 hlt0
  obtain ⟨a1, rfl, w1⟩ := open_num (hval 1 3 v1 rfl rfl) h1
  obtain ⟨a2, rfl, w2⟩ := open_byte (hval 2 5 v2 rfl rfl) h2
  clear hA0
  refine (walk v0 a1 w1 a2 w2 W w0 ⟨trivial⟩).mono fun e W' ⟨he, hg⟩ => ?_
  subst he
  exact ⟨_, rfl, _, _, _, [], _, [], hW', (trodAll_cons_mk (shut_bool Try.underlying4 _) trodAll_mk0), (trodAll_cons_mk (Below.trod laidOut (by kernel_rfl) (of_decide_eq_true (by kernel_rfl)) k0 hg hlt0) (trodAll_cons_mk (Below.trod laidOut (by kernel_rfl) (of_decide_eq_true (by kernel_rfl)) k1 hg hlt1) (trodAll_cons_mk (Below.trod laidOut (by kernel_rfl) (of_decide_eq_true (by kernel_rfl)) k2 hg hlt2) trodAll_mk0))), rfl, hg.frame _, fun h => by cases h⟩
theorem over : Rows.crcTakesRow.holds Try.pinned (OpenSpec.ofChange Rows.crcTakesSpec) :=
  OpenClaim.holds_of_wide 4 Try.f4 rfl rfl rfl rfl rfl rfl rfl ⟨rfl, rfl, rfl, rfl, rfl⟩ rfl rfl rfl rfl rfl (by kernel_rfl) Try.func4 (by kernel_rfl)
    (of_decide_eq_true (by kernel_rfl)) (by unfold Func.isWrapper; first | (rw [if_pos (by decide +kernel)]; kernel_rfl) | (rw [if_neg (by decide +kernel)]; exact ⟨rfl, rfl⟩))
    (fun os started H enc _ => lifted os started H enc)
theorem proved : Rows.CrcTakesSaid := over
#print axioms proved
end Go.Proofs.Ytnpondgnmoedhaa.crcTakes
