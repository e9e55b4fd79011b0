/- For any two pieces of bytes the law CrcChecks of layer 7 answers true: the check of bytes is the document's, of two pieces, one behind the other, too. Conditions: none: every input. -/
import Derived.Test.YtnpondgnmoedhaaRows
import Derived.Test.YtnpondgnmoedhaaO02
import Derived.Test.YtnpondgnmoedhaaO60
import Derived.Test.YtnpondgnmoedhaaL07
import Derived.Test.YtnpondgnmoedhaaVRS
import Derived.WalkKit
import Derived.ProofKit
import Derived.OpenShut
import Derived.Below
import Derived.Carry
namespace Go.Proofs.Ytnpondgnmoedhaa.crcChecks
open Go.Proofs.Ytnpondgnmoedhaa Go.ChangeShapes Go.WideShapes Go.ChangeAt Go.RowKit
set_option linter.unusedVariables false
set_option linter.unusedSimpArgs false
attribute [local go_sem ↓] Go.wp_at_zero Go.wp_at_succ
set_option maxHeartbeats 16000000 in
theorem walk (a0 : Value) (a1 : Value) (w : World) (w0 : BytsIn w a0) (w1 : BytsIn w a1) (hV : Vars w) :
    Calls Try.prog 3 #[a0, a1] w fun e w' => e = .returned (.bool true) ∧ Below w.heap.size w w' := by
  obtain ⟨b0, hb0, ok0, hm0⟩ := w0
  obtain ⟨B, hB⟩ : ∃ B, b0.take 100 = B := ⟨_, rfl⟩
  have okB : bytOk B := hB ▸ ok0.take 100
  have lB : B.length ≤ 100 := by rw [← hB]; simp; omega
  have few0 := fun k hk => r6_few a0 b0 100 k hk hm0 (by omega)
  rw [hB] at few0
  have few : ∀ k, BytsAt k a0 b0 → Calls Try.prog 8 #[a0, .int .i64 100] k fun e w' => ∃ p cap, e = .returned (.slice p B.length cap) ∧ BytsAt w' (.slice p B.length cap) B ∧ Below k.heap.size k w' := few0
  obtain ⟨nB, hnB⟩ : ∃ n, B.length = n := ⟨_, rfl⟩
  rw [hnB] at few lB
  have FEWB := Lib.hid few
  have OKB := Lib.hid okB
  have HNB := Lib.hid hnB
  clear few0 few okB hB hnB ok0 hm0
  obtain ⟨b1, hb1, ok1, hm1⟩ := w1
  obtain ⟨D, hB⟩ : ∃ B, b1.take 100 = B := ⟨_, rfl⟩
  have okB : bytOk D := hB ▸ ok1.take 100
  have lD : D.length ≤ 100 := by rw [← hB]; simp; omega
  have few0 := fun k hk => r6_few a1 b1 100 k hk hm1 (by omega)
  rw [hB] at few0
  have few : ∀ k, BytsAt k a1 b1 → Calls Try.prog 8 #[a1, .int .i64 100] k fun e w' => ∃ p cap, e = .returned (.slice p D.length cap) ∧ BytsAt w' (.slice p D.length cap) D ∧ Below k.heap.size k w' := few0
  obtain ⟨nD, hnB⟩ : ∃ n, D.length = n := ⟨_, rfl⟩
  rw [hnB] at few lD
  have FEWD := Lib.hid few
  have OKD := Lib.hid okB
  have HND := Lib.hid hnB
  clear few0 few okB hB hnB ok1 hm1
  obtain ⟨c, hc⟩ : ∃ c, ofV B = c := ⟨_, rfl⟩
  obtain ⟨d, hd⟩ : ∃ d, sumV c D = d := ⟨_, rfl⟩
  have HC := Lib.hid hc
  have HD := Lib.hid hd
  have bc := w16_bd c
  have bd := w16_bd d
  have e1 := hiC_bd d
  have e2 := loC_bd d
  have e3 : hiC d * 256 + loC d = (d.toNat : Int) := by unfold hiC loC; omega
  have bw := fun u (h : Vars u) v hv => b7_with c v D u h hv OKD.out (by rw [HND.out]; omega)
  have sw := fun u v hv => r7_sum c v D u hv OKD.out (by rw [HND.out]; unfold maxLen; omega)
  have yw := fun u => b7_bytes d u
  have ow := fun u (h : Vars u) v hv => b7_of v B u h hv OKB.out (by rw [HNB.out]; omega)
  have qw := fun u v hv => r7_of v B u hv OKB.out (by rw [HNB.out]; unfold maxLen; omega)
  rw [hc] at ow qw
  rw [hd] at bw sw
  obtain ⟨x, hx⟩ : ∃ x : Int, (c.toNat : Int) = x := ⟨_, rfl⟩
  obtain ⟨y, hy⟩ : ∃ x : Int, (d.toNat : Int) = x := ⟨_, rfl⟩
  obtain ⟨p, hp⟩ : ∃ x : Int, hiC d = x := ⟨_, rfl⟩
  obtain ⟨q, hq⟩ : ∃ x : Int, loC d = x := ⟨_, rfl⟩
  rw [hx] at bc bw ow qw sw
  rw [hy] at bd e3 bw sw yw
  rw [hp] at e1 e3 yw
  rw [hq] at e2 e3 yw
  obtain ⟨bc0, bc1⟩ := bc
  obtain ⟨bd0, bd1⟩ := bd
  obtain ⟨e10, e11⟩ := e1
  obtain ⟨e20, e21⟩ := e2
  have BW := Lib.hid bw
  have SW := Lib.hid sw
  have YW := Lib.hid yw
  have OW := Lib.hid ow
  have QW := Lib.hid qw
  clear bw sw yw ow qw hx hy hp hq hc hd
  have kw : Below w.heap.size w w := Below.refl _ _
  go_enter Try.func3, Try.ntmps3
  go_wp2_with fail
  refine (FEWB.out _ hb0).mono ?_
  rintro e W1 ⟨pb, cb, rfl, hB, hv1⟩
  replace kw := chain kw hv1
  clear hv1
  go_wp2_with fail
  refine (FEWD.out _ (hb1.keep kw)).mono ?_
  rintro e W2 ⟨pd, cd, rfl, hD, hv2⟩
  replace kw := chain kw hv2
  replace hB := hB.keep hv2
  clear hv2
  go_wp2_with fail
  refine (OW.out _ (hV.keep kw) _ hB).mono ?_
  rintro e W3 ⟨rfl, hv3⟩
  replace kw := chain kw hv3
  replace hB := hB.keep hv3
  replace hD := hD.keep hv3
  clear hv3
  go_wp2_with fail
  refine (BW.out _ (hV.keep kw) _ hD).mono ?_
  rintro e W4 ⟨rfl, hv4⟩
  replace kw := chain kw hv4
  replace hB := hB.keep hv4
  replace hD := hD.keep hv4
  clear hv4
  go_wp2_with fail
  refine (YW.out _).mono ?_
  rintro e W5 ⟨rfl, hv5⟩
  replace kw := chain kw hv5
  replace hB := hB.keep hv5
  replace hD := hD.keep hv5
  clear hv5
  obtain ⟨u, hu⟩ : ∃ u, W5.alloc (.cells #[.int .u8 p, .int .u8 q] 28) = u := ⟨_, rfl⟩
  have ku : Below W5.heap.size W5 u := by rw [← hu]; exact al (Below.refl _ _) _
  have rb : RowAt u W5.heap.size #[.int .u8 p, .int .u8 q] 28 := by rw [← hu]; exact RowAt.new _ _ _
  replace kw := chain kw ku
  replace hB := hB.keep ku
  replace hD := hD.keep ku
  have HU := Lib.hid hu
  clear hu ku
  go_wp2_with fail
  rw [HU.out]
  refine (QW.out _ _ hB).mono ?_
  rintro e w' ⟨rfl, rfl⟩
  go_wp2_with fail
  refine (SW.out _ _ hD).mono ?_
  rintro e w' ⟨rfl, rfl⟩
  go_wp2_with fail
  refine (b7_start _).mono ?_
  rintro e W6 ⟨rfl, hv6⟩
  replace kw := chain kw hv6
  replace hB := hB.keep hv6
  replace hD := hD.keep hv6
  replace rb := rb.keep hv6
  clear hv6
  have d0 := rb.two.1
  have d1 := rb.two.2
  have zb := rb.lt
  go_wp2_with fail
  refine (l7_lives _ (hV.keep kw)).mono ?_
  rintro e W7 ⟨rfl, hv7⟩
  replace kw := chain kw hv7
  replace hB := hB.keep hv7
  replace hD := hD.keep hv7
  replace rb := rb.keep hv7
  clear hv7
  go_wp2
  go_ret
  exact ⟨rfl, by (repeat (first | with_reducible assumption | with_reducible exact Below.refl _ _ | with_reducible refine Below.drew ?_ | with_reducible refine below_drewN ?_ _ | with_reducible refine al ?_ _ | (with_reducible refine sc ?_ ?_; (focus (first | omega | (simp; done) | (simp; omega)))) | (with_reducible refine chain ?_ (by assumption))))⟩
theorem own : ownKnob Try.prog.godebug = none := by kernel_rfl
set_option maxRecDepth 100000 in
theorem lifted (os : Os) (started : os.Started) (H : Type) (enc : TypeId × Value → H) :
    ReturnsInHanded {} Try.checked os 3 .any (Rows.crcChecksSpec.pre6 enc Try.prog Try.f3 Rows.crcChecksRow.domain false) (Rows.crcChecksSpec.post enc Try.prog Try.f3 false true false false) := by
  refine returnsInHanded_of_change (C := Try.checked) own started (by kernel_rfl) Try.func3
    (ChangeSpec.witness6 (enc := enc) (C := Try.checked) false ⟨#[], #[.slice none 0 0, .slice none 0 0], []⟩ 8 (by kernel_rfl) (by kernel_rfl) (by kernel_rfl) (by kernel_rfl)) ?_
  intro W base args ds gs before hval0 hW hcnd _
  have hval : ∀ (j : Nat) t v, Try.f3.params[j]? = some t → args[j]? = some v → Value.okWide Try.prog W .any base t v := hval0
  clear hval0
  have hW' := hW
  obtain ⟨p, q, hA0, hV0, rfl, hfz, hnd⟩ := hW
  have hA : DataW.TrodAll enc Try.prog W 0 (fun _ => true) true Try.f3.params.toList args.toList ds p := hA0
  rw [Try.params3] at hA hval
  obtain ⟨v0, vs0, d0, ds0, p0, q0, hargs, rfl, rfl, h0, r0⟩ := trodAll_cons hA
  obtain ⟨v1, vs1, d1, ds1, p1, q1, rfl, rfl, rfl, h1, r1⟩ := trodAll_cons r0
  obtain ⟨rfl, rfl, rfl⟩ := trodAll_nil r1
  obtain rfl : args = #[v0, v1] := by cases args; simp_all
  obtain ⟨rfl, rfl⟩ := trodVars_none hV0
  simp only [List.append_nil] at hW'
  have hlt : ∀ x ∈ p0 ++ (p1 ++ ([])), x.block < W.heap.size := fun x hx => hW'.lt x (by simpa using hx)
  have hlt0 : ∀ x ∈ p0, x.block < W.heap.size := fun x hx => hlt x (List.mem_append.2 (.inl hx))
  have hlt1 : ∀ x ∈ p1, x.block < W.heap.size := fun x hx => hlt x (List.mem_append.2 (.inr (List.mem_append.2 (.inl hx))))
  have k0 := h0
  have k1 := h1
  have w0 := open_byts (hval 0 22 v0 rfl rfl) h0 hlt0
  have w1 := open_byts (hval 1 22 v1 rfl rfl) h1 hlt1
  clear hA0
  refine (walk v0 v1 W w0 w1 ⟨trivial⟩).mono fun e W' ⟨he, hg⟩ => ?_
  subst he
  exact ⟨_, rfl, _, _, _, [], _, [], hW', (trodAll_cons_mk (shut_bool Try.underlying4 _) trodAll_mk0), (trodAll_cons_mk (Below.trod laidOut (by kernel_rfl) (of_decide_eq_true (by kernel_rfl)) k0 hg hlt0) (trodAll_cons_mk (Below.trod laidOut (by kernel_rfl) (of_decide_eq_true (by kernel_rfl)) k1 hg hlt1) trodAll_mk0)), rfl, hg.frame _, fun h => by cases h⟩
theorem over : Rows.crcChecksRow.holds Try.pinned (OpenSpec.ofChange Rows.crcChecksSpec) :=
  OpenClaim.holds_of_wide 3 Try.f3 rfl rfl rfl rfl rfl rfl rfl ⟨rfl, rfl, rfl, rfl, rfl⟩ rfl rfl rfl rfl rfl (by kernel_rfl) Try.func3 (by kernel_rfl)
    (of_decide_eq_true (by kernel_rfl)) (by unfold Func.isWrapper; first | (rw [if_pos (by decide +kernel)]; kernel_rfl) | (rw [if_neg (by decide +kernel)]; exact ⟨rfl, rfl⟩))
    (fun os started H enc _ => lifted os started H enc)
theorem proved : Rows.CrcChecksSaid := over
#print axioms proved
end Go.Proofs.Ytnpondgnmoedhaa.crcChecks
