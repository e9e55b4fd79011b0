/- For any bytes the law CrcZero of layer 7 answers true: the check of checked bytes is 0; they are taken as they were. Conditions: none: every input. -/
import Derived.Test.YtnpondgnmoedhaaRows
import Derived.Test.YtnpondgnmoedhaaO02
import Derived.Test.YtnpondgnmoedhaaO60
import Derived.Test.YtnpondgnmoedhaaL07
import Derived.Test.YtnpondgnmoedhaaVRS
import Derived.WalkKit
import Derived.ProofKit
import Derived.OpenShut
import Derived.Below
import Derived.Carry
namespace Go.Proofs.Ytnpondgnmoedhaa.crcZero
open Go.Proofs.Ytnpondgnmoedhaa Go.ChangeShapes Go.WideShapes Go.ChangeAt Go.RowKit
set_option linter.unusedVariables false
set_option linter.unusedSimpArgs false
attribute [local go_sem ↓] Go.wp_at_zero Go.wp_at_succ
set_option maxHeartbeats 16000000 in
theorem walk (a0 : Value) (w : World) (w0 : BytsIn w a0) (hV : Vars w) :
    Calls Try.prog 6 #[a0] w fun e w' => e = .returned (.bool true) ∧ Below w.heap.size w w' := by
  obtain ⟨b0, hb0, ok0, hm0⟩ := w0
  obtain ⟨B, hB⟩ : ∃ B, b0.take 200 = B := ⟨_, rfl⟩
  have okB : bytOk B := hB ▸ ok0.take 200
  have lB : B.length ≤ 200 := by rw [← hB]; simp; omega
  have few0 := fun k hk => r6_few a0 b0 200 k hk hm0 (by omega)
  rw [hB] at few0
  have few : ∀ k, BytsAt k a0 b0 → Calls Try.prog 8 #[a0, .int .i64 200] k fun e w' => ∃ p cap, e = .returned (.slice p B.length cap) ∧ BytsAt w' (.slice p B.length cap) B ∧ Below k.heap.size k w' := few0
  obtain ⟨nB, hnB⟩ : ∃ n, B.length = n := ⟨_, rfl⟩
  rw [hnB] at few lB
  have FEW := Lib.hid few
  have OKB := Lib.hid okB
  have HNB := Lib.hid hnB
  clear few0 few okB hB hnB ok0 hm0
  obtain ⟨g1, g2, g3⟩ := good_put B
  have hz := put_zero B
  have pl := put_len B
  obtain ⟨P, hP⟩ : ∃ P, sealF B = P := ⟨_, rfl⟩
  have okP : bytOk P := hP ▸ put_ok OKB.out
  rw [hP] at g2 g3 hz pl
  have lP : P.length ≤ 202 := by rw [pl, HNB.out]; omega
  have HP := Lib.hid hP
  have OKP := Lib.hid okP
  have G2 := Lib.hid g2
  have G3 := Lib.hid g3
  have HZ := Lib.hid hz
  clear g1 g2 g3 hz pl hP okP
  have kw : Below w.heap.size w w := Below.refl _ _
  go_enter Try.func6, Try.ntmps6
  go_wp2_with fail
  refine (FEW.out _ hb0).mono ?_
  rintro e W1 ⟨pb, cb, rfl, hB, hv1⟩
  replace kw := chain kw hv1
  clear hv1
  go_wp2_with fail
  refine (b7_put _ B _ (hV.keep kw) hB OKB.out (by rw [HNB.out]; omega)).mono ?_
  rintro e W2 ⟨vp, rfl, hop, hv2⟩
  replace kw := chain kw hv2
  replace hB := hB.keep hv2
  clear hv2
  rw [HP.out] at hop
  have hp := byts_of_owned hop
  clear hop
  go_wp2_with fail
  refine (b7_take _ P _ (hV.keep kw) hp OKP.out (by omega)).mono ?_
  rintro e W3 ⟨vt, rfl, ht, hv3⟩
  replace kw := chain kw hv3
  replace hB := hB.keep hv3
  replace hp := hp.keep hv3
  clear hv3
  rw [G3.out] at ht
  rw [G2.out]
  go_wp2_with fail
  refine (b7_of _ P _ (hV.keep kw) hp OKP.out (by omega)).mono ?_
  rintro e W4 ⟨rfl, hv4⟩
  replace kw := chain kw hv4
  replace hB := hB.keep hv4
  replace hp := hp.keep hv4
  replace ht := ht.keep hv4
  clear hv4
  rw [HZ.out, show (((0#16).toNat : Nat) : Int) = 0 from rfl]
  go_wp2_with fail
  refine (l7_same _ _ _ _ rfl _ ht hB OKB.out).mono ?_
  rintro e W5 ⟨rfl, hv5⟩
  replace kw := chain kw hv5
  replace hB := hB.keep hv5
  replace hp := hp.keep hv5
  replace ht := ht.keep hv5
  clear hv5
  go_wp2_with fail
  refine (l7_lives _ (hV.keep kw)).mono ?_
  rintro e W6 ⟨rfl, hv6⟩
  replace kw := chain kw hv6
  replace hB := hB.keep hv6
  replace hp := hp.keep hv6
  replace ht := ht.keep hv6
  clear hv6
  go_wp2
  go_ret
  exact ⟨rfl, by (repeat (first | with_reducible assumption | with_reducible exact Below.refl _ _ | with_reducible refine Below.drew ?_ | with_reducible refine below_drewN ?_ _ | with_reducible refine al ?_ _ | (with_reducible refine sc ?_ ?_; (focus (first | omega | (simp; done) | (simp; omega)))) | (with_reducible refine chain ?_ (by assumption))))⟩
theorem own : ownKnob Try.prog.godebug = none := by kernel_rfl
set_option maxRecDepth 100000 in
theorem lifted (os : Os) (started : os.Started) (H : Type) (enc : TypeId × Value → H) :
    ReturnsInHanded {} Try.checked os 6 .any (Rows.crcZeroSpec.pre6 enc Try.prog Try.f6 Rows.crcZeroRow.domain false) (Rows.crcZeroSpec.post enc Try.prog Try.f6 false true false false) := by
  refine returnsInHanded_of_change (C := Try.checked) own started (by kernel_rfl) Try.func6
    (ChangeSpec.witness6 (enc := enc) (C := Try.checked) false ⟨#[], #[.slice none 0 0], []⟩ 8 (by kernel_rfl) (by kernel_rfl) (by kernel_rfl) (by kernel_rfl)) ?_
  intro W base args ds gs before hval0 hW hcnd _
  have hval : ∀ (j : Nat) t v, Try.f6.params[j]? = some t → args[j]? = some v → Value.okWide Try.prog W .any base t v := hval0
  clear hval0
  have hW' := hW
  obtain ⟨p, q, hA0, hV0, rfl, hfz, hnd⟩ := hW
  have hA : DataW.TrodAll enc Try.prog W 0 (fun _ => true) true Try.f6.params.toList args.toList ds p := hA0
  rw [Try.params6] at hA hval
  obtain ⟨v0, vs0, d0, ds0, p0, q0, hargs, rfl, rfl, h0, r0⟩ := trodAll_cons hA
  obtain ⟨rfl, rfl, rfl⟩ := trodAll_nil r0
  obtain rfl : args = #[v0] := by cases args; simp_all
  obtain ⟨rfl, rfl⟩ := trodVars_none hV0
  simp only [List.append_nil] at hW'
  have hlt : ∀ x ∈ p0 ++ ([]), x.block < W.heap.size := fun x hx => hW'.lt x (by simpa using hx)
  have hlt0 : ∀ x ∈ p0, x.block < W.heap.size := fun x hx => hlt x (List.mem_append.2 (.inl hx))
  have k0 := h0
  have w0 := open_byts (hval 0 22 v0 rfl rfl) h0 hlt0
  clear hA0
  refine (walk v0 W w0 ⟨trivial⟩).mono fun e W' ⟨he, hg⟩ => ?_
  subst he
  exact ⟨_, rfl, _, _, _, [], _, [], hW', (trodAll_cons_mk (shut_bool Try.underlying4 _) trodAll_mk0), (trodAll_cons_mk (Below.trod laidOut (by kernel_rfl) (of_decide_eq_true (by kernel_rfl)) k0 hg hlt0) trodAll_mk0), rfl, hg.frame _, fun h => by cases h⟩
theorem over : Rows.crcZeroRow.holds Try.pinned (OpenSpec.ofChange Rows.crcZeroSpec) :=
  OpenClaim.holds_of_wide 6 Try.f6 rfl rfl rfl rfl rfl rfl rfl ⟨rfl, rfl, rfl, rfl, rfl⟩ rfl rfl rfl rfl rfl (by kernel_rfl) Try.func6 (by kernel_rfl)
    (of_decide_eq_true (by kernel_rfl)) (by unfold Func.isWrapper; first | (rw [if_pos (by decide +kernel)]; kernel_rfl) | (rw [if_neg (by decide +kernel)]; exact ⟨rfl, rfl⟩))
    (fun os started H enc _ => lifted os started H enc)
theorem proved : Rows.CrcZeroSaid := over
#print axioms proved
end Go.Proofs.Ytnpondgnmoedhaa.crcZero
