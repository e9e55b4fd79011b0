/- For any bytes, any runs and any numbers the law CodeReads of layer 6 answers true: the runs of bytes, or the error, are the document's. Conditions: none: every input. -/
import Derived.Test.YtafmekojdaeliaaDoorRows
import Derived.Test.YtafmekojdaeliaaDoorO02
import Derived.Test.YtafmekojdaeliaaDoorO50
import Derived.Test.YtafmekojdaeliaaDoorO60
import Derived.Test.YtafmekojdaeliaaDoorL06
import Derived.Test.YtafmekojdaeliaaDoorS05
import Derived.Test.YtafmekojdaeliaaDoorVRS
import Derived.Test.YtafmekojdaeliaaDoorCards
import Derived.Test.YtafmekojdaeliaaDoorTie
import Derived.WalkKit
import Derived.ProofKit
import Derived.OpenShut
import Derived.Below
import Derived.Carry
import Derived.Deep.DeepHandedRow
import Derived.LaidMore
namespace Go.Proofs.YtafmekojdaeliaaDoor.codeReads
open Go.Proofs.YtafmekojdaeliaaDoor Go.ChangeShapes Go.WideShapes Go.ChangeAt Go.RowKit
set_option linter.unusedVariables false
set_option linter.unusedSimpArgs false
attribute [local go_sem ↓] Go.wp_at_zero Go.wp_at_succ
set_option maxHeartbeats 16000000 in
theorem walk (a0 : Value) (a1 : Value) (a2 : Int) (w2 : -9223372036854775808 ≤ a2 ∧ a2 ≤ 9223372036854775807) (a3 : Int) (w3 : 0 ≤ a3 ∧ a3 ≤ 255) (a4 : Int) (w4 : -9223372036854775808 ≤ a4 ∧ a4 ≤ 9223372036854775807) (w : World) (w0 : BytsIn w a0) (w1 : RunsIn w a1) (hV : Vars w) :
    Calls Tryd.prog 5 #[a0, a1, .int .i64 a2, .int .u8 a3, .int .i64 a4] w fun e w' => e = .returned (.bool true) ∧ Below w.heap.size w w' := by
  obtain ⟨b0, hb0, ok0, hm0⟩ := w0
  obtain ⟨B, hB⟩ : ∃ B, b0.take 60 = B := ⟨_, rfl⟩
  have okB : bytOk B := hB ▸ ok0.take 60
  have lB : B.length ≤ 60 := by rw [← hB]; simp; omega
  have few := fun k hk => r6_few a0 b0 60 k hk hm0 (by omega)
  rw [hB] at few
  have few : ∀ k, BytsAt k a0 b0 → Calls Tryd.prog 18 #[a0, .int .i64 60] k fun e w' => ∃ p cap, e = .returned (.slice p B.length cap) ∧ BytsAt w' (.slice p B.length cap) B ∧ Below k.heap.size k w' := few
  obtain ⟨nB, hnB⟩ : ∃ n, B.length = n := ⟨_, rfl⟩
  rw [hnB] at few lB
  have FEW := Lib.hid few
  have OKB := Lib.hid okB
  have HNB := Lib.hid hnB
  clear few okB hB hnB ok0 hm0
  obtain ⟨F, hF⟩ : ∃ F, B = F := ⟨_, rfl⟩
  rw [hF] at FEW OKB HNB
  clear hF
  obtain ⟨nF, hnF⟩ : ∃ n, nB = n := ⟨_, rfl⟩
  rw [hnF] at FEW HNB lB
  clear hnF
  obtain ⟨l1, hl1, hb1, hm1⟩ := w1
  obtain ⟨C, hG1⟩ : ∃ C, goodC l1 = C := ⟨_, rfl⟩
  have hC : okC C := ⟨by rw [← hG1]; exact goodC_may _, by have := goodC_len l1; rw [hG1] at this; omega⟩
  obtain ⟨N, hN⟩ : ∃ N, C.length = N := ⟨_, rfl⟩
  have hN1 : 0 < N ∧ N ≤ 480 := by have := goodC_len l1; rw [hG1, hN] at this; exact this
  have HB := Lib.hid hb1
  have HG := Lib.hid hG1
  have HC := Lib.hid hC
  have HN := Lib.hid hN
  obtain ⟨bN0, bN1⟩ := hN1
  clear hb1 hG1 hC hN hm1
  obtain ⟨x0, x1⟩ := w3
  have i2 : i64 a2 := w2
  have gk := fun k => r_around a4 1048576 w4.1 w4.2 (by omega) (by omega) k
  have bk := around_bd a4 1048576 (by omega)
  obtain ⟨k, hk⟩ : ∃ k, aroundF a4 1048576 = k := ⟨_, rfl⟩
  rw [hk] at gk bk
  obtain ⟨bk0, bk1⟩ := bk
  obtain ⟨f1, f2, f3, f4, _, _, _, _⟩ := round_facts HC.out (by rw [HN.out]; omega)
  obtain ⟨D, hD⟩ : ∃ D, ofF C = D := ⟨_, rfl⟩
  have we : wrB D = true := by rw [← hD]; exact wr_good HC.out (by rw [HN.out]; omega)
  have iD : ∀ j (h : j < D.length), i64 D[j].1 ∧ i64 D[j].2 := hD ▸ okC_i64 HC.out
  have lD : D.length ≤ 480 := by have := ofF_len C; rw [hD, HN.out] at this; omega
  rw [hD] at f1 f2 f3 f4
  obtain ⟨P, hP⟩ : ∃ P, bytesF D = P := ⟨_, rfl⟩
  have l4 := bytesF_len D
  rw [hP] at f1 f2 f3 f4 l4
  obtain ⟨nP, hnP⟩ : ∃ n, P.length = n := ⟨_, rfl⟩
  rw [hnP] at f3 f4 l4
  have ga := fun k => r_around a2 nP i2.1 i2.2 (by omega) (by omega) k
  have ba := around_bd a2 nP (by omega)
  obtain ⟨at0, hat⟩ : ∃ k : Nat, aroundF a2 nP = k := ⟨(aroundF a2 nP).toNat, by omega⟩
  rw [hat] at ga ba
  have ba1 : (at0 : Int) < nP := ba.2
  obtain ⟨E, hE⟩ : ∃ E, P.set at0 a3 = E := ⟨_, rfl⟩
  have okE : bytOk E := fun x hx => by
    rw [← hE] at hx
    rcases List.mem_or_eq_of_mem_set hx with h | rfl
    · exact f2 x h
    · omega
  have eE : (bytVs P).set at0 (.int .u8 a3) = bytVs E := by rw [← hE]; simp [bytVs]
  have lE : E.length = nP := by rw [← hE]; simpa using hnP
  have iN : i64 N := by constructor <;> omega
  have GK := Lib.hid gk
  have GA := Lib.hid ga
  have HD := Lib.hid hD
  have WE := Lib.hid we
  have ID := Lib.hid iD
  have F1 := Lib.hid f1
  have HNP := Lib.hid hnP
  have OKE := Lib.hid okE
  have EE := Lib.hid eE
  have LE := Lib.hid lE
  have l5 : nP ≤ 2000 := by omega
  clear gk hk ga hat ba hD we iD f1 f2 f4 hP hnP hE okE eE lE i2 w2 w4 l4
  have kw : Below w.heap.size w w := Below.refl _ _
  go_enter Tryd.func5, Tryd.ntmps5
  go_wp2_with fail
  refine (l5_good _ l1 C HG.out _ (hl1.keep kw) HB.out).mono ?_
  rintro e W1 ⟨pg, cg, rfl, hg, hv1⟩
  replace kw := chain kw hv1
  clear hv1
  rw [HD.out] at hg ⊢
  go_wp2_with fail
  refine (r6_write _ D _ hg ID.out (by omega)).mono ?_
  rintro e W2 ⟨vo, rfl, ho, hv⟩
  rw [F1.out, HNP.out] at ho
  rw [if_pos WE.out]
  replace ho := own_base ho kw.size
  replace kw := chain kw hv
  clear hv hg
  rcases ho.2 with ⟨_, hz0⟩ | ⟨g, cap, cur, rfl, hbb, hgg, hcp, _⟩
  · omega
  have d0 : W2.cell? ⟨g, at0, none⟩ = some (.int .u8 (P[at0]'(by rw [HNP.out]; omega))) := own_cell ho at0 (by simp [bytVs, HNP.out, show at0 < nP by omega])
  have fz : ∀ o, W2.frozen? ⟨g, o, none⟩ = false := fun o => by simp [World.frozen?, hgg]
  have zg : g < W2.heap.size := (Array.getElem?_eq_some_iff.1 hgg).1
  have hos := own_set ho at0 (by omega) (.int .u8 a3)
  rw [EE.out] at hos
  have k2 : Below w.heap.size w (W2.setCell ⟨g, at0, none⟩ (.int .u8 a3)) := Below.own_set kw ho at0 _
  generalize P[at0]'(by rw [HNP.out]; omega) = old at *
  obtain ⟨U, hU⟩ : ∃ U, W2.setCell ⟨g, at0, none⟩ (.int .u8 a3) = U := ⟨_, rfl⟩
  rw [hU] at hos k2
  have HU := Lib.hid hU
  clear hgg hbb hcp hU
  go_wp2_with fail
  refine (GA.out _).mono ?_
  rintro e w' ⟨rfl, rfl⟩
  go_upto_region 6 with (fail)
  rw [HU.out]
  clear d0 fz zg ho kw
  have he : BytsAt U (.slice (some ⟨g, 0, none⟩) nP cap) E := byts_of_owned (by rw [LE.out]; exact hos)
  clear hos
  go_wp2_with fail
  refine (GK.out _).mono ?_
  rintro e w' ⟨rfl, rfl⟩
  go_wp2_with fail
  refine (FEW.out _ (hb0.keep k2)).mono ?_
  rintro e W3 ⟨pf, cf, rfl, hf, hv⟩
  replace k2 := chain k2 hv
  replace he := he.keep hv
  clear hv
  obtain ⟨u, hu⟩ : ∃ u, W3.alloc (.cells #[.slice pf nF cf, .slice (some ⟨g, 0, none⟩) nP cap] 25) = u := ⟨_, rfl⟩
  have ku : Below W3.heap.size W3 u := by rw [← hu]; exact al (Below.refl _ _) _
  have rb : RowAt u W3.heap.size #[.slice pf nF cf, .slice (some ⟨g, 0, none⟩) nP cap] 25 := by rw [← hu]; exact RowAt.new W3 _ _
  replace k2 := chain k2 ku
  replace he := he.keep ku
  replace hf := hf.keep ku
  have HU2 := Lib.hid hu
  clear hu ku
  go_wp2_with fail
  rw [HU2.out]
  refine (l5_good _ l1 C HG.out _ (hl1.keep k2) HB.out).mono ?_
  rintro e W4 ⟨ph, ch, rfl, hg, hv⟩
  replace k2 := chain k2 hv
  replace he := he.keep hv
  replace hf := hf.keep hv
  replace rb := rb.keep hv
  clear hv
  go_wp2_with fail
  refine (l5_cells _ C HC.out N HN.out _ hg).mono ?_
  rintro e W5 ⟨pn, cn, rfl, hn, hv⟩
  replace k2 := chain k2 hv
  replace he := he.keep hv
  replace hf := hf.keep hv
  replace rb := rb.keep hv
  clear hv hn hg
  obtain ⟨u2, hu⟩ : ∃ u, W5.alloc (.cells #[.int .i64 (1 + k), .int .i64 N] 3) = u := ⟨_, rfl⟩
  have ku : Below W5.heap.size W5 u2 := by rw [← hu]; exact al (Below.refl _ _) _
  have rc : RowAt u2 W5.heap.size #[.int .i64 (1 + k), .int .i64 N] 3 := by rw [← hu]; exact RowAt.new W5 _ _
  replace k2 := chain k2 ku
  replace he := he.keep ku
  replace hf := hf.keep ku
  replace rb := rb.keep ku
  have HU3 := Lib.hid hu
  clear hu ku
  go_upto_region 9 with (fail)
  rw [HU3.out]
  go_wp2_with fail
  refine wp_loop_rounds 3 ?_
  rw [rounds_succ]
  go_wp2_with fail
  refine wp_loop_rounds 3 ?_
  rw [rounds_succ]
  go_wp2_with fail
  obtain ⟨R, hR⟩ : ∃ R, readF F (1 + k) = R := ⟨_, rfl⟩
  have hRl : R.2.length ≤ 100000000 := by rw [← hR]; have := readGo_len (F.length + 1) none F (1 + k); have h3 : F.length ≤ 2000 := (by rw [HNB.out]; omega); exact Nat.le_trans this (by omega)
  have HR := Lib.hid hR
  clear hR
  have d0 := rb.two.1
  have e0 := rc.two.1
  have zb := rb.lt
  have zc := rc.lt
  refine region_mid 8 _ (by kernel_rfl) (by kernel_rfl) rfl (fun _ _ _ _ _ h => h) ?_
  simp only [List.take_succ_cons, List.take_zero, List.drop_succ_cons, List.drop_zero]
  repeat (first | (refine' InText.skip (by rfl) ?_; simp only [Act.put, List.setIfInBounds_toArray, List.set_cons_zero, List.set_cons_succ]) | (refine' InText.val (by rfl) (fun wr hr => ?_) ?_; rotate_left 1; (focus (obtain ⟨hrc, hrf⟩ := bcell hr; (go_simp <;> with_reducible rfl); done)); simp only [Act.put, List.setIfInBounds_toArray, List.set_cons_zero, List.set_cons_succ]))
  refine fun wra hra => ?_
  obtain ⟨hrca, hrfa⟩ := bcell hra
  replace k2 := chain k2 hra
  replace he := he.keep hra
  replace hf := hf.keep hra
  replace rb := rb.keep hra
  replace rc := rc.keep hra
  clear d0 e0 zb zc hrca hrfa hra
  go_wp2_with fail
  refine (b6_read _ F (1 + k) (by omega) (by omega) _ (hV.keep k2) (hf) OKB.out (by rw [HNB.out]; omega)).mono ?_
  rintro e Ya ⟨va, rfl, hxr, hv⟩
  rw [HR.out] at hxr ⊢
  replace k2 := chain k2 hv
  replace he := he.keep hv
  replace hf := hf.keep hv
  replace rb := rb.keep hv
  replace rc := rc.keep hv
  clear hv
  go_wp2_with fail
  simp only [midQ]
  repeat (refine' Lates.val (by rfl) (fun wq => ?_) ?_; rotate_left 1; (focus ((go_simp <;> with_reducible rfl); done)); simp only [Act.put, List.setIfInBounds_toArray, List.set_cons_zero, List.set_cons_succ])
  refine Lates.done ?_
  go_wp2_with fail
  have d0 := rb.two.1
  have e0 := rc.two.1
  have zb := rb.lt
  have zc := rc.lt
  refine region_mid 8 _ (by kernel_rfl) (by kernel_rfl) rfl (fun _ _ _ _ _ h => h) ?_
  simp only [List.take_succ_cons, List.take_zero, List.drop_succ_cons, List.drop_zero]
  repeat (first | (refine' InText.skip (by rfl) ?_; simp only [Act.put, List.setIfInBounds_toArray, List.set_cons_zero, List.set_cons_succ]) | (refine' InText.val (by rfl) (fun wr hr => ?_) ?_; rotate_left 1; (focus (obtain ⟨hrc, hrf⟩ := bcell hr; (go_simp <;> with_reducible rfl); done)); simp only [Act.put, List.setIfInBounds_toArray, List.set_cons_zero, List.set_cons_succ]))
  refine fun wrb hrb => ?_
  obtain ⟨hrcb, hrfb⟩ := bcell hrb
  replace k2 := chain k2 hrb
  replace he := he.keep hrb
  replace hf := hf.keep hrb
  replace rb := rb.keep hrb
  replace rc := rc.keep hrb
  replace hxr := hxr.keep hrb
  clear d0 e0 zb zc hrcb hrfb hrb
  go_wp2_with fail
  refine (l6_read _ F (1 + k) (by omega) (by omega) _ (hf) OKB.out (by rw [HNB.out]; omega)).mono ?_
  rintro e Yb ⟨vb, rfl, hxs, hv⟩
  rw [HR.out] at hxs ⊢
  replace k2 := chain k2 hv
  replace he := he.keep hv
  replace hf := hf.keep hv
  replace rb := rb.keep hv
  replace rc := rc.keep hv
  replace hxr := hxr.keep hv
  clear hv
  go_wp2_with fail
  simp only [midQ]
  repeat (refine' Lates.val (by rfl) (fun wq => ?_) ?_; rotate_left 1; (focus ((go_simp <;> with_reducible rfl); done)); simp only [Act.put, List.setIfInBounds_toArray, List.set_cons_zero, List.set_cons_succ])
  refine Lates.done ?_
  go_wp2_with fail
  refine (l5_same _ _ _ _ rfl _ hxr hxs hRl).mono ?_
  rintro e Z00 ⟨rfl, hv⟩
  replace k2 := chain k2 hv
  replace he := he.keep hv
  replace hf := hf.keep hv
  replace rb := rb.keep hv
  replace rc := rc.keep hv
  clear hv hxr hxs hRl HR
  go_wp2_with fail
  rw [rounds_succ]
  go_wp2_with fail
  obtain ⟨R, hR⟩ : ∃ R, readF F N = R := ⟨_, rfl⟩
  have hRl : R.2.length ≤ 100000000 := by rw [← hR]; have := readGo_len (F.length + 1) none F N; have h3 : F.length ≤ 2000 := (by rw [HNB.out]; omega); exact Nat.le_trans this (by omega)
  have HR := Lib.hid hR
  clear hR
  have d0 := rb.two.1
  have e0 := rc.two.2
  have zb := rb.lt
  have zc := rc.lt
  refine region_mid 8 _ (by kernel_rfl) (by kernel_rfl) rfl (fun _ _ _ _ _ h => h) ?_
  simp only [List.take_succ_cons, List.take_zero, List.drop_succ_cons, List.drop_zero]
  repeat (first | (refine' InText.skip (by rfl) ?_; simp only [Act.put, List.setIfInBounds_toArray, List.set_cons_zero, List.set_cons_succ]) | (refine' InText.val (by rfl) (fun wr hr => ?_) ?_; rotate_left 1; (focus (obtain ⟨hrc, hrf⟩ := bcell hr; (go_simp <;> with_reducible rfl); done)); simp only [Act.put, List.setIfInBounds_toArray, List.set_cons_zero, List.set_cons_succ]))
  refine fun wrc hrc => ?_
  obtain ⟨hrcc, hrfc⟩ := bcell hrc
  replace k2 := chain k2 hrc
  replace he := he.keep hrc
  replace hf := hf.keep hrc
  replace rb := rb.keep hrc
  replace rc := rc.keep hrc
  clear d0 e0 zb zc hrcc hrfc hrc
  go_wp2_with fail
  refine (b6_read _ F N (by omega) (by omega) _ (hV.keep k2) (hf) OKB.out (by rw [HNB.out]; omega)).mono ?_
  rintro e Yc ⟨vc, rfl, hxr, hv⟩
  rw [HR.out] at hxr ⊢
  replace k2 := chain k2 hv
  replace he := he.keep hv
  replace hf := hf.keep hv
  replace rb := rb.keep hv
  replace rc := rc.keep hv
  clear hv
  go_wp2_with fail
  simp only [midQ]
  repeat (refine' Lates.val (by rfl) (fun wq => ?_) ?_; rotate_left 1; (focus ((go_simp <;> with_reducible rfl); done)); simp only [Act.put, List.setIfInBounds_toArray, List.set_cons_zero, List.set_cons_succ])
  refine Lates.done ?_
  go_wp2_with fail
  have d0 := rb.two.1
  have e0 := rc.two.2
  have zb := rb.lt
  have zc := rc.lt
  refine region_mid 8 _ (by kernel_rfl) (by kernel_rfl) rfl (fun _ _ _ _ _ h => h) ?_
  simp only [List.take_succ_cons, List.take_zero, List.drop_succ_cons, List.drop_zero]
  repeat (first | (refine' InText.skip (by rfl) ?_; simp only [Act.put, List.setIfInBounds_toArray, List.set_cons_zero, List.set_cons_succ]) | (refine' InText.val (by rfl) (fun wr hr => ?_) ?_; rotate_left 1; (focus (obtain ⟨hrc, hrf⟩ := bcell hr; (go_simp <;> with_reducible rfl); done)); simp only [Act.put, List.setIfInBounds_toArray, List.set_cons_zero, List.set_cons_succ]))
  refine fun wrd hrd => ?_
  obtain ⟨hrcd, hrfd⟩ := bcell hrd
  replace k2 := chain k2 hrd
  replace he := he.keep hrd
  replace hf := hf.keep hrd
  replace rb := rb.keep hrd
  replace rc := rc.keep hrd
  replace hxr := hxr.keep hrd
  clear d0 e0 zb zc hrcd hrfd hrd
  go_wp2_with fail
  refine (l6_read _ F N (by omega) (by omega) _ (hf) OKB.out (by rw [HNB.out]; omega)).mono ?_
  rintro e Yd ⟨vd, rfl, hxs, hv⟩
  rw [HR.out] at hxs ⊢
  replace k2 := chain k2 hv
  replace he := he.keep hv
  replace hf := hf.keep hv
  replace rb := rb.keep hv
  replace rc := rc.keep hv
  replace hxr := hxr.keep hv
  clear hv
  go_wp2_with fail
  simp only [midQ]
  repeat (refine' Lates.val (by rfl) (fun wq => ?_) ?_; rotate_left 1; (focus ((go_simp <;> with_reducible rfl); done)); simp only [Act.put, List.setIfInBounds_toArray, List.set_cons_zero, List.set_cons_succ])
  refine Lates.done ?_
  go_wp2_with fail
  refine (l5_same _ _ _ _ rfl _ hxr hxs hRl).mono ?_
  rintro e Z01 ⟨rfl, hv⟩
  replace k2 := chain k2 hv
  replace he := he.keep hv
  replace hf := hf.keep hv
  replace rb := rb.keep hv
  replace rc := rc.keep hv
  clear hv hxr hxs hRl HR
  go_wp2_with fail
  rw [rounds_succ]
  go_wp2_with fail
  rw [rounds_succ]
  go_wp2_with fail
  refine wp_loop_rounds 3 ?_
  rw [rounds_succ]
  go_wp2_with fail
  obtain ⟨R, hR⟩ : ∃ R, readF E (1 + k) = R := ⟨_, rfl⟩
  have hRl : R.2.length ≤ 100000000 := by rw [← hR]; have := readGo_len (E.length + 1) none E (1 + k); have h3 : E.length ≤ 2000 := (by rw [LE.out]; omega); exact Nat.le_trans this (by omega)
  have HR := Lib.hid hR
  clear hR
  have d0 := rb.two.2
  have e0 := rc.two.1
  have zb := rb.lt
  have zc := rc.lt
  refine region_mid 8 _ (by kernel_rfl) (by kernel_rfl) rfl (fun _ _ _ _ _ h => h) ?_
  simp only [List.take_succ_cons, List.take_zero, List.drop_succ_cons, List.drop_zero]
  repeat (first | (refine' InText.skip (by rfl) ?_; simp only [Act.put, List.setIfInBounds_toArray, List.set_cons_zero, List.set_cons_succ]) | (refine' InText.val (by rfl) (fun wr hr => ?_) ?_; rotate_left 1; (focus (obtain ⟨hrc, hrf⟩ := bcell hr; (go_simp <;> with_reducible rfl); done)); simp only [Act.put, List.setIfInBounds_toArray, List.set_cons_zero, List.set_cons_succ]))
  refine fun wre hre => ?_
  obtain ⟨hrce, hrfe⟩ := bcell hre
  replace k2 := chain k2 hre
  replace he := he.keep hre
  replace hf := hf.keep hre
  replace rb := rb.keep hre
  replace rc := rc.keep hre
  clear d0 e0 zb zc hrce hrfe hre
  go_wp2_with fail
  refine (b6_read _ E (1 + k) (by omega) (by omega) _ (hV.keep k2) (he) OKE.out (by rw [LE.out]; omega)).mono ?_
  rintro e Ye ⟨ve, rfl, hxr, hv⟩
  rw [HR.out] at hxr ⊢
  replace k2 := chain k2 hv
  replace he := he.keep hv
  replace hf := hf.keep hv
  replace rb := rb.keep hv
  replace rc := rc.keep hv
  clear hv
  go_wp2_with fail
  simp only [midQ]
  repeat (refine' Lates.val (by rfl) (fun wq => ?_) ?_; rotate_left 1; (focus ((go_simp <;> with_reducible rfl); done)); simp only [Act.put, List.setIfInBounds_toArray, List.set_cons_zero, List.set_cons_succ])
  refine Lates.done ?_
  go_wp2_with fail
  have d0 := rb.two.2
  have e0 := rc.two.1
  have zb := rb.lt
  have zc := rc.lt
  refine region_mid 8 _ (by kernel_rfl) (by kernel_rfl) rfl (fun _ _ _ _ _ h => h) ?_
  simp only [List.take_succ_cons, List.take_zero, List.drop_succ_cons, List.drop_zero]
  repeat (first | (refine' InText.skip (by rfl) ?_; simp only [Act.put, List.setIfInBounds_toArray, List.set_cons_zero, List.set_cons_succ]) | (refine' InText.val (by rfl) (fun wr hr => ?_) ?_; rotate_left 1; (focus (obtain ⟨hrc, hrf⟩ := bcell hr; (go_simp <;> with_reducible rfl); done)); simp only [Act.put, List.setIfInBounds_toArray, List.set_cons_zero, List.set_cons_succ]))
  refine fun wrf hrf => ?_
  obtain ⟨hrcf, hrff⟩ := bcell hrf
  replace k2 := chain k2 hrf
  replace he := he.keep hrf
  replace hf := hf.keep hrf
  replace rb := rb.keep hrf
  replace rc := rc.keep hrf
  replace hxr := hxr.keep hrf
  clear d0 e0 zb zc hrcf hrff hrf
  go_wp2_with fail
  refine (l6_read _ E (1 + k) (by omega) (by omega) _ (he) OKE.out (by rw [LE.out]; omega)).mono ?_
  rintro e Yf ⟨vf, rfl, hxs, hv⟩
  rw [HR.out] at hxs ⊢
  replace k2 := chain k2 hv
  replace he := he.keep hv
  replace hf := hf.keep hv
  replace rb := rb.keep hv
  replace rc := rc.keep hv
  replace hxr := hxr.keep hv
  clear hv
  go_wp2_with fail
  simp only [midQ]
  repeat (refine' Lates.val (by rfl) (fun wq => ?_) ?_; rotate_left 1; (focus ((go_simp <;> with_reducible rfl); done)); simp only [Act.put, List.setIfInBounds_toArray, List.set_cons_zero, List.set_cons_succ])
  refine Lates.done ?_
  go_wp2_with fail
  refine (l5_same _ _ _ _ rfl _ hxr hxs hRl).mono ?_
  rintro e Z10 ⟨rfl, hv⟩
  replace k2 := chain k2 hv
  replace he := he.keep hv
  replace hf := hf.keep hv
  replace rb := rb.keep hv
  replace rc := rc.keep hv
  clear hv hxr hxs hRl HR
  go_wp2_with fail
  rw [rounds_succ]
  go_wp2_with fail
  obtain ⟨R, hR⟩ : ∃ R, readF E N = R := ⟨_, rfl⟩
  have hRl : R.2.length ≤ 100000000 := by rw [← hR]; have := readGo_len (E.length + 1) none E N; have h3 : E.length ≤ 2000 := (by rw [LE.out]; omega); exact Nat.le_trans this (by omega)
  have HR := Lib.hid hR
  clear hR
  have d0 := rb.two.2
  have e0 := rc.two.2
  have zb := rb.lt
  have zc := rc.lt
  refine region_mid 8 _ (by kernel_rfl) (by kernel_rfl) rfl (fun _ _ _ _ _ h => h) ?_
  simp only [List.take_succ_cons, List.take_zero, List.drop_succ_cons, List.drop_zero]
  repeat (first | (refine' InText.skip (by rfl) ?_; simp only [Act.put, List.setIfInBounds_toArray, List.set_cons_zero, List.set_cons_succ]) | (refine' InText.val (by rfl) (fun wr hr => ?_) ?_; rotate_left 1; (focus (obtain ⟨hrc, hrf⟩ := bcell hr; (go_simp <;> with_reducible rfl); done)); simp only [Act.put, List.setIfInBounds_toArray, List.set_cons_zero, List.set_cons_succ]))
  refine fun wrg hrg => ?_
  obtain ⟨hrcg, hrfg⟩ := bcell hrg
  replace k2 := chain k2 hrg
  replace he := he.keep hrg
  replace hf := hf.keep hrg
  replace rb := rb.keep hrg
  replace rc := rc.keep hrg
  clear d0 e0 zb zc hrcg hrfg hrg
  go_wp2_with fail
  refine (b6_read _ E N (by omega) (by omega) _ (hV.keep k2) (he) OKE.out (by rw [LE.out]; omega)).mono ?_
  rintro e Yg ⟨vg, rfl, hxr, hv⟩
  rw [HR.out] at hxr ⊢
  replace k2 := chain k2 hv
  replace he := he.keep hv
  replace hf := hf.keep hv
  replace rb := rb.keep hv
  replace rc := rc.keep hv
  clear hv
  go_wp2_with fail
  simp only [midQ]
  repeat (refine' Lates.val (by rfl) (fun wq => ?_) ?_; rotate_left 1; (focus ((go_simp <;> with_reducible rfl); done)); simp only [Act.put, List.setIfInBounds_toArray, List.set_cons_zero, List.set_cons_succ])
  refine Lates.done ?_
  go_wp2_with fail
  have d0 := rb.two.2
  have e0 := rc.two.2
  have zb := rb.lt
  have zc := rc.lt
  refine region_mid 8 _ (by kernel_rfl) (by kernel_rfl) rfl (fun _ _ _ _ _ h => h) ?_
  simp only [List.take_succ_cons, List.take_zero, List.drop_succ_cons, List.drop_zero]
  repeat (first | (refine' InText.skip (by rfl) ?_; simp only [Act.put, List.setIfInBounds_toArray, List.set_cons_zero, List.set_cons_succ]) | (refine' InText.val (by rfl) (fun wr hr => ?_) ?_; rotate_left 1; (focus (obtain ⟨hrc, hrf⟩ := bcell hr; (go_simp <;> with_reducible rfl); done)); simp only [Act.put, List.setIfInBounds_toArray, List.set_cons_zero, List.set_cons_succ]))
  refine fun wrh hrh => ?_
  obtain ⟨hrch, hrfh⟩ := bcell hrh
  replace k2 := chain k2 hrh
  replace he := he.keep hrh
  replace hf := hf.keep hrh
  replace rb := rb.keep hrh
  replace rc := rc.keep hrh
  replace hxr := hxr.keep hrh
  clear d0 e0 zb zc hrch hrfh hrh
  go_wp2_with fail
  refine (l6_read _ E N (by omega) (by omega) _ (he) OKE.out (by rw [LE.out]; omega)).mono ?_
  rintro e Yh ⟨vh, rfl, hxs, hv⟩
  rw [HR.out] at hxs ⊢
  replace k2 := chain k2 hv
  replace he := he.keep hv
  replace hf := hf.keep hv
  replace rb := rb.keep hv
  replace rc := rc.keep hv
  replace hxr := hxr.keep hv
  clear hv
  go_wp2_with fail
  simp only [midQ]
  repeat (refine' Lates.val (by rfl) (fun wq => ?_) ?_; rotate_left 1; (focus ((go_simp <;> with_reducible rfl); done)); simp only [Act.put, List.setIfInBounds_toArray, List.set_cons_zero, List.set_cons_succ])
  refine Lates.done ?_
  go_wp2_with fail
  refine (l5_same _ _ _ _ rfl _ hxr hxs hRl).mono ?_
  rintro e Z11 ⟨rfl, hv⟩
  replace k2 := chain k2 hv
  replace he := he.keep hv
  replace hf := hf.keep hv
  replace rb := rb.keep hv
  replace rc := rc.keep hv
  clear hv hxr hxs hRl HR
  go_wp2_with fail
  rw [rounds_succ]
  go_wp2_with fail
  rw [rounds_succ]
  go_wp2_with fail
  refine (l6_lives _ (hV.keep k2)).mono ?_
  rintro e X9 ⟨rfl, hv⟩
  go_wp2
  go_ret
  exact ⟨rfl, by (repeat (first | with_reducible assumption | with_reducible exact Below.refl _ _ | with_reducible refine Below.drew ?_ | with_reducible refine below_drewN ?_ _ | with_reducible refine al ?_ _ | (with_reducible refine sc ?_ ?_; (focus (first | omega | (simp; done) | (simp; omega)))) | (with_reducible refine chain ?_ (by assumption))))⟩
theorem own : ownKnob Tryd.prog.godebug = none := by kernel_rfl
set_option maxRecDepth 100000 in
theorem contract (H : Type) (enc : TypeId × Value → H) (W : World) (base : Nat) (args : Array Value) (ds gs : List (DataW H)) (before : List MemPlace)
    (hval : ∀ (j : Nat) t v, Tryd.f5.params[j]? = some t → args[j]? = some v → Value.okWide Tryd.prog W .any base t v)
    (hW : DataW.Whole enc Tryd.prog Tryd.f5.params.toList Rows.codeReadsSpec.vars false W args.toList ds gs before) (hL : laidMetH Tryd.prog Rows.codeReadsRow.laid W) :
    Calls Tryd.prog 5 args W fun e W' => ∃ v, e = .returned v ∧ Rows.codeReadsSpec.post enc Tryd.prog Tryd.f5 false true false false W args v W' := by
  have hW' := hW
  obtain ⟨p, q, hA0, hV0, rfl, hfz, hnd⟩ := hW
  have hA : DataW.TrodAll enc Tryd.prog W 0 (fun _ => true) true Tryd.f5.params.toList args.toList ds p := hA0
  rw [Tryd.params5] at hA hval
  obtain ⟨v0, vs0, d0, ds0, p0, q0, hargs, rfl, rfl, h0, r0⟩ := trodAll_cons hA
  obtain ⟨v1, vs1, d1, ds1, p1, q1, rfl, rfl, rfl, h1, r1⟩ := trodAll_cons r0
  obtain ⟨v2, vs2, d2, ds2, p2, q2, rfl, rfl, rfl, h2, r2⟩ := trodAll_cons r1
  obtain ⟨v3, vs3, d3, ds3, p3, q3, rfl, rfl, rfl, h3, r3⟩ := trodAll_cons r2
  obtain ⟨v4, vs4, d4, ds4, p4, q4, rfl, rfl, rfl, h4, r4⟩ := trodAll_cons r3
  obtain ⟨rfl, rfl, rfl⟩ := trodAll_nil r4
  obtain rfl : args = #[v0, v1, v2, v3, v4] := by cases args; simp_all
  obtain ⟨rfl, rfl⟩ := trodVars_none hV0
  simp only [List.append_nil] at hW'
  have hlt : ∀ x ∈ p0 ++ (p1 ++ (p2 ++ (p3 ++ (p4 ++ ([]))))), x.block < W.heap.size := fun x hx => hW'.lt x (by simpa using hx)
  have hlt0 : ∀ x ∈ p0, x.block < W.heap.size := fun x hx => hlt x (List.mem_append.2 (.inl hx))
  have hlt1 : ∀ x ∈ p1, x.block < W.heap.size := fun x hx => hlt x (List.mem_append.2 (.inr (List.mem_append.2 (.inl hx))))
  have hlt2 : ∀ x ∈ p2, x.block < W.heap.size := fun x hx => hlt x (List.mem_append.2 (.inr (List.mem_append.2 (.inr (List.mem_append.2 (.inl hx))))))
  have hlt3 : ∀ x ∈ p3, x.block < W.heap.size := fun x hx => hlt x (List.mem_append.2 (.inr (List.mem_append.2 (.inr (List.mem_append.2 (.inr (List.mem_append.2 (.inl hx))))))))
  have hlt4 : ∀ x ∈ p4, x.block < W.heap.size := fun x hx => hlt x (List.mem_append.2 (.inr (List.mem_append.2 (.inr (List.mem_append.2 (.inr (List.mem_append.2 (.inr (List.mem_append.2 (.inl hx))))))))))
  have k0 := h0
  have k1 := h1
  have k2 := h2
  have k3 := h3
  have k4 := h4
  have w0 := open_byts (hval 0 25 v0 rfl rfl) h0 hlt0
  have w1 := open_runs (hval 1 22 v1 rfl rfl) h1 hlt1
  obtain ⟨a2, rfl, w2⟩ := open_num (hval 2 3 v2 rfl rfl) h2
  obtain ⟨a3, rfl, w3⟩ := open_byte (hval 3 5 v3 rfl rfl) h3
  obtain ⟨a4, rfl, w4⟩ := open_num (hval 4 3 v4 rfl rfl) h4
  clear hA0
  refine (walk v0 v1 a2 w2 a3 w3 a4 w4 W w0 w1 (Vars.of_laid (by kernel_rfl) hL (by simp [Rows.codeReadsRow]))).mono fun e W' ⟨he, hg⟩ => ?_
  subst he
  exact ⟨_, rfl, _, _, _, [], _, [], hW', (trodAll_cons_mk (shut_bool Tryd.underlying4 _) trodAll_mk0), (trodAll_cons_mk (Below.trod laidOut (by kernel_rfl) (of_decide_eq_true (by kernel_rfl)) k0 hg hlt0) (trodAll_cons_mk (Below.trod laidOut (by kernel_rfl) (of_decide_eq_true (by kernel_rfl)) k1 hg hlt1) (trodAll_cons_mk (Below.trod laidOut (by kernel_rfl) (of_decide_eq_true (by kernel_rfl)) k2 hg hlt2) (trodAll_cons_mk (Below.trod laidOut (by kernel_rfl) (of_decide_eq_true (by kernel_rfl)) k3 hg hlt3) (trodAll_cons_mk (Below.trod laidOut (by kernel_rfl) (of_decide_eq_true (by kernel_rfl)) k4 hg hlt4) trodAll_mk0))))), rfl, hg.frame _, fun h => by cases h⟩
set_option maxRecDepth 100000 in
theorem laid_met (os : Os) : laidMetH Tryd.prog Rows.codeReadsRow.laid ((World.doorLaid Tryd.prog 400 os).forCall (fun _ _ => 0) ⟨#[], #[.slice none 0 0, .slice none 0 0, .int .i64 0, .int .u8 0, .int .i64 0], []⟩).memory := by
  rw [MakeChecks.laidMetH_plain _ _ _ (by kernel_rfl)]
  exact laidMet_of_run' 8 (by kernel_rfl) (by kernel_rfl)
set_option maxRecDepth 100000 in
theorem lifted (os : Os) (started : os.Started) (H : Type) (enc : TypeId × Value → H) (F : Stop.Interp) :
    ReturnsInHanded {} Tryd.checked os 5 .any ((OpenSpec.ofChange Rows.codeReadsSpec).preRow enc Tryd.prog Tryd.f5 Rows.codeReadsRow.domain false Rows.codeReadsRow.laid) (((OpenSpec.ofChange Rows.codeReadsSpec).at F).post enc Tryd.prog Tryd.f5 false true false false) := by
  refine returnsInHanded_of_row (C := Tryd.checked) (s := OpenSpec.ofChange Rows.codeReadsSpec) own started (by kernel_rfl) Tryd.func5
    (witness_row_at (enc := enc) (C := Tryd.checked) false (World.doorLaid Tryd.prog 400 os) #[.slice none 0 0, .slice none 0 0, .int .i64 0, .int .u8 0, .int .i64 0] rfl (by kernel_rfl) (by kernel_rfl) (by kernel_rfl)
      (OpenSpec.preRow_of_B rfl 8 (by kernel_rfl) (by kernel_rfl) (laid_met os))) ?_
  intro W base args ds gs before hval hW _ _ _ hL _ _
  exact contract H enc W base args ds gs before hval hW hL
theorem said : Rows.CodeReadsSaid :=
  OpenClaim.holds_of_cond 5 Tryd.f5 rfl rfl rfl rfl rfl rfl rfl ⟨rfl, rfl, rfl, rfl, rfl⟩ rfl rfl rfl rfl rfl (by kernel_rfl) Tryd.func5 (by kernel_rfl)
    (of_decide_eq_true (by kernel_rfl)) (by unfold Func.isWrapper; first | (rw [if_pos (by decide +kernel)]; kernel_rfl) | (rw [if_neg (by decide +kernel)]; exact ⟨rfl, rfl⟩))
    (fun os started H enc _ F => by rw [OpenClaim.pre_eq_preRow]; exact lifted os started H enc F)
theorem plain (f : FuncId) (fn : Func) (hf : Tryd.pinned.checked.prog.funcNamed "breccia/breccialaw06.CodeReads" = some f) (hfn : Tryd.pinned.checked.prog.funcs[f]? = some fn) :
    false = Tryd.pinned.checked.prog.looks [] ∧ ∀ (j : Nat) t, fn.params[j]? = some t → Tryd.pinned.checked.prog.wantsStandIn t = false := by
  obtain rfl : f = 5 := Option.some.inj ((show Tryd.prog.funcNamed "breccia/breccialaw06.CodeReads" = some 5 by kernel_rfl).symm.trans hf) |>.symm
  obtain rfl : fn = Tryd.f5 := (Option.some.inj (Tryd.func5.symm.trans hfn)).symm
  refine ⟨by kernel_rfl, fun j t ht => ?_⟩
  rw [Tryd.params5] at ht
  have hm : t ∈ #[25, 22, 3, 5, 3] := Array.mem_of_getElem? ht
  have hm : t ∈ [25, 22, 3, 5, 3] := by simpa using hm
  have hall : ([25, 22, 3, 5, 3].all fun u => !Tryd.prog.wantsStandIn u) = true := by kernel_rfl
  exact (show Tryd.prog.wantsStandIn t = false by simpa using List.all_eq_true.1 hall t hm)
theorem card : Rows.CodeReadsCardSaid :=
  Claim7.holds_tied_plain_at .later [] _ _ _ _ said (fun _ h => by cases h) (by kernel_rfl) (fun _ h => by cases h) codeReads_row_tie rfl ⟨rfl, rfl⟩ (by kernel_rfl) rfl plain (by kernel_rfl)
#print axioms card
end Go.Proofs.YtafmekojdaeliaaDoor.codeReads
