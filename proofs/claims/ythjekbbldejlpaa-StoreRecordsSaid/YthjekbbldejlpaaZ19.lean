/- Texts behind each other. -/
import Derived.Test.YthjekbbldejlpaaZ18
import Derived.Test.YthjekbbldejlpaaZ16
import Derived.Test.YthjekbbldejlpaaZ17
import Derived.Test.YthjekbbldejlpaaZ12
/- StoreRecords, over what is asked of the store. -/
set_option linter.unusedVariables false
set_option linter.unusedSimpArgs false
namespace Go.Proofs.Ythjekbbldejlpaa
open Go.ChangeShapes Go.WideShapes Go.ChangeAt Go.RowKit
theorem readB_ok {b : List Int} (hb : bytOk b) : bytOk (readB b) := by
  unfold readB
  split
  · unfold takeF
    split
    · exact fun x hx => hb x (List.mem_of_mem_take (List.mem_of_mem_drop hx))
    · intro x hx; simp at hx
  · intro x hx; cases hx
theorem wrF9_ok {ver : Int} {B : List Int} (ok : bytOk B) : bytOk (wrF9 ver B) := by
  unfold wrF9
  split
  · exact recF_ok ok
  · intro x hx; cases hx
set_option maxRecDepth 10000 in
set_option maxHeartbeats 16000000 in
theorem storeRecords_core (I : StoreI) (w : World) (ver : Int) (hv : i64 ver) (vb : Value) (hb : BytsIn w vb) (vc : Value) (hc : BytsIn w vc) (at0 : Int) (ha : i64 at0) (x : Int) (hx : 0 ≤ x ∧ x ≤ 255) :
    Calls Try.prog 3 #[.int .i64 ver, vb, vc, .int .i64 at0, .int .u8 x] w fun e w' => e = .returned (.bool true) ∧ Below w.heap.size w w' := by
  obtain ⟨b0, hb0, ok0, hm0⟩ := hb
  obtain ⟨c0, hc0, okc, hmc⟩ := hc
  obtain ⟨i0, hi, hz, hsz, hby⟩ := byte_info
  obtain ⟨B, hB⟩ : ∃ B, b0.take 60 = B := ⟨_, rfl⟩
  have okB : bytOk B := hB ▸ ok0.take 60
  have lB : B.length ≤ 60 := by rw [← hB]; simp; omega
  have few0 := fun k hk => r6_few vb b0 60 k hk hm0 (by omega)
  rw [hB] at few0
  obtain ⟨C, hC⟩ : ∃ B, c0.take 60 = B := ⟨_, rfl⟩
  have okC : bytOk C := hC ▸ okc.take 60
  have lC : C.length ≤ 60 := by rw [← hC]; simp; omega
  have few1 := fun k hk => r6_few vc c0 60 k hk hmc (by omega)
  rw [hC] at few1
  have an := fun u => r_around ver 1073741824 hv.1 hv.2 (by omega) (by omega) u
  have ab := around_bd ver 1073741824 (by omega)
  obtain ⟨V, hV⟩ : ∃ V, aroundF ver 1073741824 = V := ⟨_, rfl⟩
  rw [hV] at an ab
  obtain ⟨V1, hV1⟩ : ∃ V1, 1 + V = V1 := ⟨_, rfl⟩
  have wV : IntKind.i64.wrap (1 + V) = V1 := by rw [hV1]; exact IntWalk.i64_in _ (by omega)
  have iV1 : i64 V1 := by constructor <;> omega
  have wr1 : wr9 V1 B = true := by unfold wr9; simp only [Bool.and_eq_true, decide_eq_true_eq]; omega
  obtain ⟨re, rv, rb⟩ := read_rec wr1
  have lW := recF_len V1 B
  have okR := recF_ok (ver := V1) okB
  have hW1 : wrF9 V1 B = recF V1 B := by unfold wrF9; rw [wr1]; rfl
  have WRI := Lib.hid (fun u vb (hb : BytsAt u vb B) => I.write u ver vb B hv hb okB (by omega))
  have WRR := Lib.hid (fun u vb (hb : BytsAt u vb B) => r9_write ver vb B u hv hb okB (by unfold maxLen; omega))
  have WR1 := Lib.hid (fun u vb (hb : BytsAt u vb B) => by have h := r9_write V1 vb B u iV1 hb okB (by unfold maxLen; omega); rw [wr1, hW1] at h; exact h)
  obtain ⟨E, hE⟩ : ∃ E, (if wr9 ver B = true then (0 : Int) else 1) = E := ⟨_, rfl⟩
  obtain ⟨W, hW⟩ : ∃ W, wrF9 ver B = W := ⟨_, rfl⟩
  have okW : bytOk W := by rw [← hW]; exact wrF9_ok okB
  rw [hE, hW] at WRI WRR
  obtain ⟨R, hR⟩ : ∃ R, recF V1 B = R := ⟨_, rfl⟩
  rw [hR] at WR1 re rv rb lW okR
  obtain ⟨nR, hnR⟩ : ∃ n, R.length = n := ⟨_, rfl⟩
  rw [hnR] at lW WR1
  have ao := fun u => r_around at0 nR ha.1 ha.2 (by omega) (by omega) u
  have aob := around_bd at0 nR (by omega)
  obtain ⟨k, hk⟩ : ∃ k : Nat, aroundF at0 nR = k := ⟨(aroundF at0 nR).toNat, by omega⟩
  rw [hk] at ao aob
  have hkR : k < nR := by omega
  have RDR := Lib.hid (fun u vb (hb : BytsAt u vb R) => by have h := I.read u vb R hb okR (by omega); rw [re, rv, rb] at h; exact h)
  obtain ⟨R2, hR2⟩ : ∃ R2, R.set k x = R2 := ⟨_, rfl⟩
  have okR2 : bytOk R2 := by rw [← hR2]; exact set_ok okR k hx
  have lR2 : R2.length = nR := by rw [← hR2]; simpa using hnR
  have eR2 : (bytVs R).set k (.int .u8 x) = bytVs R2 := by rw [← hR2]; simp [bytVs]
  obtain ⟨old, hold⟩ : ∃ y : Int, (bytVs R)[k]? = some (.int .u8 y) := ⟨R[k]'(by omega), by simp [bytVs, show k < R.length by omega]⟩
  have HOLD := Lib.hid hold
  have AN := Lib.hid an
  have AO := Lib.hid ao
  have FEW0 := Lib.hid few0
  have FEW1 := Lib.hid few1
  have HNR := Lib.hid hnR
  have LR2 := Lib.hid lR2
  have ER2 := Lib.hid eR2
  have SMW := Lib.hid (fun va vb u h h' => r6_same va vb W W u h h' okW okW)
  have SMB := Lib.hid (fun va vb u h h' => r6_same va vb B B u h h' okB okB)
  have lW1 : nR ≤ 69 := by omega
  have lW2 : 9 ≤ nR := by omega
  have kRI : (k : Int) < nR := by omega
  have hVb : 0 ≤ V ∧ V < 1073741824 := ⟨ab.1, ab.2⟩
  clear few0 few1 an ao hV hE hW hR hR2 eR2 lR2 hnR hB hC re rv rb hW1 ok0 okc ab aob hk wr1 lW hold
  go_enter Try.func3, Try.ntmps3
  go_wp2_with fail
  refine (FEW0.out _ hb0).mono ?_
  rintro e w1 ⟨pb, cb, rfl, hB1, k1⟩
  go_wp2_with fail
  refine (WRI.out _ _ hB1).mono ?_
  rintro e w2 ⟨v2, rfl, hW2, hv⟩
  obtain ⟨p2, c2, rfl⟩ := hW2.shape
  have k2 := chain k1 hv
  replace hB1 := hB1.keep hv
  clear hv k1
  go_wp2_with fail
  refine (WRR.out _ _ hB1).mono ?_
  rintro e w3 ⟨v3, rfl, ho3, hv⟩
  have hW3 := byts_of_owned ho3
  obtain ⟨p3, c3, rfl⟩ := hW3.shape
  have k3 := chain k2 hv
  replace hB1 := hB1.keep hv
  replace hW2 := hW2.keep hv
  clear hv k2 ho3
  go_wp2_with fail
  refine (SMW.out _ _ _ hW2 hW3).mono ?_
  rintro e w4 ⟨he, hv⟩
  simp only [decide_true] at he
  subst he
  have k4 := chain k3 hv
  replace hB1 := hB1.keep hv
  clear hv hW2 hW3 k3
  go_wp2_with fail
  refine (AN.out _).mono ?_
  rintro e w4' ⟨rfl, rfl⟩
  go_wp2_with fail
  refine (WR1.out _ _ hB1).mono ?_
  rintro e w5 ⟨v5, rfl, ho5, hv⟩
  obtain ⟨g5, c5, rfl⟩ := own_some ho5 (by omega)
  have k5 := chain k4 hv
  replace hB1 := hB1.keep hv
  have ho5 := own_base ho5 k4.size
  clear hv k4
  have hb5 : BytsAt w5 (.slice (some ⟨g5, 0, none⟩) nR c5) R := byts_of_owned (base := w.heap.size) (e := 5) (HNR.out.symm ▸ ho5)
  go_wp2_with fail
  refine (RDR.out _ _ hb5).mono ?_
  rintro e w6 ⟨v6, rfl, hB6, hv⟩
  obtain ⟨p6, c6, rfl⟩ := hB6.shape
  have k6 := chain k5 hv
  replace hB1 := hB1.keep hv
  replace ho5 := own_keep ho5 hv
  clear hv k5 hb5
  go_wp2_with fail
  refine (AN.out _).mono ?_
  rintro e w6' ⟨rfl, rfl⟩
  go_wp2_with fail
  refine (SMB.out _ _ _ hB6 hB1).mono ?_
  rintro e w7 ⟨he, hv⟩
  simp only [decide_true] at he
  subst he
  have k7 := chain k6 hv
  replace ho5 := own_keep ho5 hv
  clear hv hB6 hB1 k6
  obtain ⟨fz, zg⟩ := own_open ho5
  go_wp2_with fail
  refine (AO.out _).mono ?_
  rintro e w7' ⟨rfl, rfl⟩
  have d0 := own_cell ho5 k HOLD.out
  go_wp2_with fail
  have hos := own_set ho5 k (by omega) (.int .u8 x)
  rw [ER2.out] at hos
  have k8 : Below w.heap.size w (w7.setCell ⟨g5, k, none⟩ (.int .u8 x)) := Below.own_set k7 ho5 k _
  obtain ⟨w8, hw8⟩ : ∃ U, w7.setCell ⟨g5, k, none⟩ (.int .u8 x) = U := ⟨_, rfl⟩
  rw [hw8] at hos k8 ⊢
  clear hw8 d0 fz zg ho5 k7
  refine (FEW1.out _ (hc0.keep k8)).mono ?_
  rintro e w9 ⟨p9, c9, rfl, hC9, hv⟩
  replace hos := own_keep hos hv
  have k9 := chain k8 hv
  have hR9 : BytsAt w9 (.slice (some ⟨g5, 0, none⟩) nR c5) R2 := byts_of_owned (base := w.heap.size) (e := 5) (LR2.out.symm ▸ hos)
  clear hv k8 hos
  have RDI := Lib.hid (fun u vb L (hb : BytsAt u vb L) (ok : bytOk L) (h : L.length ≤ 100) => I.read u vb L hb ok (by omega))
  have RRF := Lib.hid (fun u vb L (hb : BytsAt u vb L) (ok : bytOk L) (h : L.length ≤ 100) => r9_read vb L u hb ok (by omega))
  go_wp2_with fail
  obtain ⟨w10, hw10⟩ : ∃ u, w9.alloc (.cells #[.slice p9 C.length c9, .slice (some ⟨g5, 0, none⟩) nR c5] 22) = u := ⟨_, rfl⟩
  have kv : Below w9.heap.size w9 w10 := by rw [← hw10]; exact al (Below.refl _ _) _
  have rr : RowAt w10 w9.heap.size #[.slice p9 C.length c9, .slice (some ⟨g5, 0, none⟩) nR c5] 22 := by rw [← hw10]; exact RowAt.new w9 _ _
  rw [hw10]
  have k10 := chain k9 kv
  replace hC9 := hC9.keep kv
  replace hR9 := hR9.keep kv
  have lR2 : R2.length ≤ 100 := by rw [LR2.out]; omega
  have two : ∀ (j : Nat), j < 2 → ∃ p n c L, (#[.slice p9 C.length c9, .slice (some ⟨g5, 0, none⟩) nR c5] : Array Value)[j]? = some (.slice p n c) ∧ BytsAt w10 (.slice p n c) L ∧ bytOk L ∧ L.length ≤ 100 := by
    intro j hj
    match j, hj with
    | 0, _ => exact ⟨_, _, _, C, rfl, hC9, okC, by omega⟩
    | 1, _ => exact ⟨_, _, _, R2, rfl, hR9, okR2, lR2⟩
  have TWO := Lib.hid two
  clear two hC9 hR9 kv hw10 lR2 k9 okC okR2 okR okB okW
  go_loopw [21] (fun i wr => ∃ j : Nat, j ≤ 2 ∧ i = .int .i64 j ∧ Below w10.heap.size w10 wr) (fun i _ => 2 - (intOf i).toNat)
  case atStart => exact ⟨0, by omega, rfl, Below.refl _ _⟩
  case round =>
    obtain ⟨j, hj, rfl, kw⟩ := hrel
    by_cases hlt : j < 2
    · obtain ⟨q, n, c, L, hcell, hL, okL, lL⟩ := TWO.out j hlt
      have bj : (j : Int) < 2 := by omega
      have x0 : wr.cell? ⟨w9.heap.size, j, none⟩ = some (.slice q n c) := by rw [(rr.keep kw).cell]; exact hcell
      have z0 : w9.heap.size < wr.heap.size := (rr.keep kw).lt
      have hL1 := hL.keep kw
      have okG := readB_ok okL
      obtain ⟨A, hA⟩ : ∃ A, readV L = A := ⟨_, rfl⟩
      obtain ⟨G, hG⟩ : ∃ G, readB L = G := ⟨_, rfl⟩
      obtain ⟨E2, hE2⟩ : ∃ E, readE L = E := ⟨_, rfl⟩
      rw [hG] at okG
      have D1 := RDI.out wr _ L hL1 okL lL
      have D2 := fun u hu => RRF.out u (.slice q n c) L hu okL lL
      rw [hA, hG, hE2] at D1 D2
      have D1 := Lib.hid D1
      have D2 := Lib.hid D2
      have OKG := Lib.hid okG
      clear hcell hA hG hE2 okL okG
      go_wp2_with fail
      refine D1.out.mono ?_
      rintro e w11 ⟨v11, rfl, hG11, hv⟩
      obtain ⟨p11, c11, rfl⟩ := hG11.shape
      have k11 := chain kw hv
      have x1 := keepc hv z0 x0
      have z1 := size_lt z0 hv
      replace hL1 := hL1.keep hv
      clear hv x0 z0
      go_wp2_with fail
      refine (D2.out _ hL1).mono ?_
      rintro e w12 ⟨v12, rfl, hG12, hv⟩
      obtain ⟨p12, c12, rfl⟩ := hG12.shape
      have k12 := chain k11 hv
      replace hG11 := hG11.keep hv
      clear hv hL1 x1 z1
      go_wp2_with fail
      refine (r6_same _ _ G G w12 hG11 hG12 OKG.out OKG.out).mono ?_
      rintro e w13 ⟨he, hv⟩
      simp only [decide_true] at he
      subst he
      have k13 := chain k12 hv
      clear hv hG11 hG12
      go_wp2_with fail
      go_roundw
      case rel => exact ⟨j + 1, by omega, by go_num, k13⟩
      case measure => simp [intOf]; omega
    · obtain rfl : j = 2 := by omega
      go_wp2_with fail
      refine (l9_lives I _).mono ?_
      rintro e w14 ⟨rfl, hv⟩
      go_wp2
      go_ret
      exact ⟨rfl, chain (chain k10 kw) hv⟩
end Go.Proofs.Ythjekbbldejlpaa
