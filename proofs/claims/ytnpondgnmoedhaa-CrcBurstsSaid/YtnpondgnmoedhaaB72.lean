/- Contracts of layer 7 (crc), of the landed code: With. -/
import Derived.Test.YtnpondgnmoedhaaB71
set_option linter.unusedVariables false
set_option linter.unusedSimpArgs false
namespace Go.Proofs.Ytnpondgnmoedhaa
open Go.ChangeShapes Go.WideShapes Go.ChangeAt Go.RowKit
theorem half_int (C : W16) (x : Nat) (hx : x < 16) : ∃ (A B : Int) (k : Nat), k < 16 ∧ IntKind.u16.wrap ((C.toNat : Int) * 16) = A ∧ IntKind.u8.wrap ((C.toNat : Int) / 4096) = B ∧ bits .xor .u8 B (x : Int) = (k : Int) ∧ bits .xor .u16 A ((tab4 k).toNat : Int) = ((hsF C x).toNat : Int) := by
  have hl := C.isLt
  refine ⟨(((C <<< 4).toNat : Nat) : Int), ((C.toNat / 4096 : Nat) : Int), (C.toNat / 4096) ^^^ x, ?_, ?_, ?_, ?_, ?_⟩
  · exact Nat.xor_lt_two_pow (n := 4) (by omega) (by omega)
  · rw [BitVec.toNat_shiftLeft, Nat.shiftLeft_eq]
    show _ % 65536 = _
    omega
  · show _ % 256 = _
    omega
  · exact u8_xor4 _ _ (by omega) (by omega)
  · rw [u16_xor4 _ _ (C <<< 4).isLt (tab4 _).isLt]
    rfl
set_option maxHeartbeats 8000000 in
theorem b7_with (c : W16) (v : Value) (l : List Int) (w : World) (hV : Vars w) (hl : BytsAt w v l) (ok : bytOk l) (hL : l.length ≤ 100000) : Calls Try.prog 10 #[.int .u16 (c.toNat : Int), v] w fun e w' => e = .returned (.int .u16 ((sumV c l).toNat : Int)) ∧ Below w.heap.size w w' := by
  have i16 : (Try.prog.info? 45).map (·.size) = some 16 := by kernel_rfl
  have ix0 : ∀ (x0 x1 : Int) (w : World), (Instr.index 28 (.agg #[.int .u8 x0, .int .u8 x1]) (.int .i64 0)).run Try.prog w = .ok (.int .u8 x0) w := fun _ _ _ => by kernel_rfl
  have ix1 : ∀ (x0 x1 : Int) (w : World), (Instr.index 28 (.agg #[.int .u8 x0, .int .u8 x1]) (.int .i64 1)).run Try.prog w = .ok (.int .u8 x1) w := fun _ _ _ => by kernel_rfl
  obtain ⟨p, cap, rfl, hf⟩ := hl.form
  obtain ⟨N, hN⟩ : ∃ N, l.length = N := ⟨_, rfl⟩
  have HN := Lib.hid hN
  have HF := Lib.hid hf
  have OK := Lib.hid ok
  rw [hN] at hL ⊢
  have hs : ∀ k (h : k < l.length), sumV c (l.take (k + 1)) = stepV (sumV c (l.take k)) l[k] := fun k h => by rw [take_succ_get l k h, sumV_append]; rfl
  have HS := Lib.hid hs
  obtain ⟨R, hR⟩ : ∃ R, sumV c l = R := ⟨_, rfl⟩
  have HR := Lib.hid hR
  obtain ⟨c0, hc0⟩ : ∃ x : Int, (c.toNat : Int) = x := ⟨_, rfl⟩
  have HC0 := Lib.hid hc0
  rw [hR, hc0]
  clear hN hf ok hs hl hR hc0
  go_enter Try.func10, Try.ntmps10
  go_wp2_with fail
  refine (b7_steps _).mono ?_
  rintro e w1 ⟨rfl, hb1⟩
  go_upto_region 2 with (refine wpList_store_row rfl 45 _ _ rfl w1.heap.size tabRow rfl rfl _ _ (RowAt.new _ _ _) i16 rfl (by simp [tabRow, tabAt, Value.oneCell']) ?_)
  have rt := (RowAt.new w1 #[.int .u16 0, .int .u16 0, .int .u16 0, .int .u16 0, .int .u16 0, .int .u16 0, .int .u16 0, .int .u16 0, .int .u16 0, .int .u16 0, .int .u16 0, .int .u16 0, .int .u16 0, .int .u16 0, .int .u16 0, .int .u16 0] 45).row tabRow
  have k2 : Below w.heap.size w ((w1.alloc (.cells #[.int .u16 0, .int .u16 0, .int .u16 0, .int .u16 0, .int .u16 0, .int .u16 0, .int .u16 0, .int .u16 0, .int .u16 0, .int .u16 0, .int .u16 0, .int .u16 0, .int .u16 0, .int .u16 0, .int .u16 0, .int .u16 0] 45)).setRow w1.heap.size tabRow) := below_setRow (al hb1 _) hb1.size _
  generalize (w1.alloc (.cells #[.int .u16 0, .int .u16 0, .int .u16 0, .int .u16 0, .int .u16 0, .int .u16 0, .int .u16 0, .int .u16 0, .int .u16 0, .int .u16 0, .int .u16 0, .int .u16 0, .int .u16 0, .int .u16 0, .int .u16 0, .int .u16 0] 45)).setRow w1.heap.size tabRow = w2 at *
  clear hb1
  have ct := rt.cell
  obtain ⟨tb, htb⟩ : ∃ b, w1.heap.size = b := ⟨_, rfl⟩
  rw [htb] at ct ⊢
  have CT : ∀ k : Nat, k < 16 → w2.cell? ⟨tb, k, none⟩ = some (.int .u16 ((tab4 k).toNat : Int)) := fun k hk => (ct k).trans (tabRow_at k hk)
  have HCT := Lib.hid CT
  clear ct CT rt htb
  go_wp2_with fail
  go_loop [0, 13] (fun x i => ∃ k : Nat, k ≤ N ∧ i = .int .i64 k ∧ x = .int .u16 ((sumV c (l.take k)).toNat : Int)) (fun _ i => N - (intOf i).toNat)
  case atStart => exact ⟨0, by omega, rfl, by rw [← HC0.out]; rfl⟩
  case round =>
    obtain ⟨k, hk, rfl, rfl⟩ := hrel
    by_cases hlt : k < N
    · obtain ⟨g, off, rfl, hc, hgg, hx⟩ := HF.out (by rw [HN.out]; omega)
      have h1 := hx k (by rw [HN.out]; exact hlt)
      have hst := HS.out k (by rw [HN.out]; exact hlt)
      obtain ⟨b0, b1⟩ := OK.out (l[k]'(by rw [HN.out]; exact hlt)) (List.getElem_mem _)
      obtain ⟨b, hb⟩ : ∃ x, (l[k]'(by rw [HN.out]; exact hlt)) = x := ⟨_, rfl⟩
      rw [hb] at h1 hst b0 b1
      rw [step_two _ ⟨b0, b1⟩] at hst
      obtain ⟨C, hC⟩ : ∃ C, sumV c (l.take k) = C := ⟨_, rfl⟩
      rw [hC] at hst ⊢
      obtain ⟨A1, B1, k1, hk1, q1, q2, q3, q4⟩ := half_int C (b.toNat / 16) (by omega)
      obtain ⟨D, hD⟩ : ∃ D, hsF C (b.toNat / 16) = D := ⟨_, rfl⟩
      rw [hD] at hst q4
      obtain ⟨A2, B2, k2n, hk2, r1, r2, r3, r4⟩ := half_int D (b.toNat % 16) (by omega)
      rw [← hst] at r4
      have e1 : ((b.toNat / 16 : Nat) : Int) = b / 16 := by omega
      have e2 : ((b.toNat % 16 : Nat) : Int) = b % 16 := by omega
      rw [e1] at q3
      rw [e2] at r3
      have t1 := HCT.out k1 hk1
      have t2 := HCT.out k2n hk2
      have hCb := C.isLt
      have hDb := D.isLt
      obtain ⟨Cn, hCn⟩ : ∃ n : Int, (C.toNat : Int) = n := ⟨_, rfl⟩
      obtain ⟨Dn, hDn⟩ : ∃ n : Int, (D.toNat : Int) = n := ⟨_, rfl⟩
      obtain ⟨T1, hT1⟩ : ∃ n : Int, ((tab4 k1).toNat : Int) = n := ⟨_, rfl⟩
      obtain ⟨T2, hT2⟩ : ∃ n : Int, ((tab4 k2n).toNat : Int) = n := ⟨_, rfl⟩
      obtain ⟨E, hE⟩ : ∃ n : Int, ((sumV c (l.take (k + 1))).toNat : Int) = n := ⟨_, rfl⟩
      rw [hCn] at q1 q2 ⊢
      rw [hDn] at q4 r1 r2
      rw [hT1] at q4 t1
      rw [hT2] at r4 t2
      rw [hE] at r4
      have HE := Lib.hid hE
      have bk : (k : Int) < N := by omega
      have bk1 : (k1 : Int) < 16 := by omega
      have bk2 : (k2n : Int) < 16 := by omega
      have c0 : 0 ≤ Cn := by omega
      have c1 : Cn ≤ 65535 := by omega
      have d0 : 0 ≤ Dn := by omega
      have d1 : Dn ≤ 65535 := by omega
      replace h1 := keepc k2 hgg h1
      clear hx hb hst hC hD hCn hDn hT1 hT2 hE e1 e2 hCb hDb
      go_wp2_with fail
      refine wp_loop_rounds 3 ?_
      rw [rounds_succ]
      go_wp2_with fail
      rw [rounds_succ]
      go_wp2_with fail
      rw [rounds_succ]
      go_wp2_with fail
      go_round
      case rel => exact ⟨k + 1, by omega, by go_num, by rw [HE.out]⟩
      case measure => simp [intOf]; omega
    · obtain rfl : k = N := by omega
      have e : l.take k = l := by rw [← HN.out, List.take_length]
      rw [e, HR.out]
      clear e
      go_wp2_with fail
      go_ret
      exact ⟨rfl, by (repeat (first | with_reducible assumption | with_reducible exact Below.refl _ _ | with_reducible refine Below.drew ?_ | with_reducible refine below_drewN ?_ _ | with_reducible refine al ?_ _ | (with_reducible refine sc ?_ ?_; (focus (first | omega | (simp; done) | (simp; omega)))) | (with_reducible refine chain ?_ (by assumption))))⟩
end Go.Proofs.Ytnpondgnmoedhaa
