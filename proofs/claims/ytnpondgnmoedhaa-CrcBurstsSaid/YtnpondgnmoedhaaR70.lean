/- Contracts of layer 7's reference (crc): Sum, Of. -/
import Derived.Test.YtnpondgnmoedhaaK07
import Derived.Test.YtnpondgnmoedhaaR6B
set_option linter.unusedVariables false
set_option linter.unusedSimpArgs false
namespace Go.Proofs.Ytnpondgnmoedhaa
open Go.ChangeShapes Go.WideShapes Go.ChangeAt Go.RowKit
set_option maxRecDepth 20000 in
set_option maxHeartbeats 4000000 in
theorem r7_sum (c : W16) (v : Value) (l : List Int) (w : World) (hl : BytsAt w v l) (ok : bytOk l) (hL : l.length ≤ maxLen) : Calls Try.prog 13 #[.int .i64 (c.toNat : Int), v] w fun e w' => e = .returned (.int .i64 ((sumV c l).toNat : Int)) ∧ w = w' := by
  obtain ⟨p, cap, rfl, hf⟩ := hl.form
  obtain ⟨N, hN⟩ : ∃ N, l.length = N := ⟨_, rfl⟩
  have HN := Lib.hid hN
  have HF := Lib.hid hf
  have OK := Lib.hid ok
  rw [hN] at hL ⊢
  unfold maxLen at hL
  have hs : ∀ k (h : k < l.length), sumV c (l.take (k + 1)) = stepV (sumV c (l.take k)) l[k] := fun k h => by rw [take_succ_get l k h, sumV_append]; rfl
  have HS := Lib.hid hs
  obtain ⟨R, hR⟩ : ∃ R, sumV c l = R := ⟨_, rfl⟩
  have HR := Lib.hid hR
  rw [hR]
  clear hN hf ok hs hl hR
  go_enter Try.func13, Try.ntmps13
  go_wp2_with fail
  go_loop [0, 5] (fun x i => ∃ k : Nat, k ≤ N ∧ i = .int .i64 k ∧ x = .int .i64 ((sumV c (l.take k)).toNat : Int)) (fun _ i => N - (intOf i).toNat)
  case atStart => exact ⟨0, by omega, rfl, rfl⟩
  case round =>
    obtain ⟨k, hk, rfl, rfl⟩ := hrel
    by_cases hlt : k < N
    · obtain ⟨g, off, rfl, hc, hgg, hx⟩ := HF.out (by rw [HN.out]; omega)
      have h1 := hx k (by rw [HN.out]; exact hlt)
      have hst := HS.out k (by rw [HN.out]; exact hlt)
      obtain ⟨b0, b1⟩ := OK.out (l[k]'(by rw [HN.out]; exact hlt)) (List.getElem_mem _)
      obtain ⟨b, hb⟩ : ∃ x, (l[k]'(by rw [HN.out]; exact hlt)) = x := ⟨_, rfl⟩
      rw [hb] at h1 hst b0 b1
      obtain ⟨C, hC⟩ : ∃ C, sumV c (l.take k) = C := ⟨_, rfl⟩
      rw [hC] at hst ⊢
      have hxr : bits .xor .i64 (C.toNat : Int) (b * 256) = ((C ^^^ byB b).toNat : Int) := by
        have hl := C.isLt
        have e : b * 256 = ((b.toNat * 256 : Nat) : Int) := by omega
        have e2 : (byB b).toNat = b.toNat * 256 := by unfold byB; rw [BitVec.toNat_ofNat]; omega
        rw [e, i64_xor _ _ (by omega) (by omega), BitVec.toNat_xor, e2]
      obtain ⟨D, hD⟩ : ∃ D, C ^^^ byB b = D := ⟨_, rfl⟩
      have hst2 : sumV c (l.take (k + 1)) = iterB 8 D := by rw [hst, iter8, ← hD]; rfl
      rw [hD] at hxr
      have HST := Lib.hid hst2
      have bk : (k : Int) < N := by omega
      clear hx hb hst hst2 hC hD
      obtain ⟨Cn, hCn⟩ : ∃ n, C.toNat = n := ⟨_, rfl⟩
      rw [hCn] at hxr ⊢
      clear hCn
      go_wp2_with fail
      go_loop [0, 6] (fun x i => ∃ m : Nat, m ≤ 8 ∧ i = .int .i64 m ∧ x = .int .i64 ((iterB m D).toNat : Int)) (fun _ i => 8 - (intOf i).toNat)
      case atStart => exact ⟨0, by omega, rfl, rfl⟩
      case round =>
        obtain ⟨m, hm, rfl, rfl⟩ := hrel
        by_cases hm8 : m < 8
        · have hn : (iterB (m + 1) D).toNat = _ := stB_nat (iterB m D)
          have hlt := (iterB m D).isLt
          obtain ⟨x, hx⟩ : ∃ x, (iterB m D).toNat = x := ⟨_, rfl⟩
          rw [hx] at hn hlt ⊢
          obtain ⟨y, hy⟩ : ∃ y, (iterB (m + 1) D).toNat = y := ⟨_, rfl⟩
          rw [hy] at hn
          have HY := Lib.hid hy
          have hlt2 : x < 65536 := hlt
          clear hx hy hxr hlt
          have two : ∀ X Y : Int, (x : Int) = X → (y : Int) = Y → (65536 ≤ X * 2 ∧ bits .xor .i64 (X * 2 - 65536) 4129 = Y) ∨ (¬ 65536 ≤ X * 2 ∧ X * 2 = Y) := by
            rintro X Y rfl rfl
            by_cases h6 : 65536 ≤ x * 2
            · rw [if_pos h6] at hn
              left
              refine ⟨by omega, ?_⟩
              rw [show (x : Int) * 2 - 65536 = ((x * 2 - 65536 : Nat) : Int) by omega, show (4129 : Int) = ((4129 : Nat) : Int) from rfl, i64_xor _ _ (by omega) (by omega), ← hn]
            · rw [if_neg h6] at hn
              right
              exact ⟨by omega, by omega⟩
          obtain ⟨X, hX⟩ : ∃ X : Int, (x : Int) = X := ⟨_, rfl⟩
          obtain ⟨Y, hY⟩ : ∃ Y : Int, (y : Int) = Y := ⟨_, rfl⟩
          have two := two X Y hX hY
          have X0 : 0 ≤ X := by omega
          have X1 : X ≤ 65535 := by omega
          rw [hX]
          have HYI := Lib.hid hY
          clear hn hlt2 hX hY
          rcases two with ⟨h6, hxr⟩ | ⟨h6, hy2⟩
          · go_wp2_with fail
            go_round
            case rel => exact ⟨m + 1, by omega, by go_num, by rw [HY.out, HYI.out]⟩
            case measure => simp [intOf]; omega
          · have HY2 := Lib.hid hy2
            clear hy2
            go_wp2_with fail
            go_round
            case rel => exact ⟨m + 1, by omega, by go_num, by rw [HY.out, HYI.out, HY2.out]⟩
            case measure => simp [intOf]; omega
        · obtain rfl : m = 8 := by omega
          go_wp2_with fail
          go_round
          case rel => exact ⟨k + 1, by omega, by go_num, by rw [HST.out]⟩
          case measure => simp [intOf]; omega
    · obtain rfl : k = N := by omega
      have e : l.take k = l := by rw [← HN.out, List.take_length]
      rw [e, HR.out]
      clear e
      go_wp2_with fail
      go_ret
      exact ⟨rfl, rfl⟩
theorem r7_of (v : Value) (l : List Int) (w : World) (hl : BytsAt w v l) (ok : bytOk l) (hL : l.length ≤ maxLen) : Calls Try.prog 12 #[v] w fun e w' => e = .returned (.int .i64 ((ofV l).toNat : Int)) ∧ w = w' := by
  have h := r7_sum 65535#16 v l w hl ok hL
  rw [show ((65535#16).toNat : Int) = 65535 from rfl, show sumV 65535#16 l = ofV l from rfl] at h
  generalize (ofV l).toNat = x at *
  have H := Lib.hid h
  clear h hl ok hL
  go_enter Try.func12, Try.ntmps12
  go_wp2_with fail
  (refine (H.out).mono ?_; rintro e w1 ⟨rfl, rfl⟩)
  go_wp2
  go_ret
  exact ⟨rfl, rfl⟩
end Go.Proofs.Ytnpondgnmoedhaa
