/- Texts behind each other. -/
import Derived.Test.YthjekbbldejlpaaZ03
import Derived.Test.YthjekbbldejlpaaZ04
import Derived.Test.YthjekbbldejlpaaZ10
/- Contracts of layer 6's reference (code): Same, Few. -/
set_option linter.unusedVariables false
set_option linter.unusedSimpArgs false
namespace Go.Proofs.Ythjekbbldejlpaa
open Go.ChangeShapes Go.WideShapes Go.ChangeAt Go.RowKit
theorem byte_info : ∃ i, Try.prog.info? 5 = some i ∧ i.zero = some (.int .u8 0) ∧ i.size = 1 ∧ i.bytes = 1 := by
  obtain ⟨i, hi⟩ : ∃ i, Try.prog.info? 5 = some i := Option.isSome_iff_exists.1 (by kernel_rfl)
  have h : (Try.prog.info? 5).map (fun i => (i.zero, i.size, i.bytes)) = some (some (.int .u8 0), 1, 1) := by kernel_rfl
  rw [hi] at h
  simp at h
  exact ⟨i, hi, h.1, h.2.1, h.2.2⟩
theorem conv_byts {w : World} {v : Value} {l : List Int} (h : BytsAt w v l) : (convert 22 9 v).run Try.prog w = .ok (.string (strOfNums l)) w := by
  rcases h with ⟨⟨p, cap, rfl⟩, rfl⟩ | ⟨g, off, cap, rfl, hc, hg, hx⟩
  · cases p with
    | none => exact run_convert_bytes_nil w 22 5 Try.underlying22 Try.underlying5 0 cap 9 Try.underlying9
    | some a =>
      rw [run_convert_bytes_string w _ _ 5 _ 0 cap Try.underlying22 Try.underlying5 Try.underlying9]
      rw [run_bytesToString w a 0 cap [] (by simp [loadCells, go_sem])]
      rfl
  · exact run_convert_bytes_arg w 22 5 Try.underlying22 Try.underlying5 g off l.length cap l rfl (fun i hi => by rw [hx i hi]; simp [List.getD, hi]) 9 Try.underlying9
theorem r6_same (va vb : Value) (a b : List Int) (w : World) (ha : BytsAt w va a) (hb : BytsAt w vb b) (oa : bytOk a) (ob : bytOk b) : Calls Try.prog 12 #[va, vb] w fun e w' =>
    e = .returned (.bool (decide (a = b))) ∧ Below w.heap.size w w' := by
  have ca := conv_byts ha
  have cb := conv_byts hb
  have e0 : ((strOfNums a).toList == (strOfNums b).toList) = decide (a = b) := by
    rw [Bool.eq_iff_iff]
    simp only [beq_iff_eq, decide_eq_true_eq]
    exact ⟨strOfNums_inj oa ob, fun h => by rw [h]⟩
  obtain ⟨q, hq⟩ : ∃ q, decide (a = b) = q := ⟨_, rfl⟩
  rw [hq] at e0 ⊢
  obtain ⟨pa, ka, rfl⟩ := ha.shape
  obtain ⟨pb, kb, rfl⟩ := hb.shape
  obtain ⟨X, hX⟩ : ∃ X, strOfNums a = X := ⟨_, rfl⟩
  obtain ⟨Y, hY⟩ : ∃ Y, strOfNums b = Y := ⟨_, rfl⟩
  rw [hX] at ca e0
  rw [hY] at cb e0
  obtain ⟨n, hn⟩ : ∃ n, a.length = n := ⟨_, rfl⟩
  obtain ⟨m, hm⟩ : ∃ m, b.length = m := ⟨_, rfl⟩
  rw [hn] at ca ⊢
  rw [hm] at cb ⊢
  clear hX hY hn hm hq ha hb oa ob
  go_enter Try.func12, Try.ntmps12
  go_wp2
  go_ret
  exact ⟨ret_bool (by first | exact e0 | (simp [*]; done) | simpa using e0), by (repeat (first | with_reducible assumption | with_reducible exact Below.refl _ _ | with_reducible refine Below.drew ?_ | with_reducible refine below_drewN ?_ _ | with_reducible refine al ?_ _ | (with_reducible refine sc ?_ ?_; (focus (first | omega | (simp; done) | (simp; omega)))) | (with_reducible refine chain ?_ (by assumption))))⟩
theorem r6_few (v : Value) (l : List Int) (M : Nat) (w : World) (hl : BytsAt w v l) (hL : l.length ≤ maxLen) (hM : M ≤ 100000) : Calls Try.prog 9 #[v, .int .i64 M] w fun e w' =>
    ∃ p cap, e = .returned (.slice p (l.take M).length cap) ∧ BytsAt w' (.slice p (l.take M).length cap) (l.take M) ∧ Below w.heap.size w w' := by
  obtain ⟨p, cap, rfl, hf⟩ := hl.form
  have hf2 : 0 < l.length → ∃ g off, p = some ⟨g, off, none⟩ ∧ l.length ≤ cap := fun h => by
    obtain ⟨g, off, e, hc, _⟩ := hf h
    exact ⟨g, off, e, hc⟩
  clear hf
  obtain ⟨N, hN⟩ : ∃ N, l.length = N := ⟨_, rfl⟩
  rw [hN] at hl hf2 hL ⊢
  unfold maxLen at hL
  by_cases h : (M : Int) < N
  · obtain ⟨g, off, rfl, hc⟩ := hf2 (by omega)
    have ht := hl.take (k := M) (by omega)
    have hlen : (l.take M).length = M := by simp; omega
    rw [hlen]
    have hc2 : (M : Int) ≤ cap := by omega
    have HT := Lib.hid ht
    clear hl hf2 ht hlen hN
    go_enter Try.func9, Try.ntmps9
    go_wp2
    go_ret
    exact ⟨_, _, rfl, HT.out, by (repeat (first | with_reducible assumption | with_reducible exact Below.refl _ _ | with_reducible refine Below.drew ?_ | with_reducible refine below_drewN ?_ _ | with_reducible refine al ?_ _ | (with_reducible refine sc ?_ ?_; (focus (first | omega | (simp; done) | (simp; omega)))) | (with_reducible refine chain ?_ (by assumption))))⟩
  · have e : l.take M = l := List.take_of_length_le (by omega)
    rw [e, hN]
    have HL := Lib.hid hl
    clear hl hf2 e hN
    go_enter Try.func9, Try.ntmps9
    go_wp2
    go_ret
    exact ⟨_, _, rfl, HL.out, by (repeat (first | with_reducible assumption | with_reducible exact Below.refl _ _ | with_reducible refine Below.drew ?_ | with_reducible refine below_drewN ?_ _ | with_reducible refine al ?_ _ | (with_reducible refine sc ?_ ?_; (focus (first | omega | (simp; done) | (simp; omega)))) | (with_reducible refine chain ?_ (by assumption))))⟩
end Go.Proofs.Ythjekbbldejlpaa
/- Contracts of layer 9's reference (store): digits, num. -/
set_option linter.unusedVariables false
set_option linter.unusedSimpArgs false
namespace Go.Proofs.Ythjekbbldejlpaa
open Go.ChangeShapes Go.WideShapes Go.ChangeAt Go.RowKit
set_option maxHeartbeats 4000000 in
theorem r9_num (v : Value) (l : List Int) (w : World) (hl : BytsAt w v l) (ok : bytOk l) (hL : l.length ≤ 4) : Calls Try.prog 32 #[v] w fun e w' => e = .returned (.int .i64 (num9 l)) ∧ w = w' := by
  obtain ⟨p, cap, rfl, hf⟩ := hl.form
  obtain ⟨N, hN⟩ : ∃ N, l.length = N := ⟨_, rfl⟩
  have HN := Lib.hid hN
  have HF := Lib.hid hf
  have OK := Lib.hid ok
  have hb := Lib.hid (num9_bd ok)
  rw [hN] at hL ⊢
  obtain ⟨R, hR⟩ : ∃ R, num9 l = R := ⟨_, rfl⟩
  have HR := Lib.hid hR
  rw [hR]
  clear hN hf ok hl hR
  go_enter Try.func32, Try.ntmps32
  go_wp2_with fail
  go_loop [3, 4] (fun x i => ∃ k : Nat, k ≤ N ∧ i = .int .i64 k ∧ x = .int .i64 (num9 (l.take k))) (fun _ i => N - (intOf i).toNat)
  case atStart => exact ⟨0, by omega, rfl, rfl⟩
  case round =>
    obtain ⟨k, hk, rfl, rfl⟩ := hrel
    by_cases hlt : k < N
    · obtain ⟨g, off, rfl, hc, hgg, hx⟩ := HF.out (by rw [HN.out]; omega)
      have h1 := hx k (by rw [HN.out]; exact hlt)
      have hst := num9_take (l := l) (k := k) (by rw [HN.out]; exact hlt)
      obtain ⟨b0, b1⟩ := OK.out (l[k]'(by rw [HN.out]; exact hlt)) (List.getElem_mem _)
      obtain ⟨b, hbb⟩ : ∃ x, (l[k]'(by rw [HN.out]; exact hlt)) = x := ⟨_, rfl⟩
      rw [hbb] at h1 hst b0 b1
      obtain ⟨c0, c1⟩ := hb.out k (by rw [HN.out]; omega)
      have c2 : num9 (l.take k) ≤ 16777215 := by
        have hk4 : k ≤ 3 := by omega
        have : (256 : Int) ^ k ≤ 256 ^ 3 := by
          match k, hk4 with
          | 0, _ => decide
          | 1, _ => decide
          | 2, _ => decide
          | 3, _ => decide
        omega
      obtain ⟨C, hC⟩ : ∃ C, num9 (l.take k) = C := ⟨_, rfl⟩
      rw [hC] at hst c0 c2 ⊢
      have HST := Lib.hid hst
      have bk : (k : Int) < N := by omega
      have s0 : 0 ≤ C * 256 := by omega
      have s1 : C * 256 ≤ 4294967040 := by omega
      have s2 : 0 ≤ C * 256 + b := by omega
      have s3 : C * 256 + b ≤ 4294967295 := by omega
      clear hx hbb hst c1 hC
      go_wp2_with fail
      go_round
      case rel => exact ⟨k + 1, by omega, by go_num, by rw [HST.out]⟩
      case measure => simp [intOf]; omega
    · obtain rfl : k = N := by omega
      have e : l.take k = l := by rw [← HN.out, List.take_length]
      rw [e, HR.out]
      clear e
      go_wp2_with fail
      go_ret
      exact ⟨rfl, rfl⟩
set_option maxHeartbeats 8000000 in
theorem r9_dig4 (n : Int) (w : World) (h0 : 0 ≤ n) (h1 : n ≤ 4294967295) : Calls Try.prog 27 #[.int .i64 n, .int .i64 4] w fun e w' =>
    ∃ v', e = .returned v' ∧ w'.ownsRow w.heap.size 5 1 v' 4 (bytVs (digs4 n)) ∧ Below w.heap.size w w' := by
  obtain ⟨i0, hi, hz, hsz, hby⟩ := byte_info
  obtain ⟨A, hA⟩ : ∃ x, n / 16777216 = x := ⟨_, rfl⟩
  have ap : 0 ≤ A := by omega
  have aq : A ≤ n := by omega
  obtain ⟨a, ha⟩ : ∃ x, A % 256 = x := ⟨_, rfl⟩
  have a0 : 0 ≤ a := by omega
  have a1 : a ≤ 255 := by omega
  have wa : IntKind.u8.wrap a = a := by show a % 256 = a; omega
  obtain ⟨B, hB⟩ : ∃ x, n / 65536 = x := ⟨_, rfl⟩
  have bp : 0 ≤ B := by omega
  have bq : B ≤ n := by omega
  obtain ⟨b, hb⟩ : ∃ x, B % 256 = x := ⟨_, rfl⟩
  have b0 : 0 ≤ b := by omega
  have b1 : b ≤ 255 := by omega
  have wb : IntKind.u8.wrap b = b := by show b % 256 = b; omega
  obtain ⟨C, hC⟩ : ∃ x, n / 256 = x := ⟨_, rfl⟩
  have cp : 0 ≤ C := by omega
  have cq : C ≤ n := by omega
  obtain ⟨c, hc⟩ : ∃ x, C % 256 = x := ⟨_, rfl⟩
  have c0 : 0 ≤ c := by omega
  have c1 : c ≤ 255 := by omega
  have wc : IntKind.u8.wrap c = c := by show c % 256 = c; omega
  obtain ⟨d, hd⟩ : ∃ x, n % 256 = x := ⟨_, rfl⟩
  have d0 : 0 ≤ d := by omega
  have d1 : d ≤ 255 := by omega
  have wd : IntKind.u8.wrap d = d := by show d % 256 = d; omega
  have e : digs4 n = [a, b, c, d] := by simp only [digs4, hA, ha, hB, hb, hC, hc, hd]
  rw [e]
  clear e
  go_enter Try.func27, Try.ntmps27
  go_wp2_with fail
  refine wp_loop_rounds 4 ?_
  rw [rounds_succ]
  go_wp2_with fail
  rw [rounds_succ]
  go_wp2_with fail
  rw [rounds_succ]
  go_wp2_with fail
  rw [rounds_succ]
  go_wp2_with fail
  refine wp_loop_rounds 5 ?_
  rw [rounds_succ]
  go_wp2_with (at_builtin; refine app_byte _ rfl _ _ 22 rfl w.heap.size 5 i0 _ Try.underlying22 hi hz hsz hby rfl _ _ _ rfl (World.ownsRow_nil _ _ _ _) w.heap.size (.int .u8 a) rfl (by go_simp) rfl (by omega) (by simp) ?_; intro v1 w1 ho1 hg1)
  have q1 : Below w.heap.size w w1 := Below.own0 (al (Below.refl _ _) _) hg1
  rw [rounds_succ]
  go_wp2_with (at_builtin; refine app_byte _ rfl _ _ 22 rfl w.heap.size 5 i0 _ Try.underlying22 hi hz hsz hby rfl _ _ _ rfl (ho1.alloc _) w1.heap.size (.int .u8 b) rfl (by go_simp) rfl (by omega) (by have := q1.size; simp; omega) ?_; intro v2 w2 ho2 hg2)
  have q2 : Below w.heap.size w w2 := Below.own (al q1 _) (ho1.alloc _) hg2
  rw [rounds_succ]
  go_wp2_with (at_builtin; refine app_byte _ rfl _ _ 22 rfl w.heap.size 5 i0 _ Try.underlying22 hi hz hsz hby rfl _ _ _ rfl (ho2.alloc _) w2.heap.size (.int .u8 c) rfl (by go_simp) rfl (by omega) (by have := q2.size; simp; omega) ?_; intro v3 w3 ho3 hg3)
  have q3 : Below w.heap.size w w3 := Below.own (al q2 _) (ho2.alloc _) hg3
  rw [rounds_succ]
  go_wp2_with (at_builtin; refine app_byte _ rfl _ _ 22 rfl w.heap.size 5 i0 _ Try.underlying22 hi hz hsz hby rfl _ _ _ rfl (ho3.alloc _) w3.heap.size (.int .u8 d) rfl (by go_simp) rfl (by omega) (by have := q3.size; simp; omega) ?_; intro v4 w4 ho4 hg4)
  have q4 : Below w.heap.size w w4 := Below.own (al q3 _) (ho3.alloc _) hg4
  rw [rounds_succ]
  go_wp2_with fail
  go_ret
  exact ⟨_, rfl, ho4, q4⟩
set_option maxHeartbeats 8000000 in
theorem r9_dig3 (n : Int) (w : World) (h0 : 0 ≤ n) (h1 : n ≤ 16777215) : Calls Try.prog 27 #[.int .i64 n, .int .i64 3] w fun e w' =>
    ∃ v', e = .returned v' ∧ w'.ownsRow w.heap.size 5 1 v' 3 (bytVs (digs3 n)) ∧ Below w.heap.size w w' := by
  obtain ⟨i0, hi, hz, hsz, hby⟩ := byte_info
  obtain ⟨B, hB⟩ : ∃ x, n / 65536 = x := ⟨_, rfl⟩
  have bp : 0 ≤ B := by omega
  have bq : B ≤ n := by omega
  obtain ⟨b, hb⟩ : ∃ x, B % 256 = x := ⟨_, rfl⟩
  have b0 : 0 ≤ b := by omega
  have b1 : b ≤ 255 := by omega
  have wb : IntKind.u8.wrap b = b := by show b % 256 = b; omega
  obtain ⟨C, hC⟩ : ∃ x, n / 256 = x := ⟨_, rfl⟩
  have cp : 0 ≤ C := by omega
  have cq : C ≤ n := by omega
  obtain ⟨c, hc⟩ : ∃ x, C % 256 = x := ⟨_, rfl⟩
  have c0 : 0 ≤ c := by omega
  have c1 : c ≤ 255 := by omega
  have wc : IntKind.u8.wrap c = c := by show c % 256 = c; omega
  obtain ⟨d, hd⟩ : ∃ x, n % 256 = x := ⟨_, rfl⟩
  have d0 : 0 ≤ d := by omega
  have d1 : d ≤ 255 := by omega
  have wd : IntKind.u8.wrap d = d := by show d % 256 = d; omega
  have e : digs3 n = [b, c, d] := by simp only [digs3, hB, hb, hC, hc, hd]
  rw [e]
  clear e
  go_enter Try.func27, Try.ntmps27
  go_wp2_with fail
  refine wp_loop_rounds 3 ?_
  rw [rounds_succ]
  go_wp2_with fail
  rw [rounds_succ]
  go_wp2_with fail
  rw [rounds_succ]
  go_wp2_with fail
  refine wp_loop_rounds 4 ?_
  rw [rounds_succ]
  go_wp2_with (at_builtin; refine app_byte _ rfl _ _ 22 rfl w.heap.size 5 i0 _ Try.underlying22 hi hz hsz hby rfl _ _ _ rfl (World.ownsRow_nil _ _ _ _) w.heap.size (.int .u8 b) rfl (by go_simp) rfl (by omega) (by simp) ?_; intro v1 w1 ho1 hg1)
  have q1 : Below w.heap.size w w1 := Below.own0 (al (Below.refl _ _) _) hg1
  rw [rounds_succ]
  go_wp2_with (at_builtin; refine app_byte _ rfl _ _ 22 rfl w.heap.size 5 i0 _ Try.underlying22 hi hz hsz hby rfl _ _ _ rfl (ho1.alloc _) w1.heap.size (.int .u8 c) rfl (by go_simp) rfl (by omega) (by have := q1.size; simp; omega) ?_; intro v2 w2 ho2 hg2)
  have q2 : Below w.heap.size w w2 := Below.own (al q1 _) (ho1.alloc _) hg2
  rw [rounds_succ]
  go_wp2_with (at_builtin; refine app_byte _ rfl _ _ 22 rfl w.heap.size 5 i0 _ Try.underlying22 hi hz hsz hby rfl _ _ _ rfl (ho2.alloc _) w2.heap.size (.int .u8 d) rfl (by go_simp) rfl (by omega) (by have := q2.size; simp; omega) ?_; intro v3 w3 ho3 hg3)
  have q3 : Below w.heap.size w w3 := Below.own (al q2 _) (ho2.alloc _) hg3
  rw [rounds_succ]
  go_wp2_with fail
  go_ret
  exact ⟨_, rfl, ho3, q3⟩
end Go.Proofs.Ythjekbbldejlpaa
/- Words of layer 9: what is written of a record. No program. -/
set_option linter.unusedVariables false
namespace Go.Proofs.Ythjekbbldejlpaa
open Go Go.RowKit
def wrF9 (ver : Int) (B : List Int) : List Int := if wr9 ver B = true then recF ver B else []
end Go.Proofs.Ythjekbbldejlpaa
/- Contracts of layer 7's reference (crc): Sum, Of. -/
set_option linter.unusedVariables false
set_option linter.unusedSimpArgs false
namespace Go.Proofs.Ythjekbbldejlpaa
open Go.ChangeShapes Go.WideShapes Go.ChangeAt Go.RowKit
set_option maxRecDepth 20000 in
set_option maxHeartbeats 4000000 in
theorem r7_sum (c : W16) (v : Value) (l : List Int) (w : World) (hl : BytsAt w v l) (ok : bytOk l) (hL : l.length ≤ maxLen) : Calls Try.prog 69 #[.int .i64 (c.toNat : Int), v] w fun e w' => e = .returned (.int .i64 ((sumV c l).toNat : Int)) ∧ w = w' := by
  obtain ⟨p, cap, rfl, hf⟩ := hl.form
  obtain ⟨N, hN⟩ : ∃ N, l.length = N := ⟨_, rfl⟩
  have HN := Lib.hid hN
  have HF := Lib.hid hf
  have OK := Lib.hid ok
  rw [hN] at hL ⊢
  unfold maxLen at hL
  have hs : ∀ k (h : k < l.length), sumV c (l.take (k + 1)) = stepV (sumV c (l.take k)) l[k] := fun k h => by rw [take_succ_get l k h, sumV_append]; rfl
  have HS := Lib.hid hs
  obtain ⟨R, hR⟩ : ∃ R, sumV c l = R := ⟨_, rfl⟩
  have HR := Lib.hid hR
  rw [hR]
  clear hN hf ok hs hl hR
  go_enter Try.func69, Try.ntmps69
  go_wp2_with fail
  go_loop [0, 5] (fun x i => ∃ k : Nat, k ≤ N ∧ i = .int .i64 k ∧ x = .int .i64 ((sumV c (l.take k)).toNat : Int)) (fun _ i => N - (intOf i).toNat)
  case atStart => exact ⟨0, by omega, rfl, rfl⟩
  case round =>
    obtain ⟨k, hk, rfl, rfl⟩ := hrel
    by_cases hlt : k < N
    · obtain ⟨g, off, rfl, hc, hgg, hx⟩ := HF.out (by rw [HN.out]; omega)
      have h1 := hx k (by rw [HN.out]; exact hlt)
      have hst := HS.out k (by rw [HN.out]; exact hlt)
      obtain ⟨b0, b1⟩ := OK.out (l[k]'(by rw [HN.out]; exact hlt)) (List.getElem_mem _)
      obtain ⟨b, hb⟩ : ∃ x, (l[k]'(by rw [HN.out]; exact hlt)) = x := ⟨_, rfl⟩
      rw [hb] at h1 hst b0 b1
      obtain ⟨C, hC⟩ : ∃ C, sumV c (l.take k) = C := ⟨_, rfl⟩
      rw [hC] at hst ⊢
      have hxr : bits .xor .i64 (C.toNat : Int) (b * 256) = ((C ^^^ byB b).toNat : Int) := by
        have hl := C.isLt
        have e : b * 256 = ((b.toNat * 256 : Nat) : Int) := by omega
        have e2 : (byB b).toNat = b.toNat * 256 := by unfold byB; rw [BitVec.toNat_ofNat]; omega
        rw [e, i64_xor _ _ (by omega) (by omega), BitVec.toNat_xor, e2]
      obtain ⟨D, hD⟩ : ∃ D, C ^^^ byB b = D := ⟨_, rfl⟩
      have hst2 : sumV c (l.take (k + 1)) = iterB 8 D := by rw [hst, iter8, ← hD]; rfl
      rw [hD] at hxr
      have HST := Lib.hid hst2
      have bk : (k : Int) < N := by omega
      clear hx hb hst hst2 hC hD
      obtain ⟨Cn, hCn⟩ : ∃ n, C.toNat = n := ⟨_, rfl⟩
      rw [hCn] at hxr ⊢
      clear hCn
      go_wp2_with fail
      go_loop [0, 6] (fun x i => ∃ m : Nat, m ≤ 8 ∧ i = .int .i64 m ∧ x = .int .i64 ((iterB m D).toNat : Int)) (fun _ i => 8 - (intOf i).toNat)
      case atStart => exact ⟨0, by omega, rfl, rfl⟩
      case round =>
        obtain ⟨m, hm, rfl, rfl⟩ := hrel
        by_cases hm8 : m < 8
        · have hn : (iterB (m + 1) D).toNat = _ := stB_nat (iterB m D)
          have hlt := (iterB m D).isLt
          obtain ⟨x, hx⟩ : ∃ x, (iterB m D).toNat = x := ⟨_, rfl⟩
          rw [hx] at hn hlt ⊢
          obtain ⟨y, hy⟩ : ∃ y, (iterB (m + 1) D).toNat = y := ⟨_, rfl⟩
          rw [hy] at hn
          have HY := Lib.hid hy
          have hlt2 : x < 65536 := hlt
          clear hx hy hxr hlt
          have two : ∀ X Y : Int, (x : Int) = X → (y : Int) = Y → (65536 ≤ X * 2 ∧ bits .xor .i64 (X * 2 - 65536) 4129 = Y) ∨ (¬ 65536 ≤ X * 2 ∧ X * 2 = Y) := by
            rintro X Y rfl rfl
            by_cases h6 : 65536 ≤ x * 2
            · rw [if_pos h6] at hn
              left
              refine ⟨by omega, ?_⟩
              rw [show (x : Int) * 2 - 65536 = ((x * 2 - 65536 : Nat) : Int) by omega, show (4129 : Int) = ((4129 : Nat) : Int) from rfl, i64_xor _ _ (by omega) (by omega), ← hn]
            · rw [if_neg h6] at hn
              right
              exact ⟨by omega, by omega⟩
          obtain ⟨X, hX⟩ : ∃ X : Int, (x : Int) = X := ⟨_, rfl⟩
          obtain ⟨Y, hY⟩ : ∃ Y : Int, (y : Int) = Y := ⟨_, rfl⟩
          have two := two X Y hX hY
          have X0 : 0 ≤ X := by omega
          have X1 : X ≤ 65535 := by omega
          rw [hX]
          have HYI := Lib.hid hY
          clear hn hlt2 hX hY
          rcases two with ⟨h6, hxr⟩ | ⟨h6, hy2⟩
          · go_wp2_with fail
            go_round
            case rel => exact ⟨m + 1, by omega, by go_num, by rw [HY.out, HYI.out]⟩
            case measure => simp [intOf]; omega
          · have HY2 := Lib.hid hy2
            clear hy2
            go_wp2_with fail
            go_round
            case rel => exact ⟨m + 1, by omega, by go_num, by rw [HY.out, HYI.out, HY2.out]⟩
            case measure => simp [intOf]; omega
        · obtain rfl : m = 8 := by omega
          go_wp2_with fail
          go_round
          case rel => exact ⟨k + 1, by omega, by go_num, by rw [HST.out]⟩
          case measure => simp [intOf]; omega
    · obtain rfl : k = N := by omega
      have e : l.take k = l := by rw [← HN.out, List.take_length]
      rw [e, HR.out]
      clear e
      go_wp2_with fail
      go_ret
      exact ⟨rfl, rfl⟩
theorem r7_of (v : Value) (l : List Int) (w : World) (hl : BytsAt w v l) (ok : bytOk l) (hL : l.length ≤ maxLen) : Calls Try.prog 54 #[v] w fun e w' => e = .returned (.int .i64 ((ofV l).toNat : Int)) ∧ w = w' := by
  have h := r7_sum 65535#16 v l w hl ok hL
  rw [show ((65535#16).toNat : Int) = 65535 from rfl, show sumV 65535#16 l = ofV l from rfl] at h
  generalize (ofV l).toNat = x at *
  have H := Lib.hid h
  clear h hl ok hL
  go_enter Try.func54, Try.ntmps54
  go_wp2_with fail
  (refine (H.out).mono ?_; rintro e w1 ⟨rfl, rfl⟩)
  go_wp2
  go_ret
  exact ⟨rfl, rfl⟩
end Go.Proofs.Ythjekbbldejlpaa
/- Contracts of layer 7's reference (crc): Put, Take. -/
set_option linter.unusedVariables false
set_option linter.unusedSimpArgs false
namespace Go.Proofs.Ythjekbbldejlpaa
open Go.ChangeShapes Go.WideShapes Go.ChangeAt Go.RowKit
set_option maxHeartbeats 4000000 in
theorem r7_put (v : Value) (l : List Int) (w : World) (hl : BytsAt w v l) (ok : bytOk l) (hL : l.length ≤ 100000) : Calls Try.prog 28 #[v] w fun e w' =>
    ∃ v', e = .returned v' ∧ w'.ownsRow w.heap.size 5 1 v' (sealF l).length (bytVs (sealF l)) ∧ Below w.heap.size w w' := by
  obtain ⟨i0, hi, hz, hsz, hby⟩ := byte_info
  obtain ⟨p, cap, rfl⟩ := hl.shape
  have hof := r7_of _ l w hl ok (by unfold maxLen; omega)
  have h0 := hiC_bd (ofV l)
  have h1 := loC_bd (ofV l)
  have q0 : (((ofV l).toNat : Int)) / 256 = hiC (ofV l) := by unfold hiC; omega
  have q1 : (((ofV l).toNat : Int)) % 256 = loC (ofV l) := by unfold loC; omega
  have hlt := (ofV l).isLt
  have hlt2 : (((ofV l).toNat : Int)) ≤ 65535 := by omega
  obtain ⟨C, hC⟩ : ∃ C : Int, ((ofV l).toNat : Int) = C := ⟨_, rfl⟩
  have c0 : 0 ≤ C := by omega
  rw [hC] at hof q0 q1 hlt2
  have hP : sealF l = l ++ [hiC (ofV l), loC (ofV l)] := rfl
  obtain ⟨H, hH⟩ : ∃ H, hiC (ofV l) = H := ⟨_, rfl⟩
  obtain ⟨O, hO⟩ : ∃ H, loC (ofV l) = H := ⟨_, rfl⟩
  rw [hH] at h0 q0 hP
  rw [hO] at h1 q1 hP
  rw [hP]
  obtain ⟨h00, h01⟩ := h0
  obtain ⟨h10, h11⟩ := h1
  have w0 : IntKind.u8.wrap H = H := by show H % 256 = H; omega
  have w1 : IntKind.u8.wrap O = O := by show O % 256 = O; omega
  obtain ⟨N, hN⟩ : ∃ N, l.length = N := ⟨_, rfl⟩
  have HOF := Lib.hid hof
  have HN := Lib.hid hN
  rw [hN] at hl HOF hL ⊢
  clear hof hlt hC hH hO hP hN
  go_enter Try.func28, Try.ntmps28
  go_wp2_with fail
  refine HOF.out.mono ?_
  rintro e w' ⟨rfl, rfl⟩
  go_wp2_with (at_builtin; first | (refine app_any _ rfl _ _ 22 rfl w.heap.size 5 i0 _ Try.underlying22 hi hz hsz hby rfl _ _ _ rfl (World.ownsRow_nil _ _ _ _) l _ _ _ rfl hl (by omega) (Nat.le_refl _) ?_; intro v1 w2 ho1 hg1; have k1 : Below w.heap.size w w2 := Below.own0 (Below.refl _ _) hg1; clear hg1 hl) | (refine app_bytes _ rfl _ _ 22 rfl w.heap.size 5 i0 _ Try.underlying22 hi hz hsz hby rfl _ _ _ rfl (ho1.alloc _) [H, O] _ _ _ rfl (.inr ⟨_, 0, 2, rfl, by simp, by simp, fun j hj => by match j, hj with | 0, _ | 1, _ => simp [go_sem]⟩) (by omega) (by omega) (by have := k1.size; simp; omega) ?_; intro v2 w3 ho2 hg2; have k2 : Below w.heap.size w w3 := Below.own (al k1 _) (ho1.alloc _) hg2))
  go_ret
  refine ⟨_, rfl, ?_, k2⟩
  have e1 : (l ++ [H, O]).length = 0 + N + 2 := by rw [List.length_append, HN.out]; simp
  have e2 : bytVs (l ++ [H, O]) = ([] ++ bytVs l) ++ bytVs [H, O] := by simp
  rw [e1, e2]
  exact ho2
set_option maxHeartbeats 4000000 in
theorem r7_take (v : Value) (l : List Int) (w : World) (hl : BytsAt w v l) (ok : bytOk l) (hL : l.length ≤ 100000) : Calls Try.prog 31 #[v] w fun e w' =>
    ∃ v', e = .returned (.tuple #[v', .int .i64 (takeE l)]) ∧ BytsAt w' v' (takeF l) ∧ Below w.heap.size w w' := by
  obtain ⟨p, cap, rfl, hf⟩ := hl.form
  by_cases h2 : l.length < 2
  · have e : takeE l = 3 := by unfold takeE; rw [if_pos h2]
    have e2 : takeF l = [] := by unfold takeF goodB; rw [if_neg (by simp; omega)]
    rw [e, e2]
    obtain ⟨N, hN⟩ : ∃ N, l.length = N := ⟨_, rfl⟩
    rw [hN] at h2 ⊢
    have hi2 : (N : Int) - 2 < 0 := by omega
    have hi3 : -2 ≤ (N : Int) - 2 := by omega
    clear hl hf hN e e2 ok
    go_enter Try.func31, Try.ntmps31
    go_wp2
    go_ret2
    exact ⟨_, rfl, BytsAt.nil, by (repeat (first | with_reducible assumption | with_reducible exact Below.refl _ _ | with_reducible refine Below.drew ?_ | with_reducible refine below_drewN ?_ _ | with_reducible refine al ?_ _ | (with_reducible refine sc ?_ ?_; (focus (first | omega | (simp; done) | (simp; omega)))) | (with_reducible refine chain ?_ (by assumption))))⟩
  · obtain ⟨g, off, rfl, hc, hg, hx⟩ := hf (by omega)
    have lt := last_two (by omega) ok
    have h1 := hx (l.length - 2) (by omega)
    have h3 := hx (l.length - 1) (by omega)
    have b1 := ok l[l.length - 2] (List.getElem_mem _)
    have b3 := ok l[l.length - 1] (List.getElem_mem _)
    obtain ⟨n, hn⟩ : ∃ n, l.length = n + 2 := ⟨l.length - 2, by omega⟩
    have ht := (hl.take (k := n) (by omega))
    have hof := fun u (hu : Below w.heap.size w u) => r7_of _ (l.take n) u (ht.keep hu) (ok.take n) (by rw [List.length_take]; unfold maxLen; omega)
    have e : takeE l = if ofV l = 0#16 then 0 else 4 := by unfold takeE; rw [if_neg h2]
    have e2 : takeF l = if ofV l = 0#16 then l.take n else [] := by
      unfold takeF goodB
      by_cases hz : ofV l = 0#16
      · rw [if_pos (by simp [hz]; omega), if_pos hz, show l.length - 2 = n by omega]
      · rw [if_neg (by simp [hz]), if_neg hz]
    simp only [show l.length - 2 = n by omega, show l.length - 1 = n + 1 by omega] at lt h1 h3 b1 b3
    obtain ⟨x, hx1⟩ : ∃ x, (l[n]'(by omega)) = x := ⟨_, rfl⟩
    obtain ⟨y, hy1⟩ : ∃ x, (l[n + 1]'(by omega)) = x := ⟨_, rfl⟩
    rw [hx1] at lt h1 b1
    rw [hy1] at lt h3 b3
    obtain ⟨C, hC⟩ : ∃ C : Int, ((ofV (l.take n)).toNat : Int) = C := ⟨_, rfl⟩
    rw [hC] at lt hof
    obtain ⟨b10, b11⟩ := b1
    obtain ⟨b30, b31⟩ := b3
    have hne : (x * 256 + y != C) = !decide (ofV l = 0#16) := by
      rw [bne, ← Bool.beq_eq_decide_eq] at * <;> first | rfl | skip
      all_goals
        congr 1
        rw [Bool.eq_iff_iff]
        simp only [beq_iff_eq, decide_eq_true_eq]
        exact lt
    obtain ⟨M, hM⟩ : ∃ M, n + 2 = M := ⟨_, rfl⟩
    have m0 : (n : Int) < M := by omega
    have m1 : (n : Int) + 1 < M := by omega
    have m2 : n < M := by omega
    have m3 : n + 1 < M := by omega
    rw [e, e2, hn, hM]
    rw [hn, hM] at hc
    have hcap : (n : Int) ≤ cap := by omega
    have h3' : w.cell? ⟨g, off + (n + 1), none⟩ = some (.int .u8 y) := h3
    have HOF := Lib.hid hof
    have HT := Lib.hid ht
    have s0 : 0 ≤ x * 256 + y := by omega
    have s1 : x * 256 + y ≤ 65535 := by omega
    have s2 : (M : Int) - 2 = (n : Int) := by omega
    have s3 : ((n : Int) + 1).toNat = n + 1 := by omega
    have s4 : (0 : Int) ≤ (n : Int) + 1 := by omega
    have v0 : IntKind.i64.wrap x = x := IntWalk.i64_in _ (by omega)
    have v1 : IntKind.i64.wrap y = y := IntWalk.i64_in _ (by omega)
    have v2 : IntKind.i64.wrap (x * 256) = x * 256 := IntWalk.i64_in _ (by omega)
    have v3 : IntKind.i64.wrap (x * 256 + y) = x * 256 + y := IntWalk.i64_in _ (by omega)
    have v4 : IntKind.i64.wrap ((n : Int) + 1) = (n : Int) + 1 := IntWalk.i64_in _ (by omega)
    have hLn : n ≤ 100000 := by omega
    clear hM hl hf hx lt hn ok hof ht hx1 hy1 hC e e2 h2 hL hc
    obtain ⟨z, hz⟩ : ∃ z, decide (ofV l = 0#16) = z := ⟨_, rfl⟩
    rw [hz] at hne
    have HZ := Lib.hid hz
    clear hz
    cases z
    · have hzf : ¬ ofV l = 0#16 := by simpa using HZ.out
      rw [if_neg hzf, if_neg hzf]
      clear HZ hzf
      go_enter Try.func31, Try.ntmps31
      go_wp2_with fail
      refine region_below 17 (by kernel_rfl) (by kernel_rfl) ?_
      simp only [List.take_succ_cons, List.take_zero, List.drop_succ_cons, List.drop_zero]
      repeat (first | (refine' InText.skip (by rfl) ?_; simp only [Act.put, List.setIfInBounds_toArray, List.set_cons_zero, List.set_cons_succ]) | (refine' InText.val (by rfl) (fun wr hr => ?_) ?_; rotate_left 1; (focus (obtain ⟨hrc, hrf⟩ := bcell hr; (go_simp <;> with_reducible rfl); done)); simp only [Act.put, List.setIfInBounds_toArray, List.set_cons_zero, List.set_cons_succ]) | (refine' InText.call (by rfl) (fun wr hr => ?_) (fun wr hr => ?_) ?_; rotate_left 3; (focus ((go_simp <;> (first | with_reducible rfl | exact ⟨rfl, rfl⟩)); done)); (focus (first | with_reducible exact pureB (HOF.out _ hr))); simp only [Act.put, List.setIfInBounds_toArray, List.set_cons_zero, List.set_cons_succ]))
      refine fun wrs hrs => ?_
      obtain ⟨hrcs, hrfs⟩ := bcell hrs
      go_wp2
      go_ret2
      exact ⟨_, rfl, BytsAt.nil, by (repeat (first | with_reducible assumption | with_reducible exact Below.refl _ _ | with_reducible refine Below.drew ?_ | with_reducible refine below_drewN ?_ _ | with_reducible refine al ?_ _ | (with_reducible refine sc ?_ ?_; (focus (first | omega | (simp; done) | (simp; omega)))) | (with_reducible refine chain ?_ (by assumption))))⟩
    · have hzf : ofV l = 0#16 := by simpa using HZ.out
      rw [if_pos hzf, if_pos hzf]
      clear HZ hzf
      go_enter Try.func31, Try.ntmps31
      go_wp2_with fail
      refine region_below 17 (by kernel_rfl) (by kernel_rfl) ?_
      simp only [List.take_succ_cons, List.take_zero, List.drop_succ_cons, List.drop_zero]
      repeat (first | (refine' InText.skip (by rfl) ?_; simp only [Act.put, List.setIfInBounds_toArray, List.set_cons_zero, List.set_cons_succ]) | (refine' InText.val (by rfl) (fun wr hr => ?_) ?_; rotate_left 1; (focus (obtain ⟨hrc, hrf⟩ := bcell hr; (go_simp <;> with_reducible rfl); done)); simp only [Act.put, List.setIfInBounds_toArray, List.set_cons_zero, List.set_cons_succ]) | (refine' InText.call (by rfl) (fun wr hr => ?_) (fun wr hr => ?_) ?_; rotate_left 3; (focus ((go_simp <;> (first | with_reducible rfl | exact ⟨rfl, rfl⟩)); done)); (focus (first | with_reducible exact pureB (HOF.out _ hr))); simp only [Act.put, List.setIfInBounds_toArray, List.set_cons_zero, List.set_cons_succ]))
      refine fun wrs hrs => ?_
      obtain ⟨hrcs, hrfs⟩ := bcell hrs
      go_wp2
      go_ret2
      exact ⟨_, rfl, HT.out.keep hrs, by (repeat (first | with_reducible assumption | with_reducible exact Below.refl _ _ | with_reducible refine Below.drew ?_ | with_reducible refine below_drewN ?_ _ | with_reducible refine al ?_ _ | (with_reducible refine sc ?_ ?_; (focus (first | omega | (simp; done) | (simp; omega)))) | (with_reducible refine chain ?_ (by assumption))))⟩
end Go.Proofs.Ythjekbbldejlpaa
/- Contracts of layer 9's reference (store): Write. -/
set_option linter.unusedVariables false
set_option linter.unusedSimpArgs false
namespace Go.Proofs.Ythjekbbldejlpaa
open Go.ChangeShapes Go.WideShapes Go.ChangeAt Go.RowKit
set_option maxRecDepth 10000 in
set_option maxHeartbeats 8000000 in
theorem r9_write (ver : Int) (v : Value) (B : List Int) (w : World) (hv : i64 ver) (hl : BytsAt w v B) (ok : bytOk B) (hL : B.length ≤ maxLen) : Calls Try.prog 11 #[.int .i64 ver, v] w fun e w' =>
    ∃ v', e = .returned (.tuple #[v', .int .i64 (if wr9 ver B = true then 0 else 1)]) ∧ w'.ownsRow w.heap.size 5 1 v' (wrF9 ver B).length (bytVs (wrF9 ver B)) ∧ Below w.heap.size w w' := by
  obtain ⟨i0, hi, hz, hsz, hby⟩ := byte_info
  obtain ⟨p, cap, rfl⟩ := hl.shape
  have hlen := headF_len ver B
  have hok := headF_ok (ver := ver) ok
  obtain ⟨N, hN⟩ : ∃ N, B.length = N := ⟨_, rfl⟩
  unfold maxLen at hL
  by_cases c : wr9 ver B = true
  · have hW : wrF9 ver B = sealF (headF ver B) := if_pos c
    have c' := c
    simp only [wr9, Bool.and_eq_true, decide_eq_true_eq] at c'
    obtain ⟨⟨c1, c2⟩, c3⟩ := c'
    rw [if_pos c, hW]
    have D4 := Lib.hid (fun u => r9_dig4 ver u (by omega) (by omega))
    have D3 := Lib.hid (fun u => r9_dig3 (N : Int) u (by omega) (by omega))
    have PUT := Lib.hid (fun u x (hx : BytsAt u x (headF ver B)) => r7_put x _ u hx hok (by omega))
    have hH : bytVs (headF ver B) = (bytVs (digs4 ver) ++ bytVs (digs3 (N : Int))) ++ bytVs B := by simp [headF, hN]
    have HH := Lib.hid hH
    have HLEN := Lib.hid hlen
    rw [hN] at hl hL c3 ⊢
    have HN := Lib.hid hN
    have n0 : ¬ ver < 1 := by omega
    have n1 : ¬ 1073741824 < ver := by omega
    have n2 : ¬ (65536 : Int) < N := by omega
    have HL := Lib.hid hl
    clear hl hlen hok hH hN c hW ok
    go_enter Try.func11, Try.ntmps11
    go_wp2_with fail
    refine (D4.out _).mono ?_
    rintro e w1 ⟨v1, rfl, ho1, k1⟩
    go_wp2_with fail
    refine (D3.out _).mono ?_
    rintro e w2 ⟨v2, rfl, ho2, hb2⟩
    have k2 : Below w.heap.size w w2 := chain k1 hb2
    have ho3 := own_keep ho1 hb2
    have hby2 : BytsAt w2 v2 (digs3 (N : Int)) := byts_of_owned (l := digs3 (N : Int)) ho2
    obtain ⟨p2, q2, e2⟩ : ∃ p2 q2, v2 = .slice p2 3 q2 := hby2.shape
    subst e2
    clear ho1 ho2 hb2
    go_wp2_with (at_builtin; first | (refine app_bytes _ rfl _ _ 22 rfl w.heap.size 5 i0 _ Try.underlying22 hi hz hsz hby rfl _ _ _ rfl ho3 (digs3 (N : Int)) _ _ _ rfl hby2 (by omega) (by omega) k2.size ?_; intro v4 w4 ho4 hg4; have k4 : Below w.heap.size w w4 := Below.own k2 ho3 hg4; have hB := HL.out.keep k4; clear hg4 ho3 k2 hby2) | (refine app_any _ rfl _ _ 22 rfl w.heap.size 5 i0 _ Try.underlying22 hi hz hsz hby rfl _ _ _ rfl ho4 B _ _ _ rfl hB (by omega) k4.size ?_; intro v5 w5 ho5 hg5; have k5 : Below w.heap.size w w5 := Below.own k4 ho4 hg5; clear hg5 ho4 k4 hB))
    have hb5 : BytsAt w5 v5 (headF ver B) := byts_of_owned (base := w.heap.size) (e := 5) (by
      rw [HLEN.out, HH.out, HN.out, show N + 7 = 4 + 3 + N by omega]
      exact ho5)
    clear ho5
    refine (PUT.out _ _ hb5).mono ?_
    rintro e w6 ⟨v6, rfl, ho6, hb6⟩
    have k6 : Below w.heap.size w w6 := chain k5 hb6
    have ho7 := own_base ho6 k5.size
    clear ho6 hb6 k5 hb5
    go_wp2_with fail
    go_ret2
    exact ⟨_, rfl, ho7, k6⟩
  · have hW : wrF9 ver B = [] := if_neg c
    rw [if_neg c, hW]
    have c' : ver < 1 ∨ 1073741824 < ver ∨ 65536 < N := by
      simp only [wr9, Bool.and_eq_true, decide_eq_true_eq] at c
      omega
    have HN := Lib.hid hN
    rw [hN] at hL ⊢
    clear hl hlen hok hN c hW ok
    by_cases c1 : ver < 1
    · go_enter Try.func11, Try.ntmps11
      go_wp2
      go_ret2
      exact ⟨_, rfl, World.ownsRow_nil _ _ _ _, by (repeat (first | with_reducible assumption | with_reducible exact Below.refl _ _ | with_reducible refine Below.drew ?_ | with_reducible refine below_drewN ?_ _ | with_reducible refine al ?_ _ | (with_reducible refine sc ?_ ?_; (focus (first | omega | (simp; done) | (simp; omega)))) | (with_reducible refine chain ?_ (by assumption))))⟩
    · by_cases c2 : 1073741824 < ver
      · go_enter Try.func11, Try.ntmps11
        go_wp2
        go_ret2
        exact ⟨_, rfl, World.ownsRow_nil _ _ _ _, by (repeat (first | with_reducible assumption | with_reducible exact Below.refl _ _ | with_reducible refine Below.drew ?_ | with_reducible refine below_drewN ?_ _ | with_reducible refine al ?_ _ | (with_reducible refine sc ?_ ?_; (focus (first | omega | (simp; done) | (simp; omega)))) | (with_reducible refine chain ?_ (by assumption))))⟩
      · have c3 : (65536 : Int) < N := by omega
        go_enter Try.func11, Try.ntmps11
        go_wp2
        go_ret2
        exact ⟨_, rfl, World.ownsRow_nil _ _ _ _, by (repeat (first | with_reducible assumption | with_reducible exact Below.refl _ _ | with_reducible refine Below.drew ?_ | with_reducible refine below_drewN ?_ _ | with_reducible refine al ?_ _ | (with_reducible refine sc ?_ ?_; (focus (first | omega | (simp; done) | (simp; omega)))) | (with_reducible refine chain ?_ (by assumption))))⟩
end Go.Proofs.Ythjekbbldejlpaa
