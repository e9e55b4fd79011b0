/- Contracts of layer 8's reference (disk): Len, Now. -/
import Derived.Test.YtkephcmjigfepaaR80
set_option linter.unusedVariables false
set_option linter.unusedSimpArgs false
namespace Go.Proofs.Ytkephcmjigfepaa
open Go.ChangeShapes Go.WideShapes Go.ChangeAt Go.RowKit
set_option maxHeartbeats 4000000 in
theorem r8_len (v : Value) (l : List Raw) (w : World) (hl : RawAt w v l) (ok : rawOk l) (hL : l.length ≤ 100000) (hS : lenR l ≤ 1000000000000) : Calls Try.prog 31 #[v] w fun e w' => e = .returned (.int .i64 (lenR l)) ∧ Below w.heap.size w w' := by
  obtain ⟨p, cap, rfl, hf⟩ := hl.form
  have lt := fun k => lenR_take l k
  obtain ⟨N, hN⟩ : ∃ N, l.length = N := ⟨_, rfl⟩
  obtain ⟨T, hT⟩ : ∃ N, lenR l = N := ⟨_, rfl⟩
  rw [hT] at hS lt
  rw [hT]
  have HN := Lib.hid hN
  have HT := Lib.hid hT
  have OK := Lib.hid ok
  have HF := Lib.hid hf
  have LT := Lib.hid lt
  rw [hN] at hL ⊢
  clear hN ok hf hl lt hT
  go_enter Try.func31, Try.ntmps31
  go_wp2_with fail
  go_loopw [3, 4] (fun s i wr => ∃ j : Nat, j ≤ N ∧ i = .int .i64 j ∧ s = .int .i64 (lenR (l.take j)) ∧ wr = w) (fun _ i _ => N - (intOf i).toNat)
  case atStart => exact ⟨0, by omega, rfl, by simp [lenR], rfl⟩
  case round =>
    obtain ⟨j, hj, rfl, rfl, rfl⟩ := hrel
    by_cases hlt : j < N
    · have hlt2 : j < l.length := by rw [HN.out]; exact hlt
      have e : lenR (l.take (j + 1)) = lenR (l.take j) + slLen l[j].2 := by rw [take_succ_get l j hlt2, lenR_append]; simp [lenR]
      obtain ⟨g, off, rfl, hc, zg0, hx⟩ := HF.out (by omega)
      obtain ⟨h0, h1⟩ := hx j hlt2
      obtain ⟨okk, xp, xn, xc, hxs⟩ := OK.out _ (List.getElem_mem hlt2)
      have b1 := LT.out (j + 1)
      have b0 := LT.out j
      rw [hxs] at h1 e
      have e2 : lenR (l.take (j + 1)) = lenR (l.take j) + xn := e
      rw [e2] at b1
      obtain ⟨S, hSj⟩ : ∃ S, lenR (l.take j) = S := ⟨_, rfl⟩
      rw [hSj] at e2 b1 b0 ⊢
      obtain ⟨xk, hxk⟩ : ∃ x, l[j].1 = x := ⟨_, rfl⟩
      rw [hxk] at h0
      have E2 := Lib.hid e2
      have wS : IntKind.i64.wrap ((S : Int) + (xn : Int)) = (S : Int) + xn := IntWalk.i64_in _ (by omega)
      clear hx hxs e e2 hSj hxk okk hc hlt2
      go_wp2_with fail
      go_roundw
      case rel => exact ⟨j + 1, by omega, by go_num, by rw [E2.out]; go_num, by trivial⟩
      case measure => simp [intOf]; omega
    · obtain rfl : j = N := by omega
      have e : l.take j = l := by rw [← HN.out, List.take_length]
      rw [e, HT.out]
      clear e
      go_wp2_with fail
      go_ret
      exact ⟨rfl, by (repeat (first | with_reducible assumption | with_reducible exact Below.refl _ _ | with_reducible refine Below.drew ?_ | with_reducible refine below_drewN ?_ _ | with_reducible refine al ?_ _ | (with_reducible refine sc ?_ ?_; (focus (first | omega | (simp; done) | (simp; omega)))) | (with_reducible refine chain ?_ (by assumption))))⟩
set_option maxHeartbeats 4000000 in
theorem r8_now (room fails wait : Int) (vs vl : Value) (s l : List Raw) (w : World) (hs : RawAt w vs s) (hl : RawAt w vl l) (oks : rawOk s) (okl : rawOk l) (hS : s.length ≤ 40000) (hL : l.length ≤ 40000) :
    Calls Try.prog 29 #[.agg #[.int .i64 room, .int .i64 fails, .int .i64 wait, vs, vl]] w fun e w' => ∃ v', e = .returned v' ∧ RawAt w' v' (nowF s l) ∧ (∀ b, b < w.heap.size → offR b vs s → offR b v' (nowF s l)) ∧ Below w.heap.size w w' := by
  obtain ⟨ps, cs, rfl, _⟩ := hs.form
  obtain ⟨p, cap, rfl, hf⟩ := hl.form
  have okn := fun k h => rawOk.now oks okl k h
  have lnn := fun k h => nowF_len s l k h
  obtain ⟨N, hN⟩ : ∃ N, l.length = N := ⟨_, rfl⟩
  obtain ⟨M, hM⟩ : ∃ N, s.length = N := ⟨_, rfl⟩
  have HN := Lib.hid hN
  have OKN := Lib.hid okn
  have LNN := Lib.hid lnn
  have OKL := Lib.hid okl
  have HF := Lib.hid hf
  rw [hN] at hL ⊢
  rw [hM] at hS hs LNN ⊢
  clear hN hM okn lnn okl hf hl oks
  go_enter Try.func29, Try.ntmps29
  obtain ⟨u0, hu⟩ : ∃ u, w.alloc (.cells #[.int .i64 room, .int .i64 fails, .int .i64 wait, .slice ps M cs, .slice p N cap] 28) = u := ⟨_, rfl⟩
  have k00 : Below w.heap.size w u0 := by rw [← hu]; exact al (Below.refl _ _) _
  have rb0 : RowAt u0 w.heap.size #[.int .i64 room, .int .i64 fails, .int .i64 wait, .slice ps M cs, .slice p N cap] 28 := by rw [← hu]; exact RowAt.new w _ _
  have e3 : u0.cell? ⟨w.heap.size, 3, none⟩ = some (.slice ps M cs) := by rw [rb0.cell]; rfl
  have zb : w.heap.size < u0.heap.size := rb0.lt
  have hs0 := hs.keep k00
  have HU := Lib.hid hu
  clear hu hs
  go_upto_region 1 with (fail)
  rw [HU.out]
  go_upto_region 3 with (fail)
  clear e3 zb
  go_loopw [3, 4] (fun o i wr => ∃ j : Nat, j ≤ N ∧ i = .int .i64 j ∧ RawAt wr o (nowF s (l.take j)) ∧ (∀ b, b < w.heap.size → offR b (.slice ps M cs) s → offR b o (nowF s (l.take j))) ∧ Below u0.heap.size u0 wr) (fun _ i _ => N - (intOf i).toNat)
  case atStart => exact ⟨0, by omega, rfl, by simpa [nowF] using hs0, fun b _ h => by simpa [nowF] using h, Below.refl _ _⟩
  case round =>
    obtain ⟨j, hj, rfl, ho, hoff, kw⟩ := hrel
    have rb := rb0.keep kw
    have e4 : wr.cell? ⟨w.heap.size, 4, none⟩ = some (.slice p N cap) := by rw [rb.cell]; rfl
    have zb : w.heap.size < wr.heap.size := rb.lt
    clear rb
    by_cases hlt : j < N
    · have hlt2 : j < l.length := by rw [HN.out]; exact hlt
      have e : nowF s (l.take (j + 1)) = layF (nowF s (l.take j)) l[j] := by rw [take_succ_get l j hlt2, nowF_snoc]
      obtain ⟨g, off, rfl, hc, zg0, hx⟩ := HF.out (by omega)
      obtain ⟨h0, h1⟩ := hx j hlt2
      obtain ⟨okk, xp, xn, xc, hxs⟩ := OKL.out _ (List.getElem_mem hlt2)
      have okj := OKN.out j (by omega)
      have lnj := LNN.out j (by omega)
      obtain ⟨S, hSj⟩ : ∃ S, nowF s (l.take j) = S := ⟨_, rfl⟩
      rw [hSj] at e okj lnj ho
      obtain ⟨xk, hxk⟩ : ∃ x, l[j].1 = x := ⟨_, rfl⟩
      have hp : l[j] = (xk, .slice xp xn xc) := by rw [← hxk, ← hxs]
      rw [hxk] at h0 okk
      rw [hxs] at h1
      rw [hp] at e
      have hc2 : N ≤ cap := by rw [← HN.out]; exact hc
      have zg : g < u0.heap.size := Nat.lt_of_lt_of_le zg0 k00.size
      have zg2 : g < wr.heap.size := size_lt zg kw
      have d0 : wr.cell? ⟨g, off + j * 2, none⟩ = some (.int .i64 xk) := keepc kw zg (keepc k00 zg0 h0)
      have d1 : wr.cell? ⟨g, off + j * 2 + 1, none⟩ = some (.slice xp xn xc) := keepc kw zg (keepc k00 zg0 h1)
      have E2 := Lib.hid e
      clear hx hxs hSj hxk okk hc hlt2 hp h0 h1 zg0 e
      go_wp2_with fail
      refine (r8_lay _ S xk xp xn xc _ ho okj (by omega)).mono ?_
      rintro e w1 ⟨v1, rfl, ho1, hv⟩
      have k1 := chain kw hv
      have hr := raws_of_owned ho1
      have hof2 : ∀ b, b < w.heap.size → offR b v1 (layF S (xk, .slice xp xn xc)) := fun b hb => off_of_owned ho1 (Nat.lt_of_lt_of_le hb (Nat.le_trans k00.size kw.size)) _
      clear hv ho1 hoff e4 zb d0 d1 zg2 kw
      go_wp2_with fail
      go_roundw
      case rel => exact ⟨j + 1, by omega, by go_num, by rw [E2.out]; exact hr, fun b hb _ => by rw [E2.out]; exact hof2 b hb, k1⟩
      case measure => simp [intOf]; omega
    · obtain rfl : j = N := by omega
      have e : l.take j = l := by rw [← HN.out, List.take_length]
      rw [e] at ho hoff
      clear e
      go_wp2_with fail
      go_ret
      exact ⟨_, rfl, ho, hoff, chain k00 kw⟩
end Go.Proofs.Ytkephcmjigfepaa
