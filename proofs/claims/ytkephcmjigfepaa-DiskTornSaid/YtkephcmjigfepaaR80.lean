/- Contracts of layer 8's reference (disk): Lay, Len. -/
import Derived.Test.YtkephcmjigfepaaK81
import Derived.Test.YtkephcmjigfepaaR04
import Derived.Test.YtkephcmjigfepaaS03
set_option linter.unusedVariables false
set_option linter.unusedSimpArgs false
namespace Go.Proofs.Ytkephcmjigfepaa
open Go.ChangeShapes Go.WideShapes Go.ChangeAt Go.RowKit
theorem w8_info : ∃ i, Try.prog.info? 70 = some i ∧ i.zero = some (.agg #[.int .i64 0, .slice none 0 0]) ∧ i.size = 2 ∧ i.bytes = 32 := by
  obtain ⟨i, hi⟩ : ∃ i, Try.prog.info? 70 = some i := Option.isSome_iff_exists.1 (by kernel_rfl)
  have h : (Try.prog.info? 70).map (fun i => (i.zero, i.size, i.bytes)) = some (some (.agg #[.int .i64 0, .slice none 0 0]), 2, 32) := by kernel_rfl
  rw [hi] at h
  simp at h
  exact ⟨i, hi, h.1, h.2.1, h.2.2⟩
set_option maxHeartbeats 4000000 in
theorem r8_lay (v : Value) (l : List Raw) (k : Int) (p0 : Option Addr) (m0 c0 : Nat) (w : World) (hl : RawAt w v l) (ok : rawOk l) (hL : l.length ≤ 100000) : Calls Try.prog 37 #[v, .agg #[.int .i64 k, .slice p0 m0 c0]] w fun e w' =>
    ∃ v', e = .returned v' ∧ w'.ownsRow w.heap.size 70 2 v' (layF l (k, .slice p0 m0 c0)).length (rawVs (layF l (k, .slice p0 m0 c0))) ∧ Below w.heap.size w w' := by
  obtain ⟨i0, hi, hz, hsz, hby⟩ := w8_info
  obtain ⟨p, cap, rfl, hf⟩ := hl.form
  obtain ⟨N, hN⟩ : ∃ N, l.length = N := ⟨_, rfl⟩
  have HN := Lib.hid hN
  have OK := Lib.hid ok
  have HF := Lib.hid hf
  rw [hN] at hL ⊢
  clear hN ok hf hl
  obtain ⟨b, hb⟩ : ∃ b, Value.slice p0 m0 c0 = b := ⟨_, rfl⟩
  have ob : b.oneCell' = true := by rw [← hb]; rfl
  obtain ⟨S, hS⟩ : ∃ S, layS (k, b) l = S := ⟨_, rfl⟩
  have hF : layF l (k, b) = if S.2 = true then S.1 else S.1 ++ [(k, b)] := by unfold layF; rw [hS]
  rw [hb, hF]
  have LS := fun j h => layS_len (k, b) l j h
  have HLS := Lib.hid LS
  have HS := Lib.hid hS
  clear hF LS hS hb
  go_enter Try.func37, Try.ntmps37
  obtain ⟨u0, hu⟩ : ∃ u, w.alloc (.cells #[.int .i64 k, b] 70) = u := ⟨_, rfl⟩
  have k00 : Below w.heap.size w u0 := by rw [← hu]; exact al (Below.refl _ _) _
  have rb0 : RowAt u0 w.heap.size #[.int .i64 k, b] 70 := by rw [← hu]; exact RowAt.new w _ _
  have HU := Lib.hid hu
  clear hu
  go_upto_region 4 with (fail)
  rw [HU.out]
  --BEGIN
  go_loopw [5, 6, 7] (fun o d i wr => ∃ j : Nat, j ≤ N ∧ i = .int .i64 j ∧ ∃ (A : List Raw) (dd : Bool), layS (k, b) (l.take j) = (A, dd) ∧ d = .bool dd ∧ wr.ownsRow u0.heap.size 70 2 o A.length (rawVs A) ∧ Below u0.heap.size u0 wr) (fun _ _ i _ => N - (intOf i).toNat)
  case atStart => exact ⟨0, by omega, rfl, [], false, by simp [layS], rfl, World.ownsRow_nil _ _ _ _, Below.refl _ _⟩
  case round =>
    obtain ⟨j, hj, rfl, A, dd, hA, rfl, ho, kw⟩ := hrel
    have la := HLS.out j (by rw [HN.out]; exact hj)
    rw [hA] at la
    have la2 : A.length ≤ j + 1 := by cases dd <;> simp at la <;> omega
    clear la
    by_cases hlt : j < N
    · have hlt2 : j < l.length := by rw [HN.out]; exact hlt
      have hS1 : layS (k, b) (l.take (j + 1)) = layStep (k, b) (layS (k, b) (l.take j)) l[j] := by rw [take_succ_get l j hlt2, layS_snoc]
      obtain ⟨g, off, rfl, hc, zg0, hx⟩ := HF.out (by omega)
      obtain ⟨h0, h1⟩ := hx j hlt2
      obtain ⟨okk, xp, xn, xc, hxs⟩ := OK.out _ (List.getElem_mem hlt2)
      obtain ⟨xk, hxk⟩ : ∃ x, l[j].1 = x := ⟨_, rfl⟩
      have hp : l[j] = (xk, .slice xp xn xc) := by rw [← hxk, ← hxs]
      rw [hxk] at h0 okk
      rw [hxs] at h1
      rw [hp] at hS1
      have hc2 : N ≤ cap := by rw [← HN.out]; exact hc
      have zg : g < u0.heap.size := Nat.lt_of_lt_of_le zg0 k00.size
      have H0 := Lib.hid (keepc k00 zg0 h0)
      have H1 := Lib.hid (keepc k00 zg0 h1)
      clear h0 h1 hx hxk hxs hp hc hlt2 zg0
      by_cases hc1 : k ≤ xk <;> by_cases hc2 : xk = k <;> cases dd
      · have hS2 : layS (k, b) (l.take (j + 1)) = (A ++ [(k, b)], true) := by rw [hS1, hA]; unfold layStep; simp [hc1, hc2]
        have HS2 := Lib.hid hS2
        clear hS1 hA hS2
        have gd : decide (k ≤ xk) = true := by simpa using hc1
        have gd2 : decide (xk ≥ k) = true := gd
        have ge : (xk != k) = false := by simpa using hc2
        have ge2 : (xk == k) = true := by simpa using hc2
        clear hc1 hc2
        have d0 : wr.cell? ⟨g, off + j * 2, none⟩ = some (.int .i64 xk) := keepc kw zg H0.out
        have d1 : wr.cell? ⟨g, off + j * 2 + 1, none⟩ = some (.slice xp xn xc) := keepc kw zg H1.out
        have rb := rb0.keep kw
        have e0 : wr.cell? ⟨w.heap.size, 0, none⟩ = some (.int .i64 k) := by rw [rb.cell]; rfl
        have e1 : wr.cell? ⟨w.heap.size, 1, none⟩ = some b := by rw [rb.cell]; rfl
        have zb : w.heap.size < wr.heap.size := rb.lt
        have zg2 : g < wr.heap.size := size_lt zg kw
        clear rb
        go_wp2_with fail
        refine region_below 11 (by kernel_rfl) (by kernel_rfl) ?_
        simp only [List.take_succ_cons, List.take_zero, List.drop_succ_cons, List.drop_zero]
        repeat (first | (refine' InText.skip (by rfl) ?_; simp only [Act.put, List.setIfInBounds_toArray, List.set_cons_zero, List.set_cons_succ]) | (refine' InText.val (by rfl) (fun wr hr => ?_) ?_; rotate_left 1; (focus (obtain ⟨hrc, hrf⟩ := bcell hr; (go_simp <;> with_reducible rfl); done)); simp only [Act.put, List.setIfInBounds_toArray, List.set_cons_zero, List.set_cons_succ]))
        refine fun wrs hrs => ?_
        obtain ⟨hrcs, hrfs⟩ := bcell hrs
        have ks : Below u0.heap.size u0 wrs := chain kw hrs
        have ho2 := own_keep ho hrs
        clear ho hrs hrcs hrfs kw
        clear d0 d1 e0 e1 zb zg2
        have d0 : wrs.cell? ⟨g, off + j * 2, none⟩ = some (.int .i64 xk) := keepc ks zg H0.out
        have d1 : wrs.cell? ⟨g, off + j * 2 + 1, none⟩ = some (.slice xp xn xc) := keepc ks zg H1.out
        have rb := rb0.keep ks
        have e0 : wrs.cell? ⟨w.heap.size, 0, none⟩ = some (.int .i64 k) := by rw [rb.cell]; rfl
        have e1 : wrs.cell? ⟨w.heap.size, 1, none⟩ = some b := by rw [rb.cell]; rfl
        have zb : w.heap.size < wrs.heap.size := rb.lt
        have zg2 : g < wrs.heap.size := size_lt zg ks
        clear rb
        go_wp2_with (at_builtin; refine app_raw _ rfl _ _ 26 rfl u0.heap.size 70 i0 _ Try.underlying26 hi hz hsz hby rfl _ _ _ rfl (ho2.alloc _) wrs.heap.size (.int .i64 k) b rfl (by go_simp) (by go_simp) rfl (ob) (by omega) (by have := ks.size; simp; omega) ?_; intro v1 w1 ho3 hg; have k1 : Below u0.heap.size u0 w1 := Below.own (al ks _) (ho2.alloc _) hg; clear hg)
        clear d0 d1 e0 e1 zb zg2 ks ho2
        have d0 : w1.cell? ⟨g, off + j * 2, none⟩ = some (.int .i64 xk) := keepc k1 zg H0.out
        have d1 : w1.cell? ⟨g, off + j * 2 + 1, none⟩ = some (.slice xp xn xc) := keepc k1 zg H1.out
        have rb := rb0.keep k1
        have e0 : w1.cell? ⟨w.heap.size, 0, none⟩ = some (.int .i64 k) := by rw [rb.cell]; rfl
        have e1 : w1.cell? ⟨w.heap.size, 1, none⟩ = some b := by rw [rb.cell]; rfl
        have zb : w.heap.size < w1.heap.size := rb.lt
        have zg2 : g < w1.heap.size := size_lt zg k1
        clear rb
        go_wp2_with fail
        refine region_below 7 (by kernel_rfl) (by kernel_rfl) ?_
        simp only [List.take_succ_cons, List.take_zero, List.drop_succ_cons, List.drop_zero]
        repeat (first | (refine' InText.skip (by rfl) ?_; simp only [Act.put, List.setIfInBounds_toArray, List.set_cons_zero, List.set_cons_succ]) | (refine' InText.val (by rfl) (fun wr hr => ?_) ?_; rotate_left 1; (focus (obtain ⟨hrc, hrf⟩ := bcell hr; (go_simp <;> with_reducible rfl); done)); simp only [Act.put, List.setIfInBounds_toArray, List.set_cons_zero, List.set_cons_succ]))
        refine fun wrt hrt => ?_
        obtain ⟨hrct, hrft⟩ := bcell hrt
        have kt : Below u0.heap.size u0 wrt := chain k1 hrt
        have ho4 := own_keep ho3 hrt
        clear ho3 hrt hrct hrft k1
        clear d0 d1 e0 e1 zb zg2
        have d0 : wrt.cell? ⟨g, off + j * 2, none⟩ = some (.int .i64 xk) := keepc kt zg H0.out
        have d1 : wrt.cell? ⟨g, off + j * 2 + 1, none⟩ = some (.slice xp xn xc) := keepc kt zg H1.out
        have rb := rb0.keep kt
        have e0 : wrt.cell? ⟨w.heap.size, 0, none⟩ = some (.int .i64 k) := by rw [rb.cell]; rfl
        have e1 : wrt.cell? ⟨w.heap.size, 1, none⟩ = some b := by rw [rb.cell]; rfl
        have zb : w.heap.size < wrt.heap.size := rb.lt
        have zg2 : g < wrt.heap.size := size_lt zg kt
        clear rb
        go_wp2_with fail
        go_roundw
        case rel => exact ⟨j + 1, by omega, by go_num, _, _, HS2.out, rfl, by rw [rawVs_snoc, List.length_append]; exact ho4, kt⟩
        case measure => simp [intOf]; omega
      · have hS2 : layS (k, b) (l.take (j + 1)) = (A, true) := by rw [hS1, hA]; unfold layStep; simp [hc2]
        have HS2 := Lib.hid hS2
        clear hS1 hA hS2
        have ge : (xk != k) = false := by simpa using hc2
        have ge2 : (xk == k) = true := by simpa using hc2
        clear hc1 hc2
        have d0 : wr.cell? ⟨g, off + j * 2, none⟩ = some (.int .i64 xk) := keepc kw zg H0.out
        have d1 : wr.cell? ⟨g, off + j * 2 + 1, none⟩ = some (.slice xp xn xc) := keepc kw zg H1.out
        have rb := rb0.keep kw
        have e0 : wr.cell? ⟨w.heap.size, 0, none⟩ = some (.int .i64 k) := by rw [rb.cell]; rfl
        have e1 : wr.cell? ⟨w.heap.size, 1, none⟩ = some b := by rw [rb.cell]; rfl
        have zb : w.heap.size < wr.heap.size := rb.lt
        have zg2 : g < wr.heap.size := size_lt zg kw
        clear rb
        go_wp2_with fail
        refine region_below 11 (by kernel_rfl) (by kernel_rfl) ?_
        simp only [List.take_succ_cons, List.take_zero, List.drop_succ_cons, List.drop_zero]
        repeat (first | (refine' InText.skip (by rfl) ?_; simp only [Act.put, List.setIfInBounds_toArray, List.set_cons_zero, List.set_cons_succ]) | (refine' InText.val (by rfl) (fun wr hr => ?_) ?_; rotate_left 1; (focus (obtain ⟨hrc, hrf⟩ := bcell hr; (go_simp <;> with_reducible rfl); done)); simp only [Act.put, List.setIfInBounds_toArray, List.set_cons_zero, List.set_cons_succ]))
        refine fun wrs hrs => ?_
        obtain ⟨hrcs, hrfs⟩ := bcell hrs
        have ks : Below u0.heap.size u0 wrs := chain kw hrs
        have ho2 := own_keep ho hrs
        clear ho hrs hrcs hrfs kw
        clear d0 d1 e0 e1 zb zg2
        have d0 : wrs.cell? ⟨g, off + j * 2, none⟩ = some (.int .i64 xk) := keepc ks zg H0.out
        have d1 : wrs.cell? ⟨g, off + j * 2 + 1, none⟩ = some (.slice xp xn xc) := keepc ks zg H1.out
        have rb := rb0.keep ks
        have e0 : wrs.cell? ⟨w.heap.size, 0, none⟩ = some (.int .i64 k) := by rw [rb.cell]; rfl
        have e1 : wrs.cell? ⟨w.heap.size, 1, none⟩ = some b := by rw [rb.cell]; rfl
        have zb : w.heap.size < wrs.heap.size := rb.lt
        have zg2 : g < wrs.heap.size := size_lt zg ks
        clear rb
        go_wp2_with fail
        refine region_below 7 (by kernel_rfl) (by kernel_rfl) ?_
        simp only [List.take_succ_cons, List.take_zero, List.drop_succ_cons, List.drop_zero]
        repeat (first | (refine' InText.skip (by rfl) ?_; simp only [Act.put, List.setIfInBounds_toArray, List.set_cons_zero, List.set_cons_succ]) | (refine' InText.val (by rfl) (fun wr hr => ?_) ?_; rotate_left 1; (focus (obtain ⟨hrc, hrf⟩ := bcell hr; (go_simp <;> with_reducible rfl); done)); simp only [Act.put, List.setIfInBounds_toArray, List.set_cons_zero, List.set_cons_succ]))
        refine fun wrt hrt => ?_
        obtain ⟨hrct, hrft⟩ := bcell hrt
        have kt : Below u0.heap.size u0 wrt := chain ks hrt
        have ho4 := own_keep ho2 hrt
        clear ho2 hrt hrct hrft ks
        clear d0 d1 e0 e1 zb zg2
        have d0 : wrt.cell? ⟨g, off + j * 2, none⟩ = some (.int .i64 xk) := keepc kt zg H0.out
        have d1 : wrt.cell? ⟨g, off + j * 2 + 1, none⟩ = some (.slice xp xn xc) := keepc kt zg H1.out
        have rb := rb0.keep kt
        have e0 : wrt.cell? ⟨w.heap.size, 0, none⟩ = some (.int .i64 k) := by rw [rb.cell]; rfl
        have e1 : wrt.cell? ⟨w.heap.size, 1, none⟩ = some b := by rw [rb.cell]; rfl
        have zb : w.heap.size < wrt.heap.size := rb.lt
        have zg2 : g < wrt.heap.size := size_lt zg kt
        clear rb
        go_wp2_with fail
        go_roundw
        case rel => exact ⟨j + 1, by omega, by go_num, _, _, HS2.out, rfl, by exact ho4, kt⟩
        case measure => simp [intOf]; omega
      · have hS2 : layS (k, b) (l.take (j + 1)) = (A ++ [(k, b)] ++ [(xk, .slice xp xn xc)], true) := by rw [hS1, hA]; unfold layStep; simp [hc1, hc2]
        have HS2 := Lib.hid hS2
        clear hS1 hA hS2
        have gd : decide (k ≤ xk) = true := by simpa using hc1
        have gd2 : decide (xk ≥ k) = true := gd
        have ge : (xk != k) = true := by simpa using hc2
        have ge2 : (xk == k) = false := by simpa using hc2
        clear hc1 hc2
        have d0 : wr.cell? ⟨g, off + j * 2, none⟩ = some (.int .i64 xk) := keepc kw zg H0.out
        have d1 : wr.cell? ⟨g, off + j * 2 + 1, none⟩ = some (.slice xp xn xc) := keepc kw zg H1.out
        have rb := rb0.keep kw
        have e0 : wr.cell? ⟨w.heap.size, 0, none⟩ = some (.int .i64 k) := by rw [rb.cell]; rfl
        have e1 : wr.cell? ⟨w.heap.size, 1, none⟩ = some b := by rw [rb.cell]; rfl
        have zb : w.heap.size < wr.heap.size := rb.lt
        have zg2 : g < wr.heap.size := size_lt zg kw
        clear rb
        go_wp2_with fail
        refine region_below 11 (by kernel_rfl) (by kernel_rfl) ?_
        simp only [List.take_succ_cons, List.take_zero, List.drop_succ_cons, List.drop_zero]
        repeat (first | (refine' InText.skip (by rfl) ?_; simp only [Act.put, List.setIfInBounds_toArray, List.set_cons_zero, List.set_cons_succ]) | (refine' InText.val (by rfl) (fun wr hr => ?_) ?_; rotate_left 1; (focus (obtain ⟨hrc, hrf⟩ := bcell hr; (go_simp <;> with_reducible rfl); done)); simp only [Act.put, List.setIfInBounds_toArray, List.set_cons_zero, List.set_cons_succ]))
        refine fun wrs hrs => ?_
        obtain ⟨hrcs, hrfs⟩ := bcell hrs
        have ks : Below u0.heap.size u0 wrs := chain kw hrs
        have ho2 := own_keep ho hrs
        clear ho hrs hrcs hrfs kw
        clear d0 d1 e0 e1 zb zg2
        have d0 : wrs.cell? ⟨g, off + j * 2, none⟩ = some (.int .i64 xk) := keepc ks zg H0.out
        have d1 : wrs.cell? ⟨g, off + j * 2 + 1, none⟩ = some (.slice xp xn xc) := keepc ks zg H1.out
        have rb := rb0.keep ks
        have e0 : wrs.cell? ⟨w.heap.size, 0, none⟩ = some (.int .i64 k) := by rw [rb.cell]; rfl
        have e1 : wrs.cell? ⟨w.heap.size, 1, none⟩ = some b := by rw [rb.cell]; rfl
        have zb : w.heap.size < wrs.heap.size := rb.lt
        have zg2 : g < wrs.heap.size := size_lt zg ks
        clear rb
        go_wp2_with (at_builtin; refine app_raw _ rfl _ _ 26 rfl u0.heap.size 70 i0 _ Try.underlying26 hi hz hsz hby rfl _ _ _ rfl (ho2.alloc _) wrs.heap.size (.int .i64 k) b rfl (by go_simp) (by go_simp) rfl (ob) (by omega) (by have := ks.size; simp; omega) ?_; intro v1 w1 ho3 hg; have k1 : Below u0.heap.size u0 w1 := Below.own (al ks _) (ho2.alloc _) hg; clear hg)
        clear d0 d1 e0 e1 zb zg2 ks ho2
        have d0 : w1.cell? ⟨g, off + j * 2, none⟩ = some (.int .i64 xk) := keepc k1 zg H0.out
        have d1 : w1.cell? ⟨g, off + j * 2 + 1, none⟩ = some (.slice xp xn xc) := keepc k1 zg H1.out
        have rb := rb0.keep k1
        have e0 : w1.cell? ⟨w.heap.size, 0, none⟩ = some (.int .i64 k) := by rw [rb.cell]; rfl
        have e1 : w1.cell? ⟨w.heap.size, 1, none⟩ = some b := by rw [rb.cell]; rfl
        have zb : w.heap.size < w1.heap.size := rb.lt
        have zg2 : g < w1.heap.size := size_lt zg k1
        clear rb
        go_wp2_with fail
        refine region_below 7 (by kernel_rfl) (by kernel_rfl) ?_
        simp only [List.take_succ_cons, List.take_zero, List.drop_succ_cons, List.drop_zero]
        repeat (first | (refine' InText.skip (by rfl) ?_; simp only [Act.put, List.setIfInBounds_toArray, List.set_cons_zero, List.set_cons_succ]) | (refine' InText.val (by rfl) (fun wr hr => ?_) ?_; rotate_left 1; (focus (obtain ⟨hrc, hrf⟩ := bcell hr; (go_simp <;> with_reducible rfl); done)); simp only [Act.put, List.setIfInBounds_toArray, List.set_cons_zero, List.set_cons_succ]))
        refine fun wrt hrt => ?_
        obtain ⟨hrct, hrft⟩ := bcell hrt
        have kt : Below u0.heap.size u0 wrt := chain k1 hrt
        have ho4 := own_keep ho3 hrt
        clear ho3 hrt hrct hrft k1
        clear d0 d1 e0 e1 zb zg2
        have d0 : wrt.cell? ⟨g, off + j * 2, none⟩ = some (.int .i64 xk) := keepc kt zg H0.out
        have d1 : wrt.cell? ⟨g, off + j * 2 + 1, none⟩ = some (.slice xp xn xc) := keepc kt zg H1.out
        have rb := rb0.keep kt
        have e0 : wrt.cell? ⟨w.heap.size, 0, none⟩ = some (.int .i64 k) := by rw [rb.cell]; rfl
        have e1 : wrt.cell? ⟨w.heap.size, 1, none⟩ = some b := by rw [rb.cell]; rfl
        have zb : w.heap.size < wrt.heap.size := rb.lt
        have zg2 : g < wrt.heap.size := size_lt zg kt
        clear rb
        go_wp2_with (at_builtin; refine app_raw _ rfl _ _ 26 rfl u0.heap.size 70 i0 _ Try.underlying26 hi hz hsz hby rfl _ _ _ rfl (ho4.alloc _) wrt.heap.size (.int .i64 xk) (.slice xp xn xc) rfl (by go_simp) (by go_simp) rfl (rfl) (by omega) (by have := kt.size; simp; omega) ?_; intro v2 w2 ho5 hg; have k2 : Below u0.heap.size u0 w2 := Below.own (al kt _) (ho4.alloc _) hg; clear hg)
        go_roundw
        case rel => exact ⟨j + 1, by omega, by go_num, _, _, HS2.out, rfl, by rw [rawVs_snoc, rawVs_snoc, List.length_append, List.length_append]; exact ho5, k2⟩
        case measure => simp [intOf]; omega
      · have hS2 : layS (k, b) (l.take (j + 1)) = (A ++ [(xk, .slice xp xn xc)], true) := by rw [hS1, hA]; unfold layStep; simp [hc2]
        have HS2 := Lib.hid hS2
        clear hS1 hA hS2
        have ge : (xk != k) = true := by simpa using hc2
        have ge2 : (xk == k) = false := by simpa using hc2
        clear hc1 hc2
        have d0 : wr.cell? ⟨g, off + j * 2, none⟩ = some (.int .i64 xk) := keepc kw zg H0.out
        have d1 : wr.cell? ⟨g, off + j * 2 + 1, none⟩ = some (.slice xp xn xc) := keepc kw zg H1.out
        have rb := rb0.keep kw
        have e0 : wr.cell? ⟨w.heap.size, 0, none⟩ = some (.int .i64 k) := by rw [rb.cell]; rfl
        have e1 : wr.cell? ⟨w.heap.size, 1, none⟩ = some b := by rw [rb.cell]; rfl
        have zb : w.heap.size < wr.heap.size := rb.lt
        have zg2 : g < wr.heap.size := size_lt zg kw
        clear rb
        go_wp2_with fail
        refine region_below 11 (by kernel_rfl) (by kernel_rfl) ?_
        simp only [List.take_succ_cons, List.take_zero, List.drop_succ_cons, List.drop_zero]
        repeat (first | (refine' InText.skip (by rfl) ?_; simp only [Act.put, List.setIfInBounds_toArray, List.set_cons_zero, List.set_cons_succ]) | (refine' InText.val (by rfl) (fun wr hr => ?_) ?_; rotate_left 1; (focus (obtain ⟨hrc, hrf⟩ := bcell hr; (go_simp <;> with_reducible rfl); done)); simp only [Act.put, List.setIfInBounds_toArray, List.set_cons_zero, List.set_cons_succ]))
        refine fun wrs hrs => ?_
        obtain ⟨hrcs, hrfs⟩ := bcell hrs
        have ks : Below u0.heap.size u0 wrs := chain kw hrs
        have ho2 := own_keep ho hrs
        clear ho hrs hrcs hrfs kw
        clear d0 d1 e0 e1 zb zg2
        have d0 : wrs.cell? ⟨g, off + j * 2, none⟩ = some (.int .i64 xk) := keepc ks zg H0.out
        have d1 : wrs.cell? ⟨g, off + j * 2 + 1, none⟩ = some (.slice xp xn xc) := keepc ks zg H1.out
        have rb := rb0.keep ks
        have e0 : wrs.cell? ⟨w.heap.size, 0, none⟩ = some (.int .i64 k) := by rw [rb.cell]; rfl
        have e1 : wrs.cell? ⟨w.heap.size, 1, none⟩ = some b := by rw [rb.cell]; rfl
        have zb : w.heap.size < wrs.heap.size := rb.lt
        have zg2 : g < wrs.heap.size := size_lt zg ks
        clear rb
        go_wp2_with fail
        refine region_below 7 (by kernel_rfl) (by kernel_rfl) ?_
        simp only [List.take_succ_cons, List.take_zero, List.drop_succ_cons, List.drop_zero]
        repeat (first | (refine' InText.skip (by rfl) ?_; simp only [Act.put, List.setIfInBounds_toArray, List.set_cons_zero, List.set_cons_succ]) | (refine' InText.val (by rfl) (fun wr hr => ?_) ?_; rotate_left 1; (focus (obtain ⟨hrc, hrf⟩ := bcell hr; (go_simp <;> with_reducible rfl); done)); simp only [Act.put, List.setIfInBounds_toArray, List.set_cons_zero, List.set_cons_succ]))
        refine fun wrt hrt => ?_
        obtain ⟨hrct, hrft⟩ := bcell hrt
        have kt : Below u0.heap.size u0 wrt := chain ks hrt
        have ho4 := own_keep ho2 hrt
        clear ho2 hrt hrct hrft ks
        clear d0 d1 e0 e1 zb zg2
        have d0 : wrt.cell? ⟨g, off + j * 2, none⟩ = some (.int .i64 xk) := keepc kt zg H0.out
        have d1 : wrt.cell? ⟨g, off + j * 2 + 1, none⟩ = some (.slice xp xn xc) := keepc kt zg H1.out
        have rb := rb0.keep kt
        have e0 : wrt.cell? ⟨w.heap.size, 0, none⟩ = some (.int .i64 k) := by rw [rb.cell]; rfl
        have e1 : wrt.cell? ⟨w.heap.size, 1, none⟩ = some b := by rw [rb.cell]; rfl
        have zb : w.heap.size < wrt.heap.size := rb.lt
        have zg2 : g < wrt.heap.size := size_lt zg kt
        clear rb
        go_wp2_with (at_builtin; refine app_raw _ rfl _ _ 26 rfl u0.heap.size 70 i0 _ Try.underlying26 hi hz hsz hby rfl _ _ _ rfl (ho4.alloc _) wrt.heap.size (.int .i64 xk) (.slice xp xn xc) rfl (by go_simp) (by go_simp) rfl (rfl) (by omega) (by have := kt.size; simp; omega) ?_; intro v2 w2 ho5 hg; have k2 : Below u0.heap.size u0 w2 := Below.own (al kt _) (ho4.alloc _) hg; clear hg)
        go_roundw
        case rel => exact ⟨j + 1, by omega, by go_num, _, _, HS2.out, rfl, by rw [rawVs_snoc, List.length_append]; exact ho5, k2⟩
        case measure => simp [intOf]; omega
      · exfalso; omega
      · exfalso; omega
      · have hS2 : layS (k, b) (l.take (j + 1)) = (A ++ [(xk, .slice xp xn xc)], false) := by rw [hS1, hA]; unfold layStep; simp [hc1, hc2]
        have HS2 := Lib.hid hS2
        clear hS1 hA hS2
        have gd : decide (k ≤ xk) = false := by simpa using hc1
        have gd2 : decide (xk ≥ k) = false := gd
        have ge : (xk != k) = true := by simpa using hc2
        have ge2 : (xk == k) = false := by simpa using hc2
        clear hc1 hc2
        have d0 : wr.cell? ⟨g, off + j * 2, none⟩ = some (.int .i64 xk) := keepc kw zg H0.out
        have d1 : wr.cell? ⟨g, off + j * 2 + 1, none⟩ = some (.slice xp xn xc) := keepc kw zg H1.out
        have rb := rb0.keep kw
        have e0 : wr.cell? ⟨w.heap.size, 0, none⟩ = some (.int .i64 k) := by rw [rb.cell]; rfl
        have e1 : wr.cell? ⟨w.heap.size, 1, none⟩ = some b := by rw [rb.cell]; rfl
        have zb : w.heap.size < wr.heap.size := rb.lt
        have zg2 : g < wr.heap.size := size_lt zg kw
        clear rb
        go_wp2_with fail
        refine region_below 11 (by kernel_rfl) (by kernel_rfl) ?_
        simp only [List.take_succ_cons, List.take_zero, List.drop_succ_cons, List.drop_zero]
        repeat (first | (refine' InText.skip (by rfl) ?_; simp only [Act.put, List.setIfInBounds_toArray, List.set_cons_zero, List.set_cons_succ]) | (refine' InText.val (by rfl) (fun wr hr => ?_) ?_; rotate_left 1; (focus (obtain ⟨hrc, hrf⟩ := bcell hr; (go_simp <;> with_reducible rfl); done)); simp only [Act.put, List.setIfInBounds_toArray, List.set_cons_zero, List.set_cons_succ]))
        refine fun wrs hrs => ?_
        obtain ⟨hrcs, hrfs⟩ := bcell hrs
        have ks : Below u0.heap.size u0 wrs := chain kw hrs
        have ho2 := own_keep ho hrs
        clear ho hrs hrcs hrfs kw
        clear d0 d1 e0 e1 zb zg2
        have d0 : wrs.cell? ⟨g, off + j * 2, none⟩ = some (.int .i64 xk) := keepc ks zg H0.out
        have d1 : wrs.cell? ⟨g, off + j * 2 + 1, none⟩ = some (.slice xp xn xc) := keepc ks zg H1.out
        have rb := rb0.keep ks
        have e0 : wrs.cell? ⟨w.heap.size, 0, none⟩ = some (.int .i64 k) := by rw [rb.cell]; rfl
        have e1 : wrs.cell? ⟨w.heap.size, 1, none⟩ = some b := by rw [rb.cell]; rfl
        have zb : w.heap.size < wrs.heap.size := rb.lt
        have zg2 : g < wrs.heap.size := size_lt zg ks
        clear rb
        go_wp2_with fail
        refine region_below 7 (by kernel_rfl) (by kernel_rfl) ?_
        simp only [List.take_succ_cons, List.take_zero, List.drop_succ_cons, List.drop_zero]
        repeat (first | (refine' InText.skip (by rfl) ?_; simp only [Act.put, List.setIfInBounds_toArray, List.set_cons_zero, List.set_cons_succ]) | (refine' InText.val (by rfl) (fun wr hr => ?_) ?_; rotate_left 1; (focus (obtain ⟨hrc, hrf⟩ := bcell hr; (go_simp <;> with_reducible rfl); done)); simp only [Act.put, List.setIfInBounds_toArray, List.set_cons_zero, List.set_cons_succ]))
        refine fun wrt hrt => ?_
        obtain ⟨hrct, hrft⟩ := bcell hrt
        have kt : Below u0.heap.size u0 wrt := chain ks hrt
        have ho4 := own_keep ho2 hrt
        clear ho2 hrt hrct hrft ks
        clear d0 d1 e0 e1 zb zg2
        have d0 : wrt.cell? ⟨g, off + j * 2, none⟩ = some (.int .i64 xk) := keepc kt zg H0.out
        have d1 : wrt.cell? ⟨g, off + j * 2 + 1, none⟩ = some (.slice xp xn xc) := keepc kt zg H1.out
        have rb := rb0.keep kt
        have e0 : wrt.cell? ⟨w.heap.size, 0, none⟩ = some (.int .i64 k) := by rw [rb.cell]; rfl
        have e1 : wrt.cell? ⟨w.heap.size, 1, none⟩ = some b := by rw [rb.cell]; rfl
        have zb : w.heap.size < wrt.heap.size := rb.lt
        have zg2 : g < wrt.heap.size := size_lt zg kt
        clear rb
        go_wp2_with (at_builtin; refine app_raw _ rfl _ _ 26 rfl u0.heap.size 70 i0 _ Try.underlying26 hi hz hsz hby rfl _ _ _ rfl (ho4.alloc _) wrt.heap.size (.int .i64 xk) (.slice xp xn xc) rfl (by go_simp) (by go_simp) rfl (rfl) (by omega) (by have := kt.size; simp; omega) ?_; intro v2 w2 ho5 hg; have k2 : Below u0.heap.size u0 w2 := Below.own (al kt _) (ho4.alloc _) hg; clear hg)
        go_roundw
        case rel => exact ⟨j + 1, by omega, by go_num, _, _, HS2.out, rfl, by rw [rawVs_snoc, List.length_append]; exact ho5, k2⟩
        case measure => simp [intOf]; omega
      · have hS2 : layS (k, b) (l.take (j + 1)) = (A ++ [(xk, .slice xp xn xc)], true) := by rw [hS1, hA]; unfold layStep; simp [hc2]
        have HS2 := Lib.hid hS2
        clear hS1 hA hS2
        have ge : (xk != k) = true := by simpa using hc2
        have ge2 : (xk == k) = false := by simpa using hc2
        clear hc1 hc2
        have d0 : wr.cell? ⟨g, off + j * 2, none⟩ = some (.int .i64 xk) := keepc kw zg H0.out
        have d1 : wr.cell? ⟨g, off + j * 2 + 1, none⟩ = some (.slice xp xn xc) := keepc kw zg H1.out
        have rb := rb0.keep kw
        have e0 : wr.cell? ⟨w.heap.size, 0, none⟩ = some (.int .i64 k) := by rw [rb.cell]; rfl
        have e1 : wr.cell? ⟨w.heap.size, 1, none⟩ = some b := by rw [rb.cell]; rfl
        have zb : w.heap.size < wr.heap.size := rb.lt
        have zg2 : g < wr.heap.size := size_lt zg kw
        clear rb
        go_wp2_with fail
        refine region_below 11 (by kernel_rfl) (by kernel_rfl) ?_
        simp only [List.take_succ_cons, List.take_zero, List.drop_succ_cons, List.drop_zero]
        repeat (first | (refine' InText.skip (by rfl) ?_; simp only [Act.put, List.setIfInBounds_toArray, List.set_cons_zero, List.set_cons_succ]) | (refine' InText.val (by rfl) (fun wr hr => ?_) ?_; rotate_left 1; (focus (obtain ⟨hrc, hrf⟩ := bcell hr; (go_simp <;> with_reducible rfl); done)); simp only [Act.put, List.setIfInBounds_toArray, List.set_cons_zero, List.set_cons_succ]))
        refine fun wrs hrs => ?_
        obtain ⟨hrcs, hrfs⟩ := bcell hrs
        have ks : Below u0.heap.size u0 wrs := chain kw hrs
        have ho2 := own_keep ho hrs
        clear ho hrs hrcs hrfs kw
        clear d0 d1 e0 e1 zb zg2
        have d0 : wrs.cell? ⟨g, off + j * 2, none⟩ = some (.int .i64 xk) := keepc ks zg H0.out
        have d1 : wrs.cell? ⟨g, off + j * 2 + 1, none⟩ = some (.slice xp xn xc) := keepc ks zg H1.out
        have rb := rb0.keep ks
        have e0 : wrs.cell? ⟨w.heap.size, 0, none⟩ = some (.int .i64 k) := by rw [rb.cell]; rfl
        have e1 : wrs.cell? ⟨w.heap.size, 1, none⟩ = some b := by rw [rb.cell]; rfl
        have zb : w.heap.size < wrs.heap.size := rb.lt
        have zg2 : g < wrs.heap.size := size_lt zg ks
        clear rb
        go_wp2_with fail
        refine region_below 7 (by kernel_rfl) (by kernel_rfl) ?_
        simp only [List.take_succ_cons, List.take_zero, List.drop_succ_cons, List.drop_zero]
        repeat (first | (refine' InText.skip (by rfl) ?_; simp only [Act.put, List.setIfInBounds_toArray, List.set_cons_zero, List.set_cons_succ]) | (refine' InText.val (by rfl) (fun wr hr => ?_) ?_; rotate_left 1; (focus (obtain ⟨hrc, hrf⟩ := bcell hr; (go_simp <;> with_reducible rfl); done)); simp only [Act.put, List.setIfInBounds_toArray, List.set_cons_zero, List.set_cons_succ]))
        refine fun wrt hrt => ?_
        obtain ⟨hrct, hrft⟩ := bcell hrt
        have kt : Below u0.heap.size u0 wrt := chain ks hrt
        have ho4 := own_keep ho2 hrt
        clear ho2 hrt hrct hrft ks
        clear d0 d1 e0 e1 zb zg2
        have d0 : wrt.cell? ⟨g, off + j * 2, none⟩ = some (.int .i64 xk) := keepc kt zg H0.out
        have d1 : wrt.cell? ⟨g, off + j * 2 + 1, none⟩ = some (.slice xp xn xc) := keepc kt zg H1.out
        have rb := rb0.keep kt
        have e0 : wrt.cell? ⟨w.heap.size, 0, none⟩ = some (.int .i64 k) := by rw [rb.cell]; rfl
        have e1 : wrt.cell? ⟨w.heap.size, 1, none⟩ = some b := by rw [rb.cell]; rfl
        have zb : w.heap.size < wrt.heap.size := rb.lt
        have zg2 : g < wrt.heap.size := size_lt zg kt
        clear rb
        go_wp2_with (at_builtin; refine app_raw _ rfl _ _ 26 rfl u0.heap.size 70 i0 _ Try.underlying26 hi hz hsz hby rfl _ _ _ rfl (ho4.alloc _) wrt.heap.size (.int .i64 xk) (.slice xp xn xc) rfl (by go_simp) (by go_simp) rfl (rfl) (by omega) (by have := kt.size; simp; omega) ?_; intro v2 w2 ho5 hg; have k2 : Below u0.heap.size u0 w2 := Below.own (al kt _) (ho4.alloc _) hg; clear hg)
        go_roundw
        case rel => exact ⟨j + 1, by omega, by go_num, _, _, HS2.out, rfl, by rw [rawVs_snoc, List.length_append]; exact ho5, k2⟩
        case measure => simp [intOf]; omega
    · obtain rfl : j = N := by omega
      have e : layS (k, b) (l.take j) = S := by rw [← HS.out, ← HN.out, List.take_length]
      rw [hA] at e
      subst e
      clear hA
      have rb := rb0.keep kw
      have e0 : wr.cell? ⟨w.heap.size, 0, none⟩ = some (.int .i64 k) := by rw [rb.cell]; rfl
      have e1 : wr.cell? ⟨w.heap.size, 1, none⟩ = some b := by rw [rb.cell]; rfl
      have zb : w.heap.size < wr.heap.size := rb.lt
      clear rb
      cases dd
      · go_wp2_with (at_builtin; refine app_raw _ rfl _ _ 26 rfl u0.heap.size 70 i0 _ Try.underlying26 hi hz hsz hby rfl _ _ _ rfl (ho.alloc _) wr.heap.size (.int .i64 k) b rfl (by go_simp) (by go_simp) rfl (ob) (by omega) (by have := kw.size; simp; omega) ?_; intro v1 w1 ho3 hg; have k1 : Below u0.heap.size u0 w1 := Below.own (al kw _) (ho.alloc _) hg; clear hg)
        go_ret
        exact ⟨_, rfl, own_base ho3 k00.size, chain k00 k1⟩
      · go_wp2_with fail
        go_ret
        exact ⟨_, rfl, own_base ho k00.size, chain k00 kw⟩
  --END
end Go.Proofs.Ytkephcmjigfepaa
