/- Texts behind each other. -/
import Derived.Test.YthjekbbldejlpaaZ04
/- Contracts of layer 8's reference (disk): Lay, Len. -/
set_option linter.unusedVariables false
set_option linter.unusedSimpArgs false
namespace Go.Proofs.Ythjekbbldejlpaa
open Go.ChangeShapes Go.WideShapes Go.ChangeAt Go.RowKit
theorem w8_info : ∃ i, Try.prog.info? 106 = some i ∧ i.zero = some (.agg #[.int .i64 0, .slice none 0 0]) ∧ i.size = 2 ∧ i.bytes = 32 := by
  obtain ⟨i, hi⟩ : ∃ i, Try.prog.info? 106 = some i := Option.isSome_iff_exists.1 (by kernel_rfl)
  have h : (Try.prog.info? 106).map (fun i => (i.zero, i.size, i.bytes)) = some (some (.agg #[.int .i64 0, .slice none 0 0]), 2, 32) := by kernel_rfl
  rw [hi] at h
  simp at h
  exact ⟨i, hi, h.1, h.2.1, h.2.2⟩
set_option maxHeartbeats 4000000 in
theorem r8_lay (v : Value) (l : List Raw) (k : Int) (p0 : Option Addr) (m0 c0 : Nat) (w : World) (hl : RawAt w v l) (ok : rawOk l) (hL : l.length ≤ 100000) : Calls Try.prog 62 #[v, .agg #[.int .i64 k, .slice p0 m0 c0]] w fun e w' =>
    ∃ v', e = .returned v' ∧ w'.ownsRow w.heap.size 106 2 v' (layF l (k, .slice p0 m0 c0)).length (rawVs (layF l (k, .slice p0 m0 c0))) ∧ Below w.heap.size w w' := by
  obtain ⟨i0, hi, hz, hsz, hby⟩ := w8_info
  obtain ⟨p, cap, rfl, hf⟩ := hl.form
  obtain ⟨N, hN⟩ : ∃ N, l.length = N := ⟨_, rfl⟩
  have HN := Lib.hid hN
  have OK := Lib.hid ok
  have HF := Lib.hid hf
  rw [hN] at hL ⊢
  clear hN ok hf hl
  obtain ⟨b, hb⟩ : ∃ b, Value.slice p0 m0 c0 = b := ⟨_, rfl⟩
  have ob : b.oneCell' = true := by rw [← hb]; rfl
  obtain ⟨S, hS⟩ : ∃ S, layS (k, b) l = S := ⟨_, rfl⟩
  have hF : layF l (k, b) = if S.2 = true then S.1 else S.1 ++ [(k, b)] := by unfold layF; rw [hS]
  rw [hb, hF]
  have LS := fun j h => layS_len (k, b) l j h
  have HLS := Lib.hid LS
  have HS := Lib.hid hS
  clear hF LS hS hb
  go_enter Try.func62, Try.ntmps62
  obtain ⟨u0, hu⟩ : ∃ u, w.alloc (.cells #[.int .i64 k, b] 106) = u := ⟨_, rfl⟩
  have k00 : Below w.heap.size w u0 := by rw [← hu]; exact al (Below.refl _ _) _
  have rb0 : RowAt u0 w.heap.size #[.int .i64 k, b] 106 := by rw [← hu]; exact RowAt.new w _ _
  have HU := Lib.hid hu
  clear hu
  go_upto_region 4 with (fail)
  rw [HU.out]
  --BEGIN
  go_loopw [5, 6, 7] (fun o d i wr => ∃ j : Nat, j ≤ N ∧ i = .int .i64 j ∧ ∃ (A : List Raw) (dd : Bool), layS (k, b) (l.take j) = (A, dd) ∧ d = .bool dd ∧ wr.ownsRow u0.heap.size 106 2 o A.length (rawVs A) ∧ Below u0.heap.size u0 wr) (fun _ _ i _ => N - (intOf i).toNat)
  case atStart => exact ⟨0, by omega, rfl, [], false, by simp [layS], rfl, World.ownsRow_nil _ _ _ _, Below.refl _ _⟩
  case round =>
    obtain ⟨j, hj, rfl, A, dd, hA, rfl, ho, kw⟩ := hrel
    have la := HLS.out j (by rw [HN.out]; exact hj)
    rw [hA] at la
    have la2 : A.length ≤ j + 1 := by cases dd <;> simp at la <;> omega
    clear la
    by_cases hlt : j < N
    · have hlt2 : j < l.length := by rw [HN.out]; exact hlt
      have hS1 : layS (k, b) (l.take (j + 1)) = layStep (k, b) (layS (k, b) (l.take j)) l[j] := by rw [take_succ_get l j hlt2, layS_snoc]
      obtain ⟨g, off, rfl, hc, zg0, hx⟩ := HF.out (by omega)
      obtain ⟨h0, h1⟩ := hx j hlt2
      obtain ⟨okk, xp, xn, xc, hxs⟩ := OK.out _ (List.getElem_mem hlt2)
      obtain ⟨xk, hxk⟩ : ∃ x, l[j].1 = x := ⟨_, rfl⟩
      have hp : l[j] = (xk, .slice xp xn xc) := by rw [← hxk, ← hxs]
      rw [hxk] at h0 okk
      rw [hxs] at h1
      rw [hp] at hS1
      have hc2 : N ≤ cap := by rw [← HN.out]; exact hc
      have zg : g < u0.heap.size := Nat.lt_of_lt_of_le zg0 k00.size
      have H0 := Lib.hid (keepc k00 zg0 h0)
      have H1 := Lib.hid (keepc k00 zg0 h1)
      clear h0 h1 hx hxk hxs hp hc hlt2 zg0
      by_cases hc1 : k ≤ xk <;> by_cases hc2 : xk = k <;> cases dd
      · have hS2 : layS (k, b) (l.take (j + 1)) = (A ++ [(k, b)], true) := by rw [hS1, hA]; unfold layStep; simp [hc1, hc2]
        have HS2 := Lib.hid hS2
        clear hS1 hA hS2
        have gd : decide (k ≤ xk) = true := by simpa using hc1
        have gd2 : decide (xk ≥ k) = true := gd
        have ge : (xk != k) = false := by simpa using hc2
        have ge2 : (xk == k) = true := by simpa using hc2
        clear hc1 hc2
        have d0 : wr.cell? ⟨g, off + j * 2, none⟩ = some (.int .i64 xk) := keepc kw zg H0.out
        have d1 : wr.cell? ⟨g, off + j * 2 + 1, none⟩ = some (.slice xp xn xc) := keepc kw zg H1.out
        have rb := rb0.keep kw
        have e0 : wr.cell? ⟨w.heap.size, 0, none⟩ = some (.int .i64 k) := by rw [rb.cell]; rfl
        have e1 : wr.cell? ⟨w.heap.size, 1, none⟩ = some b := by rw [rb.cell]; rfl
        have zb : w.heap.size < wr.heap.size := rb.lt
        have zg2 : g < wr.heap.size := size_lt zg kw
        clear rb
        go_wp2_with fail
        refine region_below 11 (by kernel_rfl) (by kernel_rfl) ?_
        simp only [List.take_succ_cons, List.take_zero, List.drop_succ_cons, List.drop_zero]
        repeat (first | (refine' InText.skip (by rfl) ?_; simp only [Act.put, List.setIfInBounds_toArray, List.set_cons_zero, List.set_cons_succ]) | (refine' InText.val (by rfl) (fun wr hr => ?_) ?_; rotate_left 1; (focus (obtain ⟨hrc, hrf⟩ := bcell hr; (go_simp <;> with_reducible rfl); done)); simp only [Act.put, List.setIfInBounds_toArray, List.set_cons_zero, List.set_cons_succ]))
        refine fun wrs hrs => ?_
        obtain ⟨hrcs, hrfs⟩ := bcell hrs
        have ks : Below u0.heap.size u0 wrs := chain kw hrs
        have ho2 := own_keep ho hrs
        clear ho hrs hrcs hrfs kw
        clear d0 d1 e0 e1 zb zg2
        have d0 : wrs.cell? ⟨g, off + j * 2, none⟩ = some (.int .i64 xk) := keepc ks zg H0.out
        have d1 : wrs.cell? ⟨g, off + j * 2 + 1, none⟩ = some (.slice xp xn xc) := keepc ks zg H1.out
        have rb := rb0.keep ks
        have e0 : wrs.cell? ⟨w.heap.size, 0, none⟩ = some (.int .i64 k) := by rw [rb.cell]; rfl
        have e1 : wrs.cell? ⟨w.heap.size, 1, none⟩ = some b := by rw [rb.cell]; rfl
        have zb : w.heap.size < wrs.heap.size := rb.lt
        have zg2 : g < wrs.heap.size := size_lt zg ks
        clear rb
        go_wp2_with (at_builtin; refine app_raw _ rfl _ _ 37 rfl u0.heap.size 106 i0 _ Try.underlying37 hi hz hsz hby rfl _ _ _ rfl (ho2.alloc _) wrs.heap.size (.int .i64 k) b rfl (by go_simp) (by go_simp) rfl (ob) (by omega) (by have := ks.size; simp; omega) ?_; intro v1 w1 ho3 hg; have k1 : Below u0.heap.size u0 w1 := Below.own (al ks _) (ho2.alloc _) hg; clear hg)
        clear d0 d1 e0 e1 zb zg2 ks ho2
        have d0 : w1.cell? ⟨g, off + j * 2, none⟩ = some (.int .i64 xk) := keepc k1 zg H0.out
        have d1 : w1.cell? ⟨g, off + j * 2 + 1, none⟩ = some (.slice xp xn xc) := keepc k1 zg H1.out
        have rb := rb0.keep k1
        have e0 : w1.cell? ⟨w.heap.size, 0, none⟩ = some (.int .i64 k) := by rw [rb.cell]; rfl
        have e1 : w1.cell? ⟨w.heap.size, 1, none⟩ = some b := by rw [rb.cell]; rfl
        have zb : w.heap.size < w1.heap.size := rb.lt
        have zg2 : g < w1.heap.size := size_lt zg k1
        clear rb
        go_wp2_with fail
        refine region_below 7 (by kernel_rfl) (by kernel_rfl) ?_
        simp only [List.take_succ_cons, List.take_zero, List.drop_succ_cons, List.drop_zero]
        repeat (first | (refine' InText.skip (by rfl) ?_; simp only [Act.put, List.setIfInBounds_toArray, List.set_cons_zero, List.set_cons_succ]) | (refine' InText.val (by rfl) (fun wr hr => ?_) ?_; rotate_left 1; (focus (obtain ⟨hrc, hrf⟩ := bcell hr; (go_simp <;> with_reducible rfl); done)); simp only [Act.put, List.setIfInBounds_toArray, List.set_cons_zero, List.set_cons_succ]))
        refine fun wrt hrt => ?_
        obtain ⟨hrct, hrft⟩ := bcell hrt
        have kt : Below u0.heap.size u0 wrt := chain k1 hrt
        have ho4 := own_keep ho3 hrt
        clear ho3 hrt hrct hrft k1
        clear d0 d1 e0 e1 zb zg2
        have d0 : wrt.cell? ⟨g, off + j * 2, none⟩ = some (.int .i64 xk) := keepc kt zg H0.out
        have d1 : wrt.cell? ⟨g, off + j * 2 + 1, none⟩ = some (.slice xp xn xc) := keepc kt zg H1.out
        have rb := rb0.keep kt
        have e0 : wrt.cell? ⟨w.heap.size, 0, none⟩ = some (.int .i64 k) := by rw [rb.cell]; rfl
        have e1 : wrt.cell? ⟨w.heap.size, 1, none⟩ = some b := by rw [rb.cell]; rfl
        have zb : w.heap.size < wrt.heap.size := rb.lt
        have zg2 : g < wrt.heap.size := size_lt zg kt
        clear rb
        go_wp2_with fail
        go_roundw
        case rel => exact ⟨j + 1, by omega, by go_num, _, _, HS2.out, rfl, by rw [rawVs_snoc, List.length_append]; exact ho4, kt⟩
        case measure => simp [intOf]; omega
      · have hS2 : layS (k, b) (l.take (j + 1)) = (A, true) := by rw [hS1, hA]; unfold layStep; simp [hc2]
        have HS2 := Lib.hid hS2
        clear hS1 hA hS2
        have ge : (xk != k) = false := by simpa using hc2
        have ge2 : (xk == k) = true := by simpa using hc2
        clear hc1 hc2
        have d0 : wr.cell? ⟨g, off + j * 2, none⟩ = some (.int .i64 xk) := keepc kw zg H0.out
        have d1 : wr.cell? ⟨g, off + j * 2 + 1, none⟩ = some (.slice xp xn xc) := keepc kw zg H1.out
        have rb := rb0.keep kw
        have e0 : wr.cell? ⟨w.heap.size, 0, none⟩ = some (.int .i64 k) := by rw [rb.cell]; rfl
        have e1 : wr.cell? ⟨w.heap.size, 1, none⟩ = some b := by rw [rb.cell]; rfl
        have zb : w.heap.size < wr.heap.size := rb.lt
        have zg2 : g < wr.heap.size := size_lt zg kw
        clear rb
        go_wp2_with fail
        refine region_below 11 (by kernel_rfl) (by kernel_rfl) ?_
        simp only [List.take_succ_cons, List.take_zero, List.drop_succ_cons, List.drop_zero]
        repeat (first | (refine' InText.skip (by rfl) ?_; simp only [Act.put, List.setIfInBounds_toArray, List.set_cons_zero, List.set_cons_succ]) | (refine' InText.val (by rfl) (fun wr hr => ?_) ?_; rotate_left 1; (focus (obtain ⟨hrc, hrf⟩ := bcell hr; (go_simp <;> with_reducible rfl); done)); simp only [Act.put, List.setIfInBounds_toArray, List.set_cons_zero, List.set_cons_succ]))
        refine fun wrs hrs => ?_
        obtain ⟨hrcs, hrfs⟩ := bcell hrs
        have ks : Below u0.heap.size u0 wrs := chain kw hrs
        have ho2 := own_keep ho hrs
        clear ho hrs hrcs hrfs kw
        clear d0 d1 e0 e1 zb zg2
        have d0 : wrs.cell? ⟨g, off + j * 2, none⟩ = some (.int .i64 xk) := keepc ks zg H0.out
        have d1 : wrs.cell? ⟨g, off + j * 2 + 1, none⟩ = some (.slice xp xn xc) := keepc ks zg H1.out
        have rb := rb0.keep ks
        have e0 : wrs.cell? ⟨w.heap.size, 0, none⟩ = some (.int .i64 k) := by rw [rb.cell]; rfl
        have e1 : wrs.cell? ⟨w.heap.size, 1, none⟩ = some b := by rw [rb.cell]; rfl
        have zb : w.heap.size < wrs.heap.size := rb.lt
        have zg2 : g < wrs.heap.size := size_lt zg ks
        clear rb
        go_wp2_with fail
        refine region_below 7 (by kernel_rfl) (by kernel_rfl) ?_
        simp only [List.take_succ_cons, List.take_zero, List.drop_succ_cons, List.drop_zero]
        repeat (first | (refine' InText.skip (by rfl) ?_; simp only [Act.put, List.setIfInBounds_toArray, List.set_cons_zero, List.set_cons_succ]) | (refine' InText.val (by rfl) (fun wr hr => ?_) ?_; rotate_left 1; (focus (obtain ⟨hrc, hrf⟩ := bcell hr; (go_simp <;> with_reducible rfl); done)); simp only [Act.put, List.setIfInBounds_toArray, List.set_cons_zero, List.set_cons_succ]))
        refine fun wrt hrt => ?_
        obtain ⟨hrct, hrft⟩ := bcell hrt
        have kt : Below u0.heap.size u0 wrt := chain ks hrt
        have ho4 := own_keep ho2 hrt
        clear ho2 hrt hrct hrft ks
        clear d0 d1 e0 e1 zb zg2
        have d0 : wrt.cell? ⟨g, off + j * 2, none⟩ = some (.int .i64 xk) := keepc kt zg H0.out
        have d1 : wrt.cell? ⟨g, off + j * 2 + 1, none⟩ = some (.slice xp xn xc) := keepc kt zg H1.out
        have rb := rb0.keep kt
        have e0 : wrt.cell? ⟨w.heap.size, 0, none⟩ = some (.int .i64 k) := by rw [rb.cell]; rfl
        have e1 : wrt.cell? ⟨w.heap.size, 1, none⟩ = some b := by rw [rb.cell]; rfl
        have zb : w.heap.size < wrt.heap.size := rb.lt
        have zg2 : g < wrt.heap.size := size_lt zg kt
        clear rb
        go_wp2_with fail
        go_roundw
        case rel => exact ⟨j + 1, by omega, by go_num, _, _, HS2.out, rfl, by exact ho4, kt⟩
        case measure => simp [intOf]; omega
      · have hS2 : layS (k, b) (l.take (j + 1)) = (A ++ [(k, b)] ++ [(xk, .slice xp xn xc)], true) := by rw [hS1, hA]; unfold layStep; simp [hc1, hc2]
        have HS2 := Lib.hid hS2
        clear hS1 hA hS2
        have gd : decide (k ≤ xk) = true := by simpa using hc1
        have gd2 : decide (xk ≥ k) = true := gd
        have ge : (xk != k) = true := by simpa using hc2
        have ge2 : (xk == k) = false := by simpa using hc2
        clear hc1 hc2
        have d0 : wr.cell? ⟨g, off + j * 2, none⟩ = some (.int .i64 xk) := keepc kw zg H0.out
        have d1 : wr.cell? ⟨g, off + j * 2 + 1, none⟩ = some (.slice xp xn xc) := keepc kw zg H1.out
        have rb := rb0.keep kw
        have e0 : wr.cell? ⟨w.heap.size, 0, none⟩ = some (.int .i64 k) := by rw [rb.cell]; rfl
        have e1 : wr.cell? ⟨w.heap.size, 1, none⟩ = some b := by rw [rb.cell]; rfl
        have zb : w.heap.size < wr.heap.size := rb.lt
        have zg2 : g < wr.heap.size := size_lt zg kw
        clear rb
        go_wp2_with fail
        refine region_below 11 (by kernel_rfl) (by kernel_rfl) ?_
        simp only [List.take_succ_cons, List.take_zero, List.drop_succ_cons, List.drop_zero]
        repeat (first | (refine' InText.skip (by rfl) ?_; simp only [Act.put, List.setIfInBounds_toArray, List.set_cons_zero, List.set_cons_succ]) | (refine' InText.val (by rfl) (fun wr hr => ?_) ?_; rotate_left 1; (focus (obtain ⟨hrc, hrf⟩ := bcell hr; (go_simp <;> with_reducible rfl); done)); simp only [Act.put, List.setIfInBounds_toArray, List.set_cons_zero, List.set_cons_succ]))
        refine fun wrs hrs => ?_
        obtain ⟨hrcs, hrfs⟩ := bcell hrs
        have ks : Below u0.heap.size u0 wrs := chain kw hrs
        have ho2 := own_keep ho hrs
        clear ho hrs hrcs hrfs kw
        clear d0 d1 e0 e1 zb zg2
        have d0 : wrs.cell? ⟨g, off + j * 2, none⟩ = some (.int .i64 xk) := keepc ks zg H0.out
        have d1 : wrs.cell? ⟨g, off + j * 2 + 1, none⟩ = some (.slice xp xn xc) := keepc ks zg H1.out
        have rb := rb0.keep ks
        have e0 : wrs.cell? ⟨w.heap.size, 0, none⟩ = some (.int .i64 k) := by rw [rb.cell]; rfl
        have e1 : wrs.cell? ⟨w.heap.size, 1, none⟩ = some b := by rw [rb.cell]; rfl
        have zb : w.heap.size < wrs.heap.size := rb.lt
        have zg2 : g < wrs.heap.size := size_lt zg ks
        clear rb
        go_wp2_with (at_builtin; refine app_raw _ rfl _ _ 37 rfl u0.heap.size 106 i0 _ Try.underlying37 hi hz hsz hby rfl _ _ _ rfl (ho2.alloc _) wrs.heap.size (.int .i64 k) b rfl (by go_simp) (by go_simp) rfl (ob) (by omega) (by have := ks.size; simp; omega) ?_; intro v1 w1 ho3 hg; have k1 : Below u0.heap.size u0 w1 := Below.own (al ks _) (ho2.alloc _) hg; clear hg)
        clear d0 d1 e0 e1 zb zg2 ks ho2
        have d0 : w1.cell? ⟨g, off + j * 2, none⟩ = some (.int .i64 xk) := keepc k1 zg H0.out
        have d1 : w1.cell? ⟨g, off + j * 2 + 1, none⟩ = some (.slice xp xn xc) := keepc k1 zg H1.out
        have rb := rb0.keep k1
        have e0 : w1.cell? ⟨w.heap.size, 0, none⟩ = some (.int .i64 k) := by rw [rb.cell]; rfl
        have e1 : w1.cell? ⟨w.heap.size, 1, none⟩ = some b := by rw [rb.cell]; rfl
        have zb : w.heap.size < w1.heap.size := rb.lt
        have zg2 : g < w1.heap.size := size_lt zg k1
        clear rb
        go_wp2_with fail
        refine region_below 7 (by kernel_rfl) (by kernel_rfl) ?_
        simp only [List.take_succ_cons, List.take_zero, List.drop_succ_cons, List.drop_zero]
        repeat (first | (refine' InText.skip (by rfl) ?_; simp only [Act.put, List.setIfInBounds_toArray, List.set_cons_zero, List.set_cons_succ]) | (refine' InText.val (by rfl) (fun wr hr => ?_) ?_; rotate_left 1; (focus (obtain ⟨hrc, hrf⟩ := bcell hr; (go_simp <;> with_reducible rfl); done)); simp only [Act.put, List.setIfInBounds_toArray, List.set_cons_zero, List.set_cons_succ]))
        refine fun wrt hrt => ?_
        obtain ⟨hrct, hrft⟩ := bcell hrt
        have kt : Below u0.heap.size u0 wrt := chain k1 hrt
        have ho4 := own_keep ho3 hrt
        clear ho3 hrt hrct hrft k1
        clear d0 d1 e0 e1 zb zg2
        have d0 : wrt.cell? ⟨g, off + j * 2, none⟩ = some (.int .i64 xk) := keepc kt zg H0.out
        have d1 : wrt.cell? ⟨g, off + j * 2 + 1, none⟩ = some (.slice xp xn xc) := keepc kt zg H1.out
        have rb := rb0.keep kt
        have e0 : wrt.cell? ⟨w.heap.size, 0, none⟩ = some (.int .i64 k) := by rw [rb.cell]; rfl
        have e1 : wrt.cell? ⟨w.heap.size, 1, none⟩ = some b := by rw [rb.cell]; rfl
        have zb : w.heap.size < wrt.heap.size := rb.lt
        have zg2 : g < wrt.heap.size := size_lt zg kt
        clear rb
        go_wp2_with (at_builtin; refine app_raw _ rfl _ _ 37 rfl u0.heap.size 106 i0 _ Try.underlying37 hi hz hsz hby rfl _ _ _ rfl (ho4.alloc _) wrt.heap.size (.int .i64 xk) (.slice xp xn xc) rfl (by go_simp) (by go_simp) rfl (rfl) (by omega) (by have := kt.size; simp; omega) ?_; intro v2 w2 ho5 hg; have k2 : Below u0.heap.size u0 w2 := Below.own (al kt _) (ho4.alloc _) hg; clear hg)
        go_roundw
        case rel => exact ⟨j + 1, by omega, by go_num, _, _, HS2.out, rfl, by rw [rawVs_snoc, rawVs_snoc, List.length_append, List.length_append]; exact ho5, k2⟩
        case measure => simp [intOf]; omega
      · have hS2 : layS (k, b) (l.take (j + 1)) = (A ++ [(xk, .slice xp xn xc)], true) := by rw [hS1, hA]; unfold layStep; simp [hc2]
        have HS2 := Lib.hid hS2
        clear hS1 hA hS2
        have ge : (xk != k) = true := by simpa using hc2
        have ge2 : (xk == k) = false := by simpa using hc2
        clear hc1 hc2
        have d0 : wr.cell? ⟨g, off + j * 2, none⟩ = some (.int .i64 xk) := keepc kw zg H0.out
        have d1 : wr.cell? ⟨g, off + j * 2 + 1, none⟩ = some (.slice xp xn xc) := keepc kw zg H1.out
        have rb := rb0.keep kw
        have e0 : wr.cell? ⟨w.heap.size, 0, none⟩ = some (.int .i64 k) := by rw [rb.cell]; rfl
        have e1 : wr.cell? ⟨w.heap.size, 1, none⟩ = some b := by rw [rb.cell]; rfl
        have zb : w.heap.size < wr.heap.size := rb.lt
        have zg2 : g < wr.heap.size := size_lt zg kw
        clear rb
        go_wp2_with fail
        refine region_below 11 (by kernel_rfl) (by kernel_rfl) ?_
        simp only [List.take_succ_cons, List.take_zero, List.drop_succ_cons, List.drop_zero]
        repeat (first | (refine' InText.skip (by rfl) ?_; simp only [Act.put, List.setIfInBounds_toArray, List.set_cons_zero, List.set_cons_succ]) | (refine' InText.val (by rfl) (fun wr hr => ?_) ?_; rotate_left 1; (focus (obtain ⟨hrc, hrf⟩ := bcell hr; (go_simp <;> with_reducible rfl); done)); simp only [Act.put, List.setIfInBounds_toArray, List.set_cons_zero, List.set_cons_succ]))
        refine fun wrs hrs => ?_
        obtain ⟨hrcs, hrfs⟩ := bcell hrs
        have ks : Below u0.heap.size u0 wrs := chain kw hrs
        have ho2 := own_keep ho hrs
        clear ho hrs hrcs hrfs kw
        clear d0 d1 e0 e1 zb zg2
        have d0 : wrs.cell? ⟨g, off + j * 2, none⟩ = some (.int .i64 xk) := keepc ks zg H0.out
        have d1 : wrs.cell? ⟨g, off + j * 2 + 1, none⟩ = some (.slice xp xn xc) := keepc ks zg H1.out
        have rb := rb0.keep ks
        have e0 : wrs.cell? ⟨w.heap.size, 0, none⟩ = some (.int .i64 k) := by rw [rb.cell]; rfl
        have e1 : wrs.cell? ⟨w.heap.size, 1, none⟩ = some b := by rw [rb.cell]; rfl
        have zb : w.heap.size < wrs.heap.size := rb.lt
        have zg2 : g < wrs.heap.size := size_lt zg ks
        clear rb
        go_wp2_with fail
        refine region_below 7 (by kernel_rfl) (by kernel_rfl) ?_
        simp only [List.take_succ_cons, List.take_zero, List.drop_succ_cons, List.drop_zero]
        repeat (first | (refine' InText.skip (by rfl) ?_; simp only [Act.put, List.setIfInBounds_toArray, List.set_cons_zero, List.set_cons_succ]) | (refine' InText.val (by rfl) (fun wr hr => ?_) ?_; rotate_left 1; (focus (obtain ⟨hrc, hrf⟩ := bcell hr; (go_simp <;> with_reducible rfl); done)); simp only [Act.put, List.setIfInBounds_toArray, List.set_cons_zero, List.set_cons_succ]))
        refine fun wrt hrt => ?_
        obtain ⟨hrct, hrft⟩ := bcell hrt
        have kt : Below u0.heap.size u0 wrt := chain ks hrt
        have ho4 := own_keep ho2 hrt
        clear ho2 hrt hrct hrft ks
        clear d0 d1 e0 e1 zb zg2
        have d0 : wrt.cell? ⟨g, off + j * 2, none⟩ = some (.int .i64 xk) := keepc kt zg H0.out
        have d1 : wrt.cell? ⟨g, off + j * 2 + 1, none⟩ = some (.slice xp xn xc) := keepc kt zg H1.out
        have rb := rb0.keep kt
        have e0 : wrt.cell? ⟨w.heap.size, 0, none⟩ = some (.int .i64 k) := by rw [rb.cell]; rfl
        have e1 : wrt.cell? ⟨w.heap.size, 1, none⟩ = some b := by rw [rb.cell]; rfl
        have zb : w.heap.size < wrt.heap.size := rb.lt
        have zg2 : g < wrt.heap.size := size_lt zg kt
        clear rb
        go_wp2_with (at_builtin; refine app_raw _ rfl _ _ 37 rfl u0.heap.size 106 i0 _ Try.underlying37 hi hz hsz hby rfl _ _ _ rfl (ho4.alloc _) wrt.heap.size (.int .i64 xk) (.slice xp xn xc) rfl (by go_simp) (by go_simp) rfl (rfl) (by omega) (by have := kt.size; simp; omega) ?_; intro v2 w2 ho5 hg; have k2 : Below u0.heap.size u0 w2 := Below.own (al kt _) (ho4.alloc _) hg; clear hg)
        go_roundw
        case rel => exact ⟨j + 1, by omega, by go_num, _, _, HS2.out, rfl, by rw [rawVs_snoc, List.length_append]; exact ho5, k2⟩
        case measure => simp [intOf]; omega
      · exfalso; omega
      · exfalso; omega
      · have hS2 : layS (k, b) (l.take (j + 1)) = (A ++ [(xk, .slice xp xn xc)], false) := by rw [hS1, hA]; unfold layStep; simp [hc1, hc2]
        have HS2 := Lib.hid hS2
        clear hS1 hA hS2
        have gd : decide (k ≤ xk) = false := by simpa using hc1
        have gd2 : decide (xk ≥ k) = false := gd
        have ge : (xk != k) = true := by simpa using hc2
        have ge2 : (xk == k) = false := by simpa using hc2
        clear hc1 hc2
        have d0 : wr.cell? ⟨g, off + j * 2, none⟩ = some (.int .i64 xk) := keepc kw zg H0.out
        have d1 : wr.cell? ⟨g, off + j * 2 + 1, none⟩ = some (.slice xp xn xc) := keepc kw zg H1.out
        have rb := rb0.keep kw
        have e0 : wr.cell? ⟨w.heap.size, 0, none⟩ = some (.int .i64 k) := by rw [rb.cell]; rfl
        have e1 : wr.cell? ⟨w.heap.size, 1, none⟩ = some b := by rw [rb.cell]; rfl
        have zb : w.heap.size < wr.heap.size := rb.lt
        have zg2 : g < wr.heap.size := size_lt zg kw
        clear rb
        go_wp2_with fail
        refine region_below 11 (by kernel_rfl) (by kernel_rfl) ?_
        simp only [List.take_succ_cons, List.take_zero, List.drop_succ_cons, List.drop_zero]
        repeat (first | (refine' InText.skip (by rfl) ?_; simp only [Act.put, List.setIfInBounds_toArray, List.set_cons_zero, List.set_cons_succ]) | (refine' InText.val (by rfl) (fun wr hr => ?_) ?_; rotate_left 1; (focus (obtain ⟨hrc, hrf⟩ := bcell hr; (go_simp <;> with_reducible rfl); done)); simp only [Act.put, List.setIfInBounds_toArray, List.set_cons_zero, List.set_cons_succ]))
        refine fun wrs hrs => ?_
        obtain ⟨hrcs, hrfs⟩ := bcell hrs
        have ks : Below u0.heap.size u0 wrs := chain kw hrs
        have ho2 := own_keep ho hrs
        clear ho hrs hrcs hrfs kw
        clear d0 d1 e0 e1 zb zg2
        have d0 : wrs.cell? ⟨g, off + j * 2, none⟩ = some (.int .i64 xk) := keepc ks zg H0.out
        have d1 : wrs.cell? ⟨g, off + j * 2 + 1, none⟩ = some (.slice xp xn xc) := keepc ks zg H1.out
        have rb := rb0.keep ks
        have e0 : wrs.cell? ⟨w.heap.size, 0, none⟩ = some (.int .i64 k) := by rw [rb.cell]; rfl
        have e1 : wrs.cell? ⟨w.heap.size, 1, none⟩ = some b := by rw [rb.cell]; rfl
        have zb : w.heap.size < wrs.heap.size := rb.lt
        have zg2 : g < wrs.heap.size := size_lt zg ks
        clear rb
        go_wp2_with fail
        refine region_below 7 (by kernel_rfl) (by kernel_rfl) ?_
        simp only [List.take_succ_cons, List.take_zero, List.drop_succ_cons, List.drop_zero]
        repeat (first | (refine' InText.skip (by rfl) ?_; simp only [Act.put, List.setIfInBounds_toArray, List.set_cons_zero, List.set_cons_succ]) | (refine' InText.val (by rfl) (fun wr hr => ?_) ?_; rotate_left 1; (focus (obtain ⟨hrc, hrf⟩ := bcell hr; (go_simp <;> with_reducible rfl); done)); simp only [Act.put, List.setIfInBounds_toArray, List.set_cons_zero, List.set_cons_succ]))
        refine fun wrt hrt => ?_
        obtain ⟨hrct, hrft⟩ := bcell hrt
        have kt : Below u0.heap.size u0 wrt := chain ks hrt
        have ho4 := own_keep ho2 hrt
        clear ho2 hrt hrct hrft ks
        clear d0 d1 e0 e1 zb zg2
        have d0 : wrt.cell? ⟨g, off + j * 2, none⟩ = some (.int .i64 xk) := keepc kt zg H0.out
        have d1 : wrt.cell? ⟨g, off + j * 2 + 1, none⟩ = some (.slice xp xn xc) := keepc kt zg H1.out
        have rb := rb0.keep kt
        have e0 : wrt.cell? ⟨w.heap.size, 0, none⟩ = some (.int .i64 k) := by rw [rb.cell]; rfl
        have e1 : wrt.cell? ⟨w.heap.size, 1, none⟩ = some b := by rw [rb.cell]; rfl
        have zb : w.heap.size < wrt.heap.size := rb.lt
        have zg2 : g < wrt.heap.size := size_lt zg kt
        clear rb
        go_wp2_with (at_builtin; refine app_raw _ rfl _ _ 37 rfl u0.heap.size 106 i0 _ Try.underlying37 hi hz hsz hby rfl _ _ _ rfl (ho4.alloc _) wrt.heap.size (.int .i64 xk) (.slice xp xn xc) rfl (by go_simp) (by go_simp) rfl (rfl) (by omega) (by have := kt.size; simp; omega) ?_; intro v2 w2 ho5 hg; have k2 : Below u0.heap.size u0 w2 := Below.own (al kt _) (ho4.alloc _) hg; clear hg)
        go_roundw
        case rel => exact ⟨j + 1, by omega, by go_num, _, _, HS2.out, rfl, by rw [rawVs_snoc, List.length_append]; exact ho5, k2⟩
        case measure => simp [intOf]; omega
      · have hS2 : layS (k, b) (l.take (j + 1)) = (A ++ [(xk, .slice xp xn xc)], true) := by rw [hS1, hA]; unfold layStep; simp [hc2]
        have HS2 := Lib.hid hS2
        clear hS1 hA hS2
        have ge : (xk != k) = true := by simpa using hc2
        have ge2 : (xk == k) = false := by simpa using hc2
        clear hc1 hc2
        have d0 : wr.cell? ⟨g, off + j * 2, none⟩ = some (.int .i64 xk) := keepc kw zg H0.out
        have d1 : wr.cell? ⟨g, off + j * 2 + 1, none⟩ = some (.slice xp xn xc) := keepc kw zg H1.out
        have rb := rb0.keep kw
        have e0 : wr.cell? ⟨w.heap.size, 0, none⟩ = some (.int .i64 k) := by rw [rb.cell]; rfl
        have e1 : wr.cell? ⟨w.heap.size, 1, none⟩ = some b := by rw [rb.cell]; rfl
        have zb : w.heap.size < wr.heap.size := rb.lt
        have zg2 : g < wr.heap.size := size_lt zg kw
        clear rb
        go_wp2_with fail
        refine region_below 11 (by kernel_rfl) (by kernel_rfl) ?_
        simp only [List.take_succ_cons, List.take_zero, List.drop_succ_cons, List.drop_zero]
        repeat (first | (refine' InText.skip (by rfl) ?_; simp only [Act.put, List.setIfInBounds_toArray, List.set_cons_zero, List.set_cons_succ]) | (refine' InText.val (by rfl) (fun wr hr => ?_) ?_; rotate_left 1; (focus (obtain ⟨hrc, hrf⟩ := bcell hr; (go_simp <;> with_reducible rfl); done)); simp only [Act.put, List.setIfInBounds_toArray, List.set_cons_zero, List.set_cons_succ]))
        refine fun wrs hrs => ?_
        obtain ⟨hrcs, hrfs⟩ := bcell hrs
        have ks : Below u0.heap.size u0 wrs := chain kw hrs
        have ho2 := own_keep ho hrs
        clear ho hrs hrcs hrfs kw
        clear d0 d1 e0 e1 zb zg2
        have d0 : wrs.cell? ⟨g, off + j * 2, none⟩ = some (.int .i64 xk) := keepc ks zg H0.out
        have d1 : wrs.cell? ⟨g, off + j * 2 + 1, none⟩ = some (.slice xp xn xc) := keepc ks zg H1.out
        have rb := rb0.keep ks
        have e0 : wrs.cell? ⟨w.heap.size, 0, none⟩ = some (.int .i64 k) := by rw [rb.cell]; rfl
        have e1 : wrs.cell? ⟨w.heap.size, 1, none⟩ = some b := by rw [rb.cell]; rfl
        have zb : w.heap.size < wrs.heap.size := rb.lt
        have zg2 : g < wrs.heap.size := size_lt zg ks
        clear rb
        go_wp2_with fail
        refine region_below 7 (by kernel_rfl) (by kernel_rfl) ?_
        simp only [List.take_succ_cons, List.take_zero, List.drop_succ_cons, List.drop_zero]
        repeat (first | (refine' InText.skip (by rfl) ?_; simp only [Act.put, List.setIfInBounds_toArray, List.set_cons_zero, List.set_cons_succ]) | (refine' InText.val (by rfl) (fun wr hr => ?_) ?_; rotate_left 1; (focus (obtain ⟨hrc, hrf⟩ := bcell hr; (go_simp <;> with_reducible rfl); done)); simp only [Act.put, List.setIfInBounds_toArray, List.set_cons_zero, List.set_cons_succ]))
        refine fun wrt hrt => ?_
        obtain ⟨hrct, hrft⟩ := bcell hrt
        have kt : Below u0.heap.size u0 wrt := chain ks hrt
        have ho4 := own_keep ho2 hrt
        clear ho2 hrt hrct hrft ks
        clear d0 d1 e0 e1 zb zg2
        have d0 : wrt.cell? ⟨g, off + j * 2, none⟩ = some (.int .i64 xk) := keepc kt zg H0.out
        have d1 : wrt.cell? ⟨g, off + j * 2 + 1, none⟩ = some (.slice xp xn xc) := keepc kt zg H1.out
        have rb := rb0.keep kt
        have e0 : wrt.cell? ⟨w.heap.size, 0, none⟩ = some (.int .i64 k) := by rw [rb.cell]; rfl
        have e1 : wrt.cell? ⟨w.heap.size, 1, none⟩ = some b := by rw [rb.cell]; rfl
        have zb : w.heap.size < wrt.heap.size := rb.lt
        have zg2 : g < wrt.heap.size := size_lt zg kt
        clear rb
        go_wp2_with (at_builtin; refine app_raw _ rfl _ _ 37 rfl u0.heap.size 106 i0 _ Try.underlying37 hi hz hsz hby rfl _ _ _ rfl (ho4.alloc _) wrt.heap.size (.int .i64 xk) (.slice xp xn xc) rfl (by go_simp) (by go_simp) rfl (rfl) (by omega) (by have := kt.size; simp; omega) ?_; intro v2 w2 ho5 hg; have k2 : Below u0.heap.size u0 w2 := Below.own (al kt _) (ho4.alloc _) hg; clear hg)
        go_roundw
        case rel => exact ⟨j + 1, by omega, by go_num, _, _, HS2.out, rfl, by rw [rawVs_snoc, List.length_append]; exact ho5, k2⟩
        case measure => simp [intOf]; omega
    · obtain rfl : j = N := by omega
      have e : layS (k, b) (l.take j) = S := by rw [← HS.out, ← HN.out, List.take_length]
      rw [hA] at e
      subst e
      clear hA
      have rb := rb0.keep kw
      have e0 : wr.cell? ⟨w.heap.size, 0, none⟩ = some (.int .i64 k) := by rw [rb.cell]; rfl
      have e1 : wr.cell? ⟨w.heap.size, 1, none⟩ = some b := by rw [rb.cell]; rfl
      have zb : w.heap.size < wr.heap.size := rb.lt
      clear rb
      cases dd
      · go_wp2_with (at_builtin; refine app_raw _ rfl _ _ 37 rfl u0.heap.size 106 i0 _ Try.underlying37 hi hz hsz hby rfl _ _ _ rfl (ho.alloc _) wr.heap.size (.int .i64 k) b rfl (by go_simp) (by go_simp) rfl (ob) (by omega) (by have := kw.size; simp; omega) ?_; intro v1 w1 ho3 hg; have k1 : Below u0.heap.size u0 w1 := Below.own (al kw _) (ho.alloc _) hg; clear hg)
        go_ret
        exact ⟨_, rfl, own_base ho3 k00.size, chain k00 k1⟩
      · go_wp2_with fail
        go_ret
        exact ⟨_, rfl, own_base ho k00.size, chain k00 kw⟩
  --END
end Go.Proofs.Ythjekbbldejlpaa
/- Contracts of layer 8's reference (disk): Len, Now. -/
set_option linter.unusedVariables false
set_option linter.unusedSimpArgs false
namespace Go.Proofs.Ythjekbbldejlpaa
open Go.ChangeShapes Go.WideShapes Go.ChangeAt Go.RowKit
set_option maxHeartbeats 4000000 in
theorem r8_len (v : Value) (l : List Raw) (w : World) (hl : RawAt w v l) (ok : rawOk l) (hL : l.length ≤ 100000) (hS : lenR l ≤ 1000000000000) : Calls Try.prog 46 #[v] w fun e w' => e = .returned (.int .i64 (lenR l)) ∧ Below w.heap.size w w' := by
  obtain ⟨p, cap, rfl, hf⟩ := hl.form
  have lt := fun k => lenR_take l k
  obtain ⟨N, hN⟩ : ∃ N, l.length = N := ⟨_, rfl⟩
  obtain ⟨T, hT⟩ : ∃ N, lenR l = N := ⟨_, rfl⟩
  rw [hT] at hS lt
  rw [hT]
  have HN := Lib.hid hN
  have HT := Lib.hid hT
  have OK := Lib.hid ok
  have HF := Lib.hid hf
  have LT := Lib.hid lt
  rw [hN] at hL ⊢
  clear hN ok hf hl lt hT
  go_enter Try.func46, Try.ntmps46
  go_wp2_with fail
  go_loopw [3, 4] (fun s i wr => ∃ j : Nat, j ≤ N ∧ i = .int .i64 j ∧ s = .int .i64 (lenR (l.take j)) ∧ wr = w) (fun _ i _ => N - (intOf i).toNat)
  case atStart => exact ⟨0, by omega, rfl, by simp [lenR], rfl⟩
  case round =>
    obtain ⟨j, hj, rfl, rfl, rfl⟩ := hrel
    by_cases hlt : j < N
    · have hlt2 : j < l.length := by rw [HN.out]; exact hlt
      have e : lenR (l.take (j + 1)) = lenR (l.take j) + slLen l[j].2 := by rw [take_succ_get l j hlt2, lenR_append]; simp [lenR]
      obtain ⟨g, off, rfl, hc, zg0, hx⟩ := HF.out (by omega)
      obtain ⟨h0, h1⟩ := hx j hlt2
      obtain ⟨okk, xp, xn, xc, hxs⟩ := OK.out _ (List.getElem_mem hlt2)
      have b1 := LT.out (j + 1)
      have b0 := LT.out j
      rw [hxs] at h1 e
      have e2 : lenR (l.take (j + 1)) = lenR (l.take j) + xn := e
      rw [e2] at b1
      obtain ⟨S, hSj⟩ : ∃ S, lenR (l.take j) = S := ⟨_, rfl⟩
      rw [hSj] at e2 b1 b0 ⊢
      obtain ⟨xk, hxk⟩ : ∃ x, l[j].1 = x := ⟨_, rfl⟩
      rw [hxk] at h0
      have E2 := Lib.hid e2
      have wS : IntKind.i64.wrap ((S : Int) + (xn : Int)) = (S : Int) + xn := IntWalk.i64_in _ (by omega)
      clear hx hxs e e2 hSj hxk okk hc hlt2
      go_wp2_with fail
      go_roundw
      case rel => exact ⟨j + 1, by omega, by go_num, by rw [E2.out]; go_num, by trivial⟩
      case measure => simp [intOf]; omega
    · obtain rfl : j = N := by omega
      have e : l.take j = l := by rw [← HN.out, List.take_length]
      rw [e, HT.out]
      clear e
      go_wp2_with fail
      go_ret
      exact ⟨rfl, by (repeat (first | with_reducible assumption | with_reducible exact Below.refl _ _ | with_reducible refine Below.drew ?_ | with_reducible refine below_drewN ?_ _ | with_reducible refine al ?_ _ | (with_reducible refine sc ?_ ?_; (focus (first | omega | (simp; done) | (simp; omega)))) | (with_reducible refine chain ?_ (by assumption))))⟩
set_option maxHeartbeats 4000000 in
theorem r8_now (room fails wait : Int) (vs vl : Value) (s l : List Raw) (w : World) (hs : RawAt w vs s) (hl : RawAt w vl l) (oks : rawOk s) (okl : rawOk l) (hS : s.length ≤ 40000) (hL : l.length ≤ 40000) :
    Calls Try.prog 59 #[.agg #[.int .i64 room, .int .i64 fails, .int .i64 wait, vs, vl]] w fun e w' => ∃ v', e = .returned v' ∧ RawAt w' v' (nowF s l) ∧ (∀ b, b < w.heap.size → offR b vs s → offR b v' (nowF s l)) ∧ Below w.heap.size w w' := by
  obtain ⟨ps, cs, rfl, _⟩ := hs.form
  obtain ⟨p, cap, rfl, hf⟩ := hl.form
  have okn := fun k h => rawOk.now oks okl k h
  have lnn := fun k h => nowF_len s l k h
  obtain ⟨N, hN⟩ : ∃ N, l.length = N := ⟨_, rfl⟩
  obtain ⟨M, hM⟩ : ∃ N, s.length = N := ⟨_, rfl⟩
  have HN := Lib.hid hN
  have OKN := Lib.hid okn
  have LNN := Lib.hid lnn
  have OKL := Lib.hid okl
  have HF := Lib.hid hf
  rw [hN] at hL ⊢
  rw [hM] at hS hs LNN ⊢
  clear hN hM okn lnn okl hf hl oks
  go_enter Try.func59, Try.ntmps59
  obtain ⟨u0, hu⟩ : ∃ u, w.alloc (.cells #[.int .i64 room, .int .i64 fails, .int .i64 wait, .slice ps M cs, .slice p N cap] 39) = u := ⟨_, rfl⟩
  have k00 : Below w.heap.size w u0 := by rw [← hu]; exact al (Below.refl _ _) _
  have rb0 : RowAt u0 w.heap.size #[.int .i64 room, .int .i64 fails, .int .i64 wait, .slice ps M cs, .slice p N cap] 39 := by rw [← hu]; exact RowAt.new w _ _
  have e3 : u0.cell? ⟨w.heap.size, 3, none⟩ = some (.slice ps M cs) := by rw [rb0.cell]; rfl
  have zb : w.heap.size < u0.heap.size := rb0.lt
  have hs0 := hs.keep k00
  have HU := Lib.hid hu
  clear hu hs
  go_upto_region 1 with (fail)
  rw [HU.out]
  go_upto_region 3 with (fail)
  clear e3 zb
  go_loopw [3, 4] (fun o i wr => ∃ j : Nat, j ≤ N ∧ i = .int .i64 j ∧ RawAt wr o (nowF s (l.take j)) ∧ (∀ b, b < w.heap.size → offR b (.slice ps M cs) s → offR b o (nowF s (l.take j))) ∧ Below u0.heap.size u0 wr) (fun _ i _ => N - (intOf i).toNat)
  case atStart => exact ⟨0, by omega, rfl, by simpa [nowF] using hs0, fun b _ h => by simpa [nowF] using h, Below.refl _ _⟩
  case round =>
    obtain ⟨j, hj, rfl, ho, hoff, kw⟩ := hrel
    have rb := rb0.keep kw
    have e4 : wr.cell? ⟨w.heap.size, 4, none⟩ = some (.slice p N cap) := by rw [rb.cell]; rfl
    have zb : w.heap.size < wr.heap.size := rb.lt
    clear rb
    by_cases hlt : j < N
    · have hlt2 : j < l.length := by rw [HN.out]; exact hlt
      have e : nowF s (l.take (j + 1)) = layF (nowF s (l.take j)) l[j] := by rw [take_succ_get l j hlt2, nowF_snoc]
      obtain ⟨g, off, rfl, hc, zg0, hx⟩ := HF.out (by omega)
      obtain ⟨h0, h1⟩ := hx j hlt2
      obtain ⟨okk, xp, xn, xc, hxs⟩ := OKL.out _ (List.getElem_mem hlt2)
      have okj := OKN.out j (by omega)
      have lnj := LNN.out j (by omega)
      obtain ⟨S, hSj⟩ : ∃ S, nowF s (l.take j) = S := ⟨_, rfl⟩
      rw [hSj] at e okj lnj ho
      obtain ⟨xk, hxk⟩ : ∃ x, l[j].1 = x := ⟨_, rfl⟩
      have hp : l[j] = (xk, .slice xp xn xc) := by rw [← hxk, ← hxs]
      rw [hxk] at h0 okk
      rw [hxs] at h1
      rw [hp] at e
      have hc2 : N ≤ cap := by rw [← HN.out]; exact hc
      have zg : g < u0.heap.size := Nat.lt_of_lt_of_le zg0 k00.size
      have zg2 : g < wr.heap.size := size_lt zg kw
      have d0 : wr.cell? ⟨g, off + j * 2, none⟩ = some (.int .i64 xk) := keepc kw zg (keepc k00 zg0 h0)
      have d1 : wr.cell? ⟨g, off + j * 2 + 1, none⟩ = some (.slice xp xn xc) := keepc kw zg (keepc k00 zg0 h1)
      have E2 := Lib.hid e
      clear hx hxs hSj hxk okk hc hlt2 hp h0 h1 zg0 e
      go_wp2_with fail
      refine (r8_lay _ S xk xp xn xc _ ho okj (by omega)).mono ?_
      rintro e w1 ⟨v1, rfl, ho1, hv⟩
      have k1 := chain kw hv
      have hr := raws_of_owned ho1
      have hof2 : ∀ b, b < w.heap.size → offR b v1 (layF S (xk, .slice xp xn xc)) := fun b hb => off_of_owned ho1 (Nat.lt_of_lt_of_le hb (Nat.le_trans k00.size kw.size)) _
      clear hv ho1 hoff e4 zb d0 d1 zg2 kw
      go_wp2_with fail
      go_roundw
      case rel => exact ⟨j + 1, by omega, by go_num, by rw [E2.out]; exact hr, fun b hb _ => by rw [E2.out]; exact hof2 b hb, k1⟩
      case measure => simp [intOf]; omega
    · obtain rfl : j = N := by omega
      have e : l.take j = l := by rw [← HN.out, List.take_length]
      rw [e] at ho hoff
      clear e
      go_wp2_with fail
      go_ret
      exact ⟨_, rfl, ho, hoff, chain k00 kw⟩
end Go.Proofs.Ythjekbbldejlpaa
