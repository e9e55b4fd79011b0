/- DiskSafe, over what is asked of the disk. Written by gen_q08.py. -/
import Derived.Test.YtkephcmjigfepaaK85
set_option linter.unusedVariables false
set_option linter.unusedSimpArgs false
namespace Go.Proofs.Ytkephcmjigfepaa
open Go.ChangeShapes Go.WideShapes Go.ChangeAt Go.RowKit
set_option maxHeartbeats 16000000 in
theorem diskSafe_core (I : DiskI) (w : World) (v vb vo : Value) (keep : Int) (hd : DeedsIn w v) (hbI : BytsIn w vb) (hoI : BytsIn w vo) (hkeep : i64 keep) : Calls Try.prog 4 #[v, vb, vo, .int .i64 keep] w fun e w' => e = .returned (.bool true) ∧ Below w.heap.size w w' := by
  obtain ⟨l, hl, hok, hlen⟩ := hd
  obtain ⟨p, cap, rfl, hf⟩ := hl.form
  obtain ⟨N, hN⟩ : ∃ N, l.length = N := ⟨_, rfl⟩
  obtain ⟨B0, hB0, oB0, lB0⟩ := hbI
  obtain ⟨O0, hO0, oO0, lO0⟩ := hoI
  obtain ⟨pB, cB, rfl⟩ := hB0.shape
  obtain ⟨pO, cO, rfl⟩ := hO0.shape
  have iRM : i64 1000000 := ⟨by decide, by decide⟩
  have akp := around_bd keep 30 (by omega)
  have ak := fun u => r_around keep 30 hkeep.1 hkeep.2 (by omega) (by omega) u
  obtain ⟨K, hK⟩ : ∃ K, aroundF keep 30 = K := ⟨_, rfl⟩
  rw [hK] at ak akp
  have AK := Lib.hid ak
  have HB0 := Lib.hid hB0
  have HO0 := Lib.hid hO0
  have OB0 := Lib.hid oB0
  have OO0 := Lib.hid oO0
  have LB0 := Lib.hid lB0
  have LO0 := Lib.hid lO0
  obtain ⟨nB, hnB⟩ : ∃ n, B0.length = n := ⟨_, rfl⟩
  obtain ⟨nO, hnO⟩ : ∃ n, O0.length = n := ⟨_, rfl⟩
  rw [hnB] at HB0 ⊢
  rw [hnO] at HO0 ⊢
  have HNB := Lib.hid hnB
  have HNO := Lib.hid hnO
  clear ak hK hB0 hO0 oB0 oO0 lB0 lO0 hnB hnO
  have HF := Lib.hid hf
  have HN := Lib.hid hN
  have OK := Lib.hid hok
  unfold maxLen at hlen
  rw [hN] at hlen ⊢
  clear hf hN hok hl
  go_enter Try.func4, Try.ntmps4
  go_wp2_with fail
  refine (I.new 1000000 w iRM).mono ?_
  rintro e w1 ⟨pd, F1, rfl, hA1, hF1, k1⟩
  obtain ⟨pa, rfl⟩ := I.ptr hA1
  go_wp2_with fail
  refine (rA_new 1000000 w w1).mono ?_
  rintro e w2 ⟨v2, rfl, hR2, hv⟩
  have k2 := chain k1 hv
  have hA2 := I.keep hA1 hv
  obtain ⟨p2, n2, c2, q2, m2, e2, rfl⟩ := hR2.form
  clear hv hA1 k1
  have ok0 := StOk.new iRM
  obtain ⟨st0, hst0⟩ : ∃ s, newSt 1000000 = s := ⟨_, rfl⟩
  rw [hst0] at hA2 hR2 ok0 ⊢
  have hr0 : st0.room = 1000000 := by rw [← hst0]; rfl
  have HR0 := Lib.hid hr0
  clear hr0
  clear hst0
  obtain ⟨u2, hu2⟩ : ∃ u, w2.alloc (.cells #[.int .i64 st0.room, .int .i64 st0.fails, .int .i64 st0.wait, .slice p2 n2 c2, .slice q2 m2 e2] 28) = u := ⟨_, rfl⟩
  have kv : Below w2.heap.size w2 u2 := by rw [← hu2]; exact al (Below.refl _ _) _
  have rR : RowAt u2 w2.heap.size #[.int .i64 st0.room, .int .i64 st0.fails, .int .i64 st0.wait, .slice p2 n2 c2, .slice q2 m2 e2] 28 := by rw [← hu2]; exact RowAt.new w2 _ _
  have HU := Lib.hid hu2
  have k3 := chain k2 kv
  have hA3 := I.keep hA2 kv
  have hR3 := hR2.keep kv
  have sz : w.heap.size ≤ w2.heap.size := k2.size
  clear hu2 kv k2 hA2 hR2
  go_wp2_with fail
  rw [HU.out]
  go_loopw [11] (fun i wr => ∃ (j : Nat) (st : St) (F : Foot) (p1 : Option Addr) (n1 c1 : Nat) (q1 : Option Addr) (m1 e1 : Nat), j ≤ N ∧ j ≤ 30 ∧ i = .int .i64 j ∧ Below w.heap.size w wr ∧ I.At wr F (.pointer (some pa)) st ∧ (∀ b, F b → w.heap.size ≤ b) ∧
    RowAt wr w2.heap.size #[.int .i64 st.room, .int .i64 st.fails, .int .i64 st.wait, .slice p1 n1 c1, .slice q1 m1 e1] 28 ∧ DAt w wr (.agg #[.int .i64 st.room, .int .i64 st.fails, .int .i64 st.wait, .slice p1 n1 c1, .slice q1 m1 e1]) st ∧ StOk st j (20 * j) ∧ st.room = 1000000) (fun i _ => N - (intOf i).toNat)
  case atStart => exact ⟨0, st0, F1, p2, n2, c2, q2, m2, e2, by omega, by omega, rfl, k3, hA3, hF1, rR, hR3, ok0, HR0.out⟩
  case round =>
    clear rR k3 hA3 hR3 hF1 ok0
    obtain ⟨j, st, F, p1, n1, c1, q1, m1, e1, hj, hj50, rfl, kw, hA, hF, rR, hR, ok, hroom0⟩ := hrel
    have HROOM := Lib.hid hroom0
    clear hroom0
    by_cases hlt : j < N ∧ j < 30
    · obtain ⟨hlt, h50⟩ := hlt
      obtain ⟨g, off, rfl, hc, hg, hx⟩ := HF.out (by rw [HN.out]; omega)
      rw [HN.out] at hc
      have hjl : j < l.length := by rw [HN.out]; exact hlt
      obtain ⟨x0, x1, x2, x3⟩ := hx j hjl
      obtain ⟨o1, o2, o3, o4, o5, o6⟩ := OK.out j hjl
      obtain ⟨⟨kind, key, num, vb, B⟩, hxe⟩ : ∃ x, l[j] = x := ⟨_, rfl⟩
      rw [hxe] at x0 x1 x2 x3 o1 o2 o3 o4 o5 o6
      simp only [] at x0 x1 x2 x3 o1 o2 o3 o4 o5 o6
      obtain ⟨pb, cb, rfl⟩ := o4.shape
      have ok2 := ok.does kind key num o5
      have hroom2 := (does_room st kind key num B).trans HROOM.out
      have does := fun u (hb : Below w.heap.size w u) (ha : I.At u F (.pointer (some pa)) st) (hr : DAt w u (.agg #[.int .i64 st.room, .int .i64 st.fails, .int .i64 st.wait, .slice p1 n1 c1, .slice q1 m1 e1]) st) => l8_does I w u F _ _ st kind key num _ B j (20 * j) hb ha hr ok (by omega) (by omega) o1 o2 o3 o4 o5 o6
      obtain ⟨D2, hD2⟩ : ∃ D2, doesSt st kind key num B = D2 := ⟨_, rfl⟩
      rw [hD2] at does ok2 hroom2
      obtain ⟨L, hL⟩ : ∃ x, B.length = x := ⟨_, rfl⟩
      rw [hL] at does x3
      have DOES := Lib.hid does
      have y0 := keepc kw hg x0
      have y1 := keepc kw hg x1
      have y2 := keepc kw hg x2
      have y3 := keepc kw hg x3
      have zg : g < wr.heap.size := Nat.lt_of_lt_of_le hg kw.size
      have bj : (j : Int) < N := by omega
      have bj5 : (j : Int) < 30 := by omega
      have HROOM2 := Lib.hid hroom2
      clear hroom2
      clear hx hxe does hL hD2 o4 o5 o6 o1 o2 o3
      have cr : ∀ jj, wr.cell? ⟨w2.heap.size, jj, none⟩ = (#[.int .i64 st.room, .int .i64 st.fails, .int .i64 st.wait, .slice p1 n1 c1, .slice q1 m1 e1] : Array Value)[jj]? := rR.cell
      have fr : ∀ jj, wr.frozen? ⟨w2.heap.size, jj, none⟩ = false := rR.frozen
      have zr : w2.heap.size < wr.heap.size := rR.lt
      go_upto_region 8 with (fail)
      clear cr fr zr
      refine region_planS (fun u => RowAt u w2.heap.size #[.int .i64 st.room, .int .i64 st.fails, .int .i64 st.wait, .slice p1 n1 c1, .slice q1 m1 e1] 28 ∧ u.cell? ⟨g, off + j * 4, none⟩ = some (.int .i64 kind) ∧ u.cell? ⟨g, off + j * 4 + 1, none⟩ = some (.int .i64 key) ∧ u.cell? ⟨g, off + j * 4 + 2, none⟩ = some (.int .i64 num) ∧ u.cell? ⟨g, off + j * 4 + 3, none⟩ = some (.slice pb L cb) ∧ g < u.heap.size) 13 (.calm 0 (.calm 1 (.calm 2 (.calm 3 (.calm 4 (.calm 5 (.two 6 (.calm 7 (.calm 8 (.calm 9 (.one 10 (.one 11 (.calm 12 .done)))))) 10 (.one 6 (.calm 7 (.calm 8 (.calm 9 (.one 11 (.calm 12 .done))))))))))))) (by kernel_rfl) (by kernel_rfl) (by kernel_rfl) rfl (by kernel_rfl) (fun c a d v w h => by cases d <;> exact h) (by exact ⟨rR.keep ((Below.refl _ _).drew), y0, y1, y2, y3, zg⟩) ?_
      intro u3 hu3 hsz3 hS3
      obtain ⟨s0, s1, s2, s3, s4, s5⟩ := hS3
      clear hsz3
      have ka := chain kw hu3
      have hAa := I.keep hA hu3
      have hRa := hR.keep hu3
      clear rR hu3 y0 y1 y2 y3 zg hA hR kw
      repeat (first | (refine' PlanW.skip (by rfl) (by rfl) ?_; simp only [Act.put, List.getElem_toArray, List.getElem_cons_zero, List.getElem_cons_succ, List.setIfInBounds_toArray, List.set_cons_zero, List.set_cons_succ]) | (refine' PlanW.val (by rfl) (by rfl) (fun wr hr => ?_) ?_; rotate_left 1; (focus (obtain ⟨hrw, hr0, hr1, hr2, hr3, hrz⟩ := hr; have hrc := RowAt.cell hrw; have hrf := RowAt.frozen hrw; have hrl := RowAt.lt hrw; (go_simp <;> with_reducible rfl); done)); simp only [Act.put, List.getElem_toArray, List.getElem_cons_zero, List.getElem_cons_succ, List.setIfInBounds_toArray, List.set_cons_zero, List.set_cons_succ]))
      refine PlanW.two (by rfl) (by rfl) ?_ ?_
      · go_wp2_with fail
        refine (DOES.out _ ka hAa hRa).mono ?_
        rintro e w4 ⟨v4, F', rfl, hA4, hR4, st4⟩
        obtain ⟨p3, n3, c3, q3, m3, e3, rfl⟩ := hR4.form
        have k4 := ka.trans (st4.below hF ka.size)
        have low := st4.low hF ka.size
        have rR4 := I.row hAa st4 (.inr (.inl rfl)) s0
        clear st4 hAa hRa s0 s1 s2 s3 s4 s5 ka
        go_wp2_with fail
        refine ⟨.inr ⟨rR4, keepc k4 hg x0, keepc k4 hg x1, keepc k4 hg x2, keepc k4 hg x3, Nat.lt_of_lt_of_le hg k4.size⟩, ?_⟩
        repeat (first | (refine' PlanW.skip (by rfl) (by rfl) ?_; simp only [Act.put, List.getElem_toArray, List.getElem_cons_zero, List.getElem_cons_succ, List.setIfInBounds_toArray, List.set_cons_zero, List.set_cons_succ]) | (refine' PlanW.val (by rfl) (by rfl) (fun wr hr => ?_) ?_; rotate_left 1; (focus (obtain ⟨hrw, hr0, hr1, hr2, hr3, hrz⟩ := hr; have hrc := RowAt.cell hrw; have hrf := RowAt.frozen hrw; have hrl := RowAt.lt hrw; (go_simp <;> with_reducible rfl); done)); simp only [Act.put, List.getElem_toArray, List.getElem_cons_zero, List.getElem_cons_succ, List.setIfInBounds_toArray, List.set_cons_zero, List.set_cons_succ]))
        refine PlanW.one (by rfl) ?_
        go_wp2_with fail
        obtain ⟨u5, hu5⟩ : ∃ u, w4.alloc (.cells #[.int .i64 0, .int .i64 0, .int .i64 0, .slice none 0 0, .slice none 0 0] 28) = u := ⟨_, rfl⟩
        have kv : Below w4.heap.size w4 u5 := by rw [← hu5]; exact al (Below.refl _ _) _
        have rN4 : RowAt u5 w4.heap.size #[.int .i64 0, .int .i64 0, .int .i64 0, .slice none 0 0, .slice none 0 0] 28 := by rw [← hu5]; exact RowAt.new w4 _ _
        rw [hu5]
        have z4 := rR4.lt
        replace k4 := chain k4 kv
        replace rR4 := rR4.keep kv
        replace hA4 := I.keep hA4 kv
        replace hR4 := hR4.keep kv
        clear hu5 kv
        refine ⟨.inr ⟨rR4, keepc k4 hg x0, keepc k4 hg x1, keepc k4 hg x2, keepc k4 hg x3, Nat.lt_of_lt_of_le hg k4.size⟩, PlanW.one (by rfl) ?_⟩
        have cn : ∀ jj, u5.cell? ⟨w4.heap.size, jj, none⟩ = (#[.int .i64 0, .int .i64 0, .int .i64 0, .slice none 0 0, .slice none 0 0] : Array Value)[jj]? := rN4.cell
        have fn : ∀ jj, u5.frozen? ⟨w4.heap.size, jj, none⟩ = false := rN4.frozen
        have zn : w4.heap.size < u5.heap.size := rN4.lt
        go_wp2_with fail
        clear cn fn zn
        have hne : w2.heap.size ≠ w4.heap.size := by omega
        have k6 := below5 k4 (show w.heap.size ≤ w4.heap.size by omega) (.int .i64 D2.room) (.int .i64 D2.fails) (.int .i64 D2.wait) (.slice p3 n3 c3) (.slice q3 m3 e3)
        have hA6 := I.put5 hA4 rN4 (.inr (.inl rfl)) (.int .i64 D2.room) (.int .i64 D2.fails) (.int .i64 D2.wait) (.slice p3 n3 c3) (.slice q3 m3 e3)
        have hR6 := hR4.put5 rN4 (.int .i64 D2.room) (.int .i64 D2.fails) (.int .i64 D2.wait) (.slice p3 n3 c3) (.slice q3 m3 e3)
        have rN6 := row5 rN4 (.int .i64 D2.room) (.int .i64 D2.fails) (.int .i64 D2.wait) (.slice p3 n3 c3) (.slice q3 m3 e3)
        have rR6 := row5_other rR4 hne (.int .i64 D2.room) (.int .i64 D2.fails) (.int .i64 D2.wait) (.slice p3 n3 c3) (.slice q3 m3 e3)
        clear rN4 rR4 hA4 hR4 k4
        simp only [lay5] at hA6 hR6
        generalize (((((u5.setCell ⟨w4.heap.size, 0, none⟩ (.int .i64 D2.room)).setCell ⟨w4.heap.size, 1, none⟩ (.int .i64 D2.fails)).setCell ⟨w4.heap.size, 2, none⟩ (.int .i64 D2.wait)).setCell ⟨w4.heap.size, 3, none⟩ (.slice p3 n3 c3)).setCell ⟨w4.heap.size, 4, none⟩ (.slice q3 m3 e3)) = u6 at *
        refine ⟨.inr ⟨rR6, keepc k6 hg x0, keepc k6 hg x1, keepc k6 hg x2, keepc k6 hg x3, Nat.lt_of_lt_of_le hg k6.size⟩, ?_⟩
        repeat (first | (refine' PlanW.skip (by rfl) (by rfl) ?_; simp only [Act.put, List.getElem_toArray, List.getElem_cons_zero, List.getElem_cons_succ, List.setIfInBounds_toArray, List.set_cons_zero, List.set_cons_succ]) | (refine' PlanW.val (by rfl) (by rfl) (fun wr hr => ?_) ?_; rotate_left 1; (focus (obtain ⟨hrw, hr0, hr1, hr2, hr3, hrz⟩ := hr; have hrc := RowAt.cell hrw; have hrf := RowAt.frozen hrw; have hrl := RowAt.lt hrw; (go_simp <;> with_reducible rfl); done)); simp only [Act.put, List.getElem_toArray, List.getElem_cons_zero, List.getElem_cons_succ, List.setIfInBounds_toArray, List.set_cons_zero, List.set_cons_succ]))
        refine PlanW.done ?_
        have cr : ∀ jj, u6.cell? ⟨w2.heap.size, jj, none⟩ = (#[.int .i64 st.room, .int .i64 st.fails, .int .i64 st.wait, .slice p1 n1 c1, .slice q1 m1 e1] : Array Value)[jj]? := rR6.cell
        have fr : ∀ jj, u6.frozen? ⟨w2.heap.size, jj, none⟩ = false := rR6.frozen
        have zr : w2.heap.size < u6.heap.size := rR6.lt
        have cn : ∀ jj, u6.cell? ⟨w4.heap.size, jj, none⟩ = (#[.int .i64 D2.room, .int .i64 D2.fails, .int .i64 D2.wait, .slice p3 n3 c3, .slice q3 m3 e3] : Array Value)[jj]? := rN6.cell
        have fn : ∀ jj, u6.frozen? ⟨w4.heap.size, jj, none⟩ = false := rN6.frozen
        have zn : w4.heap.size < u6.heap.size := rN6.lt
        go_upto_region 10 with (fail)
        clear cr fr zr cn fn zn
        have k7 := below5 k6 sz (.int .i64 D2.room) (.int .i64 D2.fails) (.int .i64 D2.wait) (.slice p3 n3 c3) (.slice q3 m3 e3)
        have hA7 := I.put5 hA6 rR6 (.inr (.inl rfl)) (.int .i64 D2.room) (.int .i64 D2.fails) (.int .i64 D2.wait) (.slice p3 n3 c3) (.slice q3 m3 e3)
        have hR7 := hR6.put5 rR6 (.int .i64 D2.room) (.int .i64 D2.fails) (.int .i64 D2.wait) (.slice p3 n3 c3) (.slice q3 m3 e3)
        have rR7 := row5 rR6 (.int .i64 D2.room) (.int .i64 D2.fails) (.int .i64 D2.wait) (.slice p3 n3 c3) (.slice q3 m3 e3)
        clear rR6 rN6 hA6 hR6 k6
        simp only [lay5] at hA7 hR7
        generalize (((((u6.setCell ⟨w2.heap.size, 0, none⟩ (.int .i64 D2.room)).setCell ⟨w2.heap.size, 1, none⟩ (.int .i64 D2.fails)).setCell ⟨w2.heap.size, 2, none⟩ (.int .i64 D2.wait)).setCell ⟨w2.heap.size, 3, none⟩ (.slice p3 n3 c3)).setCell ⟨w2.heap.size, 4, none⟩ (.slice q3 m3 e3)) = u7 at *
        have cr : ∀ jj, u7.cell? ⟨w2.heap.size, jj, none⟩ = (#[.int .i64 D2.room, .int .i64 D2.fails, .int .i64 D2.wait, .slice p3 n3 c3, .slice q3 m3 e3] : Array Value)[jj]? := rR7.cell
        have fr : ∀ jj, u7.frozen? ⟨w2.heap.size, jj, none⟩ = false := rR7.frozen
        have zr : w2.heap.size < u7.heap.size := rR7.lt
        go_wp2_with fail
        go_roundw
        case rel => exact ⟨j + 1, D2, F', p3, n3, c3, q3, m3, e3, by omega, by omega, by go_num, k7, hA7, low, rR7, hR7, ok2.mono (Nat.le_refl _) (by omega), HROOM2.out⟩
        case measure => simp [intOf]; omega
      · go_wp2_with fail
        obtain ⟨u5, hu5⟩ : ∃ u, u3.alloc (.cells #[.int .i64 0, .int .i64 0, .int .i64 0, .slice none 0 0, .slice none 0 0] 28) = u := ⟨_, rfl⟩
        have kv : Below u3.heap.size u3 u5 := by rw [← hu5]; exact al (Below.refl _ _) _
        have rN : RowAt u5 u3.heap.size #[.int .i64 0, .int .i64 0, .int .i64 0, .slice none 0 0, .slice none 0 0] 28 := by rw [← hu5]; exact RowAt.new u3 _ _
        rw [hu5]
        have z4 := s0.lt
        have k5 := chain ka kv
        have hA5 := I.keep hAa kv
        have hR5 := hRa.keep kv
        have rR5 := s0.keep kv
        have szu := ka.size
        clear hu5 kv hAa hRa s0 s1 s2 s3 s4 s5 ka
        refine ⟨.inr ⟨rR5, keepc k5 hg x0, keepc k5 hg x1, keepc k5 hg x2, keepc k5 hg x3, Nat.lt_of_lt_of_le hg k5.size⟩, PlanW.one (by rfl) ?_⟩
        go_wp2_with fail
        refine (DOES.out _ k5 hA5 hR5).mono ?_
        rintro e w4 ⟨v4, F', rfl, hA4, hR4, st4⟩
        obtain ⟨p3, n3, c3, q3, m3, e3, rfl⟩ := hR4.form
        have k4 := k5.trans (st4.below hF k5.size)
        have low := st4.low hF k5.size
        have rR4 := I.row hA5 st4 (.inr (.inl rfl)) rR5
        have rN4 := I.row hA5 st4 (.inr (.inl rfl)) rN
        clear st4 hA5 hR5 rR5 rN k5
        go_wp2_with fail
        refine ⟨.inr ⟨rR4, keepc k4 hg x0, keepc k4 hg x1, keepc k4 hg x2, keepc k4 hg x3, Nat.lt_of_lt_of_le hg k4.size⟩, ?_⟩
        repeat (first | (refine' PlanW.skip (by rfl) (by rfl) ?_; simp only [Act.put, List.getElem_toArray, List.getElem_cons_zero, List.getElem_cons_succ, List.setIfInBounds_toArray, List.set_cons_zero, List.set_cons_succ]) | (refine' PlanW.val (by rfl) (by rfl) (fun wr hr => ?_) ?_; rotate_left 1; (focus (obtain ⟨hrw, hr0, hr1, hr2, hr3, hrz⟩ := hr; have hrc := RowAt.cell hrw; have hrf := RowAt.frozen hrw; have hrl := RowAt.lt hrw; (go_simp <;> with_reducible rfl); done)); simp only [Act.put, List.getElem_toArray, List.getElem_cons_zero, List.getElem_cons_succ, List.setIfInBounds_toArray, List.set_cons_zero, List.set_cons_succ]))
        refine PlanW.one (by rfl) ?_
        have cn : ∀ jj, w4.cell? ⟨u3.heap.size, jj, none⟩ = (#[.int .i64 0, .int .i64 0, .int .i64 0, .slice none 0 0, .slice none 0 0] : Array Value)[jj]? := rN4.cell
        have fn : ∀ jj, w4.frozen? ⟨u3.heap.size, jj, none⟩ = false := rN4.frozen
        have zn : u3.heap.size < w4.heap.size := rN4.lt
        go_wp2_with fail
        clear cn fn zn
        have hne : w2.heap.size ≠ u3.heap.size := by omega
        have k6 := below5 k4 (show w.heap.size ≤ u3.heap.size by omega) (.int .i64 D2.room) (.int .i64 D2.fails) (.int .i64 D2.wait) (.slice p3 n3 c3) (.slice q3 m3 e3)
        have hA6 := I.put5 hA4 rN4 (.inr (.inl rfl)) (.int .i64 D2.room) (.int .i64 D2.fails) (.int .i64 D2.wait) (.slice p3 n3 c3) (.slice q3 m3 e3)
        have hR6 := hR4.put5 rN4 (.int .i64 D2.room) (.int .i64 D2.fails) (.int .i64 D2.wait) (.slice p3 n3 c3) (.slice q3 m3 e3)
        have rN6 := row5 rN4 (.int .i64 D2.room) (.int .i64 D2.fails) (.int .i64 D2.wait) (.slice p3 n3 c3) (.slice q3 m3 e3)
        have rR6 := row5_other rR4 hne (.int .i64 D2.room) (.int .i64 D2.fails) (.int .i64 D2.wait) (.slice p3 n3 c3) (.slice q3 m3 e3)
        clear rN4 rR4 hA4 hR4 k4
        simp only [lay5] at hA6 hR6
        generalize (((((w4.setCell ⟨u3.heap.size, 0, none⟩ (.int .i64 D2.room)).setCell ⟨u3.heap.size, 1, none⟩ (.int .i64 D2.fails)).setCell ⟨u3.heap.size, 2, none⟩ (.int .i64 D2.wait)).setCell ⟨u3.heap.size, 3, none⟩ (.slice p3 n3 c3)).setCell ⟨u3.heap.size, 4, none⟩ (.slice q3 m3 e3)) = u6 at *
        refine ⟨.inr ⟨rR6, keepc k6 hg x0, keepc k6 hg x1, keepc k6 hg x2, keepc k6 hg x3, Nat.lt_of_lt_of_le hg k6.size⟩, ?_⟩
        repeat (first | (refine' PlanW.skip (by rfl) (by rfl) ?_; simp only [Act.put, List.getElem_toArray, List.getElem_cons_zero, List.getElem_cons_succ, List.setIfInBounds_toArray, List.set_cons_zero, List.set_cons_succ]) | (refine' PlanW.val (by rfl) (by rfl) (fun wr hr => ?_) ?_; rotate_left 1; (focus (obtain ⟨hrw, hr0, hr1, hr2, hr3, hrz⟩ := hr; have hrc := RowAt.cell hrw; have hrf := RowAt.frozen hrw; have hrl := RowAt.lt hrw; (go_simp <;> with_reducible rfl); done)); simp only [Act.put, List.getElem_toArray, List.getElem_cons_zero, List.getElem_cons_succ, List.setIfInBounds_toArray, List.set_cons_zero, List.set_cons_succ]))
        refine PlanW.done ?_
        have cr : ∀ jj, u6.cell? ⟨w2.heap.size, jj, none⟩ = (#[.int .i64 st.room, .int .i64 st.fails, .int .i64 st.wait, .slice p1 n1 c1, .slice q1 m1 e1] : Array Value)[jj]? := rR6.cell
        have fr : ∀ jj, u6.frozen? ⟨w2.heap.size, jj, none⟩ = false := rR6.frozen
        have zr : w2.heap.size < u6.heap.size := rR6.lt
        have cn : ∀ jj, u6.cell? ⟨u3.heap.size, jj, none⟩ = (#[.int .i64 D2.room, .int .i64 D2.fails, .int .i64 D2.wait, .slice p3 n3 c3, .slice q3 m3 e3] : Array Value)[jj]? := rN6.cell
        have fn : ∀ jj, u6.frozen? ⟨u3.heap.size, jj, none⟩ = false := rN6.frozen
        have zn : u3.heap.size < u6.heap.size := rN6.lt
        go_upto_region 10 with (fail)
        clear cr fr zr cn fn zn
        have k7 := below5 k6 sz (.int .i64 D2.room) (.int .i64 D2.fails) (.int .i64 D2.wait) (.slice p3 n3 c3) (.slice q3 m3 e3)
        have hA7 := I.put5 hA6 rR6 (.inr (.inl rfl)) (.int .i64 D2.room) (.int .i64 D2.fails) (.int .i64 D2.wait) (.slice p3 n3 c3) (.slice q3 m3 e3)
        have hR7 := hR6.put5 rR6 (.int .i64 D2.room) (.int .i64 D2.fails) (.int .i64 D2.wait) (.slice p3 n3 c3) (.slice q3 m3 e3)
        have rR7 := row5 rR6 (.int .i64 D2.room) (.int .i64 D2.fails) (.int .i64 D2.wait) (.slice p3 n3 c3) (.slice q3 m3 e3)
        clear rR6 rN6 hA6 hR6 k6
        simp only [lay5] at hA7 hR7
        generalize (((((u6.setCell ⟨w2.heap.size, 0, none⟩ (.int .i64 D2.room)).setCell ⟨w2.heap.size, 1, none⟩ (.int .i64 D2.fails)).setCell ⟨w2.heap.size, 2, none⟩ (.int .i64 D2.wait)).setCell ⟨w2.heap.size, 3, none⟩ (.slice p3 n3 c3)).setCell ⟨w2.heap.size, 4, none⟩ (.slice q3 m3 e3)) = u7 at *
        have cr : ∀ jj, u7.cell? ⟨w2.heap.size, jj, none⟩ = (#[.int .i64 D2.room, .int .i64 D2.fails, .int .i64 D2.wait, .slice p3 n3 c3, .slice q3 m3 e3] : Array Value)[jj]? := rR7.cell
        have fr : ∀ jj, u7.frozen? ⟨w2.heap.size, jj, none⟩ = false := rR7.frozen
        have zr : w2.heap.size < u7.heap.size := rR7.lt
        go_wp2_with fail
        go_roundw
        case rel => exact ⟨j + 1, D2, F', p3, n3, c3, q3, m3, e3, by omega, by omega, by go_num, k7, hA7, low, rR7, hR7, ok2.mono (Nat.le_refl _) (by omega), HROOM2.out⟩
        case measure => simp [intOf]; omega
    · have gen : (j < N ∧ ¬ j < 30) ∨ ¬ j < N := by omega
      clear rR hR
      have ok' := ok.mono (show j ≤ 30 by omega) (show 20 * j ≤ 600 by omega)
      have few := fun u (hu : BytsAt u (.slice pB nB cB) B0) => r8_few (.slice pB nB cB) B0 20 u hu LB0.out (by omega)
      have few2 := fun u (hu : BytsAt u (.slice pO nO cO) O0) => r8_few (.slice pO nO cO) O0 20 u hu LO0.out (by omega)
      have hb1 := byts_cut HB0.out (Nat.min_le_left B0.length 20)
      have ho1 := byts_cut HO0.out (Nat.min_le_left O0.length 20)
      obtain ⟨B, hB⟩ : ∃ B, B0.take (min B0.length 20) = B := ⟨_, rfl⟩
      obtain ⟨O, hO⟩ : ∃ O, O0.take (min O0.length 20) = O := ⟨_, rfl⟩
      have oB : bytOk B := by rw [← hB]; exact OB0.out.take _
      have oO : bytOk O := by rw [← hO]; exact OO0.out.take _
      have lB : B.length = min B0.length 20 := by rw [← hB, List.length_take]; omega
      have lO : O.length = min O0.length 20 := by rw [← hO, List.length_take]; omega
      rw [hB] at hb1
      rw [hO] at ho1
      obtain ⟨mB, hmB⟩ : ∃ n, min B0.length 20 = n := ⟨_, rfl⟩
      obtain ⟨mO, hmO⟩ : ∃ n, min O0.length 20 = n := ⟨_, rfl⟩
      rw [hmB] at lB hb1 few
      rw [hmO] at lO ho1 few2
      have bB : mB ≤ 20 := by omega
      have bO : mO ≤ 20 := by omega
      obtain ⟨d1, d2, d3, d4, h1, h2, h3, h4, h5, h6, h7, h8, h9, h10⟩ := safe_states ok' HROOM.out (B := B) (O := O) (by omega) (by omega) K akp.1
      have okd1 := ok'.fail 0 (by decide)
      rw [h1] at okd1
      have okd2 := okd1.put (k := 100) ⟨by decide, by decide⟩ oB
      rw [h2] at okd2
      have okd3 := okd2.sync
      rw [h3] at okd3
      have okd4 := okd3.put (k := 101) ⟨by decide, by decide⟩ oO
      rw [h5] at okd4
      have okd5 := okd4.crash K
      obtain ⟨d5, hd5⟩ : ∃ d, (crashSt d4 K).1 = d := ⟨_, rfl⟩
      rw [hd5] at h8 h9 h10 okd5
      rw [lO] at h6 h7 h9
      rw [lB] at okd2 okd3 okd4 okd5
      rw [lO] at okd4 okd5
      simp only [] at okd2 okd3 okd4
      have iK : i64 K := by constructor <;> omega
      obtain ⟨T, hT⟩ : ∃ T, min K.toNat mO = T := ⟨_, rfl⟩
      rw [hT] at h7 h9
      have hmin : min K (mO : Int) = T := by omega
      have bT : T ≤ mO := by omega
      have lT : (O.take T).length = T := by rw [List.length_take]; omega
      have FAIL := Lib.hid (fun u (F : Foot) (hu : I.At u F (.pointer pa) st) => I.fail u F _ st 0 hu ⟨by decide, by decide⟩)
      have PUT1 := Lib.hid (fun u (F : Foot) vb (hu : I.At u F (.pointer pa) d1) (hb : BytsAt u vb B) => I.put u F _ d1 100 vb B 30 600 hu okd1 (by omega) (by omega) ⟨by decide, by decide⟩ hb oB (by omega))
      have SYNC := Lib.hid (fun u (F : Foot) (hu : I.At u F (.pointer pa) d2) => I.sync u F _ d2 _ _ hu okd2 (by omega) (by omega))
      have LEFT3 := Lib.hid (fun u (F : Foot) (hu : I.At u F (.pointer pa) d3) => I.left u F _ d3 _ _ hu okd3 (by omega) (by omega))
      have PUT2 := Lib.hid (fun u (F : Foot) vb (hu : I.At u F (.pointer pa) d3) (hb : BytsAt u vb O) => I.put u F _ d3 101 vb O _ _ hu okd3 (by omega) (by omega) ⟨by decide, by decide⟩ hb oO (by omega))
      have LEFT4 := Lib.hid (fun u (F : Foot) (hu : I.At u F (.pointer pa) d4) => I.left u F _ d4 _ _ hu okd4 (by omega) (by omega))
      have CRASH := Lib.hid (fun u (F : Foot) (hu : I.At u F (.pointer pa) d4) => I.crash u F _ d4 K _ _ hu okd4 (by omega) (by omega) iK)
      have GET1 := Lib.hid (fun u (F : Foot) (hu : I.At u F (.pointer pa) d5) => I.get u F _ d5 100 _ _ hu okd5 (by omega) (by omega) ⟨by decide, by decide⟩)
      have GET2 := Lib.hid (fun u (F : Foot) (hu : I.At u F (.pointer pa) d5) => I.get u F _ d5 101 _ _ hu okd5 (by omega) (by omega) ⟨by decide, by decide⟩)
      have LEFT5 := Lib.hid (fun u (F : Foot) (hu : I.At u F (.pointer pa) d5) => I.left u F _ d5 _ _ hu okd5 (by omega) (by omega))
      rw [h1] at FAIL
      rw [h2] at PUT1
      rw [h3] at SYNC
      rw [h4] at LEFT3
      rw [h5] at PUT2
      rw [h6] at LEFT4
      rw [h7, hd5] at CRASH
      rw [h8] at GET1
      rw [h9] at GET2
      rw [h10] at LEFT5
      have bC : (T : Int) ≤ (cO : Int) := by
        obtain ⟨p', c', e, hcc⟩ := ho1.form
        simp only [slCut, Value.slice.injEq] at e
        obtain ⟨_, e2, rfl⟩ := e
        rcases Nat.eq_zero_or_pos O.length with hz | hz
        · omega
        · obtain ⟨_, _, _, h, _⟩ := hcc hz
          omega
      have FEW := Lib.hid few
      have FEW2 := Lib.hid few2
      have HB1 := Lib.hid hb1
      have HO1 := Lib.hid ho1
      have OB := Lib.hid oB
      have OO := Lib.hid oO
      have LT := Lib.hid lT
      have LO := Lib.hid lO
      simp only [] at PUT1 SYNC PUT2 GET1 GET2
      clear few few2 hb1 ho1 hB hO oB oO lB lO hmB hmO h1 h2 h3 h4 h5 h6 h7 h8 h9 h10 okd1 okd2 okd3 okd4 okd5 ok ok' hd5 hT lT
      have wT : IntKind.i64.wrap ((mO : Int) - (T : Int)) = (mO : Int) - T := IntWalk.i64_in _ (by omega)
      rcases gen with ⟨g1, g2⟩ | g1
      all_goals
        go_wp2_with fail
        refine (FEW.out _ (HB0.out.keep kw)).mono ?_
        rintro e v1 ⟨rfl, hv⟩
        replace hA := I.keep hA hv
        replace kw := chain kw hv
        clear hv
        go_wp2_with fail
        refine (FEW2.out _ (HO0.out.keep kw)).mono ?_
        rintro e v2 ⟨rfl, hv⟩
        replace hA := I.keep hA hv
        replace kw := chain kw hv
        clear hv
        simp only [slCut]
        go_wp2_with fail
        refine (FAIL.out _ _ hA).mono ?_
        rintro e v3 ⟨G1, rv, rfl, hA1, hs1⟩
        have low1 := hs1.low hF kw.size
        replace kw := kw.trans (hs1.below hF kw.size)
        clear hs1 hA hF
        go_wp2_with fail
        refine (PUT1.out _ _ _ hA1 (HB1.out.keep kw)).mono ?_
        rintro e v4 ⟨G2, rfl, hA2, hs2⟩
        have low2 := hs2.low low1 kw.size
        replace kw := kw.trans (hs2.below low1 kw.size)
        clear hs2 hA1 low1
        go_wp2_with fail
        refine (SYNC.out _ _ hA2).mono ?_
        rintro e v5 ⟨G3, rfl, hA3, hs3⟩
        have low3 := hs3.low low2 kw.size
        replace kw := kw.trans (hs3.below low2 kw.size)
        clear hs3 hA2 low2
        go_wp2_with fail
        refine (LEFT3.out _ _ hA3).mono ?_
        rintro e v6 ⟨rfl, hv⟩
        replace hA3 := I.keep hA3 hv
        replace kw := chain kw hv
        clear hv
        go_wp2_with fail
        refine (PUT2.out _ _ _ hA3 (HO1.out.keep kw)).mono ?_
        rintro e v7 ⟨G4, rfl, hA4, hs4⟩
        have low4 := hs4.low low3 kw.size
        replace kw := kw.trans (hs4.below low3 kw.size)
        clear hs4 hA3 low3
        go_wp2_with fail
        refine (LEFT4.out _ _ hA4).mono ?_
        rintro e v8 ⟨rfl, hv⟩
        replace hA4 := I.keep hA4 hv
        replace kw := chain kw hv
        clear hv
        go_wp2_with (go_at_call 9; refine (AK.out _).mono ?_; rintro e w' ⟨rfl, rfl⟩)
        refine (CRASH.out _ _ hA4).mono ?_
        rintro e v9 ⟨G5, rfl, hA5, hs5⟩
        have low5 := hs5.low low4 kw.size
        replace kw := kw.trans (hs5.below low4 kw.size)
        clear hs5 hA4 low4
        go_wp2_with fail
        refine (GET1.out _ _ hA5).mono ?_
        rintro e v10 ⟨x1, rfl, hx1, hv⟩
        replace hA5 := I.keep hA5 hv
        replace kw := chain kw hv
        clear hv
        go_wp2_with fail
        refine (GET2.out _ _ hA5).mono ?_
        rintro e v11 ⟨x2, rfl, hx2, hv⟩
        replace hA5 := I.keep hA5 hv
        replace kw := chain kw hv
        replace hx1 := hx1.keep hv
        clear hv
        obtain ⟨p4, c4, rfl⟩ := hx2.shape
        rw [LT.out] at hx2
        simp only [LT.out]
        go_wp2_with fail
        refine (r6_same _ _ B B _ hx1 (HB1.out.keep kw) OB.out OB.out).mono ?_
        rintro e v12 ⟨rfl, hv⟩
        replace hA5 := I.keep hA5 hv
        replace kw := chain kw hv
        replace hx2 := hx2.keep hv
        clear hv hx1
        go_wp2_with fail
        refine (r6_same _ _ (O.take T) (O.take T) _ hx2 (BytsAt.take (HO1.out.keep kw) bT) (OO.out.take T) (OO.out.take T)).mono ?_
        rintro e v13 ⟨rfl, hv⟩
        replace hA5 := I.keep hA5 hv
        replace kw := chain kw hv
        clear hv hx2
        go_wp2_with fail
        refine (LEFT5.out _ _ hA5).mono ?_
        rintro e v14 ⟨rfl, hv⟩
        replace kw := chain kw hv
        clear hv hA5
        go_wp2_with fail
        refine (l8_lives I _).mono ?_
        rintro e v15 ⟨rfl, hv⟩
        go_wp2
        go_ret
        exact ⟨rfl, chain kw hv⟩
end Go.Proofs.Ytkephcmjigfepaa
