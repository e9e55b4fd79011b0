/- DiskPlays, over what is asked of the disk. Written by gen_p08.py. -/
import Derived.Test.YtkephcmjigfepaaN08
import Derived.Test.YtkephcmjigfepaaO80
set_option linter.unusedVariables false
set_option linter.unusedSimpArgs false
namespace Go.Proofs.Ytkephcmjigfepaa
open Go.ChangeShapes Go.WideShapes Go.ChangeAt Go.RowKit
theorem DeedsAt.form {w : World} {v : Value} {l : List Deed8} (h : DeedsAt w v l) : ∃ p cap, v = .slice p l.length cap ∧ (0 < l.length → ∃ g off, p = some ⟨g, off, none⟩ ∧ l.length ≤ cap ∧ g < w.heap.size ∧
    ∀ j (h : j < l.length), w.cell? ⟨g, off + j * 4, none⟩ = some (.int .i64 l[j].kind) ∧ w.cell? ⟨g, off + j * 4 + 1, none⟩ = some (.int .i64 l[j].key) ∧ w.cell? ⟨g, off + j * 4 + 2, none⟩ = some (.int .i64 l[j].num) ∧ w.cell? ⟨g, off + j * 4 + 3, none⟩ = some l[j].vb) := by
  rcases h with ⟨⟨p, cap, rfl⟩, rfl⟩ | ⟨g, off, cap, e, hc, hg, hx⟩
  · exact ⟨p, cap, rfl, fun h => absurd h (by simp)⟩
  · exact ⟨some ⟨g, off, none⟩, cap, e, fun _ => ⟨g, off, rfl, hc, hg, hx⟩⟩
set_option maxHeartbeats 16000000 in
theorem diskPlays_core (I : DiskI) (w : World) (room : Int) (hroom : i64 room) (v : Value) (hd : DeedsIn w v) : Calls Try.prog 3 #[.int .i64 room, v] w fun e w' => e = .returned (.bool true) ∧ Below w.heap.size w w' := by
  obtain ⟨l, hl, hok, hlen⟩ := hd
  obtain ⟨p, cap, rfl, hf⟩ := hl.form
  obtain ⟨N, hN⟩ : ∃ N, l.length = N := ⟨_, rfl⟩
  have ar := around_bd room 81 (by omega)
  have an := fun u => r_around room 81 hroom.1 hroom.2 (by omega) (by omega) u
  obtain ⟨Z, hZ⟩ : ∃ Z, aroundF room 81 = Z := ⟨_, rfl⟩
  rw [hZ] at ar an
  obtain ⟨RM, hRM⟩ : ∃ R, min room Z = R := ⟨_, rfl⟩
  obtain ⟨hr0, hr1⟩ := hroom
  have iRM : i64 RM := by constructor <;> omega
  have AN := Lib.hid an
  have HF := Lib.hid hf
  have HN := Lib.hid hN
  have OK := Lib.hid hok
  unfold maxLen at hlen
  rw [hN] at hlen ⊢
  clear hZ an hf hN hok hl
  go_enter Try.func3, Try.ntmps3
  go_wp2_with (go_at_call 9; refine (AN.out _).mono ?_; rintro e w' ⟨rfl, rfl⟩)
  refine (I.new RM w iRM).mono ?_
  rintro e w1 ⟨pd, F1, rfl, hA1, hF1, k1⟩
  obtain ⟨pa, rfl⟩ := I.ptr hA1
  go_wp2_with fail
  refine (rA_new RM w w1).mono ?_
  rintro e w2 ⟨v2, rfl, hR2, hv⟩
  have k2 := chain k1 hv
  have hA2 := I.keep hA1 hv
  obtain ⟨p2, n2, c2, q2, m2, e2, rfl⟩ := hR2.form
  clear hv hA1 k1
  have ok0 := StOk.new iRM
  obtain ⟨st0, hst0⟩ : ∃ s, newSt RM = s := ⟨_, rfl⟩
  rw [hst0] at hA2 hR2 ok0 ⊢
  clear hst0 hRM
  obtain ⟨u2, hu2⟩ : ∃ u, w2.alloc (.cells #[.int .i64 st0.room, .int .i64 st0.fails, .int .i64 st0.wait, .slice p2 n2 c2, .slice q2 m2 e2] 28) = u := ⟨_, rfl⟩
  have kv : Below w2.heap.size w2 u2 := by rw [← hu2]; exact al (Below.refl _ _) _
  have rR : RowAt u2 w2.heap.size #[.int .i64 st0.room, .int .i64 st0.fails, .int .i64 st0.wait, .slice p2 n2 c2, .slice q2 m2 e2] 28 := by rw [← hu2]; exact RowAt.new w2 _ _
  have HU := Lib.hid hu2
  have k3 := chain k2 kv
  have hA3 := I.keep hA2 kv
  have hR3 := hR2.keep kv
  have sz : w.heap.size ≤ w2.heap.size := k2.size
  clear hu2 kv k2 hA2 hR2
  go_wp2_with fail
  rw [HU.out]
  go_loopw [7] (fun i wr => ∃ (j : Nat) (st : St) (F : Foot) (p1 : Option Addr) (n1 c1 : Nat) (q1 : Option Addr) (m1 e1 : Nat), j ≤ N ∧ j ≤ 50 ∧ i = .int .i64 j ∧ Below w.heap.size w wr ∧ I.At wr F (.pointer (some pa)) st ∧ (∀ b, F b → w.heap.size ≤ b) ∧
    RowAt wr w2.heap.size #[.int .i64 st.room, .int .i64 st.fails, .int .i64 st.wait, .slice p1 n1 c1, .slice q1 m1 e1] 28 ∧ DAt w wr (.agg #[.int .i64 st.room, .int .i64 st.fails, .int .i64 st.wait, .slice p1 n1 c1, .slice q1 m1 e1]) st ∧ StOk st j (20 * j)) (fun i _ => N - (intOf i).toNat)
  case atStart => exact ⟨0, st0, F1, p2, n2, c2, q2, m2, e2, by omega, by omega, rfl, k3, hA3, hF1, rR, hR3, ok0⟩
  case round =>
    clear rR k3 hA3 hR3 hF1 ok0
    obtain ⟨j, st, F, p1, n1, c1, q1, m1, e1, hj, hj50, rfl, kw, hA, hF, rR, hR, ok⟩ := hrel
    by_cases hlt : j < N ∧ j < 50
    · obtain ⟨hlt, h50⟩ := hlt
      obtain ⟨g, off, rfl, hc, hg, hx⟩ := HF.out (by rw [HN.out]; omega)
      rw [HN.out] at hc
      have hjl : j < l.length := by rw [HN.out]; exact hlt
      obtain ⟨x0, x1, x2, x3⟩ := hx j hjl
      obtain ⟨o1, o2, o3, o4, o5, o6⟩ := OK.out j hjl
      obtain ⟨⟨kind, key, num, vb, B⟩, hxe⟩ : ∃ x, l[j] = x := ⟨_, rfl⟩
      rw [hxe] at x0 x1 x2 x3 o1 o2 o3 o4 o5 o6
      simp only [] at x0 x1 x2 x3 o1 o2 o3 o4 o5 o6
      obtain ⟨pb, cb, rfl⟩ := o4.shape
      have ok2 := ok.does kind key num o5
      have does := fun u (hb : Below w.heap.size w u) (ha : I.At u F (.pointer (some pa)) st) (hr : DAt w u (.agg #[.int .i64 st.room, .int .i64 st.fails, .int .i64 st.wait, .slice p1 n1 c1, .slice q1 m1 e1]) st) => l8_does I w u F _ _ st kind key num _ B j (20 * j) hb ha hr ok (by omega) (by omega) o1 o2 o3 o4 o5 o6
      obtain ⟨D2, hD2⟩ : ∃ D2, doesSt st kind key num B = D2 := ⟨_, rfl⟩
      rw [hD2] at does ok2
      obtain ⟨L, hL⟩ : ∃ x, B.length = x := ⟨_, rfl⟩
      rw [hL] at does x3
      have DOES := Lib.hid does
      have y0 := keepc kw hg x0
      have y1 := keepc kw hg x1
      have y2 := keepc kw hg x2
      have y3 := keepc kw hg x3
      have zg : g < wr.heap.size := Nat.lt_of_lt_of_le hg kw.size
      have bj : (j : Int) < N := by omega
      have bj5 : (j : Int) < 50 := by omega
      clear hx hxe does hL hD2 o4 o5 o6 o1 o2 o3
      have cr : ∀ jj, wr.cell? ⟨w2.heap.size, jj, none⟩ = (#[.int .i64 st.room, .int .i64 st.fails, .int .i64 st.wait, .slice p1 n1 c1, .slice q1 m1 e1] : Array Value)[jj]? := rR.cell
      have fr : ∀ jj, wr.frozen? ⟨w2.heap.size, jj, none⟩ = false := rR.frozen
      have zr : w2.heap.size < wr.heap.size := rR.lt
      go_upto_region 9 with (fail)
      clear cr fr zr
      refine region_planS (fun u => RowAt u w2.heap.size #[.int .i64 st.room, .int .i64 st.fails, .int .i64 st.wait, .slice p1 n1 c1, .slice q1 m1 e1] 28 ∧ u.cell? ⟨g, off + j * 4, none⟩ = some (.int .i64 kind) ∧ u.cell? ⟨g, off + j * 4 + 1, none⟩ = some (.int .i64 key) ∧ u.cell? ⟨g, off + j * 4 + 2, none⟩ = some (.int .i64 num) ∧ u.cell? ⟨g, off + j * 4 + 3, none⟩ = some (.slice pb L cb) ∧ g < u.heap.size) 13 (.calm 0 (.calm 1 (.calm 2 (.calm 3 (.calm 4 (.calm 5 (.two 6 (.calm 7 (.calm 8 (.calm 9 (.one 10 (.one 11 (.calm 12 .done)))))) 10 (.one 6 (.calm 7 (.calm 8 (.calm 9 (.one 11 (.calm 12 .done))))))))))))) (by kernel_rfl) (by kernel_rfl) (by kernel_rfl) rfl (by kernel_rfl) (fun c a d v w h => by cases d <;> exact h) (by exact ⟨rR.keep ((Below.refl _ _).drew), y0, y1, y2, y3, zg⟩) ?_
      intro u3 hu3 hsz3 hS3
      obtain ⟨s0, s1, s2, s3, s4, s5⟩ := hS3
      clear hsz3
      have ka := chain kw hu3
      have hAa := I.keep hA hu3
      have hRa := hR.keep hu3
      clear rR hu3 y0 y1 y2 y3 zg hA hR kw
      repeat (first | (refine' PlanW.skip (by rfl) (by rfl) ?_; simp only [Act.put, List.getElem_toArray, List.getElem_cons_zero, List.getElem_cons_succ, List.setIfInBounds_toArray, List.set_cons_zero, List.set_cons_succ]) | (refine' PlanW.val (by rfl) (by rfl) (fun wr hr => ?_) ?_; rotate_left 1; (focus (obtain ⟨hrw, hr0, hr1, hr2, hr3, hrz⟩ := hr; have hrc := RowAt.cell hrw; have hrf := RowAt.frozen hrw; have hrl := RowAt.lt hrw; (go_simp <;> with_reducible rfl); done)); simp only [Act.put, List.getElem_toArray, List.getElem_cons_zero, List.getElem_cons_succ, List.setIfInBounds_toArray, List.set_cons_zero, List.set_cons_succ]))
      refine PlanW.two (by rfl) (by rfl) ?_ ?_
      · go_wp2_with fail
        refine (DOES.out _ ka hAa hRa).mono ?_
        rintro e w4 ⟨v4, F', rfl, hA4, hR4, st4⟩
        obtain ⟨p3, n3, c3, q3, m3, e3, rfl⟩ := hR4.form
        have k4 := ka.trans (st4.below hF ka.size)
        have low := st4.low hF ka.size
        have rR4 := I.row hAa st4 (.inr (.inl rfl)) s0
        clear st4 hAa hRa s0 s1 s2 s3 s4 s5 ka
        go_wp2_with fail
        refine ⟨.inr ⟨rR4, keepc k4 hg x0, keepc k4 hg x1, keepc k4 hg x2, keepc k4 hg x3, Nat.lt_of_lt_of_le hg k4.size⟩, ?_⟩
        repeat (first | (refine' PlanW.skip (by rfl) (by rfl) ?_; simp only [Act.put, List.getElem_toArray, List.getElem_cons_zero, List.getElem_cons_succ, List.setIfInBounds_toArray, List.set_cons_zero, List.set_cons_succ]) | (refine' PlanW.val (by rfl) (by rfl) (fun wr hr => ?_) ?_; rotate_left 1; (focus (obtain ⟨hrw, hr0, hr1, hr2, hr3, hrz⟩ := hr; have hrc := RowAt.cell hrw; have hrf := RowAt.frozen hrw; have hrl := RowAt.lt hrw; (go_simp <;> with_reducible rfl); done)); simp only [Act.put, List.getElem_toArray, List.getElem_cons_zero, List.getElem_cons_succ, List.setIfInBounds_toArray, List.set_cons_zero, List.set_cons_succ]))
        refine PlanW.one (by rfl) ?_
        go_wp2_with fail
        obtain ⟨u5, hu5⟩ : ∃ u, w4.alloc (.cells #[.int .i64 0, .int .i64 0, .int .i64 0, .slice none 0 0, .slice none 0 0] 28) = u := ⟨_, rfl⟩
        have kv : Below w4.heap.size w4 u5 := by rw [← hu5]; exact al (Below.refl _ _) _
        have rN4 : RowAt u5 w4.heap.size #[.int .i64 0, .int .i64 0, .int .i64 0, .slice none 0 0, .slice none 0 0] 28 := by rw [← hu5]; exact RowAt.new w4 _ _
        rw [hu5]
        have z4 := rR4.lt
        replace k4 := chain k4 kv
        replace rR4 := rR4.keep kv
        replace hA4 := I.keep hA4 kv
        replace hR4 := hR4.keep kv
        clear hu5 kv
        refine ⟨.inr ⟨rR4, keepc k4 hg x0, keepc k4 hg x1, keepc k4 hg x2, keepc k4 hg x3, Nat.lt_of_lt_of_le hg k4.size⟩, PlanW.one (by rfl) ?_⟩
        have cn : ∀ jj, u5.cell? ⟨w4.heap.size, jj, none⟩ = (#[.int .i64 0, .int .i64 0, .int .i64 0, .slice none 0 0, .slice none 0 0] : Array Value)[jj]? := rN4.cell
        have fn : ∀ jj, u5.frozen? ⟨w4.heap.size, jj, none⟩ = false := rN4.frozen
        have zn : w4.heap.size < u5.heap.size := rN4.lt
        go_wp2_with fail
        clear cn fn zn
        have hne : w2.heap.size ≠ w4.heap.size := by omega
        have k6 := below5 k4 (show w.heap.size ≤ w4.heap.size by omega) (.int .i64 D2.room) (.int .i64 D2.fails) (.int .i64 D2.wait) (.slice p3 n3 c3) (.slice q3 m3 e3)
        have hA6 := I.put5 hA4 rN4 (.inr (.inl rfl)) (.int .i64 D2.room) (.int .i64 D2.fails) (.int .i64 D2.wait) (.slice p3 n3 c3) (.slice q3 m3 e3)
        have hR6 := hR4.put5 rN4 (.int .i64 D2.room) (.int .i64 D2.fails) (.int .i64 D2.wait) (.slice p3 n3 c3) (.slice q3 m3 e3)
        have rN6 := row5 rN4 (.int .i64 D2.room) (.int .i64 D2.fails) (.int .i64 D2.wait) (.slice p3 n3 c3) (.slice q3 m3 e3)
        have rR6 := row5_other rR4 hne (.int .i64 D2.room) (.int .i64 D2.fails) (.int .i64 D2.wait) (.slice p3 n3 c3) (.slice q3 m3 e3)
        clear rN4 rR4 hA4 hR4 k4
        simp only [lay5] at hA6 hR6
        generalize (((((u5.setCell ⟨w4.heap.size, 0, none⟩ (.int .i64 D2.room)).setCell ⟨w4.heap.size, 1, none⟩ (.int .i64 D2.fails)).setCell ⟨w4.heap.size, 2, none⟩ (.int .i64 D2.wait)).setCell ⟨w4.heap.size, 3, none⟩ (.slice p3 n3 c3)).setCell ⟨w4.heap.size, 4, none⟩ (.slice q3 m3 e3)) = u6 at *
        refine ⟨.inr ⟨rR6, keepc k6 hg x0, keepc k6 hg x1, keepc k6 hg x2, keepc k6 hg x3, Nat.lt_of_lt_of_le hg k6.size⟩, ?_⟩
        repeat (first | (refine' PlanW.skip (by rfl) (by rfl) ?_; simp only [Act.put, List.getElem_toArray, List.getElem_cons_zero, List.getElem_cons_succ, List.setIfInBounds_toArray, List.set_cons_zero, List.set_cons_succ]) | (refine' PlanW.val (by rfl) (by rfl) (fun wr hr => ?_) ?_; rotate_left 1; (focus (obtain ⟨hrw, hr0, hr1, hr2, hr3, hrz⟩ := hr; have hrc := RowAt.cell hrw; have hrf := RowAt.frozen hrw; have hrl := RowAt.lt hrw; (go_simp <;> with_reducible rfl); done)); simp only [Act.put, List.getElem_toArray, List.getElem_cons_zero, List.getElem_cons_succ, List.setIfInBounds_toArray, List.set_cons_zero, List.set_cons_succ]))
        refine PlanW.done ?_
        have cr : ∀ jj, u6.cell? ⟨w2.heap.size, jj, none⟩ = (#[.int .i64 st.room, .int .i64 st.fails, .int .i64 st.wait, .slice p1 n1 c1, .slice q1 m1 e1] : Array Value)[jj]? := rR6.cell
        have fr : ∀ jj, u6.frozen? ⟨w2.heap.size, jj, none⟩ = false := rR6.frozen
        have zr : w2.heap.size < u6.heap.size := rR6.lt
        have cn : ∀ jj, u6.cell? ⟨w4.heap.size, jj, none⟩ = (#[.int .i64 D2.room, .int .i64 D2.fails, .int .i64 D2.wait, .slice p3 n3 c3, .slice q3 m3 e3] : Array Value)[jj]? := rN6.cell
        have fn : ∀ jj, u6.frozen? ⟨w4.heap.size, jj, none⟩ = false := rN6.frozen
        have zn : w4.heap.size < u6.heap.size := rN6.lt
        go_upto_region 11 with (fail)
        clear cr fr zr cn fn zn
        have k7 := below5 k6 sz (.int .i64 D2.room) (.int .i64 D2.fails) (.int .i64 D2.wait) (.slice p3 n3 c3) (.slice q3 m3 e3)
        have hA7 := I.put5 hA6 rR6 (.inr (.inl rfl)) (.int .i64 D2.room) (.int .i64 D2.fails) (.int .i64 D2.wait) (.slice p3 n3 c3) (.slice q3 m3 e3)
        have hR7 := hR6.put5 rR6 (.int .i64 D2.room) (.int .i64 D2.fails) (.int .i64 D2.wait) (.slice p3 n3 c3) (.slice q3 m3 e3)
        have rR7 := row5 rR6 (.int .i64 D2.room) (.int .i64 D2.fails) (.int .i64 D2.wait) (.slice p3 n3 c3) (.slice q3 m3 e3)
        clear rR6 rN6 hA6 hR6 k6
        simp only [lay5] at hA7 hR7
        generalize (((((u6.setCell ⟨w2.heap.size, 0, none⟩ (.int .i64 D2.room)).setCell ⟨w2.heap.size, 1, none⟩ (.int .i64 D2.fails)).setCell ⟨w2.heap.size, 2, none⟩ (.int .i64 D2.wait)).setCell ⟨w2.heap.size, 3, none⟩ (.slice p3 n3 c3)).setCell ⟨w2.heap.size, 4, none⟩ (.slice q3 m3 e3)) = u7 at *
        have cr : ∀ jj, u7.cell? ⟨w2.heap.size, jj, none⟩ = (#[.int .i64 D2.room, .int .i64 D2.fails, .int .i64 D2.wait, .slice p3 n3 c3, .slice q3 m3 e3] : Array Value)[jj]? := rR7.cell
        have fr : ∀ jj, u7.frozen? ⟨w2.heap.size, jj, none⟩ = false := rR7.frozen
        have zr : w2.heap.size < u7.heap.size := rR7.lt
        go_wp2_with fail
        refine (l8_like I w u7 F' _ _ D2 (j + 1) (20 * j + 20) k7 hA7 hR7 ok2 (by omega) (by omega)).mono ?_
        rintro e w8 ⟨rfl, hv8⟩
        clear cr fr zr
        go_wp2_with fail
        go_roundw
        case rel => exact ⟨j + 1, D2, F', p3, n3, c3, q3, m3, e3, by omega, by omega, by go_num, chain k7 hv8, I.keep hA7 hv8, low, rR7.keep hv8, hR7.keep hv8, ok2.mono (Nat.le_refl _) (by omega)⟩
        case measure => simp [intOf]; omega
      · go_wp2_with fail
        obtain ⟨u5, hu5⟩ : ∃ u, u3.alloc (.cells #[.int .i64 0, .int .i64 0, .int .i64 0, .slice none 0 0, .slice none 0 0] 28) = u := ⟨_, rfl⟩
        have kv : Below u3.heap.size u3 u5 := by rw [← hu5]; exact al (Below.refl _ _) _
        have rN : RowAt u5 u3.heap.size #[.int .i64 0, .int .i64 0, .int .i64 0, .slice none 0 0, .slice none 0 0] 28 := by rw [← hu5]; exact RowAt.new u3 _ _
        rw [hu5]
        have z4 := s0.lt
        have k5 := chain ka kv
        have hA5 := I.keep hAa kv
        have hR5 := hRa.keep kv
        have rR5 := s0.keep kv
        have szu := ka.size
        clear hu5 kv hAa hRa s0 s1 s2 s3 s4 s5 ka
        refine ⟨.inr ⟨rR5, keepc k5 hg x0, keepc k5 hg x1, keepc k5 hg x2, keepc k5 hg x3, Nat.lt_of_lt_of_le hg k5.size⟩, PlanW.one (by rfl) ?_⟩
        go_wp2_with fail
        refine (DOES.out _ k5 hA5 hR5).mono ?_
        rintro e w4 ⟨v4, F', rfl, hA4, hR4, st4⟩
        obtain ⟨p3, n3, c3, q3, m3, e3, rfl⟩ := hR4.form
        have k4 := k5.trans (st4.below hF k5.size)
        have low := st4.low hF k5.size
        have rR4 := I.row hA5 st4 (.inr (.inl rfl)) rR5
        have rN4 := I.row hA5 st4 (.inr (.inl rfl)) rN
        clear st4 hA5 hR5 rR5 rN k5
        go_wp2_with fail
        refine ⟨.inr ⟨rR4, keepc k4 hg x0, keepc k4 hg x1, keepc k4 hg x2, keepc k4 hg x3, Nat.lt_of_lt_of_le hg k4.size⟩, ?_⟩
        repeat (first | (refine' PlanW.skip (by rfl) (by rfl) ?_; simp only [Act.put, List.getElem_toArray, List.getElem_cons_zero, List.getElem_cons_succ, List.setIfInBounds_toArray, List.set_cons_zero, List.set_cons_succ]) | (refine' PlanW.val (by rfl) (by rfl) (fun wr hr => ?_) ?_; rotate_left 1; (focus (obtain ⟨hrw, hr0, hr1, hr2, hr3, hrz⟩ := hr; have hrc := RowAt.cell hrw; have hrf := RowAt.frozen hrw; have hrl := RowAt.lt hrw; (go_simp <;> with_reducible rfl); done)); simp only [Act.put, List.getElem_toArray, List.getElem_cons_zero, List.getElem_cons_succ, List.setIfInBounds_toArray, List.set_cons_zero, List.set_cons_succ]))
        refine PlanW.one (by rfl) ?_
        have cn : ∀ jj, w4.cell? ⟨u3.heap.size, jj, none⟩ = (#[.int .i64 0, .int .i64 0, .int .i64 0, .slice none 0 0, .slice none 0 0] : Array Value)[jj]? := rN4.cell
        have fn : ∀ jj, w4.frozen? ⟨u3.heap.size, jj, none⟩ = false := rN4.frozen
        have zn : u3.heap.size < w4.heap.size := rN4.lt
        go_wp2_with fail
        clear cn fn zn
        have hne : w2.heap.size ≠ u3.heap.size := by omega
        have k6 := below5 k4 (show w.heap.size ≤ u3.heap.size by omega) (.int .i64 D2.room) (.int .i64 D2.fails) (.int .i64 D2.wait) (.slice p3 n3 c3) (.slice q3 m3 e3)
        have hA6 := I.put5 hA4 rN4 (.inr (.inl rfl)) (.int .i64 D2.room) (.int .i64 D2.fails) (.int .i64 D2.wait) (.slice p3 n3 c3) (.slice q3 m3 e3)
        have hR6 := hR4.put5 rN4 (.int .i64 D2.room) (.int .i64 D2.fails) (.int .i64 D2.wait) (.slice p3 n3 c3) (.slice q3 m3 e3)
        have rN6 := row5 rN4 (.int .i64 D2.room) (.int .i64 D2.fails) (.int .i64 D2.wait) (.slice p3 n3 c3) (.slice q3 m3 e3)
        have rR6 := row5_other rR4 hne (.int .i64 D2.room) (.int .i64 D2.fails) (.int .i64 D2.wait) (.slice p3 n3 c3) (.slice q3 m3 e3)
        clear rN4 rR4 hA4 hR4 k4
        simp only [lay5] at hA6 hR6
        generalize (((((w4.setCell ⟨u3.heap.size, 0, none⟩ (.int .i64 D2.room)).setCell ⟨u3.heap.size, 1, none⟩ (.int .i64 D2.fails)).setCell ⟨u3.heap.size, 2, none⟩ (.int .i64 D2.wait)).setCell ⟨u3.heap.size, 3, none⟩ (.slice p3 n3 c3)).setCell ⟨u3.heap.size, 4, none⟩ (.slice q3 m3 e3)) = u6 at *
        refine ⟨.inr ⟨rR6, keepc k6 hg x0, keepc k6 hg x1, keepc k6 hg x2, keepc k6 hg x3, Nat.lt_of_lt_of_le hg k6.size⟩, ?_⟩
        repeat (first | (refine' PlanW.skip (by rfl) (by rfl) ?_; simp only [Act.put, List.getElem_toArray, List.getElem_cons_zero, List.getElem_cons_succ, List.setIfInBounds_toArray, List.set_cons_zero, List.set_cons_succ]) | (refine' PlanW.val (by rfl) (by rfl) (fun wr hr => ?_) ?_; rotate_left 1; (focus (obtain ⟨hrw, hr0, hr1, hr2, hr3, hrz⟩ := hr; have hrc := RowAt.cell hrw; have hrf := RowAt.frozen hrw; have hrl := RowAt.lt hrw; (go_simp <;> with_reducible rfl); done)); simp only [Act.put, List.getElem_toArray, List.getElem_cons_zero, List.getElem_cons_succ, List.setIfInBounds_toArray, List.set_cons_zero, List.set_cons_succ]))
        refine PlanW.done ?_
        have cr : ∀ jj, u6.cell? ⟨w2.heap.size, jj, none⟩ = (#[.int .i64 st.room, .int .i64 st.fails, .int .i64 st.wait, .slice p1 n1 c1, .slice q1 m1 e1] : Array Value)[jj]? := rR6.cell
        have fr : ∀ jj, u6.frozen? ⟨w2.heap.size, jj, none⟩ = false := rR6.frozen
        have zr : w2.heap.size < u6.heap.size := rR6.lt
        have cn : ∀ jj, u6.cell? ⟨u3.heap.size, jj, none⟩ = (#[.int .i64 D2.room, .int .i64 D2.fails, .int .i64 D2.wait, .slice p3 n3 c3, .slice q3 m3 e3] : Array Value)[jj]? := rN6.cell
        have fn : ∀ jj, u6.frozen? ⟨u3.heap.size, jj, none⟩ = false := rN6.frozen
        have zn : u3.heap.size < u6.heap.size := rN6.lt
        go_upto_region 11 with (fail)
        clear cr fr zr cn fn zn
        have k7 := below5 k6 sz (.int .i64 D2.room) (.int .i64 D2.fails) (.int .i64 D2.wait) (.slice p3 n3 c3) (.slice q3 m3 e3)
        have hA7 := I.put5 hA6 rR6 (.inr (.inl rfl)) (.int .i64 D2.room) (.int .i64 D2.fails) (.int .i64 D2.wait) (.slice p3 n3 c3) (.slice q3 m3 e3)
        have hR7 := hR6.put5 rR6 (.int .i64 D2.room) (.int .i64 D2.fails) (.int .i64 D2.wait) (.slice p3 n3 c3) (.slice q3 m3 e3)
        have rR7 := row5 rR6 (.int .i64 D2.room) (.int .i64 D2.fails) (.int .i64 D2.wait) (.slice p3 n3 c3) (.slice q3 m3 e3)
        clear rR6 rN6 hA6 hR6 k6
        simp only [lay5] at hA7 hR7
        generalize (((((u6.setCell ⟨w2.heap.size, 0, none⟩ (.int .i64 D2.room)).setCell ⟨w2.heap.size, 1, none⟩ (.int .i64 D2.fails)).setCell ⟨w2.heap.size, 2, none⟩ (.int .i64 D2.wait)).setCell ⟨w2.heap.size, 3, none⟩ (.slice p3 n3 c3)).setCell ⟨w2.heap.size, 4, none⟩ (.slice q3 m3 e3)) = u7 at *
        have cr : ∀ jj, u7.cell? ⟨w2.heap.size, jj, none⟩ = (#[.int .i64 D2.room, .int .i64 D2.fails, .int .i64 D2.wait, .slice p3 n3 c3, .slice q3 m3 e3] : Array Value)[jj]? := rR7.cell
        have fr : ∀ jj, u7.frozen? ⟨w2.heap.size, jj, none⟩ = false := rR7.frozen
        have zr : w2.heap.size < u7.heap.size := rR7.lt
        go_wp2_with fail
        refine (l8_like I w u7 F' _ _ D2 (j + 1) (20 * j + 20) k7 hA7 hR7 ok2 (by omega) (by omega)).mono ?_
        rintro e w8 ⟨rfl, hv8⟩
        clear cr fr zr
        go_wp2_with fail
        go_roundw
        case rel => exact ⟨j + 1, D2, F', p3, n3, c3, q3, m3, e3, by omega, by omega, by go_num, chain k7 hv8, I.keep hA7 hv8, low, rR7.keep hv8, hR7.keep hv8, ok2.mono (Nat.le_refl _) (by omega)⟩
        case measure => simp [intOf]; omega
    · have gen : (j < N ∧ ¬ j < 50) ∨ ¬ j < N := by omega
      clear rR hA hR
      rcases gen with ⟨g1, g2⟩ | g1
      all_goals
        go_wp2_with fail
        refine (l8_lives I _).mono ?_
        rintro e w9 ⟨rfl, hv9⟩
        go_wp2
        go_ret
        exact ⟨rfl, chain kw hv9⟩
end Go.Proofs.Ytkephcmjigfepaa
