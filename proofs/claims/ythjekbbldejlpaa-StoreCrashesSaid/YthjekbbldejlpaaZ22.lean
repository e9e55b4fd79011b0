/- Texts behind each other. -/
import Derived.Test.YthjekbbldejlpaaZ21
import Derived.Test.YthjekbbldejlpaaZ16
import Derived.Test.YthjekbbldejlpaaZ11
import Derived.Test.YthjekbbldejlpaaZ12
import Derived.Test.YthjekbbldejlpaaZ10
import Derived.Test.YthjekbbldejlpaaZ04
import Derived.Laws.StructEq
/- StorePlays, over what is asked of the store. Written by gen_w09.py. -/
set_option linter.unusedVariables false
set_option linter.unusedSimpArgs false
namespace Go.Proofs.Ythjekbbldejlpaa
open Go.ChangeShapes Go.WideShapes Go.ChangeAt Go.RowKit
set_option maxRecDepth 10000 in
set_option maxHeartbeats 16000000 in
theorem storePlays_core (I : StoreI) (w : World) (room : Int) (hroom : i64 room) (v : Value) (hd : Deeds9In w v) : Calls Try.prog 4 #[.int .i64 room, v] w fun e w' => e = .returned (.bool true) ∧ Below w.heap.size w w' := by
  obtain ⟨l, hl, hok, hlen⟩ := hd
  obtain ⟨p, cap, rfl, hf⟩ := hl.form
  obtain ⟨N, hN⟩ : ∃ N, l.length = N := ⟨_, rfl⟩
  have ar := around_bd room 201 (by omega)
  have an := fun u => r_around room 201 hroom.1 hroom.2 (by omega) (by omega) u
  obtain ⟨RM, hZ⟩ : ∃ Z, aroundF room 201 = Z := ⟨_, rfl⟩
  rw [hZ] at ar an
  obtain ⟨hr0, hr1⟩ := hroom
  have iRM : i64 RM := by constructor <;> omega
  have AN := Lib.hid an
  have HF := Lib.hid hf
  have HN := Lib.hid hN
  have OK := Lib.hid hok
  unfold maxLen at hlen
  rw [hN] at hlen ⊢
  clear hZ an hf hN hok hl
  go_enter Try.func4, Try.ntmps4
  go_wp2_with (go_at_call 13; refine (AN.out _).mono ?_; rintro e w' ⟨rfl, rfl⟩)
  refine (I.new RM w iRM).mono ?_
  rintro e w1 ⟨pd, F1, rfl, hA1, hF1, k1⟩
  obtain ⟨pa, rfl⟩ := I.ptr hA1
  go_wp2_with fail
  refine (rf_new RM F1 w1).mono ?_
  rintro e w2 ⟨v2, rfl, hR2, hv⟩
  have k2 := chain k1 hv
  have hA2 := I.keep hA1 hv
  obtain ⟨p2, n2, c2, q2, m2, e2, rfl⟩ := hR2.form
  clear hv hA1 k1
  have ok0 := St9.new iRM
  obtain ⟨st0, hst0⟩ : ∃ s, newSt RM = s := ⟨_, rfl⟩
  rw [hst0] at hA2 hR2 ok0 ⊢
  clear hst0
  obtain ⟨u2, hu2⟩ : ∃ u, w2.alloc (.cells #[.int .i64 st0.room, .int .i64 st0.fails, .int .i64 st0.wait, .slice p2 n2 c2, .slice q2 m2 e2] 39) = u := ⟨_, rfl⟩
  have kv : Below w2.heap.size w2 u2 := by rw [← hu2]; exact al (Below.refl _ _) _
  have rR : RowAt u2 w2.heap.size #[.int .i64 st0.room, .int .i64 st0.fails, .int .i64 st0.wait, .slice p2 n2 c2, .slice q2 m2 e2] 39 := by rw [← hu2]; exact RowAt.new w2 _ _
  have HU := Lib.hid hu2
  have k3 := chain k2 kv
  have hA3 := I.keep hA2 kv
  have hR3 := hR2.keep kv
  have sz : w.heap.size ≤ w2.heap.size := k2.size
  clear hu2 kv k2 hA2 hR2
  go_wp2_with fail
  rw [HU.out]
  go_loopw [7] (fun i wr => ∃ (j : Nat) (st : St) (F : Foot) (p1 : Option Addr) (n1 c1 : Nat) (q1 : Option Addr) (m1 e1 : Nat), j ≤ N ∧ j ≤ 40 ∧ i = .int .i64 j ∧ Below w.heap.size w wr ∧ I.At wr F (.pointer (some ⟨pa, 0, none⟩)) st ∧ (∀ b, F b → w.heap.size ≤ b) ∧
    RowAt wr w2.heap.size #[.int .i64 st.room, .int .i64 st.fails, .int .i64 st.wait, .slice p1 n1 c1, .slice q1 m1 e1] 39 ∧ RefAt F wr (.agg #[.int .i64 st.room, .int .i64 st.fails, .int .i64 st.wait, .slice p1 n1 c1, .slice q1 m1 e1]) st ∧ St9 st j) (fun i _ => N - (intOf i).toNat)
  case atStart => exact ⟨0, st0, F1, p2, n2, c2, q2, m2, e2, by omega, by omega, rfl, k3, hA3, hF1, rR, hR3, ok0⟩
  case round =>
    clear rR k3 hA3 hR3 hF1 ok0
    obtain ⟨j, st, F, p1, n1, c1, q1, m1, e1, hj, hj40, rfl, kw, hA, hF, rR, hR, ok⟩ := hrel
    by_cases hlt : j < N ∧ j < 40
    · obtain ⟨hlt, h40⟩ := hlt
      obtain ⟨g, off, rfl, hc, hg, hx⟩ := HF.out (by rw [HN.out]; omega)
      rw [HN.out] at hc
      have hjl : j < l.length := by rw [HN.out]; exact hlt
      have hxx := hx j hjl
      obtain ⟨o1, o2, o3, ox, o4, o5, o6⟩ := OK.out j hjl
      obtain ⟨⟨kind, key, num, bx, vb, B⟩, hxe⟩ : ∃ x, l[j] = x := ⟨_, rfl⟩
      rw [hxe] at hxx o1 o2 o3 ox o4 o5 o6
      simp only [] at o1 o2 o3 ox o4 o5 o6
      obtain ⟨x0, x1, x2, x3, x4⟩ := hxx
      simp only [] at x0 x1 x2 x3 x4
      obtain ⟨pb, cb, rfl⟩ := o4.shape
      have ok2 := ok.does kind key num bx o5 ox
      have does := fun u (hb : Below w.heap.size w u) (ha : I.At u F (.pointer (some ⟨pa, 0, none⟩)) st) (hr : RefAt F u (.agg #[.int .i64 st.room, .int .i64 st.fails, .int .i64 st.wait, .slice p1 n1 c1, .slice q1 m1 e1]) st) => l9_does I w u F _ _ st kind key num bx _ B j hb ha hr ok (by omega) o1 o2 o3 ox o4 o5 o6
      obtain ⟨D2, hD2⟩ : ∃ D2, does9 st kind key num bx B = D2 := ⟨_, rfl⟩
      rw [hD2] at does ok2
      obtain ⟨L, hL⟩ : ∃ x, B.length = x := ⟨_, rfl⟩
      rw [hL] at does x4
      have DOES := Lib.hid does
      have y0 := keepc kw hg x0
      have y1 := keepc kw hg x1
      have y2 := keepc kw hg x2
      have y3 := keepc kw hg x3
      have y4 := keepc kw hg x4
      have zg : g < wr.heap.size := Nat.lt_of_lt_of_le hg kw.size
      have bj : (j : Int) < N := by omega
      have bj5 : (j : Int) < 40 := by omega
      clear hx hxe does hL hD2 ox o4 o5 o6 o1 o2 o3
      have cr : ∀ jj, wr.cell? ⟨w2.heap.size, jj, none⟩ = (#[.int .i64 st.room, .int .i64 st.fails, .int .i64 st.wait, .slice p1 n1 c1, .slice q1 m1 e1] : Array Value)[jj]? := rR.cell
      have fr : ∀ jj, wr.frozen? ⟨w2.heap.size, jj, none⟩ = false := rR.frozen
      have zr : w2.heap.size < wr.heap.size := rR.lt
      go_upto_region 9 with (fail)
      clear cr fr zr
      refine region_planS (fun u => RowAt u w2.heap.size #[.int .i64 st.room, .int .i64 st.fails, .int .i64 st.wait, .slice p1 n1 c1, .slice q1 m1 e1] 39 ∧ u.cell? ⟨g, off + j * 5, none⟩ = some (.int .i64 kind) ∧ u.cell? ⟨g, off + j * 5 + 1, none⟩ = some (.int .i64 key) ∧ u.cell? ⟨g, off + j * 5 + 2, none⟩ = some (.int .i64 num) ∧ u.cell? ⟨g, off + j * 5 + 3, none⟩ = some (.int .u8 bx) ∧ u.cell? ⟨g, off + j * 5 + 4, none⟩ = some (.slice pb L cb) ∧ g < u.heap.size) 13 (.calm 0 (.calm 1 (.calm 2 (.calm 3 (.calm 4 (.calm 5 (.two 6 (.calm 7 (.calm 8 (.calm 9 (.one 10 (.one 11 (.calm 12 .done)))))) 10 (.one 6 (.calm 7 (.calm 8 (.calm 9 (.one 11 (.calm 12 .done))))))))))))) (by kernel_rfl) (by kernel_rfl) (by kernel_rfl) rfl (by kernel_rfl) (fun c a d v w h => by cases d <;> exact h) (by exact ⟨rR.keep ((Below.refl _ _).drew), y0, y1, y2, y3, y4, zg⟩) ?_
      intro u3 hu3 hsz3 hS3
      obtain ⟨s0, s1, s2, s3, s4, s6, s5⟩ := hS3
      clear hsz3
      have ka := chain kw hu3
      have hAa := I.keep hA hu3
      have hRa := hR.keep hu3
      clear rR hu3 y0 y1 y2 y3 y4 zg hA hR kw
      repeat (first | (refine' PlanW.skip (by rfl) (by rfl) ?_; simp only [Act.put, List.getElem_toArray, List.getElem_cons_zero, List.getElem_cons_succ, List.setIfInBounds_toArray, List.set_cons_zero, List.set_cons_succ]) | (refine' PlanW.val (by rfl) (by rfl) (fun wr hr => ?_) ?_; rotate_left 1; (focus (obtain ⟨hrw, hr0, hr1, hr2, hr3, hr4, hrz⟩ := hr; have hrc := RowAt.cell hrw; have hrf := RowAt.frozen hrw; have hrl := RowAt.lt hrw; (go_simp <;> with_reducible rfl); done)); simp only [Act.put, List.getElem_toArray, List.getElem_cons_zero, List.getElem_cons_succ, List.setIfInBounds_toArray, List.set_cons_zero, List.set_cons_succ]))
      refine PlanW.two (by rfl) (by rfl) ?_ ?_
      · go_wp2_with fail
        refine (DOES.out _ ka hAa hRa).mono ?_
        rintro e w4 ⟨v4, F', rfl, hA4, hR4, st4⟩
        obtain ⟨p3, n3, c3, q3, m3, e3, rfl⟩ := hR4.form
        have k4 := ka.trans (st4.below hF ka.size)
        have low := st4.low hF ka.size
        have rR4 := I.row hAa st4 (.inr (.inl rfl)) s0
        clear st4 hAa hRa s0 s1 s2 s3 s4 s5 s6 ka
        go_wp2_with fail
        refine ⟨.inr ⟨rR4, keepc k4 hg x0, keepc k4 hg x1, keepc k4 hg x2, keepc k4 hg x3, keepc k4 hg x4, Nat.lt_of_lt_of_le hg k4.size⟩, ?_⟩
        repeat (first | (refine' PlanW.skip (by rfl) (by rfl) ?_; simp only [Act.put, List.getElem_toArray, List.getElem_cons_zero, List.getElem_cons_succ, List.setIfInBounds_toArray, List.set_cons_zero, List.set_cons_succ]) | (refine' PlanW.val (by rfl) (by rfl) (fun wr hr => ?_) ?_; rotate_left 1; (focus (obtain ⟨hrw, hr0, hr1, hr2, hr3, hr4, hrz⟩ := hr; have hrc := RowAt.cell hrw; have hrf := RowAt.frozen hrw; have hrl := RowAt.lt hrw; (go_simp <;> with_reducible rfl); done)); simp only [Act.put, List.getElem_toArray, List.getElem_cons_zero, List.getElem_cons_succ, List.setIfInBounds_toArray, List.set_cons_zero, List.set_cons_succ]))
        refine PlanW.one (by rfl) ?_
        go_wp2_with fail
        obtain ⟨u5, hu5⟩ : ∃ u, w4.alloc (.cells #[.int .i64 0, .int .i64 0, .int .i64 0, .slice none 0 0, .slice none 0 0] 39) = u := ⟨_, rfl⟩
        have kv : Below w4.heap.size w4 u5 := by rw [← hu5]; exact al (Below.refl _ _) _
        have rN4 : RowAt u5 w4.heap.size #[.int .i64 0, .int .i64 0, .int .i64 0, .slice none 0 0, .slice none 0 0] 39 := by rw [← hu5]; exact RowAt.new w4 _ _
        rw [hu5]
        have z4 := rR4.lt
        replace k4 := chain k4 kv
        replace rR4 := rR4.keep kv
        replace hA4 := I.keep hA4 kv
        replace hR4 := hR4.keep kv
        clear hu5 kv
        refine ⟨.inr ⟨rR4, keepc k4 hg x0, keepc k4 hg x1, keepc k4 hg x2, keepc k4 hg x3, keepc k4 hg x4, Nat.lt_of_lt_of_le hg k4.size⟩, PlanW.one (by rfl) ?_⟩
        have cn : ∀ jj, u5.cell? ⟨w4.heap.size, jj, none⟩ = (#[.int .i64 0, .int .i64 0, .int .i64 0, .slice none 0 0, .slice none 0 0] : Array Value)[jj]? := rN4.cell
        have fn : ∀ jj, u5.frozen? ⟨w4.heap.size, jj, none⟩ = false := rN4.frozen
        have zn : w4.heap.size < u5.heap.size := rN4.lt
        go_wp2_with fail
        clear cn fn zn
        have hne : w2.heap.size ≠ w4.heap.size := by omega
        have k6 := below5 k4 (show w.heap.size ≤ w4.heap.size by omega) (.int .i64 D2.room) (.int .i64 D2.fails) (.int .i64 D2.wait) (.slice p3 n3 c3) (.slice q3 m3 e3)
        have hA6 := I.put5 hA4 rN4 (.inr (.inl rfl)) (.int .i64 D2.room) (.int .i64 D2.fails) (.int .i64 D2.wait) (.slice p3 n3 c3) (.slice q3 m3 e3)
        have hR6 := hR4.put5 rN4 (.int .i64 D2.room) (.int .i64 D2.fails) (.int .i64 D2.wait) (.slice p3 n3 c3) (.slice q3 m3 e3)
        have rN6 := row5 rN4 (.int .i64 D2.room) (.int .i64 D2.fails) (.int .i64 D2.wait) (.slice p3 n3 c3) (.slice q3 m3 e3)
        have rR6 := row5_other rR4 hne (.int .i64 D2.room) (.int .i64 D2.fails) (.int .i64 D2.wait) (.slice p3 n3 c3) (.slice q3 m3 e3)
        clear rN4 rR4 hA4 hR4 k4
        simp only [lay5] at hA6 hR6
        generalize (((((u5.setCell ⟨w4.heap.size, 0, none⟩ (.int .i64 D2.room)).setCell ⟨w4.heap.size, 1, none⟩ (.int .i64 D2.fails)).setCell ⟨w4.heap.size, 2, none⟩ (.int .i64 D2.wait)).setCell ⟨w4.heap.size, 3, none⟩ (.slice p3 n3 c3)).setCell ⟨w4.heap.size, 4, none⟩ (.slice q3 m3 e3)) = u6 at *
        refine ⟨.inr ⟨rR6, keepc k6 hg x0, keepc k6 hg x1, keepc k6 hg x2, keepc k6 hg x3, keepc k6 hg x4, Nat.lt_of_lt_of_le hg k6.size⟩, ?_⟩
        repeat (first | (refine' PlanW.skip (by rfl) (by rfl) ?_; simp only [Act.put, List.getElem_toArray, List.getElem_cons_zero, List.getElem_cons_succ, List.setIfInBounds_toArray, List.set_cons_zero, List.set_cons_succ]) | (refine' PlanW.val (by rfl) (by rfl) (fun wr hr => ?_) ?_; rotate_left 1; (focus (obtain ⟨hrw, hr0, hr1, hr2, hr3, hr4, hrz⟩ := hr; have hrc := RowAt.cell hrw; have hrf := RowAt.frozen hrw; have hrl := RowAt.lt hrw; (go_simp <;> with_reducible rfl); done)); simp only [Act.put, List.getElem_toArray, List.getElem_cons_zero, List.getElem_cons_succ, List.setIfInBounds_toArray, List.set_cons_zero, List.set_cons_succ]))
        refine PlanW.done ?_
        have cr : ∀ jj, u6.cell? ⟨w2.heap.size, jj, none⟩ = (#[.int .i64 st.room, .int .i64 st.fails, .int .i64 st.wait, .slice p1 n1 c1, .slice q1 m1 e1] : Array Value)[jj]? := rR6.cell
        have fr : ∀ jj, u6.frozen? ⟨w2.heap.size, jj, none⟩ = false := rR6.frozen
        have zr : w2.heap.size < u6.heap.size := rR6.lt
        have cn : ∀ jj, u6.cell? ⟨w4.heap.size, jj, none⟩ = (#[.int .i64 D2.room, .int .i64 D2.fails, .int .i64 D2.wait, .slice p3 n3 c3, .slice q3 m3 e3] : Array Value)[jj]? := rN6.cell
        have fn : ∀ jj, u6.frozen? ⟨w4.heap.size, jj, none⟩ = false := rN6.frozen
        have zn : w4.heap.size < u6.heap.size := rN6.lt
        go_upto_region 11 with (fail)
        clear cr fr zr cn fn zn
        have k7 := below5 k6 sz (.int .i64 D2.room) (.int .i64 D2.fails) (.int .i64 D2.wait) (.slice p3 n3 c3) (.slice q3 m3 e3)
        have hA7 := I.put5 hA6 rR6 (.inr (.inl rfl)) (.int .i64 D2.room) (.int .i64 D2.fails) (.int .i64 D2.wait) (.slice p3 n3 c3) (.slice q3 m3 e3)
        have hR7 := hR6.put5 rR6 (.int .i64 D2.room) (.int .i64 D2.fails) (.int .i64 D2.wait) (.slice p3 n3 c3) (.slice q3 m3 e3)
        have rR7 := row5 rR6 (.int .i64 D2.room) (.int .i64 D2.fails) (.int .i64 D2.wait) (.slice p3 n3 c3) (.slice q3 m3 e3)
        clear rR6 rN6 hA6 hR6 k6
        simp only [lay5] at hA7 hR7
        generalize (((((u6.setCell ⟨w2.heap.size, 0, none⟩ (.int .i64 D2.room)).setCell ⟨w2.heap.size, 1, none⟩ (.int .i64 D2.fails)).setCell ⟨w2.heap.size, 2, none⟩ (.int .i64 D2.wait)).setCell ⟨w2.heap.size, 3, none⟩ (.slice p3 n3 c3)).setCell ⟨w2.heap.size, 4, none⟩ (.slice q3 m3 e3)) = u7 at *
        have cr : ∀ jj, u7.cell? ⟨w2.heap.size, jj, none⟩ = (#[.int .i64 D2.room, .int .i64 D2.fails, .int .i64 D2.wait, .slice p3 n3 c3, .slice q3 m3 e3] : Array Value)[jj]? := rR7.cell
        have fr : ∀ jj, u7.frozen? ⟨w2.heap.size, jj, none⟩ = false := rR7.frozen
        have zr : w2.heap.size < u7.heap.size := rR7.lt
        go_wp2_with fail
        refine (l9_like I u7 F' _ _ D2 (j + 1) hA7 hR7 ok2 (by omega)).mono ?_
        rintro e w8 ⟨rfl, hv8⟩
        clear cr fr zr
        go_wp2_with fail
        go_roundw
        case rel => exact ⟨j + 1, D2, F', p3, n3, c3, q3, m3, e3, by omega, by omega, by go_num, chain k7 hv8, I.keep hA7 hv8, low, rR7.keep hv8, hR7.keep hv8, ok2⟩
        case measure => simp [intOf]; omega
      · go_wp2_with fail
        obtain ⟨u5, hu5⟩ : ∃ u, u3.alloc (.cells #[.int .i64 0, .int .i64 0, .int .i64 0, .slice none 0 0, .slice none 0 0] 39) = u := ⟨_, rfl⟩
        have kv : Below u3.heap.size u3 u5 := by rw [← hu5]; exact al (Below.refl _ _) _
        have rN : RowAt u5 u3.heap.size #[.int .i64 0, .int .i64 0, .int .i64 0, .slice none 0 0, .slice none 0 0] 39 := by rw [← hu5]; exact RowAt.new u3 _ _
        rw [hu5]
        have z4 := s0.lt
        have k5 := chain ka kv
        have hA5 := I.keep hAa kv
        have hR5 := hRa.keep kv
        have rR5 := s0.keep kv
        have szu := ka.size
        clear hu5 kv hAa hRa s0 s1 s2 s3 s4 s5 s6 ka
        refine ⟨.inr ⟨rR5, keepc k5 hg x0, keepc k5 hg x1, keepc k5 hg x2, keepc k5 hg x3, keepc k5 hg x4, Nat.lt_of_lt_of_le hg k5.size⟩, PlanW.one (by rfl) ?_⟩
        go_wp2_with fail
        refine (DOES.out _ k5 hA5 hR5).mono ?_
        rintro e w4 ⟨v4, F', rfl, hA4, hR4, st4⟩
        obtain ⟨p3, n3, c3, q3, m3, e3, rfl⟩ := hR4.form
        have k4 := k5.trans (st4.below hF k5.size)
        have low := st4.low hF k5.size
        have rR4 := I.row hA5 st4 (.inr (.inl rfl)) rR5
        have rN4 := I.row hA5 st4 (.inr (.inl rfl)) rN
        clear st4 hA5 hR5 rR5 rN k5
        go_wp2_with fail
        refine ⟨.inr ⟨rR4, keepc k4 hg x0, keepc k4 hg x1, keepc k4 hg x2, keepc k4 hg x3, keepc k4 hg x4, Nat.lt_of_lt_of_le hg k4.size⟩, ?_⟩
        repeat (first | (refine' PlanW.skip (by rfl) (by rfl) ?_; simp only [Act.put, List.getElem_toArray, List.getElem_cons_zero, List.getElem_cons_succ, List.setIfInBounds_toArray, List.set_cons_zero, List.set_cons_succ]) | (refine' PlanW.val (by rfl) (by rfl) (fun wr hr => ?_) ?_; rotate_left 1; (focus (obtain ⟨hrw, hr0, hr1, hr2, hr3, hr4, hrz⟩ := hr; have hrc := RowAt.cell hrw; have hrf := RowAt.frozen hrw; have hrl := RowAt.lt hrw; (go_simp <;> with_reducible rfl); done)); simp only [Act.put, List.getElem_toArray, List.getElem_cons_zero, List.getElem_cons_succ, List.setIfInBounds_toArray, List.set_cons_zero, List.set_cons_succ]))
        refine PlanW.one (by rfl) ?_
        have cn : ∀ jj, w4.cell? ⟨u3.heap.size, jj, none⟩ = (#[.int .i64 0, .int .i64 0, .int .i64 0, .slice none 0 0, .slice none 0 0] : Array Value)[jj]? := rN4.cell
        have fn : ∀ jj, w4.frozen? ⟨u3.heap.size, jj, none⟩ = false := rN4.frozen
        have zn : u3.heap.size < w4.heap.size := rN4.lt
        go_wp2_with fail
        clear cn fn zn
        have hne : w2.heap.size ≠ u3.heap.size := by omega
        have k6 := below5 k4 (show w.heap.size ≤ u3.heap.size by omega) (.int .i64 D2.room) (.int .i64 D2.fails) (.int .i64 D2.wait) (.slice p3 n3 c3) (.slice q3 m3 e3)
        have hA6 := I.put5 hA4 rN4 (.inr (.inl rfl)) (.int .i64 D2.room) (.int .i64 D2.fails) (.int .i64 D2.wait) (.slice p3 n3 c3) (.slice q3 m3 e3)
        have hR6 := hR4.put5 rN4 (.int .i64 D2.room) (.int .i64 D2.fails) (.int .i64 D2.wait) (.slice p3 n3 c3) (.slice q3 m3 e3)
        have rN6 := row5 rN4 (.int .i64 D2.room) (.int .i64 D2.fails) (.int .i64 D2.wait) (.slice p3 n3 c3) (.slice q3 m3 e3)
        have rR6 := row5_other rR4 hne (.int .i64 D2.room) (.int .i64 D2.fails) (.int .i64 D2.wait) (.slice p3 n3 c3) (.slice q3 m3 e3)
        clear rN4 rR4 hA4 hR4 k4
        simp only [lay5] at hA6 hR6
        generalize (((((w4.setCell ⟨u3.heap.size, 0, none⟩ (.int .i64 D2.room)).setCell ⟨u3.heap.size, 1, none⟩ (.int .i64 D2.fails)).setCell ⟨u3.heap.size, 2, none⟩ (.int .i64 D2.wait)).setCell ⟨u3.heap.size, 3, none⟩ (.slice p3 n3 c3)).setCell ⟨u3.heap.size, 4, none⟩ (.slice q3 m3 e3)) = u6 at *
        refine ⟨.inr ⟨rR6, keepc k6 hg x0, keepc k6 hg x1, keepc k6 hg x2, keepc k6 hg x3, keepc k6 hg x4, Nat.lt_of_lt_of_le hg k6.size⟩, ?_⟩
        repeat (first | (refine' PlanW.skip (by rfl) (by rfl) ?_; simp only [Act.put, List.getElem_toArray, List.getElem_cons_zero, List.getElem_cons_succ, List.setIfInBounds_toArray, List.set_cons_zero, List.set_cons_succ]) | (refine' PlanW.val (by rfl) (by rfl) (fun wr hr => ?_) ?_; rotate_left 1; (focus (obtain ⟨hrw, hr0, hr1, hr2, hr3, hr4, hrz⟩ := hr; have hrc := RowAt.cell hrw; have hrf := RowAt.frozen hrw; have hrl := RowAt.lt hrw; (go_simp <;> with_reducible rfl); done)); simp only [Act.put, List.getElem_toArray, List.getElem_cons_zero, List.getElem_cons_succ, List.setIfInBounds_toArray, List.set_cons_zero, List.set_cons_succ]))
        refine PlanW.done ?_
        have cr : ∀ jj, u6.cell? ⟨w2.heap.size, jj, none⟩ = (#[.int .i64 st.room, .int .i64 st.fails, .int .i64 st.wait, .slice p1 n1 c1, .slice q1 m1 e1] : Array Value)[jj]? := rR6.cell
        have fr : ∀ jj, u6.frozen? ⟨w2.heap.size, jj, none⟩ = false := rR6.frozen
        have zr : w2.heap.size < u6.heap.size := rR6.lt
        have cn : ∀ jj, u6.cell? ⟨u3.heap.size, jj, none⟩ = (#[.int .i64 D2.room, .int .i64 D2.fails, .int .i64 D2.wait, .slice p3 n3 c3, .slice q3 m3 e3] : Array Value)[jj]? := rN6.cell
        have fn : ∀ jj, u6.frozen? ⟨u3.heap.size, jj, none⟩ = false := rN6.frozen
        have zn : u3.heap.size < u6.heap.size := rN6.lt
        go_upto_region 11 with (fail)
        clear cr fr zr cn fn zn
        have k7 := below5 k6 sz (.int .i64 D2.room) (.int .i64 D2.fails) (.int .i64 D2.wait) (.slice p3 n3 c3) (.slice q3 m3 e3)
        have hA7 := I.put5 hA6 rR6 (.inr (.inl rfl)) (.int .i64 D2.room) (.int .i64 D2.fails) (.int .i64 D2.wait) (.slice p3 n3 c3) (.slice q3 m3 e3)
        have hR7 := hR6.put5 rR6 (.int .i64 D2.room) (.int .i64 D2.fails) (.int .i64 D2.wait) (.slice p3 n3 c3) (.slice q3 m3 e3)
        have rR7 := row5 rR6 (.int .i64 D2.room) (.int .i64 D2.fails) (.int .i64 D2.wait) (.slice p3 n3 c3) (.slice q3 m3 e3)
        clear rR6 rN6 hA6 hR6 k6
        simp only [lay5] at hA7 hR7
        generalize (((((u6.setCell ⟨w2.heap.size, 0, none⟩ (.int .i64 D2.room)).setCell ⟨w2.heap.size, 1, none⟩ (.int .i64 D2.fails)).setCell ⟨w2.heap.size, 2, none⟩ (.int .i64 D2.wait)).setCell ⟨w2.heap.size, 3, none⟩ (.slice p3 n3 c3)).setCell ⟨w2.heap.size, 4, none⟩ (.slice q3 m3 e3)) = u7 at *
        have cr : ∀ jj, u7.cell? ⟨w2.heap.size, jj, none⟩ = (#[.int .i64 D2.room, .int .i64 D2.fails, .int .i64 D2.wait, .slice p3 n3 c3, .slice q3 m3 e3] : Array Value)[jj]? := rR7.cell
        have fr : ∀ jj, u7.frozen? ⟨w2.heap.size, jj, none⟩ = false := rR7.frozen
        have zr : w2.heap.size < u7.heap.size := rR7.lt
        go_wp2_with fail
        refine (l9_like I u7 F' _ _ D2 (j + 1) hA7 hR7 ok2 (by omega)).mono ?_
        rintro e w8 ⟨rfl, hv8⟩
        clear cr fr zr
        go_wp2_with fail
        go_roundw
        case rel => exact ⟨j + 1, D2, F', p3, n3, c3, q3, m3, e3, by omega, by omega, by go_num, chain k7 hv8, I.keep hA7 hv8, low, rR7.keep hv8, hR7.keep hv8, ok2⟩
        case measure => simp [intOf]; omega
    · have gen : (j < N ∧ ¬ j < 40) ∨ ¬ j < N := by omega
      clear rR hA hR
      rcases gen with ⟨g1, g2⟩ | g1
      all_goals
        go_wp2_with fail
        refine (l9_lives I _).mono ?_
        rintro e w9 ⟨rfl, hv9⟩
        go_wp2
        go_ret
        exact ⟨rfl, chain kw hv9⟩
end Go.Proofs.Ythjekbbldejlpaa
/- Contracts of layer 9 (store), of the landed code: may, high, number. -/
set_option linter.unusedVariables false
set_option linter.unusedSimpArgs false
namespace Go.Proofs.Ythjekbbldejlpaa
open Go.ChangeShapes Go.WideShapes Go.ChangeAt Go.RowKit
theorem or_low8 (C b : Int) (h0 : 0 ≤ C) (h1 : C ≤ 16777215) (b0 : 0 ≤ b) (b1 : b ≤ 255) : bits .or .i64 (C * 256) b = C * 256 + b := by
  show IntKind.i64.wrap ((BitVec.ofInt 64 (C * 256) ||| BitVec.ofInt 64 b).toNat : Int) = _
  obtain ⟨a, rfl⟩ := Int.eq_ofNat_of_zero_le h0
  obtain ⟨d, rfl⟩ := Int.eq_ofNat_of_zero_le b0
  have e1 : (BitVec.ofInt 64 ((a : Int) * 256)).toNat = 2 ^ 8 * a := by rw [BitVec.toNat_ofInt]; omega
  have e2 : (BitVec.ofInt 64 (d : Int)).toNat = d := by rw [BitVec.toNat_ofInt]; omega
  have e3 : 2 ^ 8 * a ||| d = 2 ^ 8 * a + d := (Nat.two_pow_add_eq_or_of_lt (by omega) a).symm
  rw [BitVec.toNat_or, e1, e2, e3]
  rw [show (((2 ^ 8 * a + d : Nat) : Int)) = (a : Int) * 256 + d by omega]
  exact IntWalk.i64_in _ (by omega)
theorem b9_may (k : Int) (w : World) (hk : i64 k) : Calls Try.prog 47 #[.int .i64 k] w fun e w' => e = .returned (.bool (idB k)) ∧ w = w' := by
  have hi : idB k = (decide (0 ≤ k) && decide (k ≤ 1099511627776)) := rfl
  rw [hi]
  obtain ⟨k0, k1⟩ := hk
  by_cases h0 : 0 ≤ k
  · have g0 : decide (0 ≤ k) = true := by simpa using h0
    have g0' : decide (k ≥ 0) = true := g0
    by_cases h1 : k ≤ 1099511627776
    · have g1 : decide (k ≤ 1099511627776) = true := by simpa using h1
      rw [g0, g1]
      go_enter Try.func47, Try.ntmps47
      go_wp2
      go_ret
      exact ⟨rfl, rfl⟩
    · have g1 : decide (k ≤ 1099511627776) = false := by simpa using h1
      rw [g0, g1]
      go_enter Try.func47, Try.ntmps47
      go_wp2
      go_ret
      exact ⟨rfl, rfl⟩
  · have g0 : decide (0 ≤ k) = false := by simpa using h0
    have g0' : decide (k ≥ 0) = false := g0
    rw [g0]
    go_enter Try.func47, Try.ntmps47
    go_wp2
    go_ret
    exact ⟨rfl, rfl⟩
set_option maxRecDepth 10000 in
set_option maxHeartbeats 8000000 in
theorem b9_high4 (n : Int) (w : World) (h0 : 0 ≤ n) (h1 : n ≤ 4294967295) : Calls Try.prog 25 #[.slice none 0 0, .int .i64 n, .int .i64 4] w fun e w' =>
    ∃ v', e = .returned v' ∧ w'.ownsRow w.heap.size 5 1 v' 4 (bytVs (digs4 n)) ∧ Below w.heap.size w w' := by
  obtain ⟨i0, hi, hz, hsz, hby⟩ := byte_info
  obtain ⟨A, hA⟩ : ∃ x, n / 16777216 = x := ⟨_, rfl⟩
  obtain ⟨a, ha⟩ : ∃ x, A % 256 = x := ⟨_, rfl⟩
  have wa : IntKind.u8.wrap A = a := by show A % 256 = a; omega
  obtain ⟨B, hB⟩ : ∃ x, n / 65536 = x := ⟨_, rfl⟩
  obtain ⟨b, hb⟩ : ∃ x, B % 256 = x := ⟨_, rfl⟩
  have wb : IntKind.u8.wrap B = b := by show B % 256 = b; omega
  obtain ⟨C, hC⟩ : ∃ x, n / 256 = x := ⟨_, rfl⟩
  obtain ⟨c, hc⟩ : ∃ x, C % 256 = x := ⟨_, rfl⟩
  have wc : IntKind.u8.wrap C = c := by show C % 256 = c; omega
  obtain ⟨d, hd⟩ : ∃ x, n % 256 = x := ⟨_, rfl⟩
  have wd : IntKind.u8.wrap n = d := by show n % 256 = d; omega
  have e : digs4 n = [a, b, c, d] := by simp only [digs4, hA, ha, hB, hb, hC, hc, hd]
  rw [e]
  clear e ha hb hc hd
  go_enter Try.func25, Try.ntmps25
  go_wp2_with fail
  refine wp_loop_rounds 5 ?_
  rw [rounds_succ]
  go_wp2_with (at_builtin; refine app_byte _ rfl _ _ 22 rfl w.heap.size 5 i0 _ Try.underlying22 hi hz hsz hby rfl _ _ _ rfl (World.ownsRow_nil _ _ _ _) w.heap.size (.int .u8 a) rfl (by go_simp) rfl (by omega) (by simp) ?_; intro v1 w1 ho1 hg1)
  have q1 : Below w.heap.size w w1 := Below.own0 (al (Below.refl _ _) _) hg1
  rw [rounds_succ]
  go_wp2_with (at_builtin; refine app_byte _ rfl _ _ 22 rfl w.heap.size 5 i0 _ Try.underlying22 hi hz hsz hby rfl _ _ _ rfl (ho1.alloc _) w1.heap.size (.int .u8 b) rfl (by go_simp) rfl (by omega) (by have := q1.size; simp; omega) ?_; intro v2 w2 ho2 hg2)
  have q2 : Below w.heap.size w w2 := Below.own (al q1 _) (ho1.alloc _) hg2
  rw [rounds_succ]
  go_wp2_with (at_builtin; refine app_byte _ rfl _ _ 22 rfl w.heap.size 5 i0 _ Try.underlying22 hi hz hsz hby rfl _ _ _ rfl (ho2.alloc _) w2.heap.size (.int .u8 c) rfl (by go_simp) rfl (by omega) (by have := q2.size; simp; omega) ?_; intro v3 w3 ho3 hg3)
  have q3 : Below w.heap.size w w3 := Below.own (al q2 _) (ho2.alloc _) hg3
  rw [rounds_succ]
  go_wp2_with (at_builtin; refine app_byte _ rfl _ _ 22 rfl w.heap.size 5 i0 _ Try.underlying22 hi hz hsz hby rfl _ _ _ rfl (ho3.alloc _) w3.heap.size (.int .u8 d) rfl (by go_simp) rfl (by omega) (by have := q3.size; simp; omega) ?_; intro v4 w4 ho4 hg4)
  have q4 : Below w.heap.size w w4 := Below.own (al q3 _) (ho3.alloc _) hg4
  rw [rounds_succ]
  go_wp2_with fail
  go_ret
  exact ⟨_, rfl, ho4, q4⟩
set_option maxRecDepth 10000 in
set_option maxHeartbeats 8000000 in
theorem b9_high3 (n : Int) (w0 w : World) (v : Value) (xs : List Value) (h0 : 0 ≤ n) (h1 : n ≤ 16777215) (kb : Below w0.heap.size w0 w) (ho : w.ownsRow w0.heap.size 5 1 v 4 xs) : Calls Try.prog 25 #[v, .int .i64 n, .int .i64 3] w fun e w' =>
    ∃ v', e = .returned v' ∧ w'.ownsRow w0.heap.size 5 1 v' 7 (xs ++ bytVs (digs3 n)) ∧ Below w0.heap.size w0 w' := by
  obtain ⟨i0, hi, hz, hsz, hby⟩ := byte_info
  obtain ⟨B, hB⟩ : ∃ x, n / 65536 = x := ⟨_, rfl⟩
  obtain ⟨b, hb⟩ : ∃ x, B % 256 = x := ⟨_, rfl⟩
  have wb : IntKind.u8.wrap B = b := by show B % 256 = b; omega
  obtain ⟨C, hC⟩ : ∃ x, n / 256 = x := ⟨_, rfl⟩
  obtain ⟨c, hc⟩ : ∃ x, C % 256 = x := ⟨_, rfl⟩
  have wc : IntKind.u8.wrap C = c := by show C % 256 = c; omega
  obtain ⟨d, hd⟩ : ∃ x, n % 256 = x := ⟨_, rfl⟩
  have wd : IntKind.u8.wrap n = d := by show n % 256 = d; omega
  have e : digs3 n = [b, c, d] := by simp only [digs3, hB, hb, hC, hc, hd]
  rw [e]
  clear e hb hc hd
  have kz := kb.size
  obtain ⟨p, cap, rfl⟩ := own_form ho
  go_enter Try.func25, Try.ntmps25
  go_wp2_with fail
  refine wp_loop_rounds 4 ?_
  rw [rounds_succ]
  go_wp2_with (at_builtin; refine app_byte _ rfl _ _ 22 rfl w0.heap.size 5 i0 _ Try.underlying22 hi hz hsz hby rfl _ _ _ rfl (ho.alloc _) w.heap.size (.int .u8 b) rfl (by go_simp) rfl (by omega) (by simp; omega) ?_; intro v1 w1 ho1 hg1)
  have q1 : Below w0.heap.size w0 w1 := Below.own (al kb _) (ho.alloc _) hg1
  rw [rounds_succ]
  go_wp2_with (at_builtin; refine app_byte _ rfl _ _ 22 rfl w0.heap.size 5 i0 _ Try.underlying22 hi hz hsz hby rfl _ _ _ rfl (ho1.alloc _) w1.heap.size (.int .u8 c) rfl (by go_simp) rfl (by omega) (by have := q1.size; simp; omega) ?_; intro v2 w2 ho2 hg2)
  have q2 : Below w0.heap.size w0 w2 := Below.own (al q1 _) (ho1.alloc _) hg2
  rw [rounds_succ]
  go_wp2_with (at_builtin; refine app_byte _ rfl _ _ 22 rfl w0.heap.size 5 i0 _ Try.underlying22 hi hz hsz hby rfl _ _ _ rfl (ho2.alloc _) w2.heap.size (.int .u8 d) rfl (by go_simp) rfl (by omega) (by have := q2.size; simp; omega) ?_; intro v3 w3 ho3 hg3)
  have q3 : Below w0.heap.size w0 w3 := Below.own (al q2 _) (ho2.alloc _) hg3
  rw [rounds_succ]
  go_wp2_with fail
  go_ret
  refine ⟨_, rfl, ?_, q3⟩
  simpa using ho3
set_option maxRecDepth 10000 in
set_option maxHeartbeats 4000000 in
theorem b9_number (v : Value) (l : List Int) (w : World) (hl : BytsAt w v l) (ok : bytOk l) (hL : l.length ≤ 4) : Calls Try.prog 30 #[v] w fun e w' => e = .returned (.int .i64 (num9 l)) ∧ w = w' := by
  obtain ⟨p, cap, rfl, hf⟩ := hl.form
  obtain ⟨N, hN⟩ : ∃ N, l.length = N := ⟨_, rfl⟩
  have HN := Lib.hid hN
  have HF := Lib.hid hf
  have OK := Lib.hid ok
  have hb := Lib.hid (num9_bd ok)
  rw [hN] at hL ⊢
  obtain ⟨R, hR⟩ : ∃ R, num9 l = R := ⟨_, rfl⟩
  have HR := Lib.hid hR
  rw [hR]
  clear hN hf ok hl hR
  go_enter Try.func30, Try.ntmps30
  go_wp2_with fail
  go_loop [3, 8] (fun x i => ∃ k : Nat, k ≤ N ∧ i = .int .i64 k ∧ x = .int .i64 (num9 (l.take k))) (fun _ i => N - (intOf i).toNat)
  case atStart => exact ⟨0, by omega, rfl, rfl⟩
  case round =>
    obtain ⟨k, hk, rfl, rfl⟩ := hrel
    by_cases hlt : k < N
    · obtain ⟨g, off, rfl, hc, hgg, hx⟩ := HF.out (by rw [HN.out]; omega)
      have h1 := hx k (by rw [HN.out]; exact hlt)
      have hst := num9_take (l := l) (k := k) (by rw [HN.out]; exact hlt)
      obtain ⟨b0, b1⟩ := OK.out (l[k]'(by rw [HN.out]; exact hlt)) (List.getElem_mem _)
      obtain ⟨b, hbb⟩ : ∃ x, (l[k]'(by rw [HN.out]; exact hlt)) = x := ⟨_, rfl⟩
      rw [hbb] at h1 hst b0 b1
      obtain ⟨c0, c1⟩ := hb.out k (by rw [HN.out]; omega)
      have c2 : num9 (l.take k) ≤ 16777215 := by
        have hk4 : k ≤ 3 := by omega
        have : (256 : Int) ^ k ≤ 256 ^ 3 := by
          match k, hk4 with
          | 0, _ => decide
          | 1, _ => decide
          | 2, _ => decide
          | 3, _ => decide
        omega
      obtain ⟨C, hC⟩ : ∃ C, num9 (l.take k) = C := ⟨_, rfl⟩
      rw [hC] at hst c0 c2 ⊢
      have HST := Lib.hid hst
      have bk : (k : Int) < N := by omega
      have s0 : 0 ≤ C * 256 := by omega
      have s1 : C * 256 ≤ 4294967040 := by omega
      have o8 := or_low8 C b c0 c2 b0 b1
      have wr8 : IntKind.i64.wrap (C * 256) = C * 256 := IntWalk.i64_in _ (by omega)
      have wb8 : IntKind.i64.wrap b = b := IntWalk.i64_in _ (by omega)
      clear hx hbb hst c1 hC
      go_wp2_with fail
      go_round
      case rel => exact ⟨k + 1, by omega, by go_num, by rw [HST.out]⟩
      case measure => simp [intOf]; omega
    · obtain rfl : k = N := by omega
      have e : l.take k = l := by rw [← HN.out, List.take_length]
      rw [e, HR.out]
      clear e
      go_wp2_with fail
      go_ret
      exact ⟨rfl, rfl⟩
end Go.Proofs.Ythjekbbldejlpaa
/- Words of layer 7: the check, half a byte at once. No program. -/
set_option linter.unusedVariables false
namespace Go.Proofs.Ythjekbbldejlpaa
open Go Go.RowKit
def st4 (c : W16) : W16 := iterB 4 c
theorem st4_st8 (c : W16) : st8 c = st4 (st4 c) := rfl
theorem st4_lin (a b : W16) : st4 (a ^^^ b) = st4 a ^^^ st4 b := by simp only [st4, iterB, stB_lin]
theorem stB_small {c : W16} (h : c.toNat < 32768) : (stB c).toNat = c.toNat * 2 := by rw [stB_nat, if_neg (by omega)]
theorem st4_small {c : W16} (h : c.toNat < 4096) : (st4 c).toNat = c.toNat * 16 := by
  have h1 := stB_small (c := c) (by omega)
  have h2 := stB_small (c := stB c) (by omega)
  have h3 := stB_small (c := stB (stB c)) (by omega)
  have h4 := stB_small (c := stB (stB (stB c))) (by omega)
  show (stB (stB (stB (stB c)))).toNat = _
  omega
/-- What a word's highest four bits turn it by. -/
def tab4 (x : Nat) : W16 := st4 (BitVec.ofNat 16 (x * 4096))
theorem low12 (n : Nat) : n ^^^ (n / 4096 * 4096) = n % 4096 := by
  rw [show (4096 : Nat) = 2 ^ 12 from rfl]
  apply Nat.eq_of_testBit_eq
  intro i
  rw [Nat.testBit_xor, Nat.testBit_mul_two_pow, Nat.testBit_mod_two_pow, Nat.testBit_div_two_pow]
  by_cases h : i < 12
  · simp [h, show ¬ 12 ≤ i by omega]
  · simp [h, show 12 ≤ i by omega, show i - 12 + 12 = i by omega]
theorem st4_half (c : W16) : st4 c = (c <<< 4) ^^^ tab4 (c.toNat / 4096) := by
  have hl := c.isLt
  obtain ⟨H, hH⟩ : ∃ H, BitVec.ofNat 16 (c.toNat / 4096 * 4096) = H := ⟨_, rfl⟩
  have hHn : H.toNat = c.toNat / 4096 * 4096 := by rw [← hH, BitVec.toNat_ofNat]; omega
  have hlo : (c ^^^ H).toNat = c.toNat % 4096 := by rw [BitVec.toNat_xor, hHn, low12]
  have e : c = (c ^^^ H) ^^^ H := by rw [BitVec.xor_assoc, BitVec.xor_self, BitVec.xor_zero]
  have h4 : st4 (c ^^^ H) = c <<< 4 := by
    apply BitVec.eq_of_toNat_eq
    rw [st4_small (by omega), hlo, BitVec.toNat_shiftLeft, Nat.shiftLeft_eq]
    omega
  conv => lhs; rw [e, st4_lin, h4]
  unfold tab4
  rw [hH]
/-- Half a byte more. -/
def hsF (c : W16) (x : Nat) : W16 := (c <<< 4) ^^^ tab4 ((c.toNat / 4096) ^^^ x)
theorem hs_step (c : W16) (x : Nat) (hx : x < 16) : st4 (c ^^^ BitVec.ofNat 16 (x * 4096)) = hsF c x := by
  obtain ⟨X, hX⟩ : ∃ X, BitVec.ofNat 16 (x * 4096) = X := ⟨_, rfl⟩
  have hXn : X.toNat = x * 4096 := by rw [← hX, BitVec.toNat_ofNat]; omega
  have h1 : X <<< 4 = 0#16 := by
    apply BitVec.eq_of_toNat_eq
    rw [BitVec.toNat_shiftLeft, Nat.shiftLeft_eq, hXn]
    show _ = 0
    omega
  have h2 : (c.toNat ^^^ x * 4096) / 4096 = (c.toNat / 4096) ^^^ x := by
    rw [show (4096 : Nat) = 2 ^ 12 from rfl, ← Nat.shiftRight_eq_div_pow, ← Nat.shiftRight_eq_div_pow, Nat.shiftRight_xor_distrib, Nat.shiftRight_eq_div_pow (x * 2 ^ 12), Nat.mul_div_cancel _ (by decide)]
  rw [hX, st4_half, BitVec.shiftLeft_xor_distrib, h1, BitVec.xor_zero, BitVec.toNat_xor, hXn, h2]
  rfl
theorem step_two (c : W16) {b : Int} (hb : 0 ≤ b ∧ b ≤ 255) : stepV c b = hsF (hsF c (b.toNat / 16)) (b.toNat % 16) := by
  obtain ⟨n, hn⟩ : ∃ n, b.toNat = n := ⟨_, rfl⟩
  have h1 : byB b = BitVec.ofNat 16 (n / 16 * 4096) ^^^ BitVec.ofNat 16 (n % 16 * 256) := by
    apply BitVec.eq_of_toNat_eq
    unfold byB
    rw [hn, BitVec.toNat_xor, BitVec.toNat_ofNat, BitVec.toNat_ofNat, BitVec.toNat_ofNat]
    have := low12 (n * 256)
    rw [show n * 256 / 4096 = n / 16 by omega, show n * 256 % 4096 = n % 16 * 256 by omega] at this
    rw [show n * 256 % 2 ^ 16 = n * 256 by omega, show n / 16 * 4096 % 2 ^ 16 = n / 16 * 4096 by omega, show n % 16 * 256 % 2 ^ 16 = n % 16 * 256 by omega, ← this, Nat.xor_comm (n * 256), ← Nat.xor_assoc, Nat.xor_self, Nat.zero_xor]
  unfold stepV
  rw [st4_st8, h1, ← BitVec.xor_assoc, st4_lin, hs_step _ _ (by omega)]
  have h2 : st4 (BitVec.ofNat 16 (n % 16 * 256)) = BitVec.ofNat 16 (n % 16 * 4096) := by
    apply BitVec.eq_of_toNat_eq
    rw [st4_small (by rw [BitVec.toNat_ofNat]; omega), BitVec.toNat_ofNat, BitVec.toNat_ofNat]
    omega
  rw [h2, hs_step _ _ (by omega), hn]
theorem ofInt_w (m n : Nat) (h : n < 2 ^ m) : (BitVec.ofInt m (n : Int)).toNat = n := by
  rw [BitVec.toNat_ofInt]
  have : ((n : Int) % ((2 ^ m : Nat) : Int)) = n := Int.emod_eq_of_lt (by omega) (by omega)
  rw [this]
  rfl
theorem u16_xor4 (a b : Nat) (ha : a < 65536) (hb : b < 65536) : bits .xor .u16 (a : Int) (b : Int) = ((a ^^^ b : Nat) : Int) := by
  have hx : a ^^^ b < 2 ^ 16 := Nat.xor_lt_two_pow (by omega) (by omega)
  show IntKind.u16.wrap ((BitVec.ofInt 16 (a : Int) ^^^ BitVec.ofInt 16 (b : Int)).toNat : Int) = _
  rw [BitVec.toNat_xor, ofInt_w 16 a (by omega), ofInt_w 16 b (by omega)]
  show _ % 65536 = _
  omega
theorem u8_xor4 (a b : Nat) (ha : a < 256) (hb : b < 256) : bits .xor .u8 (a : Int) (b : Int) = ((a ^^^ b : Nat) : Int) := by
  have hx : a ^^^ b < 2 ^ 8 := Nat.xor_lt_two_pow (by omega) (by omega)
  show IntKind.u8.wrap ((BitVec.ofInt 8 (a : Int) ^^^ BitVec.ofInt 8 (b : Int)).toNat : Int) = _
  rw [BitVec.toNat_xor, ofInt_w 8 a (by omega), ofInt_w 8 b (by omega)]
  show _ % 256 = _
  omega
end Go.Proofs.Ythjekbbldejlpaa
/- Operations on whole arrays, as one step. No program. -/
set_option linter.unusedVariables false
namespace Go.Proofs.Ythjekbbldejlpaa
open Go Go.RowKit
theorem exec_load_row {P : Program} {o : Oper} {a : Act} {u : World} (T : TypeId) (x : Operand) (ho : o.op = .load T x) {b : Nat} (hx : a.eval x = .pointer (some ⟨b, 0, none⟩)) {cs : Array Value} {t : TypeId} (hg : RowAt u b cs t) {d : TypeDesc}
    (hu : P.underlying T = some d) (hd : (match d with | .struct _ | .array _ _ => true | _ => false) = true) (hi : (P.info? T).map (·.size) = some cs.size) : (execOp a.eval o).run P u = .ok (.value (.agg cs)) u := by
  unfold execOp
  simp only [ho, hx, Instr.loadAt, Instr.sureAddr, Sem.run_bind, Sem.run_pure, Result.andThen_ok, run_loadVar_row u b t T cs (0, 0) d hg hu hd hi]
theorem exec_neq_self {P : Program} {o : Oper} {a : Act} {u : World} (T : TypeId) (x y : Operand) {r : TypeId} (ho : o.op = .binOp .neq T x y r) {cs : Array Value} (hx : a.eval x = .agg cs) (hy : a.eval y = .agg cs)
    (hm : P.eqGuardType P.depth T = false) (h : (binOp .neq T (.agg cs) (.agg cs)).run P u = .ok (.bool false) u) : (execOp a.eval o).run P u = .ok (.value (.bool false)) u := by
  unfold execOp
  simp only [ho, hx, hy, Sem.run_bind, run_eqGuard_agg u .neq T x y cs cs hm, h, Result.andThen_ok, Sem.run_pure]
end Go.Proofs.Ythjekbbldejlpaa
