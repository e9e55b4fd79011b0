/- What the statements of layer 8 call: has a disk what it must have. -/
import Derived.Test.YtkephcmjigfepaaM08
set_option linter.unusedVariables false
set_option linter.unusedSimpArgs false
namespace Go.Proofs.Ytkephcmjigfepaa
open Go.ChangeShapes Go.WideShapes Go.ChangeAt Go.RowKit
theorem rel_at {w : World} : ∀ {rs : List Raw} {bs : Blobs}, RelR w rs bs → ∀ (j : Nat) (h1 : j < rs.length) (h2 : j < bs.length), rs[j].1 = bs[j].1 ∧ BytsAt w rs[j].2 bs[j].2
  | _, _, .cons hx hr, 0, _, _ => hx
  | _, _, .cons hx hr, j + 1, h1, h2 => rel_at hr j (by simpa using h1) (by simpa using h2)
set_option maxHeartbeats 16000000 in
theorem l8_like (I : DiskI) (w0 w : World) (F : Foot) (p vr : Value) (d : St) (n m : Nat) (h0 : Below w0.heap.size w0 w) (hA : I.At w F p d) (hR : DAt w0 w vr d) (ok : StOk d n m) (hn : n ≤ 10000) (hm : m ≤ 10000000) :
    Calls Try.prog 13 #[p, vr] w fun e w' => e = .returned (.bool true) ∧ Below w.heap.size w w' := by
  obtain ⟨vs, vl, rs, rl, rfl, hs, hl, hrs, hrl⟩ := id hR
  obtain ⟨p1, c1, rfl, _⟩ := hs.form
  obtain ⟨q1, e1, rfl, _⟩ := hl.form
  obtain ⟨n1, hn1⟩ : ∃ x, rs.length = x := ⟨_, rfl⟩
  obtain ⟨m1, hm1⟩ : ∃ x, rl.length = x := ⟨_, rfl⟩
  have lnA := all_len d
  have lnO := ok.len
  have smO := ok.sum
  have smA := nowF_sum d.under d.safe
  have NOW := Lib.hid (fun u hu => rA_now (dV d.room d.fails d.wait (.slice p1 rs.length c1) (.slice q1 rl.length e1)) d w0 u (n := n) (m := m) hu ok (by omega))
  have KEYS := Lib.hid (fun u hu => I.keys u F p d n m hu ok (by omega) (by omega))
  have DLEN := Lib.hid (fun u hu => I.len u F p d n m hu ok (by omega) (by omega))
  have ROOM := Lib.hid (fun u hu => I.room u F p d hu)
  have LEFT := Lib.hid (fun u hu => I.left u F p d n m hu ok (by omega) (by omega))
  have GET := Lib.hid (fun k u hu hk => I.get u F p d k n m hu ok (by omega) (by omega) hk)
  have RLENL := Lib.hid (fun u hu => rA_len (.slice q1 rl.length e1) rl d.under w0 u hu hrl ok.ru (by omega) (by omega))
  have kA : keysOk d.all := fun x hx => (ok.allmem x hx).1
  have RLEN := Lib.hid (fun v ra u hu hr => rA_len v ra d.all w0 u hu hr kA (by omega) (by unfold St.all; omega))
  have sA : Srt d.all := ok.srt.now
  have gA : ∀ j (h : j < d.all.length), getSt d d.all[j].1 = (d.all[j].2, true) := fun j h => by
    unfold getSt
    rw [sA.get h]
    rfl
  have oA : ∀ j (h : j < d.all.length), i64 d.all[j].1 ∧ bytOk d.all[j].2 := fun j h => ok.allmem _ (List.getElem_mem h)
  obtain ⟨AA, hAA⟩ : ∃ x, d.all = x := ⟨_, rfl⟩
  obtain ⟨N, hN⟩ : ∃ x, AA.length = x := ⟨_, rfl⟩
  replace gA : ∀ j (h : j < AA.length), getSt d AA[j].1 = (AA[j].2, true) := by intro j h; subst hAA; exact gA j h
  replace oA : ∀ j (h : j < AA.length), i64 AA[j].1 ∧ bytOk AA[j].2 := by intro j h; subst hAA; exact oA j h
  rw [hAA] at lnA
  have GA := Lib.hid gA
  have OA := Lib.hid oA
  have HN := Lib.hid hN
  have HAA := Lib.hid hAA
  have H0 := Lib.hid h0
  have LN := Lib.hid lnA
  obtain ⟨pa, rfl⟩ := I.ptr hA
  rw [hn1] at NOW ⊢
  rw [hm1] at NOW RLENL hl ⊢
  rw [hn1, hm1] at hR
  have bN : N ≤ 10000 := by omega
  clear gA oA sA kA smA smO lnO lnA ok hN hAA hrl hrs hn1 hm1 hs h0
  go_enter Try.func13, Try.ntmps13
  go_wp2_with fail
  have k0 : Below w.heap.size w (w.alloc (.cells #[.int .i64 d.room, .int .i64 d.fails, .int .i64 d.wait, .slice p1 n1 c1, .slice q1 m1 e1] 28)) := al (Below.refl _ _) _
  refine (NOW.out _ (hR.keep k0)).mono ?_
  rintro e w1 ⟨v1, ra, rfl, hra, hrr, hv⟩
  have rb : RowAt w1 w.heap.size #[.int .i64 d.room, .int .i64 d.fails, .int .i64 d.wait, .slice p1 n1 c1, .slice q1 m1 e1] 28 := (RowAt.new w _ _).keep hv
  have k1 := chain k0 hv
  clear hv k0 hR
  rw [HAA.out] at hrr
  have lra := hrr.len
  rw [HN.out] at lra
  obtain ⟨pl, cl, rfl, hfl⟩ := hra.form
  have hfl2 : 0 < N → ∃ g off, pl = some ⟨g, off, none⟩ ∧ g < w1.heap.size ∧ ∀ j (h : j < ra.length), w1.cell? ⟨g, off + j * 2, none⟩ = some (.int .i64 ra[j].1) ∧ w1.cell? ⟨g, off + j * 2 + 1, none⟩ = some ra[j].2 := fun h => by
    obtain ⟨g, off, e, _, hg, hx⟩ := hfl (by rw [lra]; exact h)
    exact ⟨g, off, e, hg, hx⟩
  clear hfl
  rw [lra] at hra ⊢
  go_wp2_with fail
  refine (KEYS.out _ (I.keep hA k1)).mono ?_
  rintro e w2 ⟨v2, rfl, hk2, hv⟩
  have k2 := chain k1 hv
  have k12 : Below w1.heap.size w1 w2 := hv
  replace rb := rb.keep hv
  replace hra := hra.keep hv
  clear hv
  rw [HAA.out] at hk2
  obtain ⟨pk, ck, rfl, hfk⟩ := hk2.form
  have lk : (AA.map (·.1)).length = N := by rw [List.length_map, HN.out]
  have hfk2 : 0 < N → ∃ g off, pk = some ⟨g, off, none⟩ ∧ g < w2.heap.size ∧ ∀ j (h : j < AA.length), w2.cell? ⟨g, off + j, none⟩ = some (.int .i64 AA[j].1) := fun h => by
    obtain ⟨g, off, e, _, hg, hx⟩ := hfk (by rw [lk]; exact h)
    exact ⟨g, off, e, hg, fun j hj => by have := hx j (by rw [lk, ← HN.out]; exact hj); simpa using this⟩
  clear hfk
  rw [lk] at hk2 ⊢
  have cb : ∀ jj, w2.cell? ⟨w.heap.size, jj, none⟩ = (#[.int .i64 d.room, .int .i64 d.fails, .int .i64 d.wait, .slice p1 n1 c1, .slice q1 m1 e1] : Array Value)[jj]? := rb.cell
  have fb : ∀ jj, w2.frozen? ⟨w.heap.size, jj, none⟩ = false := rb.frozen
  have zb : w.heap.size < w2.heap.size := rb.lt
  have HFK := Lib.hid hfk2
  have HFL := Lib.hid hfl2
  have LRA := Lib.hid lra
  clear hfk2 hfl2 lra lk k1
  go_upto_region 3 with (fail)
  refine region_plan 27 (.calm 0 (.calm 1 (.calm 2 (.calm 3 (.calm 4 (.calm 5 (.calm 6 (.calm 8 (.one 7 (.one 9 (.calm 10 (.calm 11 (.calm 12 (.calm 13 (.calm 15 (.calm 16 (.one 14 (.calm 17 (.calm 18 (.calm 19 (.calm 20 (.calm 22 (.calm 23 (.one 21 (.one 24 (.calm 25 (.calm 26 (.done)))))))))))))))))))))))))))) (by kernel_rfl) (by kernel_rfl) (by kernel_rfl) rfl (by kernel_rfl) (fun c a d v w h => by cases d <;> exact h) ?_
  intro u3 hu3 hszu3
  repeat (first | (refine' PlanW.skip (by rfl) (by rfl) ?_; simp only [Act.put, List.getElem_toArray, List.getElem_cons_zero, List.getElem_cons_succ, List.setIfInBounds_toArray, List.set_cons_zero, List.set_cons_succ]) | (refine' PlanW.val (by rfl) (by rfl) (fun wr hr => ?_) ?_; rotate_left 1; (focus (obtain ⟨hrc, hrf⟩ := bcell hr; (go_simp <;> with_reducible rfl); done)); simp only [Act.put, List.getElem_toArray, List.getElem_cons_zero, List.getElem_cons_succ, List.setIfInBounds_toArray, List.set_cons_zero, List.set_cons_succ]))
  have k3 := chain k2 hu3
  refine PlanW.one (by rfl) ?_
  go_wp2_with fail
  refine (DLEN.out _ (I.keep hA k3)).mono ?_
  rintro e w4 ⟨rfl, hv⟩
  have q4 := chain hu3 hv
  have k4 := chain k3 hv
  clear hv
  go_wp2_with fail
  refine ⟨.inr q4, PlanW.one (by rfl) ?_⟩
  go_wp2_with fail
  refine (RLEN.out _ _ _ (hra.keep q4) (by rw [HAA.out]; exact hrr)).mono ?_
  rintro e w5 ⟨rfl, hv⟩
  have q5 := chain q4 hv
  have k5 := chain k4 hv
  clear hv q4 k4
  go_wp2_with fail
  refine ⟨.inr q5, ?_⟩
  repeat (first | (refine' PlanW.skip (by rfl) (by rfl) ?_; simp only [Act.put, List.getElem_toArray, List.getElem_cons_zero, List.getElem_cons_succ, List.setIfInBounds_toArray, List.set_cons_zero, List.set_cons_succ]) | (refine' PlanW.val (by rfl) (by rfl) (fun wr hr => ?_) ?_; rotate_left 1; (focus (obtain ⟨hrc, hrf⟩ := bcell hr; (go_simp <;> with_reducible rfl); done)); simp only [Act.put, List.getElem_toArray, List.getElem_cons_zero, List.getElem_cons_succ, List.setIfInBounds_toArray, List.set_cons_zero, List.set_cons_succ]))
  refine PlanW.one (by rfl) ?_
  go_wp2_with fail
  refine (ROOM.out _ (I.keep hA k5)).mono ?_
  rintro e w6 ⟨rfl, hv⟩
  have q6 := chain q5 hv
  have k6 := chain k5 hv
  clear hv q5 k5
  go_wp2_with fail
  refine ⟨.inr q6, ?_⟩
  repeat (first | (refine' PlanW.skip (by rfl) (by rfl) ?_; simp only [Act.put, List.getElem_toArray, List.getElem_cons_zero, List.getElem_cons_succ, List.setIfInBounds_toArray, List.set_cons_zero, List.set_cons_succ]) | (refine' PlanW.val (by rfl) (by rfl) (fun wr hr => ?_) ?_; rotate_left 1; (focus (obtain ⟨hrc, hrf⟩ := bcell hr; (go_simp <;> with_reducible rfl); done)); simp only [Act.put, List.getElem_toArray, List.getElem_cons_zero, List.getElem_cons_succ, List.setIfInBounds_toArray, List.set_cons_zero, List.set_cons_succ]))
  refine PlanW.one (by rfl) ?_
  go_wp2_with fail
  refine (LEFT.out _ (I.keep hA k6)).mono ?_
  rintro e w7 ⟨rfl, hv⟩
  have q7 := chain q6 hv
  have k7 := chain k6 hv
  clear hv q6 k6
  go_wp2_with fail
  refine ⟨.inr q7, PlanW.one (by rfl) ?_⟩
  go_wp2_with fail
  refine (RLENL.out _ (hl.keep k7)).mono ?_
  rintro e w8 ⟨rfl, hv⟩
  have q8 := chain q7 hv
  have k8 := chain k7 hv
  clear hv q7 k7
  go_wp2_with fail
  refine ⟨.inr q8, ?_⟩
  repeat (first | (refine' PlanW.skip (by rfl) (by rfl) ?_; simp only [Act.put, List.getElem_toArray, List.getElem_cons_zero, List.getElem_cons_succ, List.setIfInBounds_toArray, List.set_cons_zero, List.set_cons_succ]) | (refine' PlanW.val (by rfl) (by rfl) (fun wr hr => ?_) ?_; rotate_left 1; (focus (obtain ⟨hrc, hrf⟩ := bcell hr; (go_simp <;> with_reducible rfl); done)); simp only [Act.put, List.getElem_toArray, List.getElem_cons_zero, List.getElem_cons_succ, List.setIfInBounds_toArray, List.set_cons_zero, List.set_cons_succ]))
  refine PlanW.done ?_
  replace hra := hra.keep q8
  replace hk2 := hk2.keep q8
  clear cb fb zb
  have k28 : Below w2.heap.size w2 w8 := q8
  clear rb hu3 k3
  go_wp2_with fail
  go_loopw [7] (fun i wr => ∃ j : Nat, j ≤ N ∧ i = .int .i64 j ∧ Below w8.heap.size w8 wr) (fun i _ => N - (intOf i).toNat)
  case atStart => exact ⟨0, by omega, rfl, Below.refl _ _⟩
  case round =>
    obtain ⟨j, hj, rfl, kw⟩ := hrel
    have kwr := chain k8 kw
    by_cases hlt : j < N
    · obtain ⟨g, off, rfl, hg, hx⟩ := HFL.out (by omega)
      obtain ⟨g', off', rfl, hg', hx'⟩ := HFK.out (by omega)
      have hja : j < AA.length := by rw [HN.out]; exact hlt
      have hjr : j < ra.length := by rw [LRA.out]; exact hlt
      obtain ⟨x1, x2⟩ := hx j hjr
      have x3 := hx' j hja
      obtain ⟨rel1, rel2⟩ := rel_at hrr j hjr hja
      obtain ⟨ik, ob⟩ := OA.out j hja
      have gt := GA.out j hja
      rw [rel1] at x1
      obtain ⟨xk, hxk⟩ : ∃ x, AA[j].1 = x := ⟨_, rfl⟩
      obtain ⟨xB, hxB⟩ : ∃ x, AA[j].2 = x := ⟨_, rfl⟩
      obtain ⟨xv, hxv⟩ : ∃ x, ra[j].2 = x := ⟨_, rfl⟩
      rw [hxk] at x1 x3 ik gt
      rw [hxB] at rel2 ob gt
      rw [hxv] at x2 rel2
      obtain ⟨pv, cv, rfl⟩ := rel2.shape
      have kq := chain k28 kw
      have k1q := chain k12 kq
      have y1 : wr.cell? ⟨g, off + j * 2, none⟩ = some (.int .i64 xk) := keepc k1q hg x1
      have y2 : wr.cell? ⟨g, off + j * 2 + 1, none⟩ = some (.slice pv xB.length cv) := keepc k1q hg x2
      have y3 : wr.cell? ⟨g', off' + j, none⟩ = some (.int .i64 xk) := keepc kq hg' x3
      have zg : g < wr.heap.size := Nat.lt_of_lt_of_le hg k1q.size
      have zg' : g' < wr.heap.size := Nat.lt_of_lt_of_le hg' kq.size
      have gt2 := GET.out xk wr (I.keep hA kwr) ik
      rw [gt] at gt2
      simp only [] at gt2
      have GT2 := Lib.hid gt2
      have REL := Lib.hid rel2
      have bj : (j : Int) < N := by omega
      clear hx hx' hja hjr x1 x2 x3 rel1 rel2 gt gt2 hxk hxB hxv k1q kq
      go_wp2_with fail
      refine GT2.out.mono ?_
      rintro e w9 ⟨vb, rfl, hb9, hv9⟩
      obtain ⟨pb, cb, rfl⟩ := hb9.shape
      have y1 := keepc hv9 zg y1
      have y2 := keepc hv9 zg y2
      have y3 := keepc hv9 zg' y3
      have zg := size_lt zg hv9
      have zg' := size_lt zg' hv9
      have k9 := chain kwr hv9
      have kl9 := chain kw hv9
      have HB9 := Lib.hid hb9
      clear hv9 hb9 kwr kw
      go_upto_region 9 with (fail)
      refine region_plan 24 (.calm 0 (.calm 1 (.calm 2 (.calm 3 (.calm 4 (.calm 5 (.calm 6 (.calm 7 (.calm 8 (.calm 9 (.calm 10 (.calm 11 (.calm 12 (.calm 13 (.calm 14 (.calm 15 (.calm 16 (.calm 17 (.calm 18 (.calm 19 (.calm 20 (.one 21 (.calm 22 (.calm 23 (.done))))))))))))))))))))))))) (by kernel_rfl) (by kernel_rfl) (by kernel_rfl) rfl (by kernel_rfl) (fun c a d v w h => by cases d <;> exact h) ?_
      intro u9 hu9 hszu9
      repeat (first | (refine' PlanW.skip (by rfl) (by rfl) ?_; simp only [Act.put, List.getElem_toArray, List.getElem_cons_zero, List.getElem_cons_succ, List.setIfInBounds_toArray, List.set_cons_zero, List.set_cons_succ]) | (refine' PlanW.val (by rfl) (by rfl) (fun wr hr => ?_) ?_; rotate_left 1; (focus (obtain ⟨hrc, hrf⟩ := bcell hr; (go_simp <;> with_reducible rfl); done)); simp only [Act.put, List.getElem_toArray, List.getElem_cons_zero, List.getElem_cons_succ, List.setIfInBounds_toArray, List.set_cons_zero, List.set_cons_succ]))
      refine PlanW.one (by rfl) ?_
      go_wp2_with fail
      refine (r6_same _ _ xB xB u9 (HB9.out.keep hu9) (REL.out.keep (Below.trans H0.out ((chain k9 hu9).mono H0.out.size))) ob ob).mono ?_
      rintro e w10 ⟨rfl, hv10⟩
      have q10 := chain hu9 hv10
      have kl10 := chain kl9 q10
      go_wp2_with fail
      refine ⟨.inr q10, ?_⟩
      repeat (first | (refine' PlanW.skip (by rfl) (by rfl) ?_; simp only [Act.put, List.getElem_toArray, List.getElem_cons_zero, List.getElem_cons_succ, List.setIfInBounds_toArray, List.set_cons_zero, List.set_cons_succ]) | (refine' PlanW.val (by rfl) (by rfl) (fun wr hr => ?_) ?_; rotate_left 1; (focus (obtain ⟨hrc, hrf⟩ := bcell hr; (go_simp <;> with_reducible rfl); done)); simp only [Act.put, List.getElem_toArray, List.getElem_cons_zero, List.getElem_cons_succ, List.setIfInBounds_toArray, List.set_cons_zero, List.set_cons_succ]))
      refine PlanW.done ?_
      go_wp2_with fail
      go_roundw
      case rel => exact ⟨j + 1, by omega, by go_num, kl10⟩
      case measure => simp [intOf]; omega
    · obtain rfl : j = N := by omega
      go_wp2_with fail
      go_ret
      exact ⟨rfl, kwr⟩
end Go.Proofs.Ytkephcmjigfepaa
