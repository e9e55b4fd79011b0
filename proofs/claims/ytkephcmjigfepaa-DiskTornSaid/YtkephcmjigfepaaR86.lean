/- Contracts of layer 8's reference (disk): Crash. Written by gen_r86.py. -/
import Derived.Test.YtkephcmjigfepaaR85
set_option linter.unusedVariables false
set_option linter.unusedSimpArgs false
namespace Go.Proofs.Ytkephcmjigfepaa
open Go.ChangeShapes Go.WideShapes Go.ChangeAt Go.RowKit
set_option maxRecDepth 10000 in
set_option maxHeartbeats 8000000 in
theorem r8_crash (room fails wait keep : Int) (vs vl : Value) (s l : List Raw) (w : World) (hk : i64 keep) (hs : RawAt w vs s) (hl : RawAt w vl l) (oks : rawOk s) (okl : rawOk l) (hS : s.length ≤ 40000) (hL : l.length ≤ 40000) (hB : lenR l ≤ 1000000000000) (hcap : ∀ x ∈ l, ∀ p n c, x.2 = .slice p n c → n ≤ c) :
    Calls Try.prog 26 #[dV room fails wait vs vl, .int .i64 keep] w fun e w' =>
      ∃ vs', e = .returned (.tuple #[dV room 0 0 vs' (.slice none 0 0), .int .i64 ((lenR l : Int) - (min keep.toNat (lenR l) : Nat))]) ∧ RawAt w' vs' (crashGo slLen slCut s (min keep.toNat (lenR l)) l) ∧ Below w.heap.size w w' := by
  have len := fun u hu => r8_len vl l u hu okl (by omega) hB
  obtain ⟨RR, hRR⟩ : ∃ RR, crashGo slLen slCut s (min keep.toNat (lenR l)) l = RR := ⟨_, rfl⟩
  obtain ⟨A, hA⟩ : ∃ A, lenR l = A := ⟨_, rfl⟩
  rw [hA] at len hB hRR
  rw [hA, show crashGo slLen slCut s (min keep.toNat A) l = RR from hRR]
  obtain ⟨B, hBe⟩ : ∃ B, min keep.toNat A = B := ⟨_, rfl⟩
  obtain ⟨K0, hK0⟩ : ∃ K, max keep 0 = K := ⟨_, rfl⟩
  have hmin : min K0 (A : Int) = (B : Int) := by omega
  have bB : B ≤ A := by omega
  rw [hBe] at hRR ⊢
  clear hBe
  obtain ⟨ps, cs, rfl, _⟩ := hs.form
  obtain ⟨p, cap, rfl, hfl⟩ := hl.form
  obtain ⟨N, hN⟩ : ∃ N, l.length = N := ⟨_, rfl⟩
  obtain ⟨M, hM⟩ : ∃ N, s.length = N := ⟨_, rfl⟩
  have wA : IntKind.i64.wrap ((A : Int) - (B : Int)) = (A : Int) - B := IntWalk.i64_in _ (by omega)
  rw [hN] at hl hL len
  rw [hN]
  rw [hM] at hs hS ⊢
  have LEN := Lib.hid len
  have HN := Lib.hid hN
  have HM := Lib.hid hM
  have HFL := Lib.hid hfl
  have OKL := Lib.hid okl
  have OKS := Lib.hid oks
  have HRR := Lib.hid hRR
  have HCAP := Lib.hid hcap
  clear len hN hM okl oks hfl hA hRR hcap
  have wpos := w.heap.size
  go_enter Try.func26, Try.ntmps26
  go_wp2_with fail
  refine (LEN.out _ (hl.keep (by (repeat (first | with_reducible assumption | with_reducible exact Below.refl _ _ | with_reducible refine Below.drew ?_ | with_reducible refine below_drewN ?_ _ | with_reducible refine al ?_ _ | (with_reducible refine sc ?_ ?_; (focus (first | omega | (simp; done) | (simp; omega)))) | (with_reducible refine chain ?_ (by assumption))))))).mono ?_
  rintro e w1 ⟨rfl, hv⟩
  have kw : Below w.heap.size w w1 := by (repeat (first | with_reducible assumption | with_reducible exact Below.refl _ _ | with_reducible refine Below.drew ?_ | with_reducible refine below_drewN ?_ _ | with_reducible refine al ?_ _ | (with_reducible refine sc ?_ ?_; (focus (first | omega | (simp; done) | (simp; omega)))) | (with_reducible refine chain ?_ (by assumption))))
  have rb : RowAt w1 w.heap.size #[.int .i64 room, .int .i64 fails, .int .i64 wait, .slice ps M cs, .slice p N cap] 28 := ((RowAt.new w _ _).alloc _).keep hv
  have rr : RowAt w1 (w.heap.size + 1) #[.int .i64 0, .int .i64 0, .int .i64 0, .slice none 0 0, .slice none 0 0] 28 := (RowAt.make _ _ _ (by simp)).keep hv
  have of0 := hs.off (Nat.le_refl w.heap.size)
  have of1 := hs.off (Nat.le_succ w.heap.size)
  have hs1 := hs.keep kw
  clear hv hs
  go_wp2_with fail
  go_loopw [7, 9] (fun lf i wr => ∃ (j left : Nat) (p3 : Option Addr) (n3 c3 : Nat) (S : List Raw), j ≤ N ∧ i = .int .i64 j ∧ lf = .int .i64 left ∧ left ≤ A ∧ crashGo slLen slCut S left (l.drop j) = RR ∧ rawOk S ∧ S.length ≤ M + j ∧ RawAt wr (.slice p3 n3 c3) S ∧ offR w.heap.size (.slice p3 n3 c3) S ∧ offR (w.heap.size + 1) (.slice p3 n3 c3) S ∧
    RowAt wr w.heap.size #[.int .i64 room, .int .i64 fails, .int .i64 wait, .slice p3 n3 c3, .slice p N cap] 28 ∧ RowAt wr (w.heap.size + 1) #[.int .i64 0, .int .i64 0, .int .i64 0, .slice none 0 0, .slice none 0 0] 28 ∧ Below w.heap.size w wr) (fun _ i _ => N - (intOf i).toNat)
  case atStart => exact ⟨0, B, ps, M, cs, s, by omega, rfl, rfl, bB, HRR.out, OKS.out, by rw [HM.out]; omega, hs1, of0, of1, rb, rr, kw⟩
  case round =>
    clear hs1 of0 of1 rb rr kw
    obtain ⟨j, left, p3, n3, c3, S, hj, rfl, rfl, bl, hR, okS, lnS, hs, of0, of1, rb, rr, kw⟩ := hrel
    by_cases hlt : j < N
    · have hlt2 : j < l.length := by rw [HN.out]; exact hlt
      obtain ⟨g, off, rfl, hc, zg0, hx⟩ := HFL.out (by omega)
      obtain ⟨h0, h1⟩ := hx j hlt2
      obtain ⟨okk, xp, xn, xc, hxs⟩ := OKL.out _ (List.getElem_mem hlt2)
      rw [List.drop_eq_getElem_cons hlt2, crashGo] at hR
      have hcp := HCAP.out _ (List.getElem_mem hlt2)
      obtain ⟨⟨xk, xb⟩, hxe⟩ : ∃ x, l[j] = x := ⟨_, rfl⟩
      rw [hxe] at h0 h1 hxs okk hR hcp
      simp only [] at h0 h1 hxs okk hR hcp
      subst hxs
      replace hcp := hcp _ _ _ rfl
      replace hR : (if xn ≤ left then crashGo slLen slCut (layF S (xk, .slice xp xn xc)) (left - xn) (l.drop (j + 1)) else layF S (xk, .slice xp left xc)) = RR := hR
      have c0 := keepc kw zg0 h0
      have c1 := keepc kw zg0 h1
      have zg : g < wr.heap.size := Nat.lt_of_lt_of_le zg0 kw.size
      have HRX := Lib.hid hR
      have OKS2 := Lib.hid okS
      obtain ⟨X, hX⟩ : ∃ X, wr.alloc (.cells #[.int .i64 xk, .slice xp xn xc] 70) = X := ⟨_, rfl⟩
      have kX : Below wr.heap.size wr X := by rw [← hX]; exact al (Below.refl _ _) _
      have rx : RowAt X wr.heap.size #[.int .i64 xk, .slice xp xn xc] 70 := by rw [← hX]; exact RowAt.new wr _ _
      have e0 : w.heap.size < wr.heap.size := rb.lt
      have e1 : w.heap.size + 1 < wr.heap.size := rr.lt
      have HX := Lib.hid hX
      clear hX h0 h1 hx hR hxe hc okS
      have cb : ∀ jj, wr.cell? ⟨w.heap.size, jj, none⟩ = (#[.int .i64 room, .int .i64 fails, .int .i64 wait, .slice p3 n3 c3, .slice (some ⟨g, off, none⟩) N cap] : Array Value)[jj]? := rb.cell
      have fb : ∀ jj, wr.frozen? ⟨w.heap.size, jj, none⟩ = false := rb.frozen
      have zb : w.heap.size < wr.heap.size := rb.lt
      go_upto_region 8 with (fail)
      rw [HX.out]
      clear cb fb zb
      clear c0 c1
      have kwX := chain kw kX
      replace hs := hs.keep kX
      replace rb := rb.keep kX
      replace rr := rr.keep kX
      clear kX kw
      have cb : ∀ jj, X.cell? ⟨w.heap.size, jj, none⟩ = (#[.int .i64 room, .int .i64 fails, .int .i64 wait, .slice p3 n3 c3, .slice (some ⟨g, off, none⟩) N cap] : Array Value)[jj]? := rb.cell
      have fb : ∀ jj, X.frozen? ⟨w.heap.size, jj, none⟩ = false := rb.frozen
      have zb : w.heap.size < X.heap.size := rb.lt
      have cx : ∀ jj, X.cell? ⟨wr.heap.size, jj, none⟩ = (#[.int .i64 xk, .slice xp xn xc] : Array Value)[jj]? := rx.cell
      have fx : ∀ jj, X.frozen? ⟨wr.heap.size, jj, none⟩ = false := rx.frozen
      have zx : wr.heap.size < X.heap.size := rx.lt
      by_cases hfit : xn ≤ left
      · have hR := HRX.out
        rw [if_pos hfit] at hR
        have HR2 := Lib.hid hR
        clear hR
        have bfit : (xn : Int) ≤ (left : Int) := by omega
        have wL : IntKind.i64.wrap ((left : Int) - (xn : Int)) = ((left - xn : Nat) : Int) := by rw [IntWalk.i64_in _ (by omega)]; omega
        have lnS2 : (layF S (xk, Value.slice xp xn xc)).length ≤ M + (j + 1) := by have := layF_len S (xk, Value.slice xp xn xc); omega
        have lay := r8_lay (.slice p3 n3 c3) S xk xp xn xc X hs OKS2.out (by omega)
        obtain ⟨S2, hS2⟩ : ∃ S2, layF S (xk, Value.slice xp xn xc) = S2 := ⟨_, rfl⟩
        have okS3 : rawOk S2 := by rw [← hS2]; exact OKS2.out.lay ⟨okk, _, _, _, rfl⟩
        rw [hS2] at lay lnS2 HR2
        have LAY := Lib.hid lay
        have OK3 := Lib.hid okS3
        clear lay hS2 okS3
        go_wp2_with fail
        refine LAY.out.mono ?_
        rintro e w5 ⟨v5, rfl, ho5, hv5⟩
        have k5 := chain kwX hv5
        obtain ⟨p5, c5, rfl⟩ := own_form ho5
        obtain ⟨n5, hn5⟩ : ∃ n, S2.length = n := ⟨_, rfl⟩
        have hr5 : RawAt w5 (.slice p5 n5 c5) S2 := by rw [← hn5]; exact raws_of_owned ho5
        have q0 : offR w.heap.size (.slice p5 n5 c5) S2 := by rw [← hn5]; exact off_of_owned ho5 (by have := rx.lt; omega) _
        have q1 : offR (w.heap.size + 1) (.slice p5 n5 c5) S2 := by rw [← hn5]; exact off_of_owned ho5 (by have := rx.lt; omega) _
        rw [hn5]
        have HN5 := Lib.hid hn5
        clear hn5 ho5
        clear cb fb zb cx fx zx
        clear of0 of1 hs
        replace rb := rb.keep hv5
        replace rr := rr.keep hv5
        clear rx hv5
        have cb : ∀ jj, w5.cell? ⟨w.heap.size, jj, none⟩ = (#[.int .i64 room, .int .i64 fails, .int .i64 wait, .slice p3 n3 c3, .slice (some ⟨g, off, none⟩) N cap] : Array Value)[jj]? := rb.cell
        have fb : ∀ jj, w5.frozen? ⟨w.heap.size, jj, none⟩ = false := rb.frozen
        have zb : w.heap.size < w5.heap.size := rb.lt
        go_wp2_with fail
        clear cb fb zb
        have k6 := k5.setCell (p := ⟨w.heap.size, 3, none⟩) (Nat.le_refl _) (.slice p5 n5 c5)
        have hr6 := hr5.setCell (p := ⟨w.heap.size, 3, none⟩) q0 (.slice p5 n5 c5)
        have rr6 := rr.other (p := ⟨w.heap.size, 3, none⟩) (Nat.succ_ne_self _) (.slice p5 n5 c5)
        have rb6 : RowAt (w5.setCell ⟨w.heap.size, 3, none⟩ (.slice p5 n5 c5)) w.heap.size #[.int .i64 room, .int .i64 fails, .int .i64 wait, .slice p5 n5 c5, .slice (some ⟨g, off, none⟩) N cap] 28 := by simpa using rb.set 3 (.slice p5 n5 c5)
        go_roundw
        case rel => exact ⟨j + 1, left - xn, p5, n5, c5, S2, by omega, by go_num, by first | rfl | rw [wL], by omega, HR2.out, OK3.out, lnS2, hr6, q0, q1, rb6, rr6, k6⟩
        case measure => simp [intOf]; omega
      · have hR := HRX.out
        rw [if_neg hfit] at hR
        have HR2 := Lib.hid hR
        clear hR
        have bfit : ¬ (xn : Int) ≤ (left : Int) := by omega
        have bl2 : left ≤ xc := by omega
        have bl3 : (left : Int) ≤ (xc : Int) := by omega
        have lay := r8_lay (.slice p3 n3 c3) S xk xp left xc
        rw [HR2.out] at lay
        have LAY := Lib.hid lay
        clear lay
        go_upto_region 11 with (fail)
        refine region_plan 11 (.calm 0 (.calm 1 (.calm 2 (.calm 3 (.calm 4 (.calm 5 (.calm 6 (.calm 7 (.calm 8 (.one 9 (.calm 10 (.one 11 (.done))))))))))))) (by kernel_rfl) (by kernel_rfl) (by kernel_rfl) rfl (by kernel_rfl) (fun c a d v w h => by cases d <;> exact h) ?_
        intro u4 hu4 hszu4
        repeat (first | (refine' PlanW.skip (by rfl) (by rfl) ?_; simp only [Act.put, List.getElem_toArray, List.getElem_cons_zero, List.getElem_cons_succ, List.setIfInBounds_toArray, List.set_cons_zero, List.set_cons_succ]) | (refine' PlanW.val (by rfl) (by rfl) (fun wr hr => ?_) ?_; rotate_left 1; (focus (obtain ⟨hrc, hrf⟩ := bcell hr; (go_simp <;> with_reducible rfl); done)); simp only [Act.put, List.getElem_toArray, List.getElem_cons_zero, List.getElem_cons_succ, List.setIfInBounds_toArray, List.set_cons_zero, List.set_cons_succ]))
        have k4 := chain kwX hu4
        refine PlanW.one (by rfl) ?_
        go_wp2_with fail
        refine (LAY.out _ (hs.keep hu4) OKS2.out (by omega)).mono ?_
        rintro e w5 ⟨v5, rfl, ho5, hv5⟩
        have q5 := chain hu4 hv5
        have k5 := chain k4 hv5
        obtain ⟨p5, c5, rfl⟩ := own_form ho5
        obtain ⟨n5, hn5⟩ : ∃ n, RR.length = n := ⟨_, rfl⟩
        have sz4 := hu4.size
        have hr5 : RawAt w5 (.slice p5 n5 c5) RR := by rw [← hn5]; exact raws_of_owned ho5
        have q0 : offR w.heap.size (.slice p5 n5 c5) RR := by rw [← hn5]; exact off_of_owned ho5 (by have := rx.lt; omega) _
        have q1 : offR (w.heap.size + 1) (.slice p5 n5 c5) RR := by rw [← hn5]; exact off_of_owned ho5 (by have := rx.lt; omega) _
        rw [hn5]
        clear hn5 ho5 of0 of1 hs
        clear cb fb zb cx fx zx
        replace rb := rb.keep q5
        replace rr := rr.keep q5
        clear rx hv5 hu4 k4 kwX
        have cb : ∀ jj, w5.cell? ⟨w.heap.size, jj, none⟩ = (#[.int .i64 room, .int .i64 fails, .int .i64 wait, .slice p3 n3 c3, .slice (some ⟨g, off, none⟩) N cap] : Array Value)[jj]? := rb.cell
        have fb : ∀ jj, w5.frozen? ⟨w.heap.size, jj, none⟩ = false := rb.frozen
        have zb : w.heap.size < w5.heap.size := rb.lt
        go_wp2_with fail
        refine ⟨.inr q5, ?_⟩
        repeat (first | (refine' PlanW.skip (by rfl) (by rfl) ?_; simp only [Act.put, List.getElem_toArray, List.getElem_cons_zero, List.getElem_cons_succ, List.setIfInBounds_toArray, List.set_cons_zero, List.set_cons_succ]) | (refine' PlanW.val (by rfl) (by rfl) (fun wr hr => ?_) ?_; rotate_left 1; (focus (obtain ⟨hrc, hrf⟩ := bcell hr; (go_simp <;> with_reducible rfl); done)); simp only [Act.put, List.getElem_toArray, List.getElem_cons_zero, List.getElem_cons_succ, List.setIfInBounds_toArray, List.set_cons_zero, List.set_cons_succ]))
        refine PlanW.one (by rfl) ?_
        go_wp2_with fail
        refine ⟨by first | exact trivial | exact .inl rfl, PlanW.done ?_⟩
        clear cb fb zb
        have kT := k5.setCell (p := ⟨w.heap.size, 3, none⟩) (Nat.le_refl _) (.slice p5 n5 c5)
        have hr6 := hr5.setCell (p := ⟨w.heap.size, 3, none⟩) q0 (.slice p5 n5 c5)
        replace rr := rr.other (p := ⟨w.heap.size, 3, none⟩) (Nat.succ_ne_self _) (.slice p5 n5 c5)
        have rb6 : RowAt (w5.setCell ⟨w.heap.size, 3, none⟩ (.slice p5 n5 c5)) w.heap.size #[.int .i64 room, .int .i64 fails, .int .i64 wait, .slice p5 n5 c5, .slice (some ⟨g, off, none⟩) N cap] 28 := by simpa using rb.set 3 (.slice p5 n5 c5)
        clear rb k5 hr5 q5
        generalize w5.setCell ⟨w.heap.size, 3, none⟩ (.slice p5 n5 c5) = u6 at *
        have rb := rb6
        have of0 := q0
        have of1 := q1
        clear rb6 q0 q1
        have cb : ∀ jj, u6.cell? ⟨w.heap.size, jj, none⟩ = (#[.int .i64 room, .int .i64 fails, .int .i64 wait, .slice p5 n5 c5, .slice (some ⟨g, off, none⟩) N cap] : Array Value)[jj]? := rb.cell
        have fb : ∀ jj, u6.frozen? ⟨w.heap.size, jj, none⟩ = false := rb.frozen
        have zb : w.heap.size < u6.heap.size := rb.lt
        have cr : ∀ jj, u6.cell? ⟨(w.heap.size + 1), jj, none⟩ = (#[.int .i64 0, .int .i64 0, .int .i64 0, .slice none 0 0, .slice none 0 0] : Array Value)[jj]? := rr.cell
        have fr : ∀ jj, u6.frozen? ⟨(w.heap.size + 1), jj, none⟩ = false := rr.frozen
        have zr : (w.heap.size + 1) < u6.heap.size := rr.lt
        go_upto_region 15 with (fail)
        clear cb fb zb cr fr zr
        have k12 := ((kT.setCell (p := ⟨w.heap.size, 4, none⟩) (Nat.le_refl _) (.slice none 0 0)).setCell (p := ⟨w.heap.size, 1, none⟩) (Nat.le_refl _) (.int .i64 0)).setCell (p := ⟨w.heap.size, 2, none⟩) (Nat.le_refl _) (.int .i64 0)
        have hr12 := ((hr6.setCell (p := ⟨w.heap.size, 4, none⟩) of0 (.slice none 0 0)).setCell (p := ⟨w.heap.size, 1, none⟩) of0 (.int .i64 0)).setCell (p := ⟨w.heap.size, 2, none⟩) of0 (.int .i64 0)
        replace rr := ((rr.other (p := ⟨w.heap.size, 4, none⟩) (Nat.succ_ne_self _) (.slice none 0 0)).other (p := ⟨w.heap.size, 1, none⟩) (Nat.succ_ne_self _) (.int .i64 0)).other (p := ⟨w.heap.size, 2, none⟩) (Nat.succ_ne_self _) (.int .i64 0)
        have rb4 : RowAt (((u6.setCell ⟨w.heap.size, 4, none⟩ (.slice none 0 0)).setCell ⟨w.heap.size, 1, none⟩ (.int .i64 0)).setCell ⟨w.heap.size, 2, none⟩ (.int .i64 0)) w.heap.size #[.int .i64 room, .int .i64 0, .int .i64 0, .slice p5 n5 c5, .slice none 0 0] 28 := by simpa using ((rb.set 4 (.slice none 0 0)).set 1 (.int .i64 0)).set 2 (.int .i64 0)
        clear rb hr6 kT
        generalize ((u6.setCell ⟨w.heap.size, 4, none⟩ (.slice none 0 0)).setCell ⟨w.heap.size, 1, none⟩ (.int .i64 0)).setCell ⟨w.heap.size, 2, none⟩ (.int .i64 0) = u12 at *
        have rb := rb4
        clear rb4
        have cb : ∀ jj, u12.cell? ⟨w.heap.size, jj, none⟩ = (#[.int .i64 room, .int .i64 0, .int .i64 0, .slice p5 n5 c5, .slice none 0 0] : Array Value)[jj]? := rb.cell
        have fb : ∀ jj, u12.frozen? ⟨w.heap.size, jj, none⟩ = false := rb.frozen
        have zb : w.heap.size < u12.heap.size := rb.lt
        have cr : ∀ jj, u12.cell? ⟨(w.heap.size + 1), jj, none⟩ = (#[.int .i64 0, .int .i64 0, .int .i64 0, .slice none 0 0, .slice none 0 0] : Array Value)[jj]? := rr.cell
        have fr : ∀ jj, u12.frozen? ⟨(w.heap.size + 1), jj, none⟩ = false := rr.frozen
        have zr : (w.heap.size + 1) < u12.heap.size := rr.lt
        go_wp2_with fail
        clear cb fb zb cr fr zr
        have k9 := below5 k12 (Nat.le_succ _) (.int .i64 room) (.int .i64 0) (.int .i64 0) (.slice p5 n5 c5) (.slice none 0 0)
        have r9 := row5 rr (.int .i64 room) (.int .i64 0) (.int .i64 0) (.slice p5 n5 c5) (.slice none 0 0)
        have hr9 := hr12.set5 of1 (.int .i64 room) (.int .i64 0) (.int .i64 0) (.slice p5 n5 c5) (.slice none 0 0)
        clear rb rr k12 hr12 of0 of1
        generalize (((((u12.setCell ⟨(w.heap.size + 1), 0, none⟩ (.int .i64 room)).setCell ⟨(w.heap.size + 1), 1, none⟩ (.int .i64 0)).setCell ⟨(w.heap.size + 1), 2, none⟩ (.int .i64 0)).setCell ⟨(w.heap.size + 1), 3, none⟩ (.slice p5 n5 c5)).setCell ⟨(w.heap.size + 1), 4, none⟩ (.slice none 0 0)) = u9 at *
        have cr := r9.cell
        exact bodyPost_ret (v := .tuple #[dV room 0 0 (.slice p5 n5 c5) (.slice none 0 0), .int .i64 ((A : Int) - (B : Int))]) (by simp [results, Try.results26, go_sem, cr]) rfl ⟨_, rfl, hr9, k9⟩
    · obtain rfl : j = N := by omega
      rw [← HN.out, List.drop_length] at hR
      replace hR : S = RR := hR
      subst hR
      have kT := kw
      clear kw
      have cb : ∀ jj, wr.cell? ⟨w.heap.size, jj, none⟩ = (#[.int .i64 room, .int .i64 fails, .int .i64 wait, .slice p3 n3 c3, .slice p j cap] : Array Value)[jj]? := rb.cell
      have fb : ∀ jj, wr.frozen? ⟨w.heap.size, jj, none⟩ = false := rb.frozen
      have zb : w.heap.size < wr.heap.size := rb.lt
      have cr : ∀ jj, wr.cell? ⟨(w.heap.size + 1), jj, none⟩ = (#[.int .i64 0, .int .i64 0, .int .i64 0, .slice none 0 0, .slice none 0 0] : Array Value)[jj]? := rr.cell
      have fr : ∀ jj, wr.frozen? ⟨(w.heap.size + 1), jj, none⟩ = false := rr.frozen
      have zr : (w.heap.size + 1) < wr.heap.size := rr.lt
      go_upto_region 15 with (fail)
      clear cb fb zb cr fr zr
      have k12 := ((kT.setCell (p := ⟨w.heap.size, 4, none⟩) (Nat.le_refl _) (.slice none 0 0)).setCell (p := ⟨w.heap.size, 1, none⟩) (Nat.le_refl _) (.int .i64 0)).setCell (p := ⟨w.heap.size, 2, none⟩) (Nat.le_refl _) (.int .i64 0)
      have hr12 := ((hs.setCell (p := ⟨w.heap.size, 4, none⟩) of0 (.slice none 0 0)).setCell (p := ⟨w.heap.size, 1, none⟩) of0 (.int .i64 0)).setCell (p := ⟨w.heap.size, 2, none⟩) of0 (.int .i64 0)
      replace rr := ((rr.other (p := ⟨w.heap.size, 4, none⟩) (Nat.succ_ne_self _) (.slice none 0 0)).other (p := ⟨w.heap.size, 1, none⟩) (Nat.succ_ne_self _) (.int .i64 0)).other (p := ⟨w.heap.size, 2, none⟩) (Nat.succ_ne_self _) (.int .i64 0)
      have rb4 : RowAt (((wr.setCell ⟨w.heap.size, 4, none⟩ (.slice none 0 0)).setCell ⟨w.heap.size, 1, none⟩ (.int .i64 0)).setCell ⟨w.heap.size, 2, none⟩ (.int .i64 0)) w.heap.size #[.int .i64 room, .int .i64 0, .int .i64 0, .slice p3 n3 c3, .slice none 0 0] 28 := by simpa using ((rb.set 4 (.slice none 0 0)).set 1 (.int .i64 0)).set 2 (.int .i64 0)
      clear rb hs kT
      generalize ((wr.setCell ⟨w.heap.size, 4, none⟩ (.slice none 0 0)).setCell ⟨w.heap.size, 1, none⟩ (.int .i64 0)).setCell ⟨w.heap.size, 2, none⟩ (.int .i64 0) = u12 at *
      have rb := rb4
      clear rb4
      have cb : ∀ jj, u12.cell? ⟨w.heap.size, jj, none⟩ = (#[.int .i64 room, .int .i64 0, .int .i64 0, .slice p3 n3 c3, .slice none 0 0] : Array Value)[jj]? := rb.cell
      have fb : ∀ jj, u12.frozen? ⟨w.heap.size, jj, none⟩ = false := rb.frozen
      have zb : w.heap.size < u12.heap.size := rb.lt
      have cr : ∀ jj, u12.cell? ⟨(w.heap.size + 1), jj, none⟩ = (#[.int .i64 0, .int .i64 0, .int .i64 0, .slice none 0 0, .slice none 0 0] : Array Value)[jj]? := rr.cell
      have fr : ∀ jj, u12.frozen? ⟨(w.heap.size + 1), jj, none⟩ = false := rr.frozen
      have zr : (w.heap.size + 1) < u12.heap.size := rr.lt
      go_wp2_with fail
      clear cb fb zb cr fr zr
      have k9 := below5 k12 (Nat.le_succ _) (.int .i64 room) (.int .i64 0) (.int .i64 0) (.slice p3 n3 c3) (.slice none 0 0)
      have r9 := row5 rr (.int .i64 room) (.int .i64 0) (.int .i64 0) (.slice p3 n3 c3) (.slice none 0 0)
      have hr9 := hr12.set5 of1 (.int .i64 room) (.int .i64 0) (.int .i64 0) (.slice p3 n3 c3) (.slice none 0 0)
      clear rb rr k12 hr12 of0 of1
      generalize (((((u12.setCell ⟨(w.heap.size + 1), 0, none⟩ (.int .i64 room)).setCell ⟨(w.heap.size + 1), 1, none⟩ (.int .i64 0)).setCell ⟨(w.heap.size + 1), 2, none⟩ (.int .i64 0)).setCell ⟨(w.heap.size + 1), 3, none⟩ (.slice p3 n3 c3)).setCell ⟨(w.heap.size + 1), 4, none⟩ (.slice none 0 0)) = u9 at *
      have cr := r9.cell
      exact bodyPost_ret (v := .tuple #[dV room 0 0 (.slice p3 n3 c3) (.slice none 0 0), .int .i64 ((A : Int) - (B : Int))]) (by simp [results, Try.results26, go_sem, cr]) rfl ⟨_, rfl, hr9, k9⟩
end Go.Proofs.Ytkephcmjigfepaa
