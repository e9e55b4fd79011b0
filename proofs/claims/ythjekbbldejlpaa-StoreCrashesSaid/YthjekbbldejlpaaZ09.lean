/- Texts behind each other. -/
import Derived.Test.YthjekbbldejlpaaZ08
import Derived.Test.YthjekbbldejlpaaZ04
/- Contracts of layer 8's reference (disk): Crash. Written by gen_r86.py. -/
set_option linter.unusedVariables false
set_option linter.unusedSimpArgs false
namespace Go.Proofs.Ythjekbbldejlpaa
open Go.ChangeShapes Go.WideShapes Go.ChangeAt Go.RowKit
set_option maxRecDepth 10000 in
set_option maxHeartbeats 8000000 in
theorem r8_crash (room fails wait keep : Int) (vs vl : Value) (s l : List Raw) (w : World) (hk : i64 keep) (hs : RawAt w vs s) (hl : RawAt w vl l) (oks : rawOk s) (okl : rawOk l) (hS : s.length ≤ 40000) (hL : l.length ≤ 40000) (hB : lenR l ≤ 1000000000000) (hcap : ∀ x ∈ l, ∀ p n c, x.2 = .slice p n c → n ≤ c) :
    Calls Try.prog 38 #[dV room fails wait vs vl, .int .i64 keep] w fun e w' =>
      ∃ vs', e = .returned (.tuple #[dV room 0 0 vs' (.slice none 0 0), .int .i64 ((lenR l : Int) - (min keep.toNat (lenR l) : Nat))]) ∧ RawAt w' vs' (crashGo slLen slCut s (min keep.toNat (lenR l)) l) ∧ Below w.heap.size w w' := by
  have len := fun u hu => r8_len vl l u hu okl (by omega) hB
  obtain ⟨RR, hRR⟩ : ∃ RR, crashGo slLen slCut s (min keep.toNat (lenR l)) l = RR := ⟨_, rfl⟩
  obtain ⟨A, hA⟩ : ∃ A, lenR l = A := ⟨_, rfl⟩
  rw [hA] at len hB hRR
  rw [hA, show crashGo slLen slCut s (min keep.toNat A) l = RR from hRR]
  obtain ⟨B, hBe⟩ : ∃ B, min keep.toNat A = B := ⟨_, rfl⟩
  obtain ⟨K0, hK0⟩ : ∃ K, max keep 0 = K := ⟨_, rfl⟩
  have hmin : min K0 (A : Int) = (B : Int) := by omega
  have bB : B ≤ A := by omega
  rw [hBe] at hRR ⊢
  clear hBe
  obtain ⟨ps, cs, rfl, _⟩ := hs.form
  obtain ⟨p, cap, rfl, hfl⟩ := hl.form
  obtain ⟨N, hN⟩ : ∃ N, l.length = N := ⟨_, rfl⟩
  obtain ⟨M, hM⟩ : ∃ N, s.length = N := ⟨_, rfl⟩
  have wA : IntKind.i64.wrap ((A : Int) - (B : Int)) = (A : Int) - B := IntWalk.i64_in _ (by omega)
  rw [hN] at hl hL len
  rw [hN]
  rw [hM] at hs hS ⊢
  have LEN := Lib.hid len
  have HN := Lib.hid hN
  have HM := Lib.hid hM
  have HFL := Lib.hid hfl
  have OKL := Lib.hid okl
  have OKS := Lib.hid oks
  have HRR := Lib.hid hRR
  have HCAP := Lib.hid hcap
  clear len hN hM okl oks hfl hA hRR hcap
  have wpos := w.heap.size
  go_enter Try.func38, Try.ntmps38
  go_wp2_with fail
  refine (LEN.out _ (hl.keep (by (repeat (first | with_reducible assumption | with_reducible exact Below.refl _ _ | with_reducible refine Below.drew ?_ | with_reducible refine below_drewN ?_ _ | with_reducible refine al ?_ _ | (with_reducible refine sc ?_ ?_; (focus (first | omega | (simp; done) | (simp; omega)))) | (with_reducible refine chain ?_ (by assumption))))))).mono ?_
  rintro e w1 ⟨rfl, hv⟩
  have kw : Below w.heap.size w w1 := by (repeat (first | with_reducible assumption | with_reducible exact Below.refl _ _ | with_reducible refine Below.drew ?_ | with_reducible refine below_drewN ?_ _ | with_reducible refine al ?_ _ | (with_reducible refine sc ?_ ?_; (focus (first | omega | (simp; done) | (simp; omega)))) | (with_reducible refine chain ?_ (by assumption))))
  have rb : RowAt w1 w.heap.size #[.int .i64 room, .int .i64 fails, .int .i64 wait, .slice ps M cs, .slice p N cap] 39 := ((RowAt.new w _ _).alloc _).keep hv
  have rr : RowAt w1 (w.heap.size + 1) #[.int .i64 0, .int .i64 0, .int .i64 0, .slice none 0 0, .slice none 0 0] 39 := (RowAt.make _ _ _ (by simp)).keep hv
  have of0 := hs.off (Nat.le_refl w.heap.size)
  have of1 := hs.off (Nat.le_succ w.heap.size)
  have hs1 := hs.keep kw
  clear hv hs
  go_wp2_with fail
  go_loopw [7, 9] (fun lf i wr => ∃ (j left : Nat) (p3 : Option Addr) (n3 c3 : Nat) (S : List Raw), j ≤ N ∧ i = .int .i64 j ∧ lf = .int .i64 left ∧ left ≤ A ∧ crashGo slLen slCut S left (l.drop j) = RR ∧ rawOk S ∧ S.length ≤ M + j ∧ RawAt wr (.slice p3 n3 c3) S ∧ offR w.heap.size (.slice p3 n3 c3) S ∧ offR (w.heap.size + 1) (.slice p3 n3 c3) S ∧
    RowAt wr w.heap.size #[.int .i64 room, .int .i64 fails, .int .i64 wait, .slice p3 n3 c3, .slice p N cap] 39 ∧ RowAt wr (w.heap.size + 1) #[.int .i64 0, .int .i64 0, .int .i64 0, .slice none 0 0, .slice none 0 0] 39 ∧ Below w.heap.size w wr) (fun _ i _ => N - (intOf i).toNat)
  case atStart => exact ⟨0, B, ps, M, cs, s, by omega, rfl, rfl, bB, HRR.out, OKS.out, by rw [HM.out]; omega, hs1, of0, of1, rb, rr, kw⟩
  case round =>
    clear hs1 of0 of1 rb rr kw
    obtain ⟨j, left, p3, n3, c3, S, hj, rfl, rfl, bl, hR, okS, lnS, hs, of0, of1, rb, rr, kw⟩ := hrel
    by_cases hlt : j < N
    · have hlt2 : j < l.length := by rw [HN.out]; exact hlt
      obtain ⟨g, off, rfl, hc, zg0, hx⟩ := HFL.out (by omega)
      obtain ⟨h0, h1⟩ := hx j hlt2
      obtain ⟨okk, xp, xn, xc, hxs⟩ := OKL.out _ (List.getElem_mem hlt2)
      rw [List.drop_eq_getElem_cons hlt2, crashGo] at hR
      have hcp := HCAP.out _ (List.getElem_mem hlt2)
      obtain ⟨⟨xk, xb⟩, hxe⟩ : ∃ x, l[j] = x := ⟨_, rfl⟩
      rw [hxe] at h0 h1 hxs okk hR hcp
      simp only [] at h0 h1 hxs okk hR hcp
      subst hxs
      replace hcp := hcp _ _ _ rfl
      replace hR : (if xn ≤ left then crashGo slLen slCut (layF S (xk, .slice xp xn xc)) (left - xn) (l.drop (j + 1)) else layF S (xk, .slice xp left xc)) = RR := hR
      have c0 := keepc kw zg0 h0
      have c1 := keepc kw zg0 h1
      have zg : g < wr.heap.size := Nat.lt_of_lt_of_le zg0 kw.size
      have HRX := Lib.hid hR
      have OKS2 := Lib.hid okS
      obtain ⟨X, hX⟩ : ∃ X, wr.alloc (.cells #[.int .i64 xk, .slice xp xn xc] 106) = X := ⟨_, rfl⟩
      have kX : Below wr.heap.size wr X := by rw [← hX]; exact al (Below.refl _ _) _
      have rx : RowAt X wr.heap.size #[.int .i64 xk, .slice xp xn xc] 106 := by rw [← hX]; exact RowAt.new wr _ _
      have e0 : w.heap.size < wr.heap.size := rb.lt
      have e1 : w.heap.size + 1 < wr.heap.size := rr.lt
      have HX := Lib.hid hX
      clear hX h0 h1 hx hR hxe hc okS
      have cb : ∀ jj, wr.cell? ⟨w.heap.size, jj, none⟩ = (#[.int .i64 room, .int .i64 fails, .int .i64 wait, .slice p3 n3 c3, .slice (some ⟨g, off, none⟩) N cap] : Array Value)[jj]? := rb.cell
      have fb : ∀ jj, wr.frozen? ⟨w.heap.size, jj, none⟩ = false := rb.frozen
      have zb : w.heap.size < wr.heap.size := rb.lt
      go_upto_region 8 with (fail)
      rw [HX.out]
      clear cb fb zb
      clear c0 c1
      have kwX := chain kw kX
      replace hs := hs.keep kX
      replace rb := rb.keep kX
      replace rr := rr.keep kX
      clear kX kw
      have cb : ∀ jj, X.cell? ⟨w.heap.size, jj, none⟩ = (#[.int .i64 room, .int .i64 fails, .int .i64 wait, .slice p3 n3 c3, .slice (some ⟨g, off, none⟩) N cap] : Array Value)[jj]? := rb.cell
      have fb : ∀ jj, X.frozen? ⟨w.heap.size, jj, none⟩ = false := rb.frozen
      have zb : w.heap.size < X.heap.size := rb.lt
      have cx : ∀ jj, X.cell? ⟨wr.heap.size, jj, none⟩ = (#[.int .i64 xk, .slice xp xn xc] : Array Value)[jj]? := rx.cell
      have fx : ∀ jj, X.frozen? ⟨wr.heap.size, jj, none⟩ = false := rx.frozen
      have zx : wr.heap.size < X.heap.size := rx.lt
      by_cases hfit : xn ≤ left
      · have hR := HRX.out
        rw [if_pos hfit] at hR
        have HR2 := Lib.hid hR
        clear hR
        have bfit : (xn : Int) ≤ (left : Int) := by omega
        have wL : IntKind.i64.wrap ((left : Int) - (xn : Int)) = ((left - xn : Nat) : Int) := by rw [IntWalk.i64_in _ (by omega)]; omega
        have lnS2 : (layF S (xk, Value.slice xp xn xc)).length ≤ M + (j + 1) := by have := layF_len S (xk, Value.slice xp xn xc); omega
        have lay := r8_lay (.slice p3 n3 c3) S xk xp xn xc X hs OKS2.out (by omega)
        obtain ⟨S2, hS2⟩ : ∃ S2, layF S (xk, Value.slice xp xn xc) = S2 := ⟨_, rfl⟩
        have okS3 : rawOk S2 := by rw [← hS2]; exact OKS2.out.lay ⟨okk, _, _, _, rfl⟩
        rw [hS2] at lay lnS2 HR2
        have LAY := Lib.hid lay
        have OK3 := Lib.hid okS3
        clear lay hS2 okS3
        go_wp2_with fail
        refine LAY.out.mono ?_
        rintro e w5 ⟨v5, rfl, ho5, hv5⟩
        have k5 := chain kwX hv5
        obtain ⟨p5, c5, rfl⟩ := own_form ho5
        obtain ⟨n5, hn5⟩ : ∃ n, S2.length = n := ⟨_, rfl⟩
        have hr5 : RawAt w5 (.slice p5 n5 c5) S2 := by rw [← hn5]; exact raws_of_owned ho5
        have q0 : offR w.heap.size (.slice p5 n5 c5) S2 := by rw [← hn5]; exact off_of_owned ho5 (by have := rx.lt; omega) _
        have q1 : offR (w.heap.size + 1) (.slice p5 n5 c5) S2 := by rw [← hn5]; exact off_of_owned ho5 (by have := rx.lt; omega) _
        rw [hn5]
        have HN5 := Lib.hid hn5
        clear hn5 ho5
        clear cb fb zb cx fx zx
        clear of0 of1 hs
        replace rb := rb.keep hv5
        replace rr := rr.keep hv5
        clear rx hv5
        have cb : ∀ jj, w5.cell? ⟨w.heap.size, jj, none⟩ = (#[.int .i64 room, .int .i64 fails, .int .i64 wait, .slice p3 n3 c3, .slice (some ⟨g, off, none⟩) N cap] : Array Value)[jj]? := rb.cell
        have fb : ∀ jj, w5.frozen? ⟨w.heap.size, jj, none⟩ = false := rb.frozen
        have zb : w.heap.size < w5.heap.size := rb.lt
        go_wp2_with fail
        clear cb fb zb
        have k6 := k5.setCell (p := ⟨w.heap.size, 3, none⟩) (Nat.le_refl _) (.slice p5 n5 c5)
        have hr6 := hr5.setCell (p := ⟨w.heap.size, 3, none⟩) q0 (.slice p5 n5 c5)
        have rr6 := rr.other (p := ⟨w.heap.size, 3, none⟩) (Nat.succ_ne_self _) (.slice p5 n5 c5)
        have rb6 : RowAt (w5.setCell ⟨w.heap.size, 3, none⟩ (.slice p5 n5 c5)) w.heap.size #[.int .i64 room, .int .i64 fails, .int .i64 wait, .slice p5 n5 c5, .slice (some ⟨g, off, none⟩) N cap] 39 := by simpa using rb.set 3 (.slice p5 n5 c5)
        go_roundw
        case rel => exact ⟨j + 1, left - xn, p5, n5, c5, S2, by omega, by go_num, by first | rfl | rw [wL], by omega, HR2.out, OK3.out, lnS2, hr6, q0, q1, rb6, rr6, k6⟩
        case measure => simp [intOf]; omega
      · have hR := HRX.out
        rw [if_neg hfit] at hR
        have HR2 := Lib.hid hR
        clear hR
        have bfit : ¬ (xn : Int) ≤ (left : Int) := by omega
        have bl2 : left ≤ xc := by omega
        have bl3 : (left : Int) ≤ (xc : Int) := by omega
        have lay := r8_lay (.slice p3 n3 c3) S xk xp left xc
        rw [HR2.out] at lay
        have LAY := Lib.hid lay
        clear lay
        go_upto_region 11 with (fail)
        refine region_plan 11 (.calm 0 (.calm 1 (.calm 2 (.calm 3 (.calm 4 (.calm 5 (.calm 6 (.calm 7 (.calm 8 (.one 9 (.calm 10 (.one 11 (.done))))))))))))) (by kernel_rfl) (by kernel_rfl) (by kernel_rfl) rfl (by kernel_rfl) (fun c a d v w h => by cases d <;> exact h) ?_
        intro u4 hu4 hszu4
        repeat (first | (refine' PlanW.skip (by rfl) (by rfl) ?_; simp only [Act.put, List.getElem_toArray, List.getElem_cons_zero, List.getElem_cons_succ, List.setIfInBounds_toArray, List.set_cons_zero, List.set_cons_succ]) | (refine' PlanW.val (by rfl) (by rfl) (fun wr hr => ?_) ?_; rotate_left 1; (focus (obtain ⟨hrc, hrf⟩ := bcell hr; (go_simp <;> with_reducible rfl); done)); simp only [Act.put, List.getElem_toArray, List.getElem_cons_zero, List.getElem_cons_succ, List.setIfInBounds_toArray, List.set_cons_zero, List.set_cons_succ]))
        have k4 := chain kwX hu4
        refine PlanW.one (by rfl) ?_
        go_wp2_with fail
        refine (LAY.out _ (hs.keep hu4) OKS2.out (by omega)).mono ?_
        rintro e w5 ⟨v5, rfl, ho5, hv5⟩
        have q5 := chain hu4 hv5
        have k5 := chain k4 hv5
        obtain ⟨p5, c5, rfl⟩ := own_form ho5
        obtain ⟨n5, hn5⟩ : ∃ n, RR.length = n := ⟨_, rfl⟩
        have sz4 := hu4.size
        have hr5 : RawAt w5 (.slice p5 n5 c5) RR := by rw [← hn5]; exact raws_of_owned ho5
        have q0 : offR w.heap.size (.slice p5 n5 c5) RR := by rw [← hn5]; exact off_of_owned ho5 (by have := rx.lt; omega) _
        have q1 : offR (w.heap.size + 1) (.slice p5 n5 c5) RR := by rw [← hn5]; exact off_of_owned ho5 (by have := rx.lt; omega) _
        rw [hn5]
        clear hn5 ho5 of0 of1 hs
        clear cb fb zb cx fx zx
        replace rb := rb.keep q5
        replace rr := rr.keep q5
        clear rx hv5 hu4 k4 kwX
        have cb : ∀ jj, w5.cell? ⟨w.heap.size, jj, none⟩ = (#[.int .i64 room, .int .i64 fails, .int .i64 wait, .slice p3 n3 c3, .slice (some ⟨g, off, none⟩) N cap] : Array Value)[jj]? := rb.cell
        have fb : ∀ jj, w5.frozen? ⟨w.heap.size, jj, none⟩ = false := rb.frozen
        have zb : w.heap.size < w5.heap.size := rb.lt
        go_wp2_with fail
        refine ⟨.inr q5, ?_⟩
        repeat (first | (refine' PlanW.skip (by rfl) (by rfl) ?_; simp only [Act.put, List.getElem_toArray, List.getElem_cons_zero, List.getElem_cons_succ, List.setIfInBounds_toArray, List.set_cons_zero, List.set_cons_succ]) | (refine' PlanW.val (by rfl) (by rfl) (fun wr hr => ?_) ?_; rotate_left 1; (focus (obtain ⟨hrc, hrf⟩ := bcell hr; (go_simp <;> with_reducible rfl); done)); simp only [Act.put, List.getElem_toArray, List.getElem_cons_zero, List.getElem_cons_succ, List.setIfInBounds_toArray, List.set_cons_zero, List.set_cons_succ]))
        refine PlanW.one (by rfl) ?_
        go_wp2_with fail
        refine ⟨by first | exact trivial | exact .inl rfl, PlanW.done ?_⟩
        clear cb fb zb
        have kT := k5.setCell (p := ⟨w.heap.size, 3, none⟩) (Nat.le_refl _) (.slice p5 n5 c5)
        have hr6 := hr5.setCell (p := ⟨w.heap.size, 3, none⟩) q0 (.slice p5 n5 c5)
        replace rr := rr.other (p := ⟨w.heap.size, 3, none⟩) (Nat.succ_ne_self _) (.slice p5 n5 c5)
        have rb6 : RowAt (w5.setCell ⟨w.heap.size, 3, none⟩ (.slice p5 n5 c5)) w.heap.size #[.int .i64 room, .int .i64 fails, .int .i64 wait, .slice p5 n5 c5, .slice (some ⟨g, off, none⟩) N cap] 39 := by simpa using rb.set 3 (.slice p5 n5 c5)
        clear rb k5 hr5 q5
        generalize w5.setCell ⟨w.heap.size, 3, none⟩ (.slice p5 n5 c5) = u6 at *
        have rb := rb6
        have of0 := q0
        have of1 := q1
        clear rb6 q0 q1
        have cb : ∀ jj, u6.cell? ⟨w.heap.size, jj, none⟩ = (#[.int .i64 room, .int .i64 fails, .int .i64 wait, .slice p5 n5 c5, .slice (some ⟨g, off, none⟩) N cap] : Array Value)[jj]? := rb.cell
        have fb : ∀ jj, u6.frozen? ⟨w.heap.size, jj, none⟩ = false := rb.frozen
        have zb : w.heap.size < u6.heap.size := rb.lt
        have cr : ∀ jj, u6.cell? ⟨(w.heap.size + 1), jj, none⟩ = (#[.int .i64 0, .int .i64 0, .int .i64 0, .slice none 0 0, .slice none 0 0] : Array Value)[jj]? := rr.cell
        have fr : ∀ jj, u6.frozen? ⟨(w.heap.size + 1), jj, none⟩ = false := rr.frozen
        have zr : (w.heap.size + 1) < u6.heap.size := rr.lt
        go_upto_region 15 with (fail)
        clear cb fb zb cr fr zr
        have k12 := ((kT.setCell (p := ⟨w.heap.size, 4, none⟩) (Nat.le_refl _) (.slice none 0 0)).setCell (p := ⟨w.heap.size, 1, none⟩) (Nat.le_refl _) (.int .i64 0)).setCell (p := ⟨w.heap.size, 2, none⟩) (Nat.le_refl _) (.int .i64 0)
        have hr12 := ((hr6.setCell (p := ⟨w.heap.size, 4, none⟩) of0 (.slice none 0 0)).setCell (p := ⟨w.heap.size, 1, none⟩) of0 (.int .i64 0)).setCell (p := ⟨w.heap.size, 2, none⟩) of0 (.int .i64 0)
        replace rr := ((rr.other (p := ⟨w.heap.size, 4, none⟩) (Nat.succ_ne_self _) (.slice none 0 0)).other (p := ⟨w.heap.size, 1, none⟩) (Nat.succ_ne_self _) (.int .i64 0)).other (p := ⟨w.heap.size, 2, none⟩) (Nat.succ_ne_self _) (.int .i64 0)
        have rb4 : RowAt (((u6.setCell ⟨w.heap.size, 4, none⟩ (.slice none 0 0)).setCell ⟨w.heap.size, 1, none⟩ (.int .i64 0)).setCell ⟨w.heap.size, 2, none⟩ (.int .i64 0)) w.heap.size #[.int .i64 room, .int .i64 0, .int .i64 0, .slice p5 n5 c5, .slice none 0 0] 39 := by simpa using ((rb.set 4 (.slice none 0 0)).set 1 (.int .i64 0)).set 2 (.int .i64 0)
        clear rb hr6 kT
        generalize ((u6.setCell ⟨w.heap.size, 4, none⟩ (.slice none 0 0)).setCell ⟨w.heap.size, 1, none⟩ (.int .i64 0)).setCell ⟨w.heap.size, 2, none⟩ (.int .i64 0) = u12 at *
        have rb := rb4
        clear rb4
        have cb : ∀ jj, u12.cell? ⟨w.heap.size, jj, none⟩ = (#[.int .i64 room, .int .i64 0, .int .i64 0, .slice p5 n5 c5, .slice none 0 0] : Array Value)[jj]? := rb.cell
        have fb : ∀ jj, u12.frozen? ⟨w.heap.size, jj, none⟩ = false := rb.frozen
        have zb : w.heap.size < u12.heap.size := rb.lt
        have cr : ∀ jj, u12.cell? ⟨(w.heap.size + 1), jj, none⟩ = (#[.int .i64 0, .int .i64 0, .int .i64 0, .slice none 0 0, .slice none 0 0] : Array Value)[jj]? := rr.cell
        have fr : ∀ jj, u12.frozen? ⟨(w.heap.size + 1), jj, none⟩ = false := rr.frozen
        have zr : (w.heap.size + 1) < u12.heap.size := rr.lt
        go_wp2_with fail
        clear cb fb zb cr fr zr
        have k9 := below5 k12 (Nat.le_succ _) (.int .i64 room) (.int .i64 0) (.int .i64 0) (.slice p5 n5 c5) (.slice none 0 0)
        have r9 := row5 rr (.int .i64 room) (.int .i64 0) (.int .i64 0) (.slice p5 n5 c5) (.slice none 0 0)
        have hr9 := hr12.set5 of1 (.int .i64 room) (.int .i64 0) (.int .i64 0) (.slice p5 n5 c5) (.slice none 0 0)
        clear rb rr k12 hr12 of0 of1
        generalize (((((u12.setCell ⟨(w.heap.size + 1), 0, none⟩ (.int .i64 room)).setCell ⟨(w.heap.size + 1), 1, none⟩ (.int .i64 0)).setCell ⟨(w.heap.size + 1), 2, none⟩ (.int .i64 0)).setCell ⟨(w.heap.size + 1), 3, none⟩ (.slice p5 n5 c5)).setCell ⟨(w.heap.size + 1), 4, none⟩ (.slice none 0 0)) = u9 at *
        have cr := r9.cell
        exact bodyPost_ret (v := .tuple #[dV room 0 0 (.slice p5 n5 c5) (.slice none 0 0), .int .i64 ((A : Int) - (B : Int))]) (by simp [results, Try.results38, go_sem, cr]) rfl ⟨_, rfl, hr9, k9⟩
    · obtain rfl : j = N := by omega
      rw [← HN.out, List.drop_length] at hR
      replace hR : S = RR := hR
      subst hR
      have kT := kw
      clear kw
      have cb : ∀ jj, wr.cell? ⟨w.heap.size, jj, none⟩ = (#[.int .i64 room, .int .i64 fails, .int .i64 wait, .slice p3 n3 c3, .slice p j cap] : Array Value)[jj]? := rb.cell
      have fb : ∀ jj, wr.frozen? ⟨w.heap.size, jj, none⟩ = false := rb.frozen
      have zb : w.heap.size < wr.heap.size := rb.lt
      have cr : ∀ jj, wr.cell? ⟨(w.heap.size + 1), jj, none⟩ = (#[.int .i64 0, .int .i64 0, .int .i64 0, .slice none 0 0, .slice none 0 0] : Array Value)[jj]? := rr.cell
      have fr : ∀ jj, wr.frozen? ⟨(w.heap.size + 1), jj, none⟩ = false := rr.frozen
      have zr : (w.heap.size + 1) < wr.heap.size := rr.lt
      go_upto_region 15 with (fail)
      clear cb fb zb cr fr zr
      have k12 := ((kT.setCell (p := ⟨w.heap.size, 4, none⟩) (Nat.le_refl _) (.slice none 0 0)).setCell (p := ⟨w.heap.size, 1, none⟩) (Nat.le_refl _) (.int .i64 0)).setCell (p := ⟨w.heap.size, 2, none⟩) (Nat.le_refl _) (.int .i64 0)
      have hr12 := ((hs.setCell (p := ⟨w.heap.size, 4, none⟩) of0 (.slice none 0 0)).setCell (p := ⟨w.heap.size, 1, none⟩) of0 (.int .i64 0)).setCell (p := ⟨w.heap.size, 2, none⟩) of0 (.int .i64 0)
      replace rr := ((rr.other (p := ⟨w.heap.size, 4, none⟩) (Nat.succ_ne_self _) (.slice none 0 0)).other (p := ⟨w.heap.size, 1, none⟩) (Nat.succ_ne_self _) (.int .i64 0)).other (p := ⟨w.heap.size, 2, none⟩) (Nat.succ_ne_self _) (.int .i64 0)
      have rb4 : RowAt (((wr.setCell ⟨w.heap.size, 4, none⟩ (.slice none 0 0)).setCell ⟨w.heap.size, 1, none⟩ (.int .i64 0)).setCell ⟨w.heap.size, 2, none⟩ (.int .i64 0)) w.heap.size #[.int .i64 room, .int .i64 0, .int .i64 0, .slice p3 n3 c3, .slice none 0 0] 39 := by simpa using ((rb.set 4 (.slice none 0 0)).set 1 (.int .i64 0)).set 2 (.int .i64 0)
      clear rb hs kT
      generalize ((wr.setCell ⟨w.heap.size, 4, none⟩ (.slice none 0 0)).setCell ⟨w.heap.size, 1, none⟩ (.int .i64 0)).setCell ⟨w.heap.size, 2, none⟩ (.int .i64 0) = u12 at *
      have rb := rb4
      clear rb4
      have cb : ∀ jj, u12.cell? ⟨w.heap.size, jj, none⟩ = (#[.int .i64 room, .int .i64 0, .int .i64 0, .slice p3 n3 c3, .slice none 0 0] : Array Value)[jj]? := rb.cell
      have fb : ∀ jj, u12.frozen? ⟨w.heap.size, jj, none⟩ = false := rb.frozen
      have zb : w.heap.size < u12.heap.size := rb.lt
      have cr : ∀ jj, u12.cell? ⟨(w.heap.size + 1), jj, none⟩ = (#[.int .i64 0, .int .i64 0, .int .i64 0, .slice none 0 0, .slice none 0 0] : Array Value)[jj]? := rr.cell
      have fr : ∀ jj, u12.frozen? ⟨(w.heap.size + 1), jj, none⟩ = false := rr.frozen
      have zr : (w.heap.size + 1) < u12.heap.size := rr.lt
      go_wp2_with fail
      clear cb fb zb cr fr zr
      have k9 := below5 k12 (Nat.le_succ _) (.int .i64 room) (.int .i64 0) (.int .i64 0) (.slice p3 n3 c3) (.slice none 0 0)
      have r9 := row5 rr (.int .i64 room) (.int .i64 0) (.int .i64 0) (.slice p3 n3 c3) (.slice none 0 0)
      have hr9 := hr12.set5 of1 (.int .i64 room) (.int .i64 0) (.int .i64 0) (.slice p3 n3 c3) (.slice none 0 0)
      clear rb rr k12 hr12 of0 of1
      generalize (((((u12.setCell ⟨(w.heap.size + 1), 0, none⟩ (.int .i64 room)).setCell ⟨(w.heap.size + 1), 1, none⟩ (.int .i64 0)).setCell ⟨(w.heap.size + 1), 2, none⟩ (.int .i64 0)).setCell ⟨(w.heap.size + 1), 3, none⟩ (.slice p3 n3 c3)).setCell ⟨(w.heap.size + 1), 4, none⟩ (.slice none 0 0)) = u9 at *
      have cr := r9.cell
      exact bodyPost_ret (v := .tuple #[dV room 0 0 (.slice p3 n3 c3) (.slice none 0 0), .int .i64 ((A : Int) - (B : Int))]) (by simp [results, Try.results38, go_sem, cr]) rfl ⟨_, rfl, hr9, k9⟩
end Go.Proofs.Ythjekbbldejlpaa
/- Words of layer 8: a disk's state, and what each deed makes of it. No program. -/
set_option linter.unusedVariables false
set_option linter.unusedSimpArgs false
namespace Go.Proofs.Ythjekbbldejlpaa
open Go Go.RowKit
structure St where
  room : Int
  fails : Int
  wait : Int
  safe : Blobs
  under : Blobs
def St.all (d : St) : Blobs := nowF d.safe d.under
def St.asked (d : St) : St := { d with fails := (askF d.fails d.wait).1.1, wait := (askF d.fails d.wait).1.2 }
def St.falls (d : St) : Bool := (askF d.fails d.wait).2
def putSt (d : St) (k : Int) (B : List Int) : St × Int :=
  if d.falls = true then (d.asked, 9) else if d.room < sumB (layF d.all (k, B)) then (d.asked, 8) else ({ d.asked with under := d.under ++ [(k, B)] }, 0)
def syncSt (d : St) : St × Int := if d.falls = true then (d.asked, 9) else ({ d.asked with safe := d.all, under := [] }, 0)
def failSt (d : St) (n : Int) : St := { d with fails := (failF n).1, wait := (failF n).2 }
def keptOf (d : St) (keep : Int) : Nat := min keep.toNat (sumB d.under)
def crashSt (d : St) (keep : Int) : St × Int := ({ d with fails := 0, wait := 0, safe := crashGo List.length (fun B k => B.take k) d.safe (keptOf d keep) d.under, under := [] }, (sumB d.under : Int) - (keptOf d keep : Nat))
def getSt (d : St) (k : Int) : List Int × Bool := ((getF d.all k).getD [], (getF d.all k).isSome)
def newSt (room : Int) : St := ⟨min (max room 0) 1048576, 0, 0, [], []⟩
/-- The value reads as that state; the blobs' slices as the relation says. -/
def DAtR (R : Value → List Int → Prop) (w : World) (v : Value) (d : St) : Prop := ∃ vs vl rs rl, v = dV d.room d.fails d.wait vs vl ∧ RawAt w vs rs ∧ RawAt w vl rl ∧ RelG R rs d.safe ∧ RelG R rl d.under
/-- The blobs' bytes as they lay in w0. -/
abbrev DAt (w0 : World) : World → Value → St → Prop := DAtR (BytsAt w0)
theorem DAtR.keep {R : Value → List Int → Prop} {w w' : World} {v : Value} {d : St} (h : DAtR R w v d) (hb : Below w.heap.size w w') : DAtR R w' v d :=
  let ⟨vs, vl, rs, rl, e, h1, h2, h3, h4⟩ := h; ⟨vs, vl, rs, rl, e, h1.keep hb, h2.keep hb, h3, h4⟩
theorem DAtR.map {R R' : Value → List Int → Prop} {w : World} {v : Value} {d : St} (h : DAtR R w v d) (f : ∀ {v : Value} {B : List Int}, R v B → R' v B) : DAtR R' w v d :=
  let ⟨vs, vl, rs, rl, e, h1, h2, h3, h4⟩ := h; ⟨vs, vl, rs, rl, e, h1, h2, h3.map f, h4.map f⟩
theorem DAtR.typed {R : Value → List Int → Prop} {w w' : World} {v : Value} {d : St} (h : DAtR R w v d) (hk : ∀ (b : Nat) (c : Array Value) (f : Nat × Nat), w.heap[b]? = some (.cells c 106 f) → w'.heap[b]? = some (.cells c 106 f)) : DAtR R w' v d :=
  let ⟨vs, vl, rs, rl, e, h1, h2, h3, h4⟩ := h; ⟨vs, vl, rs, rl, e, h1.typed hk, h2.typed hk, h3, h4⟩
theorem DAtR.form {R : Value → List Int → Prop} {w : World} {v : Value} {d : St} (h : DAtR R w v d) : ∃ p n c q m e, v = dV d.room d.fails d.wait (.slice p n c) (.slice q m e) := by
  obtain ⟨vs, vl, rs, rl, rfl, h1, h2, _⟩ := h
  obtain ⟨p, c, rfl, _⟩ := h1.form
  obtain ⟨q, e, rfl, _⟩ := h2.form
  exact ⟨_, _, _, _, _, _, rfl⟩
theorem fold_sum (x : Int × List Int) : ∀ (l : Blobs) (s : Blobs × Bool), sumB (l.foldl (layStep x) s).1 + (if (l.foldl (layStep x) s).2 = true then 0 else x.2.length) ≤ sumB s.1 + (if s.2 = true then 0 else x.2.length) + sumB l
  | [], s => by rw [List.foldl_nil, sumB]; omega
  | y :: l, s => by
    rw [List.foldl_cons]
    refine Nat.le_trans (fold_sum x l _) ?_
    rw [sumB]
    obtain ⟨A, b⟩ := s
    unfold layStep
    by_cases c1 : b = false ∧ x.1 ≤ y.1
    · obtain ⟨rfl, c1⟩ := c1
      simp only [c1, and_self, if_true]
      by_cases c2 : y.1 = x.1
      · simp only [if_pos c2, sumB_append, sumB]; first | omega | (simp; omega) | (simp; done)
      · simp only [if_neg c2, sumB_append, sumB]; first | omega | (simp; omega) | (simp; done)
    · simp only [if_neg c1]
      by_cases c2 : y.1 = x.1
      · simp only [if_pos c2]; omega
      · simp only [if_neg c2, sumB_append, sumB]; omega
theorem layF_sum (l : Blobs) (x : Int × List Int) : sumB (layF l x) ≤ sumB l + x.2.length := by
  have h := fold_sum x l ([], false)
  unfold layF layS
  split
  · rename_i hb; rw [if_pos hb] at h; simp [sumB] at h; omega
  · rename_i hb; rw [if_neg hb] at h; rw [sumB_append]; simp [sumB] at h ⊢; omega
theorem nowF_sum : ∀ (l s : Blobs), sumB (nowF s l) ≤ sumB s + sumB l
  | [], s => by simp [nowF, sumB]
  | x :: l, s => by
    have h1 := nowF_sum l (layF s x)
    have h2 := layF_sum s x
    have e : nowF s (x :: l) = nowF (layF s x) l := rfl
    rw [e, sumB]; omega
theorem crash_sum : ∀ (l s : Blobs) (k : Nat), sumB (crashGo List.length (fun B k => B.take k) s k l) ≤ sumB s + sumB l
  | [], s, k => by simp [crashGo, sumB]
  | (q, B) :: l, s, k => by
    have e : crashGo List.length (fun B k => B.take k) s k ((q, B) :: l) = if B.length ≤ k then crashGo List.length (fun B k => B.take k) (layF s (q, B)) (k - B.length) l else layF s (q, B.take k) := rfl
    rw [e, sumB]
    by_cases c : B.length ≤ k
    · rw [if_pos c]
      have h1 := crash_sum l (layF s (q, B)) (k - B.length)
      have h2 := layF_sum s (q, B)
      simp only [] at h2 ⊢; omega
    · rw [if_neg c]
      have h2 := layF_sum s (q, B.take k)
      simp only [List.length_take] at h2 ⊢; omega
theorem crash_len : ∀ (l s : Blobs) (k : Nat), (crashGo List.length (fun B k => B.take k) s k l).length ≤ s.length + l.length
  | [], s, k => by simp [crashGo]
  | (q, B) :: l, s, k => by
    have e : crashGo List.length (fun B k => B.take k) s k ((q, B) :: l) = if B.length ≤ k then crashGo List.length (fun B k => B.take k) (layF s (q, B)) (k - B.length) l else layF s (q, B.take k) := rfl
    rw [e]
    by_cases c : B.length ≤ k
    · rw [if_pos c]
      have h1 := crash_len l (layF s (q, B)) (k - B.length)
      have h2 := layF_len s (q, B)
      simp only [List.length_cons]; omega
    · rw [if_neg c]
      have h2 := layF_len s (q, B.take k)
      simp only [List.length_cons]; omega
theorem lay_mem {β : Type} {s : List (Int × β)} {x y : Int × β} (h : y ∈ layF s x) : y ∈ s ∨ y = x := layF_mem h
theorem now_mem {β : Type} {y : Int × β} : ∀ {l s : List (Int × β)}, y ∈ nowF s l → y ∈ s ∨ y ∈ l
  | [], s, h => .inl h
  | x :: l, s, h => by
    have h : y ∈ nowF (layF s x) l := h
    rcases now_mem h with h | h
    · rcases layF_mem h with h | rfl
      · exact .inl h
      · exact .inr (List.mem_cons_self ..)
    · exact .inr (List.mem_cons_of_mem _ h)
/-- Whatever holds of each blob, and of its first bytes, holds behind a crash. -/
theorem crash_all {p : Int × List Int → Prop} (hp : ∀ q B k, p (q, B) → p (q, B.take k)) : ∀ {l s : Blobs} {k : Nat}, (∀ x ∈ s, p x) → (∀ x ∈ l, p x) → ∀ x ∈ crashGo List.length (fun B k => B.take k) s k l, p x
  | [], s, k, hs, _, x, h => hs x h
  | (q, B) :: l, s, k, hs, hl, x, h => by
    have e : crashGo List.length (fun B k => B.take k) s k ((q, B) :: l) = if B.length ≤ k then crashGo List.length (fun B k => B.take k) (layF s (q, B)) (k - B.length) l else layF s (q, B.take k) := rfl
    rw [e] at h
    have hq : p (q, B) := hl _ (List.mem_cons_self ..)
    by_cases c : B.length ≤ k
    · rw [if_pos c] at h
      exact crash_all hp (fun y hy => by
        rcases layF_mem hy with hy | rfl
        · exact hs y hy
        · exact hq) (fun y hy => hl y (List.mem_cons_of_mem _ hy)) x h
    · rw [if_neg c] at h
      rcases layF_mem h with h | rfl
      · exact hs x h
      · exact hp q B k hq
/-- Keys that rise. -/
def Srt {β : Type} (l : List (Int × β)) : Prop := l.Pairwise fun x y => x.1 < y.1
def insF {β : Type} : List (Int × β) → Int × β → List (Int × β)
  | [], w => [w]
  | x :: l, w => if w.1 ≤ x.1 then (if x.1 = w.1 then w :: l else w :: x :: l) else x :: insF l w
theorem fold_done {β : Type} (w : Int × β) : ∀ (l A : List (Int × β)), (∀ x ∈ l, x.1 ≠ w.1) → l.foldl (layStep w) (A, true) = (A ++ l, true)
  | [], A, _ => by simp
  | x :: l, A, h => by
    have hx := h x (List.mem_cons_self ..)
    have e : layStep w (A, true) x = (A ++ [x], true) := by
      unfold layStep
      simp [hx]
    rw [List.foldl_cons, e, fold_done w l _ (fun y hy => h y (List.mem_cons_of_mem _ hy))]
    simp
theorem fold_ins {β : Type} (w : Int × β) : ∀ (l A : List (Int × β)), Srt l → (if (l.foldl (layStep w) (A, false)).2 = true then (l.foldl (layStep w) (A, false)).1 else (l.foldl (layStep w) (A, false)).1 ++ [w]) = A ++ insF l w
  | [], A, _ => by simp [insF]
  | x :: l, A, h => by
    obtain ⟨h1, h2⟩ := List.pairwise_cons.1 h
    rw [List.foldl_cons, insF]
    by_cases c : w.1 ≤ x.1
    · have hne : ∀ y ∈ l, y.1 ≠ w.1 := fun y hy => by have := h1 y hy; omega
      by_cases c2 : x.1 = w.1
      · have e : layStep w (A, false) x = (A ++ [w], true) := by
          unfold layStep
          simp [c2]
        rw [e, fold_done w l _ hne, if_pos c, if_pos c2]
        simp
      · have e : layStep w (A, false) x = (A ++ [w] ++ [x], true) := by
          unfold layStep
          simp [c, c2]
        rw [e, fold_done w l _ hne, if_pos c, if_neg c2]
        simp
    · have c2 : x.1 ≠ w.1 := by omega
      have e : layStep w (A, false) x = (A ++ [x], false) := by
        unfold layStep
        simp [c, c2]
      rw [e, if_neg c, fold_ins w l _ h2]
      simp
theorem layF_ins {β : Type} {l : List (Int × β)} (w : Int × β) (h : Srt l) : layF l w = insF l w := by
  have := fold_ins w l [] h
  unfold layF layS
  simpa using this
theorem ins_mem {β : Type} {w y : Int × β} : ∀ {l : List (Int × β)}, y ∈ insF l w → y ∈ l ∨ y = w
  | [], h => .inr (by simpa [insF] using h)
  | x :: l, h => by
    rw [insF] at h
    split at h
    · split at h
      · rcases List.mem_cons.1 h with h | h
        · exact .inr h
        · exact .inl (List.mem_cons_of_mem _ h)
      · rcases List.mem_cons.1 h with h | h
        · exact .inr h
        · exact .inl h
    · rcases List.mem_cons.1 h with h | h
      · exact .inl (h ▸ List.mem_cons_self ..)
      · rcases ins_mem h with h | h
        · exact .inl (List.mem_cons_of_mem _ h)
        · exact .inr h
theorem ins_srt {β : Type} (w : Int × β) : ∀ (l : List (Int × β)), Srt l → Srt (insF l w)
  | [], _ => by simp [insF, Srt]
  | x :: l, h => by
    obtain ⟨h1, h2⟩ := List.pairwise_cons.1 h
    rw [insF]
    split
    · rename_i c
      split
      · rename_i c2
        exact List.pairwise_cons.2 ⟨fun y hy => by have := h1 y hy; omega, h2⟩
      · exact List.pairwise_cons.2 ⟨fun y hy => by
          rcases List.mem_cons.1 hy with rfl | hy
          · omega
          · have := h1 y hy; omega, h⟩
    · rename_i c
      exact List.pairwise_cons.2 ⟨fun y hy => by
        rcases ins_mem hy with hy | rfl
        · exact h1 y hy
        · omega, ins_srt w l h2⟩
theorem Srt.lay {β : Type} {l : List (Int × β)} (h : Srt l) (w : Int × β) : Srt (layF l w) := by rw [layF_ins w h]; exact ins_srt w l h
theorem Srt.now {β : Type} : ∀ {l s : List (Int × β)}, Srt s → Srt (nowF s l)
  | [], s, h => h
  | x :: l, s, h => Srt.now (l := l) (h.lay x)
theorem Srt.crash : ∀ {l s : Blobs} {k : Nat}, Srt s → Srt (crashGo List.length (fun B k => B.take k) s k l)
  | [], s, k, h => h
  | (q, B) :: l, s, k, h => by
    have e : crashGo List.length (fun B k => B.take k) s k ((q, B) :: l) = if B.length ≤ k then crashGo List.length (fun B k => B.take k) (layF s (q, B)) (k - B.length) l else layF s (q, B.take k) := rfl
    rw [e]
    split
    · exact Srt.crash (h.lay _)
    · exact h.lay _
theorem Srt.get {β : Type} {l : List (Int × β)} (h : Srt l) {j : Nat} (hj : j < l.length) : getF l l[j].1 = some l[j].2 :=
  getF_at hj rfl fun i hi => by
    have := List.pairwise_iff_getElem.1 h i j (by omega) hj hi
    omega
/-- A state that n puts of so many bytes may have made. -/
structure StOk (d : St) (n m : Nat) : Prop where
  fails : 0 ≤ d.fails ∧ d.fails ≤ 1048576
  wait : 0 ≤ d.wait ∧ d.wait ≤ 1
  room : i64 d.room
  len : d.safe.length + d.under.length ≤ n
  sum : sumB d.safe + sumB d.under ≤ m
  keyS : ∀ x ∈ d.safe, i64 x.1 ∧ bytOk x.2
  keyU : ∀ x ∈ d.under, i64 x.1 ∧ bytOk x.2
  srt : Srt d.safe
theorem StOk.mono {d : St} {n m n' m' : Nat} (h : StOk d n m) (hn : n ≤ n') (hm : m ≤ m') : StOk d n' m' := ⟨h.fails, h.wait, h.room, Nat.le_trans h.len hn, Nat.le_trans h.sum hm, h.keyS, h.keyU, h.srt⟩
theorem StOk.asked {d : St} {n m : Nat} (h : StOk d n m) : StOk d.asked n m := by
  obtain ⟨h1, h2⟩ := h.fails
  obtain ⟨h3, h4⟩ := h.wait
  refine ⟨?_, ?_, h.room, h.len, h.sum, h.keyS, h.keyU, h.srt⟩
  · unfold St.asked askF; dsimp only; split
    · exact ⟨h1, h2⟩
    · split
      · exact ⟨by simp only []; omega, by simp only []; omega⟩
      · exact ⟨h1, h2⟩
  · unfold St.asked askF; dsimp only; split
    · exact ⟨Int.le_refl _, by show (0 : Int) ≤ 1; decide⟩
    · split
      · exact ⟨h3, h4⟩
      · exact ⟨h3, h4⟩
theorem StOk.allmem {d : St} {n m : Nat} (h : StOk d n m) : ∀ x ∈ d.all, i64 x.1 ∧ bytOk x.2 := fun x hx => by
  rcases now_mem hx with hx | hx
  · exact h.keyS x hx
  · exact h.keyU x hx
theorem all_len (d : St) : d.all.length ≤ d.safe.length + d.under.length := by
  have := nowF_len d.safe d.under d.under.length (Nat.le_refl _)
  rwa [List.take_length] at this
theorem StOk.put {d : St} {n m : Nat} (h : StOk d n m) {k : Int} {B : List Int} (hk : i64 k) (hB : bytOk B) : StOk (putSt d k B).1 (n + 1) (m + B.length) := by
  have ha := h.asked
  unfold putSt
  split
  · exact ha.mono (Nat.le_succ _) (Nat.le_add_right _ _)
  · split
    · exact ha.mono (Nat.le_succ _) (Nat.le_add_right _ _)
    · refine ⟨ha.fails, ha.wait, ha.room, ?_, ?_, ha.keyS, ?_, h.srt⟩
      · have := h.len; simp only [List.length_append, List.length_singleton, St.asked]; omega
      · have := h.sum; simp only [sumB_append, sumB, St.asked]; omega
      · intro x hx
        rcases List.mem_append.1 hx with hx | hx
        · exact h.keyU x hx
        · obtain rfl := List.mem_singleton.1 hx; exact ⟨hk, hB⟩
theorem StOk.sync {d : St} {n m : Nat} (h : StOk d n m) : StOk (syncSt d).1 n m := by
  have ha := h.asked
  unfold syncSt
  split
  · exact ha
  · refine ⟨ha.fails, ha.wait, ha.room, ?_, ?_, fun x hx => h.allmem x hx, fun x hx => (by cases hx), h.srt.now⟩
    · have := all_len d; have := h.len; simp only [List.length_nil, St.asked]; omega
    · have := nowF_sum d.under d.safe; have := h.sum; simp only [sumB, St.asked, St.all]; omega
theorem StOk.fail {d : St} {n m : Nat} (h : StOk d n m) (k : Int) (hk : k ≤ 1048576) : StOk (failSt d k) n m := by
  refine ⟨?_, ?_, h.room, h.len, h.sum, h.keyS, h.keyU, h.srt⟩
  · unfold failSt failF; dsimp only; split
    · dsimp only; split <;> omega
    · dsimp only; omega
  · unfold failSt failF; dsimp only; split
    · exact ⟨by show (0 : Int) ≤ 1; decide, by show (1 : Int) ≤ 1; decide⟩
    · exact ⟨by show (0 : Int) ≤ 0; decide, by show (0 : Int) ≤ 1; decide⟩
theorem StOk.crash {d : St} {n m : Nat} (h : StOk d n m) (k : Int) : StOk (crashSt d k).1 n m := by
  refine ⟨(by show (0 : Int) ≤ 0 ∧ (0 : Int) ≤ 1048576; decide), (by show (0 : Int) ≤ 0 ∧ (0 : Int) ≤ 1; decide), h.room, ?_, ?_, ?_, fun x hx => (by cases hx), h.srt.crash⟩
  · have := crash_len d.under d.safe (keptOf d k); have := h.len; simp only [crashSt, List.length_nil]; omega
  · have := crash_sum d.under d.safe (keptOf d k); have := h.sum; simp only [crashSt, sumB]; omega
  · exact crash_all (p := fun x => i64 x.1 ∧ bytOk x.2) (fun q B j hq => ⟨hq.1, hq.2.take j⟩) h.keyS h.keyU
theorem StOk.new {room : Int} (h : i64 room) : StOk (newSt room) 0 0 := by
  refine ⟨(by show (0 : Int) ≤ 0 ∧ (0 : Int) ≤ 1048576; decide), (by show (0 : Int) ≤ 0 ∧ (0 : Int) ≤ 1; decide), ?_, Nat.le_refl _, Nat.le_refl _, fun x hx => (by cases hx), fun x hx => (by cases hx), List.Pairwise.nil⟩
  unfold newSt
  constructor <;> (dsimp only; omega)
theorem StOk.rs {d : St} {n m : Nat} (h : StOk d n m) : keysOk d.safe := fun x hx => (h.keyS x hx).1
theorem StOk.ru {d : St} {n m : Nat} (h : StOk d n m) : keysOk d.under := fun x hx => (h.keyU x hx).1
end Go.Proofs.Ythjekbbldejlpaa
