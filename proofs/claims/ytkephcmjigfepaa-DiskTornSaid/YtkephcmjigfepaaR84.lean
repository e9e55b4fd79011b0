/- Contracts of layer 8's reference (disk): Sync. -/
import Derived.Test.YtkephcmjigfepaaR83
set_option linter.unusedVariables false
set_option linter.unusedSimpArgs false
namespace Go.Proofs.Ytkephcmjigfepaa
open Go.ChangeShapes Go.WideShapes Go.ChangeAt Go.RowKit
theorem row5 {w : World} {b : Nat} {a0 a1 a2 a3 a4 : Value} {t : TypeId} (h : RowAt w b #[a0, a1, a2, a3, a4] t) (x0 x1 x2 x3 x4 : Value) :
    RowAt (((((w.setCell ⟨b, 0, none⟩ x0).setCell ⟨b, 1, none⟩ x1).setCell ⟨b, 2, none⟩ x2).setCell ⟨b, 3, none⟩ x3).setCell ⟨b, 4, none⟩ x4) b #[x0, x1, x2, x3, x4] t := by
  simpa using ((((h.set 0 x0).set 1 x1).set 2 x2).set 3 x3).set 4 x4
theorem row5_other {w : World} {b g : Nat} {cs : Array Value} {t : TypeId} (h : RowAt w b cs t) (hg : b ≠ g) (x0 x1 x2 x3 x4 : Value) :
    RowAt (((((w.setCell ⟨g, 0, none⟩ x0).setCell ⟨g, 1, none⟩ x1).setCell ⟨g, 2, none⟩ x2).setCell ⟨g, 3, none⟩ x3).setCell ⟨g, 4, none⟩ x4) b cs t :=
  ((((h.other (p := ⟨g, 0, none⟩) hg x0).other (p := ⟨g, 1, none⟩) hg x1).other (p := ⟨g, 2, none⟩) hg x2).other (p := ⟨g, 3, none⟩) hg x3).other (p := ⟨g, 4, none⟩) hg x4
theorem below5 {w u : World} {g : Nat} (h : Below w.heap.size w u) (hg : w.heap.size ≤ g) (x0 x1 x2 x3 x4 : Value) :
    Below w.heap.size w (((((u.setCell ⟨g, 0, none⟩ x0).setCell ⟨g, 1, none⟩ x1).setCell ⟨g, 2, none⟩ x2).setCell ⟨g, 3, none⟩ x3).setCell ⟨g, 4, none⟩ x4) :=
  ((((h.setCell (p := ⟨g, 0, none⟩) hg x0).setCell (p := ⟨g, 1, none⟩) hg x1).setCell (p := ⟨g, 2, none⟩) hg x2).setCell (p := ⟨g, 3, none⟩) hg x3).setCell (p := ⟨g, 4, none⟩) hg x4
set_option maxHeartbeats 4000000 in
theorem r8_sync (room fails wait : Int) (vs vl : Value) (s l : List Raw) (w : World) (hf : i64 fails) (hs : RawAt w vs s) (hl : RawAt w vl l) (oks : rawOk s) (okl : rawOk l) (hS : s.length ≤ 40000) (hL : l.length ≤ 40000) :
    Calls Try.prog 25 #[dV room fails wait vs vl] w fun e w' =>
      ∃ vs' vl', e = .returned (.tuple #[dV room (askF fails wait).1.1 (askF fails wait).1.2 vs' vl', .int .i64 (if (askF fails wait).2 = true then 9 else 0)]) ∧
        RawAt w' vs' (if (askF fails wait).2 = true then s else nowF s l) ∧ RawAt w' vl' (if (askF fails wait).2 = true then l else []) ∧ Below w.heap.size w w' := by
  have ask := fun p q n c m d u => r8_asked room fails wait p q n c m d u hf
  obtain ⟨⟨⟨f2, w2⟩, b⟩, hA⟩ : ∃ A, askF fails wait = A := ⟨_, rfl⟩
  simp only [hA] at ask ⊢
  have ASK := Lib.hid ask
  have now := fun u hu hv => r8_now room f2 w2 vs vl s l u hu hv oks okl hS hL
  obtain ⟨ps, cs, rfl, _⟩ := hs.form
  obtain ⟨p, cap, rfl, _⟩ := hl.form
  obtain ⟨N, hN⟩ : ∃ N, l.length = N := ⟨_, rfl⟩
  obtain ⟨M, hM⟩ : ∃ N, s.length = N := ⟨_, rfl⟩
  rw [hN] at hl now ⊢
  rw [hM] at hs now ⊢
  have NOW := Lib.hid now
  clear now ask hA hN hM oks okl hS hL hf
  cases b
  · go_enter Try.func25, Try.ntmps25
    go_wp2_with fail
    refine (ASK.out _ _ _ _ _ _ _).mono ?_
    rintro e w1 ⟨rfl, hv⟩
    have kw : Below w.heap.size w w1 := by (repeat (first | with_reducible assumption | with_reducible exact Below.refl _ _ | with_reducible refine Below.drew ?_ | with_reducible refine below_drewN ?_ _ | with_reducible refine al ?_ _ | (with_reducible refine sc ?_ ?_; (focus (first | omega | (simp; done) | (simp; omega)))) | (with_reducible refine chain ?_ (by assumption))))
    have rb : RowAt w1 w.heap.size #[.int .i64 room, .int .i64 fails, .int .i64 wait, .slice ps M cs, .slice p N cap] 28 := ((RowAt.new w _ _).alloc _).keep hv
    have rr : RowAt w1 (w.heap.size + 1) #[.int .i64 0, .int .i64 0, .int .i64 0, .slice none 0 0, .slice none 0 0] 28 := (RowAt.make _ _ _ (by simp)).keep hv
    have cb : ∀ j, w1.cell? ⟨w.heap.size, j, none⟩ = (#[.int .i64 room, .int .i64 fails, .int .i64 wait, .slice ps M cs, .slice p N cap] : Array Value)[j]? := rb.cell
    have fb : ∀ j, w1.frozen? ⟨w.heap.size, j, none⟩ = false := rb.frozen
    have zb : w.heap.size < w1.heap.size := rb.lt
    have cr : ∀ j, w1.cell? ⟨w.heap.size + 1, j, none⟩ = (#[.int .i64 0, .int .i64 0, .int .i64 0, .slice none 0 0, .slice none 0 0] : Array Value)[j]? := rr.cell
    have fr : ∀ j, w1.frozen? ⟨w.heap.size + 1, j, none⟩ = false := rr.frozen
    have zr : w.heap.size + 1 < w1.heap.size := rr.lt
    clear hv
    go_upto_region 2 with (fail)
    clear cb fb zb cr fr zr
    have k2 := below5 kw (Nat.le_refl _) (.int .i64 room) (.int .i64 f2) (.int .i64 w2) (.slice ps M cs) (.slice p N cap)
    replace rr := row5_other rr (Nat.succ_ne_self _) (.int .i64 room) (.int .i64 f2) (.int .i64 w2) (.slice ps M cs) (.slice p N cap)
    replace rb := row5 rb (.int .i64 room) (.int .i64 f2) (.int .i64 w2) (.slice ps M cs) (.slice p N cap)
    generalize ((((w1.setCell ⟨w.heap.size, 0, none⟩ (.int .i64 room)).setCell ⟨w.heap.size, 1, none⟩ (.int .i64 f2)).setCell ⟨w.heap.size, 2, none⟩ (.int .i64 w2)).setCell ⟨w.heap.size, 3, none⟩ (.slice ps M cs)).setCell ⟨w.heap.size, 4, none⟩ (.slice p N cap) = u2 at *
    clear kw
    have cb : ∀ j, u2.cell? ⟨w.heap.size, j, none⟩ = (#[.int .i64 room, .int .i64 f2, .int .i64 w2, .slice ps M cs, .slice p N cap] : Array Value)[j]? := rb.cell
    have fb : ∀ j, u2.frozen? ⟨w.heap.size, j, none⟩ = false := rb.frozen
    have zb : w.heap.size < u2.heap.size := rb.lt
    have cr : ∀ j, u2.cell? ⟨w.heap.size + 1, j, none⟩ = (#[.int .i64 0, .int .i64 0, .int .i64 0, .slice none 0 0, .slice none 0 0] : Array Value)[j]? := rr.cell
    have fr : ∀ j, u2.frozen? ⟨w.heap.size + 1, j, none⟩ = false := rr.frozen
    have zr : w.heap.size + 1 < u2.heap.size := rr.lt
    go_wp2_with fail
    refine (NOW.out _ (hs.keep k2) (hl.keep k2)).mono ?_
    rintro e w3 ⟨v3, rfl, hr, hoff, hv⟩
    have of0 := hoff w.heap.size zb (hs.off (Nat.le_refl _))
    have of1 := hoff (w.heap.size + 1) zr (hs.off (Nat.le_succ _))
    clear hoff
    obtain ⟨p3, cap3, rfl, _⟩ := hr.form
    obtain ⟨N3, hN3⟩ : ∃ n, (nowF s l).length = n := ⟨_, rfl⟩
    rw [hN3] at hr of0 of1 ⊢
    clear hN3
    clear cb fb zb cr fr zr
    have k3 := chain k2 hv
    replace rb := rb.keep hv
    replace rr := rr.keep hv
    clear hv k2
    have cb : ∀ j, w3.cell? ⟨w.heap.size, j, none⟩ = (#[.int .i64 room, .int .i64 f2, .int .i64 w2, .slice ps M cs, .slice p N cap] : Array Value)[j]? := rb.cell
    have fb : ∀ j, w3.frozen? ⟨w.heap.size, j, none⟩ = false := rb.frozen
    have zb : w.heap.size < w3.heap.size := rb.lt
    have cr : ∀ j, w3.cell? ⟨w.heap.size + 1, j, none⟩ = (#[.int .i64 0, .int .i64 0, .int .i64 0, .slice none 0 0, .slice none 0 0] : Array Value)[j]? := rr.cell
    have fr : ∀ j, w3.frozen? ⟨w.heap.size + 1, j, none⟩ = false := rr.frozen
    have zr : w.heap.size + 1 < w3.heap.size := rr.lt
    go_upto_region 6 with (fail)
    clear cb fb zb cr fr zr
    have k4 := (k3.setCell (p := ⟨w.heap.size, 3, none⟩) (Nat.le_refl _) (.slice p3 N3 cap3)).setCell (p := ⟨w.heap.size, 4, none⟩) (Nat.le_refl _) (.slice none 0 0)
    have hr4 := (hr.setCell (p := ⟨w.heap.size, 3, none⟩) of0 (.slice p3 N3 cap3)).setCell (p := ⟨w.heap.size, 4, none⟩) of0 (.slice none 0 0)
    replace rr := (rr.other (p := ⟨w.heap.size, 3, none⟩) (Nat.succ_ne_self _) (.slice p3 N3 cap3)).other (p := ⟨w.heap.size, 4, none⟩) (Nat.succ_ne_self _) (.slice none 0 0)
    have rb4 : RowAt ((w3.setCell ⟨w.heap.size, 3, none⟩ (.slice p3 N3 cap3)).setCell ⟨w.heap.size, 4, none⟩ (.slice none 0 0)) w.heap.size #[.int .i64 room, .int .i64 f2, .int .i64 w2, .slice p3 N3 cap3, .slice none 0 0] 28 := by simpa using (rb.set 3 (.slice p3 N3 cap3)).set 4 (.slice none 0 0)
    clear rb hr k3
    generalize (w3.setCell ⟨w.heap.size, 3, none⟩ (.slice p3 N3 cap3)).setCell ⟨w.heap.size, 4, none⟩ (.slice none 0 0) = u4 at *
    have rb := rb4
    clear rb4
    have cb : ∀ j, u4.cell? ⟨w.heap.size, j, none⟩ = (#[.int .i64 room, .int .i64 f2, .int .i64 w2, .slice p3 N3 cap3, .slice none 0 0] : Array Value)[j]? := rb.cell
    have fb : ∀ j, u4.frozen? ⟨w.heap.size, j, none⟩ = false := rb.frozen
    have zb : w.heap.size < u4.heap.size := rb.lt
    have cr : ∀ j, u4.cell? ⟨w.heap.size + 1, j, none⟩ = (#[.int .i64 0, .int .i64 0, .int .i64 0, .slice none 0 0, .slice none 0 0] : Array Value)[j]? := rr.cell
    have fr : ∀ j, u4.frozen? ⟨w.heap.size + 1, j, none⟩ = false := rr.frozen
    have zr : w.heap.size + 1 < u4.heap.size := rr.lt
    go_wp2_with fail
    have k5 := below5 k4 (Nat.le_succ _) (.int .i64 room) (.int .i64 f2) (.int .i64 w2) (.slice p3 N3 cap3) (.slice none 0 0)
    have r5 := row5 rr (.int .i64 room) (.int .i64 f2) (.int .i64 w2) (.slice p3 N3 cap3) (.slice none 0 0)
    have hr5 := ((((hr4.setCell (p := ⟨w.heap.size + 1, 0, none⟩) of1 (.int .i64 room)).setCell (p := ⟨w.heap.size + 1, 1, none⟩) of1 (.int .i64 f2)).setCell (p := ⟨w.heap.size + 1, 2, none⟩) of1 (.int .i64 w2)).setCell (p := ⟨w.heap.size + 1, 3, none⟩) of1 (.slice p3 N3 cap3)).setCell (p := ⟨w.heap.size + 1, 4, none⟩) of1 (.slice none 0 0)
    clear cb fb zb cr fr zr rb rr k4 hr4 of0 of1 hs hl
    generalize ((((u4.setCell ⟨w.heap.size + 1, 0, none⟩ (.int .i64 room)).setCell ⟨w.heap.size + 1, 1, none⟩ (.int .i64 f2)).setCell ⟨w.heap.size + 1, 2, none⟩ (.int .i64 w2)).setCell ⟨w.heap.size + 1, 3, none⟩ (.slice p3 N3 cap3)).setCell ⟨w.heap.size + 1, 4, none⟩ (.slice none 0 0) = u5 at *
    have cr := r5.cell
    have fr := r5.frozen
    exact bodyPost_ret (v := .tuple #[dV room f2 w2 (.slice p3 N3 cap3) (.slice none 0 0), .int .i64 0]) (by simp [results, Try.results25, go_sem, cr]) rfl ⟨_, _, rfl, hr5, .inl ⟨⟨_, _, rfl⟩, rfl⟩, k5⟩
  · go_enter Try.func25, Try.ntmps25
    go_wp2_with fail
    refine (ASK.out _ _ _ _ _ _ _).mono ?_
    rintro e w1 ⟨rfl, hv⟩
    have kw : Below w.heap.size w w1 := by (repeat (first | with_reducible assumption | with_reducible exact Below.refl _ _ | with_reducible refine Below.drew ?_ | with_reducible refine below_drewN ?_ _ | with_reducible refine al ?_ _ | (with_reducible refine sc ?_ ?_; (focus (first | omega | (simp; done) | (simp; omega)))) | (with_reducible refine chain ?_ (by assumption))))
    have rb : RowAt w1 w.heap.size #[.int .i64 room, .int .i64 fails, .int .i64 wait, .slice ps M cs, .slice p N cap] 28 := ((RowAt.new w _ _).alloc _).keep hv
    have rr : RowAt w1 (w.heap.size + 1) #[.int .i64 0, .int .i64 0, .int .i64 0, .slice none 0 0, .slice none 0 0] 28 := (RowAt.make _ _ _ (by simp)).keep hv
    have cb : ∀ j, w1.cell? ⟨w.heap.size, j, none⟩ = (#[.int .i64 room, .int .i64 fails, .int .i64 wait, .slice ps M cs, .slice p N cap] : Array Value)[j]? := rb.cell
    have fb : ∀ j, w1.frozen? ⟨w.heap.size, j, none⟩ = false := rb.frozen
    have zb : w.heap.size < w1.heap.size := rb.lt
    have cr : ∀ j, w1.cell? ⟨w.heap.size + 1, j, none⟩ = (#[.int .i64 0, .int .i64 0, .int .i64 0, .slice none 0 0, .slice none 0 0] : Array Value)[j]? := rr.cell
    have fr : ∀ j, w1.frozen? ⟨w.heap.size + 1, j, none⟩ = false := rr.frozen
    have zr : w.heap.size + 1 < w1.heap.size := rr.lt
    clear hv
    go_upto_region 2 with (fail)
    clear cb fb zb cr fr zr
    have k2 := below5 kw (Nat.le_refl _) (.int .i64 room) (.int .i64 f2) (.int .i64 w2) (.slice ps M cs) (.slice p N cap)
    replace rr := row5_other rr (Nat.succ_ne_self _) (.int .i64 room) (.int .i64 f2) (.int .i64 w2) (.slice ps M cs) (.slice p N cap)
    replace rb := row5 rb (.int .i64 room) (.int .i64 f2) (.int .i64 w2) (.slice ps M cs) (.slice p N cap)
    generalize ((((w1.setCell ⟨w.heap.size, 0, none⟩ (.int .i64 room)).setCell ⟨w.heap.size, 1, none⟩ (.int .i64 f2)).setCell ⟨w.heap.size, 2, none⟩ (.int .i64 w2)).setCell ⟨w.heap.size, 3, none⟩ (.slice ps M cs)).setCell ⟨w.heap.size, 4, none⟩ (.slice p N cap) = u2 at *
    clear kw
    have cb : ∀ j, u2.cell? ⟨w.heap.size, j, none⟩ = (#[.int .i64 room, .int .i64 f2, .int .i64 w2, .slice ps M cs, .slice p N cap] : Array Value)[j]? := rb.cell
    have fb : ∀ j, u2.frozen? ⟨w.heap.size, j, none⟩ = false := rb.frozen
    have zb : w.heap.size < u2.heap.size := rb.lt
    have cr : ∀ j, u2.cell? ⟨w.heap.size + 1, j, none⟩ = (#[.int .i64 0, .int .i64 0, .int .i64 0, .slice none 0 0, .slice none 0 0] : Array Value)[j]? := rr.cell
    have fr : ∀ j, u2.frozen? ⟨w.heap.size + 1, j, none⟩ = false := rr.frozen
    have zr : w.heap.size + 1 < u2.heap.size := rr.lt
    go_wp2_with fail
    have k5 := below5 k2 (Nat.le_succ _) (.int .i64 room) (.int .i64 f2) (.int .i64 w2) (.slice ps M cs) (.slice p N cap)
    have r5 := row5 rr (.int .i64 room) (.int .i64 f2) (.int .i64 w2) (.slice ps M cs) (.slice p N cap)
    clear cb fb zb cr fr zr rb rr k2
    generalize ((((u2.setCell ⟨w.heap.size + 1, 0, none⟩ (.int .i64 room)).setCell ⟨w.heap.size + 1, 1, none⟩ (.int .i64 f2)).setCell ⟨w.heap.size + 1, 2, none⟩ (.int .i64 w2)).setCell ⟨w.heap.size + 1, 3, none⟩ (.slice ps M cs)).setCell ⟨w.heap.size + 1, 4, none⟩ (.slice p N cap) = u5 at *
    have cr := r5.cell
    exact bodyPost_ret (v := .tuple #[dV room f2 w2 (.slice ps M cs) (.slice p N cap), .int .i64 9]) (by simp [results, Try.results25, go_sem, cr]) rfl ⟨_, _, rfl, hs.keep k5, hl.keep k5, k5⟩
end Go.Proofs.Ytkephcmjigfepaa
