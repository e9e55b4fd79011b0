/- Contracts of layer 8's reference (disk): Put. Written by gen_r85.py. -/
import Derived.Test.YtkephcmjigfepaaR84
import Derived.Test.YtkephcmjigfepaaK82
import Derived.Test.YtkephcmjigfepaaS06
set_option linter.unusedVariables false
set_option linter.unusedSimpArgs false
namespace Go.Proofs.Ytkephcmjigfepaa
open Go.ChangeShapes Go.WideShapes Go.ChangeAt Go.RowKit
/-- What Put answers: how often it fails then, and waits; the blobs under way; the error. -/
def putF {β : Type} (len : List (Int × β) → Nat) (room fails wait : Int) (s l : List (Int × β)) (x : Int × β) : List (Int × β) × Int :=
  if (askF fails wait).2 = true then (l, 9) else if room < len (layF (nowF s l) x) then (l, 8) else (l ++ [x], 0)
set_option maxRecDepth 10000 in
set_option maxHeartbeats 8000000 in
theorem r8_put (room fails wait key : Int) (vs vl : Value) (s l : List Raw) (pb : Option Addr) (nb mc : Nat) (w : World) (hf : i64 fails) (hk : i64 key) (hs : RawAt w vs s) (hl : RawAt w vl l) (oks : rawOk s) (okl : rawOk l) (hS : s.length ≤ 40000) (hL : l.length ≤ 40000) (hB : lenR (layF (nowF s l) (key, .slice pb nb mc)) ≤ 1000000000000) :
    Calls Try.prog 24 #[dV room fails wait vs vl, .int .i64 key, .slice pb nb mc] w fun e w' =>
      ∃ vl', e = .returned (.tuple #[dV room (askF fails wait).1.1 (askF fails wait).1.2 vs vl', .int .i64 (putF lenR room fails wait s l (key, .slice pb nb mc)).2]) ∧ RawAt w' vl' (putF lenR room fails wait s l (key, .slice pb nb mc)).1 ∧ Below w.heap.size w w' := by
  obtain ⟨i0, hi, hz, hsz, hby⟩ := w8_info
  have ask := fun p q n c m d u => r8_asked room fails wait p q n c m d u hf
  unfold putF
  obtain ⟨⟨⟨f2, w2⟩, b⟩, hA⟩ : ∃ A, askF fails wait = A := ⟨_, rfl⟩
  simp only [hA] at ask ⊢
  have ASK := Lib.hid ask
  obtain ⟨T, hT⟩ : ∃ T, layF (nowF s l) (key, .slice pb nb mc) = T := ⟨_, rfl⟩
  have now := fun u hu hv => r8_now room f2 w2 vs vl s l u hu hv oks okl hS hL
  have oknow : rawOk (nowF s l) := by have := rawOk.now oks okl l.length (Nat.le_refl _); rwa [List.take_length] at this
  have lnnow : (nowF s l).length ≤ 80000 := by have := nowF_len s l l.length (Nat.le_refl _); rw [List.take_length] at this; omega
  have lay := fun v u hu => r8_lay v (nowF s l) key pb nb mc u hu oknow (by omega)
  have okT : rawOk T := by rw [← hT]; exact oknow.lay ⟨hk, _, _, _, rfl⟩
  have lnT : T.length ≤ 100000 := by rw [← hT]; have := layF_len (nowF s l) (key, Value.slice pb nb mc); omega
  rw [hT] at lay hB ⊢
  have len := fun v u hu => r8_len v T u hu okT lnT hB
  obtain ⟨X, hX⟩ : ∃ X, lenR T = X := ⟨_, rfl⟩
  rw [hX] at len hB ⊢
  obtain ⟨ps, cs, rfl, _⟩ := hs.form
  obtain ⟨p, cap, rfl, hfl⟩ := hl.form
  obtain ⟨N, hN⟩ : ∃ N, l.length = N := ⟨_, rfl⟩
  obtain ⟨M, hM⟩ : ∃ N, s.length = N := ⟨_, rfl⟩
  rw [hN] at hl now hL ⊢
  rw [hM] at hs now ⊢
  have NOW := Lib.hid now
  have LAY := Lib.hid lay
  have LEN := Lib.hid len
  have HN := Lib.hid hN
  have HFL := Lib.hid hfl
  have OKL := Lib.hid okl
  clear now lay len ask hA hN hM oks okl hS hf hX hT oknow lnnow okT lnT hfl
  cases b
  · go_enter Try.func24, Try.ntmps24
    go_wp2_with fail
    refine (ASK.out _ _ _ _ _ _ _).mono ?_
    rintro e w1 ⟨rfl, hv⟩
    have kw : Below w.heap.size w w1 := by (repeat (first | with_reducible assumption | with_reducible exact Below.refl _ _ | with_reducible refine Below.drew ?_ | with_reducible refine below_drewN ?_ _ | with_reducible refine al ?_ _ | (with_reducible refine sc ?_ ?_; (focus (first | omega | (simp; done) | (simp; omega)))) | (with_reducible refine chain ?_ (by assumption))))
    have rb : RowAt w1 w.heap.size #[.int .i64 room, .int .i64 fails, .int .i64 wait, .slice ps M cs, .slice p N cap] 28 := ((RowAt.new w _ _).alloc _).keep hv
    have rr : RowAt w1 (w.heap.size + 1) #[.int .i64 0, .int .i64 0, .int .i64 0, .slice none 0 0, .slice none 0 0] 28 := (RowAt.make _ _ _ (by simp)).keep hv
    have cb : ∀ j, w1.cell? ⟨w.heap.size, j, none⟩ = (#[.int .i64 room, .int .i64 fails, .int .i64 wait, .slice ps M cs, .slice p N cap] : Array Value)[j]? := rb.cell
    have fb : ∀ j, w1.frozen? ⟨w.heap.size, j, none⟩ = false := rb.frozen
    have zb : w.heap.size < w1.heap.size := rb.lt
    have cr : ∀ j, w1.cell? ⟨(w.heap.size + 1), j, none⟩ = (#[.int .i64 0, .int .i64 0, .int .i64 0, .slice none 0 0, .slice none 0 0] : Array Value)[j]? := rr.cell
    have fr : ∀ j, w1.frozen? ⟨(w.heap.size + 1), j, none⟩ = false := rr.frozen
    have zr : (w.heap.size + 1) < w1.heap.size := rr.lt
    clear hv
    go_upto_region 2 with (fail)
    clear cb fb zb cr fr zr
    have k2 := below5 kw (Nat.le_refl _) (.int .i64 room) (.int .i64 f2) (.int .i64 w2) (.slice ps M cs) (.slice p N cap)
    replace rr := row5_other rr (Nat.succ_ne_self _) (.int .i64 room) (.int .i64 f2) (.int .i64 w2) (.slice ps M cs) (.slice p N cap)
    replace rb := row5 rb (.int .i64 room) (.int .i64 f2) (.int .i64 w2) (.slice ps M cs) (.slice p N cap)
    generalize (((((w1.setCell ⟨w.heap.size, 0, none⟩ (.int .i64 room)).setCell ⟨w.heap.size, 1, none⟩ (.int .i64 f2)).setCell ⟨w.heap.size, 2, none⟩ (.int .i64 w2)).setCell ⟨w.heap.size, 3, none⟩ (.slice ps M cs)).setCell ⟨w.heap.size, 4, none⟩ (.slice p N cap)) = u2 at *
    clear kw
    have cb : ∀ j, u2.cell? ⟨w.heap.size, j, none⟩ = (#[.int .i64 room, .int .i64 f2, .int .i64 w2, .slice ps M cs, .slice p N cap] : Array Value)[j]? := rb.cell
    have fb : ∀ j, u2.frozen? ⟨w.heap.size, j, none⟩ = false := rb.frozen
    have zb : w.heap.size < u2.heap.size := rb.lt
    have cr : ∀ j, u2.cell? ⟨(w.heap.size + 1), j, none⟩ = (#[.int .i64 0, .int .i64 0, .int .i64 0, .slice none 0 0, .slice none 0 0] : Array Value)[j]? := rr.cell
    have fr : ∀ j, u2.frozen? ⟨(w.heap.size + 1), j, none⟩ = false := rr.frozen
    have zr : (w.heap.size + 1) < u2.heap.size := rr.lt
    have ze1 := zr
    go_upto_region 5 with (fail)
    clear cb fb zb cr fr zr
    obtain ⟨u3, hu3⟩ : ∃ u, u2.alloc (.cells #[.int .i64 key, .slice pb nb mc] 70) = u := ⟨_, rfl⟩
    have kv : Below u2.heap.size u2 u3 := by rw [← hu3]; exact al (Below.refl _ _) _
    have rw3 : RowAt u3 u2.heap.size #[.int .i64 key, .slice pb nb mc] 70 := by rw [← hu3]; exact RowAt.new u2 _ _
    rw [hu3]
    have k3 := chain k2 kv
    replace rb := rb.keep kv
    replace rr := rr.keep kv
    have zg := k2.size
    have sz3 : u2.heap.size < u3.heap.size := rw3.lt
    clear hu3 kv k2
    have cb : ∀ j, u3.cell? ⟨w.heap.size, j, none⟩ = (#[.int .i64 room, .int .i64 f2, .int .i64 w2, .slice ps M cs, .slice p N cap] : Array Value)[j]? := rb.cell
    have fb : ∀ j, u3.frozen? ⟨w.heap.size, j, none⟩ = false := rb.frozen
    have zb : w.heap.size < u3.heap.size := rb.lt
    have cw : ∀ j, u3.cell? ⟨u2.heap.size, j, none⟩ = (#[.int .i64 key, .slice pb nb mc] : Array Value)[j]? := rw3.cell
    have fw : ∀ j, u3.frozen? ⟨u2.heap.size, j, none⟩ = false := rw3.frozen
    have zw : u2.heap.size < u3.heap.size := rw3.lt
    refine region_plan 8 (.calm 0 (.calm 2 (.calm 5 (.calm 6 (.one 1 (.one 3 (.one 4 (.calm 7 .done)))))))) (by kernel_rfl) (by kernel_rfl) (by kernel_rfl) rfl (by kernel_rfl) (fun c a d v w h => by cases d <;> exact h) ?_
    intro u4 hu4 hsz4
    (refine' PlanW.val (by rfl) (by rfl) (fun wx hx => ?_) ?_; rotate_left 1; (focus (obtain ⟨hrc, hrf⟩ := bcell hx; (go_simp <;> with_reducible rfl); done)); simp only [Act.put, List.setIfInBounds_toArray, List.set_cons_zero, List.set_cons_succ])
    (refine' PlanW.val (by rfl) (by rfl) (fun wx hx => ?_) ?_; rotate_left 1; (focus (obtain ⟨hrc, hrf⟩ := bcell hx; (go_simp <;> with_reducible rfl); done)); simp only [Act.put, List.setIfInBounds_toArray, List.set_cons_zero, List.set_cons_succ])
    (refine' PlanW.val (by rfl) (by rfl) (fun wx hx => ?_) ?_; rotate_left 1; (focus (obtain ⟨hrc, hrf⟩ := bcell hx; (go_simp <;> with_reducible rfl); done)); simp only [Act.put, List.setIfInBounds_toArray, List.set_cons_zero, List.set_cons_succ])
    (refine' PlanW.val (by rfl) (by rfl) (fun wx hx => ?_) ?_; rotate_left 1; (focus (obtain ⟨hrc, hrf⟩ := bcell hx; (go_simp <;> with_reducible rfl); done)); simp only [Act.put, List.setIfInBounds_toArray, List.set_cons_zero, List.set_cons_succ])
    have k4 := chain k3 hu4
    have fin : u3.heap.size ≤ u4.heap.size := hu4.size
    clear cb fb zb cw fw zw
    refine PlanW.one (by rfl) ?_
    go_wp2_with fail
    refine (NOW.out _ (hs.keep k4) (hl.keep k4)).mono ?_
    rintro e w5 ⟨v5, rfl, hr5, _, hv5⟩
    have q5 := chain hu4 hv5
    go_wp2_with fail
    refine ⟨.inr q5, PlanW.one (by rfl) ?_⟩
    go_wp2_with fail
    refine (LAY.out _ _ hr5).mono ?_
    rintro e w6 ⟨v6, rfl, ho6, hv6⟩
    have q6 := chain q5 hv6
    go_wp2_with fail
    refine ⟨.inr q6, PlanW.one (by rfl) ?_⟩
    go_wp2_with fail
    refine (LEN.out _ _ (raws_of_owned ho6)).mono ?_
    rintro e w7 ⟨rfl, hv7⟩
    have q7 := chain q6 hv7
    have k7 := chain k3 q7
    replace rb := rb.keep q7
    replace rr := rr.keep q7
    replace rw3 := rw3.keep q7
    clear hr5 ho6 hv5 hv6 hv7 q5 q6 k4 fin hu4 hsz4
    go_wp2_with fail
    refine ⟨.inr q7, ?_⟩
    clear q7
    have e1 := rb.lt
    have e2 := rr.lt
    by_cases hgt : room < (X : Int)
    · (refine' PlanW.val (by rfl) (by rfl) (fun wx hx => ?_) ?_; rotate_left 1; (focus (obtain ⟨hrc, hrf⟩ := bcell hx; (go_simp <;> with_reducible rfl); done)); simp only [Act.put, List.setIfInBounds_toArray, List.set_cons_zero, List.set_cons_succ])
      have cb : ∀ j, w7.cell? ⟨w.heap.size, j, none⟩ = (#[.int .i64 room, .int .i64 f2, .int .i64 w2, .slice ps M cs, .slice p N cap] : Array Value)[j]? := rb.cell
      have fb : ∀ j, w7.frozen? ⟨w.heap.size, j, none⟩ = false := rb.frozen
      have zb : w.heap.size < w7.heap.size := rb.lt
      have cr : ∀ j, w7.cell? ⟨(w.heap.size + 1), j, none⟩ = (#[.int .i64 0, .int .i64 0, .int .i64 0, .slice none 0 0, .slice none 0 0] : Array Value)[j]? := rr.cell
      have fr : ∀ j, w7.frozen? ⟨(w.heap.size + 1), j, none⟩ = false := rr.frozen
      have zr : (w.heap.size + 1) < w7.heap.size := rr.lt
      have cw : ∀ j, w7.cell? ⟨u2.heap.size, j, none⟩ = (#[.int .i64 key, .slice pb nb mc] : Array Value)[j]? := rw3.cell
      have fw : ∀ j, w7.frozen? ⟨u2.heap.size, j, none⟩ = false := rw3.frozen
      have zw : u2.heap.size < w7.heap.size := rw3.lt
      refine PlanW.done ?_
      go_wp2_with fail
      clear cb fb zb cr fr zr cw fw zw
      clear rw3
      have k9 := below5 k7 (Nat.le_succ _) (.int .i64 room) (.int .i64 f2) (.int .i64 w2) (.slice ps M cs) (.slice p N cap)
      have r9 := row5 rr (.int .i64 room) (.int .i64 f2) (.int .i64 w2) (.slice ps M cs) (.slice p N cap)
      clear rb rr
      generalize (((((w7.setCell ⟨(w.heap.size + 1), 0, none⟩ (.int .i64 room)).setCell ⟨(w.heap.size + 1), 1, none⟩ (.int .i64 f2)).setCell ⟨(w.heap.size + 1), 2, none⟩ (.int .i64 w2)).setCell ⟨(w.heap.size + 1), 3, none⟩ (.slice ps M cs)).setCell ⟨(w.heap.size + 1), 4, none⟩ (.slice p N cap)) = u9 at *
      have cr := r9.cell
      exact bodyPost_ret (v := .tuple #[dV room f2 w2 (.slice ps M cs) (.slice p N cap), .int .i64 8]) (by simp [results, Try.results24, go_sem, cr]) rfl ⟨_, rfl, hl.keep k9, k9⟩
    · (refine' PlanW.val (by rfl) (by rfl) (fun wx hx => ?_) ?_; rotate_left 1; (focus (obtain ⟨hrc, hrf⟩ := bcell hx; (go_simp <;> with_reducible rfl); done)); simp only [Act.put, List.setIfInBounds_toArray, List.set_cons_zero, List.set_cons_succ])
      have cb : ∀ j, w7.cell? ⟨w.heap.size, j, none⟩ = (#[.int .i64 room, .int .i64 f2, .int .i64 w2, .slice ps M cs, .slice p N cap] : Array Value)[j]? := rb.cell
      have fb : ∀ j, w7.frozen? ⟨w.heap.size, j, none⟩ = false := rb.frozen
      have zb : w.heap.size < w7.heap.size := rb.lt
      have cr : ∀ j, w7.cell? ⟨(w.heap.size + 1), j, none⟩ = (#[.int .i64 0, .int .i64 0, .int .i64 0, .slice none 0 0, .slice none 0 0] : Array Value)[j]? := rr.cell
      have fr : ∀ j, w7.frozen? ⟨(w.heap.size + 1), j, none⟩ = false := rr.frozen
      have zr : (w.heap.size + 1) < w7.heap.size := rr.lt
      have cw : ∀ j, w7.cell? ⟨u2.heap.size, j, none⟩ = (#[.int .i64 key, .slice pb nb mc] : Array Value)[j]? := rw3.cell
      have fw : ∀ j, w7.frozen? ⟨u2.heap.size, j, none⟩ = false := rw3.frozen
      have zw : u2.heap.size < w7.heap.size := rw3.lt
      refine PlanW.done ?_
      go_upto_region 9 with (at_builtin; refine app_raws _ rfl _ _ 26 rfl 70 i0 _ Try.underlying26 hi hz hsz hby rfl rfl _ rfl l (hl.keep k7) OKL.out (by rw [HN.out]; omega) ?_; intro v8 w8 ho8 hb8)
      clear cb fb zb cr fr zr cw fw zw
      rw [HN.out] at ho8
      have rw8 := rw3.keep hb8
      obtain ⟨p8, c8, rfl⟩ := own_form ho8
      have HO8 := Lib.hid ho8
      have hz7 : w7.heap.size ≤ w8.heap.size := hb8.size
      clear ho8 rw3
      have cw : ∀ j, w8.cell? ⟨u2.heap.size, j, none⟩ = (#[.int .i64 key, .slice pb nb mc] : Array Value)[j]? := rw8.cell
      have fw : ∀ j, w8.frozen? ⟨u2.heap.size, j, none⟩ = false := rw8.frozen
      have zw : u2.heap.size < w8.heap.size := rw8.lt
      go_upto_region 10 with (at_builtin; refine app_raw _ rfl _ _ 26 rfl w7.heap.size 70 i0 _ Try.underlying26 hi hz hsz hby rfl _ N (rawVs l) rfl (HO8.out.alloc _) w8.heap.size (.int .i64 key) (.slice pb nb mc) rfl (by go_simp) (by go_simp) rfl rfl (by omega) (by simp; omega) ?_; intro v10 w10 ho10 hg10; have h10 := Below.own (al hb8 _) (HO8.out.alloc _) hg10; replace rb := rb.keep h10; replace rr := rr.keep h10; obtain ⟨p10, c10, rfl⟩ := own_form ho10; have cb : ∀ j, w10.cell? ⟨w.heap.size, j, none⟩ = (#[.int .i64 room, .int .i64 f2, .int .i64 w2, .slice ps M cs, .slice p N cap] : Array Value)[j]? := rb.cell; have fb : ∀ j, w10.frozen? ⟨w.heap.size, j, none⟩ = false := rb.frozen; have zb : w.heap.size < w10.heap.size := rb.lt; have cr : ∀ j, w10.cell? ⟨(w.heap.size + 1), j, none⟩ = (#[.int .i64 0, .int .i64 0, .int .i64 0, .slice none 0 0, .slice none 0 0] : Array Value)[j]? := rr.cell; have fr : ∀ j, w10.frozen? ⟨(w.heap.size + 1), j, none⟩ = false := rr.frozen; have zr : (w.heap.size + 1) < w10.heap.size := rr.lt)
      clear cb fb zb cr fr zr
      have k10 := chain k7 h10
      have hl2 : (l ++ [(key, Value.slice pb nb mc)]).length = N + 1 := by rw [List.length_append, HN.out]; rfl
      have hr10 : RawAt w10 (.slice p10 (N + 1) c10) (l ++ [(key, Value.slice pb nb mc)]) := raws_of_owned (base := w7.heap.size) (by rw [hl2, rawVs_snoc]; exact ho10)
      have of0 : offR w.heap.size (.slice p10 (N + 1) c10) (l ++ [(key, Value.slice pb nb mc)]) := off_of_owned ho10 (by omega) _
      have of1 : offR (w.heap.size + 1) (.slice p10 (N + 1) c10) (l ++ [(key, Value.slice pb nb mc)]) := off_of_owned ho10 (by omega) _
      have k11 := k10.setCell (p := ⟨w.heap.size, 4, none⟩) (Nat.le_refl _) (.slice p10 (N + 1) c10)
      have hr11 := hr10.setCell (p := ⟨w.heap.size, 4, none⟩) of0 (.slice p10 (N + 1) c10)
      replace rr := rr.other (p := ⟨w.heap.size, 4, none⟩) (Nat.succ_ne_self _) (.slice p10 (N + 1) c10)
      have rb4 : RowAt (w10.setCell ⟨w.heap.size, 4, none⟩ (.slice p10 (N + 1) c10)) w.heap.size #[.int .i64 room, .int .i64 f2, .int .i64 w2, .slice ps M cs, .slice p10 (N + 1) c10] 28 := by simpa using rb.set 4 (.slice p10 (N + 1) c10)
      clear rb hr10 k10 ho10 hg10
      generalize w10.setCell ⟨w.heap.size, 4, none⟩ (.slice p10 (N + 1) c10) = u10 at *
      have rb := rb4
      clear rb4
      have cb : ∀ j, u10.cell? ⟨w.heap.size, j, none⟩ = (#[.int .i64 room, .int .i64 f2, .int .i64 w2, .slice ps M cs, .slice p10 (N + 1) c10] : Array Value)[j]? := rb.cell
      have fb : ∀ j, u10.frozen? ⟨w.heap.size, j, none⟩ = false := rb.frozen
      have zb : w.heap.size < u10.heap.size := rb.lt
      have cr : ∀ j, u10.cell? ⟨(w.heap.size + 1), j, none⟩ = (#[.int .i64 0, .int .i64 0, .int .i64 0, .slice none 0 0, .slice none 0 0] : Array Value)[j]? := rr.cell
      have fr : ∀ j, u10.frozen? ⟨(w.heap.size + 1), j, none⟩ = false := rr.frozen
      have zr : (w.heap.size + 1) < u10.heap.size := rr.lt
      go_wp2_with fail
      clear cb fb zb cr fr zr
      have hr9 := hr11.set5 of1 (.int .i64 room) (.int .i64 f2) (.int .i64 w2) (.slice ps M cs) (.slice p10 (N + 1) c10)
      clear hr11 of0 of1
      have k9 := below5 k11 (Nat.le_succ _) (.int .i64 room) (.int .i64 f2) (.int .i64 w2) (.slice ps M cs) (.slice p10 (N + 1) c10)
      have r9 := row5 rr (.int .i64 room) (.int .i64 f2) (.int .i64 w2) (.slice ps M cs) (.slice p10 (N + 1) c10)
      clear rb rr
      generalize (((((u10.setCell ⟨(w.heap.size + 1), 0, none⟩ (.int .i64 room)).setCell ⟨(w.heap.size + 1), 1, none⟩ (.int .i64 f2)).setCell ⟨(w.heap.size + 1), 2, none⟩ (.int .i64 w2)).setCell ⟨(w.heap.size + 1), 3, none⟩ (.slice ps M cs)).setCell ⟨(w.heap.size + 1), 4, none⟩ (.slice p10 (N + 1) c10)) = u9 at *
      have cr := r9.cell
      exact bodyPost_ret (v := .tuple #[dV room f2 w2 (.slice ps M cs) (.slice p10 (N + 1) c10), .int .i64 0]) (by simp [results, Try.results24, go_sem, cr]) rfl ⟨_, rfl, hr9, k9⟩
  · go_enter Try.func24, Try.ntmps24
    go_wp2_with fail
    refine (ASK.out _ _ _ _ _ _ _).mono ?_
    rintro e w1 ⟨rfl, hv⟩
    have kw : Below w.heap.size w w1 := by (repeat (first | with_reducible assumption | with_reducible exact Below.refl _ _ | with_reducible refine Below.drew ?_ | with_reducible refine below_drewN ?_ _ | with_reducible refine al ?_ _ | (with_reducible refine sc ?_ ?_; (focus (first | omega | (simp; done) | (simp; omega)))) | (with_reducible refine chain ?_ (by assumption))))
    have rb : RowAt w1 w.heap.size #[.int .i64 room, .int .i64 fails, .int .i64 wait, .slice ps M cs, .slice p N cap] 28 := ((RowAt.new w _ _).alloc _).keep hv
    have rr : RowAt w1 (w.heap.size + 1) #[.int .i64 0, .int .i64 0, .int .i64 0, .slice none 0 0, .slice none 0 0] 28 := (RowAt.make _ _ _ (by simp)).keep hv
    have cb : ∀ j, w1.cell? ⟨w.heap.size, j, none⟩ = (#[.int .i64 room, .int .i64 fails, .int .i64 wait, .slice ps M cs, .slice p N cap] : Array Value)[j]? := rb.cell
    have fb : ∀ j, w1.frozen? ⟨w.heap.size, j, none⟩ = false := rb.frozen
    have zb : w.heap.size < w1.heap.size := rb.lt
    have cr : ∀ j, w1.cell? ⟨(w.heap.size + 1), j, none⟩ = (#[.int .i64 0, .int .i64 0, .int .i64 0, .slice none 0 0, .slice none 0 0] : Array Value)[j]? := rr.cell
    have fr : ∀ j, w1.frozen? ⟨(w.heap.size + 1), j, none⟩ = false := rr.frozen
    have zr : (w.heap.size + 1) < w1.heap.size := rr.lt
    clear hv
    go_upto_region 2 with (fail)
    clear cb fb zb cr fr zr
    have k2 := below5 kw (Nat.le_refl _) (.int .i64 room) (.int .i64 f2) (.int .i64 w2) (.slice ps M cs) (.slice p N cap)
    replace rr := row5_other rr (Nat.succ_ne_self _) (.int .i64 room) (.int .i64 f2) (.int .i64 w2) (.slice ps M cs) (.slice p N cap)
    replace rb := row5 rb (.int .i64 room) (.int .i64 f2) (.int .i64 w2) (.slice ps M cs) (.slice p N cap)
    generalize (((((w1.setCell ⟨w.heap.size, 0, none⟩ (.int .i64 room)).setCell ⟨w.heap.size, 1, none⟩ (.int .i64 f2)).setCell ⟨w.heap.size, 2, none⟩ (.int .i64 w2)).setCell ⟨w.heap.size, 3, none⟩ (.slice ps M cs)).setCell ⟨w.heap.size, 4, none⟩ (.slice p N cap)) = u2 at *
    clear kw
    have cb : ∀ j, u2.cell? ⟨w.heap.size, j, none⟩ = (#[.int .i64 room, .int .i64 f2, .int .i64 w2, .slice ps M cs, .slice p N cap] : Array Value)[j]? := rb.cell
    have fb : ∀ j, u2.frozen? ⟨w.heap.size, j, none⟩ = false := rb.frozen
    have zb : w.heap.size < u2.heap.size := rb.lt
    have cr : ∀ j, u2.cell? ⟨(w.heap.size + 1), j, none⟩ = (#[.int .i64 0, .int .i64 0, .int .i64 0, .slice none 0 0, .slice none 0 0] : Array Value)[j]? := rr.cell
    have fr : ∀ j, u2.frozen? ⟨(w.heap.size + 1), j, none⟩ = false := rr.frozen
    have zr : (w.heap.size + 1) < u2.heap.size := rr.lt
    go_wp2_with fail
    clear cb fb zb cr fr zr
    have k9 := below5 k2 (Nat.le_succ _) (.int .i64 room) (.int .i64 f2) (.int .i64 w2) (.slice ps M cs) (.slice p N cap)
    have r9 := row5 rr (.int .i64 room) (.int .i64 f2) (.int .i64 w2) (.slice ps M cs) (.slice p N cap)
    clear rb rr
    generalize (((((u2.setCell ⟨(w.heap.size + 1), 0, none⟩ (.int .i64 room)).setCell ⟨(w.heap.size + 1), 1, none⟩ (.int .i64 f2)).setCell ⟨(w.heap.size + 1), 2, none⟩ (.int .i64 w2)).setCell ⟨(w.heap.size + 1), 3, none⟩ (.slice ps M cs)).setCell ⟨(w.heap.size + 1), 4, none⟩ (.slice p N cap)) = u9 at *
    have cr := r9.cell
    exact bodyPost_ret (v := .tuple #[dV room f2 w2 (.slice ps M cs) (.slice p N cap), .int .i64 9]) (by simp [results, Try.results24, go_sem, cr]) rfl ⟨_, rfl, hl.keep k9, k9⟩
end Go.Proofs.Ytkephcmjigfepaa
