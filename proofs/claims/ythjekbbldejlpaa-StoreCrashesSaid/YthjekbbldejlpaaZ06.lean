/- Texts behind each other. -/
import Derived.Test.YthjekbbldejlpaaZ05
/- Contracts of layer 8's reference (disk): asked, Fail, New. -/
set_option linter.unusedVariables false
set_option linter.unusedSimpArgs false
namespace Go.Proofs.Ythjekbbldejlpaa
open Go.ChangeShapes Go.WideShapes Go.ChangeAt Go.RowKit
abbrev dV (room fails wait : Int) (s l : Value) : Value := .agg #[.int .i64 room, .int .i64 fails, .int .i64 wait, s, l]
/-- How often it fails, whether it waits with that; does it fail now? -/
def askF (fails wait : Int) : (Int × Int) × Bool := if 0 < wait then ((fails, 0), false) else if 0 < fails then ((fails - 1, wait), true) else ((fails, wait), false)
set_option maxHeartbeats 4000000 in
theorem r8_asked (room fails wait : Int) (p q : Option Addr) (n c m d : Nat) (w : World) (hf : i64 fails) : Calls Try.prog 58 #[dV room fails wait (.slice p n c) (.slice q m d)] w fun e w' =>
    e = .returned (.tuple #[dV room (askF fails wait).1.1 (askF fails wait).1.2 (.slice p n c) (.slice q m d), .bool (askF fails wait).2]) ∧ Below w.heap.size w w' := by
  unfold askF
  by_cases h1 : 0 < wait
  · rw [if_pos h1]
    go_enter Try.func58, Try.ntmps58
    go_wp2_with fail
    exact bodyPost_ret (v := .tuple #[dV room fails 0 (.slice p n c) (.slice q m d), .bool false]) (by simp [results, Try.results58, go_sem]) rfl ⟨rfl, by (repeat (first | with_reducible assumption | with_reducible exact Below.refl _ _ | with_reducible refine Below.drew ?_ | with_reducible refine below_drewN ?_ _ | with_reducible refine al ?_ _ | (with_reducible refine sc ?_ ?_; (focus (first | omega | (simp; done) | (simp; omega)))) | (with_reducible refine chain ?_ (by assumption))))⟩
  · rw [if_neg h1]
    by_cases h2 : 0 < fails
    · rw [if_pos h2]
      have hw : IntKind.i64.wrap (fails - 1) = fails - 1 := IntWalk.i64_in _ (by omega)
      go_enter Try.func58, Try.ntmps58
      go_wp2_with fail
      exact bodyPost_ret (v := .tuple #[dV room (fails - 1) wait (.slice p n c) (.slice q m d), .bool true]) (by simp [results, Try.results58, go_sem]) rfl ⟨rfl, by (repeat (first | with_reducible assumption | with_reducible exact Below.refl _ _ | with_reducible refine Below.drew ?_ | with_reducible refine below_drewN ?_ _ | with_reducible refine al ?_ _ | (with_reducible refine sc ?_ ?_; (focus (first | omega | (simp; done) | (simp; omega)))) | (with_reducible refine chain ?_ (by assumption))))⟩
    · rw [if_neg h2]
      go_enter Try.func58, Try.ntmps58
      go_wp2_with fail
      exact bodyPost_ret (v := .tuple #[dV room fails wait (.slice p n c) (.slice q m d), .bool false]) (by simp [results, Try.results58, go_sem]) rfl ⟨rfl, by (repeat (first | with_reducible assumption | with_reducible exact Below.refl _ _ | with_reducible refine Below.drew ?_ | with_reducible refine below_drewN ?_ _ | with_reducible refine al ?_ _ | (with_reducible refine sc ?_ ?_; (focus (first | omega | (simp; done) | (simp; omega)))) | (with_reducible refine chain ?_ (by assumption))))⟩
/-- How often it fails then, and whether it waits with that. -/
def failF (n : Int) : Int × Int := if n < 0 then ((if -(n + 1) < 1048575 then -(n + 1) else 1048575) + 1, 1) else (n, 0)
set_option maxHeartbeats 4000000 in
theorem r8_fail (room fails wait k : Int) (p q : Option Addr) (n c m d : Nat) (w : World) (hk : i64 k) : Calls Try.prog 40 #[dV room fails wait (.slice p n c) (.slice q m d), .int .i64 k] w fun e w' =>
    e = .returned (dV room (failF k).1 (failF k).2 (.slice p n c) (.slice q m d)) ∧ Below w.heap.size w w' := by
  unfold failF
  by_cases h1 : k < 0
  · rw [if_pos h1]
    have w1 : IntKind.i64.wrap (k + 1) = k + 1 := IntWalk.i64_in _ (by omega)
    have w2 : IntKind.i64.wrap (-(k + 1)) = -(k + 1) := IntWalk.i64_in _ (by omega)
    have m0 : max k 0 = 0 := by omega
    by_cases h2 : -(k + 1) < 1048575
    · rw [if_pos h2]
      have w3 : IntKind.i64.wrap (-(k + 1) + 1) = -(k + 1) + 1 := IntWalk.i64_in _ (by omega)
      have m1 : min (-(k + 1)) 1048575 = -(k + 1) := by omega
      go_enter Try.func40, Try.ntmps40
      go_wp2_with fail
      exact bodyPost_ret (v := dV room (-(k + 1) + 1) 1 (.slice p n c) (.slice q m d)) (by simp [results, Try.results40, go_sem]) rfl ⟨rfl, by (repeat (first | with_reducible assumption | with_reducible exact Below.refl _ _ | with_reducible refine Below.drew ?_ | with_reducible refine below_drewN ?_ _ | with_reducible refine al ?_ _ | (with_reducible refine sc ?_ ?_; (focus (first | omega | (simp; done) | (simp; omega)))) | (with_reducible refine chain ?_ (by assumption))))⟩
    · rw [if_neg h2]
      have m1 : min (-(k + 1)) 1048575 = 1048575 := by omega
      go_enter Try.func40, Try.ntmps40
      go_wp2_with fail
      exact bodyPost_ret (v := dV room (1048575 + 1) 1 (.slice p n c) (.slice q m d)) (by simp [results, Try.results40, go_sem]) rfl ⟨rfl, by (repeat (first | with_reducible assumption | with_reducible exact Below.refl _ _ | with_reducible refine Below.drew ?_ | with_reducible refine below_drewN ?_ _ | with_reducible refine al ?_ _ | (with_reducible refine sc ?_ ?_; (focus (first | omega | (simp; done) | (simp; omega)))) | (with_reducible refine chain ?_ (by assumption))))⟩
  · rw [if_neg h1]
    have m0 : max k 0 = k := by omega
    go_enter Try.func40, Try.ntmps40
    go_wp2_with fail
    exact bodyPost_ret (v := dV room k 0 (.slice p n c) (.slice q m d)) (by simp [results, Try.results40, go_sem]) rfl ⟨rfl, by (repeat (first | with_reducible assumption | with_reducible exact Below.refl _ _ | with_reducible refine Below.drew ?_ | with_reducible refine below_drewN ?_ _ | with_reducible refine al ?_ _ | (with_reducible refine sc ?_ ?_; (focus (first | omega | (simp; done) | (simp; omega)))) | (with_reducible refine chain ?_ (by assumption))))⟩
set_option maxHeartbeats 4000000 in
theorem r8_new (room : Int) (w : World) : Calls Try.prog 18 #[.int .i64 room] w fun e w' =>
    e = .returned (dV (min (max room 0) 1048576) 0 0 (.slice none 0 0) (.slice none 0 0)) ∧ Below w.heap.size w w' := by
  obtain ⟨x, hx⟩ : ∃ x, min (max room 0) 1048576 = x := ⟨_, rfl⟩
  by_cases h1 : room < 0
  · have m0 : max room 0 = 0 := by omega
    have m1 : min (0 : Int) 1048576 = 0 := by omega
    have e : x = 0 := by omega
    rw [hx, e]
    clear hx e
    go_enter Try.func18, Try.ntmps18
    go_wp2_with fail
    exact bodyPost_ret (v := dV 0 0 0 (.slice none 0 0) (.slice none 0 0)) (by simp [results, Try.results18, go_sem]) rfl ⟨rfl, by (repeat (first | with_reducible assumption | with_reducible exact Below.refl _ _ | with_reducible refine Below.drew ?_ | with_reducible refine below_drewN ?_ _ | with_reducible refine al ?_ _ | (with_reducible refine sc ?_ ?_; (focus (first | omega | (simp; done) | (simp; omega)))) | (with_reducible refine chain ?_ (by assumption))))⟩
  · have m0 : max room 0 = room := by omega
    by_cases h2 : room < 1048576
    · have m1 : min room 1048576 = room := by omega
      have e : x = room := by omega
      rw [hx, e]
      clear hx e
      go_enter Try.func18, Try.ntmps18
      go_wp2_with fail
      exact bodyPost_ret (v := dV room 0 0 (.slice none 0 0) (.slice none 0 0)) (by simp [results, Try.results18, go_sem]) rfl ⟨rfl, by (repeat (first | with_reducible assumption | with_reducible exact Below.refl _ _ | with_reducible refine Below.drew ?_ | with_reducible refine below_drewN ?_ _ | with_reducible refine al ?_ _ | (with_reducible refine sc ?_ ?_; (focus (first | omega | (simp; done) | (simp; omega)))) | (with_reducible refine chain ?_ (by assumption))))⟩
    · have m1 : min room 1048576 = 1048576 := by omega
      have e : x = 1048576 := by omega
      rw [hx, e]
      clear hx e
      go_enter Try.func18, Try.ntmps18
      go_wp2_with fail
      exact bodyPost_ret (v := dV 1048576 0 0 (.slice none 0 0) (.slice none 0 0)) (by simp [results, Try.results18, go_sem]) rfl ⟨rfl, by (repeat (first | with_reducible assumption | with_reducible exact Below.refl _ _ | with_reducible refine Below.drew ?_ | with_reducible refine below_drewN ?_ _ | with_reducible refine al ?_ _ | (with_reducible refine sc ?_ ?_; (focus (first | omega | (simp; done) | (simp; omega)))) | (with_reducible refine chain ?_ (by assumption))))⟩
end Go.Proofs.Ythjekbbldejlpaa
/- Contracts of layer 8's reference (disk): Get. -/
set_option linter.unusedVariables false
set_option linter.unusedSimpArgs false
namespace Go.Proofs.Ythjekbbldejlpaa
open Go.ChangeShapes Go.WideShapes Go.ChangeAt Go.RowKit
set_option maxHeartbeats 4000000 in
theorem r8_get (room fails wait : Int) (vs vl : Value) (s l : List Raw) (k : Int) (w : World) (hs : RawAt w vs s) (hl : RawAt w vl l) (oks : rawOk s) (okl : rawOk l) (hS : s.length ≤ 40000) (hL : l.length ≤ 40000) :
    Calls Try.prog 63 #[dV room fails wait vs vl, .int .i64 k] w fun e w' =>
      e = .returned (.tuple #[(getF (nowF s l) k).getD (.slice none 0 0), .bool (getF (nowF s l) k).isSome]) ∧ Below w.heap.size w w' := by
  have okR := rawOk.now oks okl l.length (Nat.le_refl _)
  have lnR := nowF_len s l l.length (Nat.le_refl _)
  rw [List.take_length] at okR lnR
  have now := fun u hu hv => r8_now room fails wait vs vl s l u hu hv oks okl hS hL
  obtain ⟨R, hR⟩ : ∃ R, nowF s l = R := ⟨_, rfl⟩
  rw [hR] at okR lnR
  simp only [hR] at now ⊢
  obtain ⟨ps, cs, rfl, _⟩ := hs.form
  obtain ⟨p, cap, rfl, _⟩ := hl.form
  obtain ⟨N, hN⟩ : ∃ N, l.length = N := ⟨_, rfl⟩
  obtain ⟨M, hM⟩ : ∃ N, s.length = N := ⟨_, rfl⟩
  rw [hN] at hL lnR hl now ⊢
  rw [hM] at hS lnR hs now ⊢
  have NOW := Lib.hid now
  clear now hN hM hR oks okl
  go_enter Try.func63, Try.ntmps63
  obtain ⟨u0, hu⟩ : ∃ u, w.alloc (.cells #[.int .i64 room, .int .i64 fails, .int .i64 wait, .slice ps M cs, .slice p N cap] 39) = u := ⟨_, rfl⟩
  have k00 : Below w.heap.size w u0 := by rw [← hu]; exact al (Below.refl _ _) _
  have hs0 := hs.keep k00
  have hl0 := hl.keep k00
  have HU := Lib.hid hu
  clear hu hs hl
  go_wp2_with fail
  rw [HU.out]
  refine (NOW.out _ hs0 hl0).mono ?_
  rintro e w1 ⟨v1, rfl, hr, _, hv⟩
  have kw := chain k00 hv
  clear hv hs0 hl0 k00 HU
  obtain ⟨p1, cap1, rfl, hf⟩ := hr.form
  obtain ⟨L, hLL⟩ : ∃ N, R.length = N := ⟨_, rfl⟩
  have HL := Lib.hid hLL
  have HF := Lib.hid hf
  have OK := Lib.hid okR
  rw [hLL] at lnR ⊢
  clear hLL hf okR hr
  go_wp2_with fail
  go_loopw [7] (fun i wr => ∃ j : Nat, j ≤ L ∧ i = .int .i64 j ∧ (∀ a (ha : a < j) (hb : a < R.length), R[a].1 ≠ k) ∧ wr = w1) (fun i _ => L - (intOf i).toNat)
  case atStart => exact ⟨0, by omega, rfl, fun a ha => absurd ha (by omega), rfl⟩
  case round =>
    obtain ⟨j, hj, rfl, hn, rfl⟩ := hrel
    by_cases hlt : j < L
    · have hlt2 : j < R.length := by rw [HL.out]; exact hlt
      obtain ⟨g, off, rfl, hc, zg, hx⟩ := HF.out (by omega)
      obtain ⟨h0, h1⟩ := hx j hlt2
      obtain ⟨okk, xp, xn, xc, hxs⟩ := OK.out _ (List.getElem_mem hlt2)
      by_cases he : R[j].1 = k
      · have ga := getF_at hlt2 he fun i hi => hn i hi (by omega)
        rw [hxs] at ga h1
        rw [he] at h0
        have GA := Lib.hid ga
        have hc2 : L ≤ cap1 := by rw [← HL.out]; exact hc
        clear ga hx hn hxs okk hc he hlt2
        go_wp2_with fail
        rw [GA.out]
        go_ret2
        exact ⟨rfl, kw⟩
      · have hn2 : ∀ a (ha : a < j + 1) (hb : a < R.length), R[a].1 ≠ k := fun a ha hb => by
          by_cases h : a = j
          · subst h; exact he
          · exact hn a (by omega) hb
        obtain ⟨xk, hxk⟩ : ∃ x, R[j].1 = x := ⟨_, rfl⟩
        rw [hxk] at h0 he
        have HN2 := Lib.hid hn2
        have gq : (xk == k) = false := by simpa using he
        clear hx hxs okk hc hlt2 hxk hn2 h1 he hn
        go_wp2_with fail
        go_roundw
        case rel => exact ⟨j + 1, by omega, by go_num, HN2.out, by trivial⟩
        case measure => simp [intOf]; omega
    · obtain rfl : j = L := by omega
      have ga := getF_none (l := R) (k := k) fun i hi => hn i (by rw [← HL.out]; exact hi) hi
      have GA := Lib.hid ga
      clear hn ga
      go_wp2_with fail
      rw [GA.out]
      go_ret2
      exact ⟨rfl, kw⟩
end Go.Proofs.Ythjekbbldejlpaa
/- Contracts of layer 8's reference (disk): Sync. -/
set_option linter.unusedVariables false
set_option linter.unusedSimpArgs false
namespace Go.Proofs.Ythjekbbldejlpaa
open Go.ChangeShapes Go.WideShapes Go.ChangeAt Go.RowKit
theorem row5 {w : World} {b : Nat} {a0 a1 a2 a3 a4 : Value} {t : TypeId} (h : RowAt w b #[a0, a1, a2, a3, a4] t) (x0 x1 x2 x3 x4 : Value) :
    RowAt (((((w.setCell ⟨b, 0, none⟩ x0).setCell ⟨b, 1, none⟩ x1).setCell ⟨b, 2, none⟩ x2).setCell ⟨b, 3, none⟩ x3).setCell ⟨b, 4, none⟩ x4) b #[x0, x1, x2, x3, x4] t := by
  simpa using ((((h.set 0 x0).set 1 x1).set 2 x2).set 3 x3).set 4 x4
theorem row5_other {w : World} {b g : Nat} {cs : Array Value} {t : TypeId} (h : RowAt w b cs t) (hg : b ≠ g) (x0 x1 x2 x3 x4 : Value) :
    RowAt (((((w.setCell ⟨g, 0, none⟩ x0).setCell ⟨g, 1, none⟩ x1).setCell ⟨g, 2, none⟩ x2).setCell ⟨g, 3, none⟩ x3).setCell ⟨g, 4, none⟩ x4) b cs t :=
  ((((h.other (p := ⟨g, 0, none⟩) hg x0).other (p := ⟨g, 1, none⟩) hg x1).other (p := ⟨g, 2, none⟩) hg x2).other (p := ⟨g, 3, none⟩) hg x3).other (p := ⟨g, 4, none⟩) hg x4
theorem below5 {w u : World} {g : Nat} (h : Below w.heap.size w u) (hg : w.heap.size ≤ g) (x0 x1 x2 x3 x4 : Value) :
    Below w.heap.size w (((((u.setCell ⟨g, 0, none⟩ x0).setCell ⟨g, 1, none⟩ x1).setCell ⟨g, 2, none⟩ x2).setCell ⟨g, 3, none⟩ x3).setCell ⟨g, 4, none⟩ x4) :=
  ((((h.setCell (p := ⟨g, 0, none⟩) hg x0).setCell (p := ⟨g, 1, none⟩) hg x1).setCell (p := ⟨g, 2, none⟩) hg x2).setCell (p := ⟨g, 3, none⟩) hg x3).setCell (p := ⟨g, 4, none⟩) hg x4
set_option maxHeartbeats 4000000 in
theorem r8_sync (room fails wait : Int) (vs vl : Value) (s l : List Raw) (w : World) (hf : i64 fails) (hs : RawAt w vs s) (hl : RawAt w vl l) (oks : rawOk s) (okl : rawOk l) (hS : s.length ≤ 40000) (hL : l.length ≤ 40000) :
    Calls Try.prog 36 #[dV room fails wait vs vl] w fun e w' =>
      ∃ vs' vl', e = .returned (.tuple #[dV room (askF fails wait).1.1 (askF fails wait).1.2 vs' vl', .int .i64 (if (askF fails wait).2 = true then 9 else 0)]) ∧
        RawAt w' vs' (if (askF fails wait).2 = true then s else nowF s l) ∧ RawAt w' vl' (if (askF fails wait).2 = true then l else []) ∧ Below w.heap.size w w' := by
  have ask := fun p q n c m d u => r8_asked room fails wait p q n c m d u hf
  obtain ⟨⟨⟨f2, w2⟩, b⟩, hA⟩ : ∃ A, askF fails wait = A := ⟨_, rfl⟩
  simp only [hA] at ask ⊢
  have ASK := Lib.hid ask
  have now := fun u hu hv => r8_now room f2 w2 vs vl s l u hu hv oks okl hS hL
  obtain ⟨ps, cs, rfl, _⟩ := hs.form
  obtain ⟨p, cap, rfl, _⟩ := hl.form
  obtain ⟨N, hN⟩ : ∃ N, l.length = N := ⟨_, rfl⟩
  obtain ⟨M, hM⟩ : ∃ N, s.length = N := ⟨_, rfl⟩
  rw [hN] at hl now ⊢
  rw [hM] at hs now ⊢
  have NOW := Lib.hid now
  clear now ask hA hN hM oks okl hS hL hf
  cases b
  · go_enter Try.func36, Try.ntmps36
    go_wp2_with fail
    refine (ASK.out _ _ _ _ _ _ _).mono ?_
    rintro e w1 ⟨rfl, hv⟩
    have kw : Below w.heap.size w w1 := by (repeat (first | with_reducible assumption | with_reducible exact Below.refl _ _ | with_reducible refine Below.drew ?_ | with_reducible refine below_drewN ?_ _ | with_reducible refine al ?_ _ | (with_reducible refine sc ?_ ?_; (focus (first | omega | (simp; done) | (simp; omega)))) | (with_reducible refine chain ?_ (by assumption))))
    have rb : RowAt w1 w.heap.size #[.int .i64 room, .int .i64 fails, .int .i64 wait, .slice ps M cs, .slice p N cap] 39 := ((RowAt.new w _ _).alloc _).keep hv
    have rr : RowAt w1 (w.heap.size + 1) #[.int .i64 0, .int .i64 0, .int .i64 0, .slice none 0 0, .slice none 0 0] 39 := (RowAt.make _ _ _ (by simp)).keep hv
    have cb : ∀ j, w1.cell? ⟨w.heap.size, j, none⟩ = (#[.int .i64 room, .int .i64 fails, .int .i64 wait, .slice ps M cs, .slice p N cap] : Array Value)[j]? := rb.cell
    have fb : ∀ j, w1.frozen? ⟨w.heap.size, j, none⟩ = false := rb.frozen
    have zb : w.heap.size < w1.heap.size := rb.lt
    have cr : ∀ j, w1.cell? ⟨w.heap.size + 1, j, none⟩ = (#[.int .i64 0, .int .i64 0, .int .i64 0, .slice none 0 0, .slice none 0 0] : Array Value)[j]? := rr.cell
    have fr : ∀ j, w1.frozen? ⟨w.heap.size + 1, j, none⟩ = false := rr.frozen
    have zr : w.heap.size + 1 < w1.heap.size := rr.lt
    clear hv
    go_upto_region 2 with (fail)
    clear cb fb zb cr fr zr
    have k2 := below5 kw (Nat.le_refl _) (.int .i64 room) (.int .i64 f2) (.int .i64 w2) (.slice ps M cs) (.slice p N cap)
    replace rr := row5_other rr (Nat.succ_ne_self _) (.int .i64 room) (.int .i64 f2) (.int .i64 w2) (.slice ps M cs) (.slice p N cap)
    replace rb := row5 rb (.int .i64 room) (.int .i64 f2) (.int .i64 w2) (.slice ps M cs) (.slice p N cap)
    generalize ((((w1.setCell ⟨w.heap.size, 0, none⟩ (.int .i64 room)).setCell ⟨w.heap.size, 1, none⟩ (.int .i64 f2)).setCell ⟨w.heap.size, 2, none⟩ (.int .i64 w2)).setCell ⟨w.heap.size, 3, none⟩ (.slice ps M cs)).setCell ⟨w.heap.size, 4, none⟩ (.slice p N cap) = u2 at *
    clear kw
    have cb : ∀ j, u2.cell? ⟨w.heap.size, j, none⟩ = (#[.int .i64 room, .int .i64 f2, .int .i64 w2, .slice ps M cs, .slice p N cap] : Array Value)[j]? := rb.cell
    have fb : ∀ j, u2.frozen? ⟨w.heap.size, j, none⟩ = false := rb.frozen
    have zb : w.heap.size < u2.heap.size := rb.lt
    have cr : ∀ j, u2.cell? ⟨w.heap.size + 1, j, none⟩ = (#[.int .i64 0, .int .i64 0, .int .i64 0, .slice none 0 0, .slice none 0 0] : Array Value)[j]? := rr.cell
    have fr : ∀ j, u2.frozen? ⟨w.heap.size + 1, j, none⟩ = false := rr.frozen
    have zr : w.heap.size + 1 < u2.heap.size := rr.lt
    go_wp2_with fail
    refine (NOW.out _ (hs.keep k2) (hl.keep k2)).mono ?_
    rintro e w3 ⟨v3, rfl, hr, hoff, hv⟩
    have of0 := hoff w.heap.size zb (hs.off (Nat.le_refl _))
    have of1 := hoff (w.heap.size + 1) zr (hs.off (Nat.le_succ _))
    clear hoff
    obtain ⟨p3, cap3, rfl, _⟩ := hr.form
    obtain ⟨N3, hN3⟩ : ∃ n, (nowF s l).length = n := ⟨_, rfl⟩
    rw [hN3] at hr of0 of1 ⊢
    clear hN3
    clear cb fb zb cr fr zr
    have k3 := chain k2 hv
    replace rb := rb.keep hv
    replace rr := rr.keep hv
    clear hv k2
    have cb : ∀ j, w3.cell? ⟨w.heap.size, j, none⟩ = (#[.int .i64 room, .int .i64 f2, .int .i64 w2, .slice ps M cs, .slice p N cap] : Array Value)[j]? := rb.cell
    have fb : ∀ j, w3.frozen? ⟨w.heap.size, j, none⟩ = false := rb.frozen
    have zb : w.heap.size < w3.heap.size := rb.lt
    have cr : ∀ j, w3.cell? ⟨w.heap.size + 1, j, none⟩ = (#[.int .i64 0, .int .i64 0, .int .i64 0, .slice none 0 0, .slice none 0 0] : Array Value)[j]? := rr.cell
    have fr : ∀ j, w3.frozen? ⟨w.heap.size + 1, j, none⟩ = false := rr.frozen
    have zr : w.heap.size + 1 < w3.heap.size := rr.lt
    go_upto_region 6 with (fail)
    clear cb fb zb cr fr zr
    have k4 := (k3.setCell (p := ⟨w.heap.size, 3, none⟩) (Nat.le_refl _) (.slice p3 N3 cap3)).setCell (p := ⟨w.heap.size, 4, none⟩) (Nat.le_refl _) (.slice none 0 0)
    have hr4 := (hr.setCell (p := ⟨w.heap.size, 3, none⟩) of0 (.slice p3 N3 cap3)).setCell (p := ⟨w.heap.size, 4, none⟩) of0 (.slice none 0 0)
    replace rr := (rr.other (p := ⟨w.heap.size, 3, none⟩) (Nat.succ_ne_self _) (.slice p3 N3 cap3)).other (p := ⟨w.heap.size, 4, none⟩) (Nat.succ_ne_self _) (.slice none 0 0)
    have rb4 : RowAt ((w3.setCell ⟨w.heap.size, 3, none⟩ (.slice p3 N3 cap3)).setCell ⟨w.heap.size, 4, none⟩ (.slice none 0 0)) w.heap.size #[.int .i64 room, .int .i64 f2, .int .i64 w2, .slice p3 N3 cap3, .slice none 0 0] 39 := by simpa using (rb.set 3 (.slice p3 N3 cap3)).set 4 (.slice none 0 0)
    clear rb hr k3
    generalize (w3.setCell ⟨w.heap.size, 3, none⟩ (.slice p3 N3 cap3)).setCell ⟨w.heap.size, 4, none⟩ (.slice none 0 0) = u4 at *
    have rb := rb4
    clear rb4
    have cb : ∀ j, u4.cell? ⟨w.heap.size, j, none⟩ = (#[.int .i64 room, .int .i64 f2, .int .i64 w2, .slice p3 N3 cap3, .slice none 0 0] : Array Value)[j]? := rb.cell
    have fb : ∀ j, u4.frozen? ⟨w.heap.size, j, none⟩ = false := rb.frozen
    have zb : w.heap.size < u4.heap.size := rb.lt
    have cr : ∀ j, u4.cell? ⟨w.heap.size + 1, j, none⟩ = (#[.int .i64 0, .int .i64 0, .int .i64 0, .slice none 0 0, .slice none 0 0] : Array Value)[j]? := rr.cell
    have fr : ∀ j, u4.frozen? ⟨w.heap.size + 1, j, none⟩ = false := rr.frozen
    have zr : w.heap.size + 1 < u4.heap.size := rr.lt
    go_wp2_with fail
    have k5 := below5 k4 (Nat.le_succ _) (.int .i64 room) (.int .i64 f2) (.int .i64 w2) (.slice p3 N3 cap3) (.slice none 0 0)
    have r5 := row5 rr (.int .i64 room) (.int .i64 f2) (.int .i64 w2) (.slice p3 N3 cap3) (.slice none 0 0)
    have hr5 := ((((hr4.setCell (p := ⟨w.heap.size + 1, 0, none⟩) of1 (.int .i64 room)).setCell (p := ⟨w.heap.size + 1, 1, none⟩) of1 (.int .i64 f2)).setCell (p := ⟨w.heap.size + 1, 2, none⟩) of1 (.int .i64 w2)).setCell (p := ⟨w.heap.size + 1, 3, none⟩) of1 (.slice p3 N3 cap3)).setCell (p := ⟨w.heap.size + 1, 4, none⟩) of1 (.slice none 0 0)
    clear cb fb zb cr fr zr rb rr k4 hr4 of0 of1 hs hl
    generalize ((((u4.setCell ⟨w.heap.size + 1, 0, none⟩ (.int .i64 room)).setCell ⟨w.heap.size + 1, 1, none⟩ (.int .i64 f2)).setCell ⟨w.heap.size + 1, 2, none⟩ (.int .i64 w2)).setCell ⟨w.heap.size + 1, 3, none⟩ (.slice p3 N3 cap3)).setCell ⟨w.heap.size + 1, 4, none⟩ (.slice none 0 0) = u5 at *
    have cr := r5.cell
    have fr := r5.frozen
    exact bodyPost_ret (v := .tuple #[dV room f2 w2 (.slice p3 N3 cap3) (.slice none 0 0), .int .i64 0]) (by simp [results, Try.results36, go_sem, cr]) rfl ⟨_, _, rfl, hr5, .inl ⟨⟨_, _, rfl⟩, rfl⟩, k5⟩
  · go_enter Try.func36, Try.ntmps36
    go_wp2_with fail
    refine (ASK.out _ _ _ _ _ _ _).mono ?_
    rintro e w1 ⟨rfl, hv⟩
    have kw : Below w.heap.size w w1 := by (repeat (first | with_reducible assumption | with_reducible exact Below.refl _ _ | with_reducible refine Below.drew ?_ | with_reducible refine below_drewN ?_ _ | with_reducible refine al ?_ _ | (with_reducible refine sc ?_ ?_; (focus (first | omega | (simp; done) | (simp; omega)))) | (with_reducible refine chain ?_ (by assumption))))
    have rb : RowAt w1 w.heap.size #[.int .i64 room, .int .i64 fails, .int .i64 wait, .slice ps M cs, .slice p N cap] 39 := ((RowAt.new w _ _).alloc _).keep hv
    have rr : RowAt w1 (w.heap.size + 1) #[.int .i64 0, .int .i64 0, .int .i64 0, .slice none 0 0, .slice none 0 0] 39 := (RowAt.make _ _ _ (by simp)).keep hv
    have cb : ∀ j, w1.cell? ⟨w.heap.size, j, none⟩ = (#[.int .i64 room, .int .i64 fails, .int .i64 wait, .slice ps M cs, .slice p N cap] : Array Value)[j]? := rb.cell
    have fb : ∀ j, w1.frozen? ⟨w.heap.size, j, none⟩ = false := rb.frozen
    have zb : w.heap.size < w1.heap.size := rb.lt
    have cr : ∀ j, w1.cell? ⟨w.heap.size + 1, j, none⟩ = (#[.int .i64 0, .int .i64 0, .int .i64 0, .slice none 0 0, .slice none 0 0] : Array Value)[j]? := rr.cell
    have fr : ∀ j, w1.frozen? ⟨w.heap.size + 1, j, none⟩ = false := rr.frozen
    have zr : w.heap.size + 1 < w1.heap.size := rr.lt
    clear hv
    go_upto_region 2 with (fail)
    clear cb fb zb cr fr zr
    have k2 := below5 kw (Nat.le_refl _) (.int .i64 room) (.int .i64 f2) (.int .i64 w2) (.slice ps M cs) (.slice p N cap)
    replace rr := row5_other rr (Nat.succ_ne_self _) (.int .i64 room) (.int .i64 f2) (.int .i64 w2) (.slice ps M cs) (.slice p N cap)
    replace rb := row5 rb (.int .i64 room) (.int .i64 f2) (.int .i64 w2) (.slice ps M cs) (.slice p N cap)
    generalize ((((w1.setCell ⟨w.heap.size, 0, none⟩ (.int .i64 room)).setCell ⟨w.heap.size, 1, none⟩ (.int .i64 f2)).setCell ⟨w.heap.size, 2, none⟩ (.int .i64 w2)).setCell ⟨w.heap.size, 3, none⟩ (.slice ps M cs)).setCell ⟨w.heap.size, 4, none⟩ (.slice p N cap) = u2 at *
    clear kw
    have cb : ∀ j, u2.cell? ⟨w.heap.size, j, none⟩ = (#[.int .i64 room, .int .i64 f2, .int .i64 w2, .slice ps M cs, .slice p N cap] : Array Value)[j]? := rb.cell
    have fb : ∀ j, u2.frozen? ⟨w.heap.size, j, none⟩ = false := rb.frozen
    have zb : w.heap.size < u2.heap.size := rb.lt
    have cr : ∀ j, u2.cell? ⟨w.heap.size + 1, j, none⟩ = (#[.int .i64 0, .int .i64 0, .int .i64 0, .slice none 0 0, .slice none 0 0] : Array Value)[j]? := rr.cell
    have fr : ∀ j, u2.frozen? ⟨w.heap.size + 1, j, none⟩ = false := rr.frozen
    have zr : w.heap.size + 1 < u2.heap.size := rr.lt
    go_wp2_with fail
    have k5 := below5 k2 (Nat.le_succ _) (.int .i64 room) (.int .i64 f2) (.int .i64 w2) (.slice ps M cs) (.slice p N cap)
    have r5 := row5 rr (.int .i64 room) (.int .i64 f2) (.int .i64 w2) (.slice ps M cs) (.slice p N cap)
    clear cb fb zb cr fr zr rb rr k2
    generalize ((((u2.setCell ⟨w.heap.size + 1, 0, none⟩ (.int .i64 room)).setCell ⟨w.heap.size + 1, 1, none⟩ (.int .i64 f2)).setCell ⟨w.heap.size + 1, 2, none⟩ (.int .i64 w2)).setCell ⟨w.heap.size + 1, 3, none⟩ (.slice ps M cs)).setCell ⟨w.heap.size + 1, 4, none⟩ (.slice p N cap) = u5 at *
    have cr := r5.cell
    exact bodyPost_ret (v := .tuple #[dV room f2 w2 (.slice ps M cs) (.slice p N cap), .int .i64 9]) (by simp [results, Try.results36, go_sem, cr]) rfl ⟨_, _, rfl, hs.keep k5, hl.keep k5, k5⟩
end Go.Proofs.Ythjekbbldejlpaa
