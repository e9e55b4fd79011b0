/- Contracts of layer 8's reference (disk): Get. -/
import Derived.Test.YtkephcmjigfepaaR82
set_option linter.unusedVariables false
set_option linter.unusedSimpArgs false
namespace Go.Proofs.Ytkephcmjigfepaa
open Go.ChangeShapes Go.WideShapes Go.ChangeAt Go.RowKit
set_option maxHeartbeats 4000000 in
theorem r8_get (room fails wait : Int) (vs vl : Value) (s l : List Raw) (k : Int) (w : World) (hs : RawAt w vs s) (hl : RawAt w vl l) (oks : rawOk s) (okl : rawOk l) (hS : s.length ≤ 40000) (hL : l.length ≤ 40000) :
    Calls Try.prog 28 #[dV room fails wait vs vl, .int .i64 k] w fun e w' =>
      e = .returned (.tuple #[(getF (nowF s l) k).getD (.slice none 0 0), .bool (getF (nowF s l) k).isSome]) ∧ Below w.heap.size w w' := by
  have okR := rawOk.now oks okl l.length (Nat.le_refl _)
  have lnR := nowF_len s l l.length (Nat.le_refl _)
  rw [List.take_length] at okR lnR
  have now := fun u hu hv => r8_now room fails wait vs vl s l u hu hv oks okl hS hL
  obtain ⟨R, hR⟩ : ∃ R, nowF s l = R := ⟨_, rfl⟩
  rw [hR] at okR lnR
  simp only [hR] at now ⊢
  obtain ⟨ps, cs, rfl, _⟩ := hs.form
  obtain ⟨p, cap, rfl, _⟩ := hl.form
  obtain ⟨N, hN⟩ : ∃ N, l.length = N := ⟨_, rfl⟩
  obtain ⟨M, hM⟩ : ∃ N, s.length = N := ⟨_, rfl⟩
  rw [hN] at hL lnR hl now ⊢
  rw [hM] at hS lnR hs now ⊢
  have NOW := Lib.hid now
  clear now hN hM hR oks okl
  go_enter Try.func28, Try.ntmps28
  obtain ⟨u0, hu⟩ : ∃ u, w.alloc (.cells #[.int .i64 room, .int .i64 fails, .int .i64 wait, .slice ps M cs, .slice p N cap] 28) = u := ⟨_, rfl⟩
  have k00 : Below w.heap.size w u0 := by rw [← hu]; exact al (Below.refl _ _) _
  have hs0 := hs.keep k00
  have hl0 := hl.keep k00
  have HU := Lib.hid hu
  clear hu hs hl
  go_wp2_with fail
  rw [HU.out]
  refine (NOW.out _ hs0 hl0).mono ?_
  rintro e w1 ⟨v1, rfl, hr, _, hv⟩
  have kw := chain k00 hv
  clear hv hs0 hl0 k00 HU
  obtain ⟨p1, cap1, rfl, hf⟩ := hr.form
  obtain ⟨L, hLL⟩ : ∃ N, R.length = N := ⟨_, rfl⟩
  have HL := Lib.hid hLL
  have HF := Lib.hid hf
  have OK := Lib.hid okR
  rw [hLL] at lnR ⊢
  clear hLL hf okR hr
  go_wp2_with fail
  go_loopw [7] (fun i wr => ∃ j : Nat, j ≤ L ∧ i = .int .i64 j ∧ (∀ a (ha : a < j) (hb : a < R.length), R[a].1 ≠ k) ∧ wr = w1) (fun i _ => L - (intOf i).toNat)
  case atStart => exact ⟨0, by omega, rfl, fun a ha => absurd ha (by omega), rfl⟩
  case round =>
    obtain ⟨j, hj, rfl, hn, rfl⟩ := hrel
    by_cases hlt : j < L
    · have hlt2 : j < R.length := by rw [HL.out]; exact hlt
      obtain ⟨g, off, rfl, hc, zg, hx⟩ := HF.out (by omega)
      obtain ⟨h0, h1⟩ := hx j hlt2
      obtain ⟨okk, xp, xn, xc, hxs⟩ := OK.out _ (List.getElem_mem hlt2)
      by_cases he : R[j].1 = k
      · have ga := getF_at hlt2 he fun i hi => hn i hi (by omega)
        rw [hxs] at ga h1
        rw [he] at h0
        have GA := Lib.hid ga
        have hc2 : L ≤ cap1 := by rw [← HL.out]; exact hc
        clear ga hx hn hxs okk hc he hlt2
        go_wp2_with fail
        rw [GA.out]
        go_ret2
        exact ⟨rfl, kw⟩
      · have hn2 : ∀ a (ha : a < j + 1) (hb : a < R.length), R[a].1 ≠ k := fun a ha hb => by
          by_cases h : a = j
          · subst h; exact he
          · exact hn a (by omega) hb
        obtain ⟨xk, hxk⟩ : ∃ x, R[j].1 = x := ⟨_, rfl⟩
        rw [hxk] at h0 he
        have HN2 := Lib.hid hn2
        have gq : (xk == k) = false := by simpa using he
        clear hx hxs okk hc hlt2 hxk hn2 h1 he hn
        go_wp2_with fail
        go_roundw
        case rel => exact ⟨j + 1, by omega, by go_num, HN2.out, by trivial⟩
        case measure => simp [intOf]; omega
    · obtain rfl : j = L := by omega
      have ga := getF_none (l := R) (k := k) fun i hi => hn i (by rw [← HL.out]; exact hi) hi
      have GA := Lib.hid ga
      clear hn ga
      go_wp2_with fail
      rw [GA.out]
      go_ret2
      exact ⟨rfl, kw⟩
end Go.Proofs.Ytkephcmjigfepaa
