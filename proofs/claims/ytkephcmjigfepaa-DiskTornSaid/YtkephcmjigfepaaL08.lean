/- What the statements of layer 8 call: the example. -/
import Derived.Test.YtkephcmjigfepaaB8I
import Derived.Test.YtkephcmjigfepaaR6B
set_option linter.unusedVariables false
set_option linter.unusedSimpArgs false
namespace Go.Proofs.Ytkephcmjigfepaa
open Go.ChangeShapes Go.WideShapes Go.ChangeAt Go.RowKit
theorem byts_row {w : World} {b : Nat} {cs : Array Value} {t : TypeId} (h : RowAt w b cs t) (l : List Int) (hl : cs.toList = bytVs l) : BytsAt w (.slice (some ⟨b, 0, none⟩) l.length l.length) l :=
  .inr ⟨b, 0, l.length, rfl, Nat.le_refl _, h.lt, fun j hj => by
    rw [Nat.zero_add, h.cell]
    have : cs[j]? = cs.toList[j]? := by simp
    rw [this, hl]
    simp [bytVs, hj]⟩
theorem bytOk_small {l : List Int} (h : (l.all fun x => decide (0 ≤ x) && decide (x ≤ 255)) = true) : bytOk l := fun x hx => by
  have := List.all_eq_true.1 h x hx
  simp only [Bool.and_eq_true, decide_eq_true_eq] at this
  exact this
theorem l8_lives (I : DiskI) (w : World) : Calls Try.prog 14 #[] w fun e w' => e = .returned (.bool true) ∧ Below w.heap.size w w' := by
  have ok0 : StOk (newSt 9) 0 0 := StOk.new ⟨by decide, by decide⟩
  have o123 : bytOk [1, 2, 3] := bytOk_small rfl
  have o4567 : bytOk [4, 5, 6, 7] := bytOk_small rfl
  have k1 : i64 1 := ⟨by decide, by decide⟩
  have ok1 := ok0.put (k := 1) k1 o123
  have ok2 := ok1.sync
  have ok3 := ok2.put (k := 1) k1 o4567
  have ok4 := ok3.crash 2
  have hg : getSt (crashSt (putSt (syncSt (putSt (newSt 9) 1 [1, 2, 3]).1).1 1 [4, 5, 6, 7]).1 2).1 1 = ([4, 5], true) := by rfl
  have NEW := Lib.hid (fun u => I.new 9 u ⟨by decide, by decide⟩)
  go_enter Try.func14, Try.ntmps14
  go_wp2_with fail
  refine (NEW.out _).mono ?_
  rintro e w1 ⟨p, F, rfl, hA, hF, hb1⟩
  obtain ⟨a, rfl⟩ := I.ptr hA
  have kw : Below w.heap.size w w1 := hb1
  clear hb1
  go_wp2_with fail
  obtain ⟨u1, hu1⟩ : ∃ u, w1.alloc (.cells #[.int .u8 1, .int .u8 2, .int .u8 3] 5) = u := ⟨_, rfl⟩
  have kv : Below w1.heap.size w1 u1 := by rw [← hu1]; exact al (Below.refl _ _) _
  have hb : BytsAt u1 (.slice (some ⟨w1.heap.size, 0, none⟩) 3 3) [1, 2, 3] := byts_row (l := [1, 2, 3]) (by rw [← hu1]; exact RowAt.new w1 #[.int .u8 1, .int .u8 2, .int .u8 3] _) rfl
  rw [hu1]
  refine (I.put u1 F _ _ 1 _ [1, 2, 3] 0 0 (I.keep hA kv) ok0 (by omega) (by omega) k1 hb o123 (by decide)).mono ?_
  rintro e w2 ⟨F2, rfl, hA2, hs2⟩
  have k1' := chain kw kv
  have hF2 := hs2.low hF k1'.size
  have k2 := k1'.trans (hs2.below hF k1'.size)
  clear hu1 kv hb hA kw hs2 k1' hF
  go_wp2_with fail
  refine (I.sync w2 F2 _ _ 1 3 hA2 ok1 (by omega) (by omega)).mono ?_
  rintro e w3 ⟨F3, rfl, hA3, hs3⟩
  have hF3 := hs3.low hF2 k2.size
  have k3 := k2.trans (hs3.below hF2 k2.size)
  clear hA2 hs3 k2 hF2
  go_wp2_with fail
  obtain ⟨u3, hu3⟩ : ∃ u, w3.alloc (.cells #[.int .u8 4, .int .u8 5, .int .u8 6, .int .u8 7] 5) = u := ⟨_, rfl⟩
  have kv : Below w3.heap.size w3 u3 := by rw [← hu3]; exact al (Below.refl _ _) _
  have hb : BytsAt u3 (.slice (some ⟨w3.heap.size, 0, none⟩) 4 4) [4, 5, 6, 7] := byts_row (l := [4, 5, 6, 7]) (by rw [← hu3]; exact RowAt.new w3 #[.int .u8 4, .int .u8 5, .int .u8 6, .int .u8 7] _) rfl
  rw [hu3]
  refine (I.put u3 F3 _ _ 1 _ [4, 5, 6, 7] 1 3 (I.keep hA3 kv) ok2 (by omega) (by omega) k1 hb o4567 (by decide)).mono ?_
  rintro e w4 ⟨F4, rfl, hA4, hs4⟩
  have k3' := chain k3 kv
  have hF4 := hs4.low hF3 k3'.size
  have k4 := k3'.trans (hs4.below hF3 k3'.size)
  clear hu3 kv hb hA3 hs4 k3' hF3 k3
  go_wp2_with fail
  refine (I.crash w4 F4 _ _ 2 2 7 hA4 ok3 (by omega) (by omega) ⟨by decide, by decide⟩).mono ?_
  rintro e w5 ⟨F5, rfl, hA5, hs5⟩
  have hF5 := hs5.low hF4 k4.size
  have k5 := k4.trans (hs5.below hF4 k4.size)
  clear hA4 hs5 hF4 k4
  go_wp2_with fail
  have gt := I.get w5 F5 _ _ 1 2 7 hA5 ok4 (by omega) (by omega) k1
  rw [hg] at gt
  refine gt.mono ?_
  rintro e w6 ⟨vb, rfl, hb6, hv6⟩
  have k6 := chain k5 hv6
  obtain ⟨pb, cb, rfl⟩ := hb6.shape
  clear hv6 hA5 hF5 k5 hg gt ok0 ok1 ok2 ok3 ok4
  go_wp2_with fail
  obtain ⟨u6, hu6⟩ : ∃ u, w6.alloc (.cells #[.int .u8 4, .int .u8 5] 5) = u := ⟨_, rfl⟩
  have kv : Below w6.heap.size w6 u6 := by rw [← hu6]; exact al (Below.refl _ _) _
  have hc : BytsAt u6 (.slice (some ⟨w6.heap.size, 0, none⟩) 2 2) [4, 5] := byts_row (l := [4, 5]) (by rw [← hu6]; exact RowAt.new w6 #[.int .u8 4, .int .u8 5] _) rfl
  rw [hu6]
  refine (r6_same _ _ [4, 5] [4, 5] u6 (hb6.keep kv) hc (bytOk_small rfl) (bytOk_small rfl)).mono ?_
  rintro e w7 ⟨rfl, hv7⟩
  have k7 := chain (chain k6 kv) hv7
  clear hu6 kv hc hb6 hv7 k6
  go_wp2
  go_ret
  exact ⟨rfl, k7⟩
/-- The first so many bytes: of the same row. -/
theorem r8_few (v : Value) (l : List Int) (M : Nat) (w : World) (hl : BytsAt w v l) (hL : l.length ≤ maxLen) (hM : M ≤ 100000) : Calls Try.prog 15 #[v, .int .i64 M] w fun e w' =>
    e = .returned (slCut v (min l.length M)) ∧ Below w.heap.size w w' := by
  obtain ⟨p, cap, rfl, hf⟩ := hl.form
  have hf2 : 0 < l.length → ∃ g off, p = some ⟨g, off, none⟩ ∧ l.length ≤ cap := fun h => by
    obtain ⟨g, off, e, hc, _⟩ := hf h
    exact ⟨g, off, e, hc⟩
  clear hf hl
  obtain ⟨N, hN⟩ : ∃ N, l.length = N := ⟨_, rfl⟩
  rw [hN] at hf2 hL ⊢
  unfold maxLen at hL
  clear hN
  by_cases h : (M : Int) < N
  · obtain ⟨g, off, rfl, hc⟩ := hf2 (by omega)
    have hc2 : (M : Int) ≤ cap := by omega
    have e : min N M = M := by omega
    rw [e]
    clear hf2 e
    go_enter Try.func15, Try.ntmps15
    go_wp2
    go_ret
    exact ⟨rfl, by (repeat (first | with_reducible assumption | with_reducible exact Below.refl _ _ | with_reducible refine Below.drew ?_ | with_reducible refine below_drewN ?_ _ | with_reducible refine al ?_ _ | (with_reducible refine sc ?_ ?_; (focus (first | omega | (simp; done) | (simp; omega)))) | (with_reducible refine chain ?_ (by assumption))))⟩
  · have e : min N M = N := by omega
    rw [e]
    clear hf2 e
    go_enter Try.func15, Try.ntmps15
    go_wp2
    go_ret
    exact ⟨rfl, by (repeat (first | with_reducible assumption | with_reducible exact Below.refl _ _ | with_reducible refine Below.drew ?_ | with_reducible refine below_drewN ?_ _ | with_reducible refine al ?_ _ | (with_reducible refine sc ?_ ?_; (focus (first | omega | (simp; done) | (simp; omega)))) | (with_reducible refine chain ?_ (by assumption))))⟩
end Go.Proofs.Ytkephcmjigfepaa
