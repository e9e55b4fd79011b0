/- Texts behind each other. -/
import Derived.Test.YthjekbbldejlpaaZ16
import Derived.Test.YthjekbbldejlpaaZ03
import Derived.Lib.SmallJoins
/- What comes in, opened: a byte, and rows of bytes. -/
set_option linter.unusedVariables false
set_option linter.unusedSimpArgs false
namespace Go.Proofs.Ythjekbbldejlpaa
open Go.ChangeShapes Go.WideShapes Go.ChangeAt Go.RowKit Go.Deep
section
variable {H : Type} {enc : TypeId × Value → H} {w : World} {r : Reach} {b0 base : Nat} {spare : Nat → Bool} {held : Bool}
abbrev BytsIn (w : World) (v : Value) : Prop := ∃ l : List Int, BytsAt w v l ∧ bytOk l ∧ l.length ≤ maxLen
set_option maxRecDepth 10000 in
theorem one_byte : Try.prog.cellsOf 5 = 1 := by kernel_rfl
set_option maxRecDepth 10000 in
theorem wf_u8 {a : Int} (h : (Lit.int .u8 a).wf = true) : 0 ≤ a ∧ a ≤ 255 := by
  have h1 : IntKind.u8.min = 0 := rfl
  have h2 : IntKind.u8.max = 255 := rfl
  simp only [Lit.wf, Bool.and_eq_true, decide_eq_true_eq] at h
  omega
set_option maxRecDepth 10000 in
theorem byte_trod {n : Nat} {cs : List Value} {x : DataW H × List MemPlace} (h : DataW.trod enc Try.prog w base spare held n 5 cs = some x) : ∃ a : Int, cs = [.int .u8 a] ∧ 0 ≤ a ∧ a ≤ 255 := by
  obtain ⟨a, e, _, wf⟩ := DataW.trod_int Try.underlying5 h
  exact ⟨a, e, wf_u8 wf⟩
set_option maxRecDepth 10000 in
theorem open_byte {v : Value} {d : DataW H} {p : List MemPlace} (hv : Value.okWide Try.prog w r b0 5 v) (h : DataW.Trod enc Try.prog w base spare held 5 v d p) :
    ∃ a : Int, v = .int .u8 a ∧ 0 ≤ a ∧ a ≤ 255 := by
  obtain ⟨a, rfl, _, _, wf⟩ := open_int Try.underlying5 hv h
  exact ⟨a, rfl, wf_u8 wf⟩
set_option maxRecDepth 10000 in
theorem open_byts {v : Value} {d : DataW H} {p : List MemPlace} (hv : Value.okWide Try.prog w r b0 22 v) (h : DataW.Trod enc Try.prog w 0 spare held 22 v d p) (hlt : ∀ x ∈ p, x.block < w.heap.size) : BytsIn w v := by
  obtain ⟨a, len, cap, rfl⟩ := okWide_slice Try.underlying22 hv
  obtain ⟨fuel, hf⟩ := h
  rcases open_slice Try.underlying22 hf with ⟨hcs, _⟩ | ⟨a', len', cap', m, n, D, Pl, hcs, _, hl, hm, hmm, hx, hi⟩
  · simp [Value.cells] at hcs
    obtain ⟨rfl, rfl, rfl⟩ := hcs
    exact ⟨[], .inl ⟨⟨_, _, rfl⟩, rfl⟩, by simp [bytOk], by simp⟩
  · simp [Value.cells] at hcs
    obtain ⟨rfl, rfl, rfl⟩ := hcs
    by_cases h0 : len = 0
    · subst h0; exact ⟨[], .inl ⟨⟨_, _, rfl⟩, rfl⟩, by simp [bytOk], by simp⟩
    · have hlm : len ≤ m := by rw [hmm]; split <;> omega
      rw [one_byte] at hi
      have key : ∀ i, i < len → ∃ n : Int, (0 ≤ n ∧ n ≤ 255) ∧ w.cell? (a'.add i) = some (.int .u8 n) := by
        intro i hil
        obtain ⟨cs', hc, ht⟩ := hi i (by omega)
        obtain ⟨n, rfl, h1, h2⟩ := byte_trod ht
        obtain ⟨_, _, hat⟩ := World.cells?_some hc
        have := hat 0 (by omega)
        rw [Go.Deep.add_add] at this
        exact ⟨n, ⟨h1, h2⟩, by simpa using this⟩
      obtain ⟨f, hf'⟩ : ∃ f : Nat → Int, ∀ i, i < len → (0 ≤ f i ∧ f i ≤ 255) ∧ w.cell? (a'.add i) = some (.int .u8 (f i)) := by
        refine ⟨fun i => if h : i < len then (key i h).choose else 0, fun i hil => ?_⟩
        simp only [hil, dif_pos]
        exact (key i hil).choose_spec
      obtain ⟨b, off, spot⟩ := a'
      have h00 := (hf' 0 (by omega)).2
      have hspot : spot = none := by simpa [Addr.add] using World.cell?_spot h00
      subst hspot
      have hlb : b < w.heap.size := World.block_lt_of_cell? w _ h00
      simp only [add_plain] at hf'
      refine ⟨(List.range len).map f, .inr ⟨b, off, cap, by simp, by simpa using hl, hlb, fun j hj => ?_⟩, fun x hx => ?_, by simp; omega⟩
      · simpa using (hf' j (by simpa using hj)).2
      · obtain ⟨j, hj, rfl⟩ := List.mem_map.1 hx
        exact (hf' j (List.mem_range.1 hj)).1
end
end Go.Proofs.Ythjekbbldejlpaa
/- StoreSpoils, over what is asked of a store. -/
set_option linter.unusedVariables false
set_option linter.unusedSimpArgs false
namespace Go.Proofs.Ythjekbbldejlpaa
open Go.ChangeShapes Go.WideShapes Go.ChangeAt Go.RowKit
set_option maxRecDepth 10000 in
set_option maxHeartbeats 16000000 in
theorem storeSpoils_core (I : StoreI) (w : World) (va vb : Value) (at0 x : Int) (hva : BytsIn w va) (hvb : BytsIn w vb) (hat : i64 at0) (hx : 0 ≤ x ∧ x ≤ 255) :
    Calls Try.prog 6 #[va, vb, .int .i64 at0, .int .u8 x] w fun e w' => e = .returned (.bool true) ∧ Below w.heap.size w w' := by
  obtain ⟨a0, ha0, oka0, ma0⟩ := hva
  obtain ⟨b0, hb0, okb0, mb0⟩ := hvb
  obtain ⟨A, hA⟩ : ∃ B, a0.take 20 = B := ⟨_, rfl⟩
  obtain ⟨B, hB⟩ : ∃ B, b0.take 20 = B := ⟨_, rfl⟩
  have okA : bytOk A := hA ▸ oka0.take 20
  have okB : bytOk B := hB ▸ okb0.take 20
  have lA : A.length ≤ 20 := by rw [← hA]; simp; omega
  have lB : B.length ≤ 20 := by rw [← hB]; simp; omega
  have fa := fun k hk => r6_few va a0 20 k hk ma0 (by omega)
  have fb := fun k hk => r6_few vb b0 20 k hk mb0 (by omega)
  rw [hA] at fa
  rw [hB] at fb
  have ga := fun k => r_around at0 (9 + (B.length : Int)) hat.1 hat.2 (by omega) (by omega) k
  have gb := around_bd at0 (9 + (B.length : Int)) (by omega)
  obtain ⟨K, hK⟩ : ∃ k : Nat, aroundF at0 (9 + (B.length : Int)) = k := ⟨(aroundF at0 (9 + (B.length : Int))).toNat, by omega⟩
  rw [hK] at ga gb
  obtain ⟨d1, d2, d3, e1, e2, e3, e4, e5, e6, t1, t2, t3⟩ := spoils_states okA okB lA lB (k := K) (by omega) hx
  have s0 : St9 (newSt 1000) 0 := St9.new ⟨by decide, by decide⟩
  have i3 : i64 3 := ⟨by decide, by decide⟩
  have i7 : i64 7 := ⟨by decide, by decide⟩
  have i8 : i64 8 := ⟨by decide, by decide⟩
  have i0 : i64 0 := ⟨by decide, by decide⟩
  have NEW := Lib.hid (fun u => I.new 1000 u ⟨by decide, by decide⟩)
  have S1 := Lib.hid (fun u F p y (hA : I.At u F p (newSt 1000)) (hb : BytsAt u y A) => I.save u F p _ 3 y A 0 hA s0 (by omega) i3 hb okA (.inl lA))
  have S2 := Lib.hid (fun u F p y (hA : I.At u F p d1) (hb : BytsAt u y B) => I.save u F p _ 3 y B 1 hA t1 (by omega) i3 hb okB (.inl lB))
  have P1 := Lib.hid (fun u F p (hA : I.At u F p d2) => I.spoil u F p _ 7 K x 2 hA t2 (by omega) i7 (by constructor <;> omega) hx)
  have P2 := Lib.hid (fun u F p (hA : I.At u F p d3) => I.spoil u F p _ 7 (9 + (B.length : Int)) x 3 hA t3 (by omega) i7 (by constructor <;> omega) hx)
  have P3 := Lib.hid (fun u F p (hA : I.At u F p d3) => I.spoil u F p _ 8 0 x 3 hA t3 (by omega) i8 i0 hx)
  have LD := Lib.hid (fun u F p (hA : I.At u F p d3) => I.load u F p _ 3 3 hA t3 (by omega) i3)
  have SAB := Lib.hid (fun u y z (h1 : BytsAt u y B) (h2 : BytsAt u z B) => r6_same y z B B u h1 h2 okB okB)
  have SAA := Lib.hid (fun u y z (h1 : BytsAt u y A) (h2 : BytsAt u z A) => r6_same y z A A u h1 h2 okA okA)
  obtain ⟨nA, hnA⟩ : ∃ n, A.length = n := ⟨_, rfl⟩
  obtain ⟨nB, hnB⟩ : ∃ n, B.length = n := ⟨_, rfl⟩
  rw [hnA] at fa lA
  rw [hnB] at fb lB ga
  have FA := Lib.hid fa
  have FB := Lib.hid fb
  have GA := Lib.hid ga
  have E1 := Lib.hid e1
  have E2 := Lib.hid e2
  have E3 := Lib.hid e3
  have E4 := Lib.hid e4
  have E5 := Lib.hid e5
  have E6 := Lib.hid e6
  have HNB := Lib.hid hnB
  have i9 : IntKind.i64.wrap (9 + (nB : Int)) = 9 + (nB : Int) := IntWalk.i64_in _ (by omega)
  clear fa fb ga gb e1 e2 e3 e4 e5 e6 t1 t2 t3 s0 okA okB hA hB hK hnA hnB oka0 okb0 ma0 mb0
  go_enter Try.func6, Try.ntmps6
  go_wp2_with fail
  refine (FA.out _ ha0).mono ?_
  rintro e w1 ⟨pa, ca, rfl, hA1, hb1⟩
  have hb0' := hb0.keep hb1
  go_wp2_with fail
  refine (FB.out _ hb0').mono ?_
  rintro e w2 ⟨pb, cb, rfl, hB2, hb2⟩
  have hA2 := hA1.keep hb2
  have K2 := Lib.hid (chain hb1 hb2)
  have HA2 := Lib.hid hA2
  have HB2 := Lib.hid hB2
  clear hA1 hB2 hb1 hb2 hb0' hA2 ha0 hb0
  go_wp2_with fail
  refine (NEW.out w2).mono ?_
  rintro e w3 ⟨p, F3, rfl, hA3, hF3, k3⟩
  obtain ⟨b, rfl⟩ := I.ptr hA3
  go_wp2_with fail
  have sv := S1.out w3 F3 _ _ hA3 (HA2.out.keep k3)
  rw [E1.out] at sv
  refine sv.mono ?_
  rintro e w4 ⟨F4, rfl, hA4, hs4⟩
  have hF4 := hs4.low hF3 k3.size
  have k4 := k3.trans (hs4.below hF3 k3.size)
  clear hA3 hs4 k3 hF3 sv
  go_wp2_with fail
  have sv := S2.out w4 F4 _ _ hA4 (HB2.out.keep k4)
  rw [E2.out] at sv
  refine sv.mono ?_
  rintro e w5 ⟨F5, rfl, hA5, hs5⟩
  have hF5 := hs5.low hF4 k4.size
  have k5 := k4.trans (hs5.below hF4 k4.size)
  clear hA4 hs5 k4 hF4 sv
  go_wp2_with fail
  refine (GA.out w5).mono ?_
  rintro e w6 ⟨rfl, rfl⟩
  go_wp2_with fail
  have sv := P1.out w5 F5 _ hA5
  rw [E3.out] at sv
  refine sv.mono ?_
  rintro e w6 ⟨F6, rfl, hA6, hs6⟩
  have hF6 := hs6.low hF5 k5.size
  have k6 := k5.trans (hs6.below hF5 k5.size)
  clear hA5 hs6 k5 hF5 sv
  go_wp2_with fail
  have sv := P2.out w6 F6 _ hA6
  rw [E4.out, HNB.out] at sv
  refine sv.mono ?_
  rintro e w7 ⟨F7, rfl, hA7, hs7⟩
  have hF7 := hs7.low hF6 k6.size
  have k7 := k6.trans (hs7.below hF6 k6.size)
  clear hA6 hs7 k6 hF6 sv
  go_wp2_with fail
  have sv := P3.out w7 F7 _ hA7
  rw [E5.out] at sv
  refine sv.mono ?_
  rintro e w8 ⟨F8, rfl, hA8, hs8⟩
  have hF8 := hs8.low hF7 k7.size
  have k8 := k7.trans (hs8.below hF7 k7.size)
  clear hA7 hs8 k7 hF7 sv
  go_wp2_with fail
  have ld := LD.out w8 F8 _ hA8
  rw [E6.out] at ld
  by_cases hx0 : x = 0
  · rw [if_pos hx0] at ld
    subst hx0
    refine ld.mono ?_
    rintro e w9 ⟨vl, rfl, hn9, hb9⟩
    have hl9 := hn9.1
    have k9 := k8.trans (hb9.mono k8.size)
    clear hn9 hb9 hA8 hF8 ld k8
    go_wp2_with fail
    refine (SAB.out _ _ _ hl9 (HB2.out.keep k9)).mono ?_
    rintro e w10 ⟨rfl, hb10⟩
    have k10 := k9.trans (hb10.mono k9.size)
    clear hb10 hl9 k9
    go_wp2_with fail
    refine (l9_lives I w10).mono ?_
    rintro e w11 ⟨rfl, hb11⟩
    have K11 := Lib.hid (k10.trans (hb11.mono k10.size))
    clear hb11 k10
    go_wp2
    go_ret
    exact ⟨rfl, chain K2.out K11.out⟩
  · rw [if_neg hx0] at ld
    have gx : (x == 0) = false := by simpa using hx0
    clear hx0
    refine ld.mono ?_
    rintro e w9 ⟨vl, rfl, hn9, hb9⟩
    have hl9 := hn9.1
    have k9 := k8.trans (hb9.mono k8.size)
    clear hn9 hb9 hA8 hF8 ld k8
    go_wp2_with fail
    refine (SAA.out _ _ _ hl9 (HA2.out.keep k9)).mono ?_
    rintro e w10 ⟨rfl, hb10⟩
    have k10 := k9.trans (hb10.mono k9.size)
    clear hb10 hl9 k9
    go_wp2_with fail
    refine (l9_lives I w10).mono ?_
    rintro e w11 ⟨rfl, hb11⟩
    have K11 := Lib.hid (k10.trans (hb11.mono k10.size))
    clear hb11 k10
    go_wp2
    go_ret
    exact ⟨rfl, chain K2.out K11.out⟩
end Go.Proofs.Ythjekbbldejlpaa
/- StoreApart, over what is asked of a store. -/
set_option linter.unusedVariables false
set_option linter.unusedSimpArgs false
namespace Go.Proofs.Ythjekbbldejlpaa
open Go.ChangeShapes Go.WideShapes Go.ChangeAt Go.RowKit
set_option maxRecDepth 10000 in
set_option maxHeartbeats 16000000 in
theorem storeApart_core (I : StoreI) (w : World) (va vb : Value) (ii kk at0 x : Int) (hva : BytsIn w va) (hvb : BytsIn w vb) (hii : i64 ii) (hkk : i64 kk) (hat : i64 at0) (hx : 0 ≤ x ∧ x ≤ 255) :
    Calls Try.prog 8 #[va, vb, .int .i64 ii, .int .i64 kk, .int .i64 at0, .int .u8 x] w fun e w' => e = .returned (.bool true) ∧ Below w.heap.size w w' := by
  obtain ⟨a0, ha0, oka0, ma0⟩ := hva
  obtain ⟨b0, hb0, okb0, mb0⟩ := hvb
  obtain ⟨A, hA⟩ : ∃ B, a0.take 20 = B := ⟨_, rfl⟩
  obtain ⟨B, hB⟩ : ∃ B, b0.take 20 = B := ⟨_, rfl⟩
  have okA : bytOk A := hA ▸ oka0.take 20
  have okB : bytOk B := hB ▸ okb0.take 20
  have lA : A.length ≤ 20 := by rw [← hA]; simp; omega
  have lB : B.length ≤ 20 := by rw [← hB]; simp; omega
  have fa := fun k hk => r6_few va a0 20 k hk ma0 (by omega)
  have fb := fun k hk => r6_few vb b0 20 k hk mb0 (by omega)
  rw [hA] at fa
  rw [hB] at fb
  have gi := fun u => r_around ii 100 hii.1 hii.2 (by omega) (by omega) u
  have gk := fun u => r_around kk 100 hkk.1 hkk.2 (by omega) (by omega) u
  have ga := fun u => r_around at0 9 hat.1 hat.2 (by omega) (by omega) u
  have bi := around_bd ii 100 (by omega)
  have bk := around_bd kk 100 (by omega)
  have ba := around_bd at0 9 (by omega)
  generalize aroundF ii 100 = i at *
  generalize aroundF kk 100 = k at *
  obtain ⟨j, hj⟩ : ∃ j : Nat, aroundF at0 9 = j := ⟨(aroundF at0 9).toNat, by omega⟩
  rw [hj] at ga ba
  obtain ⟨d1, d2, e1, e2, t1, t2, t3, e3, e4⟩ := apart_states okA okB lA lB (i := i) (k := k) (by omega) (by omega) (at0 := j) (by omega) hx
  have s0 : St9 (newSt 1000) 0 := St9.new ⟨by decide, by decide⟩
  have ri : i64 i := by constructor <;> omega
  have rk : i64 k := by constructor <;> omega
  have rk2 : i64 (2 * k) := by constructor <;> omega
  have NEW := Lib.hid (fun u => I.new 1000 u ⟨by decide, by decide⟩)
  have S1 := Lib.hid (fun u F p y (hA : I.At u F p (newSt 1000)) (hb : BytsAt u y A) => I.save u F p _ i y A 0 hA s0 (by omega) ri hb okA (.inl lA))
  have S2 := Lib.hid (fun u F p y (hA : I.At u F p d1) (hb : BytsAt u y B) => I.save u F p _ k y B 1 hA t1 (by omega) rk hb okB (.inl lB))
  have P1 := Lib.hid (fun u F p (hA : I.At u F p d2) => I.spoil u F p _ (2 * k) j x 2 hA t2 (by omega) rk2 (by constructor <;> omega) hx)
  have LD := Lib.hid (fun u F p (hA : I.At u F p d2) => I.load u F p _ i 2 hA t2 (by omega) ri)
  have LD3 := Lib.hid (fun u F p (hA : I.At u F p (spoilSt d2 (2 * k) j x).1) => I.load u F p _ i 3 hA t3 (by omega) ri)
  have SAB := Lib.hid (fun u y z (h1 : BytsAt u y B) (h2 : BytsAt u z B) => r6_same y z B B u h1 h2 okB okB)
  have SAA := Lib.hid (fun u y z (h1 : BytsAt u y A) (h2 : BytsAt u z A) => r6_same y z A A u h1 h2 okA okA)
  obtain ⟨nA, hnA⟩ : ∃ n, A.length = n := ⟨_, rfl⟩
  obtain ⟨nB, hnB⟩ : ∃ n, B.length = n := ⟨_, rfl⟩
  rw [hnA] at fa lA
  rw [hnB] at fb lB
  have FA := Lib.hid fa
  have FB := Lib.hid fb
  have GI := Lib.hid gi
  have GK := Lib.hid gk
  have GA := Lib.hid ga
  have E1 := Lib.hid e1
  have E2 := Lib.hid e2
  have E3 := Lib.hid e3
  have E4 := Lib.hid e4
  have i2 : IntKind.i64.wrap (2 * k) = 2 * k := IntWalk.i64_in _ (by omega)
  clear fa fb gi gk ga e1 e2 e3 e4 t1 t2 t3 s0 okA okB hA hB hj hnA hnB oka0 okb0 ma0 mb0 ba
  obtain ⟨bi0, bi1⟩ := bi
  obtain ⟨bk0, bk1⟩ := bk
  go_enter Try.func8, Try.ntmps8
  go_wp2_with fail
  refine (FA.out _ ha0).mono ?_
  rintro e w1 ⟨pa, ca, rfl, hA1, hb1⟩
  have hb0' := hb0.keep hb1
  go_wp2_with fail
  refine (FB.out _ hb0').mono ?_
  rintro e w2 ⟨pb, cb, rfl, hB2, hb2⟩
  have hA2 := hA1.keep hb2
  have K2 := Lib.hid (chain hb1 hb2)
  have HA2 := Lib.hid hA2
  have HB2 := Lib.hid hB2
  clear hA1 hB2 hb1 hb2 hb0' hA2 ha0 hb0
  go_wp2_with fail
  refine (GI.out w2).mono ?_
  rintro e w3 ⟨rfl, rfl⟩
  go_wp2_with fail
  refine (GK.out w2).mono ?_
  rintro e w3 ⟨rfl, rfl⟩
  go_wp2_with fail
  refine (NEW.out w2).mono ?_
  rintro e w3 ⟨p, F3, rfl, hA3, hF3, k3⟩
  obtain ⟨b, rfl⟩ := I.ptr hA3
  go_wp2_with fail
  have sv := S1.out w3 F3 _ _ hA3 (HA2.out.keep k3)
  rw [E1.out] at sv
  refine sv.mono ?_
  rintro e w4 ⟨F4, rfl, hA4, hs4⟩
  have hF4 := hs4.low hF3 k3.size
  have k4 := k3.trans (hs4.below hF3 k3.size)
  clear hA3 hs4 k3 hF3 sv
  go_wp2_with fail
  have sv := S2.out w4 F4 _ _ hA4 (HB2.out.keep k4)
  rw [E2.out] at sv
  refine sv.mono ?_
  rintro e w5 ⟨F5, rfl, hA5, hs5⟩
  have hF5 := hs5.low hF4 k4.size
  have k5 := k4.trans (hs5.below hF4 k4.size)
  clear hA4 hs5 k4 hF4 sv
  go_wp2_with fail
  have ld := LD.out w5 F5 _ hA5
  by_cases hik : i = k
  · rw [E3.out hik] at ld
    subst hik
    refine ld.mono ?_
    rintro e w9 ⟨vl, rfl, hn9, hb9⟩
    have hl9 := hn9.1
    have k9 := k5.trans (hb9.mono k5.size)
    clear hn9 hb9 hA5 hF5 ld k5
    go_wp2_with fail
    refine (SAB.out _ _ _ hl9 (HB2.out.keep k9)).mono ?_
    rintro e w10 ⟨rfl, hb10⟩
    have k10 := k9.trans (hb10.mono k9.size)
    clear hb10 hl9 k9
    go_wp2_with fail
    refine (l9_lives I w10).mono ?_
    rintro e w11 ⟨rfl, hb11⟩
    have K11 := Lib.hid (k10.trans (hb11.mono k10.size))
    clear hb11 k10
    go_wp2
    go_ret
    exact ⟨rfl, chain K2.out K11.out⟩
  · rw [(E4.out hik).1] at ld
    have gx : (i == k) = false := by simpa using hik
    have e5 := (E4.out hik).2
    have E5 := Lib.hid e5
    clear hik e5
    refine ld.mono ?_
    rintro e w9 ⟨vl, rfl, hn9, hb9⟩
    have hl9 := hn9.1
    have hA9 := I.keep hA5 hb9
    have hfr : 0 < A.length → ∃ g off n c, vl = .slice (some ⟨g, off, none⟩) n c ∧ ¬ F5 g := fun h0 => by
      obtain ⟨g, off, n, c, e, hg⟩ := hn9.2 h0
      exact ⟨g, off, n, c, e, fun hF => by have := I.lt hA5 g hF; omega⟩
    have HFR := Lib.hid hfr
    have k9 := k5.trans (hb9.mono k5.size)
    clear hn9 hb9 hA5 ld k5 hfr
    go_wp2_with fail
    refine (GA.out w9).mono ?_
    rintro e w10 ⟨rfl, rfl⟩
    go_wp2_with fail
    refine (P1.out w9 F5 _ hA9).mono ?_
    rintro e w10 ⟨F10, rfl, hA10, hs10⟩
    have hF10 := hs10.low hF5 k9.size
    have k10 := k9.trans (hs10.below hF5 k9.size)
    have hl10 := byts_step hs10 hl9 HFR.out
    have HL10 := Lib.hid hl10
    clear hA9 hs10 k9 hF5 hl9 hl10
    go_wp2_with fail
    have ld := LD3.out w10 F10 _ hA10
    rw [E5.out] at ld
    refine ld.mono ?_
    rintro e w11 ⟨vm, rfl, hn11, hb11⟩
    have HM := Lib.hid hn11.1
    have hl11 := HL10.out.keep hb11
    have k11 := k10.trans (hb11.mono k10.size)
    clear hn11 hb11 hA10 hF10 ld k10
    go_wp2_with fail
    refine (SAA.out _ _ _ hl11 (HA2.out.keep k11)).mono ?_
    rintro e w12 ⟨rfl, hb12⟩
    have k12 := k11.trans (hb12.mono k11.size)
    have hm12 := HM.out.keep hb12
    clear hb12 hl11 k11
    go_wp2_with fail
    refine (SAA.out _ _ _ hm12 (HA2.out.keep k12)).mono ?_
    rintro e w13 ⟨rfl, hb13⟩
    have k13 := k12.trans (hb13.mono k12.size)
    clear hb13 hm12 k12
    go_wp2_with fail
    refine (l9_lives I w13).mono ?_
    rintro e w14 ⟨rfl, hb14⟩
    have K14 := Lib.hid (k13.trans (hb14.mono k13.size))
    clear hb14 k13
    go_wp2
    go_ret
    exact ⟨rfl, chain K2.out K14.out⟩
end Go.Proofs.Ythjekbbldejlpaa
/- What comes in, opened: deeds (three numbers and bytes), rows of rows of bytes, rows of truths. -/
set_option linter.unusedVariables false
set_option linter.unusedSimpArgs false
namespace Go.Proofs.Ythjekbbldejlpaa
open Go.ChangeShapes Go.WideShapes Go.ChangeAt Go.RowKit Go.Deep
section
variable {H : Type} {enc : TypeId × Value → H} {w : World} {r : Reach} {b0 base : Nat} {spare : Nat → Bool} {held : Bool}
set_option maxRecDepth 10000 in
/-- A row of bytes, out of what it is told as. -/
theorem byts_trod {fuel : Nat} {cs : List Value} {x : DataW H × List MemPlace} (hf : DataW.trod enc Try.prog w 0 spare held fuel 22 cs = some x) : ∃ v, cs = [v] ∧ BytsIn w v := by
  rcases open_slice Try.underlying22 hf with ⟨hcs, _⟩ | ⟨a', len', cap', m, n, D, Pl, hcs, _, hl, hm, hmm, hx, hi⟩
  · exact ⟨_, hcs, [], .inl ⟨⟨_, _, rfl⟩, rfl⟩, by simp [bytOk], by simp⟩
  · refine ⟨_, hcs, ?_⟩
    by_cases h0 : len' = 0
    · subst h0; exact ⟨[], .inl ⟨⟨_, _, rfl⟩, rfl⟩, by simp [bytOk], by simp⟩
    · have hlm : len' ≤ m := by rw [hmm]; split <;> omega
      rw [one_byte] at hi
      have key : ∀ i, i < len' → ∃ n : Int, (0 ≤ n ∧ n ≤ 255) ∧ w.cell? (a'.add i) = some (.int .u8 n) := by
        intro i hil
        obtain ⟨cs', hc, ht⟩ := hi i (by omega)
        obtain ⟨n, rfl, h1, h2⟩ := byte_trod ht
        obtain ⟨_, _, hat⟩ := World.cells?_some hc
        have := hat 0 (by omega)
        rw [Go.Deep.add_add] at this
        exact ⟨n, ⟨h1, h2⟩, by simpa using this⟩
      obtain ⟨f, hf'⟩ : ∃ f : Nat → Int, ∀ i, i < len' → (0 ≤ f i ∧ f i ≤ 255) ∧ w.cell? (a'.add i) = some (.int .u8 (f i)) := by
        refine ⟨fun i => if h : i < len' then (key i h).choose else 0, fun i hil => ?_⟩
        simp only [hil, dif_pos]
        exact (key i hil).choose_spec
      obtain ⟨b, off, spot⟩ := a'
      have h00 := (hf' 0 (by omega)).2
      have hspot : spot = none := by simpa [Addr.add] using World.cell?_spot h00
      subst hspot
      have hlb : b < w.heap.size := World.block_lt_of_cell? w _ h00
      simp only [add_plain] at hf'
      refine ⟨(List.range len').map f, .inr ⟨b, off, cap', by simp, by simpa using hl, hlb, fun j hj => ?_⟩, fun x hx => ?_, by simp; omega⟩
      · simpa using (hf' j (by simpa using hj)).2
      · obtain ⟨j, hj, rfl⟩ := List.mem_map.1 hx
        exact (hf' j (List.mem_range.1 hj)).1
set_option maxRecDepth 10000 in
theorem one_bytes : Try.prog.cellsOf 22 = 1 := by kernel_rfl
end
end Go.Proofs.Ythjekbbldejlpaa
/- What comes in, opened: rows of rows of bytes, rows of truths. -/
set_option linter.unusedVariables false
set_option linter.unusedSimpArgs false
namespace Go.Proofs.Ythjekbbldejlpaa
open Go.ChangeShapes Go.WideShapes Go.ChangeAt Go.RowKit Go.Deep
section
variable {H : Type} {enc : TypeId × Value → H} {w : World} {r : Reach} {b0 base : Nat} {spare : Nat → Bool} {held : Bool}
abbrev BRow := Value × List Int
def BRow.ok (w : World) (x : BRow) : Prop := BytsAt w x.1 x.2 ∧ bytOk x.2 ∧ x.2.length ≤ maxLen
def RowsBAt (w : World) (v : Value) (l : List BRow) : Prop :=
  ((∃ p cap, v = .slice p 0 cap) ∧ l = []) ∨ ∃ g off cap, v = .slice (some ⟨g, off, none⟩) l.length cap ∧ l.length ≤ cap ∧ g < w.heap.size ∧ ∀ j (h : j < l.length), w.cell? ⟨g, off + j, none⟩ = some l[j].1
abbrev RowsBIn (w : World) (v : Value) : Prop := ∃ l : List BRow, RowsBAt w v l ∧ (∀ j (h : j < l.length), l[j].ok w) ∧ l.length ≤ maxLen
set_option maxRecDepth 10000 in
theorem RowsBAt.form {w : World} {v : Value} {l : List BRow} (h : RowsBAt w v l) : ∃ p cap, v = .slice p l.length cap ∧ (0 < l.length → ∃ g off, p = some ⟨g, off, none⟩ ∧ l.length ≤ cap ∧ g < w.heap.size ∧ ∀ j (h : j < l.length), w.cell? ⟨g, off + j, none⟩ = some l[j].1) := by
  rcases h with ⟨⟨p, cap, rfl⟩, rfl⟩ | ⟨g, off, cap, e, hc, hg, hx⟩
  · exact ⟨p, cap, rfl, fun h => absurd h (by simp)⟩
  · exact ⟨some ⟨g, off, none⟩, cap, e, fun _ => ⟨g, off, rfl, hc, hg, hx⟩⟩
def BoolsAt (w : World) (v : Value) (l : List Bool) : Prop :=
  ((∃ p cap, v = .slice p 0 cap) ∧ l = []) ∨ ∃ g off cap, v = .slice (some ⟨g, off, none⟩) l.length cap ∧ l.length ≤ cap ∧ g < w.heap.size ∧ ∀ j (h : j < l.length), w.cell? ⟨g, off + j, none⟩ = some (.bool l[j])
abbrev BoolsIn (w : World) (v : Value) : Prop := ∃ l : List Bool, BoolsAt w v l ∧ l.length ≤ maxLen
set_option maxRecDepth 10000 in
theorem BoolsAt.form {w : World} {v : Value} {l : List Bool} (h : BoolsAt w v l) : ∃ p cap, v = .slice p l.length cap ∧ (0 < l.length → ∃ g off, p = some ⟨g, off, none⟩ ∧ l.length ≤ cap ∧ g < w.heap.size ∧ ∀ j (h : j < l.length), w.cell? ⟨g, off + j, none⟩ = some (.bool l[j])) := by
  rcases h with ⟨⟨p, cap, rfl⟩, rfl⟩ | ⟨g, off, cap, e, hc, hg, hx⟩
  · exact ⟨p, cap, rfl, fun h => absurd h (by simp)⟩
  · exact ⟨some ⟨g, off, none⟩, cap, e, fun _ => ⟨g, off, rfl, hc, hg, hx⟩⟩
set_option maxRecDepth 10000 in
theorem open_bytss {v : Value} {d : DataW H} {p : List MemPlace} (hv : Value.okWide Try.prog w r b0 31 v) (h : DataW.Trod enc Try.prog w 0 spare held 31 v d p) (hlt : ∀ x ∈ p, x.block < w.heap.size) : RowsBIn w v := by
  obtain ⟨a, len, cap, rfl⟩ := okWide_slice Try.underlying31 hv
  obtain ⟨fuel, hf⟩ := h
  rcases open_slice Try.underlying31 hf with ⟨hcs, _⟩ | ⟨a', len', cap', m, n, D, Pl, hcs, _, hl, hm, hmm, hx, hi⟩
  · simp [Value.cells] at hcs
    obtain ⟨rfl, rfl, rfl⟩ := hcs
    exact ⟨[], .inl ⟨⟨_, _, rfl⟩, rfl⟩, fun j h => absurd h (by simp), by simp⟩
  · simp [Value.cells] at hcs
    obtain ⟨rfl, rfl, rfl⟩ := hcs
    by_cases h0 : len = 0
    · subst h0; exact ⟨[], .inl ⟨⟨_, _, rfl⟩, rfl⟩, fun j h => absurd h (by simp), by simp⟩
    · have hlm : len ≤ m := by rw [hmm]; split <;> omega
      rw [one_bytes] at hi
      have key : ∀ i, i < len → ∃ q : BRow, q.ok w ∧ w.cell? (a'.add i) = some q.1 := by
        intro i hil
        obtain ⟨cs', hc, ht⟩ := hi i (by omega)
        obtain ⟨x, rfl, B, hB, oB, lB⟩ := byts_trod ht
        obtain ⟨_, _, hat⟩ := World.cells?_some hc
        have e0 := hat 0 (by omega)
        rw [Go.Deep.add_add] at e0
        exact ⟨(x, B), ⟨hB, oB, lB⟩, by simpa using e0⟩
      obtain ⟨f, hf'⟩ : ∃ f : Nat → BRow, ∀ i, i < len → (f i).ok w ∧ w.cell? (a'.add i) = some (f i).1 := by
        refine ⟨fun i => if h : i < len then (key i h).choose else (.slice none 0 0, []), fun i hil => ?_⟩
        simp only [hil, dif_pos]
        exact (key i hil).choose_spec
      obtain ⟨b, off, spot⟩ := a'
      have h00 := (hf' 0 (by omega)).2
      have hspot : spot = none := by simpa [Addr.add] using World.cell?_spot h00
      subst hspot
      have hlb : b < w.heap.size := World.block_lt_of_cell? w _ h00
      simp only [add_plain] at hf'
      refine ⟨(List.range len).map f, .inr ⟨b, off, cap, by simp, by simpa using hl, hlb, fun j hj => ?_⟩, fun j hj => ?_, by simp; omega⟩
      · simpa using (hf' j (by simpa using hj)).2
      · simpa using (hf' j (by simpa using hj)).1
end
end Go.Proofs.Ythjekbbldejlpaa
