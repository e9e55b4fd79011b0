/- DiskWhole, over what is asked of the disk. Written by gen_w08.py. -/
import Derived.Test.YtkephcmjigfepaaU08
set_option linter.unusedVariables false
set_option linter.unusedSimpArgs false
namespace Go.Proofs.Ytkephcmjigfepaa
open Go.ChangeShapes Go.WideShapes Go.ChangeAt Go.RowKit
/-- A crash that keeps all. -/
theorem crash_whole : ∀ {l s : Blobs} {k : Nat}, sumB l ≤ k → crashGo List.length (fun B k => B.take k) s k l = nowF s l
  | [], s, k, _ => rfl
  | (q, B) :: l, s, k, h => by
    have e : crashGo List.length (fun B k => B.take k) s k ((q, B) :: l) = if B.length ≤ k then crashGo List.length (fun B k => B.take k) (layF s (q, B)) (k - B.length) l else layF s (q, B.take k) := rfl
    have hs : sumB ((q, B) :: l) = B.length + sumB l := rfl
    rw [hs] at h
    rw [e, if_pos (by omega), crash_whole (by omega)]
    rfl
theorem whole_state {d : St} (hw : d.wait = 0) (hf : d.fails = 0) {K : Int} (h : (sumB d.under : Int) ≤ K) : crashSt d K = ((syncSt d).1, 0) ∧ (syncSt d).2 = 0 := by
  have ha : d.falls = false := by unfold St.falls askF; rw [hw, hf]; rfl
  have e : syncSt d = ({ d.asked with safe := d.all, under := [] }, 0) := by unfold syncSt; rw [ha, if_neg (by decide)]
  rw [e]
  refine ⟨?_, rfl⟩
  have hk : keptOf d K = sumB d.under := by unfold keptOf; omega
  unfold crashSt
  rw [hk, crash_whole (Nat.le_refl _), Int.sub_self]
  have hk2 : d.asked = { d with fails := 0, wait := 0 } := by
    obtain ⟨r, f, w, s, u⟩ := d
    have hw : w = 0 := hw
    have hf : f = 0 := hf
    subst hw hf
    rfl
  rw [hk2]
  rfl
/-- A deed on one disk leaves another one as it was. -/
theorem DiskI.other (I : DiskI) {w w' : World} {Fa Fa' Fb : Foot} {p : Value} {d : St} (h : I.At w Fb p d) (hs : Step Fa Fa' w w') (hd : ∀ x, Fb x → ¬ Fa x) : I.At w' Fb p d ∧ ∀ x, Fb x → ¬ Fa' x :=
  ⟨I.same h fun b hb => hs.block b (I.lt h b hb) (hd b hb), fun x hx h' => (hs.fresh x h').elim (hd x hx) (fun h2 => by have := I.lt h x hx; omega)⟩
theorem apart_symm {F G : Foot} (h : ∀ x, F x → ¬ G x) : ∀ x, G x → ¬ F x := fun x hx h' => h x h' hx
set_option maxRecDepth 10000 in
set_option maxHeartbeats 16000000 in
theorem diskWhole_core (I : DiskI) (w : World) (v : Value) (more : Int) (hd : RowsBIn w v) (hmore : i64 more) : Calls Try.prog 7 #[v, .int .i64 more] w fun e w' => e = .returned (.bool true) ∧ Below w.heap.size w w' := by
  obtain ⟨l, hl, hok, hlen⟩ := hd
  obtain ⟨p, cap, rfl, hf⟩ := hl.form
  obtain ⟨N, hN⟩ : ∃ N, l.length = N := ⟨_, rfl⟩
  have ar := around_bd more 100 (by omega)
  have an := fun u => r_around more 100 hmore.1 hmore.2 (by omega) (by omega) u
  obtain ⟨R, hR⟩ : ∃ Z, aroundF more 100 = Z := ⟨_, rfl⟩
  rw [hR] at ar an
  have AN := Lib.hid an
  have HF := Lib.hid hf
  have HN := Lib.hid hN
  have OK := Lib.hid hok
  have i10 : i64 10000 := ⟨by decide, by decide⟩
  unfold maxLen at hlen
  rw [hN] at hlen ⊢
  clear hR an hf hN hok hl
  go_enter Try.func7, Try.ntmps7
  go_wp2_with fail
  refine (I.new 10000 w i10).mono ?_
  rintro e w1 ⟨pd, Fa, rfl, hA, hFa, k1⟩
  obtain ⟨pa, rfl⟩ := I.ptr hA
  go_wp2_with fail
  refine (I.new 10000 w1 i10).mono ?_
  rintro e w2 ⟨pd, Fb, rfl, hB, hFb, hv⟩
  obtain ⟨pb, rfl⟩ := I.ptr hB
  have hdis : ∀ x, Fb x → ¬ Fa x := fun x hx h' => by have := I.lt hA x h'; have := hFb x hx; omega
  replace hFb : ∀ b, Fb b → w.heap.size ≤ b := fun b hb => Nat.le_trans k1.size (hFb b hb)
  replace hA := I.keep hA hv
  have k2 := chain k1 hv
  have ok0 := StOk.new i10
  obtain ⟨st0, hst0⟩ : ∃ s, newSt 10000 = s := ⟨_, rfl⟩
  have rm0 : st0.room = 10000 := by rw [← hst0]; rfl
  have w00 : st0.wait = 0 := by rw [← hst0]; rfl
  have f00 : st0.fails = 0 := by rw [← hst0]; rfl
  rw [hst0] at hA hB ok0
  have Z0 := Lib.hid (And.intro rm0 (And.intro w00 f00))
  clear hst0 rm0 w00 f00 hv k1
  go_wp2_with fail
  go_loopw [7] (fun i wr => ∃ (j : Nat) (st : St) (F G : Foot), j ≤ N ∧ j ≤ 8 ∧ i = .int .i64 j ∧ Below w.heap.size w wr ∧ I.At wr F (.pointer (some pa)) st ∧ I.At wr G (.pointer (some pb)) st ∧ (∀ b, F b → w.heap.size ≤ b) ∧ (∀ b, G b → w.heap.size ≤ b) ∧ (∀ x, G x → ¬ F x) ∧ StOk st j (20 * j) ∧ st.room = 10000 ∧ st.wait = 0 ∧ st.fails = 0) (fun i _ => N - (intOf i).toNat)
  case atStart => exact ⟨0, st0, Fa, Fb, by omega, by omega, rfl, k2, hA, hB, hFa, hFb, hdis, ok0, Z0.out.1, Z0.out.2.1, Z0.out.2.2⟩
  case round =>
    clear hA hB hFa hFb hdis ok0 k2
    obtain ⟨j, st, F, G, hj, hj12, rfl, kw, hA, hB, hF, hG, hdis, ok, hroom, hwait, hfails⟩ := hrel
    by_cases hlt : j < N ∧ j < 8
    · obtain ⟨hlt, h12⟩ := hlt
      obtain ⟨g, off, rfl, hc, hg, hx⟩ := HF.out (by rw [HN.out]; omega)
      rw [HN.out] at hc
      have hjl : j < l.length := by rw [HN.out]; exact hlt
      have x0 := hx j hjl
      obtain ⟨o4, o5, o6⟩ := OK.out j hjl
      obtain ⟨⟨vb, B0⟩, hxe⟩ : ∃ x, l[j] = x := ⟨_, rfl⟩
      rw [hxe] at x0 o4 o5 o6
      simp only [] at x0 o4 o5 o6
      obtain ⟨pv, cv, rfl⟩ := o4.shape
      have bj : (j : Int) < N := by omega
      have bj2 : (j : Int) < 8 := by omega
      obtain ⟨k, hk⟩ : ∃ k, (j : Int) % 4 = k := ⟨_, rfl⟩
      have ik : i64 k := by constructor <;> omega
      have few := fun u (hu : BytsAt u (.slice pv B0.length cv) B0) => r8_few (.slice pv B0.length cv) B0 20 u hu o6 (by omega)
      have hb1 := byts_cut o4 (Nat.min_le_left B0.length 20)
      obtain ⟨B, hB'⟩ : ∃ B, B0.take (min B0.length 20) = B := ⟨_, rfl⟩
      have oB : bytOk B := by rw [← hB']; exact o5.take _
      have lB : B.length = min B0.length 20 := by rw [← hB', List.length_take]; omega
      rw [hB'] at hb1
      obtain ⟨mB, hmB⟩ : ∃ n, min B0.length 20 = n := ⟨_, rfl⟩
      rw [hmB] at lB hb1 few
      simp only [slCut] at few hb1
      have bB : mB ≤ 20 := by omega
      obtain ⟨L, hL⟩ : ∃ x, B0.length = x := ⟨_, rfl⟩
      rw [hL] at few x0 o4
      have hsm := ok.sum
      have hnw := nowF_sum st.under st.safe
      obtain ⟨pr1, _⟩ := room_put ok.srt hwait hfails k B
      obtain ⟨D2, e1, e2, e3, e4, _⟩ := pr1 (by
        rw [lB, hroom]
        have e : st.all = nowF st.safe st.under := rfl
        rw [e]
        omega)
      have okP := (ok.put (k := k) ik oB).mono (Nat.le_refl _) (show 20 * j + B.length ≤ 20 * (j + 1) by omega)
      have PUT := Lib.hid (fun u (F : Foot) (q : Option Addr) vb (hu : I.At u F (.pointer q) st) (hb : BytsAt u vb B) => I.put u F _ st k vb B j (20 * j) hu ok (by omega) (by omega) ik hb oB (by omega))
      rw [e1] at okP PUT
      simp only [] at okP PUT
      have OKP := Lib.hid okP
      have E4 := Lib.hid (e4.trans hroom)
      have E23 := Lib.hid (And.intro e2 e3)
      have FEW := Lib.hid few
      have HB1 := Lib.hid hb1
      have O4 := Lib.hid o4
      have y0 := keepc kw hg x0
      have zg : g < wr.heap.size := Nat.lt_of_lt_of_le hg kw.size
      clear hx hxe few hb1 o4 o5 o6 hB' oB lB hmB hL pr1 okP ok hroom hwait hfails e1 e2 e3 e4 hsm hnw
      go_wp2_with fail
      refine (FEW.out _ (O4.out.keep kw)).mono ?_
      rintro e w3 ⟨rfl, hv⟩
      replace kw := chain kw hv
      replace hA := I.keep hA hv
      replace hB := I.keep hB hv
      clear hv y0 zg
      go_wp2_with fail
      refine (PUT.out _ _ _ _ hA (HB1.out.keep kw)).mono ?_
      rintro e w4 ⟨F2, rfl, hA2, hs⟩
      have low1 := hs.low hF kw.size
      obtain ⟨hB2, hdis2⟩ := I.other hB hs hdis
      replace kw := kw.trans (hs.below hF kw.size)
      clear hs hA hB hF hdis
      go_wp2_with fail
      refine (PUT.out _ _ _ _ hB2 (HB1.out.keep kw)).mono ?_
      rintro e w5 ⟨G2, rfl, hB3, hs⟩
      have low2 := hs.low hG kw.size
      obtain ⟨hA3, hdis3⟩ := I.other hA2 hs (apart_symm hdis2)
      replace kw := kw.trans (hs.below hG kw.size)
      clear hs hA2 hB2 hG hdis2 hk
      go_wp2_with fail
      go_roundw
      case rel => exact ⟨j + 1, D2, F2, G2, by omega, by omega, by go_num, kw, hA3, hB3, low1, low2, apart_symm hdis3, OKP.out, E4.out, E23.out.1, E23.out.2⟩
      case measure => simp [intOf]; omega
    · have gen : (j < N ∧ ¬ j < 8) ∨ ¬ j < N := by omega
      have hsm := ok.sum
      have LEFT := Lib.hid (fun u (F : Foot) (hu : I.At u F (.pointer (some pa)) st) => I.left u F _ st j (20 * j) hu ok (by omega) (by omega))
      obtain ⟨U, hU⟩ : ∃ n, sumB st.under = n := ⟨_, rfl⟩
      rw [hU] at LEFT hsm
      have iK : i64 ((U : Int) + R) := by constructor <;> omega
      have wK : IntKind.i64.wrap ((U : Int) + R) = U + R := IntWalk.i64_in _ (by omega)
      obtain ⟨c1, c2⟩ := whole_state hwait hfails (K := (U : Int) + R) (by rw [hU]; omega)
      have CR := Lib.hid (fun u (F : Foot) (hu : I.At u F (.pointer (some pa)) st) => I.crash u F _ st ((U : Int) + R) j (20 * j) hu ok (by omega) (by omega) iK)
      have SY := Lib.hid (fun u (F : Foot) (hu : I.At u F (.pointer (some pb)) st) => I.sync u F _ st j (20 * j) hu ok (by omega) (by omega))
      have ok2 := ok.sync
      rw [c1] at CR
      rw [c2] at SY
      obtain ⟨D2, hD2⟩ : ∃ d, (syncSt st).1 = d := ⟨_, rfl⟩
      simp only [] at CR
      rw [hD2] at CR SY ok2
      have GET := Lib.hid (fun (i : Int) (ii : i64 i) u (F : Foot) (q : Option Addr) (hu : I.At u F (.pointer q) D2) => I.get u F _ D2 i j (20 * j) hu ok2 (by omega) (by omega) ii)
      have LEN := Lib.hid (fun u (F : Foot) (q : Option Addr) (hu : I.At u F (.pointer q) D2) => I.len u F _ D2 j (20 * j) hu ok2 (by omega) (by omega))
      have GOK := Lib.hid (fun (i : Int) => get_ok ok2 i)
      clear c1 c2 hD2 ok ok2 hU hroom hwait hfails
      rcases gen with ⟨g1, g2⟩ | g1
      all_goals
        go_wp2_with fail
        refine (LEFT.out _ _ hA).mono ?_
        rintro e w3 ⟨rfl, hv⟩
        replace kw := chain kw hv
        replace hA := I.keep hA hv
        replace hB := I.keep hB hv
        clear hv
        go_wp2_with (go_at_call 9; refine (AN.out _).mono ?_; rintro e w' ⟨rfl, rfl⟩)
        refine (CR.out _ _ hA).mono ?_
        rintro e w4 ⟨F2, rfl, hA2, hs⟩
        have low1 := hs.low hF kw.size
        obtain ⟨hB2, hdis2⟩ := I.other hB hs hdis
        replace kw := kw.trans (hs.below hF kw.size)
        clear hs hA hB hF hdis
        go_wp2_with fail
        refine (SY.out _ _ hB2).mono ?_
        rintro e w5 ⟨G2, rfl, hB3, hs⟩
        have low2 := hs.low hG kw.size
        obtain ⟨hA3, hdis3⟩ := I.other hA2 hs (apart_symm hdis2)
        replace kw := kw.trans (hs.below hG kw.size)
        clear hs hA2 hB2 hG hdis2
        go_wp2_with fail
        go_loopw [9] (fun i ws => ∃ (t : Nat), t ≤ 5 ∧ i = .int .i64 t ∧ Below w5.heap.size w5 ws) (fun i _ => 5 - (intOf i).toNat)
        case atStart => exact ⟨0, by omega, rfl, Below.refl _ _⟩
        case round =>
          obtain ⟨t, ht, rfl, kt⟩ := hrel
          have hAt := I.keep hA3 kt
          have hBt := I.keep hB3 kt
          by_cases ht5 : t < 5
          · have bt : (t : Int) < 5 := by omega
            have it : i64 (t : Int) := by constructor <;> omega
            have ga := fun u F q hu => GET.out (t : Int) it u F q hu
            have oG := GOK.out (t : Int)
            obtain ⟨X, bX, hX⟩ : ∃ X b, getSt D2 (t : Int) = (X, b) := ⟨_, _, rfl⟩
            rw [hX] at ga oG
            simp only [] at ga oG
            have GA := Lib.hid ga
            have OG := Lib.hid oG
            clear ga oG hX
            go_wp2_with fail
            refine (GA.out _ _ _ hAt).mono ?_
            rintro e v1 ⟨x1, rfl, hx1, hv⟩
            replace hBt := I.keep hBt hv
            replace kt := chain kt hv
            obtain ⟨q1, d1, rfl⟩ := hx1.shape
            clear hv hAt
            go_wp2_with fail
            refine (GA.out _ _ _ hBt).mono ?_
            rintro e v2 ⟨x2, rfl, hx2, hv⟩
            replace kt := chain kt hv
            replace hx1 := hx1.keep hv
            obtain ⟨q2, d2, rfl⟩ := hx2.shape
            have H1 := Lib.hid hx1
            have H2 := Lib.hid hx2
            obtain ⟨nX, hnX⟩ : ∃ n, X.length = n := ⟨_, rfl⟩
            rw [hnX] at H1 H2 ⊢
            clear hv hBt hx1 hx2 hnX
            go_wp2_with fail
            refine (r6_same _ _ X X _ H1.out H2.out OG.out OG.out).mono ?_
            rintro e v3 ⟨rfl, hv⟩
            replace kt := chain kt hv
            clear hv
            go_wp2_with fail
            go_roundw
            case rel => exact ⟨t + 1, by omega, by go_num, kt⟩
            case measure => simp [intOf]; omega
          · obtain rfl : t = 5 := by omega
            go_wp2_with fail
            refine (LEN.out _ _ _ hAt).mono ?_
            rintro e v1 ⟨rfl, hv⟩
            replace hBt := I.keep hBt hv
            replace kt := chain kt hv
            clear hv
            go_wp2_with fail
            refine (LEN.out _ _ _ hBt).mono ?_
            rintro e v2 ⟨rfl, hv⟩
            replace kt := chain kt hv
            clear hv
            go_wp2_with fail
            refine (l8_lives I _).mono ?_
            rintro e w9 ⟨rfl, hv9⟩
            go_wp2
            go_ret
            exact ⟨rfl, chain (chain kw kt) hv9⟩
end Go.Proofs.Ytkephcmjigfepaa
