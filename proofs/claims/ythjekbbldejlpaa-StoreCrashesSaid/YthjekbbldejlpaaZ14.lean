/- Texts behind each other. -/
import Derived.Test.YthjekbbldejlpaaZ13
import Derived.Test.YthjekbbldejlpaaZ12
/- Contracts of layer 9's reference (store): Save. -/
set_option linter.unusedVariables false
set_option linter.unusedSimpArgs false
namespace Go.Proofs.Ythjekbbldejlpaa
open Go.ChangeShapes Go.WideShapes Go.ChangeAt Go.RowKit
theorem ofP_slot (k : Int) (a b : List Int) : (ofP k a b).1 = 2 * k ∨ (ofP k a b).1 = 2 * k + 1 := by
  unfold ofP
  split
  · exact .inr rfl
  · split
    · exact .inl rfl
    · exact .inr rfl
theorem ofP_ver (k : Int) (a b : List Int) : 0 ≤ (ofP k a b).2.1 ∧ (ofP k a b).2.1 ≤ 1073741824 := by
  unfold ofP
  split
  · exact ⟨Int.le_refl _, by show (0 : Int) ≤ 1073741824; decide⟩
  · split
    · exact readV_bd a
    · exact readV_bd b
/-- Five cells are laid into a variable of one's own. -/
theorem lay_own {w u : World} {g : Nat} {cs : Array Value} (h : Below w.heap.size w u) (hg : w.heap.size ≤ g) {a0 a1 a2 a3 a4 : Value} {t : TypeId} (r : RowAt u g #[a0, a1, a2, a3, a4] t) (x0 x1 x2 x3 x4 : Value) {u' : World} (e : (((((u.setCell ⟨g, 0, none⟩ x0).setCell ⟨g, 1, none⟩ x1).setCell ⟨g, 2, none⟩ x2).setCell ⟨g, 3, none⟩ x3).setCell ⟨g, 4, none⟩ x4) = u') :
    Below w.heap.size w u' ∧ RowAt u' g #[x0, x1, x2, x3, x4] t := by
  subst e
  exact ⟨below5 h hg _ _ _ _ _, row5 r _ _ _ _ _⟩
set_option maxRecDepth 10000 in
set_option maxHeartbeats 16000000 in
theorem r9_save (v : Value) (d : St) (k : Int) (vb : Value) (B : List Int) (G : Foot) (w : World) (hG : ∀ g, w.heap.size ≤ g → G g) {n m : Nat} (hd : DAtR (BlobIn G w) w v d) (ok : StOk d n m) (hn : n + 1 ≤ 40000) (hm : m + 1009 ≤ 100000) (hk : i64 k) (hb : BytsAt w vb B) (okB : bytOk B) (hB : B.length ≤ 1000) :
    Calls Try.prog 35 #[v, .int .i64 k, vb] w fun e w' => ∃ v', e = .returned (.tuple #[v', .int .i64 (saveSt d k B).2]) ∧ DAtR (BlobIn G w') w' v' (saveSt d k B).1 ∧ Below w.heap.size w w' := by
  obtain ⟨k0, k1⟩ := hk
  obtain ⟨ps, ns, cs, pl, nl, cl, hv⟩ := hd.form
  subst hv
  obtain ⟨pb, cb, hvb⟩ := hb.shape
  by_cases hbad : k < 0 ∨ 1099511627776 < k
  · have e : saveSt d k B = (d, 1) := by unfold saveSt; rw [idB_no hbad]; rfl
    rw [e]
    have HD := Lib.hid hd
    clear hd ok hb okB e
    subst hvb
    have fin : ∀ u (hu : Below w.heap.size w u), DAtR (BlobIn G u) u (dV d.room d.fails d.wait (.slice ps ns cs) (.slice pl nl cl)) d := fun u hu => (HD.out.keep hu).map fun h => h.below hu
    have FIN := Lib.hid fin
    clear fin
    by_cases q1 : k < 0
    · have g1 : decide (k < 0) = true := by simpa using q1
      clear q1 hbad k0 k1
      go_enter Try.func35, Try.ntmps35
      go_wp2
      exact bodyPost_ret (v := .tuple #[dV d.room d.fails d.wait (.slice ps ns cs) (.slice pl nl cl), .int .i64 1]) (by simp [results, Try.results35, go_sem]) rfl ⟨_, rfl, FIN.out _ (al (al (Below.refl _ _) _) _), al (al (Below.refl _ _) _) _⟩
    · have q2 : 1099511627776 < k := by omega
      have g1 : decide (k < 0) = false := by simpa using q1
      have g2 : decide (1099511627776 < k) = true := by simpa using q2
      have g3 : decide (k > 1099511627776) = true := g2
      clear q1 q2 hbad k0 k1
      go_enter Try.func35, Try.ntmps35
      go_wp2
      exact bodyPost_ret (v := .tuple #[dV d.room d.fails d.wait (.slice ps ns cs) (.slice pl nl cl), .int .i64 1]) (by simp [results, Try.results35, go_sem]) rfl ⟨_, rfl, FIN.out _ (al (al (Below.refl _ _) _) _), al (al (Below.refl _ _) _) _⟩
  · have h0 : 0 ≤ k := by omega
    have h1 : k ≤ 1099511627776 := by omega
    have e : saveSt d k B = if wr9 ((of9 d k).2.1 + 1) B = true then (if (putSt d (4 * k + 1 - (of9 d k).1) (recF ((of9 d k).2.1 + 1) B)).2 = 0 then syncSt (putSt d (4 * k + 1 - (of9 d k).1) (recF ((of9 d k).2.1 + 1) B)).1 else putSt d (4 * k + 1 - (of9 d k).1) (recF ((of9 d k).2.1 + 1) B)) else (d, 1) := by
      unfold saveSt; rw [idB_yes h0 h1, if_pos rfl]
    rw [e]
    have hsl : (of9 d k).1 = 2 * k ∨ (of9 d k).1 = 2 * k + 1 := ofP_slot _ _ _
    have hvr : 0 ≤ (of9 d k).2.1 ∧ (of9 d k).2.1 ≤ 1073741824 := ofP_ver _ _ _
    have ho := fun u (hu : Below w.heap.size w u) => r9_of _ d k (BlobIn G w) u (fun h => h.1.keep hu) (hd.keep hu) ok (by omega) (by omega) (by constructor <;> omega)
    generalize of9 d k = o at *
    obtain ⟨os, ov, ob⟩ := o
    dsimp only at hsl hvr ho ⊢
    obtain ⟨v0, v1⟩ := hvr
    have okr := recF_ok (ver := ov + 1) okB
    have lnr := recF_len (ov + 1) B
    have hw9 := fun u (hu : Below w.heap.size w u) => r9_write (ov + 1) vb B u (by constructor <;> omega) (hb.keep hu) okB (by unfold maxLen; omega)
    have i1 : IntKind.i64.wrap (ov + 1) = ov + 1 := IntWalk.i64_in _ (by omega)
    have i2 : IntKind.i64.wrap (4 * k) = 4 * k := IntWalk.i64_in _ (by omega)
    have i3 : IntKind.i64.wrap (4 * k + 1) = 4 * k + 1 := IntWalk.i64_in _ (by omega)
    have i4 : IntKind.i64.wrap (4 * k + 1 - os) = 4 * k + 1 - os := IntWalk.i64_in _ (by omega)
    have i5 : i64 (4 * k + 1 - os) := by constructor <;> omega
    have g1 : decide (k < 0) = false := by simpa using h0
    have g2 : decide (1099511627776 < k) = false := by simpa using h1
    have g3 : decide (k > 1099511627776) = false := g2
    have HD := Lib.hid hd
    have HO := Lib.hid ho
    have OK := Lib.hid ok
    have OKR := Lib.hid okr
    have LNR := Lib.hid lnr
    have I5 := Lib.hid i5
    have HGG := Lib.hid hG
    subst hvb
    obtain ⟨LB, hLB⟩ : ∃ L, B.length = L := ⟨_, rfl⟩
    rw [hLB] at hw9 ⊢
    have HLB := Lib.hid hLB
    have HBL := Lib.hid hB
    cases hwr : wr9 (ov + 1) B
    · rw [if_neg (by simp)]
      rw [hwr] at hw9
      have HW9 := Lib.hid hw9
      have fin : ∀ u (hu : Below w.heap.size w u), DAtR (BlobIn G u) u (dV d.room d.fails d.wait (.slice ps ns cs) (.slice pl nl cl)) d := fun u hu => (HD.out.keep hu).map fun h => h.below hu
      have FIN := Lib.hid fin
      clear hd ok hb okB e ho hw9 okr lnr hbad h0 h1 k0 k1 hsl v0 v1 i5 hLB hB hwr fin hG
      go_enter Try.func35, Try.ntmps35
      go_upto_region 3 with (fail)
      obtain ⟨u0, hu⟩ : ∃ u, (w.alloc (.cells #[.int .i64 d.room, .int .i64 d.fails, .int .i64 d.wait, .slice ps ns cs, .slice pl nl cl] 39)).alloc (.cells #[.int .i64 0, .int .i64 0, .int .i64 0, .slice none 0 0, .slice none 0 0] 39) = u := ⟨_, rfl⟩
      rw [hu]
      have k00 : Below w.heap.size w u0 := by rw [← hu]; exact al (al (Below.refl _ _) _) _
      have rb0 : RowAt u0 w.heap.size #[.int .i64 d.room, .int .i64 d.fails, .int .i64 d.wait, .slice ps ns cs, .slice pl nl cl] 39 := by rw [← hu]; exact (RowAt.new w _ _).alloc _
      have rr0 : RowAt u0 (w.heap.size + 1) #[.int .i64 0, .int .i64 0, .int .i64 0, .slice none 0 0, .slice none 0 0] 39 := by rw [← hu]; exact RowAt.make _ _ _ (by simp)
      have c0 := rb0.cell
      have z0 := rb0.lt
      clear hu
      go_wp2_with fail
      (refine (HO.out _ k00).mono ?_; rintro e w1 ⟨x1, rfl, hx1, hb1⟩)
      have k1 := chain k00 hb1
      replace rb0 := rb0.keep hb1
      replace rr0 := rr0.keep hb1
      clear hx1 hb1 c0 z0 k00
      go_wp2_with fail
      (refine (HW9.out _ k1).mono ?_; rintro e w2 ⟨x2, rfl, hx2, hb2⟩)
      have k2 := chain k1 hb2
      replace rb0 := rb0.keep hb2
      replace rr0 := rr0.keep hb2
      clear hx2 hb2 k1
      have c0 := rb0.cell
      have z0 := rb0.lt
      have f0 := rb0.frozen
      have c1 := rr0.cell
      have z1 := rr0.lt
      have f1 := rr0.frozen
      go_wp2_with fail
      clear c0 z0 f0 c1 z1 f1
      obtain ⟨u9, hu9⟩ : ∃ u, (((((w2.setCell ⟨w.heap.size + 1, 0, none⟩ (.int .i64 d.room)).setCell ⟨w.heap.size + 1, 1, none⟩ (.int .i64 d.fails)).setCell ⟨w.heap.size + 1, 2, none⟩ (.int .i64 d.wait)).setCell ⟨w.heap.size + 1, 3, none⟩ (.slice ps ns cs)).setCell ⟨w.heap.size + 1, 4, none⟩ (.slice pl nl cl)) = u := ⟨_, rfl⟩
      rw [hu9]
      have k9 := lay_own (cs := #[]) k2 (Nat.le_succ _) rr0 _ _ _ _ _ hu9
      have cr := k9.2.cell
      exact bodyPost_ret (v := .tuple #[dV d.room d.fails d.wait (.slice ps ns cs) (.slice pl nl cl), .int .i64 1]) (by simp [results, Try.results35, go_sem, cr]) rfl ⟨_, rfl, FIN.out _ k9.1, k9.1⟩
    · rw [if_pos rfl]
      rw [hwr] at hw9
      have hwf : wrF9 (ov + 1) B = recF (ov + 1) B := by unfold wrF9; rw [hwr]; rfl
      rw [hwf] at hw9
      have okp := ok.put (k := 4 * k + 1 - os) i5 okr
      have hp := fun u (hu : Below w.heap.size w u) x (hx : BlobIn G u x (recF (ov + 1) B)) => rG_put _ d (4 * k + 1 - os) x (recF (ov + 1) B) (BlobIn G u) u ((hd.keep hu).map fun h => h.below hu) ok (by omega) (by omega) i5 hx (by omega)
      generalize putSt d (4 * k + 1 - os) (recF (ov + 1) B) = PS at *
      obtain ⟨D2, P2⟩ := PS
      dsimp only at okp hp ⊢
      have HW9 := Lib.hid hw9
      have HP := Lib.hid hp
      have OKP := Lib.hid okp
      by_cases hz : P2 = 0
      · rw [if_pos hz]
        subst hz
        have hsy := fun u x (R : Value → List Int → Prop) (hR : GoodR R) (hx : DAtR R u x D2) => rG_sync x D2 R u hx okp (by omega)
        generalize syncSt D2 = SS at *
        obtain ⟨D3, P3⟩ := SS
        dsimp only at hsy ⊢
        have HSY := Lib.hid hsy
        clear hd ok hb okB e ho hw9 okr lnr hbad h0 h1 k0 k1 hsl v0 v1 i5 hLB hB hwr hG hwf hp okp hsy
        go_enter Try.func35, Try.ntmps35
        go_upto_region 3 with (fail)
        obtain ⟨u0, hu⟩ : ∃ u, (w.alloc (.cells #[.int .i64 d.room, .int .i64 d.fails, .int .i64 d.wait, .slice ps ns cs, .slice pl nl cl] 39)).alloc (.cells #[.int .i64 0, .int .i64 0, .int .i64 0, .slice none 0 0, .slice none 0 0] 39) = u := ⟨_, rfl⟩
        rw [hu]
        have k00 : Below w.heap.size w u0 := by rw [← hu]; exact al (al (Below.refl _ _) _) _
        have rb0 : RowAt u0 w.heap.size #[.int .i64 d.room, .int .i64 d.fails, .int .i64 d.wait, .slice ps ns cs, .slice pl nl cl] 39 := by rw [← hu]; exact (RowAt.new w _ _).alloc _
        have rr0 : RowAt u0 (w.heap.size + 1) #[.int .i64 0, .int .i64 0, .int .i64 0, .slice none 0 0, .slice none 0 0] 39 := by rw [← hu]; exact RowAt.make _ _ _ (by simp)
        have c0 := rb0.cell
        have z0 := rb0.lt
        clear hu
        go_wp2_with fail
        (refine (HO.out _ k00).mono ?_; rintro e w1 ⟨x1, rfl, hx1, hb1⟩)
        have k1 := chain k00 hb1
        replace rb0 := rb0.keep hb1
        replace rr0 := rr0.keep hb1
        clear hx1 hb1 c0 z0 k00
        go_wp2_with fail
        (refine (HW9.out _ k1).mono ?_; rintro e w2 ⟨x2, rfl, hx2, hb2⟩)
        have k2 := chain k1 hb2
        have hx3 : BlobIn G w2 x2 (recF (ov + 1) B) := BlobIn.owned hx2 fun g hg => HGG.out g (Nat.le_trans k1.size (hx2.lt g hg).1)
        replace rb0 := rb0.keep hb2
        replace rr0 := rr0.keep hb2
        clear hx2 hb2 k1
        have c0 := rb0.cell
        have z0 := rb0.lt
        go_upto_region 8 with (fail)
        go_wp2_with fail
        (refine (HP.out _ k2 _ hx3).mono ?_; rintro e w3 ⟨x3, rfl, hd3, hb3⟩)
        obtain ⟨p3, n3, c3, q3, m3, e3, hv3⟩ := hd3.form
        subst hv3
        have k3 := chain k2 hb3
        replace rb0 := rb0.keep hb3
        replace rr0 := rr0.keep hb3
        have HD3 := Lib.hid hd3
        have HB3 := Lib.hid hb3
        clear hd3 hb3 hx3 c0 z0
        go_upto_region 9 with (fail)
        obtain ⟨u4, hu4⟩ : ∃ u, w3.alloc (.cells #[.int .i64 D2.room, .int .i64 D2.fails, .int .i64 D2.wait, .slice p3 n3 c3, .slice q3 m3 e3] 39) = u := ⟨_, rfl⟩
        rw [hu4]
        have k4 : Below w.heap.size w u4 := by rw [← hu4]; exact al k3 _
        have K34 := Lib.hid (show Below w3.heap.size w3 u4 by rw [← hu4]; exact al (Below.refl _ _) _)
        have rw4 : RowAt u4 w3.heap.size #[.int .i64 D2.room, .int .i64 D2.fails, .int .i64 D2.wait, .slice p3 n3 c3, .slice q3 m3 e3] 39 := by rw [← hu4]; exact RowAt.new w3 _ _
        have rr4 := rr0.keep K34.out
        clear hu4 rr0 rb0
        have c4 := rw4.cell
        have z4 := rw4.lt
        go_wp2_with fail
        (refine (HSY.out _ _ _ inferInstance (HD3.out.keep K34.out)).mono ?_; rintro e w5 ⟨x5, rfl, hd5, hb5⟩)
        obtain ⟨p5, n5, c5, q5, m5, e5, hv5⟩ := hd5.form
        subst hv5
        have k5 := chain k4 hb5
        have rr5 := rr4.keep hb5
        have K25 := Lib.hid (chain (chain HB3.out K34.out) hb5)
        have HD5 := Lib.hid hd5
        clear hd5 hb5 c4 z4 rw4 rr4
        have c1 := rr5.cell
        have z1 := rr5.lt
        have f1 := rr5.frozen
        go_wp2_with fail
        clear c1 z1 f1
        obtain ⟨u9, hu9⟩ : ∃ u, (((((w5.setCell ⟨w.heap.size + 1, 0, none⟩ (.int .i64 D3.room)).setCell ⟨w.heap.size + 1, 1, none⟩ (.int .i64 D3.fails)).setCell ⟨w.heap.size + 1, 2, none⟩ (.int .i64 D3.wait)).setCell ⟨w.heap.size + 1, 3, none⟩ (.slice p5 n5 c5)).setCell ⟨w.heap.size + 1, 4, none⟩ (.slice q5 m5 e5)) = u := ⟨_, rfl⟩
        rw [hu9]
        have k9 := lay_own (cs := #[]) k5 (Nat.le_succ _) rr5 _ _ _ _ _ hu9
        have hf0 := DAtR.put5 HD5.out rr5 (.int .i64 D3.room) (.int .i64 D3.fails) (.int .i64 D3.wait) (.slice p5 n5 c5) (.slice q5 m5 e5)
        have e9 : lay5 w5 (w.heap.size + 1) (.int .i64 D3.room) (.int .i64 D3.fails) (.int .i64 D3.wait) (.slice p5 n5 c5) (.slice q5 m5 e5) = u9 := hu9
        rw [e9] at hf0
        have hfin : DAtR (BlobIn G u9) u9 (dV D3.room D3.fails D3.wait (.slice p5 n5 c5) (.slice q5 m5 e5)) D3 := hf0.map fun h => h.turn (fun g cur f _ ht => (by
          have hg := (Array.getElem?_eq_some_iff.1 ht).1
          have e1 := K25.out.block g hg
          rw [← e9, lay5_other _ _ _ _ _ _ _ (fun e => by
            subst e
            have h8 := rr5
            unfold RowAt at h8
            rw [e1, ht] at h8
            cases h8)]
          exact e1)) (fun g _ _ h _ => h)
        have cr := k9.2.cell
        exact bodyPost_ret (v := .tuple #[dV D3.room D3.fails D3.wait (.slice p5 n5 c5) (.slice q5 m5 e5), .int .i64 P3]) (by simp [results, Try.results35, go_sem, cr]) rfl ⟨_, rfl, hfin, k9.1⟩
      · rw [if_neg hz]
        have gz : (P2 != 0) = true := by simpa using hz
        have gz2 : (P2 == 0) = false := by simpa using hz
        clear hd ok hb okB e ho hw9 okr lnr hbad h0 h1 k0 k1 hsl v0 v1 i5 hLB hB hwr hG hwf hp okp hz
        go_enter Try.func35, Try.ntmps35
        go_upto_region 3 with (fail)
        obtain ⟨u0, hu⟩ : ∃ u, (w.alloc (.cells #[.int .i64 d.room, .int .i64 d.fails, .int .i64 d.wait, .slice ps ns cs, .slice pl nl cl] 39)).alloc (.cells #[.int .i64 0, .int .i64 0, .int .i64 0, .slice none 0 0, .slice none 0 0] 39) = u := ⟨_, rfl⟩
        rw [hu]
        have k00 : Below w.heap.size w u0 := by rw [← hu]; exact al (al (Below.refl _ _) _) _
        have rb0 : RowAt u0 w.heap.size #[.int .i64 d.room, .int .i64 d.fails, .int .i64 d.wait, .slice ps ns cs, .slice pl nl cl] 39 := by rw [← hu]; exact (RowAt.new w _ _).alloc _
        have rr0 : RowAt u0 (w.heap.size + 1) #[.int .i64 0, .int .i64 0, .int .i64 0, .slice none 0 0, .slice none 0 0] 39 := by rw [← hu]; exact RowAt.make _ _ _ (by simp)
        have c0 := rb0.cell
        have z0 := rb0.lt
        clear hu
        go_wp2_with fail
        (refine (HO.out _ k00).mono ?_; rintro e w1 ⟨x1, rfl, hx1, hb1⟩)
        have k1 := chain k00 hb1
        replace rb0 := rb0.keep hb1
        replace rr0 := rr0.keep hb1
        clear hx1 hb1 c0 z0 k00
        go_wp2_with fail
        (refine (HW9.out _ k1).mono ?_; rintro e w2 ⟨x2, rfl, hx2, hb2⟩)
        have k2 := chain k1 hb2
        have hx3 : BlobIn G w2 x2 (recF (ov + 1) B) := BlobIn.owned hx2 fun g hg => HGG.out g (Nat.le_trans k1.size (hx2.lt g hg).1)
        replace rb0 := rb0.keep hb2
        replace rr0 := rr0.keep hb2
        clear hx2 hb2 k1
        have c0 := rb0.cell
        have z0 := rb0.lt
        go_upto_region 8 with (fail)
        go_wp2_with fail
        (refine (HP.out _ k2 _ hx3).mono ?_; rintro e w3 ⟨x3, rfl, hd3, hb3⟩)
        obtain ⟨p3, n3, c3, q3, m3, e3, hv3⟩ := hd3.form
        subst hv3
        have k3 := chain k2 hb3
        replace rb0 := rb0.keep hb3
        replace rr0 := rr0.keep hb3
        have HD3 := Lib.hid hd3
        have HB3 := Lib.hid hb3
        clear hd3 hb3 hx3 c0 z0
        go_upto_region 9 with (fail)
        obtain ⟨u4, hu4⟩ : ∃ u, w3.alloc (.cells #[.int .i64 D2.room, .int .i64 D2.fails, .int .i64 D2.wait, .slice p3 n3 c3, .slice q3 m3 e3] 39) = u := ⟨_, rfl⟩
        rw [hu4]
        have k4 : Below w.heap.size w u4 := by rw [← hu4]; exact al k3 _
        have K34 := Lib.hid (show Below w3.heap.size w3 u4 by rw [← hu4]; exact al (Below.refl _ _) _)
        have rw4 : RowAt u4 w3.heap.size #[.int .i64 D2.room, .int .i64 D2.fails, .int .i64 D2.wait, .slice p3 n3 c3, .slice q3 m3 e3] 39 := by rw [← hu4]; exact RowAt.new w3 _ _
        have rr4 := rr0.keep K34.out
        clear hu4 rr0 rb0
        have K24 := Lib.hid (chain HB3.out K34.out)
        have c4 := rw4.cell
        have z4 := rw4.lt
        have c1 := rr4.cell
        have z1 := rr4.lt
        have f1 := rr4.frozen
        go_wp2_with fail
        clear c1 z1 f1 c4 z4
        obtain ⟨u9, hu9⟩ : ∃ u, (((((u4.setCell ⟨w.heap.size + 1, 0, none⟩ (.int .i64 D2.room)).setCell ⟨w.heap.size + 1, 1, none⟩ (.int .i64 D2.fails)).setCell ⟨w.heap.size + 1, 2, none⟩ (.int .i64 D2.wait)).setCell ⟨w.heap.size + 1, 3, none⟩ (.slice p3 n3 c3)).setCell ⟨w.heap.size + 1, 4, none⟩ (.slice q3 m3 e3)) = u := ⟨_, rfl⟩
        rw [hu9]
        have k9 := lay_own (cs := #[]) k4 (Nat.le_succ _) rr4 _ _ _ _ _ hu9
        have hf0 := DAtR.put5 (HD3.out.keep K34.out) rr4 (.int .i64 D2.room) (.int .i64 D2.fails) (.int .i64 D2.wait) (.slice p3 n3 c3) (.slice q3 m3 e3)
        have e9 : lay5 u4 (w.heap.size + 1) (.int .i64 D2.room) (.int .i64 D2.fails) (.int .i64 D2.wait) (.slice p3 n3 c3) (.slice q3 m3 e3) = u9 := hu9
        rw [e9] at hf0
        have hfin : DAtR (BlobIn G u9) u9 (dV D2.room D2.fails D2.wait (.slice p3 n3 c3) (.slice q3 m3 e3)) D2 := hf0.map fun h => h.turn (fun g cur f _ ht => (by
          have hg := (Array.getElem?_eq_some_iff.1 ht).1
          have e1 := K24.out.block g hg
          rw [← e9, lay5_other _ _ _ _ _ _ _ (fun e => by
            subst e
            have h8 := rr4
            unfold RowAt at h8
            rw [e1, ht] at h8
            cases h8)]
          exact e1)) (fun g _ _ h _ => h)
        have cr := k9.2.cell
        exact bodyPost_ret (v := .tuple #[dV D2.room D2.fails D2.wait (.slice p3 n3 c3) (.slice q3 m3 e3), .int .i64 P2]) (by simp [results, Try.results35, go_sem, cr]) rfl ⟨_, rfl, hfin, k9.1⟩
end Go.Proofs.Ythjekbbldejlpaa
/- A byte turned by another. No program. -/
set_option linter.unusedVariables false
namespace Go.Proofs.Ythjekbbldejlpaa
open Go Go.RowKit
theorem u8_xor {a b : Int} (ha : 0 ≤ a ∧ a ≤ 255) (hb : 0 ≤ b ∧ b ≤ 255) : (0 ≤ bits .xor .u8 a b ∧ bits .xor .u8 a b ≤ 255) ∧ (bits .xor .u8 a b = a ↔ b = 0) := by
  obtain ⟨A, rfl⟩ : ∃ A : Nat, a = A := ⟨a.toNat, by omega⟩
  obtain ⟨B, rfl⟩ : ∃ A : Nat, b = A := ⟨b.toNat, by omega⟩
  have hx : A ^^^ B < 2 ^ 8 := Nat.xor_lt_two_pow (by omega) (by omega)
  have e : bits .xor .u8 (A : Int) (B : Int) = ((A ^^^ B : Nat) : Int) := by
    show IntKind.u8.wrap ((BitVec.ofInt 8 (A : Int) ^^^ BitVec.ofInt 8 (B : Int)).toNat : Int) = _
    rw [BitVec.toNat_xor, show (BitVec.ofInt 8 (A : Int)).toNat = A by (rw [BitVec.toNat_ofInt]; show ((A : Int) % 256).toNat = A; omega), show (BitVec.ofInt 8 (B : Int)).toNat = B by (rw [BitVec.toNat_ofInt]; show ((B : Int) % 256).toNat = B; omega)]
    show ((A ^^^ B : Nat) : Int) % 256 = _
    omega
  rw [e]
  refine ⟨by omega, fun h => ?_, fun h => ?_⟩
  · have h1 : A ^^^ B = A := by omega
    have h2 : A ^^^ (A ^^^ B) = A ^^^ A := by rw [h1]
    rw [← Nat.xor_assoc, Nat.xor_self, Nat.zero_xor] at h2
    omega
  · have h1 : B = 0 := by omega
    rw [h1, Nat.xor_zero]
end Go.Proofs.Ythjekbbldejlpaa
/- The maths of layer 9: states that so many deeds have made; what is told of a crash. No program. -/
set_option linter.unusedVariables false
set_option linter.unusedSimpArgs false
namespace Go.Proofs.Ythjekbbldejlpaa
open Go Go.RowKit
/-- A byte of a slot, turned. -/
def spoilB (b : List Int) (at0 : Nat) (x : Int) : List Int := b.set at0 (bits .xor .u8 (b[at0]?.getD 0) x)
def spoilSt (d : St) (key at0 x : Int) : St × Bool :=
  if 0 ≤ at0 ∧ at0 < (gb d.all key).length then ((syncSt (putSt (failSt d 0) key (spoilB (gb d.all key) at0.toNat x)).1).1, true) else (d, false)
theorem spoilB_ok {b : List Int} (ok : bytOk b) {j : Nat} (hj : j < b.length) {x : Int} (hx : 0 ≤ x ∧ x ≤ 255) : bytOk (spoilB b j x) ∧ (spoilB b j x).length = b.length ∧ spoilB b j x = b.set j (bits .xor .u8 b[j] x) := by
  have e : b[j]?.getD 0 = b[j] := by simp [hj]
  unfold spoilB
  rw [e]
  exact ⟨set_ok ok j (u8_xor (ok _ (List.getElem_mem hj)) hx).1, by simp, rfl⟩
abbrev sm9 (x : Int × List Int) : Prop := 0 ≤ x.1 ∧ x.1 ≤ 2199023255553 ∧ x.2.length ≤ 29
/-- A state that i deeds may have made. -/
structure St9 (d : St) (i : Nat) : Prop where
  ok : StOk d i (29 * i)
  s : ∀ x ∈ d.safe, sm9 x
  u : ∀ x ∈ d.under, sm9 x
theorem St9.mono {d : St} {i i' : Nat} (h : St9 d i) (hi : i ≤ i') : St9 d i' := ⟨h.ok.mono hi (Nat.mul_le_mul_left _ hi), h.s, h.u⟩
theorem St9.all {d : St} {i : Nat} (h : St9 d i) : ∀ x ∈ d.all, sm9 x := fun x hx => (now_mem hx).elim (h.s x) (h.u x)
theorem St9.new {room : Int} (h : i64 room) : St9 (newSt room) 0 := ⟨StOk.new h, fun x hx => (by cases hx), fun x hx => (by cases hx)⟩
theorem St9.sync {d : St} {i : Nat} (h : St9 d i) : St9 (syncSt d).1 i := by
  refine ⟨h.ok.sync, ?_, ?_⟩
  · unfold syncSt
    split
    · exact h.s
    · exact h.all
  · unfold syncSt
    split
    · exact h.u
    · intro x hx; cases hx
theorem St9.fail {d : St} {i : Nat} (h : St9 d i) {k : Int} (hk : k ≤ 1048576) : St9 (failSt d k) i := ⟨h.ok.fail k hk, h.s, h.u⟩
theorem St9.crash {d : St} {i : Nat} (h : St9 d i) (k : Int) : St9 (crashSt d k).1 i :=
  ⟨h.ok.crash k, crash_all (p := sm9) (fun q B j hq => ⟨hq.1, hq.2.1, by simp only [List.length_take]; have := hq.2.2; simp only [] at this; omega⟩) h.s h.u, fun x hx => (by cases hx)⟩
theorem St9.put {d : St} {i : Nat} (h : St9 d i) {k : Int} {B : List Int} (hk : 0 ≤ k ∧ k ≤ 2199023255553) (hB : bytOk B) (hl : B.length ≤ 29) : St9 (putSt d k B).1 (i + 1) := by
  have h1 := h.ok.put (k := k) (B := B) ⟨by omega, by omega⟩ hB
  refine ⟨h1.mono (Nat.le_refl _) (by omega), ?_, ?_⟩
  · unfold putSt
    split
    · exact h.s
    · split <;> exact h.s
  · unfold putSt
    split
    · exact h.u
    · split
      · exact h.u
      · intro x hx
        rcases List.mem_append.1 hx with hx | hx
        · exact h.u x hx
        · obtain rfl := List.mem_singleton.1 hx
          exact ⟨hk.1, hk.2, hl⟩
theorem of9_slot (d : St) (k : Int) : (of9 d k).1 = 2 * k ∨ (of9 d k).1 = 2 * k + 1 := by
  unfold of9 ofP
  split
  · exact .inr rfl
  · split
    · exact .inl rfl
    · exact .inr rfl
theorem idB_iff (k : Int) : idB k = true ↔ 0 ≤ k ∧ k ≤ 1099511627776 := by simp [idB]
theorem St9.save {d : St} {i : Nat} (h : St9 d i) (k : Int) {B : List Int} (hB : bytOk B) (hl : B.length ≤ 20) : St9 (saveSt d k B).1 (i + 1) := by
  unfold saveSt
  split
  · rename_i hid
    have hid := (idB_iff k).1 hid
    split
    · rename_i hw
      have hp := h.put (k := 4 * k + 1 - (of9 d k).1) (B := recF ((of9 d k).2.1 + 1) B) (by rcases of9_slot d k with e | e <;> rw [e] <;> omega) (recF_ok hB) (by rw [recF_len]; omega)
      split
      · exact hp.sync
      · exact hp
    · exact h.mono (Nat.le_succ _)
  · exact h.mono (Nat.le_succ _)
theorem gb_mem {M : Blobs} {q : Int} (h : gb M q ≠ []) : (q, gb M q) ∈ M := by
  unfold gb at *
  cases e : getF M q with
  | none => rw [e] at h; exact absurd rfl h
  | some B => exact getF_in e
theorem St9.spoil {d : St} {i : Nat} (h : St9 d i) (key at0 : Int) {x : Int} (hx : 0 ≤ x ∧ x ≤ 255) : St9 (spoilSt d key at0 x).1 (i + 1) := by
  unfold spoilSt
  split
  · rename_i hin
    have hne : gb d.all key ≠ [] := fun e => by rw [e] at hin; simp at hin; omega
    have hm := gb_mem hne
    have h9 := h.all _ hm
    have hok := (h.ok.allmem _ hm).2
    obtain ⟨s1, s2, _⟩ := spoilB_ok hok (j := at0.toNat) (by show at0.toNat < (gb d.all key).length; omega) hx
    exact ((h.fail (k := 0) (by decide)).put ⟨h9.1, h9.2.1⟩ s1 (by rw [s2]; exact h9.2.2)).sync
  · exact h.mono (Nat.le_succ _)
/-- What is told of an id: its record is of no lesser version than t, and one of those, whole; what is under way of it, too. -/
structure Told (safe under : Blobs) (k : Int) (L : List (List Int)) (t : Int) : Prop where
  has : ∃ (v : Int) (B : List Int) (s : Bool) (Bs : List (List Int)), HasM safe k v B s ∧ ChainK k under v s Bs ∧ t ≤ v ∧ (0 < v → L[v.toNat - 1]? = some B) ∧ ∀ j, j < Bs.length → L[v.toNat + j]? = Bs[j]?
/-- What is there now. -/
theorem Told.now {d : St} {k : Int} {L : List (List Int)} {t : Int} (h : Told d.safe d.under k L t) (hs : Srt d.safe) :
    t ≤ (of9 d k).2.1 ∧ (of9 d k).2.1 ≤ L.length ∧ 0 ≤ (of9 d k).2.1 ∧ (0 < (of9 d k).2.1 → L[(of9 d k).2.1.toNat - 1]? = some (of9 d k).2.2) := by
  obtain ⟨v, B, s, Bs, h1, h2, h3, h4, h5⟩ := h.has
  obtain ⟨s', g1, _⟩ := chain_now h2 hs h1
  have hnn := HasP.nn h1
  have e : of9 d k = (2 * k + (if s' = true then 1 else 0), v + Bs.length, (B :: Bs)[Bs.length]?.getD []) := HasP.of g1 k
  rw [e]
  simp only
  have hb : 0 < v + (Bs.length : Int) → L[(v + (Bs.length : Int)).toNat - 1]? = some ((B :: Bs)[Bs.length]?.getD []) := fun hp => by
    rcases Nat.eq_zero_or_pos Bs.length with h0 | h0
    · rw [h0] at hp ⊢
      have := h4 (by omega)
      rw [show (v + ((0 : Nat) : Int)).toNat - 1 = v.toNat - 1 by omega]
      simpa using this
    · have h6 := h5 (Bs.length - 1) (by omega)
      rw [show (v + (Bs.length : Int)).toNat - 1 = v.toNat + (Bs.length - 1) by omega, h6]
      obtain ⟨c, hc⟩ : ∃ c, Bs.length = c + 1 := ⟨Bs.length - 1, by omega⟩
      have hlt : c < Bs.length := by omega
      rw [hc]
      simp [hlt]
  refine ⟨by omega, ?_, by omega, hb⟩
  by_cases hp : 0 < v + (Bs.length : Int)
  · have := hb hp
    have h7 := (List.getElem?_eq_some_iff.1 this).1
    omega
  · omega
/-- Nothing is under way: what is there is told. -/
theorem Told.tell {d : St} {k : Int} {L : List (List Int)} {t : Int} (h : Told d.safe d.under k L t) (hu : d.under = []) : Told d.safe d.under k L (of9 d k).2.1 := by
  obtain ⟨v, B, s, Bs, h1, h2, h3, h4, h5⟩ := h.has
  rw [hu] at h2 ⊢
  cases h2
  have e : of9 d k = (2 * k + (if s = true then 1 else 0), v, B) := by
    unfold of9 St.all
    rw [hu]
    exact HasP.of h1 k
  rw [e]
  exact ⟨v, B, s, [], h1, .nil _ _, Int.le_refl _, h4, fun j hj => by simp at hj⟩
theorem Told.crash {safe under : Blobs} {k : Int} {L : List (List Int)} {t : Int} (h : Told safe under k L t) (hs : Srt safe) (K : Nat) : Told (crashGo List.length cutB safe K under) [] k L t := by
  obtain ⟨v, B, s, Bs, h1, h2, h3, h4, h5⟩ := h.has
  obtain ⟨i, s', g1, g2⟩ := chain_crash h2 K hs h1
  have hnn := HasP.nn h1
  refine ⟨v + i, _, s', [], g2, .nil _ _, by omega, fun hp => ?_, fun j hj => by simp at hj⟩
  rcases Nat.eq_zero_or_pos i with h0 | h0
  · subst h0
    have := h4 (by omega)
    rw [show (v + ((0 : Nat) : Int)).toNat - 1 = v.toNat - 1 by omega]
    simpa using this
  · have h6 := h5 (i - 1) (by omega)
    rw [show (v + (i : Int)).toNat - 1 = v.toNat + (i - 1) by omega, h6]
    obtain ⟨c, hc⟩ : ∃ c, i = c + 1 := ⟨i - 1, by omega⟩
    subst hc
    have hlt : c < Bs.length := by omega
    simp [hlt]
theorem Told.sync {safe under : Blobs} {k : Int} {L : List (List Int)} {t : Int} (h : Told safe under k L t) (hs : Srt safe) : Told (nowF safe under) [] k L t := by
  have := h.crash hs (sumB under)
  rwa [crash_full _ _ _ (Nat.le_refl _)] at this
/-- Another id's record is put. -/
theorem Told.other {safe under : Blobs} {k : Int} {L : List (List Int)} {t : Int} (h : Told safe under k L t) {q : Int} {X : List Int} (h1 : q ≠ 2 * k) (h2 : q ≠ 2 * k + 1) : Told safe (under ++ [(q, X)]) k L t := by
  obtain ⟨v, B, s, Bs, g1, g2, g3, g4, g5⟩ := h.has
  exact ⟨v, B, s, Bs, g1, chain_more h1 h2 g2, g3, g4, g5⟩
/-- The id's next record is put. -/
theorem Told.put {d : St} {k : Int} {L : List (List Int)} {t : Int} (h : Told d.safe d.under k L t) (hs : Srt d.safe) {B : List Int} (hw : wr9 ((of9 d k).2.1 + 1) B = true) :
    Told d.safe (d.under ++ [(4 * k + 1 - (of9 d k).1, recF ((of9 d k).2.1 + 1) B)]) k (L.take (of9 d k).2.1.toNat ++ [B]) t := by
  obtain ⟨v, B0, s, Bs, h1, h2, h3, h4, h5⟩ := h.has
  obtain ⟨s', g1, g2⟩ := chain_now h2 hs h1
  have hnn := HasP.nn h1
  have hnow := h.now hs
  have e : of9 d k = (2 * k + (if s' = true then 1 else 0), v + Bs.length, (B0 :: Bs)[Bs.length]?.getD []) := HasP.of g1 k
  rw [e] at hw hnow ⊢
  simp only at hw hnow ⊢
  have g3 := g2 hw
  have hto : 4 * k + 1 - (2 * k + (if s' = true then 1 else 0)) = 2 * k + (if s' = true then 0 else 1) := by split <;> omega
  rw [hto]
  have hL : v.toNat + Bs.length ≤ L.length := by omega
  have hlt : (L.take (v + (Bs.length : Int)).toNat).length = v.toNat + Bs.length := by rw [List.length_take]; omega
  refine ⟨v, B0, s, Bs ++ [B], h1, g3, h3, fun hp => ?_, fun j hj => ?_⟩
  · rw [List.getElem?_append_left (by omega), List.getElem?_take_of_lt (by omega)]
    exact h4 hp
  · rw [List.length_append, List.length_singleton] at hj
    by_cases hjl : j < Bs.length
    · rw [List.getElem?_append_left (by omega), List.getElem?_take_of_lt (by omega), h5 j hjl, List.getElem?_append_left hjl]
    · have hj2 : j = Bs.length := by omega
      subst hj2
      rw [List.getElem?_append_right (by omega), hlt, List.getElem?_append_right (Nat.le_refl _)]
      simp
theorem Told.new (room k : Int) : Told (newSt room).safe (newSt room).under k [] 0 := by
  have h0 : readE [] ≠ 0 := by decide
  exact ⟨0, [], true, [], .none h0 h0, .nil _ _, Int.le_refl _, fun h => absurd h (by decide), fun j hj => by simp at hj⟩
end Go.Proofs.Ythjekbbldejlpaa
