/- The landed disk: Put. -/
import Derived.Test.YtkephcmjigfepaaB8F
set_option linter.unusedVariables false
set_option linter.unusedSimpArgs false
namespace Go.Proofs.Ytkephcmjigfepaa
open Go.ChangeShapes Go.WideShapes Go.ChangeAt Go.RowKit
set_option maxRecDepth 10000 in
set_option maxHeartbeats 8000000 in
theorem b8_put (w : World) (F : Foot) (p : Value) (d : St) (k : Int) (vb : Value) (B : List Int) (n m : Nat) (hA : DiskAt w F p d) (ok : StOk d n m) (hn : n ≤ 30000) (hm : m ≤ 50000000) (hk : i64 k) (hv : BytsAt w vb B) (okB : bytOk B) (hBl : B.length ≤ 1000000) :
    Calls Try.prog 17 #[p, .int .i64 k, vb] w fun e w' => ∃ F', e = .returned (.int .i64 (putSt d k B).2) ∧ DiskAt w' F' p (putSt d k B).1 ∧ Step F F' w w' := by
  obtain ⟨b, bl, bs, vw, RL, RS, RW, rfl, h⟩ := hA
  obtain ⟨i0, hi, hz, hsz, hby⟩ := put_info
  have hf := ok.fails
  have ok2 := ok.asked
  have srt : Srt d.all := ok.srt.now
  have sR : Srt RL := rel_srt h.rl srt
  have hlen := ok.len
  have hsum := ok.sum
  have hall : sumB d.all ≤ 50000000 := by
    have h1 := nowF_sum d.under d.safe
    unfold St.all; omega
  have hal : RL.length ≤ 30000 := by
    rw [h.rl.len]
    have h1 := all_len d
    omega
  have hwl : RW.length ≤ 30000 := by rw [h.ru.len]; omega
  have e1 := b8_failing w b _ _ _ _ _ d.fails d.wait ⟨hf.1, by omega⟩ h.row
  obtain ⟨pw, cw, hvw⟩ := own_form h.way
  have hfb := h.fb
  have hv1 : ∀ {w1 : World}, Wr (fun x => x = b) w w1 → BytsAt w1 vb B := fun hw => by
    have r := h.row
    rw [hvw] at r
    exact byts_turn hv r hw
  have hLD := fun (w1 : World) (r : RowAt w1 b _ _) (hw : Wr (fun x => x = b) w w1) => h.turn (d' := d.asked) hw r rfl rfl
  have hG : ∀ (w1 : World), Wr (fun x => x = b) w w1 → Step F F w w1 := fun w1 hw => DiskAt.step hw hfb
  have hsi := sumB_ins (k := k) (B := B) srt
  rw [← layF_ins _ srt] at hsi
  have hle := getF_le (k := k) (l := d.all)
  have hgl : ∃ q c, (getF RL k).getD (.slice none 0 0) = .slice q ((getF d.all k).getD []).length c := by
    rcases h.rl.get (k := k) with ⟨g1, g2⟩ | ⟨v, B', g1, g2, hB⟩
    · rw [g1, g2]; exact ⟨none, 0, rfl⟩
    · rw [g1, g2]
      obtain ⟨q, c, rfl⟩ := hB.1.shape
      exact ⟨q, c, rfl⟩
  obtain ⟨q, c, hgl⟩ := hgl
  obtain ⟨pb, cb, hvb⟩ := hv.shape
  unfold putSt
  unfold St.falls
  cases hfa : (askF d.fails d.wait).2
  · rw [hfa] at e1
    rw [if_neg (by simp)]
    obtain ⟨Z, hZ⟩ : ∃ Z, sumB (layF d.all (k, B)) = Z := ⟨_, rfl⟩
    obtain ⟨O, hO⟩ : ∃ Z, ((getF d.all k).getD []).length = Z := ⟨_, rfl⟩
    obtain ⟨A, hA⟩ : ∃ Z, sumB d.all = Z := ⟨_, rfl⟩
    obtain ⟨L, hL⟩ : ∃ Z, B.length = Z := ⟨_, rfl⟩
    rw [hZ, hO, hA, hL] at hsi
    rw [hO, hA] at hle
    rw [hO] at hgl
    rw [hL] at hvb hBl
    rw [hA] at hall e1 hLD
    rw [hZ]
    generalize hPR : (if d.room < (Z : Int) then (d.asked, (8 : Int)) else ({ d.asked with under := d.under ++ [(k, B)] }, 0)) = PR
    have HPR := Lib.hid hPR
    clear hPR
    have z1 : IntKind.i64.wrap ((A : Int) - (O : Int)) = (A : Int) - O := IntWalk.i64_in _ (by omega)
    have z2 : (A : Int) - (O : Int) + (L : Int) = (Z : Int) := by omega
    have z3 : IntKind.i64.wrap (Z : Int) = Z := IntWalk.i64_in _ (by omega)
    have z4 : IntKind.i64.wrap ((A : Int) - (O : Int) + (L : Int)) = (Z : Int) := by rw [z2]; exact z3
    have E1 := Lib.hid e1
    have LDH := Lib.hid hLD
    have OK2 := Lib.hid ok2
    have H := Lib.hid h
    have HG := Lib.hid hG
    have HV1 := Lib.hid (fun (w1 : World) (hw : Wr (fun x => x = b) w w1) => hv1 hw)
    have SR := Lib.hid sR
    have SRT := Lib.hid srt
    have HGL := Lib.hid hgl
    have HZ := Lib.hid hZ
    have HL := Lib.hid hL
    have HA := Lib.hid hA
    have HVW := Lib.hid hvw
    have HK := Lib.hid hk
    have OKB := Lib.hid okB
    subst hvb
    clear e1 hLD ok2 h hfa ok hG hv1 sR srt hgl hZ hO hA hL hv hle hsi okB hvw
    obtain ⟨hk0, hk1⟩ := hk
    go_enter Try.func17, Try.ntmps17
    go_wp2_with fail
    (refine (E1.out).mono ?_; rintro e w1 ⟨rfl, r1, k1⟩)
    have h1 := LDH.out w1 r1 k1
    have hv1 := HV1.out w1 k1
    have HV1' := Lib.hid hv1
    have ML1 := Lib.hid h1.ml
    have H1 := Lib.hid h1
    have K1 := Lib.hid k1
    have R1 := Lib.hid r1
    have zb := r1.lt
    have c0 : w1.cell? ⟨b, 0, none⟩ = some (.int .i64 d.room) := by rw [r1.cell]; rfl
    have c1 : w1.cell? ⟨b, 1, none⟩ = some (.map (some bl)) := by rw [r1.cell]; rfl
    have c2 : w1.cell? ⟨b, 2, none⟩ = some (.int .i64 (A : Int)) := by rw [r1.cell]; rfl
    clear r1 k1 h1 hv1
    go_wp2_with fail
    refine region_below 15 (by kernel_rfl) (by kernel_rfl) ?_
    simp only [List.take_succ_cons, List.take_zero, List.drop_succ_cons, List.drop_zero]
    repeat (first | (refine' InText.skip (by rfl) ?_; simp only [Act.put, List.setIfInBounds_toArray, List.set_cons_zero, List.set_cons_succ]) | (refine' InText.val (by rfl) (fun wr hr => exec_look _ _ rfl rfl rfl (ML1.out.keep hr) HK.out HGL.out) ?_; simp only [Act.put, List.setIfInBounds_toArray, List.set_cons_zero, List.set_cons_succ]) | (refine' InText.val (by rfl) (fun wr hr => ?_) ?_; rotate_left 1; (focus (obtain ⟨hrc, hrf⟩ := bcell hr; (go_simp <;> with_reducible rfl); done)); simp only [Act.put, List.setIfInBounds_toArray, List.set_cons_zero, List.set_cons_succ]))
    refine fun wrs hrs => ?_
    obtain ⟨hrcs, hrfs⟩ := bcell hrs
    have hS := H1.out.keep hrs
    have sS := (HG.out _ K1.out).trans (Step.of hrs)
    have rS := R1.out.keep hrs
    have HS := Lib.hid hS
    have SS := Lib.hid sS
    have RS1 := Lib.hid rS
    have hvS := HV1'.out.keep hrs
    have KS := Lib.hid (K1.out.below hrs)
    clear hrs hrcs hrfs c0 c1 c2 zb hS sS z1 z2 z3 z4
    have zb := rS.lt
    have c0 : wrs.cell? ⟨b, 0, none⟩ = some (.int .i64 d.room) := by rw [rS.cell]; rfl
    clear rS
    by_cases hgt : d.room < (Z : Int)
    · have g1 : decide (d.room < (Z : Int)) = true := by simpa using hgt
      have g2 : decide ((Z : Int) > d.room) = true := g1
      have e := HPR.out
      rw [if_pos hgt] at e
      have EP := Lib.hid e
      clear hgt hvS e
      go_wp2
      go_ret
      rw [← EP.out]
      exact ⟨F, rfl, ⟨b, bl, bs, vw, RL, RS, RW, rfl, HS.out⟩, SS.out⟩
    · have g1 : decide (d.room < (Z : Int)) = false := by simpa using hgt
      have g2 : decide ((Z : Int) > d.room) = false := g1
      have e := HPR.out
      rw [if_neg hgt] at e
      have EP := Lib.hid e
      clear hgt e
      have hc := b8_clone _ B wrs hvS (by rw [HL.out]; omega)
      have HC := Lib.hid hc
      clear hc hvS
      go_wp2_with fail
      (refine (HC.out).mono ?_; rintro e w2 ⟨v2, rfl, ho, hb2⟩)
      have KW2 := Lib.hid (KS.out.below hb2)
      have RW2 := Lib.hid (RS1.out.keep hb2)
      have ML2 := Lib.hid (HS.out.ml.keep hb2)
      have HO2 := Lib.hid ho
      have HB2 := Lib.hid hb2
      obtain ⟨p2, c2, hv2⟩ := own_form ho
      have HV2 := Lib.hid hv2
      clear ho hb2 hv2 c0 zb g1 g2
      have zb := RW2.out.lt
      have c1 : w2.cell? ⟨b, 1, none⟩ = some (.map (some bl)) := by rw [RW2.out.cell]; rfl
      have hbl : bl ≠ b := HS.out.nb.1
      go_upto_region 8 with (first
        | (refine wp_entry _ rfl _ _ rfl bl RL rfl ML2.out SR.out (by omega) k rfl HK.out ?_
           intro w3 v0 st hg3 hs3 hES
           obtain ⟨w4, hr4, hM4, hg4, hs4⟩ := hES v2 ⟨_, _, _, HV2.out⟩
           have hr4' : (Instr.entryStore 54 (.map (some bl)) (.int .i64 (st : Int)) v2).run Try.prog w3 = .ok () w4 := hr4
           have rw3 := (hg3.block b RW2.out.lt (fun e => hbl (by cases e; rfl))).trans RW2.out
           have RW4 := Lib.hid (((hg4.block b (RowAt.lt rw3) (fun e => hbl (by cases e; rfl))).trans rw3))
           have KW4 := Lib.hid (And.intro hg3 hg4)
           have ML4 := Lib.hid hM4
           have zb := RowAt.lt RW4.out
           have c2 : w4.cell? ⟨b, 2, none⟩ = some (.int .i64 (A : Int)) := by rw [RowAt.cell RW4.out]; rfl
           have f2 := RowAt.frozen RW4.out 2
           clear hr4 hM4 hg4 hs4 hg3 hs3 hES rw3)
        | fail)
      obtain ⟨u5, hu5⟩ : ∃ u, w4.setCell ⟨b, 2, none⟩ (.int .i64 (Z : Int)) = u := ⟨_, rfl⟩
      rw [hu5]
      have hw5 : Wr (fun x => x = b ∨ x = bl) w2 u5 := by
        rw [← hu5]
        exact (((Wr.refl _ _).grown KW4.out.1 (fun q e => by cases e; exact .inl (.inr rfl))).grown KW4.out.2 (fun q e => by cases e; exact .inl (.inr rfl))).put (.inl (.inl rfl)) 2 _
      have rw5 : RowAt u5 b #[.int .i64 d.room, .map (some bl), .int .i64 (Z : Int), .map (some bs), vw, .bool (decide (0 < d.asked.wait)), .int .i64 d.asked.fails] 57 := by rw [← hu5]; exact RowAt.set RW4.out 2 (.int .i64 (Z : Int))
      have ml5 : MapAt u5 bl (insF RL (k, v2)) := by rw [← hu5]; exact ML4.out.same (Below.heap_setCell w4 ⟨b, 2, none⟩ _ bl hbl)
      have h5 := HS.out.nb
      have way5 := hw5.own ((HS.out.keep HB2.out).way) (fun g hg e => by rcases e with e | e; exact h5.2.2.1 (by rw [hg, e]); exact h5.2.2.2.1 (by rw [hg, e]))
      have v25 : u5.ownsRow wrs.heap.size 5 1 v2 B.length (bytVs B) := hw5.own HO2.out (fun g hg e => by
        have h6 := (HO2.out.lt g hg).1
        have h7 := RS1.out.lt
        have h8 := HS.out.ml.lt
        rcases e with e | e <;> omega)
      obtain ⟨n1, n2, n3, n4, n5⟩ := h5
      have hwF : ∀ g, vw.ownBlock = some g → g < wrs.heap.size := fun g hg => HS.out.lt g (HS.out.fw g hg)
      have s5 : wrs.heap.size ≤ u5.heap.size := Nat.le_trans HB2.out.size hw5.size
      have bs5 := RS1.out.lt
      have bls5 := HS.out.ml.lt
      have KW5 := Lib.hid ((Wr.of (X := fun x => x = b ∨ x = bl) HB2.out).trans hw5)
      have RW5 := Lib.hid rw5
      have ML5 := Lib.hid ml5
      have V25 := Lib.hid v25
      have WAY5 := Lib.hid way5
      have N1 := Lib.hid n1
      have N3 := Lib.hid n3
      have N4 := Lib.hid n4
      have HWF := Lib.hid hwF
      have HWF2 := Lib.hid (fun g (hg : vw.ownBlock = some g) => HS.out.lt g (HS.out.fw g hg))
      clear hu5 hw5 rw5 ml5 way5 v25 hwF n1 n2 n3 n4 n5 c1 zb hr4' c2 f2
      have e2 := HV2.out
      rw [HL.out] at e2
      subst e2
      have zb := RW5.out.lt
      have c4 : u5.cell? ⟨b, 4, none⟩ = some vw := by rw [RW5.out.cell]; rfl
      go_wp2_with (first
        | (at_builtin
           refine app_raw_fresh _ rfl _ _ 55 rfl 0 73 i0 _ Try.underlying55 hi hz hsz hby rfl _ _ _ rfl (WAY5.out.alloc _) u5.heap.size (.int .i64 k) (.slice p2 L c2) rfl (by go_simp) (by go_simp) rfl rfl (by omega) (by omega) ?_
           intro v6 w6 ho6 hg6 hf6
           obtain ⟨p6, c6, rfl⟩ := own_form ho6
           have rw6 := (hg6.block b ((RW5.out.alloc _).lt) (fun e => N3.out e.symm)).trans (RW5.out.alloc _)
           have RW6 := Lib.hid rw6
           have HO6 := Lib.hid ho6
           have HG6 := Lib.hid hg6
           have HF6 := Lib.hid hf6
           clear c4 zb ho6 hg6 hf6
           have zb := RowAt.lt rw6
           have c4 : w6.cell? ⟨b, 4, none⟩ = some vw := by rw [RowAt.cell rw6]; rfl
           have f4 := RowAt.frozen rw6 4
           clear rw6)
        | go_in)
      go_ret
      rw [← EP.out]
      have su : (u5.alloc (Obj.cells #[.int .i64 k, .slice p2 L c2] 73)).heap.size = u5.heap.size + 1 := by simp
      have hg6 := HG6.out
      have hf6 := HF6.out
      have n6 : (Value.slice p6 (RW.length + 1) c6).ownBlock ≠ some b := by
        rcases hf6 with e | e
        · rw [e]; exact N3.out
        · rw [e, su]; intro e; cases e; omega
      have k6 : Wr (fun x => x = b ∨ vw.ownBlock = some x) u5 (w6.setCell ⟨b, 4, none⟩ (.slice p6 (RW.length + 1) c6)) := (((Wr.refl _ _).alloc _).grown hg6 (fun g e => .inl (.inr e))).put (.inl (.inl rfl)) 4 _
      have kw : Wr (fun x => x = b ∨ x = bl ∨ vw.ownBlock = some x) wrs (w6.setCell ⟨b, 4, none⟩ (.slice p6 (RW.length + 1) c6)) := (KW5.out.mono (fun x hx => hx.imp_right .inl)).trans (k6.mono (fun x hx => hx.imp_right .inr))
      have hv2 := k6.own V25.out (fun g hg e => by
        have h6 := (V25.out.lt g hg).1
        rcases e with e | e
        · omega
        · have := HWF.out g e; omega)
      rw [HL.out] at hv2
      have hO : (w6.setCell ⟨b, 4, none⟩ (.slice p6 (RW.length + 1) c6)).ownsRow 0 73 2 (.slice p6 (RW.length + 1) c6) (RW.length + 1) (rawVs RW ++ [.int .i64 k, .slice p2 L c2]) :=
        (Wr.put (X := fun x => x = b) (Wr.refl _ _) (.inl rfl) 4 _).own HO6.out (fun g hg e => n6 (by rw [hg, e]))
      have hml := ML5.out.same (k6.block bl ML5.out.lt (fun e => by
        rcases e with e | e
        · exact N1.out e
        · exact N4.out e))
      have hrow : RowAt (w6.setCell ⟨b, 4, none⟩ (.slice p6 (RW.length + 1) c6)) b #[.int .i64 d.asked.room, .map (some bl), .int .i64 (sumB (layF d.asked.all (k, B)) : Nat), .map (some bs), .slice p6 (RW.length + 1) c6, .bool (decide (0 < d.asked.wait)), .int .i64 d.asked.fails] 57 := by
        rw [show d.asked.all = d.all from rfl, HZ.out]
        exact RowAt.set RW6.out 4 (.slice p6 (RW.length + 1) c6)
      obtain ⟨F', hfin, hst⟩ := HS.out.putted (B := B) (k := k) (v2 := .slice p2 L c2) (v3 := .slice p6 (RW.length + 1) c6) SRT.out kw hrow hml hO (by rw [HL.out]; exact hv2) (by
        rcases hf6 with e | e
        · exact .inl e
        · refine .inr fun g hg => ?_
          rw [e, su] at hg
          cases hg
          omega)
      exact ⟨F', rfl, ⟨b, bl, bs, _, _, RS, _, rfl, hfin⟩, SS.out.trans hst⟩
  · rw [hfa] at e1
    rw [if_pos rfl]
    have E1 := Lib.hid e1
    have LDH := Lib.hid hLD
    have HG := Lib.hid hG
    clear e1 hLD ok2 h hfa ok hG hv1 sR srt hgl hv hle hsi okB hvw hvb hk
    go_enter Try.func17, Try.ntmps17
    go_wp2_with fail
    (refine (E1.out).mono ?_; rintro e w1 ⟨rfl, r1, k1⟩)
    have h1 := Lib.hid (LDH.out w1 r1 k1)
    have s1 := Lib.hid (HG.out w1 k1)
    clear r1 k1
    go_wp2
    go_ret
    exact ⟨F, rfl, ⟨b, bl, bs, vw, RL, RS, RW, rfl, h1.out⟩, s1.out⟩
end Go.Proofs.Ytkephcmjigfepaa
