/- Texts behind each other. -/
import Derived.Test.YthjekbbldejlpaaZ27
import Derived.Lib.MinMax
import Derived.Test.YthjekbbldejlpaaZ25
import Derived.Test.YthjekbbldejlpaaZ26
import Derived.Test.YthjekbbldejlpaaZ16
/- The landed disk: Put. -/
set_option linter.unusedVariables false
set_option linter.unusedSimpArgs false
namespace Go.Proofs.Ythjekbbldejlpaa
open Go.ChangeShapes Go.WideShapes Go.ChangeAt Go.RowKit
set_option maxRecDepth 10000 in
set_option maxHeartbeats 8000000 in
theorem b8_put (w : World) (F : Foot) (p : Value) (d : St) (k : Int) (vb : Value) (B : List Int) (n m : Nat) (hA : DiskAt w F p d) (ok : StOk d n m) (hn : n ≤ 30000) (hm : m ≤ 50000000) (hk : i64 k) (hv : BytsAt w vb B) (okB : bytOk B) (hBl : B.length ≤ 1000000) :
    Calls Try.prog 49 #[p, .int .i64 k, vb] w fun e w' => ∃ F', e = .returned (.int .i64 (putSt d k B).2) ∧ DiskAt w' F' p (putSt d k B).1 ∧ Step F F' w w' := by
  obtain ⟨b, bl, bs, vw, RL, RS, RW, rfl, h⟩ := hA
  obtain ⟨i0, hi, hz, hsz, hby⟩ := put_info
  have hf := ok.fails
  have ok2 := ok.asked
  have srt : Srt d.all := ok.srt.now
  have sR : Srt RL := rel_srt h.rl srt
  have hlen := ok.len
  have hsum := ok.sum
  have hall : sumB d.all ≤ 50000000 := by
    have h1 := nowF_sum d.under d.safe
    unfold St.all; omega
  have hal : RL.length ≤ 30000 := by
    rw [h.rl.len]
    have h1 := all_len d
    omega
  have hwl : RW.length ≤ 30000 := by rw [h.ru.len]; omega
  have e1 := b8_failing w b _ _ _ _ _ d.fails d.wait ⟨hf.1, by omega⟩ h.row
  obtain ⟨pw, cw, hvw⟩ := own_form h.way
  have hfb := h.fb
  have hv1 : ∀ {w1 : World}, Wr (fun x => x = b) w w1 → BytsAt w1 vb B := fun hw => by
    have r := h.row
    rw [hvw] at r
    exact byts_turn hv r hw
  have hLD := fun (w1 : World) (r : RowAt w1 b _ _) (hw : Wr (fun x => x = b) w w1) => h.turn (d' := d.asked) hw r rfl rfl
  have hG : ∀ (w1 : World), Wr (fun x => x = b) w w1 → Step F F w w1 := fun w1 hw => DiskAt.step hw hfb
  have hsi := sumB_ins (k := k) (B := B) srt
  rw [← layF_ins _ srt] at hsi
  have hle := getF_le (k := k) (l := d.all)
  have hgl : ∃ q c, (getF RL k).getD (.slice none 0 0) = .slice q ((getF d.all k).getD []).length c := by
    rcases h.rl.get (k := k) with ⟨g1, g2⟩ | ⟨v, B', g1, g2, hB⟩
    · rw [g1, g2]; exact ⟨none, 0, rfl⟩
    · rw [g1, g2]
      obtain ⟨q, c, rfl⟩ := hB.1.shape
      exact ⟨q, c, rfl⟩
  obtain ⟨q, c, hgl⟩ := hgl
  obtain ⟨pb, cb, hvb⟩ := hv.shape
  unfold putSt
  unfold St.falls
  cases hfa : (askF d.fails d.wait).2
  · rw [hfa] at e1
    rw [if_neg (by simp)]
    obtain ⟨Z, hZ⟩ : ∃ Z, sumB (layF d.all (k, B)) = Z := ⟨_, rfl⟩
    obtain ⟨O, hO⟩ : ∃ Z, ((getF d.all k).getD []).length = Z := ⟨_, rfl⟩
    obtain ⟨A, hA⟩ : ∃ Z, sumB d.all = Z := ⟨_, rfl⟩
    obtain ⟨L, hL⟩ : ∃ Z, B.length = Z := ⟨_, rfl⟩
    rw [hZ, hO, hA, hL] at hsi
    rw [hO, hA] at hle
    rw [hO] at hgl
    rw [hL] at hvb hBl
    rw [hA] at hall e1 hLD
    rw [hZ]
    generalize hPR : (if d.room < (Z : Int) then (d.asked, (8 : Int)) else ({ d.asked with under := d.under ++ [(k, B)] }, 0)) = PR
    have HPR := Lib.hid hPR
    clear hPR
    have z1 : IntKind.i64.wrap ((A : Int) - (O : Int)) = (A : Int) - O := IntWalk.i64_in _ (by omega)
    have z2 : (A : Int) - (O : Int) + (L : Int) = (Z : Int) := by omega
    have z3 : IntKind.i64.wrap (Z : Int) = Z := IntWalk.i64_in _ (by omega)
    have z4 : IntKind.i64.wrap ((A : Int) - (O : Int) + (L : Int)) = (Z : Int) := by rw [z2]; exact z3
    have E1 := Lib.hid e1
    have LDH := Lib.hid hLD
    have OK2 := Lib.hid ok2
    have H := Lib.hid h
    have HG := Lib.hid hG
    have HV1 := Lib.hid (fun (w1 : World) (hw : Wr (fun x => x = b) w w1) => hv1 hw)
    have SR := Lib.hid sR
    have SRT := Lib.hid srt
    have HGL := Lib.hid hgl
    have HZ := Lib.hid hZ
    have HL := Lib.hid hL
    have HA := Lib.hid hA
    have HVW := Lib.hid hvw
    have HK := Lib.hid hk
    have OKB := Lib.hid okB
    subst hvb
    clear e1 hLD ok2 h hfa ok hG hv1 sR srt hgl hZ hO hA hL hv hle hsi okB hvw
    obtain ⟨hk0, hk1⟩ := hk
    go_enter Try.func49, Try.ntmps49
    go_wp2_with fail
    (refine (E1.out).mono ?_; rintro e w1 ⟨rfl, r1, k1⟩)
    have h1 := LDH.out w1 r1 k1
    have hv1 := HV1.out w1 k1
    have HV1' := Lib.hid hv1
    have ML1 := Lib.hid h1.ml
    have H1 := Lib.hid h1
    have K1 := Lib.hid k1
    have R1 := Lib.hid r1
    have zb := r1.lt
    have c0 : w1.cell? ⟨b, 0, none⟩ = some (.int .i64 d.room) := by rw [r1.cell]; rfl
    have c1 : w1.cell? ⟨b, 1, none⟩ = some (.map (some bl)) := by rw [r1.cell]; rfl
    have c2 : w1.cell? ⟨b, 2, none⟩ = some (.int .i64 (A : Int)) := by rw [r1.cell]; rfl
    clear r1 k1 h1 hv1
    go_wp2_with fail
    refine region_below 15 (by kernel_rfl) (by kernel_rfl) ?_
    simp only [List.take_succ_cons, List.take_zero, List.drop_succ_cons, List.drop_zero]
    repeat (first | (refine' InText.skip (by rfl) ?_; simp only [Act.put, List.setIfInBounds_toArray, List.set_cons_zero, List.set_cons_succ]) | (refine' InText.val (by rfl) (fun wr hr => exec_look _ _ rfl rfl rfl (ML1.out.keep hr) HK.out HGL.out) ?_; simp only [Act.put, List.setIfInBounds_toArray, List.set_cons_zero, List.set_cons_succ]) | (refine' InText.val (by rfl) (fun wr hr => ?_) ?_; rotate_left 1; (focus (obtain ⟨hrc, hrf⟩ := bcell hr; (go_simp <;> with_reducible rfl); done)); simp only [Act.put, List.setIfInBounds_toArray, List.set_cons_zero, List.set_cons_succ]))
    refine fun wrs hrs => ?_
    obtain ⟨hrcs, hrfs⟩ := bcell hrs
    have hS := H1.out.keep hrs
    have sS := (HG.out _ K1.out).trans (Step.of hrs)
    have rS := R1.out.keep hrs
    have HS := Lib.hid hS
    have SS := Lib.hid sS
    have RS1 := Lib.hid rS
    have hvS := HV1'.out.keep hrs
    have KS := Lib.hid (K1.out.below hrs)
    clear hrs hrcs hrfs c0 c1 c2 zb hS sS z1 z2 z3 z4
    have zb := rS.lt
    have c0 : wrs.cell? ⟨b, 0, none⟩ = some (.int .i64 d.room) := by rw [rS.cell]; rfl
    clear rS
    by_cases hgt : d.room < (Z : Int)
    · have g1 : decide (d.room < (Z : Int)) = true := by simpa using hgt
      have g2 : decide ((Z : Int) > d.room) = true := g1
      have e := HPR.out
      rw [if_pos hgt] at e
      have EP := Lib.hid e
      clear hgt hvS e
      go_wp2
      go_ret
      rw [← EP.out]
      exact ⟨F, rfl, ⟨b, bl, bs, vw, RL, RS, RW, rfl, HS.out⟩, SS.out⟩
    · have g1 : decide (d.room < (Z : Int)) = false := by simpa using hgt
      have g2 : decide ((Z : Int) > d.room) = false := g1
      have e := HPR.out
      rw [if_neg hgt] at e
      have EP := Lib.hid e
      clear hgt e
      have hc := b8_clone _ B wrs hvS (by rw [HL.out]; omega)
      have HC := Lib.hid hc
      clear hc hvS
      go_wp2_with fail
      (refine (HC.out).mono ?_; rintro e w2 ⟨v2, rfl, ho, hb2⟩)
      have KW2 := Lib.hid (KS.out.below hb2)
      have RW2 := Lib.hid (RS1.out.keep hb2)
      have ML2 := Lib.hid (HS.out.ml.keep hb2)
      have HO2 := Lib.hid ho
      have HB2 := Lib.hid hb2
      obtain ⟨p2, c2, hv2⟩ := own_form ho
      have HV2 := Lib.hid hv2
      clear ho hb2 hv2 c0 zb g1 g2
      have zb := RW2.out.lt
      have c1 : w2.cell? ⟨b, 1, none⟩ = some (.map (some bl)) := by rw [RW2.out.cell]; rfl
      have hbl : bl ≠ b := HS.out.nb.1
      go_upto_region 8 with (first
        | (refine wp_entry _ rfl _ _ rfl bl RL rfl ML2.out SR.out (by omega) k rfl HK.out ?_
           intro w3 v0 st hg3 hs3 hES
           obtain ⟨w4, hr4, hM4, hg4, hs4⟩ := hES v2 ⟨_, _, _, HV2.out⟩
           have hr4' : (Instr.entryStore 86 (.map (some bl)) (.int .i64 (st : Int)) v2).run Try.prog w3 = .ok () w4 := hr4
           have rw3 := (hg3.block b RW2.out.lt (fun e => hbl (by cases e; rfl))).trans RW2.out
           have RW4 := Lib.hid (((hg4.block b (RowAt.lt rw3) (fun e => hbl (by cases e; rfl))).trans rw3))
           have KW4 := Lib.hid (And.intro hg3 hg4)
           have ML4 := Lib.hid hM4
           have zb := RowAt.lt RW4.out
           have c2 : w4.cell? ⟨b, 2, none⟩ = some (.int .i64 (A : Int)) := by rw [RowAt.cell RW4.out]; rfl
           have f2 := RowAt.frozen RW4.out 2
           clear hr4 hM4 hg4 hs4 hg3 hs3 hES rw3)
        | fail)
      obtain ⟨u5, hu5⟩ : ∃ u, w4.setCell ⟨b, 2, none⟩ (.int .i64 (Z : Int)) = u := ⟨_, rfl⟩
      rw [hu5]
      have hw5 : Wr (fun x => x = b ∨ x = bl) w2 u5 := by
        rw [← hu5]
        exact (((Wr.refl _ _).grown KW4.out.1 (fun q e => by cases e; exact .inl (.inr rfl))).grown KW4.out.2 (fun q e => by cases e; exact .inl (.inr rfl))).put (.inl (.inl rfl)) 2 _
      have rw5 : RowAt u5 b #[.int .i64 d.room, .map (some bl), .int .i64 (Z : Int), .map (some bs), vw, .bool (decide (0 < d.asked.wait)), .int .i64 d.asked.fails] 89 := by rw [← hu5]; exact RowAt.set RW4.out 2 (.int .i64 (Z : Int))
      have ml5 : MapAt u5 bl (insF RL (k, v2)) := by rw [← hu5]; exact ML4.out.same (Below.heap_setCell w4 ⟨b, 2, none⟩ _ bl hbl)
      have h5 := HS.out.nb
      have way5 := hw5.own ((HS.out.keep HB2.out).way) (fun g hg e => by rcases e with e | e; exact h5.2.2.1 (by rw [hg, e]); exact h5.2.2.2.1 (by rw [hg, e]))
      have v25 : u5.ownsRow wrs.heap.size 5 1 v2 B.length (bytVs B) := hw5.own HO2.out (fun g hg e => by
        have h6 := (HO2.out.lt g hg).1
        have h7 := RS1.out.lt
        have h8 := HS.out.ml.lt
        rcases e with e | e <;> omega)
      obtain ⟨n1, n2, n3, n4, n5⟩ := h5
      have hwF : ∀ g, vw.ownBlock = some g → g < wrs.heap.size := fun g hg => HS.out.lt g (HS.out.fw g hg)
      have s5 : wrs.heap.size ≤ u5.heap.size := Nat.le_trans HB2.out.size hw5.size
      have bs5 := RS1.out.lt
      have bls5 := HS.out.ml.lt
      have KW5 := Lib.hid ((Wr.of (X := fun x => x = b ∨ x = bl) HB2.out).trans hw5)
      have RW5 := Lib.hid rw5
      have ML5 := Lib.hid ml5
      have V25 := Lib.hid v25
      have WAY5 := Lib.hid way5
      have N1 := Lib.hid n1
      have N3 := Lib.hid n3
      have N4 := Lib.hid n4
      have HWF := Lib.hid hwF
      have HWF2 := Lib.hid (fun g (hg : vw.ownBlock = some g) => HS.out.lt g (HS.out.fw g hg))
      clear hu5 hw5 rw5 ml5 way5 v25 hwF n1 n2 n3 n4 n5 c1 zb hr4' c2 f2
      have e2 := HV2.out
      rw [HL.out] at e2
      subst e2
      have zb := RW5.out.lt
      have c4 : u5.cell? ⟨b, 4, none⟩ = some vw := by rw [RW5.out.cell]; rfl
      go_wp2_with (first
        | (at_builtin
           refine app_raw_fresh _ rfl _ _ 87 rfl 0 91 i0 _ Try.underlying87 hi hz hsz hby rfl _ _ _ rfl (WAY5.out.alloc _) u5.heap.size (.int .i64 k) (.slice p2 L c2) rfl (by go_simp) (by go_simp) rfl rfl (by omega) (by omega) ?_
           intro v6 w6 ho6 hg6 hf6
           obtain ⟨p6, c6, rfl⟩ := own_form ho6
           have rw6 := (hg6.block b ((RW5.out.alloc _).lt) (fun e => N3.out e.symm)).trans (RW5.out.alloc _)
           have RW6 := Lib.hid rw6
           have HO6 := Lib.hid ho6
           have HG6 := Lib.hid hg6
           have HF6 := Lib.hid hf6
           clear c4 zb ho6 hg6 hf6
           have zb := RowAt.lt rw6
           have c4 : w6.cell? ⟨b, 4, none⟩ = some vw := by rw [RowAt.cell rw6]; rfl
           have f4 := RowAt.frozen rw6 4
           clear rw6)
        | go_in)
      go_ret
      rw [← EP.out]
      have su : (u5.alloc (Obj.cells #[.int .i64 k, .slice p2 L c2] 91)).heap.size = u5.heap.size + 1 := by simp
      have hg6 := HG6.out
      have hf6 := HF6.out
      have n6 : (Value.slice p6 (RW.length + 1) c6).ownBlock ≠ some b := by
        rcases hf6 with e | e
        · rw [e]; exact N3.out
        · rw [e, su]; intro e; cases e; omega
      have k6 : Wr (fun x => x = b ∨ vw.ownBlock = some x) u5 (w6.setCell ⟨b, 4, none⟩ (.slice p6 (RW.length + 1) c6)) := (((Wr.refl _ _).alloc _).grown hg6 (fun g e => .inl (.inr e))).put (.inl (.inl rfl)) 4 _
      have kw : Wr (fun x => x = b ∨ x = bl ∨ vw.ownBlock = some x) wrs (w6.setCell ⟨b, 4, none⟩ (.slice p6 (RW.length + 1) c6)) := (KW5.out.mono (fun x hx => hx.imp_right .inl)).trans (k6.mono (fun x hx => hx.imp_right .inr))
      have hv2 := k6.own V25.out (fun g hg e => by
        have h6 := (V25.out.lt g hg).1
        rcases e with e | e
        · omega
        · have := HWF.out g e; omega)
      rw [HL.out] at hv2
      have hO : (w6.setCell ⟨b, 4, none⟩ (.slice p6 (RW.length + 1) c6)).ownsRow 0 91 2 (.slice p6 (RW.length + 1) c6) (RW.length + 1) (rawVs RW ++ [.int .i64 k, .slice p2 L c2]) :=
        (Wr.put (X := fun x => x = b) (Wr.refl _ _) (.inl rfl) 4 _).own HO6.out (fun g hg e => n6 (by rw [hg, e]))
      have hml := ML5.out.same (k6.block bl ML5.out.lt (fun e => by
        rcases e with e | e
        · exact N1.out e
        · exact N4.out e))
      have hrow : RowAt (w6.setCell ⟨b, 4, none⟩ (.slice p6 (RW.length + 1) c6)) b #[.int .i64 d.asked.room, .map (some bl), .int .i64 (sumB (layF d.asked.all (k, B)) : Nat), .map (some bs), .slice p6 (RW.length + 1) c6, .bool (decide (0 < d.asked.wait)), .int .i64 d.asked.fails] 89 := by
        rw [show d.asked.all = d.all from rfl, HZ.out]
        exact RowAt.set RW6.out 4 (.slice p6 (RW.length + 1) c6)
      obtain ⟨F', hfin, hst⟩ := HS.out.putted (B := B) (k := k) (v2 := .slice p2 L c2) (v3 := .slice p6 (RW.length + 1) c6) SRT.out kw hrow hml hO (by rw [HL.out]; exact hv2) (by
        rcases hf6 with e | e
        · exact .inl e
        · refine .inr fun g hg => ?_
          rw [e, su] at hg
          cases hg
          omega)
      exact ⟨F', rfl, ⟨b, bl, bs, _, _, RS, _, rfl, hfin⟩, SS.out.trans hst⟩
  · rw [hfa] at e1
    rw [if_pos rfl]
    have E1 := Lib.hid e1
    have LDH := Lib.hid hLD
    have HG := Lib.hid hG
    clear e1 hLD ok2 h hfa ok hG hv1 sR srt hgl hv hle hsi okB hvw hvb hk
    go_enter Try.func49, Try.ntmps49
    go_wp2_with fail
    (refine (E1.out).mono ?_; rintro e w1 ⟨rfl, r1, k1⟩)
    have h1 := Lib.hid (LDH.out w1 r1 k1)
    have s1 := Lib.hid (HG.out w1 k1)
    clear r1 k1
    go_wp2
    go_ret
    exact ⟨F, rfl, ⟨b, bl, bs, vw, RL, RS, RW, rfl, h1.out⟩, s1.out⟩
end Go.Proofs.Ythjekbbldejlpaa
/- The landed disk: Crash, the words. -/
set_option linter.unusedVariables false
set_option linter.unusedSimpArgs false
namespace Go.Proofs.Ythjekbbldejlpaa
open Go.ChangeShapes Go.WideShapes Go.ChangeAt Go.RowKit
theorem Wr.one {b : Nat} {w w' : World} (h : Wr (fun x => x = b) w w') : w.grownBy w' (some b) := ⟨h.os, h.tape, h.output, h.size, fun k hk hn => h.block k hk (fun e => hn (by rw [e]))⟩
theorem sub_len : ∀ (S L : List Raw), Srt S → Srt L → (∀ x ∈ L, x ∈ S) → L.length ≤ S.length
  | [], [], _, _, _ => Nat.le_refl _
  | [], x :: L, _, _, h => by have := h x (List.mem_cons_self ..); cases this
  | s :: S, [], _, _, _ => by simp
  | s :: S, x :: L, hs, hl, h => by
    obtain ⟨s1, s2⟩ := List.pairwise_cons.1 hs
    obtain ⟨l1, l2⟩ := List.pairwise_cons.1 hl
    rcases List.mem_cons.1 (h x (List.mem_cons_self ..)) with rfl | hx
    · have := sub_len S L s2 l2 fun y hy => by
        rcases List.mem_cons.1 (h y (List.mem_cons_of_mem _ hy)) with rfl | hy2
        · have := l1 y hy; omega
        · exact hy2
      simp only [List.length_cons]; omega
    · have := sub_len S (x :: L) s2 hl fun y hy => by
        rcases List.mem_cons.1 (h y hy) with rfl | hy2
        · have h1 := s1 x hx
          rcases List.mem_cons.1 hy with rfl | hy3
          · omega
          · have := l1 y hy3; omega
        · exact hy2
      simp only [List.length_cons] at this ⊢; omega
theorem at_get {R : List Raw} {x : Int} {v : Value} (h : ∀ z : DataW Value, (mapE R).atKey (.int .i64 x) z = .held v) : getF R x = some v := by
  have h1 := h (.held (.bool true))
  have h2 := h (.held (.bool false))
  rw [mapE_at] at h1 h2
  cases hg : getF R x with
  | none =>
    rw [hg] at h1 h2
    simp only [Option.getD_none, DataW.held.injEq] at h1 h2
    rw [← h1] at h2
    cases h2
  | some y =>
    rw [hg] at h1
    simp only [Option.getD_some, DataW.held.injEq] at h1
    rw [h1]
theorem agree_sub {L R : List Raw} {left : Lit → Bool} (hA : Go.Maps.Agree (mapE L) (mapE R) left) (hs : Srt L) : ∀ x ∈ L, x ∈ R := by
  rintro ⟨k, v⟩ hx
  have h1 := mem_getF hs hx
  have h2 : Go.Maps.has (mapE L) (.int .i64 k) = true := by rw [mapE_has, h1]; rfl
  have h3 := hA.1 (.int .i64 k)
  rw [h2] at h3
  have h4 : Go.Maps.has (mapE R) (.int .i64 k) = true := by
    cases h : Go.Maps.has (mapE R) (.int .i64 k)
    · rw [h] at h3; cases h3
    · rfl
  have h5 := hA.2 (.int .i64 k) (.held (.bool true)) h2
  rw [mapE_at, mapE_at, h1] at h5
  rw [mapE_has] at h4
  cases h6 : getF R k with
  | none => rw [h6] at h4; cases h4
  | some y =>
    rw [h6] at h5
    simp only [Option.getD_some, DataW.held.injEq] at h5
    exact getF_in (h6.trans (by rw [h5]))
theorem agree_none {L R : List Raw} {left : Lit → Bool} (hA : Go.Maps.Agree (mapE L) (mapE R) left) {x : Int} (h : left (.int .i64 x) = true) : getF L x = none := by
  have h3 := hA.1 (.int .i64 x)
  rw [h, mapE_has] at h3
  cases hg : getF L x with
  | none => rfl
  | some y =>
    rw [hg] at h3
    simp at h3
/-- One entry more. -/
theorem agree_more {L R : List Raw} {left : Lit → Bool} (hA : Go.Maps.Agree (mapE L) (mapE R) left) (hL : Srt L) (hR : Srt R) {x : Int} {v : Value} (hk : i64 x) (hl : left (.int .i64 x) = true) (hat : ∀ z : DataW Value, (mapE R).atKey (.int .i64 x) z = .held v) :
    Go.Maps.Agree (mapE (insF L (x, v))) (mapE R) (fun z => left z && !z.sameKey (.int .i64 x)) ∧ Srt (insF L (x, v)) ∧ lenR (insF L (x, v)) = lenR L + slLen v ∧ lenR (insF L (x, v)) ≤ lenR R ∧ L.length ≤ R.length ∧ (x, v) ∈ R := by
  have hA2 := Go.Maps.agree_step hA ⟨_, rfl⟩ (keyI.key (key_of hk)) hat
  rw [mapE_put hL] at hA2
  have hs := ins_srt (x, v) L hL
  exact ⟨hA2, hs, lenR_ins (agree_none hA hl), lenR_sub R _ hR hs (agree_sub hA2 hs), sub_len R L hR hL (agree_sub hA hL), getF_in (at_get hat)⟩
/-- What a crash leaves of a disk. -/
theorem LD.crashed {w w2 w' : World} {F : Foot} {b bl bs m : Nat} {vw : Value} {RL RS RW : List Raw} {d : St} {keep : Int} (h : LD w F b bl bs vw RL RS RW d) {cs : Array Value} (hW : WroteTo w w2 F b bl bs d.safe d.under cs keep.toNat)
    (hm : m = w2.heap.size) (R : List Raw) (hR : MapAt w2 bs R) (hw : Wr (fun x => x = b ∨ x = m) w2 w') (hM : MapAt w' m R)
    (row : RowAt w' b #[.int .i64 d.room, .map (some m), .int .i64 (lenR R : Nat), .map (some bs), .slice none 0 0, .bool false, .int .i64 0] 89) (srt : Srt d.safe) :
    ∃ F', LD w' F' b m bs (.slice none 0 0) R R [] (crashSt d keep).1 ∧ Step F F' w w' := by
  obtain ⟨R', G, row2, hM2, hR2, hw2, hG, hN⟩ := hW
  obtain ⟨n1, n2, n3, n4, n5⟩ := h.nb
  have eR : R' = R := mapE_inj (by
    obtain ⟨es, c, h1, _, _, h2⟩ := hM2
    obtain ⟨es', c', h1', _, _, h2'⟩ := hR
    rw [h1] at h1'
    cases h1'
    rw [h2, h2'])
  subst eR
  have hbs := hR.lt
  have hb2 := row2.lt
  have ec : crashGo List.length cutB d.safe (keptOf d keep) d.under = crashGo List.length cutB d.safe keep.toNat d.under := crash_min _ _ _
  have ea : (crashSt d keep).1.all = crashGo List.length cutB d.safe keep.toNat d.under := ec
  have es : (crashSt d keep).1.safe = crashGo List.length cutB d.safe keep.toNat d.under := ec
  have hrel : RelG (BlobIn (fun x => G x ∨ x = m) w') R' (crashGo List.length cutB d.safe keep.toNat d.under) := hR2.map fun hb => hb.wr hw (fun x c f hx e => by
    rcases hx with rfl | rfl
    · unfold RowAt at row2
      rw [e] at row2
      cases row2
    · rw [hm] at e
      have := (Array.getElem?_eq_some_iff.1 e).1
      omega) (fun x hx => .inl hx)
  have hsum : lenR R' = sumB (crashGo List.length cutB d.safe keep.toNat d.under) := hrel.sum
  have hall : Wr (fun x => x = b ∨ x = bs) w w' := ⟨hw.os.trans hw2.os, hw.tape.trans hw2.tape, hw.output.trans hw2.output, Nat.le_trans hw2.size hw.size, fun x hx hn => (hw.block x (Nat.lt_of_lt_of_le hx hw2.size) (fun e => by
    rcases e with e | e
    · exact hn (.inl e)
    · have := hw2.size; omega)).trans (hw2.block x hx hn), fun _ h => h.elim⟩
  have hsz := hw2.size
  refine ⟨fun x => G x ∨ x = m, h.make hall (fun x hx _ c t f ht => ?_) (by rw [ea, ← hsum]; exact row) hM (hR.same (hw.block bs hbs (fun e => by rcases e with e | e; exact n2 e; omega))) (World.ownsRow_nil _ _ _ _) (by rw [ea]; exact hrel) (by rw [es]; exact hrel) .nil
    (.inl (hG _ h.fb)) (.inr rfl) (.inl (hG _ h.fs)) (fun g hg => by cases hg) (by omega) (fun x hx => ?_), hall.step (fun x hx => ?_) (fun x hx => ?_)⟩
  · rcases hx with rfl | rfl
    · exact row_ty row ht
    · exact ((hR.same (hw.block x hbs (fun e => by rcases e with e | e; exact n2 e; omega))).nocells ht).elim
  · rcases hx with hx | rfl
    · rcases hN x hx with h1 | ⟨h1, h2, cur, f, h3⟩
      · exact .inl h1
      · have hbw := h.lt b h.fb
        have e := hw.block x h2 (fun e => by rcases e with e | e <;> omega)
        refine .inr ⟨h1, Nat.lt_of_lt_of_le h2 hw.size, fun c t f' ht => ?_⟩
        rw [e, h3] at ht
        cases ht
        exact notcalm (.inr (.inr rfl))
    · exact .inr ⟨by omega, hM.lt, fun c t f ht => (hM.nocells ht).elim⟩
  · rcases hx with rfl | rfl
    · exact h.fb
    · exact h.fs
  · rcases hx with hx | rfl
    · rcases hN x hx with h1 | h1
      · exact .inl h1
      · exact .inr h1.1
    · exact .inr (by omega)
end Go.Proofs.Ythjekbbldejlpaa
/- The landed disk: Crash. -/
set_option linter.unusedVariables false
set_option linter.unusedSimpArgs false
namespace Go.Proofs.Ythjekbbldejlpaa
open Go.ChangeShapes Go.WideShapes Go.ChangeAt Go.RowKit
def slMk (x : Option Addr × Nat × Nat) : Value := .slice x.1 x.2.1 x.2.2
set_option maxRecDepth 10000 in
set_option maxHeartbeats 8000000 in
theorem b8_crash (w : World) (F : Foot) (p : Value) (d : St) (keep : Int) (n m : Nat) (hA : DiskAt w F p d) (ok : StOk d n m) (hn : n ≤ 30000) (hm : m ≤ 50000000) (hk : i64 keep) :
    Calls Try.prog 39 #[p, .int .i64 keep] w fun e w' => ∃ F', e = .returned (.int .i64 (crashSt d keep).2) ∧ DiskAt w' F' p (crashSt d keep).1 ∧ Step F F' w w' := by
  obtain ⟨b, bl, bs, vw, RL, RS, RW, rfl, h⟩ := hA
  have hmm := @run_makeMap Try.prog
  obtain ⟨hk0, hk1⟩ := hk
  have hlen := ok.len
  have hsum := ok.sum
  have hL := b8_left w b _ _ _ _ _ _ _ RW h.row h.way (h.ru.ok ok.ru) (by have := h.ru.len; omega) (by have := h.lenW; omega)
  rw [h.lenW] at hL
  obtain ⟨K, hK⟩ : ∃ K : Nat, keep.toNat = K := ⟨_, rfl⟩
  have hmax : max keep 0 = (K : Int) := by omega
  obtain ⟨T, hT⟩ : ∃ T, sumB d.under = T := ⟨_, rfl⟩
  rw [hT] at hL hsum
  have g1 : IntKind.i64.wrap ((T : Int) - (K : Int)) = (T : Int) - K := IntWalk.i64_in _ (by omega)
  obtain ⟨Y, hY⟩ : ∃ Y, max ((T : Int) - (K : Int)) 0 = Y := ⟨_, rfl⟩
  have hres : (crashSt d keep).2 = Y := by
    unfold crashSt keptOf
    simp only []
    rw [hT, hK, ← hY]
    omega
  rw [hres]
  have hwr := fun (w1 : World) (hb : Below w.heap.size w w1) => b8_write w1 F b bl bs vw RL RS RW d n m (h.keep hb) ok hn hm K (by omega)
  have hcs : sumB (crashGo List.length cutB d.safe K d.under) ≤ 50000000 := by
    refine Nat.le_trans (crash_sum d.under d.safe K) ?_
    omega
  have hcl : (crashGo List.length cutB d.safe K d.under).length ≤ 30000 := by
    refine Nat.le_trans (crash_len d.under d.safe K) ?_
    omega
  have hcr : Srt (crashGo List.length cutB d.safe K d.under) := ok.srt.crash
  have hck : keysOk (crashGo List.length cutB d.safe K d.under) := fun x hx => (crash_all (p := fun x => i64 x.1 ∧ bytOk x.2) (fun q B j hq => ⟨hq.1, hq.2.take j⟩) ok.keyS ok.keyU x hx).1
  have srt := ok.srt
  have HL := Lib.hid hL
  have HW := Lib.hid hwr
  have H := Lib.hid h
  have HK := Lib.hid hK
  have HCS := Lib.hid hcs
  have HCL := Lib.hid hcl
  have HCR := Lib.hid hcr
  have HCK := Lib.hid hck
  have SRT := Lib.hid srt
  clear hL hwr hcs hcl hcr hck srt h ok hK hT hres hlen hsum
  go_enter Try.func39, Try.ntmps39
  go_wp2_with fail
  (refine (HL.out).mono ?_; rintro e w1 ⟨rfl, hb1⟩)
  have HB1 := Lib.hid hb1
  clear hb1
  go_wp2_with fail
  (refine (HW.out w1 HB1.out).mono ?_; rintro e w2 ⟨⟨v2, rfl⟩, hw2⟩)
  have HW2 := Lib.hid hw2
  obtain ⟨R, G, row2, hM2, hR2, kw2, hG, hN⟩ := hw2
  have hRs : Srt R := rel_srt hR2 HCR.out
  have hRl : lenR R ≤ 50000000 := by rw [hR2.sum]; exact HCS.out
  have hRn : R.length ≤ 30000 := by rw [hR2.len]; exact HCL.out
  have hRk := hR2.ok HCK.out
  have hbs := hM2.lt
  have hbb : bs ≠ b := by rintro rfl; exact hM2.nocells row2
  have HRS := Lib.hid hRs
  have HRK := Lib.hid hRk
  have HM2 := Lib.hid hM2
  have R2 := Lib.hid row2
  have zb := row2.lt
  have c1 : w2.cell? ⟨b, 1, none⟩ = some (.map (some bl)) := by rw [row2.cell]; rfl
  have c2 : w2.cell? ⟨b, 2, none⟩ = some (.int .i64 (sumB d.all : Nat)) := by rw [row2.cell]; rfl
  have f1 := row2.frozen 1
  have f2 := row2.frozen 2
  clear hR2 kw2 hG hN hRs hRk hM2 row2
  go_upto_region 5 with (fail)
  obtain ⟨m0, hm0⟩ : ∃ m, w2.heap.size = m := ⟨_, rfl⟩
  have HM0 := Lib.hid hm0
  obtain ⟨u3, hu3⟩ : ∃ u, (((w2.setCell ⟨b, 1, none⟩ (.map (some w2.heap.size))).setCell ⟨b, 2, none⟩ (.int .i64 0)).alloc (Obj.map #[] 0)) = u := ⟨_, rfl⟩
  rw [hu3]
  have s3 : u3.heap.size = m0 + 1 := by rw [← hu3, ← hm0]; simp
  have k3 : Wr (fun x => x = b ∨ x = m0) w2 u3 := by rw [← hu3]; exact (((Wr.refl _ _).put (.inl (.inl rfl)) 1 _).put (.inl (.inl rfl)) 2 _).alloc _
  have row3 : RowAt u3 b #[.int .i64 d.room, .map (some m0), .int .i64 (lenR [] : Nat), .map (some bs), .slice none 0 0, .bool (decide (0 < d.wait)), .int .i64 d.fails] 89 := by
    rw [← hu3, ← hm0]
    exact ((R2.out.set 1 (.map (some w2.heap.size))).set 2 (.int .i64 0)).alloc _
  have hM3 : MapAt u3 m0 [] := by
    have h1 := MapAt.new ((w2.setCell ⟨b, 1, none⟩ (.map (some w2.heap.size))).setCell ⟨b, 2, none⟩ (.int .i64 0))
    rw [hu3] at h1
    have e : ((w2.setCell ⟨b, 1, none⟩ (.map (some w2.heap.size))).setCell ⟨b, 2, none⟩ (.int .i64 0)).heap.size = m0 := by rw [← hm0]; simp
    rwa [e] at h1
  have hS3 : MapAt u3 bs R := HM2.out.same (k3.block bs hbs (fun e => by rcases e with e | e; exact hbb e; omega))
  rw [hm0]
  have hbm : bs ≠ m0 := by omega
  have hmb : m0 ≠ b := by omega
  have zb3 := row3.lt
  have e3 : u3.cell? ⟨b, 3, none⟩ = some (.map (some bs)) := by rw [row3.cell]; rfl
  have K3 := Lib.hid k3
  have R3 := Lib.hid row3
  have M3 := Lib.hid hM3
  have S3 := Lib.hid s3
  clear hu3 hm0 s3 k3 row3 hM3 hbs zb c1 c2 f1 f2
  go_wp2_with (first
    | (at_range
       refine wpList_range_own _ rfl _ 86 rfl 3 22 keyI Try.underlying86 slR bs R.length (mapE R) rfl hS3 ?_
       intro w4 hrg4 hg4 hs4)
    | go_in)
  go_frame
  have row4 := (hg4.block b R3.out.lt (by simp)).trans R3.out
  have hM4 : MapAt w4 m0 [] := M3.out.same (hg4.block m0 M3.out.lt (by simp))
  have K4 := Lib.hid (K3.out.grown hg4 (fun q e => by cases e))
  have hrb : b < u3.heap.size := zb3
  have hrm : m0 < u3.heap.size := M3.out.lt
  have S4 := Lib.hid hs4
  have ROW4 := Lib.hid row4
  clear hs4 hg4 e3 zb3 row4
  go_loopw [6, 7] (fun _ _ wr => ∃ left cnt L, wr.ranges Try.prog 3 slR bs u3.heap.size R.length (mapE R) left cnt ∧ MapAt wr m0 L ∧ Srt L ∧ Go.Maps.Agree (mapE L) (mapE R) left ∧
    RowAt wr b #[.int .i64 d.room, .map (some m0), .int .i64 (lenR L : Nat), .map (some bs), .slice none 0 0, .bool (decide (0 < d.wait)), .int .i64 d.fails] 89 ∧ Wr (fun x => x = b ∨ x = m0) w2 wr) (fun _ _ wr => wr.rangeLeft bs u3.heap.size)
  case atStart => exact ⟨_, _, [], hrg4, hM4, List.Pairwise.nil, Go.Maps.agree_start _, ROW4.out, K4.out⟩
  case round =>
    obtain ⟨left, cnt, L, hrg, hM, hL, hA, row, kw⟩ := hrel
    have HL' := Lib.hid hL
    have HA := Lib.hid hA
    have ROW := Lib.hid row
    have KW := Lib.hid kw
    have HM := Lib.hid hM
    clear hL hA row kw hM
    go_wp2_with (first
      | (at_next
         refine wpList_next_ranges _ rfl _ rfl 3 keyI slR (Value.int .i64) slMk (fun key kl hkey => by obtain ⟨x, hx, _⟩ := Maps.keyOf_int_inv Try.underlying3 hkey; exact ⟨x, hx⟩) (fun v y hv => by obtain ⟨⟨p, n, c, rfl⟩, _⟩ := slR_inv hv; exact ⟨(p, n, c), rfl⟩) bs u3.heap.size R.length _ _ _ rfl hrg ?_ ?_)
      | go_in)
    · intro hc0 hl0
      have hS : MapAt wr bs R := hrg.owns
      obtain rfl : L = R := agree_done HM.out hS HA.out hl0
      have hff := b8_fail wr b _ _ _ _ _ _ _ 0 (by constructor <;> omega) ROW.out
      have HF := Lib.hid hff
      clear hrg hS hl0 hff hc0
      go_wp2_with fail
      (refine (HF.out).mono ?_; rintro e w8 ⟨⟨v8, rfl⟩, r8, k8⟩)
      obtain ⟨F', hfin, hst⟩ := (H.out.keep HB1.out).crashed (keep := keep) (by rw [HK.out]; exact HW2.out) HM0.out.symm L HM2.out ((KW.out.trans (k8.mono fun x hx => .inl hx))) (HM.out.same (k8.block m0 HM.out.lt hmb)) r8 SRT.out
      have HFI := Lib.hid hfin
      have HST := Lib.hid hst
      clear r8 k8 hfin hst
      go_wp2
      go_ret
      exact ⟨F', rfl, ⟨b, m0, bs, _, _, _, _, rfl, HFI.out⟩, (Step.of HB1.out).trans HST.out⟩
    · intro x cp cn cc kl yd yp w5 cnt5 hkey hlk hy hat hrg5 hlt5 hg5 hs5 hen
      obtain ⟨x', ex, rfl, hwx⟩ := Maps.keyOf_int_inv Try.underlying3 hkey
      cases ex
      have hy2 : yd = .held (.slice cp cn cc) := by
        have h1 : slR (slMk (cp, cn, cc)) = some (yd, yp) := hy
        obtain ⟨_, h2⟩ := slR_inv h1
        exact (Prod.mk.inj h2).1
      have hat2 : ∀ z : DataW Value, (mapE R).atKey (.int .i64 x) z = .held (.slice cp cn cc) := fun z => by rw [hat z, hy2]
      have hxi := (HRK.out _ (getF_in (at_get hat2))).1
      obtain ⟨a1, a2, a3, a4, a5, a6⟩ := agree_more HA.out HL'.out HRS.out hxi hlk hat2
      have a3' : lenR (insF L (x, .slice cp cn cc)) = lenR L + cn := a3
      have hen' : (Instr.entry (.pointer (some ⟨u3.heap.size, 0, none⟩))).run Try.prog w5 = .ok (.tuple #[.int .i64 x, .slice cp cn cc]) w5 := hen
      have row5 := (hg5.block b ROW.out.lt (fun e => by cases e; omega)).trans ROW.out
      have hM5 : MapAt w5 m0 L := HM.out.same (hg5.block m0 HM.out.lt (fun e => by cases e; omega))
      have k5 : Wr (fun x => x = b ∨ x = m0) w2 w5 := KW.out.grown hg5 (fun q e => by cases e; right; have := S3.out; have := HM0.out; omega)
      have h9 : lenR L + cn ≤ 50000000 := by rw [← a3']; exact Nat.le_trans a4 hRl
      have wS : IntKind.i64.wrap (((lenR L : Nat) : Int) + (cn : Int)) = (lenR L : Nat) + cn := IntWalk.i64_in _ (by omega)
      have A1 := Lib.hid a1
      have A2 := Lib.hid a2
      have A3 := Lib.hid a3'
      have ROW5 := Lib.hid row5
      have HM5 := Lib.hid hM5
      have K5 := Lib.hid k5
      have RG := Lib.hid hrg
      have RG5 := Lib.hid hrg5
      have LT5 := Lib.hid hlt5
      have zb5 : b < w5.heap.size := RowAt.lt row5
      have e1 : w5.cell? ⟨b, 1, none⟩ = some (.map (some m0)) := by rw [RowAt.cell row5]; rfl
      obtain ⟨LL, hLL⟩ : ∃ q, lenR L = q := ⟨_, rfl⟩
      rw [hLL] at wS
      have HLL := Lib.hid hLL
      clear hkey hlk hy hat hg5 hs5 hen hy2 hat2 a1 a2 a3 a3' a4 a6 h9 row5 hM5 k5 hrg hrg5 hlt5 hwx hLL
      go_wp2_with (first
        | (at_mapUpdate
           refine wp_upd _ rfl _ _ _ rfl m0 L rfl HM5.out HL'.out (by omega) x rfl hxi (.slice cp cn cc) rfl ⟨_, _, _, rfl⟩ ?_
           intro w6 hM6 hg6 hs6
           have row6 := (hg6.block b (RowAt.lt ROW5.out) (fun e => hmb (by cases e; rfl))).trans ROW5.out
           have HM6 := Lib.hid hM6
           have HG6 := Lib.hid hg6
           have ROW6 := Lib.hid row6
           have zb6 : b < w6.heap.size := RowAt.lt row6
           have e2 : w6.cell? ⟨b, 2, none⟩ = some (.int .i64 (LL : Nat)) := by rw [RowAt.cell row6, HLL.out]; rfl
           have f2 := RowAt.frozen row6 2
           clear hM6 hg6 hs6 row6 zb5 e1 hen')
        | go_in)
      have ks : Wr (fun x => x = b) w6 (w6.setCell ⟨b, 2, none⟩ (.int .i64 ((LL : Nat) + (cn : Int)))) := wr_set _ _ _ _
      have rg7 := (RG5.out.kept HG6.out (fun e => hbm (by cases e; rfl)) (fun e => by cases e; omega)).kept ks.one (fun e => hbb (by cases e; rfl)) (fun e => by cases e; omega)
      go_roundw
      case rel =>
        refine ⟨_, cnt5, insF L (x, .slice cp cn cc), rg7, HM6.out.same (ks.block m0 HM6.out.lt hmb), A2.out, A1.out, ?_, ((K5.out.grown HG6.out (fun q e => by cases e; exact .inl (.inr rfl))).trans (ks.mono fun x hx => .inl hx))⟩
        rw [A3.out, HLL.out]
        exact RowAt.set ROW6.out 2 (.int .i64 ((LL : Nat) + (cn : Int)))
      case measure => rw [rg7.left_eq, RG.out.left_eq]; exact LT5.out
end Go.Proofs.Ythjekbbldejlpaa
/- The landed disk is what the laws of layer 8 ask. -/
set_option linter.unusedVariables false
set_option linter.unusedSimpArgs false
namespace Go.Proofs.Ythjekbbldejlpaa
open Go.ChangeShapes Go.WideShapes Go.ChangeAt Go.RowKit
def diskI : DiskI where
  At := DiskAt
  lt := fun ⟨_, _, _, _, _, _, _, _, h⟩ => h.lt
  ptr := fun ⟨_, _, _, _, _, _, _, e, _⟩ => ⟨_, e⟩
  same := fun ⟨b, bl, bs, vw, RL, RS, RW, e, h⟩ hs => ⟨b, bl, bs, vw, RL, RS, RW, e, h.same hs⟩
  types := fun ⟨_, _, _, _, _, _, _, _, h⟩ b c t f hF ht => h.ty b c t f hF ht
  new := fun room w hr => by have _ := 34; exact b8_new room w hr
  put := fun w F p d k vb B n m hA ok hn hm hk hv okB hB => by have _ := 49; exact b8_put w F p d k vb B n m hA ok hn hm hk hv okB hB
  sync := fun w F p d n m hA ok hn hm => by have _ := 37; exact b8_sync w F p d n m hA ok hn hm
  fail := fun w F p d k hA hk => by
    have _ := 33
    obtain ⟨b, bl, bs, vw, RL, RS, RW, rfl, h⟩ := hA
    refine (b8_fail w b _ _ _ _ _ _ _ k hk h.row).mono ?_
    rintro e w' ⟨⟨v, rfl⟩, r, kw⟩
    exact ⟨F, v, rfl, ⟨b, bl, bs, vw, RL, RS, RW, rfl, h.turn (d' := failSt d k) kw r rfl rfl⟩, DiskAt.step kw h.fb⟩
  crash := fun w F p d k n m hA ok hn hm hk => by have _ := 39; exact b8_crash w F p d k n m hA ok hn hm hk
  getO := fun w F p d k n m hA ok hn hm hk => by have _ := 50; exact b8_get w F p d k n m hA ok hn hm hk
  keys := fun w F p d n m hA ok hn hm => by have _ := 64; exact b8_keys w F p d n m hA ok hn hm
  left := fun w F p d n m hA ok hn hm => by
    have _ := 22
    obtain ⟨b, bl, bs, vw, RL, RS, RW, rfl, h⟩ := hA
    have h1 := h.lenW
    have h2 := h.ru.len
    have h3 := ok.len
    have h4 := ok.sum
    rw [← h1]
    exact b8_left w b _ _ _ _ _ _ _ RW h.row h.way (h.ru.ok ok.ru) (by omega) (by omega)
end Go.Proofs.Ythjekbbldejlpaa
/- The landed store is what the laws of layer 9 ask. -/
set_option linter.unusedVariables false
set_option linter.unusedSimpArgs false
namespace Go.Proofs.Ythjekbbldejlpaa
open Go.ChangeShapes Go.WideShapes Go.ChangeAt Go.RowKit
def storeI : StoreI where
  At := StoreAt diskI
  lt := fun h => h.lt
  ptr := fun ⟨b, _, _, e, _⟩ => ⟨b, e⟩
  same := fun h hs => h.same hs
  types := fun h b c t f hF ht => h.types b c t f hF ht
  new := fun room w hr => b9_new diskI room w hr
  save := fun w F p d k vb B i hA h9 hi hk hb okB hl => b9_save diskI w F p d k vb B i hA h9 hi hk hb okB hl
  load := fun w F p d k i hA h9 hi hk => b9_load diskI w F p d k i hA h9 hi hk
  spoil := fun w F p d k at0 x i hA h9 hi hk ha hx => b9_spoil diskI w F p d k at0 x i hA h9 hi hk ha hx
  ids := fun w F p d i hA h9 hi => by have _ := 44; exact b9_ids diskI w F p d i hA h9 hi
  write := fun w ver vb B hv hb okB hl => by
    have _ := 10
    refine (b9_write ver vb B w hv hb okB (.inl hl)).mono ?_
    rintro e w' ⟨v', rfl, ho, hb⟩
    exact ⟨v', rfl, byts_of_owned ho, hb⟩
  read := fun w vb l hb ok hl => by
    have _ := 14
    refine (b9_readN vb l w hb ok hl).mono ?_
    rintro e w' ⟨v', rfl, hn, hb⟩
    exact ⟨v', rfl, hn.1, hb⟩
  disk := fun ⟨b, q, G, e, r, hD, _, _⟩ => by
    obtain ⟨a, rfl⟩ := diskI.ptr hD
    exact ⟨b, a, e, r.lt, r.one⟩
  sync := fun w F b q d i hA hq h9 hi => by
    have _ := 37
    obtain ⟨b', q', G, e, r, hD, nb, rfl⟩ := hA
    cases e
    obtain rfl : q' = q := Option.some.inj (r.one.symm.trans hq)
    refine (diskI.sync w G q' d i (29 * i) hD h9.ok (by omega) (by omega)).mono ?_
    rintro e w' ⟨G', rfl, hA', hs⟩
    obtain ⟨h1, h2, _, _⟩ := StoreAt.deed r nb hA' hs
    exact ⟨_, rfl, h1, h2⟩
  fail := fun w F b q d k hA hq hk => by
    have _ := 33
    obtain ⟨b', q', G, e, r, hD, nb, rfl⟩ := hA
    cases e
    obtain rfl : q' = q := Option.some.inj (r.one.symm.trans hq)
    refine (diskI.fail w G q' d k hD hk).mono ?_
    rintro e w' ⟨G', v, rfl, hA', hs⟩
    obtain ⟨h1, h2, _, _⟩ := StoreAt.deed r nb hA' hs
    exact ⟨_, v, rfl, h1, h2⟩
  crash := fun w F b q d k i hA hq h9 hi hk => by
    have _ := 39
    obtain ⟨b', q', G, e, r, hD, nb, rfl⟩ := hA
    cases e
    obtain rfl : q' = q := Option.some.inj (r.one.symm.trans hq)
    refine (diskI.crash w G q' d k i (29 * i) hD h9.ok (by omega) (by omega) hk).mono ?_
    rintro e w' ⟨G', rfl, hA', hs⟩
    obtain ⟨h1, h2, _, _⟩ := StoreAt.deed r nb hA' hs
    exact ⟨_, rfl, h1, h2⟩
  left := fun w F b q d i hA hq h9 hi => by
    have _ := 22
    obtain ⟨b', q', G, e, r, hD, nb, rfl⟩ := hA
    cases e
    obtain rfl : q' = q := Option.some.inj (r.one.symm.trans hq)
    exact diskI.left w G q' d i (29 * i) hD h9.ok (by omega) (by omega)
end Go.Proofs.Ythjekbbldejlpaa
