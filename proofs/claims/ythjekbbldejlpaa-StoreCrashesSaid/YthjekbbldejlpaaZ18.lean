/- Texts behind each other. -/
import Derived.Test.YthjekbbldejlpaaZ16
import Derived.Test.YthjekbbldejlpaaZ17
import Derived.Laws.OwnMore
import Derived.OwnWalk
/- StoreVersions, over what is asked of a store. -/
set_option linter.unusedVariables false
set_option linter.unusedSimpArgs false
namespace Go.Proofs.Ythjekbbldejlpaa
open Go.ChangeShapes Go.WideShapes Go.ChangeAt Go.RowKit
theorem made_bytes (n : Nat) : (madeCells #[Value.int .u8 0] (n * 1)).toList = bytVs (List.replicate n 0) := by
  apply List.ext_getElem?
  intro j
  by_cases hj : j < n
  · simp [madeCells, bytVs, hj, Nat.mod_one]
  · simp [madeCells, bytVs, hj]
theorem zeros_ok (n : Nat) : bytOk (List.replicate n 0) := fun x hx => by
  have := List.eq_of_mem_replicate hx
  omega
set_option maxRecDepth 10000 in
set_option maxHeartbeats 16000000 in
theorem storeVersions_core (I : StoreI) (w : World) (v : Value) (id : Int) (hd : RowsBIn w v) (hid : i64 id) :
    Calls Try.prog 7 #[v, .int .i64 id] w fun e w' => e = .returned (.bool true) ∧ Below w.heap.size w w' := by
  obtain ⟨i0, hi, hz, hsz, hby⟩ := byte_info
  obtain ⟨l, hl, hok, hlen⟩ := hd
  obtain ⟨p, cap, rfl, hf⟩ := hl.form
  obtain ⟨N, hN⟩ : ∃ N, l.length = N := ⟨_, rfl⟩
  have HF := Lib.hid hf
  have HN := Lib.hid hN
  have OK := Lib.hid hok
  have HID := Lib.hid hid
  unfold maxLen at hlen
  rw [hN] at hlen ⊢
  obtain ⟨q0, q1⟩ := hid
  have s0 : St9 (newSt 100000) 0 := St9.new ⟨by decide, by decide⟩
  have NEW := Lib.hid (fun u => I.new 100000 u ⟨by decide, by decide⟩)
  have i1 : i64 1 := ⟨by decide, by decide⟩
  obtain ⟨Z, hZ⟩ : ∃ Z : List Int, List.replicate 65537 0 = Z := ⟨_, rfl⟩
  have hZl : Z.length = 65537 := by rw [← hZ, List.length_replicate]
  have okZ : bytOk Z := hZ ▸ zeros_ok 65537
  have hmd : (madeCells #[Value.int .u8 0] (65537 * 1)).toList = bytVs Z := by rw [← hZ]; exact made_bytes 65537
  have SZ := Lib.hid (fun u F p y d i (hA : I.At u F p d) (h9 : St9 d i) (hi : i ≤ 300) (hb : BytsAt u y Z) => by
    have h := I.save u F p d 1 y Z i hA h9 hi i1 hb okZ (.inr (by omega))
    rw [save_long (by omega)] at h
    exact h)
  have HMD := Lib.hid hmd
  have HZL := Lib.hid hZl
  clear hf hN hok hl hZ hZl okZ hmd
  obtain ⟨may, hmay⟩ : ∃ m, idB id = m := ⟨_, rfl⟩
  have HMAY := Lib.hid hmay
  have rel0 : if may = true then VerAt id 0 [] (newSt 100000) else True := by
    split
    · exact VerAt.new id
    · trivial
  have REL0 := Lib.hid rel0
  have S0 := Lib.hid s0
  have gm : (decide (0 ≤ id) && decide (id ≤ 1099511627776)) = may := hmay
  have GM := Lib.hid gm
  clear rel0 s0 hmay gm
  go_enter Try.func7, Try.ntmps7
  go_wp2_with fail
  refine (NEW.out w).mono ?_
  rintro e w1 ⟨pd, F1, rfl, hA1, hF1, k1⟩
  obtain ⟨b, rfl⟩ := I.ptr hA1
  obtain ⟨st0, hst0⟩ : ∃ s, newSt 100000 = s := ⟨_, rfl⟩
  have s0' := S0.out
  have r0' := REL0.out
  rw [hst0] at hA1 s0' r0'
  clear hst0
  have R0 := Lib.hid r0'
  have S00 := Lib.hid s0'
  clear r0' s0'
  by_cases c1 : 0 ≤ id
  · have g1 : decide (0 ≤ id) = true := by simpa using c1
    have g1' : decide (id ≥ 0) = true := g1
    by_cases c2 : id ≤ 1099511627776
    · have g2 : decide (id ≤ 1099511627776) = true := by simpa using c2
      have hm : may = true := by rw [← GM.out, g1, g2]; rfl
      clear c1 c2 q0 q1
      go_upto_region 5 with (fail)
      have HB : idB id = true := by rw [HMAY.out, hm]
      have r0 := R0.out
      rw [if_pos hm] at r0
      have RR := Lib.hid r0
      have HBI := Lib.hid HB
      have B1 := Lib.hid k1
      have A1 := Lib.hid hA1
      have F1h := Lib.hid hF1
      clear HB hm k1 hA1 hF1 r0
      go_wp2_with fail
      go_loopw [7, 8, 9, 10, 11, 12] (fun i _ _ _ _ _ wr => ∃ (j : Nat) (F : Foot) (st : St) (Bp : List Int), j ≤ N ∧ j ≤ 10 ∧ i = .int .i64 j ∧ Below w.heap.size w wr ∧ I.At wr F (.pointer (some ⟨b, 0, none⟩)) st ∧ (∀ b, F b → w.heap.size ≤ b) ∧ St9 st j ∧ VerAt id j Bp st) (fun i _ _ _ _ _ _ => N - (intOf i).toNat)
      case atStart => exact ⟨0, F1, st0, [], by omega, by omega, rfl, B1.out, A1.out, F1h.out, S00.out, RR.out⟩
      case round =>
      obtain ⟨j, F, st, Bp, hj, hj10, rfl, kw, hA, hF, h9, hver⟩ := hrel
      by_cases hlt : j < N ∧ j < 10
      · obtain ⟨hlt, h10⟩ := hlt
        obtain ⟨g, off, rfl, hc, hg, hx⟩ := HF.out (by rw [HN.out]; omega)
        rw [HN.out] at hc
        have hjl : j < l.length := by rw [HN.out]; exact hlt
        have x0 := hx j hjl
        obtain ⟨o4, o5, o6⟩ := OK.out j hjl
        obtain ⟨⟨vb, B0⟩, hxe⟩ : ∃ x, l[j] = x := ⟨_, rfl⟩
        rw [hxe] at x0 o4 o5 o6
        simp only [] at x0 o4 o5 o6
        obtain ⟨pb, cb, rfl⟩ := o4.shape
        have bj : (j : Int) < N := by omega
        have bj2 : (j : Int) < 10 := by omega
        have few := fun u (hu : BytsAt u (.slice pb B0.length cb) B0) => r8_few (.slice pb B0.length cb) B0 20 u hu o6 (by omega)
        have hb1 := byts_cut o4 (Nat.min_le_left B0.length 20)
        obtain ⟨B, hB⟩ : ∃ B, B0.take (min B0.length 20) = B := ⟨_, rfl⟩
        have oB : bytOk B := by rw [← hB]; exact o5.take _
        have lB : B.length = min B0.length 20 := by rw [← hB, List.length_take]; omega
        rw [hB] at hb1
        obtain ⟨mB, hmB⟩ : ∃ n, min B0.length 20 = n := ⟨_, rfl⟩
        rw [hmB] at lB hb1 few
        simp only [slCut] at few hb1
        have bB : mB ≤ 20 := by omega
        obtain ⟨L, hL⟩ : ∃ x, B0.length = x := ⟨_, rfl⟩
        rw [hL] at few x0 o4
        have FEW := Lib.hid few
        have HB1 := Lib.hid hb1
        have O4 := Lib.hid o4
        have OB := Lib.hid oB
        have LB := Lib.hid lB
        have zg : g < wr.heap.size := Nat.lt_of_lt_of_le hg kw.size
        have d0 := keepc kw hg x0
        clear hx x0 o4 o5 o6 few hb1 hB hmB hL hxe hjl oB lB hg
        obtain ⟨st', e1, hver', e2⟩ := hver.save HBI.out (by omega) (B' := B) (by rw [LB.out]; exact bB)
        have SV := Lib.hid (fun u y (hA : I.At u F (.pointer (some ⟨b, 0, none⟩)) st) (hb : BytsAt u y B) => I.save u F _ st id y B j hA h9 (by omega) HID.out hb OB.out (.inl (by rw [LB.out]; exact bB)))
        have h9' := h9.save id OB.out (by rw [LB.out]; exact bB)
        rw [e1] at SV h9'
        have H9' := Lib.hid h9'
        have HV' := Lib.hid hver'
        have E2 := Lib.hid e2
        have SAB := Lib.hid (fun u y z (h1 : BytsAt u y B) (h2 : BytsAt u z B) => r6_same y z B B u h1 h2 OB.out OB.out)
        have iw : IntKind.i64.wrap ((j : Int) + 1) = (j : Int) + 1 := IntWalk.i64_in _ (by omega)
        clear e1 hver hver' e2 h9' h9
        go_wp2_with fail
        refine (FEW.out wr (O4.out.keep kw)).mono ?_
        rintro e w2 ⟨rfl, hb2⟩
        have k2 := chain kw hb2
        have hA2 := I.keep hA hb2
        clear hb2 hA kw d0 zg
        go_wp2_with fail
        refine (SV.out w2 _ hA2 (HB1.out.keep k2)).mono ?_
        rintro e w3 ⟨F3, rfl, hA3, hs3⟩
        have hF3 := hs3.low hF k2.size
        have k3 := k2.trans (hs3.below hF k2.size)
        clear hA2 hs3 k2
        have ld := I.load w3 F3 _ st' id (j + 1) hA3 H9'.out (by omega) HID.out
        rw [E2.out] at ld
        have LD := Lib.hid ld
        clear ld
        go_wp2_with fail
        refine LD.out.mono ?_
        rintro e w4 ⟨vl, rfl, hn4, hb4⟩
        have hA4 := I.keep hA3 hb4
        have k4 := chain k3 hb4
        have hv4 := hn4.1
        clear hn4 hb4 hA3 k3
        go_wp2_with fail
        refine (SAB.out _ _ _ hv4 (HB1.out.keep k4)).mono ?_
        rintro e w5 ⟨rfl, hb5⟩
        have FIN := Lib.hid (And.intro (chain k4 hb5) (And.intro (I.keep hA4 hb5) hF3))
        clear hv4 hb5 hA4 k4 hF3
        go_wp2_with fail
        go_roundw
        case rel => exact ⟨j + 1, F3, st', B, by omega, by omega, by go_num, FIN.out.1, FIN.out.2.1, FIN.out.2.2, H9'.out, HV'.out⟩
        case measure => simp [intOf]; omega
      · have hstop : ¬ (j < N ∧ j < 10) := hlt
        have STOP := Lib.hid hstop
        have KW := Lib.hid kw
        have ST9 := Lib.hid h9
        have HFF := Lib.hid hF
        have H10 := Lib.hid hj10
        clear hlt hstop
        by_cases hn : j < N
        · have j10 : j = 10 := by have := STOP.out; have := H10.out; omega
          subst j10
          have b1 : (10 : Int) < N := by omega
          clear hn
          go_wp2_with (first
          | (at_make
             refine wpList_make_full _ rfl _ _ 22 rfl wr.heap.size 5 i0 (.int .u8 0) 1 Try.underlying22 hi hz hsz _ _ _ _ 65537 rfl rfl rfl rfl (by rw [hby]; omega) (by decide) (Nat.le_refl _) ?_
             intro u9 hu9 hg9)
          | fail)
          have k9 : Below wr.heap.size wr u9 := ⟨hg9.os, hg9.tape, hg9.output, hg9.size, fun x hx => hg9.block x hx (by simp)⟩
          have hz9 : BytsAt u9 (.slice (some ⟨wr.heap.size, 0, none⟩) 65537 65537) Z := by
            have h := hu9
            rw [show (Value.int IntKind.u8 0).cells = #[Value.int .u8 0] from rfl, HMD.out] at h
            exact byts_of_owned (base := wr.heap.size) (e := 5) (by rw [HZL.out]; exact h)
          refine (SZ.out u9 F _ _ _ _ (I.keep hA k9) ST9.out (by omega) hz9).mono ?_
          rintro e u10 ⟨F10, rfl, hA10, hs10⟩
          have k10 := chain KW.out k9
          have k11 := k10.trans (hs10.below HFF.out k10.size)
          clear hA10 hs10 k10 hz9 k9 hu9 hg9
          go_wp2_with fail
          refine (l9_lives I u10).mono ?_
          rintro e u12 ⟨rfl, hb12⟩
          have K12 := Lib.hid (chain k11 hb12)
          clear hb12 k11
          go_wp2
          go_ret
          exact ⟨rfl, K12.out⟩
        · have b1 : ¬ ((j : Int) < N) := by omega
          clear hn
          go_wp2_with (first
          | (at_make
             refine wpList_make_full _ rfl _ _ 22 rfl wr.heap.size 5 i0 (.int .u8 0) 1 Try.underlying22 hi hz hsz _ _ _ _ 65537 rfl rfl rfl rfl (by rw [hby]; omega) (by decide) (Nat.le_refl _) ?_
             intro u9 hu9 hg9)
          | fail)
          have k9 : Below wr.heap.size wr u9 := ⟨hg9.os, hg9.tape, hg9.output, hg9.size, fun x hx => hg9.block x hx (by simp)⟩
          have hz9 : BytsAt u9 (.slice (some ⟨wr.heap.size, 0, none⟩) 65537 65537) Z := by
            have h := hu9
            rw [show (Value.int IntKind.u8 0).cells = #[Value.int .u8 0] from rfl, HMD.out] at h
            exact byts_of_owned (base := wr.heap.size) (e := 5) (by rw [HZL.out]; exact h)
          refine (SZ.out u9 F _ _ _ _ (I.keep hA k9) ST9.out (by omega) hz9).mono ?_
          rintro e u10 ⟨F10, rfl, hA10, hs10⟩
          have k10 := chain KW.out k9
          have k11 := k10.trans (hs10.below HFF.out k10.size)
          clear hA10 hs10 k10 hz9 k9 hu9 hg9
          go_wp2_with fail
          refine (l9_lives I u10).mono ?_
          rintro e u12 ⟨rfl, hb12⟩
          have K12 := Lib.hid (chain k11 hb12)
          clear hb12 k11
          go_wp2
          go_ret
          exact ⟨rfl, K12.out⟩
    · have g2 : decide (id ≤ 1099511627776) = false := by simpa using c2
      have hm : may = false := by rw [← GM.out, g1, g2]; rfl
      clear c1 c2 q0 q1
      go_upto_region 5 with (fail)
      have HB : idB id = false := by rw [HMAY.out, hm]
      have E1 := Lib.hid (fun (d : St) (B : List Int) => save_bad (d := d) HB B)
      have E2 := Lib.hid (fun (d : St) => load_bad (d := d) HB)
      have B1 := Lib.hid k1
      have A1 := Lib.hid hA1
      have F1h := Lib.hid hF1
      clear HB hm k1 hA1 hF1
      go_wp2_with fail
      go_loopw [7, 8, 9, 10, 11, 12] (fun i _ _ _ _ _ wr => ∃ (j : Nat) (F : Foot), j ≤ N ∧ j ≤ 10 ∧ i = .int .i64 j ∧ Below w.heap.size w wr ∧ I.At wr F (.pointer (some ⟨b, 0, none⟩)) st0 ∧ (∀ b, F b → w.heap.size ≤ b) ∧ St9 st0 0) (fun i _ _ _ _ _ _ => N - (intOf i).toNat)
      case atStart => exact ⟨0, F1, by omega, by omega, rfl, B1.out, A1.out, F1h.out, S00.out⟩
      case round =>
      obtain ⟨j, F, hj, hj10, rfl, kw, hA, hF, h9⟩ := hrel
      by_cases hlt : j < N ∧ j < 10
      · obtain ⟨hlt, h10⟩ := hlt
        obtain ⟨g, off, rfl, hc, hg, hx⟩ := HF.out (by rw [HN.out]; omega)
        rw [HN.out] at hc
        have hjl : j < l.length := by rw [HN.out]; exact hlt
        have x0 := hx j hjl
        obtain ⟨o4, o5, o6⟩ := OK.out j hjl
        obtain ⟨⟨vb, B0⟩, hxe⟩ : ∃ x, l[j] = x := ⟨_, rfl⟩
        rw [hxe] at x0 o4 o5 o6
        simp only [] at x0 o4 o5 o6
        obtain ⟨pb, cb, rfl⟩ := o4.shape
        have bj : (j : Int) < N := by omega
        have bj2 : (j : Int) < 10 := by omega
        have few := fun u (hu : BytsAt u (.slice pb B0.length cb) B0) => r8_few (.slice pb B0.length cb) B0 20 u hu o6 (by omega)
        have hb1 := byts_cut o4 (Nat.min_le_left B0.length 20)
        obtain ⟨B, hB⟩ : ∃ B, B0.take (min B0.length 20) = B := ⟨_, rfl⟩
        have oB : bytOk B := by rw [← hB]; exact o5.take _
        have lB : B.length = min B0.length 20 := by rw [← hB, List.length_take]; omega
        rw [hB] at hb1
        obtain ⟨mB, hmB⟩ : ∃ n, min B0.length 20 = n := ⟨_, rfl⟩
        rw [hmB] at lB hb1 few
        simp only [slCut] at few hb1
        have bB : mB ≤ 20 := by omega
        obtain ⟨L, hL⟩ : ∃ x, B0.length = x := ⟨_, rfl⟩
        rw [hL] at few x0 o4
        have FEW := Lib.hid few
        have HB1 := Lib.hid hb1
        have O4 := Lib.hid o4
        have OB := Lib.hid oB
        have LB := Lib.hid lB
        have zg : g < wr.heap.size := Nat.lt_of_lt_of_le hg kw.size
        have d0 := keepc kw hg x0
        clear hx x0 o4 o5 o6 few hb1 hB hmB hL hxe hjl oB lB hg
        have SV := Lib.hid (fun u y (hA : I.At u F (.pointer (some ⟨b, 0, none⟩)) st0) (hb : BytsAt u y B) => I.save u F _ st0 id y B 0 hA h9 (by omega) HID.out hb OB.out (.inl (by rw [LB.out]; exact bB)))
        go_wp2_with fail
        refine (FEW.out wr (O4.out.keep kw)).mono ?_
        rintro e w2 ⟨rfl, hb2⟩
        have k2 := chain kw hb2
        have hA2 := I.keep hA hb2
        clear hb2 hA kw d0 zg
        go_wp2_with fail
        have sv := SV.out w2 _ hA2 (HB1.out.keep k2)
        rw [E1.out] at sv
        refine sv.mono ?_
        rintro e w3 ⟨F3, rfl, hA3, hs3⟩
        have hF3 := hs3.low hF k2.size
        have k3 := k2.trans (hs3.below hF k2.size)
        clear sv hA2 hs3 k2
        have ld := I.load w3 F3 _ st0 id 0 hA3 h9 (by omega) HID.out
        rw [E2.out] at ld
        have LD := Lib.hid ld
        clear ld
        go_wp2_with fail
        refine LD.out.mono ?_
        rintro e w4 ⟨vl, rfl, hn4, hb4⟩
        have hA4 := I.keep hA3 hb4
        have k4 := chain k3 hb4
        obtain ⟨pl, cl, hvl⟩ := hn4.1.shape
        subst hvl
        have FIN := Lib.hid (And.intro k4 (And.intro hA4 (And.intro hF3 h9)))
        clear hn4 hb4 hA3 k3 hA4 k4 hF3 h9
        go_wp2_with fail
        go_roundw
        case rel => exact ⟨j + 1, F3, by omega, by omega, by go_num, FIN.out.1, FIN.out.2.1, FIN.out.2.2.1, FIN.out.2.2.2⟩
        case measure => simp [intOf]; omega
      · have hstop : ¬ (j < N ∧ j < 10) := hlt
        have STOP := Lib.hid hstop
        have KW := Lib.hid kw
        have ST9 := Lib.hid h9
        have HFF := Lib.hid hF
        have H10 := Lib.hid hj10
        clear hlt hstop
        by_cases hn : j < N
        · have j10 : j = 10 := by have := STOP.out; have := H10.out; omega
          subst j10
          have b1 : (10 : Int) < N := by omega
          clear hn
          go_wp2_with (first
          | (at_make
             refine wpList_make_full _ rfl _ _ 22 rfl wr.heap.size 5 i0 (.int .u8 0) 1 Try.underlying22 hi hz hsz _ _ _ _ 65537 rfl rfl rfl rfl (by rw [hby]; omega) (by decide) (Nat.le_refl _) ?_
             intro u9 hu9 hg9)
          | fail)
          have k9 : Below wr.heap.size wr u9 := ⟨hg9.os, hg9.tape, hg9.output, hg9.size, fun x hx => hg9.block x hx (by simp)⟩
          have hz9 : BytsAt u9 (.slice (some ⟨wr.heap.size, 0, none⟩) 65537 65537) Z := by
            have h := hu9
            rw [show (Value.int IntKind.u8 0).cells = #[Value.int .u8 0] from rfl, HMD.out] at h
            exact byts_of_owned (base := wr.heap.size) (e := 5) (by rw [HZL.out]; exact h)
          refine (SZ.out u9 F _ _ _ _ (I.keep hA k9) ST9.out (by omega) hz9).mono ?_
          rintro e u10 ⟨F10, rfl, hA10, hs10⟩
          have k10 := chain KW.out k9
          have k11 := k10.trans (hs10.below HFF.out k10.size)
          clear hA10 hs10 k10 hz9 k9 hu9 hg9
          go_wp2_with fail
          refine (l9_lives I u10).mono ?_
          rintro e u12 ⟨rfl, hb12⟩
          have K12 := Lib.hid (chain k11 hb12)
          clear hb12 k11
          go_wp2
          go_ret
          exact ⟨rfl, K12.out⟩
        · have b1 : ¬ ((j : Int) < N) := by omega
          clear hn
          go_wp2_with (first
          | (at_make
             refine wpList_make_full _ rfl _ _ 22 rfl wr.heap.size 5 i0 (.int .u8 0) 1 Try.underlying22 hi hz hsz _ _ _ _ 65537 rfl rfl rfl rfl (by rw [hby]; omega) (by decide) (Nat.le_refl _) ?_
             intro u9 hu9 hg9)
          | fail)
          have k9 : Below wr.heap.size wr u9 := ⟨hg9.os, hg9.tape, hg9.output, hg9.size, fun x hx => hg9.block x hx (by simp)⟩
          have hz9 : BytsAt u9 (.slice (some ⟨wr.heap.size, 0, none⟩) 65537 65537) Z := by
            have h := hu9
            rw [show (Value.int IntKind.u8 0).cells = #[Value.int .u8 0] from rfl, HMD.out] at h
            exact byts_of_owned (base := wr.heap.size) (e := 5) (by rw [HZL.out]; exact h)
          refine (SZ.out u9 F _ _ _ _ (I.keep hA k9) ST9.out (by omega) hz9).mono ?_
          rintro e u10 ⟨F10, rfl, hA10, hs10⟩
          have k10 := chain KW.out k9
          have k11 := k10.trans (hs10.below HFF.out k10.size)
          clear hA10 hs10 k10 hz9 k9 hu9 hg9
          go_wp2_with fail
          refine (l9_lives I u10).mono ?_
          rintro e u12 ⟨rfl, hb12⟩
          have K12 := Lib.hid (chain k11 hb12)
          clear hb12 k11
          go_wp2
          go_ret
          exact ⟨rfl, K12.out⟩
  · have g1 : decide (0 ≤ id) = false := by simpa using c1
    have g1' : decide (id ≥ 0) = false := g1
    have hm : may = false := by rw [← GM.out, g1]; rfl
    clear c1 q0 q1
    go_upto_region 5 with (fail)
    have HB : idB id = false := by rw [HMAY.out, hm]
    have E1 := Lib.hid (fun (d : St) (B : List Int) => save_bad (d := d) HB B)
    have E2 := Lib.hid (fun (d : St) => load_bad (d := d) HB)
    have B1 := Lib.hid k1
    have A1 := Lib.hid hA1
    have F1h := Lib.hid hF1
    clear HB hm k1 hA1 hF1
    go_wp2_with fail
    go_loopw [7, 8, 9, 10, 11, 12] (fun i _ _ _ _ _ wr => ∃ (j : Nat) (F : Foot), j ≤ N ∧ j ≤ 10 ∧ i = .int .i64 j ∧ Below w.heap.size w wr ∧ I.At wr F (.pointer (some ⟨b, 0, none⟩)) st0 ∧ (∀ b, F b → w.heap.size ≤ b) ∧ St9 st0 0) (fun i _ _ _ _ _ _ => N - (intOf i).toNat)
    case atStart => exact ⟨0, F1, by omega, by omega, rfl, B1.out, A1.out, F1h.out, S00.out⟩
    case round =>
    obtain ⟨j, F, hj, hj10, rfl, kw, hA, hF, h9⟩ := hrel
    by_cases hlt : j < N ∧ j < 10
    · obtain ⟨hlt, h10⟩ := hlt
      obtain ⟨g, off, rfl, hc, hg, hx⟩ := HF.out (by rw [HN.out]; omega)
      rw [HN.out] at hc
      have hjl : j < l.length := by rw [HN.out]; exact hlt
      have x0 := hx j hjl
      obtain ⟨o4, o5, o6⟩ := OK.out j hjl
      obtain ⟨⟨vb, B0⟩, hxe⟩ : ∃ x, l[j] = x := ⟨_, rfl⟩
      rw [hxe] at x0 o4 o5 o6
      simp only [] at x0 o4 o5 o6
      obtain ⟨pb, cb, rfl⟩ := o4.shape
      have bj : (j : Int) < N := by omega
      have bj2 : (j : Int) < 10 := by omega
      have few := fun u (hu : BytsAt u (.slice pb B0.length cb) B0) => r8_few (.slice pb B0.length cb) B0 20 u hu o6 (by omega)
      have hb1 := byts_cut o4 (Nat.min_le_left B0.length 20)
      obtain ⟨B, hB⟩ : ∃ B, B0.take (min B0.length 20) = B := ⟨_, rfl⟩
      have oB : bytOk B := by rw [← hB]; exact o5.take _
      have lB : B.length = min B0.length 20 := by rw [← hB, List.length_take]; omega
      rw [hB] at hb1
      obtain ⟨mB, hmB⟩ : ∃ n, min B0.length 20 = n := ⟨_, rfl⟩
      rw [hmB] at lB hb1 few
      simp only [slCut] at few hb1
      have bB : mB ≤ 20 := by omega
      obtain ⟨L, hL⟩ : ∃ x, B0.length = x := ⟨_, rfl⟩
      rw [hL] at few x0 o4
      have FEW := Lib.hid few
      have HB1 := Lib.hid hb1
      have O4 := Lib.hid o4
      have OB := Lib.hid oB
      have LB := Lib.hid lB
      have zg : g < wr.heap.size := Nat.lt_of_lt_of_le hg kw.size
      have d0 := keepc kw hg x0
      clear hx x0 o4 o5 o6 few hb1 hB hmB hL hxe hjl oB lB hg
      have SV := Lib.hid (fun u y (hA : I.At u F (.pointer (some ⟨b, 0, none⟩)) st0) (hb : BytsAt u y B) => I.save u F _ st0 id y B 0 hA h9 (by omega) HID.out hb OB.out (.inl (by rw [LB.out]; exact bB)))
      go_wp2_with fail
      refine (FEW.out wr (O4.out.keep kw)).mono ?_
      rintro e w2 ⟨rfl, hb2⟩
      have k2 := chain kw hb2
      have hA2 := I.keep hA hb2
      clear hb2 hA kw d0 zg
      go_wp2_with fail
      have sv := SV.out w2 _ hA2 (HB1.out.keep k2)
      rw [E1.out] at sv
      refine sv.mono ?_
      rintro e w3 ⟨F3, rfl, hA3, hs3⟩
      have hF3 := hs3.low hF k2.size
      have k3 := k2.trans (hs3.below hF k2.size)
      clear sv hA2 hs3 k2
      have ld := I.load w3 F3 _ st0 id 0 hA3 h9 (by omega) HID.out
      rw [E2.out] at ld
      have LD := Lib.hid ld
      clear ld
      go_wp2_with fail
      refine LD.out.mono ?_
      rintro e w4 ⟨vl, rfl, hn4, hb4⟩
      have hA4 := I.keep hA3 hb4
      have k4 := chain k3 hb4
      obtain ⟨pl, cl, hvl⟩ := hn4.1.shape
      subst hvl
      have FIN := Lib.hid (And.intro k4 (And.intro hA4 (And.intro hF3 h9)))
      clear hn4 hb4 hA3 k3 hA4 k4 hF3 h9
      go_wp2_with fail
      go_roundw
      case rel => exact ⟨j + 1, F3, by omega, by omega, by go_num, FIN.out.1, FIN.out.2.1, FIN.out.2.2.1, FIN.out.2.2.2⟩
      case measure => simp [intOf]; omega
    · have hstop : ¬ (j < N ∧ j < 10) := hlt
      have STOP := Lib.hid hstop
      have KW := Lib.hid kw
      have ST9 := Lib.hid h9
      have HFF := Lib.hid hF
      have H10 := Lib.hid hj10
      clear hlt hstop
      by_cases hn : j < N
      · have j10 : j = 10 := by have := STOP.out; have := H10.out; omega
        subst j10
        have b1 : (10 : Int) < N := by omega
        clear hn
        go_wp2_with (first
        | (at_make
           refine wpList_make_full _ rfl _ _ 22 rfl wr.heap.size 5 i0 (.int .u8 0) 1 Try.underlying22 hi hz hsz _ _ _ _ 65537 rfl rfl rfl rfl (by rw [hby]; omega) (by decide) (Nat.le_refl _) ?_
           intro u9 hu9 hg9)
        | fail)
        have k9 : Below wr.heap.size wr u9 := ⟨hg9.os, hg9.tape, hg9.output, hg9.size, fun x hx => hg9.block x hx (by simp)⟩
        have hz9 : BytsAt u9 (.slice (some ⟨wr.heap.size, 0, none⟩) 65537 65537) Z := by
          have h := hu9
          rw [show (Value.int IntKind.u8 0).cells = #[Value.int .u8 0] from rfl, HMD.out] at h
          exact byts_of_owned (base := wr.heap.size) (e := 5) (by rw [HZL.out]; exact h)
        refine (SZ.out u9 F _ _ _ _ (I.keep hA k9) ST9.out (by omega) hz9).mono ?_
        rintro e u10 ⟨F10, rfl, hA10, hs10⟩
        have k10 := chain KW.out k9
        have k11 := k10.trans (hs10.below HFF.out k10.size)
        clear hA10 hs10 k10 hz9 k9 hu9 hg9
        go_wp2_with fail
        refine (l9_lives I u10).mono ?_
        rintro e u12 ⟨rfl, hb12⟩
        have K12 := Lib.hid (chain k11 hb12)
        clear hb12 k11
        go_wp2
        go_ret
        exact ⟨rfl, K12.out⟩
      · have b1 : ¬ ((j : Int) < N) := by omega
        clear hn
        go_wp2_with (first
        | (at_make
           refine wpList_make_full _ rfl _ _ 22 rfl wr.heap.size 5 i0 (.int .u8 0) 1 Try.underlying22 hi hz hsz _ _ _ _ 65537 rfl rfl rfl rfl (by rw [hby]; omega) (by decide) (Nat.le_refl _) ?_
           intro u9 hu9 hg9)
        | fail)
        have k9 : Below wr.heap.size wr u9 := ⟨hg9.os, hg9.tape, hg9.output, hg9.size, fun x hx => hg9.block x hx (by simp)⟩
        have hz9 : BytsAt u9 (.slice (some ⟨wr.heap.size, 0, none⟩) 65537 65537) Z := by
          have h := hu9
          rw [show (Value.int IntKind.u8 0).cells = #[Value.int .u8 0] from rfl, HMD.out] at h
          exact byts_of_owned (base := wr.heap.size) (e := 5) (by rw [HZL.out]; exact h)
        refine (SZ.out u9 F _ _ _ _ (I.keep hA k9) ST9.out (by omega) hz9).mono ?_
        rintro e u10 ⟨F10, rfl, hA10, hs10⟩
        have k10 := chain KW.out k9
        have k11 := k10.trans (hs10.below HFF.out k10.size)
        clear hA10 hs10 k10 hz9 k9 hu9 hg9
        go_wp2_with fail
        refine (l9_lives I u10).mono ?_
        rintro e u12 ⟨rfl, hb12⟩
        have K12 := Lib.hid (chain k11 hb12)
        clear hb12 k11
        go_wp2
        go_ret
        exact ⟨rfl, K12.out⟩
end Go.Proofs.Ythjekbbldejlpaa
/- The reference's state beside a store: its blobs lie outside of the store's footprint. -/
set_option linter.unusedVariables false
set_option linter.unusedSimpArgs false
namespace Go.Proofs.Ythjekbbldejlpaa
open Go.ChangeShapes Go.WideShapes Go.ChangeAt Go.RowKit
def RefAt (F : Foot) (w : World) (v : Value) (d : St) : Prop := DAtR (BlobIn (fun g => ¬ F g) w) w v d
theorem RefAt.keep {F : Foot} {w w' : World} {v : Value} {d : St} (h : RefAt F w v d) (hb : Below w.heap.size w w') : RefAt F w' v d := (DAtR.keep h hb).map fun h => h.below hb
theorem RefAt.form {F : Foot} {w : World} {v : Value} {d : St} (h : RefAt F w v d) : ∃ p n c q m e, v = dV d.room d.fails d.wait (.slice p n c) (.slice q m e) := DAtR.form h
theorem RefAt.of {F : Foot} {w w' : World} {v : Value} {d : St} (h : DAtR (BlobIn (fun g => ¬ F g) w) w' v d) (hb : Below w.heap.size w w') : RefAt F w' v d := h.map fun h => h.below hb
theorem RefAt.put5 {F : Foot} {u : World} {v : Value} {d : St} (h : RefAt F u v d) {b : Nat} {cs : Array Value} (r : RowAt u b cs 39) (x0 x1 x2 x3 x4 : Value) : RefAt F (lay5 u b x0 x1 x2 x3 x4) v d :=
  (DAtR.put5 h r x0 x1 x2 x3 x4).map fun hb => hb.turn (fun g cur f _ ht => lay5_other _ _ _ _ _ _ _ (by
    rintro rfl
    unfold RowAt at r
    rw [ht] at r
    cases r)) (fun g _ _ h _ => h)
theorem StoreI.ref (I : StoreI) {w w' : World} {F F' : Foot} {p v : Value} {d r : St} (h : I.At w F p d) (hs : Step F F' w w') (hr : RefAt F w v r) : RefAt F' w' v r :=
  (I.dat h hs hr).map fun hb => hb.turn (fun g cur f hg ht => hs.block g (Array.getElem?_eq_some_iff.1 ht).1 hg) (fun g cur f hg ht hF => by
    rcases hs.fresh g hF with h1 | h1
    · exact hg h1
    · have := (Array.getElem?_eq_some_iff.1 ht).1
      omega)
theorem StoreI.put5 (I : StoreI) {u : World} {F : Foot} {p : Value} {d : St} (h : I.At u F p d) {b : Nat} {cs : Array Value} {t : TypeId} (r : RowAt u b cs t) (ht : calmT t) (x0 x1 x2 x3 x4 : Value) : I.At (lay5 u b x0 x1 x2 x3 x4) F p d :=
  I.same h fun k hF => lay5_other u b x0 x1 x2 x3 x4 (by rintro rfl; exact I.types h _ _ _ _ hF r ht)
section
variable {F : Foot} {w : World} {v : Value} {d : St} {i : Nat}
theorem rf_new (room : Int) (F : Foot) (w : World) : Calls Try.prog 18 #[.int .i64 room] w fun e w' => ∃ v', e = .returned v' ∧ RefAt F w' v' (newSt room) ∧ Below w.heap.size w w' := by
  refine (rG_new room (BlobIn (fun g => ¬ F g) w) w).mono ?_
  rintro e w' ⟨v', rfl, h, hb⟩
  exact ⟨v', rfl, RefAt.of h hb, hb⟩
theorem rf_sync (hr : RefAt F w v d) (h9 : St9 d i) (hi : i ≤ 300) : Calls Try.prog 36 #[v] w fun e w' => ∃ v', e = .returned (.tuple #[v', .int .i64 (syncSt d).2]) ∧ RefAt F w' v' (syncSt d).1 ∧ Below w.heap.size w w' := by
  refine (rG_sync v d _ w hr h9.ok (by omega)).mono ?_
  rintro e w' ⟨v', rfl, h, hb⟩
  exact ⟨v', rfl, RefAt.of h hb, hb⟩
theorem rf_fail (hr : RefAt F w v d) {k : Int} (hk : i64 k) : Calls Try.prog 40 #[v, .int .i64 k] w fun e w' => ∃ v', e = .returned v' ∧ RefAt F w' v' (failSt d k) ∧ Below w.heap.size w w' := by
  refine (rG_fail v d k hk _ w hr).mono ?_
  rintro e w' ⟨v', rfl, h, hb⟩
  exact ⟨v', rfl, RefAt.of h hb, hb⟩
theorem rf_crash (hr : RefAt F w v d) (h9 : St9 d i) (hi : i ≤ 300) {k : Int} (hk : i64 k) : Calls Try.prog 38 #[v, .int .i64 k] w fun e w' => ∃ v', e = .returned (.tuple #[v', .int .i64 (crashSt d k).2]) ∧ RefAt F w' v' (crashSt d k).1 ∧ Below w.heap.size w w' := by
  refine (rG_crash v d k hk _ w hr h9.ok (by omega) (by omega)).mono ?_
  rintro e w' ⟨v', rfl, h, hb⟩
  exact ⟨v', rfl, RefAt.of h hb, hb⟩
theorem rf_save (hF : ∀ b, F b → b < w.heap.size) (hr : RefAt F w v d) (h9 : St9 d i) (hi : i ≤ 300) {k : Int} (hk : i64 k) {vb : Value} {B : List Int} (hb : BytsAt w vb B) (oB : bytOk B) (lB : B.length ≤ 20) :
    Calls Try.prog 35 #[v, .int .i64 k, vb] w fun e w' => ∃ v', e = .returned (.tuple #[v', .int .i64 (saveSt d k B).2]) ∧ RefAt F w' v' (saveSt d k B).1 ∧ Below w.heap.size w w' :=
  r9_save v d k vb B (fun g => ¬ F g) w (fun g hg h => by have := hF g h; omega) hr h9.ok (by omega) (by omega) hk hb oB (by omega)
theorem rf_spoil (hF : ∀ b, F b → b < w.heap.size) (hr : RefAt F w v d) (h9 : St9 d i) (hi : i ≤ 300) {key at0 x : Int} (hk : i64 key) (ha : i64 at0) (hx : 0 ≤ x ∧ x ≤ 255) :
    Calls Try.prog 41 #[v, .int .i64 key, .int .i64 at0, .int .u8 x] w fun e w' => ∃ v', e = .returned (.tuple #[v', .bool (spoilSt d key at0 x).2]) ∧ RefAt F w' v' (spoilSt d key at0 x).1 ∧ Below w.heap.size w w' :=
  r9_spoil v d key at0 x (fun g => ¬ F g) w (fun g hg h => by have := hF g h; omega) hr h9.ok (by omega) (by omega) hk ha hx
theorem rf_load (hr : RefAt F w v d) (h9 : St9 d i) (hi : i ≤ 300) {k : Int} (hk : i64 k) :
    Calls Try.prog 42 #[v, .int .i64 k] w fun e w' => ∃ vb, e = .returned (.tuple #[vb, .int .i64 (loadF d k).2.1, .bool (loadF d k).2.2]) ∧ BytsAt w' vb (loadF d k).1 ∧ Below w.heap.size w w' :=
  r9_load v d k _ w (fun h => h.1) hr h9.ok (by omega) (by omega) hk
theorem rf_ids (hr : RefAt F w v d) (h9 : St9 d i) (hi : i ≤ 300) :
    Calls Try.prog 45 #[v] w fun e w' => ∃ vb, e = .returned vb ∧ IntsAt w' vb (idsF d) ∧ Below w.heap.size w w' :=
  r9_ids v d _ w (fun h => h.1) hr h9.ok (by omega) (by omega) (fun x hx => ⟨(h9.all x hx).1, (h9.all x hx).2.1⟩)
end
theorem load_ok {d : St} {i : Nat} (h9 : St9 d i) (k : Int) : bytOk (loadF d k).1 := by
  have hrb : ∀ b : List Int, bytOk b → bytOk (readB b) := fun b hb => by
    unfold readB
    split
    · unfold takeF
      split
      · exact fun x hx => hb x (List.mem_of_mem_take (List.mem_of_mem_drop hx))
      · intro x hx; simp at hx
    · intro x hx; cases hx
  unfold loadF
  split
  · unfold of9 ofP
    split
    · intro x hx; cases hx
    · split
      · exact hrb _ (gb_ok h9.ok _).1
      · exact hrb _ (gb_ok h9.ok _).1
  · intro x hx; cases hx
end Go.Proofs.Ythjekbbldejlpaa
