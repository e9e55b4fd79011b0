/- DiskRoom, over what is asked of the disk. Written by gen_u08.py. -/
import Derived.Test.YtkephcmjigfepaaT08
set_option linter.unusedVariables false
set_option linter.unusedSimpArgs false
namespace Go.Proofs.Ytkephcmjigfepaa
open Go.ChangeShapes Go.WideShapes Go.ChangeAt Go.RowKit
theorem own_keep8 {u u' : World} {base : Nat} {v : Value} {e : TypeId} {size n : Nat} {xs : List Value} (ho : u.ownsRow base e size v n xs) (hb : Below u.heap.size u u') : u'.ownsRow base e size v n xs :=
  ho.kept (row := none) ⟨hb.os, hb.tape, hb.output, hb.size, fun k hk _ => hb.block k hk⟩ (by cases v.ownBlock <;> simp)
theorem ins_sum (k : Int) (v : List Int) : ∀ {l : Blobs}, Srt l → sumB (insF l (k, v)) + ((getF l k).getD []).length = sumB l + v.length
  | [], _ => by simp [insF, sumB, getF]
  | x :: l, h => by
    obtain ⟨h1, h2⟩ := List.pairwise_cons.1 h
    rw [insF]
    by_cases c : k ≤ x.1
    · rw [if_pos c]
      by_cases c2 : x.1 = k
      · rw [if_pos c2, getF, if_pos c2]
        simp only [sumB, Option.getD_some]
        omega
      · rw [if_neg c2, getF, if_neg c2]
        have hn : getF l k = none := getF_none fun i hi => by
          have := h1 _ (List.getElem_mem hi)
          omega
        rw [hn]
        simp only [sumB, Option.getD_none, List.length_nil]
        omega
    · rw [if_neg c, getF, if_neg (by omega), sumB, sumB]
      have := ins_sum k v h2
      omega
theorem lay_sum {l : Blobs} (h : Srt l) (k : Int) (v : List Int) : sumB (layF l (k, v)) + ((getF l k).getD []).length = sumB l + v.length := by rw [layF_ins _ h]; exact ins_sum k v h
/-- What a put of DiskRoom does, where it fits and where it does not. -/
theorem room_put {d : St} (hs : Srt d.safe) (hw : d.wait = 0) (hf : d.fails = 0) (k : Int) (B : List Int) :
    ((sumB d.all : Int) - ((getSt d k).1.length : Int) + (B.length : Int) ≤ d.room → ∃ d', putSt d k B = (d', 0) ∧ d'.wait = 0 ∧ d'.fails = 0 ∧ d'.room = d.room ∧ getSt d' k = (B, true) ∧ (sumB d'.all : Int) = (sumB d.all : Int) - ((getSt d k).1.length : Int) + (B.length : Int)) ∧
    (¬ (sumB d.all : Int) - ((getSt d k).1.length : Int) + (B.length : Int) ≤ d.room → putSt d k B = (d, 8)) := by
  have sA : Srt d.all := hs.now
  have hl := lay_sum sA k B
  have ha : d.falls = false := by unfold St.falls askF; rw [hw, hf]; rfl
  have he : d.asked = d := by
    obtain ⟨r, f, w, s, u⟩ := d
    have hw : w = 0 := hw
    have hf : f = 0 := hf
    subst hw hf
    rfl
  have hg : (getSt d k).1 = (getF d.all k).getD [] := rfl
  rw [hg]
  constructor
  · intro h
    refine ⟨{ d with under := d.under ++ [(k, B)] }, ?_, hw, hf, rfl, ?_, ?_⟩
    · unfold putSt
      rw [ha, if_neg (by decide), if_neg (by omega), he]
    · have e : ({ d with under := d.under ++ [(k, B)] } : St).all = layF d.all (k, B) := nowF_snoc _ _ _
      unfold getSt
      rw [e, get_lay_same sA]
      rfl
    · have e : ({ d with under := d.under ++ [(k, B)] } : St).all = layF d.all (k, B) := nowF_snoc _ _ _
      rw [e]
      omega
  · intro h
    unfold putSt
    rw [ha, if_neg (by decide), if_pos (by omega), he]
set_option maxRecDepth 10000 in
set_option maxHeartbeats 16000000 in
theorem diskRoom_core (I : DiskI) (w : World) (r0 : Int) (hr0 : i64 r0) (v : Value) (hd : RowsBIn w v) : Calls Try.prog 5 #[.int .i64 r0, v] w fun e w' => e = .returned (.bool true) ∧ Below w.heap.size w w' := by
  obtain ⟨l, hl, hok, hlen⟩ := hd
  obtain ⟨p, cap, rfl, hf⟩ := hl.form
  obtain ⟨N, hN⟩ : ∃ N, l.length = N := ⟨_, rfl⟩
  have ar := around_bd r0 61 (by omega)
  have an := fun u => r_around r0 61 hr0.1 hr0.2 (by omega) (by omega) u
  obtain ⟨R, hR⟩ : ∃ Z, aroundF r0 61 = Z := ⟨_, rfl⟩
  rw [hR] at ar an
  have iR : i64 R := by constructor <;> omega
  have AN := Lib.hid an
  have HF := Lib.hid hf
  have HN := Lib.hid hN
  have OK := Lib.hid hok
  unfold maxLen at hlen
  rw [hN] at hlen ⊢
  clear hR an hf hN hok hl
  go_enter Try.func5, Try.ntmps5
  go_wp2_with (go_at_call 9; refine (AN.out _).mono ?_; rintro e w' ⟨rfl, rfl⟩)
  refine (I.new R w iR).mono ?_
  rintro e w1 ⟨pd, F1, rfl, hA1, hF1, k1⟩
  obtain ⟨pa, rfl⟩ := I.ptr hA1
  have ok0 := StOk.new iR
  have ze : sumB (newSt R).all = 0 := rfl
  have rm0 : (newSt R).room = R := by show min (max R 0) 1048576 = R; omega
  obtain ⟨st0, hst0⟩ : ∃ s, newSt R = s := ⟨_, rfl⟩
  have w00 : st0.wait = 0 := by rw [← hst0]; rfl
  have f00 : st0.fails = 0 := by rw [← hst0]; rfl
  rw [hst0] at hA1 ok0 ze rm0
  have Z0 := Lib.hid (And.intro ze (And.intro rm0 (And.intro w00 f00)))
  clear hst0 ze rm0 w00 f00
  go_wp2_with fail
  go_loopw [6] (fun i wr => ∃ (j : Nat) (st : St) (F : Foot), j ≤ N ∧ j ≤ 10 ∧ i = .int .i64 j ∧ Below w.heap.size w wr ∧ I.At wr F (.pointer (some pa)) st ∧ (∀ b, F b → w.heap.size ≤ b) ∧ StOk st j (20 * j) ∧ st.room = R ∧ st.wait = 0 ∧ st.fails = 0 ∧ (sumB st.all : Int) ≤ R) (fun i _ => N - (intOf i).toNat)
  case atStart => exact ⟨0, st0, F1, by omega, by omega, rfl, k1, hA1, hF1, ok0, Z0.out.2.1, Z0.out.2.2.1, Z0.out.2.2.2, by rw [Z0.out.1]; omega⟩
  case round =>
    clear hA1 hF1 ok0 k1
    obtain ⟨j, st, F, hj, hj12, rfl, kw, hA, hF, ok, hroom, hwait, hfails, hsum⟩ := hrel
    by_cases hlt : j < N ∧ j < 10
    · obtain ⟨hlt, h12⟩ := hlt
      obtain ⟨g, off, rfl, hc, hg, hx⟩ := HF.out (by rw [HN.out]; omega)
      rw [HN.out] at hc
      have hjl : j < l.length := by rw [HN.out]; exact hlt
      have x0 := hx j hjl
      obtain ⟨o4, o5, o6⟩ := OK.out j hjl
      obtain ⟨⟨vb, B0⟩, hxe⟩ : ∃ x, l[j] = x := ⟨_, rfl⟩
      rw [hxe] at x0 o4 o5 o6
      simp only [] at x0 o4 o5 o6
      obtain ⟨pb, cb, rfl⟩ := o4.shape
      have bj : (j : Int) < N := by omega
      have bj2 : (j : Int) < 10 := by omega
      obtain ⟨k, hk⟩ : ∃ k, (j : Int) % 4 = k := ⟨_, rfl⟩
      have ik : i64 k := by constructor <;> omega
      have few := fun u (hu : BytsAt u (.slice pb B0.length cb) B0) => r8_few (.slice pb B0.length cb) B0 20 u hu o6 (by omega)
      have hb1 := byts_cut o4 (Nat.min_le_left B0.length 20)
      obtain ⟨B, hB⟩ : ∃ B, B0.take (min B0.length 20) = B := ⟨_, rfl⟩
      have oB : bytOk B := by rw [← hB]; exact o5.take _
      have lB : B.length = min B0.length 20 := by rw [← hB, List.length_take]; omega
      rw [hB] at hb1
      obtain ⟨mB, hmB⟩ : ∃ n, min B0.length 20 = n := ⟨_, rfl⟩
      rw [hmB] at lB hb1 few
      simp only [slCut] at few hb1
      have bB : mB ≤ 20 := by omega
      obtain ⟨L, hL⟩ : ∃ x, B0.length = x := ⟨_, rfl⟩
      rw [hL] at few x0 o4
      obtain ⟨pr1, pr2⟩ := room_put ok.srt hwait hfails k B
      have okP := (ok.put (k := k) ik oB).mono (Nat.le_refl _) (show 20 * j + B.length ≤ 20 * (j + 1) by omega)
      have oW := get_ok ok k
      have lW : (getSt st k).1.length ≤ sumB st.all := by
        have h := lay_sum (l := st.all) ok.srt.now k []
        have e : (getSt st k).1 = (getF st.all k).getD [] := rfl
        rw [e]
        simp only [List.length_nil] at h
        omega
      obtain ⟨W, bW, hW⟩ : ∃ W b, getSt st k = (W, b) := ⟨_, _, rfl⟩
      obtain ⟨n, hn⟩ : ∃ n, sumB st.all = n := ⟨_, rfl⟩
      rw [hn] at hsum lW pr1 pr2
      rw [hW] at lW pr1 pr2 oW
      simp only [] at lW pr1 pr2 oW
      obtain ⟨nW, hnW⟩ : ∃ n, W.length = n := ⟨_, rfl⟩
      rw [hnW] at lW pr1 pr2
      rw [lB, hroom] at pr1 pr2
      have LEN := Lib.hid (fun u (F : Foot) (hu : I.At u F (.pointer pa) st) => I.len u F _ st j (20 * j) hu ok (by omega) (by omega))
      have GET := Lib.hid (fun u (F : Foot) (hu : I.At u F (.pointer pa) st) => I.getO u F _ st k j (20 * j) hu ok (by omega) (by omega) ik)
      have PUT := Lib.hid (fun u (F : Foot) vb (hu : I.At u F (.pointer pa) st) (hb : BytsAt u vb B) => I.put u F _ st k vb B j (20 * j) hu ok (by omega) (by omega) ik hb oB (by omega))
      rw [hn] at LEN
      rw [hW] at GET
      simp only [] at GET
      have w5 : IntKind.i64.wrap ((n : Int) - (nW : Int)) = (n : Int) - nW := IntWalk.i64_in _ (by omega)
      have w6 : IntKind.i64.wrap ((n : Int) - (nW : Int) + (mB : Int)) = (n : Int) - nW + mB := IntWalk.i64_in _ (by omega)
      have HNW := Lib.hid hnW
      have HHN := Lib.hid hn
      have OW := Lib.hid oW
      clear hW hn hnW oW
      have FEW := Lib.hid few
      have HB1 := Lib.hid hb1
      have O4 := Lib.hid o4
      have OB := Lib.hid oB
      have LB := Lib.hid lB
      have OKP := Lib.hid okP
      have OK0 := Lib.hid ok
      have HROOM := Lib.hid hroom
      have PR1 := Lib.hid pr1
      have PR2 := Lib.hid pr2
      have HW := Lib.hid (And.intro hwait hfails)
      have y0 := keepc kw hg x0
      have zg : g < wr.heap.size := Nat.lt_of_lt_of_le hg kw.size
      clear hx hxe few hb1 o4 o5 o6 hB oB lB hmB hL pr1 pr2 okP ok hroom hwait hfails
      go_wp2_with fail
      refine (FEW.out _ (O4.out.keep kw)).mono ?_
      rintro e w3 ⟨rfl, hv⟩
      replace kw := chain kw hv
      replace hA := I.keep hA hv
      clear hv y0 zg
      go_wp2_with fail
      refine (GET.out _ _ hA).mono ?_
      rintro e w4 ⟨v4, rfl, hx4, hv⟩
      have hFlt := I.lt hA
      replace kw := chain kw hv
      replace hA := I.keep hA hv
      obtain ⟨p4, c4, rfl⟩ := own_form hx4
      rw [HNW.out] at hx4 ⊢
      clear hv
      go_wp2_with fail
      refine (LEN.out _ _ hA).mono ?_
      rintro e w5' ⟨rfl, hv⟩
      replace kw := chain kw hv
      replace hA := I.keep hA hv
      replace hx4 := own_keep8 hx4 hv
      clear hv
      by_cases hfit : (n : Int) - nW + mB ≤ R
      · obtain ⟨D2, e1, e2, e3, e4, e5, e6⟩ := PR1.out (by omega)
        have okP := OKP.out
        have PU := PUT.out
        rw [e1] at okP PU
        simp only [] at okP PU
        have PUH := Lib.hid PU
        have GET2 := Lib.hid (fun u (F : Foot) (hu : I.At u F (.pointer pa) D2) => I.get u F _ D2 k (j + 1) (20 * (j + 1)) hu okP (by omega) (by omega) ik)
        have LEN2 := Lib.hid (fun u (F : Foot) (hu : I.At u F (.pointer pa) D2) => I.len u F _ D2 (j + 1) (20 * (j + 1)) hu okP (by omega) (by omega))
        rw [e5] at GET2
        simp only [] at GET2
        obtain ⟨n2, hn2⟩ : ∃ n, sumB D2.all = n := ⟨_, rfl⟩
        rw [hn2] at e6 LEN2
        have b2 : (n2 : Int) ≤ R := by omega
        have E6 := Lib.hid e6
        have E4 := Lib.hid e4
        have E23 := Lib.hid (And.intro e2 e3)
        have OKH := Lib.hid okP
        have HN2 := Lib.hid hn2
        clear e1 e2 e3 e4 e5 e6 okP PU hn2
        go_wp2_with fail
        refine (PUH.out _ _ _ hA (HB1.out.keep kw)).mono ?_
        rintro e w6' ⟨F2, rfl, hA2, hs2⟩
        have low := hs2.low hF kw.size
        replace kw := kw.trans (hs2.below hF kw.size)
        clear hs2 hA hx4
        go_wp2_with fail
        refine (GET2.out _ _ hA2).mono ?_
        rintro e w7 ⟨v7, rfl, hx7, hv⟩
        replace kw := chain kw hv
        replace hA2 := I.keep hA2 hv
        obtain ⟨p7, c7, rfl⟩ := hx7.shape
        rw [LB.out] at hx7 ⊢
        clear hv
        go_wp2_with fail
        refine (r6_same _ _ B B _ hx7 (HB1.out.keep kw) OB.out OB.out).mono ?_
        rintro e w8 ⟨rfl, hv⟩
        replace kw := chain kw hv
        replace hA2 := I.keep hA2 hv
        clear hv hx7
        go_wp2_with fail
        refine (LEN2.out _ _ hA2).mono ?_
        rintro e w9 ⟨rfl, hv⟩
        replace kw := chain kw hv
        replace hA2 := I.keep hA2 hv
        clear hv hk w5 w6 hfit
        go_wp2_with fail
        go_roundw
        case rel => exact ⟨j + 1, D2, F2, by omega, by omega, by go_num, kw, hA2, low, OKH.out, E4.out, E23.out.1, E23.out.2, by rw [HN2.out]; exact b2⟩
        case measure => simp [intOf]; omega
      · have hfd : decide ((n : Int) - nW + mB ≤ R) = false := decide_eq_false hfit
        have hfl : R < (n : Int) - nW + mB := by omega
        have e1 := PR2.out (by omega)
        have PU := PUT.out
        rw [e1] at PU
        simp only [] at PU
        have PUH := Lib.hid PU
        clear e1 PU
        go_wp2_with fail
        refine (PUH.out _ _ _ hA (HB1.out.keep kw)).mono ?_
        rintro e w6' ⟨F2, rfl, hA2, hs2⟩
        have low := hs2.low hF kw.size
        replace kw := kw.trans (hs2.below hF kw.size)
        replace hx4 := hs2.owned hx4 hFlt
        clear hs2 hA hFlt
        go_wp2_with fail
        refine (GET.out _ _ hA2).mono ?_
        rintro e w7 ⟨v7, rfl, hx7, hv⟩
        replace kw := chain kw hv
        replace hA2 := I.keep hA2 hv
        replace hx4 := own_keep8 hx4 hv
        obtain ⟨p7, c7, rfl⟩ := own_form hx7
        rw [HNW.out] at hx7 ⊢
        clear hv
        go_wp2_with fail
        refine (LEN.out _ _ hA2).mono ?_
        rintro e w8 ⟨rfl, hv⟩
        replace kw := chain kw hv
        replace hA2 := I.keep hA2 hv
        replace hx4 := own_keep8 hx4 hv
        replace hx7 := own_keep8 hx7 hv
        clear hv
        go_wp2_with fail
        refine (r6_same _ _ W W _ (byts_of_owned (by rw [HNW.out]; exact hx7)) (byts_of_owned (by rw [HNW.out]; exact hx4)) OW.out OW.out).mono ?_
        rintro e w9 ⟨rfl, hv⟩
        replace kw := chain kw hv
        replace hA2 := I.keep hA2 hv
        clear hv hx4 hx7
        go_wp2_with fail
        refine (LEN.out _ _ hA2).mono ?_
        rintro e w10 ⟨rfl, hv⟩
        replace kw := chain kw hv
        replace hA2 := I.keep hA2 hv
        clear hv hk w5 w6 hfit hfd hfl
        go_wp2_with fail
        go_roundw
        case rel => exact ⟨j + 1, st, F2, by omega, by omega, by go_num, kw, hA2, low, OK0.out.mono (Nat.le_succ _) (by omega), HROOM.out, HW.out.1, HW.out.2, by rw [HHN.out]; exact hsum⟩
        case measure => simp [intOf]; omega
    · have gen : (j < N ∧ ¬ j < 10) ∨ ¬ j < N := by omega
      clear hA hF hroom hwait hfails hsum ok
      rcases gen with ⟨g1, g2⟩ | g1
      all_goals
        go_wp2_with fail
        refine (l8_lives I _).mono ?_
        rintro e w9 ⟨rfl, hv9⟩
        go_wp2
        go_ret
        exact ⟨rfl, chain kw hv9⟩
end Go.Proofs.Ytkephcmjigfepaa
