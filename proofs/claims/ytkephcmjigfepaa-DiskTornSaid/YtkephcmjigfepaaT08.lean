/- DiskFails, over what is asked of the disk. Written by gen_t08.py. -/
import Derived.Test.YtkephcmjigfepaaK85
import Derived.Test.YtkephcmjigfepaaO81
set_option linter.unusedVariables false
set_option linter.unusedSimpArgs false
namespace Go.Proofs.Ytkephcmjigfepaa
open Go.ChangeShapes Go.WideShapes Go.ChangeAt Go.RowKit
/-- How often it fails, and whether it waits, behind i deeds. -/
def FInv (n : Int) (i : Nat) (d : St) : Prop :=
  (n < 0 ∧ i = 0 ∧ d.wait = 1 ∧ d.fails = -n) ∨ (n < 0 ∧ 1 ≤ i ∧ d.wait = 0 ∧ d.fails = max (-n - ((i : Int) - 1)) 0) ∨ (0 ≤ n ∧ d.wait = 0 ∧ d.fails = max (n - i) 0)
theorem FInv.start {d : St} {n : Int} (h0 : -5 ≤ n) (h1 : n ≤ 5) : FInv n 0 (failSt d n) := by
  unfold FInv
  by_cases c : n < 0
  · refine .inl ⟨c, rfl, ?_, ?_⟩
    · unfold failSt failF; rw [if_pos c]
    · have e : (failSt d n).fails = (if -(n + 1) < 1048575 then -(n + 1) else 1048575) + 1 := by unfold failSt failF; rw [if_pos c]
      rw [e, if_pos (by omega)]
      omega
  · refine .inr (.inr ⟨by omega, ?_, ?_⟩)
    · unfold failSt failF; rw [if_neg c]
    · have e : (failSt d n).fails = n := by unfold failSt failF; rw [if_neg c]
      rw [e]
      omega
theorem asked_wait {d : St} (h : 0 < d.wait) : d.falls = false ∧ d.asked.fails = d.fails ∧ d.asked.wait = 0 := by
  unfold St.falls St.asked askF
  rw [if_pos h]
  exact ⟨rfl, rfl, rfl⟩
theorem asked_fall {d : St} (h : ¬ 0 < d.wait) (h2 : 0 < d.fails) : d.falls = true ∧ d.asked.fails = d.fails - 1 ∧ d.asked.wait = d.wait := by
  unfold St.falls St.asked askF
  rw [if_neg h, if_pos h2]
  exact ⟨rfl, rfl, rfl⟩
theorem asked_pass {d : St} (h : ¬ 0 < d.wait) (h2 : ¬ 0 < d.fails) : d.falls = false ∧ d.asked.fails = d.fails ∧ d.asked.wait = d.wait := by
  unfold St.falls St.asked askF
  rw [if_neg h, if_neg h2]
  exact ⟨rfl, rfl, rfl⟩
theorem FInv.step {d : St} {n : Int} {i : Nat} (h : FInv n i d) : FInv n (i + 1) d.asked ∧ (d.falls = true ↔ ((i : Int) < n ∨ (n < 0 ∧ 1 ≤ i ∧ (i : Int) ≤ -n))) := by
  unfold FInv at *
  by_cases a : 0 < d.wait
  · obtain ⟨e1, e2, e3⟩ := asked_wait a
    rw [e1, e2, e3]
    refine ⟨by omega, ⟨fun h => (by cases h), fun h => (by omega)⟩⟩
  · by_cases b : 0 < d.fails
    · obtain ⟨e1, e2, e3⟩ := asked_fall a b
      rw [e1, e2, e3]
      exact ⟨by omega, ⟨fun _ => by omega, fun _ => rfl⟩⟩
    · obtain ⟨e1, e2, e3⟩ := asked_pass a b
      rw [e1, e2, e3]
      exact ⟨by omega, ⟨fun h => (by cases h), fun h => (by omega)⟩⟩
/-- It depends on these two alone. -/
theorem FInv.of {d d' : St} {n : Int} {i : Nat} (h : FInv n i d) (e1 : d'.wait = d.wait) (e2 : d'.fails = d.fails) : FInv n i d' := by
  unfold FInv at *
  rw [e1, e2]
  exact h
set_option maxHeartbeats 16000000 in
theorem diskFails_core (I : DiskI) (w : World) (n0 : Int) (hn0 : i64 n0) (v : Value) (hd : BoolsIn w v) : Calls Try.prog 6 #[.int .i64 n0, v] w fun e w' => e = .returned (.bool true) ∧ Below w.heap.size w w' := by
  obtain ⟨l, hl, hlen⟩ := hd
  obtain ⟨p, cap, rfl, hf⟩ := hl.form
  obtain ⟨N, hN⟩ : ∃ N, l.length = N := ⟨_, rfl⟩
  have ar := around_bd n0 11 (by omega)
  have an := fun u => r_around n0 11 hn0.1 hn0.2 (by omega) (by omega) u
  obtain ⟨Z, hZ⟩ : ∃ Z, aroundF n0 11 = Z := ⟨_, rfl⟩
  rw [hZ] at ar an
  have wZ : IntKind.i64.wrap (Z - 5) = Z - 5 := IntWalk.i64_in _ (by omega)
  obtain ⟨n, hn⟩ : ∃ n, Z - 5 = n := ⟨_, rfl⟩
  have bn0 : -5 ≤ n := by omega
  have bn1 : n ≤ 5 := by omega
  have wn : IntKind.i64.wrap (-n) = -n := IntWalk.i64_in _ (by omega)
  have AN := Lib.hid an
  have HF := Lib.hid hf
  have HN := Lib.hid hN
  unfold maxLen at hlen
  rw [hN] at hlen ⊢
  clear hZ an hf hN hl
  have i1000 : i64 1000 := ⟨by decide, by decide⟩
  go_enter Try.func6, Try.ntmps6
  go_wp2_with (go_at_call 9; refine (AN.out _).mono ?_; rintro e w' ⟨rfl, rfl⟩)
  refine (I.new 1000 w i1000).mono ?_
  rintro e w1 ⟨pd, F1, rfl, hA1, hF1, k1⟩
  obtain ⟨pa, rfl⟩ := I.ptr hA1
  go_wp2_with fail
  refine (I.fail w1 F1 _ _ n hA1 ⟨by omega, by omega⟩).mono ?_
  rintro e w2 ⟨F2, rv, rfl, hA2, hs2⟩
  have hF2 := hs2.low hF1 k1.size
  have k2 := k1.trans (hs2.below hF1 k1.size)
  have ok0 := (StOk.new i1000).fail n (by omega)
  have fi0 : FInv n 0 (failSt (newSt 1000) n) := FInv.start bn0 bn1
  obtain ⟨st0, hst0⟩ : ∃ s, failSt (newSt 1000) n = s := ⟨_, rfl⟩
  have hr0 : st0.room = 1000 := by rw [← hst0]; rfl
  rw [hst0] at hA2 ok0 fi0
  clear hs2 hA1 hF1 k1 hst0 wZ
  have HR0 := Lib.hid hr0
  have FI0 := Lib.hid fi0
  clear hr0 fi0 hn
  go_wp2_with fail
  go_loopw [6] (fun i wr => ∃ (j : Nat) (st : St) (F : Foot), j ≤ N ∧ j ≤ 12 ∧ i = .int .i64 j ∧ Below w.heap.size w wr ∧ I.At wr F (.pointer (some pa)) st ∧ (∀ b, F b → w.heap.size ≤ b) ∧ StOk st j (2 * j) ∧ st.room = 1000 ∧ FInv n j st) (fun i _ => N - (intOf i).toNat)
  case atStart => exact ⟨0, st0, F2, by omega, by omega, rfl, k2, hA2, hF2, ok0, HR0.out, FI0.out⟩
  case round =>
    clear hA2 hF2 ok0 k2
    obtain ⟨j, st, F, hj, hj12, rfl, kw, hA, hF, ok, hroom, hfi⟩ := hrel
    by_cases hlt : j < N ∧ j < 12
    · obtain ⟨hlt, h12⟩ := hlt
      obtain ⟨g, off, rfl, hc, hg, hx⟩ := HF.out (by rw [HN.out]; omega)
      rw [HN.out] at hc
      have hjl : j < l.length := by rw [HN.out]; exact hlt
      have x0 := hx j hjl
      obtain ⟨bq, hbq⟩ : ∃ x, l[j] = x := ⟨_, rfl⟩
      rw [hbq] at x0
      have bj : (j : Int) < N := by omega
      have bj2 : (j : Int) < 12 := by omega
      have ij : i64 (j : Int) := by constructor <;> omega
      have o12 : bytOk [1, 2] := bytOk_small rfl
      obtain ⟨fi2, hfalls⟩ := hfi.step
      have okP := (ok.put (k := (j : Int)) ij o12).mono (Nat.le_refl _) (show 2 * j + [1, 2].length ≤ 2 * (j + 1) by simp; omega)
      have okS := ok.sync.mono (Nat.le_succ j) (show 2 * j ≤ 2 * (j + 1) by omega)
      have hsum := ok.sum
      have hroomP : ¬ st.room < (sumB (layF st.all ((j : Int), [1, 2])) : Int) := by
        have a := layF_sum st.all ((j : Int), [1, 2])
        have b := nowF_sum st.under st.safe
        unfold St.all at *
        simp at a
        omega
      have eP : putSt st (j : Int) [1, 2] = if st.falls = true then (st.asked, 9) else ({ st.asked with under := st.under ++ [((j : Int), [1, 2])] }, 0) := by
        by_cases c : st.falls = true
        · rw [if_pos c]
          exact if_pos c
        · rw [if_neg c]
          exact (if_neg c).trans (if_neg hroomP)
      have eS : syncSt st = if st.falls = true then (st.asked, 9) else ({ st.asked with safe := st.all, under := [] }, 0) := rfl
      have y0 := keepc kw hg x0
      have zg : g < wr.heap.size := Nat.lt_of_lt_of_le hg kw.size
      have LEFT := Lib.hid (fun u (F : Foot) (hu : I.At u F (.pointer pa) st) => I.left u F _ st j (2 * j) hu ok (by omega) (by omega))
      have PUT := Lib.hid (fun u (F : Foot) vb (hu : I.At u F (.pointer pa) st) (hb : BytsAt u vb [1, 2]) => I.put u F _ st (j : Int) vb [1, 2] j (2 * j) hu ok (by omega) (by omega) ij hb o12 (by decide))
      have SYNC := Lib.hid (fun u (F : Foot) (hu : I.At u F (.pointer pa) st) => I.sync u F _ st j (2 * j) hu ok (by omega) (by omega))
      have HFALLS := Lib.hid hfalls
      have EP := Lib.hid eP
      have ES := Lib.hid eS
      have OKP := Lib.hid okP
      have OKS := Lib.hid okS
      have FI2 := Lib.hid fi2
      have HROOM := Lib.hid hroom
      have OK0 := Lib.hid ok
      clear hx hbq hfi okP okS hroomP eP eS hsum hfalls fi2 hroom ok
      have cases5 : ((j : Int) < n) ∨ (¬ (j : Int) < n ∧ ¬ n < 0) ∨ (¬ (j : Int) < n ∧ n < 0 ∧ ¬ 1 ≤ (j : Int)) ∨ (¬ (j : Int) < n ∧ n < 0 ∧ 1 ≤ (j : Int) ∧ (j : Int) ≤ -n) ∨ (¬ (j : Int) < n ∧ n < 0 ∧ 1 ≤ (j : Int) ∧ ¬ (j : Int) ≤ -n) := by omega
      have C5 := Lib.hid cases5
      clear cases5
      rcases C5.out with c1 | ⟨c1, c2⟩ | ⟨c1, c2, c3⟩ | ⟨c1, c2, c3, c4⟩ | ⟨c1, c2, c3, c4⟩
      · by_cases hb0 : bq = true
        · subst hb0
          have hfl : st.falls = true := HFALLS.out.2 (by omega)
          have he := EP.out
          rw [hfl] at he
          have he : putSt st (j : Int) [1, 2] = (st.asked, 9) := he
          have ok2 := OKP.out
          rw [he] at ok2
          have OP := PUT.out
          rw [he] at OP
          simp only [] at OP ok2
          have OPH := Lib.hid OP
          clear OP he
          have le : sumB st.asked.under = sumB st.under := rfl
          have rm : st.asked.room = 1000 := HROOM.out
          have fi := FI2.out
          obtain ⟨D2, hD2⟩ : ∃ d, st.asked = d := ⟨_, rfl⟩
          rw [hD2] at OPH ok2 le rm fi
          have LEFT2 := Lib.hid (fun u (F : Foot) (hu : I.At u F (.pointer pa) D2) => I.left u F _ D2 (j + 1) (2 * (j + 1)) hu ok2 (by omega) (by omega))
          rw [le] at LEFT2
          clear hD2 le
          have RM := Lib.hid rm
          have FI := Lib.hid fi
          have OK2 := Lib.hid ok2
          clear rm fi ok2 hfl
          go_wp2_with fail
          refine (LEFT.out _ _ hA).mono ?_
          rintro e w3 ⟨rfl, hv⟩
          have kB := chain kw hv
          have hA3 := I.keep hA hv
          have y1 := keepc hv zg y0
          have zg1 := size_lt zg hv
          clear hv
          go_wp2_with fail
          obtain ⟨u3, hu3⟩ : ∃ u, w3.alloc (.cells #[.int .u8 1, .int .u8 2] 5) = u := ⟨_, rfl⟩
          have kv : Below w3.heap.size w3 u3 := by rw [← hu3]; exact al (Below.refl _ _) _
          have hb : BytsAt u3 (.slice (some ⟨w3.heap.size, 0, none⟩) 2 2) [1, 2] := byts_row (l := [1, 2]) (by rw [← hu3]; exact RowAt.new w3 #[.int .u8 1, .int .u8 2] _) rfl
          rw [hu3]
          replace kB := chain kB kv
          refine (OPH.out _ _ _ (I.keep hA3 kv) hb).mono ?_
          rintro e w4 ⟨F4, rfl, hA4, hs4⟩
          clear hu3 kv hb
          have low := hs4.low hF kB.size
          replace kB := kB.trans (hs4.below hF kB.size)
          clear hs4 hA3 y1 zg1
          go_wp2_with fail
          refine (LEFT2.out _ _ hA4).mono ?_
          rintro e w5 ⟨rfl, hv⟩
          replace kB := chain kB hv
          replace hA4 := I.keep hA4 hv
          clear hv
          go_wp2_with fail
          go_roundw
          case rel => exact ⟨j + 1, D2, F4, by omega, by omega, by go_num, kB, hA4, low, OK2.out, RM.out, FI.out⟩
          case measure => simp [intOf]; omega
        · replace hb0 : bq = false := by simpa using hb0
          subst hb0
          have hfl : st.falls = true := HFALLS.out.2 (by omega)
          have he := ES.out
          rw [hfl] at he
          have he : syncSt st = (st.asked, 9) := he
          have ok2 := OKS.out
          rw [he] at ok2
          have OP := SYNC.out
          rw [he] at OP
          simp only [] at OP ok2
          have OPH := Lib.hid OP
          clear OP he
          have le : sumB st.asked.under = sumB st.under := rfl
          have rm : st.asked.room = 1000 := HROOM.out
          have fi := FI2.out
          obtain ⟨D2, hD2⟩ : ∃ d, st.asked = d := ⟨_, rfl⟩
          rw [hD2] at OPH ok2 le rm fi
          have LEFT2 := Lib.hid (fun u (F : Foot) (hu : I.At u F (.pointer pa) D2) => I.left u F _ D2 (j + 1) (2 * (j + 1)) hu ok2 (by omega) (by omega))
          rw [le] at LEFT2
          clear hD2 le
          have RM := Lib.hid rm
          have FI := Lib.hid fi
          have OK2 := Lib.hid ok2
          clear rm fi ok2 hfl
          go_wp2_with fail
          refine (LEFT.out _ _ hA).mono ?_
          rintro e w3 ⟨rfl, hv⟩
          have kB := chain kw hv
          have hA3 := I.keep hA hv
          have y1 := keepc hv zg y0
          have zg1 := size_lt zg hv
          clear hv
          go_wp2_with fail
          refine (OPH.out _ _ hA3).mono ?_
          rintro e w4 ⟨F4, rfl, hA4, hs4⟩
          have low := hs4.low hF kB.size
          replace kB := kB.trans (hs4.below hF kB.size)
          clear hs4 hA3 y1 zg1
          go_wp2_with fail
          refine (LEFT2.out _ _ hA4).mono ?_
          rintro e w5 ⟨rfl, hv⟩
          replace kB := chain kB hv
          replace hA4 := I.keep hA4 hv
          clear hv
          go_wp2_with fail
          go_roundw
          case rel => exact ⟨j + 1, D2, F4, by omega, by omega, by go_num, kB, hA4, low, OK2.out, RM.out, FI.out⟩
          case measure => simp [intOf]; omega
      · by_cases hb0 : bq = true
        · subst hb0
          have hfl : st.falls = false := by
            cases h : st.falls with
            | false => rfl
            | true => exact absurd (HFALLS.out.1 h) (by omega)
          have he := EP.out
          rw [hfl] at he
          have he : putSt st (j : Int) [1, 2] = ({ st.asked with under := st.under ++ [((j : Int), [1, 2])] }, 0) := he
          have ok2 := OKP.out
          rw [he] at ok2
          have OP := PUT.out
          rw [he] at OP
          simp only [] at OP ok2
          have OPH := Lib.hid OP
          clear OP he
          have rm : ({ st.asked with under := st.under ++ [((j : Int), [1, 2])] } : St).room = 1000 := HROOM.out
          have fi : FInv n (j + 1) { st.asked with under := st.under ++ [((j : Int), [1, 2])] } := FI2.out.of rfl rfl
          obtain ⟨D2, hD2⟩ : ∃ d : St, { st.asked with under := st.under ++ [((j : Int), [1, 2])] } = d := ⟨_, rfl⟩
          rw [hD2] at OPH ok2 rm fi
          clear hD2
          have RM := Lib.hid rm
          have FI := Lib.hid fi
          have OK2 := Lib.hid ok2
          clear rm fi ok2 hfl
          go_wp2_with fail
          refine (LEFT.out _ _ hA).mono ?_
          rintro e w3 ⟨rfl, hv⟩
          have kB := chain kw hv
          have hA3 := I.keep hA hv
          have y1 := keepc hv zg y0
          have zg1 := size_lt zg hv
          clear hv
          go_wp2_with fail
          obtain ⟨u3, hu3⟩ : ∃ u, w3.alloc (.cells #[.int .u8 1, .int .u8 2] 5) = u := ⟨_, rfl⟩
          have kv : Below w3.heap.size w3 u3 := by rw [← hu3]; exact al (Below.refl _ _) _
          have hb : BytsAt u3 (.slice (some ⟨w3.heap.size, 0, none⟩) 2 2) [1, 2] := byts_row (l := [1, 2]) (by rw [← hu3]; exact RowAt.new w3 #[.int .u8 1, .int .u8 2] _) rfl
          rw [hu3]
          replace kB := chain kB kv
          refine (OPH.out _ _ _ (I.keep hA3 kv) hb).mono ?_
          rintro e w4 ⟨F4, rfl, hA4, hs4⟩
          clear hu3 kv hb
          have low := hs4.low hF kB.size
          replace kB := kB.trans (hs4.below hF kB.size)
          clear hs4 hA3 y1 zg1
          go_wp2_with fail
          go_roundw
          case rel => exact ⟨j + 1, D2, F4, by omega, by omega, by go_num, kB, hA4, low, OK2.out, RM.out, FI.out⟩
          case measure => simp [intOf]; omega
        · replace hb0 : bq = false := by simpa using hb0
          subst hb0
          have hfl : st.falls = false := by
            cases h : st.falls with
            | false => rfl
            | true => exact absurd (HFALLS.out.1 h) (by omega)
          have he := ES.out
          rw [hfl] at he
          have he : syncSt st = ({ st.asked with safe := st.all, under := [] }, 0) := he
          have ok2 := OKS.out
          rw [he] at ok2
          have OP := SYNC.out
          rw [he] at OP
          simp only [] at OP ok2
          have OPH := Lib.hid OP
          clear OP he
          have rm : ({ st.asked with safe := st.all, under := [] } : St).room = 1000 := HROOM.out
          have fi : FInv n (j + 1) { st.asked with safe := st.all, under := [] } := FI2.out.of rfl rfl
          obtain ⟨D2, hD2⟩ : ∃ d : St, { st.asked with safe := st.all, under := [] } = d := ⟨_, rfl⟩
          rw [hD2] at OPH ok2 rm fi
          clear hD2
          have RM := Lib.hid rm
          have FI := Lib.hid fi
          have OK2 := Lib.hid ok2
          clear rm fi ok2 hfl
          go_wp2_with fail
          refine (LEFT.out _ _ hA).mono ?_
          rintro e w3 ⟨rfl, hv⟩
          have kB := chain kw hv
          have hA3 := I.keep hA hv
          have y1 := keepc hv zg y0
          have zg1 := size_lt zg hv
          clear hv
          go_wp2_with fail
          refine (OPH.out _ _ hA3).mono ?_
          rintro e w4 ⟨F4, rfl, hA4, hs4⟩
          have low := hs4.low hF kB.size
          replace kB := kB.trans (hs4.below hF kB.size)
          clear hs4 hA3 y1 zg1
          go_wp2_with fail
          go_roundw
          case rel => exact ⟨j + 1, D2, F4, by omega, by omega, by go_num, kB, hA4, low, OK2.out, RM.out, FI.out⟩
          case measure => simp [intOf]; omega
      · by_cases hb0 : bq = true
        · subst hb0
          have hfl : st.falls = false := by
            cases h : st.falls with
            | false => rfl
            | true => exact absurd (HFALLS.out.1 h) (by omega)
          have he := EP.out
          rw [hfl] at he
          have he : putSt st (j : Int) [1, 2] = ({ st.asked with under := st.under ++ [((j : Int), [1, 2])] }, 0) := he
          have ok2 := OKP.out
          rw [he] at ok2
          have OP := PUT.out
          rw [he] at OP
          simp only [] at OP ok2
          have OPH := Lib.hid OP
          clear OP he
          have rm : ({ st.asked with under := st.under ++ [((j : Int), [1, 2])] } : St).room = 1000 := HROOM.out
          have fi : FInv n (j + 1) { st.asked with under := st.under ++ [((j : Int), [1, 2])] } := FI2.out.of rfl rfl
          obtain ⟨D2, hD2⟩ : ∃ d : St, { st.asked with under := st.under ++ [((j : Int), [1, 2])] } = d := ⟨_, rfl⟩
          rw [hD2] at OPH ok2 rm fi
          clear hD2
          have RM := Lib.hid rm
          have FI := Lib.hid fi
          have OK2 := Lib.hid ok2
          clear rm fi ok2 hfl
          go_wp2_with fail
          refine (LEFT.out _ _ hA).mono ?_
          rintro e w3 ⟨rfl, hv⟩
          have kB := chain kw hv
          have hA3 := I.keep hA hv
          have y1 := keepc hv zg y0
          have zg1 := size_lt zg hv
          clear hv
          go_wp2_with fail
          obtain ⟨u3, hu3⟩ : ∃ u, w3.alloc (.cells #[.int .u8 1, .int .u8 2] 5) = u := ⟨_, rfl⟩
          have kv : Below w3.heap.size w3 u3 := by rw [← hu3]; exact al (Below.refl _ _) _
          have hb : BytsAt u3 (.slice (some ⟨w3.heap.size, 0, none⟩) 2 2) [1, 2] := byts_row (l := [1, 2]) (by rw [← hu3]; exact RowAt.new w3 #[.int .u8 1, .int .u8 2] _) rfl
          rw [hu3]
          replace kB := chain kB kv
          refine (OPH.out _ _ _ (I.keep hA3 kv) hb).mono ?_
          rintro e w4 ⟨F4, rfl, hA4, hs4⟩
          clear hu3 kv hb
          have low := hs4.low hF kB.size
          replace kB := kB.trans (hs4.below hF kB.size)
          clear hs4 hA3 y1 zg1
          go_wp2_with fail
          go_roundw
          case rel => exact ⟨j + 1, D2, F4, by omega, by omega, by go_num, kB, hA4, low, OK2.out, RM.out, FI.out⟩
          case measure => simp [intOf]; omega
        · replace hb0 : bq = false := by simpa using hb0
          subst hb0
          have hfl : st.falls = false := by
            cases h : st.falls with
            | false => rfl
            | true => exact absurd (HFALLS.out.1 h) (by omega)
          have he := ES.out
          rw [hfl] at he
          have he : syncSt st = ({ st.asked with safe := st.all, under := [] }, 0) := he
          have ok2 := OKS.out
          rw [he] at ok2
          have OP := SYNC.out
          rw [he] at OP
          simp only [] at OP ok2
          have OPH := Lib.hid OP
          clear OP he
          have rm : ({ st.asked with safe := st.all, under := [] } : St).room = 1000 := HROOM.out
          have fi : FInv n (j + 1) { st.asked with safe := st.all, under := [] } := FI2.out.of rfl rfl
          obtain ⟨D2, hD2⟩ : ∃ d : St, { st.asked with safe := st.all, under := [] } = d := ⟨_, rfl⟩
          rw [hD2] at OPH ok2 rm fi
          clear hD2
          have RM := Lib.hid rm
          have FI := Lib.hid fi
          have OK2 := Lib.hid ok2
          clear rm fi ok2 hfl
          go_wp2_with fail
          refine (LEFT.out _ _ hA).mono ?_
          rintro e w3 ⟨rfl, hv⟩
          have kB := chain kw hv
          have hA3 := I.keep hA hv
          have y1 := keepc hv zg y0
          have zg1 := size_lt zg hv
          clear hv
          go_wp2_with fail
          refine (OPH.out _ _ hA3).mono ?_
          rintro e w4 ⟨F4, rfl, hA4, hs4⟩
          have low := hs4.low hF kB.size
          replace kB := kB.trans (hs4.below hF kB.size)
          clear hs4 hA3 y1 zg1
          go_wp2_with fail
          go_roundw
          case rel => exact ⟨j + 1, D2, F4, by omega, by omega, by go_num, kB, hA4, low, OK2.out, RM.out, FI.out⟩
          case measure => simp [intOf]; omega
      · by_cases hb0 : bq = true
        · subst hb0
          have hfl : st.falls = true := HFALLS.out.2 (by omega)
          have he := EP.out
          rw [hfl] at he
          have he : putSt st (j : Int) [1, 2] = (st.asked, 9) := he
          have ok2 := OKP.out
          rw [he] at ok2
          have OP := PUT.out
          rw [he] at OP
          simp only [] at OP ok2
          have OPH := Lib.hid OP
          clear OP he
          have le : sumB st.asked.under = sumB st.under := rfl
          have rm : st.asked.room = 1000 := HROOM.out
          have fi := FI2.out
          obtain ⟨D2, hD2⟩ : ∃ d, st.asked = d := ⟨_, rfl⟩
          rw [hD2] at OPH ok2 le rm fi
          have LEFT2 := Lib.hid (fun u (F : Foot) (hu : I.At u F (.pointer pa) D2) => I.left u F _ D2 (j + 1) (2 * (j + 1)) hu ok2 (by omega) (by omega))
          rw [le] at LEFT2
          clear hD2 le
          have RM := Lib.hid rm
          have FI := Lib.hid fi
          have OK2 := Lib.hid ok2
          clear rm fi ok2 hfl
          go_wp2_with fail
          refine (LEFT.out _ _ hA).mono ?_
          rintro e w3 ⟨rfl, hv⟩
          have kB := chain kw hv
          have hA3 := I.keep hA hv
          have y1 := keepc hv zg y0
          have zg1 := size_lt zg hv
          clear hv
          go_wp2_with fail
          obtain ⟨u3, hu3⟩ : ∃ u, w3.alloc (.cells #[.int .u8 1, .int .u8 2] 5) = u := ⟨_, rfl⟩
          have kv : Below w3.heap.size w3 u3 := by rw [← hu3]; exact al (Below.refl _ _) _
          have hb : BytsAt u3 (.slice (some ⟨w3.heap.size, 0, none⟩) 2 2) [1, 2] := byts_row (l := [1, 2]) (by rw [← hu3]; exact RowAt.new w3 #[.int .u8 1, .int .u8 2] _) rfl
          rw [hu3]
          replace kB := chain kB kv
          refine (OPH.out _ _ _ (I.keep hA3 kv) hb).mono ?_
          rintro e w4 ⟨F4, rfl, hA4, hs4⟩
          clear hu3 kv hb
          have low := hs4.low hF kB.size
          replace kB := kB.trans (hs4.below hF kB.size)
          clear hs4 hA3 y1 zg1
          go_wp2_with fail
          refine (LEFT2.out _ _ hA4).mono ?_
          rintro e w5 ⟨rfl, hv⟩
          replace kB := chain kB hv
          replace hA4 := I.keep hA4 hv
          clear hv
          go_wp2_with fail
          go_roundw
          case rel => exact ⟨j + 1, D2, F4, by omega, by omega, by go_num, kB, hA4, low, OK2.out, RM.out, FI.out⟩
          case measure => simp [intOf]; omega
        · replace hb0 : bq = false := by simpa using hb0
          subst hb0
          have hfl : st.falls = true := HFALLS.out.2 (by omega)
          have he := ES.out
          rw [hfl] at he
          have he : syncSt st = (st.asked, 9) := he
          have ok2 := OKS.out
          rw [he] at ok2
          have OP := SYNC.out
          rw [he] at OP
          simp only [] at OP ok2
          have OPH := Lib.hid OP
          clear OP he
          have le : sumB st.asked.under = sumB st.under := rfl
          have rm : st.asked.room = 1000 := HROOM.out
          have fi := FI2.out
          obtain ⟨D2, hD2⟩ : ∃ d, st.asked = d := ⟨_, rfl⟩
          rw [hD2] at OPH ok2 le rm fi
          have LEFT2 := Lib.hid (fun u (F : Foot) (hu : I.At u F (.pointer pa) D2) => I.left u F _ D2 (j + 1) (2 * (j + 1)) hu ok2 (by omega) (by omega))
          rw [le] at LEFT2
          clear hD2 le
          have RM := Lib.hid rm
          have FI := Lib.hid fi
          have OK2 := Lib.hid ok2
          clear rm fi ok2 hfl
          go_wp2_with fail
          refine (LEFT.out _ _ hA).mono ?_
          rintro e w3 ⟨rfl, hv⟩
          have kB := chain kw hv
          have hA3 := I.keep hA hv
          have y1 := keepc hv zg y0
          have zg1 := size_lt zg hv
          clear hv
          go_wp2_with fail
          refine (OPH.out _ _ hA3).mono ?_
          rintro e w4 ⟨F4, rfl, hA4, hs4⟩
          have low := hs4.low hF kB.size
          replace kB := kB.trans (hs4.below hF kB.size)
          clear hs4 hA3 y1 zg1
          go_wp2_with fail
          refine (LEFT2.out _ _ hA4).mono ?_
          rintro e w5 ⟨rfl, hv⟩
          replace kB := chain kB hv
          replace hA4 := I.keep hA4 hv
          clear hv
          go_wp2_with fail
          go_roundw
          case rel => exact ⟨j + 1, D2, F4, by omega, by omega, by go_num, kB, hA4, low, OK2.out, RM.out, FI.out⟩
          case measure => simp [intOf]; omega
      · by_cases hb0 : bq = true
        · subst hb0
          have hfl : st.falls = false := by
            cases h : st.falls with
            | false => rfl
            | true => exact absurd (HFALLS.out.1 h) (by omega)
          have he := EP.out
          rw [hfl] at he
          have he : putSt st (j : Int) [1, 2] = ({ st.asked with under := st.under ++ [((j : Int), [1, 2])] }, 0) := he
          have ok2 := OKP.out
          rw [he] at ok2
          have OP := PUT.out
          rw [he] at OP
          simp only [] at OP ok2
          have OPH := Lib.hid OP
          clear OP he
          have rm : ({ st.asked with under := st.under ++ [((j : Int), [1, 2])] } : St).room = 1000 := HROOM.out
          have fi : FInv n (j + 1) { st.asked with under := st.under ++ [((j : Int), [1, 2])] } := FI2.out.of rfl rfl
          obtain ⟨D2, hD2⟩ : ∃ d : St, { st.asked with under := st.under ++ [((j : Int), [1, 2])] } = d := ⟨_, rfl⟩
          rw [hD2] at OPH ok2 rm fi
          clear hD2
          have RM := Lib.hid rm
          have FI := Lib.hid fi
          have OK2 := Lib.hid ok2
          clear rm fi ok2 hfl
          go_wp2_with fail
          refine (LEFT.out _ _ hA).mono ?_
          rintro e w3 ⟨rfl, hv⟩
          have kB := chain kw hv
          have hA3 := I.keep hA hv
          have y1 := keepc hv zg y0
          have zg1 := size_lt zg hv
          clear hv
          go_wp2_with fail
          obtain ⟨u3, hu3⟩ : ∃ u, w3.alloc (.cells #[.int .u8 1, .int .u8 2] 5) = u := ⟨_, rfl⟩
          have kv : Below w3.heap.size w3 u3 := by rw [← hu3]; exact al (Below.refl _ _) _
          have hb : BytsAt u3 (.slice (some ⟨w3.heap.size, 0, none⟩) 2 2) [1, 2] := byts_row (l := [1, 2]) (by rw [← hu3]; exact RowAt.new w3 #[.int .u8 1, .int .u8 2] _) rfl
          rw [hu3]
          replace kB := chain kB kv
          refine (OPH.out _ _ _ (I.keep hA3 kv) hb).mono ?_
          rintro e w4 ⟨F4, rfl, hA4, hs4⟩
          clear hu3 kv hb
          have low := hs4.low hF kB.size
          replace kB := kB.trans (hs4.below hF kB.size)
          clear hs4 hA3 y1 zg1
          go_wp2_with fail
          go_roundw
          case rel => exact ⟨j + 1, D2, F4, by omega, by omega, by go_num, kB, hA4, low, OK2.out, RM.out, FI.out⟩
          case measure => simp [intOf]; omega
        · replace hb0 : bq = false := by simpa using hb0
          subst hb0
          have hfl : st.falls = false := by
            cases h : st.falls with
            | false => rfl
            | true => exact absurd (HFALLS.out.1 h) (by omega)
          have he := ES.out
          rw [hfl] at he
          have he : syncSt st = ({ st.asked with safe := st.all, under := [] }, 0) := he
          have ok2 := OKS.out
          rw [he] at ok2
          have OP := SYNC.out
          rw [he] at OP
          simp only [] at OP ok2
          have OPH := Lib.hid OP
          clear OP he
          have rm : ({ st.asked with safe := st.all, under := [] } : St).room = 1000 := HROOM.out
          have fi : FInv n (j + 1) { st.asked with safe := st.all, under := [] } := FI2.out.of rfl rfl
          obtain ⟨D2, hD2⟩ : ∃ d : St, { st.asked with safe := st.all, under := [] } = d := ⟨_, rfl⟩
          rw [hD2] at OPH ok2 rm fi
          clear hD2
          have RM := Lib.hid rm
          have FI := Lib.hid fi
          have OK2 := Lib.hid ok2
          clear rm fi ok2 hfl
          go_wp2_with fail
          refine (LEFT.out _ _ hA).mono ?_
          rintro e w3 ⟨rfl, hv⟩
          have kB := chain kw hv
          have hA3 := I.keep hA hv
          have y1 := keepc hv zg y0
          have zg1 := size_lt zg hv
          clear hv
          go_wp2_with fail
          refine (OPH.out _ _ hA3).mono ?_
          rintro e w4 ⟨F4, rfl, hA4, hs4⟩
          have low := hs4.low hF kB.size
          replace kB := kB.trans (hs4.below hF kB.size)
          clear hs4 hA3 y1 zg1
          go_wp2_with fail
          go_roundw
          case rel => exact ⟨j + 1, D2, F4, by omega, by omega, by go_num, kB, hA4, low, OK2.out, RM.out, FI.out⟩
          case measure => simp [intOf]; omega
    · have gen : (j < N ∧ ¬ j < 12) ∨ ¬ j < N := by omega
      clear hA hF hroom hfi ok
      rcases gen with ⟨g1, g2⟩ | g1
      all_goals
        go_wp2_with fail
        refine (l8_lives I _).mono ?_
        rintro e w9 ⟨rfl, hv9⟩
        go_wp2
        go_ret
        exact ⟨rfl, chain kw hv9⟩
end Go.Proofs.Ytkephcmjigfepaa
