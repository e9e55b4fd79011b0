/- Contracts of layer 6's reference (code): Read. -/
import Derived.Test.YtafmekojdaeliaaDoorR62
set_option linter.unusedVariables false
set_option linter.unusedSimpArgs false
namespace Go.Proofs.YtafmekojdaeliaaDoor
open Go.ChangeShapes Go.WideShapes Go.ChangeAt Go.RowKit
theorem bytes_from {w : World} {g off B cap : Nat} {b : List Int} (h : BytsAt w (.slice (some ⟨g, off, none⟩) B cap) b) (hB : b.length = B) (hc : B ≤ cap) (i : Nat) (hi : i ≤ B) :
    ∃ p, (∀ u, (Instr.sliceAt 25 (.slice (some ⟨g, off, none⟩) B cap) (some (.int .i64 (i : Int))) none none).run Tryd.prog u = .ok (.slice p (B - i) (cap - i)) u) ∧ BytsAt w (.slice p (B - i) (cap - i)) (b.drop i) := by
  refine ⟨if cap = i then some ⟨g, off, none⟩ else some ⟨g, off + i, none⟩, fun u => ?_, ?_⟩
  · have hs : Tryd.prog.cellsOf 5 = 1 := by kernel_rfl
    by_cases hci : cap = i
    · simp [go_sem, *]
    · simp [go_sem, *]
  · by_cases hlt : i < B
    · rw [if_neg (by omega)]
      exact h.drop hlt _ (by omega)
    · obtain rfl : i = B := by omega
      rw [List.drop_of_length_le (by omega), show i - i = 0 by omega]
      exact BytsAt.nil
set_option maxHeartbeats 8000000 in
theorem r6_read (v : Value) (b : List Int) (n : Int) (hn : i64 n) (h0 : 0 ≤ n) (w : World) (hl : BytsAt w v b) (ok : bytOk b) (hL : b.length ≤ 100000) : Calls Tryd.prog 19 #[v, .int .i64 n] w fun e w' =>
    ∃ v', e = .returned (.tuple #[v', .int .i64 (readF b n).1]) ∧ w'.ownsRow w.heap.size 49 2 v' (readF b n).2.length (runVs (readF b n).2) ∧ Below w.heap.size w w' := by
  obtain ⟨i0, hi, hz, hsz, hby⟩ := run_info
  obtain ⟨p, cap, rfl, hf⟩ := hl.form
  obtain ⟨B, hB⟩ : ∃ B, b.length = B := ⟨_, rfl⟩
  obtain ⟨F, hF⟩ : ∃ F, readF b n = F := ⟨_, rfl⟩
  have hF2 : comb [] (readGo (B + 1) none b n) = F := by rw [comb_start, ← hB]; exact hF
  rw [hF]
  have HB := Lib.hid hB
  have HF := Lib.hid hf
  have OK := Lib.hid ok
  have HF2 := Lib.hid hF2
  rw [hB] at hL hl ⊢
  obtain ⟨hn0, hn1⟩ := hn
  clear hB hf ok hF2 hF
  go_enter Tryd.func19, Tryd.ntmps19
  go_wp2_with fail
  go_loopw [1, 6, 7] (fun mm o ii wr => ∃ (L : List Run) (m : Int) (i f : Nat), mm = .int .i64 m ∧ ii = .int .i64 i ∧ (0 ≤ m ∧ m ≤ n) ∧ i ≤ B ∧ L.length ≤ i ∧ B - i + 1 ≤ f ∧ comb L (readGo f (lastP none L) (b.drop i) m) = F ∧
    wr.ownsRow w.heap.size 49 2 o L.length (runVs L) ∧ Below w.heap.size w wr) (fun mm _ _ _ => (intOf mm).toNat)
  case atStart => exact ⟨[], n, 0, B + 1, rfl, rfl, ⟨h0, Int.le_refl _⟩, by omega, by simp, by omega, by simpa [lastP] using HF2.out, World.ownsRow_nil _ _ _ _, Below.refl _ _⟩
  case round =>
    obtain ⟨L, m, i, f, rfl, rfl, ⟨m0, m1⟩, hi1, hLi, hfu, hcb, ho, kw⟩ := hrel
    obtain ⟨f, rfl⟩ : ∃ f', f = f' + 1 := ⟨f - 1, by omega⟩
    by_cases hm : 0 < m
    · by_cases hlt : i < B
      · obtain ⟨g, off, rfl, hc, hgg, hx⟩ := HF.out (by rw [HB.out]; omega)
        have h1 := hx i (by rw [HB.out]; exact hlt)
        have hcap : B ≤ cap := by rw [← HB.out]; exact hc
        have hd : b.drop i = (b[i]'(by rw [HB.out]; exact hlt)) :: b.drop (i + 1) := List.drop_eq_getElem_cons _
        rw [hd, readGo_cons (by omega)] at hcb
        obtain ⟨bo0, bo1⟩ := OK.out (b[i]'(by rw [HB.out]; exact hlt)) (List.getElem_mem _)
        obtain ⟨own, hown⟩ : ∃ x, (b[i]'(by rw [HB.out]; exact hlt)) = x := ⟨_, rfl⟩
        rw [hown] at h1 hcb bo0 bo1
        obtain ⟨P, hrun, hbd⟩ := bytes_from (hl.keep kw) HB.out hcap (i + 1) (by omega)
        have hdg := fun u hu => r6_digits (.slice P (B - (i + 1)) (cap - (i + 1))) (b.drop (i + 1)) u hu (OK.out.drop _) (by rw [List.length_drop, HB.out]; unfold maxLen; omega)
        obtain ⟨sz, hsz1⟩ : ∃ x, (digF (b.drop (i + 1))).1 = x := ⟨_, rfl⟩
        obtain ⟨kk, hkk⟩ : ∃ x, (digF (b.drop (i + 1))).2.1 = x := ⟨_, rfl⟩
        obtain ⟨er, her⟩ : ∃ x, (digF (b.drop (i + 1))).2.2 = x := ⟨_, rfl⟩
        have hnd : er = 0 → (0 ≤ sz ∧ sz ≤ 1048576) ∧ kk.toNat ≤ B - (i + 1) ∧ 1 ≤ kk ∧ kk ≤ 3 := fun h => by
          have h2 : digF (b.drop (i + 1)) = (sz, kk, 0) := by rw [← hsz1, ← hkk, ← h, ← her]
          obtain ⟨q1, q2, q3, q4, _⟩ := num_dig (OK.out.drop (i + 1)) h2
          rw [List.length_drop, HB.out] at q2
          exact ⟨q1, q2, q3, q4⟩
        rw [hsz1, hkk, her] at hcb hdg
        rw [List.drop_drop] at hcb
        obtain ⟨mb, hmb⟩ : ∃ x, mayB own = x := ⟨_, rfl⟩
        have hmy := fun u => r4_may own u
        rw [hmb] at hmy hcb
        have HMY := Lib.hid hmy
        have HDG := Lib.hid hdg
        have HBD := Lib.hid hbd
        have HND := Lib.hid hnd
        have hr1 := fun u => hrun u
        have c1 : wr.cell? ⟨g, off + i, none⟩ = some (.int .u8 own) := keepc kw hgg h1
        have zg : g < wr.heap.size := Nat.lt_of_lt_of_le hgg kw.size
        have bi : (i : Int) < B := by omega
        rw [show ((i + 1 : Nat) : Int) = (i : Int) + 1 by omega] at hr1
        clear hx hd hown hsz1 hkk her hmb hmy hdg hbd hnd hrun h1
        cases mb
        · rw [if_pos rfl, comb_err (by decide)] at hcb
          subst hcb
          go_wp2_with fail
          (refine (HMY.out _).mono ?_; rintro e w1 ⟨rfl, rfl⟩)
          go_wp2_with fail
          go_ret2
          exact ⟨_, rfl, World.ownsRow_nil _ _ _ _, by (repeat (first | with_reducible assumption | with_reducible exact Below.refl _ _ | with_reducible refine Below.drew ?_ | with_reducible refine below_drewN ?_ _ | with_reducible refine al ?_ _ | (with_reducible refine sc ?_ ?_; (focus (first | omega | (simp; done) | (simp; omega)))) | (with_reducible refine chain ?_ (by assumption))))⟩
        · rw [if_neg (by decide)] at hcb
          rcases nil_or_snoc L with rfl | ⟨D, r, pb, hLe⟩
          · rw [if_neg (by simp [lastP])] at hcb
            obtain ⟨p0, c0, rfl⟩ := own_form ho
            simp only [List.length_nil] at ho ⊢
            go_wp2_with fail
            (refine (HMY.out _).mono ?_; rintro e w1 ⟨rfl, rfl⟩)
            go_wp2_with fail
            (refine (HDG.out _ (HBD.out)).mono ?_; rintro e w2 ⟨rfl, hb2⟩)
            have k2 : Below w.heap.size w w2 := chain kw hb2
            have ho2 := own_keep ho hb2
            clear ho hb2 HBD
            by_cases hez : er = 0
            · subst hez
              obtain ⟨⟨z0, z1⟩, z2, z3, z4⟩ := HND.out rfl
              rw [if_neg (by simp)] at hcb
              by_cases hs0 : sz = 0
              · subst hs0
                rw [if_pos (.inl rfl), comb_err (by decide)] at hcb
                subst hcb
                go_wp2_with fail
                go_ret2
                exact ⟨_, rfl, World.ownsRow_nil _ _ _ _, by (repeat (first | with_reducible assumption | with_reducible exact Below.refl _ _ | with_reducible refine Below.drew ?_ | with_reducible refine below_drewN ?_ _ | with_reducible refine al ?_ _ | (with_reducible refine sc ?_ ?_; (focus (first | omega | (simp; done) | (simp; omega)))) | (with_reducible refine chain ?_ (by assumption))))⟩
              · by_cases hsm : m < sz
                · rw [if_pos (.inr hsm), comb_err (by decide)] at hcb
                  subst hcb
                  go_wp2_with fail
                  go_ret2
                  exact ⟨_, rfl, World.ownsRow_nil _ _ _ _, by (repeat (first | with_reducible assumption | with_reducible exact Below.refl _ _ | with_reducible refine Below.drew ?_ | with_reducible refine below_drewN ?_ _ | with_reducible refine al ?_ _ | (with_reducible refine sc ?_ ?_; (focus (first | omega | (simp; done) | (simp; omega)))) | (with_reducible refine chain ?_ (by assumption))))⟩
                · rw [if_neg (by omega), comb_step] at hcb
                  have HCB := Lib.hid hcb
                  have q0 : 0 ≤ m - sz := by omega
                  have hs1 : (sz == 0) = false := by simpa using hs0
                  have q1 : m - sz ≤ n := by omega
                  have q2 : (i : Int) + 1 + kk = ((i + 1 + kk.toNat : Nat) : Int) := by omega
                  have q3 : 0 ≤ (i : Int) + 1 + kk := by omega
                  have q4 : (i : Int) + 1 + kk ≤ 200000 := by omega
                  have Q2 := Lib.hid q2
                  have hLn : ([] : List Run).length ≤ 100000 := by simp
                  clear hcb q2
                  go_wp2_with (at_builtin; refine app_run _ rfl _ _ 22 rfl w.heap.size 49 i0 _ Tryd.underlying22 hi hz hsz hby rfl _ _ _ rfl (ho2.alloc _) w2.heap.size (.int .i64 sz) (.int .i64 own) rfl (by go_simp) (by go_simp) rfl rfl (by omega) (by have := k2.size; simp; omega) ?_; intro v1 w3 ho3 hg3)
                  go_roundw
                  case rel => exact ⟨([] : List Run) ++ [(sz, own)], m - sz, i + 1 + kk.toNat, f, rfl, by rw [Q2.out], ⟨q0, q1⟩, by omega, by simp; omega, by omega, by rw [lastP_snoc]; exact HCB.out, by rw [runVs_append, List.length_append]; exact ho3, Below.own (al k2 _) (ho2.alloc _) hg3⟩
                  case measure => simp [intOf]; omega
            · rw [if_pos hez, comb_err hez] at hcb
              subst hcb
              go_wp2_with fail
              go_ret2
              exact ⟨_, rfl, World.ownsRow_nil _ _ _ _, by (repeat (first | with_reducible assumption | with_reducible exact Below.refl _ _ | with_reducible refine Below.drew ?_ | with_reducible refine below_drewN ?_ _ | with_reducible refine al ?_ _ | (with_reducible refine sc ?_ ?_; (focus (first | omega | (simp; done) | (simp; omega)))) | (with_reducible refine chain ?_ (by assumption))))⟩
          · have hlp : lastP none L = some pb := by rw [hLe, lastP_snoc]
            rw [hlp] at hcb
            have hLl : L.length = D.length + 1 := by rw [hLe]; simp
            rcases ho.2 with ⟨_, hz0⟩ | ⟨g2, cap2, cur, rfl, hb3, hgg2, _⟩
            · omega
            have d0 : (runVs L)[D.length * 2 + 1]? = some (.int .i64 pb) := by
              have h := (runVs_at L D.length (by omega)).2
              rw [h]
              simp [hLe]
            have d1 : wr.cell? ⟨g2, D.length * 2 + 1, none⟩ = some (.int .i64 pb) := own_cell ho (D.length * 2 + 1) d0
            have zg2 : g2 < wr.heap.size := (Array.getElem?_eq_some_iff.1 hgg2).1
            obtain ⟨Q, hQ⟩ : ∃ Q, L.length = Q := ⟨_, rfl⟩
            have q0 : (0 : Int) < Q := by omega
            have q1 : (Q : Int) - 1 = ((D.length : Nat) : Int) := by omega
            have q2 : Q ≤ 100000 := by omega
            have q3 : D.length < Q := by omega
            have HQ := Lib.hid hQ
            clear d0 hLe hlp hLl hgg2 hb3
            rw [hQ] at ho hLi ⊢
            obtain ⟨pe, hpe⟩ : ∃ e, (pb == own) = e := ⟨_, rfl⟩
            clear hQ
            cases pe
            · have hne : ¬ some pb = some own := fun h => by
                have h : pb = own := by simpa using h
                simp [h] at hpe
              rw [if_neg hne] at hcb
              clear hne
              go_wp2_with fail
              (refine (HMY.out _).mono ?_; rintro e w1 ⟨rfl, rfl⟩)
              go_wp2_with fail
              (refine (HDG.out _ (HBD.out)).mono ?_; rintro e w2 ⟨rfl, hb2⟩)
              have k2 : Below w.heap.size w w2 := chain kw hb2
              have ho2 := own_keep ho hb2
              clear ho hb2 HBD d1
              by_cases hez : er = 0
              · subst hez
                obtain ⟨⟨z0, z1⟩, z2, z3, z4⟩ := HND.out rfl
                rw [if_neg (by simp)] at hcb
                by_cases hs0 : sz = 0
                · subst hs0
                  rw [if_pos (.inl rfl), comb_err (by decide)] at hcb
                  subst hcb
                  go_wp2_with fail
                  go_ret2
                  exact ⟨_, rfl, World.ownsRow_nil _ _ _ _, by (repeat (first | with_reducible assumption | with_reducible exact Below.refl _ _ | with_reducible refine Below.drew ?_ | with_reducible refine below_drewN ?_ _ | with_reducible refine al ?_ _ | (with_reducible refine sc ?_ ?_; (focus (first | omega | (simp; done) | (simp; omega)))) | (with_reducible refine chain ?_ (by assumption))))⟩
                · by_cases hsm : m < sz
                  · rw [if_pos (.inr hsm), comb_err (by decide)] at hcb
                    subst hcb
                    go_wp2_with fail
                    go_ret2
                    exact ⟨_, rfl, World.ownsRow_nil _ _ _ _, by (repeat (first | with_reducible assumption | with_reducible exact Below.refl _ _ | with_reducible refine Below.drew ?_ | with_reducible refine below_drewN ?_ _ | with_reducible refine al ?_ _ | (with_reducible refine sc ?_ ?_; (focus (first | omega | (simp; done) | (simp; omega)))) | (with_reducible refine chain ?_ (by assumption))))⟩
                  · rw [if_neg (by omega), comb_step] at hcb
                    have HCB := Lib.hid hcb
                    have q0 : 0 ≤ m - sz := by omega
                    have hs1 : (sz == 0) = false := by simpa using hs0
                    have q1 : m - sz ≤ n := by omega
                    have q2 : (i : Int) + 1 + kk = ((i + 1 + kk.toNat : Nat) : Int) := by omega
                    have q3 : 0 ≤ (i : Int) + 1 + kk := by omega
                    have q4 : (i : Int) + 1 + kk ≤ 200000 := by omega
                    have Q2 := Lib.hid q2
                    clear hcb q2
                    go_wp2_with (at_builtin; refine app_run _ rfl _ _ 22 rfl w.heap.size 49 i0 _ Tryd.underlying22 hi hz hsz hby rfl _ _ _ rfl (ho2.alloc _) w2.heap.size (.int .i64 sz) (.int .i64 own) rfl (by go_simp) (by go_simp) rfl rfl (by omega) (by have := k2.size; simp; omega) ?_; intro v1 w3 ho3 hg3)
                    go_roundw
                    case rel => exact ⟨L ++ [(sz, own)], m - sz, i + 1 + kk.toNat, f, rfl, by rw [Q2.out], ⟨q0, q1⟩, by omega, by rw [List.length_append, HQ.out]; simp; omega, by omega, by rw [lastP_snoc]; exact HCB.out, by rw [runVs_append, List.length_append, HQ.out]; exact ho3, Below.own (al k2 _) (ho2.alloc _) hg3⟩
                    case measure => simp [intOf]; omega
              · rw [if_pos hez, comb_err hez] at hcb
                subst hcb
                go_wp2_with fail
                go_ret2
                exact ⟨_, rfl, World.ownsRow_nil _ _ _ _, by (repeat (first | with_reducible assumption | with_reducible exact Below.refl _ _ | with_reducible refine Below.drew ?_ | with_reducible refine below_drewN ?_ _ | with_reducible refine al ?_ _ | (with_reducible refine sc ?_ ?_; (focus (first | omega | (simp; done) | (simp; omega)))) | (with_reducible refine chain ?_ (by assumption))))⟩
            · obtain rfl : pb = own := by simpa using hpe
              rw [if_pos rfl, comb_err (by decide)] at hcb
              subst hcb
              go_wp2_with fail
              (refine (HMY.out _).mono ?_; rintro e w1 ⟨rfl, rfl⟩)
              go_wp2_with fail
              go_ret2
              exact ⟨_, rfl, World.ownsRow_nil _ _ _ _, by (repeat (first | with_reducible assumption | with_reducible exact Below.refl _ _ | with_reducible refine Below.drew ?_ | with_reducible refine below_drewN ?_ _ | with_reducible refine al ?_ _ | (with_reducible refine sc ?_ ?_; (focus (first | omega | (simp; done) | (simp; omega)))) | (with_reducible refine chain ?_ (by assumption))))⟩
      · obtain rfl : i = B := by omega
        have hd : b.drop i = [] := List.drop_of_length_le (by rw [HB.out]; omega)
        rw [hd, readGo_nil (by omega), comb_err (by decide)] at hcb
        subst hcb
        clear hd
        go_wp2_with fail
        go_ret2
        exact ⟨_, rfl, World.ownsRow_nil _ _ _ _, by (repeat (first | with_reducible assumption | with_reducible exact Below.refl _ _ | with_reducible refine Below.drew ?_ | with_reducible refine below_drewN ?_ _ | with_reducible refine al ?_ _ | (with_reducible refine sc ?_ ?_; (focus (first | omega | (simp; done) | (simp; omega)))) | (with_reducible refine chain ?_ (by assumption))))⟩
    · obtain rfl : m = 0 := by omega
      rw [readGo_stop (by omega)] at hcb
      by_cases hlt : i < B
      · have hd : b.drop i ≠ [] := fun h => by
          have := congrArg List.length h
          rw [List.length_drop, HB.out] at this
          simp at this
          omega
        rw [if_neg hd, comb_err (by decide)] at hcb
        subst hcb
        clear hd
        have bi : (i : Int) < B := by omega
        go_wp2_with fail
        go_ret2
        exact ⟨_, rfl, World.ownsRow_nil _ _ _ _, by (repeat (first | with_reducible assumption | with_reducible exact Below.refl _ _ | with_reducible refine Below.drew ?_ | with_reducible refine below_drewN ?_ _ | with_reducible refine al ?_ _ | (with_reducible refine sc ?_ ?_; (focus (first | omega | (simp; done) | (simp; omega)))) | (with_reducible refine chain ?_ (by assumption))))⟩
      · obtain rfl : i = B := by omega
        have hd : b.drop i = [] := List.drop_of_length_le (by rw [HB.out]; omega)
        rw [if_pos hd] at hcb
        have hc2 : (0, L) = F := by rw [← hcb]; simp [comb]
        subst hc2
        clear hd hcb
        go_wp2_with fail
        go_ret2
        exact ⟨_, rfl, ho, by (repeat (first | with_reducible assumption | with_reducible exact Below.refl _ _ | with_reducible refine Below.drew ?_ | with_reducible refine below_drewN ?_ _ | with_reducible refine al ?_ _ | (with_reducible refine sc ?_ ?_; (focus (first | omega | (simp; done) | (simp; omega)))) | (with_reducible refine chain ?_ (by assumption))))⟩
end Go.Proofs.YtafmekojdaeliaaDoor
