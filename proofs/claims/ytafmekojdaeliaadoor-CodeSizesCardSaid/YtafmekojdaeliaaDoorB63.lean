/- Contracts of layer 6 (code), of the landed code: Read. -/
import Derived.Test.YtafmekojdaeliaaDoorB62
set_option linter.unusedVariables false
set_option linter.unusedSimpArgs false
namespace Go.Proofs.YtafmekojdaeliaaDoor
open Go.ChangeShapes Go.WideShapes Go.ChangeAt Go.RowKit
/-- What is read, run by run, over what is read first. -/
theorem read_first {f : Nat} {p : Option Int} {c : List Int} {m last : Int} (hm : 0 < m) (hp : p = none ∧ last = -1 ∨ p = some last) (ok : bytOk c) :
    readGo (f + 1) p c m = if fstE c last ≠ 0 then (fstE c last, []) else if fstN c < 1 ∨ m < fstN c then (2, []) else
      if (readGo f (some (fstB c)) (fstL c) (m - fstN c)).1 = 0 then (0, (fstN c, fstB c) :: (readGo f (some (fstB c)) (fstL c) (m - fstN c)).2) else ((readGo f (some (fstB c)) (fstL c) (m - fstN c)).1, []) := by
  cases c with
  | nil => rw [readGo_nil (by omega)]; rfl
  | cons own t =>
    rw [readGo_cons (by omega)]
    have h0 := ok own (by simp)
    have e : p = some own ↔ own = last := by
      rcases hp with ⟨rfl, rfl⟩ | rfl
      · simp; omega
      · simp; exact eq_comm
    rw [show fstN (own :: t) = (digF t).1 from rfl, show fstB (own :: t) = own from rfl, show fstL (own :: t) = t.drop (digF t).2.1.toNat from rfl]
    by_cases h1 : mayB own = false
    · rw [if_pos h1]
      have fe : fstE (own :: t) last = 2 := by simp [fstE, h1]
      rw [fe]; rfl
    · rw [if_neg h1]
      by_cases h2 : own = last
      · have fe : fstE (own :: t) last = 2 := by simp [fstE, h2]
        rw [if_pos (e.2 h2), fe]; rfl
      · have fe : fstE (own :: t) last = (digF t).2.2 := by simp only [fstE, if_neg h1, if_neg h2]
        rw [if_neg (fun h => h2 (e.1 h)), fe]
        by_cases h3 : (digF t).2.2 = 0
        · have hd : digF t = ((digF t).1, (digF t).2.1, 0) := by rw [← h3]
          have hn := (num_dig (fun x hx => ok x (List.mem_cons_of_mem _ hx)) hd).1
          have h3' : ¬ (digF t).2.2 ≠ 0 := by simpa using h3
          rw [if_neg h3', if_neg h3']
          by_cases h4 : (digF t).1 = 0 ∨ m < (digF t).1
          · have h5 : (digF t).1 < 1 ∨ m < (digF t).1 := by omega
            rw [if_pos h4, if_pos h5]
          · have h5 : ¬ ((digF t).1 < 1 ∨ m < (digF t).1) := by omega
            rw [if_neg h4, if_neg h5]
        · rw [if_pos h3, if_pos h3]
theorem fst_ok {c : List Int} {last : Int} (ok : bytOk c) (h : fstE c last = 0) : bytOk (fstL c) ∧ (fstL c).length + 2 ≤ c.length ∧ (0 ≤ fstB c ∧ fstB c ≤ 255) ∧ 0 ≤ fstN c ∧ fstN c ≤ 1048576 := by
  cases c with
  | nil => cases h
  | cons own t =>
    have e : (digF t).2.2 = 0 := by
      simp only [fstE] at h
      split at h
      · cases h
      · split at h
        · cases h
        · exact h
    have hd : digF t = ((digF t).1, (digF t).2.1, 0) := by rw [← e]
    obtain ⟨⟨q0, q1⟩, q2, q3, q4, _⟩ := num_dig (fun x hx => ok x (List.mem_cons_of_mem _ hx)) hd
    refine ⟨fun x hx => ok x (List.mem_cons_of_mem _ (List.mem_of_mem_drop hx)), ?_, ok own (by simp), q0, q1⟩
    show (t.drop _).length + 2 ≤ t.length + 1
    rw [List.length_drop]
    omega
theorem RowAt.grown {u u' : World} {b : Nat} {cs : Array Value} {t : TypeId} {row : Option Nat} (h : RowAt u b cs t) (hg : u.grownBy u' row) (hne : row ≠ some b) : RowAt u' b cs t := (hg.block b h.lt (fun e => hne e.symm)).trans h
set_option maxHeartbeats 8000000 in
theorem b6_read0 (v : Value) (b : List Int) (n : Int) (hn : i64 n) (h0 : 0 ≤ n) (w : World) (hV : Vars w) (hl : BytsAt w v b) (ok : bytOk b) (hL : b.length ≤ 100000) : Calls Tryd.prog 15 #[v, .int .i64 n] w fun e w' =>
    ∃ v', e = .returned (.tuple #[v', .int .i64 (readF b n).1]) ∧ w'.ownsRow w.heap.size 49 2 v' (readF b n).2.length (runVs (readF b n).2) ∧ Below w.heap.size w w' := by
  obtain ⟨i0, hi, hz, hsz, hby⟩ := run_info
  obtain ⟨B, hB⟩ : ∃ B, b.length = B := ⟨_, rfl⟩
  obtain ⟨F, hF⟩ : ∃ F, readF b n = F := ⟨_, rfl⟩
  have hF2 : comb [] (readGo (B + 1) none b n) = F := by rw [comb_start, ← hB]; exact hF
  rw [hF]
  have HB := Lib.hid hB
  have OK := Lib.hid ok
  have HF2 := Lib.hid hF2
  have HL := Lib.hid hl
  rw [hB] at hL
  obtain ⟨hn0, hn1⟩ := hn
  clear hB ok hF2 hF hl
  go_enter Tryd.func15, Tryd.ntmps15
  go_wp2_with fail
  go_step3
  go_wp2_with fail
  go_step3
  go_wp2_with fail
  go_loopw [0, 1, 6, 7, 8] (fun bb mm o ee qq wr => ∃ (L : List Run) (c : List Int) (m lst : Int) (f : Nat), mm = .int .i64 m ∧ ee = .int .i64 0 ∧ qq = .int .i64 lst ∧ (0 ≤ m ∧ m ≤ n) ∧ BytsAt w bb c ∧ bytOk c ∧ L.length + c.length ≤ B ∧ c.length + 1 ≤ f ∧
    (lastP none L = none ∧ lst = -1 ∨ lastP none L = some lst) ∧ i64 lst ∧ comb L (readGo f (lastP none L) c m) = F ∧
    wr.ownsRow w.heap.size 49 2 o L.length (runVs L) ∧ Below w.heap.size w wr) (fun _ mm _ _ _ _ => (intOf mm).toNat)
  case atStart => exact ⟨[], b, n, -1, B + 1, rfl, rfl, rfl, ⟨h0, Int.le_refl _⟩, HL.out, OK.out, by rw [HB.out]; simp, by rw [HB.out]; omega, .inl ⟨rfl, rfl⟩, by decide, by simpa [lastP] using HF2.out, World.ownsRow_nil _ _ _ _, Below.refl _ _⟩
  case round =>
    obtain ⟨L, c, m, lst, f, rfl, rfl, rfl, ⟨m0, m1⟩, hbb, okc, hLc, hfu, hlp, il, hcb, ho, kw⟩ := hrel
    obtain ⟨f, rfl⟩ : ∃ f', f = f' + 1 := ⟨f - 1, by omega⟩
    by_cases hm : 0 < m
    · rw [read_first hm hlp okc] at hcb
      have hc := fun v u u0 hu h0 hv => b6_first v c lst il u u0 hu h0 hv okc (by omega)
      have hk := fst_ok (last := lst) okc
      obtain ⟨E, hE⟩ : ∃ E, fstE c lst = E := ⟨_, rfl⟩
      rw [hE] at hcb hc hk
      have HC := Lib.hid hc
      have HK := Lib.hid hk
      have HBB := Lib.hid hbb
      obtain ⟨l0, l1⟩ := il
      obtain ⟨pl, cl, rfl⟩ := own_form ho
      have hol : ∀ k, (Value.slice pl L.length cl).ownBlock = some k → k < wr.heap.size := fun k e => (ho.lt k e).2
      have HOL := Lib.hid hol
      clear hol
      clear hE hc hk hbb
      by_cases hez : E = 0
      · subst hez
        rw [if_neg (by simp)] at hcb
        obtain ⟨k0, k1, ⟨k2, k3⟩, k4, k5⟩ := HK.out rfl
        have HC2 := fun v u u0 hu h0 hv => HC.out v u u0 hu h0 hv
        simp only [ifE_yes] at HC2
        have HC3 := Lib.hid HC2
        clear HC HC2 HK
        obtain ⟨C2, hC2⟩ : ∃ x, fstL c = x := ⟨_, rfl⟩
        obtain ⟨sz, hsz1⟩ : ∃ x, fstN c = x := ⟨_, rfl⟩
        obtain ⟨own, hown⟩ : ∃ x, fstB c = x := ⟨_, rfl⟩
        rw [hC2] at k0 k1 hcb
        rw [hsz1] at k4 k5 hcb
        rw [hown] at k2 k3 hcb
        have E1 := Lib.hid hC2
        have E2 := Lib.hid hsz1
        have E3 := Lib.hid hown
        clear hC2 hsz1 hown
        by_cases hs0 : sz < 1
        · rw [if_pos (.inl hs0), comb_err (by decide)] at hcb
          subst hcb
          go_wp2_with fail
          refine (HC3.out _ _ _ (hV.keep (al kw _)) (al kw _) HBB.out).mono ?_
          rintro e w1 ⟨v1, rfl, hb1, hv1⟩
          rw [E1.out] at hb1
          simp only [E2.out, E3.out]
          have rA := (RowAt.new wr #[.int .i64 0, .int .i64 0] 49).keep hv1
          have q1 : Below w.heap.size w w1 := chain (al kw _) hv1
          have hg0 : w.heap.size ≤ wr.heap.size := kw.size
          clear hv1
          have cA := rA.cell
          have fA := rA.frozen
          have zA := rA.lt
          go_wp2_with fail
          (try rw [Exit.noGoto_ret])
          go_ret2
          exact ⟨_, rfl, World.ownsRow_nil _ _ _ _, below2 q1 hg0 _ _⟩
        · by_cases hsm : m < sz
          · rw [if_pos (.inr hsm), comb_err (by decide)] at hcb
            subst hcb
            go_wp2_with fail
            refine (HC3.out _ _ _ (hV.keep (al kw _)) (al kw _) HBB.out).mono ?_
            rintro e w1 ⟨v1, rfl, hb1, hv1⟩
            rw [E1.out] at hb1
            simp only [E2.out, E3.out]
            have rA := (RowAt.new wr #[.int .i64 0, .int .i64 0] 49).keep hv1
            have q1 : Below w.heap.size w w1 := chain (al kw _) hv1
            have hg0 : w.heap.size ≤ wr.heap.size := kw.size
            clear hv1
            have cA := rA.cell
            have fA := rA.frozen
            have zA := rA.lt
            go_wp2_with fail
            (try rw [Exit.noGoto_ret])
            go_ret2
            exact ⟨_, rfl, World.ownsRow_nil _ _ _ _, below2 q1 hg0 _ _⟩
          · rw [if_neg (by omega), comb_step] at hcb
            have HCB := Lib.hid hcb
            have q0 : 0 ≤ m - sz := by omega
            have q2 : m - sz ≤ n := by omega
            have hLn : L.length ≤ 100000 := by omega
            clear hcb
            go_wp2_with fail
            refine (HC3.out _ _ _ (hV.keep (al kw _)) (al kw _) HBB.out).mono ?_
            rintro e w1 ⟨v1, rfl, hb1, hv1⟩
            rw [E1.out] at hb1
            simp only [E2.out, E3.out]
            have rA := (RowAt.new wr #[.int .i64 0, .int .i64 0] 49).keep hv1
            have q1 : Below wr.heap.size wr w1 := chain (al (Below.refl _ _) _) hv1
            clear hv1
            have cA := rA.cell
            have fA := rA.frozen
            have zA := rA.lt
            go_upto_region 6 with (fail)
            have rB := row2 rA (.int .i64 sz) (.int .i64 own)
            have kB := below2 q1 (Nat.le_refl _) (.int .i64 sz) (.int .i64 own)
            clear cA fA zA rA q1
            generalize ((w1.setCell ⟨wr.heap.size, 0, none⟩ (.int .i64 sz)).setCell ⟨wr.heap.size, 1, none⟩ (.int .i64 own)) = w2 at *
            replace ho := own_keep ho kB
            have k2 := chain kw kB
            have z2 : wr.heap.size < w2.heap.size := rB.lt
            have hg0 : w.heap.size ≤ wr.heap.size := kw.size
            have cB := rB.cell
            have c0 : w2.cell? ⟨wr.heap.size, 0, none⟩ = some (.int .i64 sz) := by rw [cB]; rfl
            have c1 : w2.cell? ⟨wr.heap.size, 1, none⟩ = some (.int .i64 own) := by rw [cB]; rfl
            have HBV := Lib.hid hb1
            clear hb1 kB cB
            go_wp2_with fail
            refine region_planS (fun x => RowAt x wr.heap.size #[.int .i64 sz, .int .i64 own] 49) 13 (.calm 0 (.calm 1 (.calm 4 (.calm 5 (.calm 6 (.calm 7 (.calm 8 (.calm 9 (.one 2 (.one 3 (.calm 10 (.calm 11 (.calm 12 (.done)))))))))))))) (by kernel_rfl) (by kernel_rfl) (by kernel_rfl) rfl (by kernel_rfl) (fun c a d v w h => by cases d <;> exact h) (by exact rB.keep ((Below.refl _ _).drew)) ?_
            intro u3 hu3 hszu3 hSu3
            repeat (first | (refine' PlanW.skip (by rfl) (by rfl) ?_; simp only [Act.put, List.getElem_toArray, List.getElem_cons_zero, List.getElem_cons_succ, List.setIfInBounds_toArray, List.set_cons_zero, List.set_cons_succ]) | (refine' PlanW.val (by rfl) (by rfl) (fun wr hr => ?_) ?_; rotate_left 1; (focus (have hrc := RowAt.cell hr; have hrf := RowAt.frozen hr; have hrl := RowAt.lt hr; (go_simp <;> with_reducible rfl); done)); simp only [Act.put, List.getElem_toArray, List.getElem_cons_zero, List.getElem_cons_succ, List.setIfInBounds_toArray, List.set_cons_zero, List.set_cons_succ]))
            refine PlanW.one (by rfl) ?_
            go_wp2_with fail
            refine ⟨.inr (RowAt.alloc hSu3 _), ?_⟩
            refine PlanW.one (by rfl) ?_
            replace ho := own_keep ho hu3
            have k3 := chain k2 hu3
            have z3 : wr.heap.size < u3.heap.size := hSu3.lt
            have hne : (Value.slice pl L.length cl).ownBlock ≠ some wr.heap.size := fun e => Nat.lt_irrefl _ (HOL.out _ e)
            have HNE := Lib.hid hne
            have rA3 := RowAt.alloc hSu3 (.cells #[.int .i64 sz, .int .i64 own] 49)
            have R3 := Lib.hid rA3
            clear hne rA3
            simp only [Act.put, List.getElem_toArray, List.getElem_cons_zero, List.getElem_cons_succ, List.setIfInBounds_toArray, List.set_cons_zero, List.set_cons_succ]
            go_wp2_with (at_builtin; refine app_run _ rfl _ _ 22 rfl w.heap.size 49 i0 _ Tryd.underlying22 hi hz hsz hby rfl _ _ _ rfl (ho.alloc _) w2.heap.size (.int .i64 sz) (.int .i64 own) rfl (by go_simp) (by go_simp) rfl rfl (by omega) (by have := k3.size; simp; omega) ?_; intro v4 w4 ho4 hg4)
            refine ⟨by first | exact .inr (RowAt.grown R3.out hg4 HNE.out) | exact RowAt.grown R3.out hg4 HNE.out, ?_⟩
            repeat (first | (refine' PlanW.skip (by rfl) (by rfl) ?_; simp only [Act.put, List.getElem_toArray, List.getElem_cons_zero, List.getElem_cons_succ, List.setIfInBounds_toArray, List.set_cons_zero, List.set_cons_succ]) | (refine' PlanW.val (by rfl) (by rfl) (fun wr hr => ?_) ?_; rotate_left 1; (focus (have hrc := RowAt.cell hr; have hrf := RowAt.frozen hr; have hrl := RowAt.lt hr; (go_simp <;> with_reducible rfl); done)); simp only [Act.put, List.getElem_toArray, List.getElem_cons_zero, List.getElem_cons_succ, List.setIfInBounds_toArray, List.set_cons_zero, List.set_cons_succ]))
            refine PlanW.done ?_
            go_wp2_with fail
            go_roundw
            case rel => exact ⟨L ++ [(sz, own)], C2, m - sz, own, f, rfl, rfl, rfl, ⟨q0, q2⟩, HBV.out, k0, by rw [List.length_append]; simp; omega, by omega, .inr (lastP_snoc _ _ _), by constructor <;> omega, by rw [lastP_snoc]; exact HCB.out, by rw [runVs_append, List.length_append]; exact ho4, Below.own (al k3 _) (ho.alloc _) hg4⟩
            case measure => simp [intOf]; omega
      · rw [if_pos hez, comb_err hez] at hcb
        subst hcb
        have HC2 := fun v u u0 hu h0 hv => HC.out v u u0 hu h0 hv
        simp only [ifE_no hez] at HC2
        have HC3 := Lib.hid HC2
        clear HC HC2 HK
        go_wp2_with fail
        refine (HC3.out _ _ _ (hV.keep (al kw _)) (al kw _) HBB.out).mono ?_
        rintro e w1 ⟨v1, rfl, hb1, hv1⟩
        have rA := (RowAt.new wr #[.int .i64 0, .int .i64 0] 49).keep hv1
        have q1 : Below w.heap.size w w1 := chain (al kw _) hv1
        have hg0 : w.heap.size ≤ wr.heap.size := kw.size
        clear hv1
        have cA := rA.cell
        have fA := rA.frozen
        have zA := rA.lt
        go_wp2_with fail
        (try rw [Exit.noGoto_ret])
        go_ret2
        exact ⟨_, rfl, World.ownsRow_nil _ _ _ _, below2 q1 hg0 _ _⟩
    · obtain rfl : m = 0 := by omega
      rw [readGo_stop (by omega)] at hcb
      obtain ⟨pb, cb, rfl, hfb⟩ := hbb.form
      obtain ⟨D, hD⟩ : ∃ D, c.length = D := ⟨_, rfl⟩
      rw [hD]
      by_cases hlt : 0 < D
      · have hd : c ≠ [] := fun h => by rw [h] at hD; simp at hD; omega
        rw [if_neg hd, comb_err (by decide)] at hcb
        subst hcb
        have hlt' : (0 : Int) < D := by omega
        clear hd hfb hbb hD
        go_wp2_with fail
        (try rw [Exit.noGoto_ret])
        go_ret2
        exact ⟨_, rfl, World.ownsRow_nil _ _ _ _, by (repeat (first | with_reducible assumption | with_reducible exact Below.refl _ _ | with_reducible refine Below.drew ?_ | with_reducible refine below_drewN ?_ _ | with_reducible refine al ?_ _ | (with_reducible refine sc ?_ ?_; (focus (first | omega | (simp; done) | (simp; omega)))) | (with_reducible refine chain ?_ (by assumption))))⟩
      · obtain rfl : D = 0 := by omega
        have hd : c = [] := List.length_eq_zero_iff.1 hD
        rw [if_pos hd] at hcb
        have hc2 : (0, L) = F := by rw [← hcb]; simp [comb]
        subst hc2
        clear hd hcb hfb hbb hD
        go_wp2_with fail
        (try rw [Exit.noGoto_ret])
        go_ret2
        exact ⟨_, rfl, ho, by (repeat (first | with_reducible assumption | with_reducible exact Below.refl _ _ | with_reducible refine Below.drew ?_ | with_reducible refine below_drewN ?_ _ | with_reducible refine al ?_ _ | (with_reducible refine sc ?_ ?_; (focus (first | omega | (simp; done) | (simp; omega)))) | (with_reducible refine chain ?_ (by assumption))))⟩
end Go.Proofs.YtafmekojdaeliaaDoor
