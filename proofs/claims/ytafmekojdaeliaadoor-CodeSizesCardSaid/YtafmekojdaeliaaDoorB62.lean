/- Contracts of layer 6 (code), of the landed code: first. -/
import Derived.Test.YtafmekojdaeliaaDoorB61
import Derived.Test.YtafmekojdaeliaaDoorS06
set_option linter.unusedVariables false
set_option linter.unusedSimpArgs false
namespace Go.Proofs.YtafmekojdaeliaaDoor
open Go.ChangeShapes Go.WideShapes Go.ChangeAt Go.RowKit
/-- Why no run is read first, or 0. -/
def fstE : List Int → Int → Int
  | [], _ => 3
  | own :: t, last => if own = last then 2 else if mayB own = false then 2 else (digF t).2.2
def fstN : List Int → Int
  | [] => 0
  | _ :: t => (digF t).1
def fstB : List Int → Int
  | [] => 0
  | own :: _ => own
def fstL : List Int → List Int
  | [] => []
  | _ :: t => t.drop (digF t).2.1.toNat
def ifE {α : Type} (e : Int) (x y : α) : α := if e = 0 then x else y
theorem ifE_yes {α : Type} (x y : α) : ifE 0 x y = x := rfl
theorem ifE_no {α : Type} {e : Int} (h : ¬ e = 0) (x y : α) : ifE e x y = y := by unfold ifE; rw [if_neg h]
theorem bytes_from3 {w : World} {g off B cap : Nat} {b : List Int} (h : BytsAt w (.slice (some ⟨g, off, none⟩) B cap) b) (hB : b.length = B) (hc : B ≤ cap) (i : Nat) (hi : i ≤ B) :
    ∃ p, (∀ u, (Instr.sliceAt 25 (.slice (some ⟨g, off, none⟩) B cap) (some (.int .i64 (i : Int))) (some (.int .i64 (B : Int))) (some (.int .i64 (B : Int)))).run Tryd.prog u = .ok (.slice p (B - i) (B - i)) u) ∧ BytsAt w (.slice p (B - i) (B - i)) (b.drop i) := by
  refine ⟨if B = i then some ⟨g, off, none⟩ else some ⟨g, off + i, none⟩, fun u => ?_, ?_⟩
  · have hs : Tryd.prog.cellsOf 5 = 1 := by kernel_rfl
    by_cases hci : B = i
    · subst hci
      simp [go_sem, *]
    · simp [go_sem, *]
  · by_cases hlt : i < B
    · rw [if_neg (by omega)]
      exact h.drop hlt _ (by omega)
    · obtain rfl : i = B := by omega
      rw [List.drop_of_length_le (by omega), show i - i = 0 by omega]
      exact BytsAt.nil
theorem row2 {w : World} {b : Nat} {a0 a1 : Value} {t : TypeId} (h : RowAt w b #[a0, a1] t) (x0 x1 : Value) : RowAt ((w.setCell ⟨b, 0, none⟩ x0).setCell ⟨b, 1, none⟩ x1) b #[x0, x1] t := by
  simpa using (h.set 0 x0).set 1 x1
theorem row2_other {w : World} {b g : Nat} {cs : Array Value} {t : TypeId} (h : RowAt w b cs t) (hg : b ≠ g) (x0 x1 : Value) : RowAt ((w.setCell ⟨g, 0, none⟩ x0).setCell ⟨g, 1, none⟩ x1) b cs t :=
  (h.other (p := ⟨g, 0, none⟩) hg x0).other (p := ⟨g, 1, none⟩) hg x1
theorem below2 {w u : World} {g : Nat} (h : Below w.heap.size w u) (hg : w.heap.size ≤ g) (x0 x1 : Value) : Below w.heap.size w ((u.setCell ⟨g, 0, none⟩ x0).setCell ⟨g, 1, none⟩ x1) :=
  (h.setCell (p := ⟨g, 0, none⟩) hg x0).setCell (p := ⟨g, 1, none⟩) hg x1
set_option maxHeartbeats 4000000 in
theorem b6_first (v : Value) (b : List Int) (last : Int) (hlast : i64 last) (w w0 : World) (hV : Vars w) (hw0 : Below w0.heap.size w0 w) (hl0 : BytsAt w0 v b) (ok : bytOk b) (hL : b.length ≤ 100000) : Calls Tryd.prog 29 #[v, .int .i64 last] w fun e w' =>
    ∃ v', e = .returned (.tuple #[.agg #[.int .i64 (ifE (fstE b last) (fstN b) 0), .int .i64 (ifE (fstE b last) (fstB b) 0)], v', .int .i64 (fstE b last)]) ∧ BytsAt w0 v' (ifE (fstE b last) (fstL b) []) ∧ Below w.heap.size w w' := by
  obtain ⟨hla0, hla1⟩ := hlast
  have hl := hl0.keep hw0
  cases b with
  | nil =>
    obtain ⟨p, cap, rfl⟩ := hl.shape
    rw [show fstE [] last = 3 from rfl, ifE_no (by decide), ifE_no (by decide), ifE_no (by decide)]
    clear hl hl0
    go_enter Tryd.func29, Tryd.ntmps29
    go_wp2
    exact bodyPost_ret (v := .tuple #[.agg #[.int .i64 0, .int .i64 0], .slice none 0 0, .int .i64 3]) (by simp [results, Tryd.results29, go_sem]) rfl ⟨_, rfl, BytsAt.nil, by (repeat (first | with_reducible assumption | with_reducible exact Below.refl _ _ | with_reducible refine Below.drew ?_ | with_reducible refine below_drewN ?_ _ | with_reducible refine al ?_ _ | (with_reducible refine sc ?_ ?_; (focus (first | omega | (simp; done) | (simp; omega)))) | (with_reducible refine chain ?_ (by assumption))))⟩
  | cons own t =>
    obtain ⟨p, cap, rfl, hf⟩ := hl.form
    obtain ⟨g, off, rfl, hc, hg, hx⟩ := hf (by simp)
    obtain ⟨N, hN⟩ : ∃ N, (own :: t).length = N := ⟨_, rfl⟩
    obtain ⟨bo0, bo1⟩ := ok own (by simp)
    have h0 := hx 0 (by simp)
    simp only [List.getElem_cons_zero, Nat.add_zero] at h0
    have hN1 : 1 ≤ N := by rw [← hN]; simp
    have hN2 : ¬ N = 0 := by omega
    have hNt : t.length = N - 1 := by rw [← hN]; simp
    rw [hN] at hl hl0 hc hL
    rw [hN]
    obtain ⟨P, hrun, hbd⟩ := bytes_from3 hl0 hN hc 1 hN1
    rw [List.drop_one, List.tail_cons] at hbd
    rw [show ((1 : Nat) : Int) = 1 from rfl] at hrun
    by_cases hlast : own = last
    · have e : fstE (own :: t) last = 2 := by simp only [fstE, if_pos hlast]
      rw [e, ifE_no (by decide), ifE_no (by decide), ifE_no (by decide)]
      subst hlast
      clear hl hl0 hf hx hN hrun hbd e
      go_enter Tryd.func29, Tryd.ntmps29
      go_wp2
      exact bodyPost_ret (v := .tuple #[.agg #[.int .i64 0, .int .i64 0], .slice none 0 0, .int .i64 2]) (by simp [results, Tryd.results29, go_sem]) rfl ⟨_, rfl, BytsAt.nil, by (repeat (first | with_reducible assumption | with_reducible exact Below.refl _ _ | with_reducible refine Below.drew ?_ | with_reducible refine below_drewN ?_ _ | with_reducible refine al ?_ _ | (with_reducible refine sc ?_ ?_; (focus (first | omega | (simp; done) | (simp; omega)))) | (with_reducible refine chain ?_ (by assumption))))⟩
    · obtain ⟨m, hm⟩ : ∃ m, mayB own = m := ⟨_, rfl⟩
      have my := fun u hu => b4_may own (by constructor <;> omega) u hu
      rw [hm] at my
      have MY := Lib.hid my
      clear my
      cases m
      · have e : fstE (own :: t) last = 2 := by simp only [fstE, if_neg hlast, if_pos hm]
        rw [e, ifE_no (by decide), ifE_no (by decide), ifE_no (by decide)]
        clear hl hl0 hf hx hN hrun hbd e hm
        go_enter Tryd.func29, Tryd.ntmps29
        go_wp2_with fail
        (refine (MY.out _ (hV.keep (al (Below.refl _ _) _))).mono ?_; rintro e w1 ⟨rfl, hb1⟩)
        have rA := (RowAt.new w #[.int .i64 0, .int .i64 0] 49).keep hb1
        have k1 : Below w.heap.size w w1 := chain (al (Below.refl _ _) _) hb1
        clear hb1
        have cA := rA.cell
        have fA := rA.frozen
        have zA := rA.lt
        go_wp2_with fail
        clear cA fA zA
        have rB := row2 rA (.int .i64 0) (.int .i64 0)
        have kB := below2 k1 (Nat.le_refl _) (.int .i64 0) (.int .i64 0)
        have cr := rB.cell
        exact bodyPost_ret (v := .tuple #[.agg #[.int .i64 0, .int .i64 0], .slice none 0 0, .int .i64 2]) (by simp [results, Tryd.results29, go_sem, cr]) rfl ⟨_, rfl, BytsAt.nil, kB⟩
      · have e : fstE (own :: t) last = (digF t).2.2 := by simp only [fstE, if_neg hlast, hm]; rfl
        rw [e, show fstN (own :: t) = (digF t).1 from rfl, show fstB (own :: t) = own from rfl, show fstL (own :: t) = t.drop (digF t).2.1.toNat from rfl]
        have dg := fun u hu => b6_digits0 (.slice P (N - 1) (N - 1)) t u hu (fun x hx => ok x (List.mem_cons_of_mem _ hx)) (by rw [hNt]; unfold maxLen; omega)
        have nd : (digF t).2.2 = 0 → (digF t).2.1.toNat ≤ N - 1 ∧ 1 ≤ (digF t).2.1 ∧ (digF t).2.1 ≤ 3 ∧ 0 ≤ (digF t).1 ∧ (digF t).1 ≤ 1048576 := fun h => by
          have h2 : digF t = ((digF t).1, (digF t).2.1, 0) := by rw [← h]
          obtain ⟨⟨q0, q1⟩, q2, q3, q4, _⟩ := num_dig (fun x hx => ok x (List.mem_cons_of_mem _ hx)) h2
          rw [hNt] at q2
          exact ⟨q2, q3, q4, q0, q1⟩
        generalize (digF t).1 = sz at *
        generalize (digF t).2.1 = kk at *
        generalize (digF t).2.2 = er at *
        have DG := Lib.hid dg
        have HBD := Lib.hid hbd
        have HNT := Lib.hid hNt
        have ND := Lib.hid nd
        clear hl hl0 hf hx hN e hm dg hbd hNt nd
        by_cases hez : er = 0
        · subst hez
          rw [ifE_yes, ifE_yes, ifE_yes]
          obtain ⟨z1, z2, z3, z4, z5⟩ := ND.out rfl
          obtain ⟨K, hK⟩ : ∃ K : Nat, kk = K := ⟨kk.toNat, by omega⟩
          subst hK
          rw [Int.toNat_natCast] at z1 ⊢
          go_enter Tryd.func29, Tryd.ntmps29
          go_wp2_with fail
          (refine (MY.out _ (hV.keep (al (Below.refl _ _) _))).mono ?_; rintro e w1 ⟨rfl, hb1⟩)
          have rA := (RowAt.new w #[.int .i64 0, .int .i64 0] 49).keep hb1
          have k1 : Below w.heap.size w w1 := chain (al (Below.refl _ _) _) hb1
          clear hb1
          go_wp2_with fail
          (refine (DG.out _ (HBD.out.keep (chain hw0 k1))).mono ?_; rintro e w2 ⟨rfl, hb2⟩)
          replace rA := rA.keep hb2
          have k2 : Below w.heap.size w w2 := chain k1 hb2
          have hbd2 := HBD.out
          clear hb2 k1 hrun h0
          have hform : ∃ g2 off2, P = some ⟨g2, off2, none⟩ := by
            have h : BytsAt w0 (.slice P (N - 1) (N - 1)) t := hbd2
            rw [← HNT.out] at h
            obtain ⟨_, _, e, hf2⟩ := h.form
            simp only [Value.slice.injEq] at e
            obtain ⟨g2, off2, e2, _⟩ := hf2 (by rw [HNT.out]; omega)
            exact ⟨g2, off2, e.1.trans e2⟩
          obtain ⟨g2, off2, rfl⟩ := hform
          obtain ⟨P2, hrun2, hbd3⟩ := bytes_from3 HBD.out HNT.out (Nat.le_refl _) K z1
          have hi1 : (K : Int) ≤ ((N - 1 : Nat) : Int) := by omega
          have hlt : (t.drop K).length = N - 1 - K := by rw [List.length_drop, HNT.out]
          have HBD3 := Lib.hid hbd3
          generalize N - 1 = M at *
          clear hbd2 hbd3
          go_wp2_with fail
          go_upto_region 10 with (fail)
          refine region_planS (fun _ => True) 13 (.calm 0 (.calm 1 (.calm 2 (.calm 3 (.calm 4 (.calm 5 (.calm 6 (.calm 7 (.calm 8 (.calm 9 (.one 10 (.calm 11 (.calm 12 (.done)))))))))))))) (by kernel_rfl) (by kernel_rfl) (by kernel_rfl) rfl (by kernel_rfl) (fun c a d v w h => by cases d <;> exact h) trivial ?_
          intro u3 hu3 hszu3 _
          repeat (first | (refine' PlanW.skip (by rfl) (by rfl) ?_; simp only [Act.put, List.getElem_toArray, List.getElem_cons_zero, List.getElem_cons_succ, List.setIfInBounds_toArray, List.set_cons_zero, List.set_cons_succ]) | (refine' PlanW.val (by rfl) (by rfl) (fun wr hr => ?_) ?_; rotate_left 1; (focus ((go_simp <;> with_reducible rfl); done)); simp only [Act.put, List.getElem_toArray, List.getElem_cons_zero, List.getElem_cons_succ, List.setIfInBounds_toArray, List.set_cons_zero, List.set_cons_succ]))
          refine PlanW.one (by rfl) ?_
          replace rA := rA.keep hu3
          have k3 := chain k2 hu3
          have cA := rA.cell
          have fA := rA.frozen
          have zA := rA.lt
          go_wp2_with fail
          clear cA fA zA
          have rB := row2 rA (.int .i64 sz) (.int .i64 own)
          have kB := below2 k3 (Nat.le_refl _) (.int .i64 sz) (.int .i64 own)
          refine ⟨.inr trivial, ?_⟩
          repeat (first | (refine' PlanW.skip (by rfl) (by rfl) ?_; simp only [Act.put, List.getElem_toArray, List.getElem_cons_zero, List.getElem_cons_succ, List.setIfInBounds_toArray, List.set_cons_zero, List.set_cons_succ]) | (refine' PlanW.val (by rfl) (by rfl) (fun wr hr => ?_) ?_; rotate_left 1; (focus ((go_simp <;> with_reducible rfl); done)); simp only [Act.put, List.getElem_toArray, List.getElem_cons_zero, List.getElem_cons_succ, List.setIfInBounds_toArray, List.set_cons_zero, List.set_cons_succ]))
          refine PlanW.done ?_
          have cr := rB.cell
          go_wp2_with fail
          exact bodyPost_ret (v := .tuple #[.agg #[.int .i64 sz, .int .i64 own], .slice P2 (M - K) (M - K), .int .i64 0]) (by simp [results, Tryd.results29, go_sem, cr]) rfl ⟨_, rfl, HBD3.out, kB⟩
        · rw [ifE_no hez, ifE_no hez, ifE_no hez]
          go_enter Tryd.func29, Tryd.ntmps29
          go_wp2_with fail
          (refine (MY.out _ (hV.keep (al (Below.refl _ _) _))).mono ?_; rintro e w1 ⟨rfl, hb1⟩)
          have rA := (RowAt.new w #[.int .i64 0, .int .i64 0] 49).keep hb1
          have k1 : Below w.heap.size w w1 := chain (al (Below.refl _ _) _) hb1
          clear hb1
          go_wp2_with fail
          (refine (DG.out _ (HBD.out.keep (chain hw0 k1))).mono ?_; rintro e w2 ⟨rfl, hb2⟩)
          replace rA := rA.keep hb2
          have k2 : Below w.heap.size w w2 := chain k1 hb2
          have hbd2 := HBD.out
          clear hb2 k1 hrun h0
          have cA := rA.cell
          have fA := rA.frozen
          have zA := rA.lt
          go_wp2_with fail
          clear cA fA zA
          have rB := row2 rA (.int .i64 0) (.int .i64 0)
          have kB := below2 k2 (Nat.le_refl _) (.int .i64 0) (.int .i64 0)
          have cr := rB.cell
          exact bodyPost_ret (v := .tuple #[.agg #[.int .i64 0, .int .i64 0], .slice none 0 0, .int .i64 er]) (by simp [results, Tryd.results29, go_sem, cr]) rfl ⟨_, rfl, BytsAt.nil, kB⟩
end Go.Proofs.YtafmekojdaeliaaDoor
