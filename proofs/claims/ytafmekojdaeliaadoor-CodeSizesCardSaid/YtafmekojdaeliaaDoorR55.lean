/- Contracts of layer 5's reference (runs): May. -/
import Derived.Test.YtafmekojdaeliaaDoorR50
set_option linter.unusedVariables false
set_option linter.unusedSimpArgs false
namespace Go.Proofs.YtafmekojdaeliaaDoor
open Go.ChangeShapes Go.WideShapes Go.ChangeAt Go.RowKit
def mayGo : Option Int → Int → List Run → Bool
  | _, left, [] => left == 0
  | p, left, r :: l => mayB r.2 && (decide (1 ≤ r.1) && (decide (r.1 ≤ left) && (!(p == some r.2) && mayGo (some r.2) (left - r.1) l)))
def mayR (l : List Run) (n : Int) : Bool := mayGo none n l && decide (0 < n)
def prevF (l : List Run) : Nat → Option Int
  | 0 => none
  | k + 1 => (l[k]?).map (·.2)
theorem drop_cons {l : List Run} {k : Nat} (h : k < l.length) : l.drop k = l[k] :: l.drop (k + 1) := List.drop_eq_getElem_cons h
set_option maxHeartbeats 8000000 in
theorem r5_may (v : Value) (l : List Run) (n : Int) (hn : i64 n) (w : World) (hl : RunsAt w v l) (hb : ∀ j (h : j < l.length), i64 l[j].1 ∧ i64 l[j].2) (hL : l.length ≤ 100000) : Calls Tryd.prog 20 #[v, .int .i64 n] w fun e w' =>
    e = .returned (.bool (mayR l n)) ∧ Below w.heap.size w w' := by
  obtain ⟨p, c, rfl, hf⟩ := hl.form
  obtain ⟨N, hN⟩ : ∃ N, l.length = N := ⟨_, rfl⟩
  obtain ⟨R, hR⟩ : ∃ R, mayGo none n l = R := ⟨_, rfl⟩
  have hM : mayR l n = (R && decide (0 < n)) := by unfold mayR; rw [hR]
  obtain ⟨M, hM2⟩ : ∃ M, mayR l n = M := ⟨_, rfl⟩
  rw [hM2] at hM
  have HN := Lib.hid hN
  have HF := Lib.hid hf
  have HB := Lib.hid hb
  have HR := Lib.hid hR
  have HM := Lib.hid hM
  rw [hN] at hL
  rw [hN, hM2]
  clear hN hf hb hl hR hM hM2
  go_enter Tryd.func20, Tryd.ntmps20
  go_wp2_with fail
  go_loopw [5, 6] (fun f i wr => ∃ (k : Nat) (left : Int), k ≤ N ∧ i = .int .i64 k ∧ f = .int .i64 left ∧ (i64 left ∧ (k ≠ 0 → 0 ≤ left)) ∧ mayGo (prevF l k) left (l.drop k) = R ∧ Below w.heap.size w wr) (fun _ i _ => N - (intOf i).toNat)
  case atStart => exact ⟨0, n, by omega, rfl, rfl, ⟨hn, fun h => absurd rfl h⟩, by simpa [prevF] using HR.out, by (repeat (first | with_reducible assumption | with_reducible exact Below.refl _ _ | with_reducible refine Below.drew ?_ | with_reducible refine below_drewN ?_ _ | with_reducible refine al ?_ _ | (with_reducible refine sc ?_ ?_; (focus (first | omega | (simp; done) | (simp; omega)))) | (with_reducible refine chain ?_ (by assumption))))⟩
  case round =>
    obtain ⟨k, left, hk, rfl, rfl, ⟨⟨bl0, bl1⟩, hpos⟩, hg, kw⟩ := hrel
    by_cases hlt : k < N
    · obtain ⟨g, off, rfl, hc, hgg, hx⟩ := HF.out (by rw [HN.out]; omega)
      rw [HN.out] at hc
      have hkl : k < l.length := by rw [HN.out]; exact hlt
      rw [drop_cons hkl, mayGo] at hg
      have h1 := keepc kw hgg (hx k hkl).1
      have h2 := keepc kw hgg (hx k hkl).2
      have zg : g < wr.heap.size := Nat.lt_of_lt_of_le hgg kw.size
      obtain ⟨⟨b1, b1'⟩, b2, b2'⟩ := HB.out k hkl
      have hprev : prevF l (k + 1) = some l[k].2 := by simp [prevF, hkl]
      obtain ⟨⟨a, b⟩, hab⟩ : ∃ x, l[k] = x := ⟨_, rfl⟩
      rw [hab] at hg h1 h2 b1 b1' b2 b2' hprev
      simp only [] at hg h1 h2 b1 b1' b2 b2' hprev
      -- the block ahead
      have hq : ∃ (q : Bool), (prevF l k == some b) = q ∧ ((k = 0 ∧ q = false) ∨ ∃ j c, k = j + 1 ∧ wr.cell? ⟨g, off + j * 2 + 1, none⟩ = some (.int .i64 c) ∧ (b == c) = q) := by
        match k, hkl with
        | 0, _ => exact ⟨false, by simp [prevF], .inl ⟨rfl, rfl⟩⟩
        | j + 1, hkl =>
          have hj : j < l.length := by omega
          refine ⟨_, rfl, .inr ⟨j, l[j].2, rfl, keepc kw hgg (hx j hj).2, ?_⟩⟩
          rw [Bool.eq_iff_iff]
          simp [prevF, hj]
          exact eq_comm
      obtain ⟨q, hq1, hq2⟩ := hq
      rw [hq1] at hg
      clear hx hab hq1
      have my := fun u => r4_may b u
      obtain ⟨m, hm⟩ : ∃ m, mayB b = m := ⟨_, rfl⟩
      rw [hm] at my hg
      rw [← hprev] at hg
      have MY := Lib.hid my
      have HG := Lib.hid hg
      have HQ := Lib.hid hq2
      clear my hm hg hprev hq2
      have wz : left - a = left - a := rfl
      cases m
      · have e : R = false := by rw [← HG.out]; rfl
        have e2 : M = false := by rw [HM.out, e]; rfl
        have E := Lib.hid e2
        clear e e2 wz
        go_wp2_with (go_at_call 30; refine (MY.out _).mono ?_; rintro e w' ⟨rfl, rfl⟩)
        go_ret
        exact ⟨by rw [E.out]; rfl, by (repeat (first | with_reducible assumption | with_reducible exact Below.refl _ _ | with_reducible refine Below.drew ?_ | with_reducible refine below_drewN ?_ _ | with_reducible refine al ?_ _ | (with_reducible refine sc ?_ ?_; (focus (first | omega | (simp; done) | (simp; omega)))) | (with_reducible refine chain ?_ (by assumption))))⟩
      by_cases h3 : a < 1
      · have e : R = false := by rw [← HG.out]; simp; omega
        have e2 : M = false := by rw [HM.out, e]; rfl
        have E := Lib.hid e2
        clear e e2 wz
        go_wp2_with (go_at_call 30; refine (MY.out _).mono ?_; rintro e w' ⟨rfl, rfl⟩)
        go_ret
        exact ⟨by rw [E.out]; rfl, by (repeat (first | with_reducible assumption | with_reducible exact Below.refl _ _ | with_reducible refine Below.drew ?_ | with_reducible refine below_drewN ?_ _ | with_reducible refine al ?_ _ | (with_reducible refine sc ?_ ?_; (focus (first | omega | (simp; done) | (simp; omega)))) | (with_reducible refine chain ?_ (by assumption))))⟩
      by_cases h4 : left < a
      · have e : R = false := by rw [← HG.out]; simp; omega
        have e2 : M = false := by rw [HM.out, e]; rfl
        have E := Lib.hid e2
        clear e e2 wz
        go_wp2_with (go_at_call 30; refine (MY.out _).mono ?_; rintro e w' ⟨rfl, rfl⟩)
        go_ret
        exact ⟨by rw [E.out]; rfl, by (repeat (first | with_reducible assumption | with_reducible exact Below.refl _ _ | with_reducible refine Below.drew ?_ | with_reducible refine below_drewN ?_ _ | with_reducible refine al ?_ _ | (with_reducible refine sc ?_ ?_; (focus (first | omega | (simp; done) | (simp; omega)))) | (with_reducible refine chain ?_ (by assumption))))⟩
      clear wz
      rcases HQ.out with ⟨rfl, rfl⟩ | ⟨j, c', rfl, h5, h6⟩
      · simp only [Nat.zero_mul, Nat.add_zero] at h1 h2
        have hg := HG.out
        have e : mayGo (prevF l (0 + 1)) (left - a) (l.drop (0 + 1)) = R := by rw [← hg]; simp [show 1 ≤ a by omega, show a ≤ left by omega]
        have E := Lib.hid e
        clear e hg
        go_wp2_with (go_at_call 30; refine (MY.out _).mono ?_; rintro e w' ⟨rfl, rfl⟩)
        refine region_below 15 (by kernel_rfl) (by kernel_rfl) ?_
        simp only [List.take_succ_cons, List.take_zero, List.drop_succ_cons, List.drop_zero]
        repeat (first | (refine' InText.skip (by rfl) ?_; simp only [Act.put, List.setIfInBounds_toArray, List.set_cons_zero, List.set_cons_succ]) | (refine' InText.val (by rfl) (fun wr hr => ?_) ?_; rotate_left 1; (focus (obtain ⟨hrc, hrf⟩ := bcell hr; (go_simp <;> with_reducible rfl); done)); simp only [Act.put, List.setIfInBounds_toArray, List.set_cons_zero, List.set_cons_succ]))
        refine fun wrs hrs => ?_
        obtain ⟨hrcs, hrfs⟩ := bcell hrs
        have zs : g < wrs.heap.size := size_lt zg hrs
        have ks : Below w.heap.size w wrs := chain kw hrs
        replace h1 : wrs.cell? ⟨g, off, none⟩ = some (.int .i64 a) := keepc hrs zg h1
        clear hrs hrcs hrfs h2
        go_wp2_with fail
        go_roundw
        case rel => exact ⟨0 + 1, left - a, by omega, by go_num, rfl, ⟨⟨by omega, by omega⟩, fun _ => by omega⟩, E.out, ks⟩
        case measure => simp [intOf]; omega
      · have wj : IntKind.i64.wrap (j : Int) = j := IntWalk.i64_in _ (by omega)
        have bj : (j : Int) < N := by omega
        have bk : (j : Int) + 1 < N := by omega
        have bn : j < N := by omega
        have b1 : (0 : Int) ≤ (j : Int) + 1 := by omega
        have b2 : j + 1 < N := by omega
        have b3 : ((j : Int) + 1).toNat = j + 1 := by omega
        cases q
        · have hg := HG.out
          have e : mayGo (prevF l (j + 1 + 1)) (left - a) (l.drop (j + 1 + 1)) = R := by rw [← hg]; simp [show 1 ≤ a by omega, show a ≤ left by omega]
          have E := Lib.hid e
          clear e hg
          go_wp2_with (go_at_call 30; refine (MY.out _).mono ?_; rintro e w' ⟨rfl, rfl⟩)
          refine region_below 15 (by kernel_rfl) (by kernel_rfl) ?_
          simp only [List.take_succ_cons, List.take_zero, List.drop_succ_cons, List.drop_zero]
          repeat (first | (refine' InText.skip (by rfl) ?_; simp only [Act.put, List.setIfInBounds_toArray, List.set_cons_zero, List.set_cons_succ]) | (refine' InText.val (by rfl) (fun wr hr => ?_) ?_; rotate_left 1; (focus (obtain ⟨hrc, hrf⟩ := bcell hr; (go_simp <;> with_reducible rfl); done)); simp only [Act.put, List.setIfInBounds_toArray, List.set_cons_zero, List.set_cons_succ]))
          refine fun wrs hrs => ?_
          obtain ⟨hrcs, hrfs⟩ := bcell hrs
          have zs : g < wrs.heap.size := size_lt zg hrs
          have ks : Below w.heap.size w wrs := chain kw hrs
          replace h1 : wrs.cell? ⟨g, off + (j + 1) * 2, none⟩ = some (.int .i64 a) := keepc hrs zg h1
          clear hrs hrcs hrfs h2 h5
          go_wp2_with fail
          go_roundw
          case rel => exact ⟨j + 1 + 1, left - a, by omega, by go_num, rfl, ⟨⟨by omega, by omega⟩, fun _ => by omega⟩, E.out, ks⟩
          case measure => simp [intOf]; omega
        · have e : R = false := by rw [← HG.out]; simp
          have e2 : M = false := by rw [HM.out, e]; rfl
          have E := Lib.hid e2
          clear e e2
          go_wp2_with (go_at_call 30; refine (MY.out _).mono ?_; rintro e w' ⟨rfl, rfl⟩)
          refine region_below 15 (by kernel_rfl) (by kernel_rfl) ?_
          simp only [List.take_succ_cons, List.take_zero, List.drop_succ_cons, List.drop_zero]
          repeat (first | (refine' InText.skip (by rfl) ?_; simp only [Act.put, List.setIfInBounds_toArray, List.set_cons_zero, List.set_cons_succ]) | (refine' InText.val (by rfl) (fun wr hr => ?_) ?_; rotate_left 1; (focus (obtain ⟨hrc, hrf⟩ := bcell hr; (go_simp <;> with_reducible rfl); done)); simp only [Act.put, List.setIfInBounds_toArray, List.set_cons_zero, List.set_cons_succ]))
          refine fun wrs hrs => ?_
          obtain ⟨hrcs, hrfs⟩ := bcell hrs
          have ks : Below w.heap.size w wrs := chain kw hrs
          clear hrs hrcs hrfs
          go_wp2_with fail
          go_ret
          exact ⟨by rw [E.out]; rfl, by (repeat (first | with_reducible assumption | with_reducible exact Below.refl _ _ | with_reducible refine Below.drew ?_ | with_reducible refine below_drewN ?_ _ | with_reducible refine al ?_ _ | (with_reducible refine sc ?_ ?_; (focus (first | omega | (simp; done) | (simp; omega)))) | (with_reducible refine chain ?_ (by assumption))))⟩
    · obtain rfl : k = N := by omega
      have e0 : l.drop k = [] := by rw [List.drop_eq_nil_iff, HN.out]; exact Nat.le_refl _
      rw [e0, mayGo] at hg
      obtain ⟨q, hq⟩ : ∃ q, (left == 0) = q := ⟨_, rfl⟩
      obtain ⟨q', hq'⟩ : ∃ q, decide (0 < n) = q := ⟨_, rfl⟩
      have e : M = (q && q') := by rw [HM.out, ← hg, hq, hq']
      have E := Lib.hid e
      clear e e0 hg
      cases q
      all_goals
        go_wp2_with fail
        go_ret
        exact ⟨by rw [E.out]; rfl, by (repeat (first | with_reducible assumption | with_reducible exact Below.refl _ _ | with_reducible refine Below.drew ?_ | with_reducible refine below_drewN ?_ _ | with_reducible refine al ?_ _ | (with_reducible refine sc ?_ ?_; (focus (first | omega | (simp; done) | (simp; omega)))) | (with_reducible refine chain ?_ (by assumption))))⟩
end Go.Proofs.YtafmekojdaeliaaDoor
