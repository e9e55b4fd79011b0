/- Texts behind each other. -/
import Derived.Test.YthjekbbldejlpaaZ04
import Derived.Test.YthjekbbldejlpaaZ02
import Derived.KernelRfl
import Derived.Test.YthjekbbldejlpaaZ03
import Derived.Test.YthjekbbldejlpaaZ20
import Derived.Test.YthjekbbldejlpaaZ17
/- Contracts of layer 4's reference (blocks). -/
set_option linter.unusedVariables false
set_option linter.unusedSimpArgs false
namespace Go.Proofs.Ythjekbbldejlpaa
open Go.ChangeShapes Go.WideShapes Go.ChangeAt Go.RowKit
def mayB (b : Int) : Bool := decide (0 ≤ b) && decide (b ≤ 15) && (b != 6) && (b != 7)
def solidB (b : Int) : Bool := b == -1 || b == 1 || b == 2 || b == 3 || b == 5
def wetB (b : Int) : Bool := decide (8 ≤ b) && decide (b ≤ 15)
def yieldsB (b : Int) : Bool := b == 0 || wetB b
def levelF (b : Int) : Int := if wetB b then b - 8 else -1
def goodF (n : Int) : Int := if 5 < aroundF n 14 then aroundF n 14 + 2 else aroundF n 14
theorem goodF_may (n : Int) : mayB (goodF n) = true := by
  have := around_bd n 14 (by omega)
  unfold mayB goodF
  generalize aroundF n 14 = k at *
  by_cases h : 5 < k
  · rw [if_pos h]; simp; omega
  · rw [if_neg h]; simp; omega
theorem mayB_bd {b : Int} (h : mayB b = true) : 0 ≤ b ∧ b ≤ 15 ∧ b ≠ 6 ∧ b ≠ 7 := by
  unfold mayB at h; simp at h; omega
def nameF (b : Int) : ByteArray :=
  if b = 0 then ⟨#[97, 105, 114]⟩ else if b = 1 then ⟨#[115, 116, 111, 110, 101]⟩ else if b = 2 then ⟨#[100, 105, 114, 116]⟩ else if b = 3 then ⟨#[115, 97, 110, 100]⟩
  else if b = 4 then ⟨#[108, 97, 100, 100, 101, 114]⟩ else if b = 5 then ⟨#[103, 108, 97, 115, 115]⟩
  else if 8 ≤ b ∧ b ≤ 15 then ⟨#[119, 97, 116, 101, 114, (40 + b).toNat.toUInt8]⟩ else ⟨#[]⟩
end Go.Proofs.Ythjekbbldejlpaa
/- Contracts of layer 5's reference (runs): Cells. -/
set_option linter.unusedVariables false
set_option linter.unusedSimpArgs false
namespace Go.Proofs.Ythjekbbldejlpaa
open Go.ChangeShapes Go.WideShapes Go.ChangeAt Go.RowKit
/-- Facts of the types, as the appends ask them. -/
theorem int_info : ∃ i, Try.prog.info? 3 = some i ∧ i.zero = some (.int .i64 0) ∧ i.size = 1 ∧ i.bytes = 8 := by
  obtain ⟨i, hi⟩ : ∃ i, Try.prog.info? 3 = some i := Option.isSome_iff_exists.1 (by kernel_rfl)
  have h : (Try.prog.info? 3).map (fun i => (i.zero, i.size, i.bytes)) = some (some (.int .i64 0), 1, 8) := by kernel_rfl
  rw [hi] at h
  simp at h
  exact ⟨i, hi, h.1, h.2.1, h.2.2⟩
end Go.Proofs.Ythjekbbldejlpaa
/- Contracts of layer 5's reference (runs): Same, SameCells. -/
set_option linter.unusedVariables false
set_option linter.unusedSimpArgs false
namespace Go.Proofs.Ythjekbbldejlpaa
open Go.ChangeShapes Go.WideShapes Go.ChangeAt Go.RowKit
set_option maxHeartbeats 4000000 in
theorem r5_samecells (va vb : Value) (a b : List Int) (w : World) (ha : IntsAt w va a) (hb : IntsAt w vb b) (hL : a.length ≤ 100000000) : Calls Try.prog 43 #[va, vb] w fun e w' =>
    e = .returned (.bool (decide (a = b))) ∧ Below w.heap.size w w' := by
  obtain ⟨pa, ca, rfl, fa⟩ := ha.form
  obtain ⟨pb, cb, rfl, fb⟩ := hb.form
  clear ha hb
  by_cases hlen : a.length = b.length
  · obtain ⟨N, hN⟩ : ∃ N, a.length = N := ⟨_, rfl⟩
    have hM : b.length = N := by omega
    have HN := Lib.hid hN
    have HM := Lib.hid hM
    have FA := Lib.hid fa
    have FB := Lib.hid fb
    rw [hN] at hL
    rw [hN, hM]
    clear hN hM fa fb hlen
    go_enter Try.func43, Try.ntmps43
    go_wp2_with fail
    go_loopw [5] (fun i wr => ∃ k : Nat, k ≤ N ∧ i = .int .i64 k ∧ (∀ j (h1 : j < a.length) (h2 : j < b.length), j < k → a[j] = b[j]) ∧ Below w.heap.size w wr) (fun i _ => N - (intOf i).toNat)
    case atStart => exact ⟨0, by omega, rfl, fun j _ _ h => absurd h (by omega), by (repeat (first | with_reducible assumption | with_reducible exact Below.refl _ _ | with_reducible refine Below.drew ?_ | with_reducible refine below_drewN ?_ _ | with_reducible refine al ?_ _ | (with_reducible refine sc ?_ ?_; (focus (first | omega | (simp; done) | (simp; omega)))) | (with_reducible refine chain ?_ (by assumption))))⟩
    case round =>
      obtain ⟨k, hk, rfl, hs, kw⟩ := hrel
      have HS := Lib.hid hs
      clear hs
      by_cases hlt : k < N
      · obtain ⟨g, off, rfl, hc, hg, hx⟩ := FA.out (by rw [HN.out]; omega)
        obtain ⟨g', off', rfl, hc', hg', hx'⟩ := FB.out (by rw [HM.out]; omega)
        rw [HN.out] at hc
        rw [HM.out] at hc'
        have h1 := keepc kw hg (hx k (by rw [HN.out]; exact hlt))
        have h2 := keepc kw hg' (hx' k (by rw [HM.out]; exact hlt))
        have z1 : g < wr.heap.size := Nat.lt_of_lt_of_le hg kw.size
        have z2 : g' < wr.heap.size := Nat.lt_of_lt_of_le hg' kw.size
        clear hx hx'
        obtain ⟨x, hx⟩ : ∃ x, a[k]'(by rw [HN.out]; exact hlt) = x := ⟨_, rfl⟩
        obtain ⟨y, hy⟩ : ∃ x, b[k]'(by rw [HM.out]; exact hlt) = x := ⟨_, rfl⟩
        rw [hx] at h1
        rw [hy] at h2
        have bk : (k : Int) < N := by omega
        have HXX := Lib.hid hx
        have HYY := Lib.hid hy
        clear hx hy
        obtain ⟨q, hq⟩ : ∃ q, (x != y) = q := ⟨_, rfl⟩
        cases q
        · have hxy : x = y := by simpa using hq
          go_wp2_with fail
          refine region_below 8 (by kernel_rfl) (by kernel_rfl) ?_
          simp only [List.take_succ_cons, List.take_zero, List.drop_succ_cons, List.drop_zero]
          repeat (first | (refine' InText.skip (by rfl) ?_; simp only [Act.put, List.setIfInBounds_toArray, List.set_cons_zero, List.set_cons_succ]) | (refine' InText.val (by rfl) (fun wr hr => ?_) ?_; rotate_left 1; (focus (obtain ⟨hrc, hrf⟩ := bcell hr; (go_simp <;> with_reducible rfl); done)); simp only [Act.put, List.setIfInBounds_toArray, List.set_cons_zero, List.set_cons_succ]))
          refine fun wrs hrs => ?_
          obtain ⟨hrcs, hrfs⟩ := bcell hrs
          have ks : Below w.heap.size w wrs := chain kw hrs
          clear hrs hrcs hrfs
          go_wp2_with fail
          go_roundw
          case rel =>
            exact ⟨k + 1, by omega, by go_num, fun j h3 h4 hj => by
              by_cases e : j = k
              · subst e; rw [HXX.out, HYY.out]; exact hxy
              · exact HS.out j h3 h4 (by omega), ks⟩
          case measure => simp [intOf]; omega
        · have hxy : x ≠ y := by simpa using hq
          have e : decide (a = b) = false := list_other k (by rw [HN.out]; exact hlt) (by rw [HM.out]; exact hlt) (by rw [HXX.out, HYY.out]; exact hxy)
          have E := Lib.hid e
          clear e hxy
          go_wp2_with fail
          refine region_below 8 (by kernel_rfl) (by kernel_rfl) ?_
          simp only [List.take_succ_cons, List.take_zero, List.drop_succ_cons, List.drop_zero]
          repeat (first | (refine' InText.skip (by rfl) ?_; simp only [Act.put, List.setIfInBounds_toArray, List.set_cons_zero, List.set_cons_succ]) | (refine' InText.val (by rfl) (fun wr hr => ?_) ?_; rotate_left 1; (focus (obtain ⟨hrc, hrf⟩ := bcell hr; (go_simp <;> with_reducible rfl); done)); simp only [Act.put, List.setIfInBounds_toArray, List.set_cons_zero, List.set_cons_succ]))
          refine fun wrs hrs => ?_
          obtain ⟨hrcs, hrfs⟩ := bcell hrs
          have ks : Below w.heap.size w wrs := chain kw hrs
          clear hrs hrcs hrfs
          go_wp2_with fail
          go_ret
          exact ⟨by rw [E.out]; rfl, by (repeat (first | with_reducible assumption | with_reducible exact Below.refl _ _ | with_reducible refine Below.drew ?_ | with_reducible refine below_drewN ?_ _ | with_reducible refine al ?_ _ | (with_reducible refine sc ?_ ?_; (focus (first | omega | (simp; done) | (simp; omega)))) | (with_reducible refine chain ?_ (by assumption))))⟩
      · obtain rfl : k = N := by omega
        have e : decide (a = b) = true := list_same (by rw [HN.out, HM.out]) (fun j h1 h2 => HS.out j h1 h2 (by rw [← HN.out]; exact h1))
        have E := Lib.hid e
        clear e
        go_wp2_with fail
        go_ret
        exact ⟨by rw [E.out]; rfl, by (repeat (first | with_reducible assumption | with_reducible exact Below.refl _ _ | with_reducible refine Below.drew ?_ | with_reducible refine below_drewN ?_ _ | with_reducible refine al ?_ _ | (with_reducible refine sc ?_ ?_; (focus (first | omega | (simp; done) | (simp; omega)))) | (with_reducible refine chain ?_ (by assumption))))⟩
  · have e : decide (a = b) = false := by
      simp only [decide_eq_false_iff_not]
      intro e
      subst e
      exact hlen rfl
    have E := Lib.hid e
    obtain ⟨N, hN⟩ : ∃ N, a.length = N := ⟨_, rfl⟩
    obtain ⟨M, hM⟩ : ∃ N, b.length = N := ⟨_, rfl⟩
    rw [hN, hM] at hlen
    rw [hN, hM]
    have hne : ((N : Int) != M) = true := by simp; omega
    clear e fa fb hN hM hL
    go_enter Try.func43, Try.ntmps43
    go_wp2_with fail
    go_ret
    exact ⟨by rw [E.out]; rfl, by (repeat (first | with_reducible assumption | with_reducible exact Below.refl _ _ | with_reducible refine Below.drew ?_ | with_reducible refine below_drewN ?_ _ | with_reducible refine al ?_ _ | (with_reducible refine sc ?_ ?_; (focus (first | omega | (simp; done) | (simp; omega)))) | (with_reducible refine chain ?_ (by assumption))))⟩
end Go.Proofs.Ythjekbbldejlpaa
/- What the statements of layer 9 call: has a store what it must have. -/
set_option linter.unusedVariables false
set_option linter.unusedSimpArgs false
namespace Go.Proofs.Ythjekbbldejlpaa
open Go.ChangeShapes Go.WideShapes Go.ChangeAt Go.RowKit
theorem idsF_len (d : St) : (idsF d).length ≤ d.all.length := by
  have h := idsL_len d (d.all.map (·.1)) (d.all.map (·.1)).length (Nat.le_refl _)
  rw [List.take_length, List.length_map] at h
  exact h
set_option maxRecDepth 10000 in
set_option maxHeartbeats 16000000 in
theorem l9_like (I : StoreI) (w : World) (F : Foot) (p vr : Value) (d : St) (i : Nat) (hA : I.At w F p d) (hR : RefAt F w vr d) (h9 : St9 d i) (hi : i ≤ 300) :
    Calls Try.prog 20 #[p, vr] w fun e w' => e = .returned (.bool true) ∧ Below w.heap.size w w' := by
  obtain ⟨vs, vl, rs, rl, rfl, hs, hl, hrs, hrl⟩ := id hR
  obtain ⟨p1, c1, rfl, _⟩ := hs.form
  obtain ⟨q1, e1, rfl, _⟩ := hl.form
  obtain ⟨n1, hn1⟩ : ∃ x, rs.length = x := ⟨_, rfl⟩
  obtain ⟨m1, hm1⟩ : ∃ x, rl.length = x := ⟨_, rfl⟩
  have hs2 := h9.ok.sum
  have hl2 := h9.ok.len
  have LOAD := Lib.hid (fun (k : Int) u (hk : i64 k) (hu : I.At u F p d) => I.load u F p d k i hu h9 hi hk)
  have RLOAD := Lib.hid (fun (k : Int) u (hk : i64 k) (hu : RefAt F u (dV d.room d.fails d.wait (.slice p1 rs.length c1) (.slice q1 rl.length e1)) d) => rf_load hu h9 hi hk)
  have LOK := Lib.hid (load_ok h9)
  have IDS := Lib.hid (fun u (hu : I.At u F p d) => I.ids u F p d i hu h9 hi)
  have RIDS := Lib.hid (fun u (hu : RefAt F u (dV d.room d.fails d.wait (.slice p1 rs.length c1) (.slice q1 rl.length e1)) d) => rf_ids hu h9 hi)
  have SAME := Lib.hid (fun v v' u h h' => r5_samecells v v' (idsF d) (idsF d) u h h' (by have h1 := idsF_len d; have h2 := all_len d; omega))
  have RLEN := Lib.hid (fun u hu => rG_len (.slice q1 rl.length e1) rl d.under (BlobIn (fun g => ¬ F g) w) u hu hrl (fun x hx => (h9.ok.keyU x hx).1) (by omega) (by omega))
  obtain ⟨sb, qa, hq1, hq2, hq3⟩ := I.disk hA
  subst hq1
  have LEFT := Lib.hid (fun u (hu : I.At u F (.pointer (some ⟨sb, 0, none⟩)) d) (hc : u.cell? ⟨sb, 0, none⟩ = some (.pointer (some qa))) => I.left u F sb _ d i hu hc h9 hi)
  rw [hn1] at RLOAD RIDS ⊢
  rw [hm1] at RLOAD RIDS RLEN hl ⊢
  rw [hn1, hm1] at hR
  clear hrl hrs hn1 hm1 hs hs2 hl2 h9
  go_enter Try.func20, Try.ntmps20
  obtain ⟨w0, hw0⟩ : ∃ x, x = w.alloc (.cells #[.int .i64 d.room, .int .i64 d.fails, .int .i64 d.wait, .slice p1 n1 c1, .slice q1 m1 e1] 39) := ⟨_, rfl⟩
  have k0 : Below w.heap.size w w0 := by rw [hw0]; exact al (Below.refl _ _) _
  have rb : RowAt w0 w.heap.size #[.int .i64 d.room, .int .i64 d.fails, .int .i64 d.wait, .slice p1 n1 c1, .slice q1 m1 e1] 39 := by rw [hw0]; exact RowAt.new w _ _
  replace hA := I.keep hA k0
  replace hR := hR.keep k0
  replace hl := hl.keep k0
  have cq : w0.cell? ⟨sb, 0, none⟩ = some (.pointer (some qa)) := keepc k0 hq2 hq3
  have zq : sb < w0.heap.size := size_lt hq2 k0
  clear hq2 hq3
  go_wp2_with fail
  rw [← hw0]
  clear hw0
  go_loopw [5] (fun i wr => ∃ j : Nat, j ≤ 6 ∧ i = .int .i64 ((j : Int) - 1) ∧ Below w0.heap.size w0 wr) (fun i _ => 6 - (intOf i + 1).toNat)
  case atStart => exact ⟨0, by omega, rfl, Below.refl _ _⟩
  case round =>
    obtain ⟨j, hj, rfl, kw⟩ := hrel
    by_cases hlt : j < 6
    · have ik : i64 ((j : Int) - 1) := by constructor <;> omega
      have L := LOAD.out _ _ ik (I.keep hA kw)
      have R := fun u hu => RLOAD.out _ u ik hu
      have oG := LOK.out ((j : Int) - 1)
      obtain ⟨G, vG, bG, hG⟩ : ∃ G v b, loadF d ((j : Int) - 1) = (G, v, b) := ⟨_, _, _, rfl⟩
      rw [hG] at L R oG
      simp only [] at L R oG
      clear hG
      have L := Lib.hid L
      have R := Lib.hid R
      have g1 : ((j : Int) - 1 < 5) := by omega
      have gV : (vG != vG) = false := by simp
      go_wp2_with fail
      refine L.out.mono ?_
      rintro e w1 ⟨v1, rfl, hn1, hv1⟩
      have hb1 := hn1.1
      obtain ⟨p2, c2, rfl⟩ := hb1.shape
      have k1 := chain kw hv1
      have rbw := rb.keep k1
      have cr : ∀ jj, w1.cell? ⟨w.heap.size, jj, none⟩ = (#[.int .i64 d.room, .int .i64 d.fails, .int .i64 d.wait, .slice p1 n1 c1, .slice q1 m1 e1] : Array Value)[jj]? := rbw.cell
      go_wp2_with fail
      refine (R.out w1 (hR.keep k1)).mono ?_
      rintro e w2 ⟨v2, rfl, hb2, hv2⟩
      obtain ⟨p3, c3, rfl⟩ := hb2.shape
      have k2 := chain k1 hv2
      have h12 := hb1.keep hv2
      clear cr rbw hv1 hv2 hb1 hn1 k1
      have SM := Lib.hid (r6_same _ _ G G w2 h12 hb2 oG oG)
      clear h12 hb2
      go_wp2_with fail
      refine SM.out.mono ?_
      rintro e w3 ⟨rfl, hv3⟩
      have k3 := chain k2 hv3
      go_wp2_with fail
      go_roundw
      case rel => exact ⟨j + 1, by omega, by go_num, k3⟩
      case measure => simp [intOf]; omega
    · obtain rfl : j = 6 := by omega
      have cq6 := keepc kw zq cq
      have zq6 := size_lt zq kw
      have rb6 := rb.keep kw
      have hA6 := I.keep hA kw
      have hR6 := hR.keep kw
      have hl6 := hl.keep kw
      have cb : ∀ jj, wr.cell? ⟨w.heap.size, jj, none⟩ = (#[.int .i64 d.room, .int .i64 d.fails, .int .i64 d.wait, .slice p1 n1 c1, .slice q1 m1 e1] : Array Value)[jj]? := rb6.cell
      have fb : ∀ jj, wr.frozen? ⟨w.heap.size, jj, none⟩ = false := rb6.frozen
      have zb : w.heap.size < wr.heap.size := rb6.lt
      go_upto_region 8 with (fail)
      refine region_plan 17 (.calm 0 (.calm 2 (.one 1 (.one 3 (.one 4 (.calm 5 (.calm 6 (.calm 7 (.calm 8 (.calm 9 (.calm 11 (.calm 12 (.one 10 (.one 13 (.calm 14 (.calm 15 (.calm 16 (.done)))))))))))))))))) (by kernel_rfl) (by kernel_rfl) (by kernel_rfl) rfl (by kernel_rfl) (fun c a d v w h => by cases d <;> exact h) ?_
      intro u3 hu3 hszu3
      repeat (first | (refine' PlanW.skip (by rfl) (by rfl) ?_; simp only [Act.put, List.getElem_toArray, List.getElem_cons_zero, List.getElem_cons_succ, List.setIfInBounds_toArray, List.set_cons_zero, List.set_cons_succ]) | (refine' PlanW.val (by rfl) (by rfl) (fun wr hr => ?_) ?_; rotate_left 1; (focus (obtain ⟨hrc, hrf⟩ := bcell hr; (go_simp <;> with_reducible rfl); done)); simp only [Act.put, List.getElem_toArray, List.getElem_cons_zero, List.getElem_cons_succ, List.setIfInBounds_toArray, List.set_cons_zero, List.set_cons_succ]))
      refine PlanW.one (by rfl) ?_
      go_wp2_with fail
      refine (IDS.out _ (I.keep hA6 hu3)).mono ?_
      rintro e w7 ⟨vb, rfl, hb7, hv7⟩
      have q7 := chain hu3 hv7
      go_wp2_with fail
      refine ⟨.inr q7, PlanW.one (by rfl) ?_⟩
      go_wp2_with fail
      refine (RIDS.out _ (hR6.keep q7)).mono ?_
      rintro e w8 ⟨vc, rfl, hb8, hv8⟩
      replace hb7 := hb7.keep hv8
      have q8 := chain q7 hv8
      go_wp2_with fail
      refine ⟨.inr q8, PlanW.one (by rfl) ?_⟩
      go_wp2_with fail
      refine (SAME.out _ _ _ hb7 hb8).mono ?_
      rintro e w9 ⟨he, hv9⟩
      simp only [decide_true] at he
      subst he
      have q9 := chain q8 hv9
      clear hv9 hv8 hv7 q8 q7 hb7 hb8
      go_wp2_with fail
      refine ⟨.inr q9, ?_⟩
      repeat (first | (refine' PlanW.skip (by rfl) (by rfl) ?_; simp only [Act.put, List.getElem_toArray, List.getElem_cons_zero, List.getElem_cons_succ, List.setIfInBounds_toArray, List.set_cons_zero, List.set_cons_succ]) | (refine' PlanW.val (by rfl) (by rfl) (fun wr hr => ?_) ?_; rotate_left 1; (focus (obtain ⟨hrc, hrf⟩ := bcell hr; (go_simp <;> with_reducible rfl); done)); simp only [Act.put, List.getElem_toArray, List.getElem_cons_zero, List.getElem_cons_succ, List.setIfInBounds_toArray, List.set_cons_zero, List.set_cons_succ]))
      refine PlanW.one (by rfl) ?_
      go_wp2_with fail
      refine (LEFT.out _ (I.keep hA6 q9) (keepc q9 zq6 cq6)).mono ?_
      rintro e w10 ⟨rfl, hv10⟩
      have q10 := chain q9 hv10
      go_wp2_with fail
      refine ⟨.inr q10, PlanW.one (by rfl) ?_⟩
      go_wp2_with fail
      refine (RLEN.out _ (hl6.keep q10)).mono ?_
      rintro e w11 ⟨rfl, hv11⟩
      have q11 := chain q10 hv11
      go_wp2_with fail
      refine ⟨.inr q11, ?_⟩
      repeat (first | (refine' PlanW.skip (by rfl) (by rfl) ?_; simp only [Act.put, List.getElem_toArray, List.getElem_cons_zero, List.getElem_cons_succ, List.setIfInBounds_toArray, List.set_cons_zero, List.set_cons_succ]) | (refine' PlanW.val (by rfl) (by rfl) (fun wr hr => ?_) ?_; rotate_left 1; (focus (obtain ⟨hrc, hrf⟩ := bcell hr; (go_simp <;> with_reducible rfl); done)); simp only [Act.put, List.getElem_toArray, List.getElem_cons_zero, List.getElem_cons_succ, List.setIfInBounds_toArray, List.set_cons_zero, List.set_cons_succ]))
      refine PlanW.done ?_
      have k11 := chain (chain k0 kw) q11
      clear cb fb zb
      go_wp2_with fail
      go_ret
      exact ⟨rfl, k11⟩
end Go.Proofs.Ythjekbbldejlpaa
/- What comes in, opened: deeds of layer 9 (three numbers, a byte and bytes). -/
set_option linter.unusedVariables false
set_option linter.unusedSimpArgs false
namespace Go.Proofs.Ythjekbbldejlpaa
open Go.ChangeShapes Go.WideShapes Go.ChangeAt Go.RowKit Go.Deep
section
variable {H : Type} {enc : TypeId × Value → H} {w : World} {r : Reach} {b0 base : Nat} {spare : Nat → Bool} {held : Bool}
/-- Five fields, opened. -/
theorem five_fields {P : Program} {t : TypeId} {f0 f1 f2 f3 f4 : Field} {fuel : Nat} {cs : List Value} {x : DataW H × List MemPlace} (ht : P.underlying t = some (.struct #[f0, f1, f2, f3, f4])) (h : DataW.trod enc P w base spare held fuel t cs = some x) :
    ∃ y0 y1 y2 y3 y4 n, cs.length = P.cellsOf t ∧ DataW.trod enc P w base spare held n f0.type ((cs.drop f0.offset).take (P.cellsOf f0.type)) = some y0 ∧
      DataW.trod enc P w base spare held n f1.type ((cs.drop f1.offset).take (P.cellsOf f1.type)) = some y1 ∧ DataW.trod enc P w base spare held n f2.type ((cs.drop f2.offset).take (P.cellsOf f2.type)) = some y2 ∧
      DataW.trod enc P w base spare held n f3.type ((cs.drop f3.offset).take (P.cellsOf f3.type)) = some y3 ∧ DataW.trod enc P w base spare held n f4.type ((cs.drop f4.offset).take (P.cellsOf f4.type)) = some y4 := by
  obtain ⟨xs, n, _, _, hl, hlen, hf⟩ := DataW.trod_struct ht h
  match xs, hlen with
  | [y0, y1, y2, y3, y4], _ => exact ⟨y0, y1, y2, y3, y4, n, hl, by simpa using hf 0 f0 rfl, by simpa using hf 1 f1 rfl, by simpa using hf 2 f2 rfl, by simpa using hf 3 f3 rfl, by simpa using hf 4 f4 rfl⟩
/-- A deed: its kind, id and number, its byte, its bytes' slice, and the bytes. -/
structure Deed9 where
  kind : Int
  id : Int
  num : Int
  x : Int
  vb : Value
  B : List Int
def Deed9.ok (w : World) (x : Deed9) : Prop := i64 x.kind ∧ i64 x.id ∧ i64 x.num ∧ (0 ≤ x.x ∧ x.x ≤ 255) ∧ BytsAt w x.vb x.B ∧ bytOk x.B ∧ x.B.length ≤ maxLen
/-- A deed's cells. -/
def Deed9.cells (w : World) (g off : Nat) (x : Deed9) : Prop := w.cell? ⟨g, off, none⟩ = some (.int .i64 x.kind) ∧ w.cell? ⟨g, off + 1, none⟩ = some (.int .i64 x.id) ∧ w.cell? ⟨g, off + 2, none⟩ = some (.int .i64 x.num) ∧ w.cell? ⟨g, off + 3, none⟩ = some (.int .u8 x.x) ∧ w.cell? ⟨g, off + 4, none⟩ = some x.vb
def Deeds9At (w : World) (v : Value) (l : List Deed9) : Prop :=
  ((∃ p cap, v = .slice p 0 cap) ∧ l = []) ∨ ∃ g off cap, v = .slice (some ⟨g, off, none⟩) l.length cap ∧ l.length ≤ cap ∧ g < w.heap.size ∧
    ∀ j (h : j < l.length), l[j].cells w g (off + j * 5)
abbrev Deeds9In (w : World) (v : Value) : Prop := ∃ l : List Deed9, Deeds9At w v l ∧ (∀ j (h : j < l.length), l[j].ok w) ∧ l.length ≤ maxLen
theorem Deeds9At.form {w : World} {v : Value} {l : List Deed9} (h : Deeds9At w v l) : ∃ p cap, v = .slice p l.length cap ∧ (0 < l.length → ∃ g off, p = some ⟨g, off, none⟩ ∧ l.length ≤ cap ∧ g < w.heap.size ∧ ∀ j (h : j < l.length), l[j].cells w g (off + j * 5)) := by
  rcases h with ⟨⟨p, cap, rfl⟩, rfl⟩ | ⟨g, off, cap, e, hc, hg, hx⟩
  · exact ⟨p, cap, rfl, fun h => absurd h (by simp)⟩
  · exact ⟨some ⟨g, off, none⟩, cap, e, fun _ => ⟨g, off, rfl, hc, hg, hx⟩⟩
set_option maxRecDepth 10000 in
theorem deed9_cells : Try.prog.cellsOf 44 = 5 := by kernel_rfl
set_option maxRecDepth 10000 in
theorem deed9_trod {n : Nat} {cs : List Value} {x : DataW H × List MemPlace} (h : DataW.trod enc Try.prog w 0 spare held n 44 cs = some x) :
    ∃ y : Deed9, cs = [.int .i64 y.kind, .int .i64 y.id, .int .i64 y.num, .int .u8 y.x, y.vb] ∧ y.ok w := by
  obtain ⟨y0, y1, y2, y3, y4, m, hl, g0, g1, g2, g3, g4⟩ := five_fields Try.underlying44 h
  rw [deed9_cells] at hl
  simp only [one_int, one_byte, one_bytes] at g0 g1 g2 g3 g4
  obtain ⟨a, ea, wa⟩ := int_trod g0
  obtain ⟨b, eb, wb⟩ := int_trod g1
  obtain ⟨c, ec, wc⟩ := int_trod g2
  obtain ⟨d, ed, wd⟩ := byte_trod g3
  obtain ⟨v, ev, B, hB, oB, lB⟩ := byts_trod g4
  match cs, hl with
  | [c0, c1, c2, c3, c4], _ =>
    simp at ea eb ec ed ev
    subst ea eb ec ed ev
    exact ⟨⟨a, b, c, d, c4, B⟩, rfl, wa, wb, wc, wd, hB, oB, lB⟩
set_option maxRecDepth 10000 in
theorem open_deeds9 {v : Value} {d : DataW H} {p : List MemPlace} (hv : Value.okWide Try.prog w r b0 34 v) (h : DataW.Trod enc Try.prog w 0 spare held 34 v d p) (hlt : ∀ x ∈ p, x.block < w.heap.size) : Deeds9In w v := by
  obtain ⟨a, len, cap, rfl⟩ := okWide_slice Try.underlying34 hv
  obtain ⟨fuel, hf⟩ := h
  rcases open_slice Try.underlying34 hf with ⟨hcs, _⟩ | ⟨a', len', cap', m, n, D, Pl, hcs, _, hl, hm, hmm, hx, hi⟩
  · simp [Value.cells] at hcs
    obtain ⟨rfl, rfl, rfl⟩ := hcs
    exact ⟨[], .inl ⟨⟨_, _, rfl⟩, rfl⟩, fun j h => absurd h (by simp), by simp⟩
  · simp [Value.cells] at hcs
    obtain ⟨rfl, rfl, rfl⟩ := hcs
    by_cases h0 : len = 0
    · subst h0; exact ⟨[], .inl ⟨⟨_, _, rfl⟩, rfl⟩, fun j h => absurd h (by simp), by simp⟩
    · have hlm : len ≤ m := by rw [hmm]; split <;> omega
      rw [deed9_cells] at hi
      have key : ∀ i, i < len → ∃ q : Deed9, q.ok w ∧ w.cell? (a'.add (i * 5)) = some (.int .i64 q.kind) ∧ w.cell? (a'.add (i * 5 + 1)) = some (.int .i64 q.id) ∧ w.cell? (a'.add (i * 5 + 2)) = some (.int .i64 q.num) ∧ w.cell? (a'.add (i * 5 + 3)) = some (.int .u8 q.x) ∧ w.cell? (a'.add (i * 5 + 4)) = some q.vb := by
        intro i hil
        obtain ⟨cs', hc, ht⟩ := hi i (by omega)
        obtain ⟨q, rfl, ok⟩ := deed9_trod ht
        obtain ⟨_, _, hat⟩ := World.cells?_some hc
        have e0 := hat 0 (by omega)
        have e1 := hat 1 (by omega)
        have e2 := hat 2 (by omega)
        have e3 := hat 3 (by omega)
        have e4 := hat 4 (by omega)
        rw [Go.Deep.add_add] at e0 e1 e2 e3 e4
        exact ⟨q, ok, by simpa using e0, by simpa using e1, by simpa using e2, by simpa using e3, by simpa using e4⟩
      obtain ⟨f, hf'⟩ : ∃ f : Nat → Deed9, ∀ i, i < len → (f i).ok w ∧ w.cell? (a'.add (i * 5)) = some (.int .i64 (f i).kind) ∧ w.cell? (a'.add (i * 5 + 1)) = some (.int .i64 (f i).id) ∧ w.cell? (a'.add (i * 5 + 2)) = some (.int .i64 (f i).num) ∧ w.cell? (a'.add (i * 5 + 3)) = some (.int .u8 (f i).x) ∧ w.cell? (a'.add (i * 5 + 4)) = some (f i).vb := by
        refine ⟨fun i => if h : i < len then (key i h).choose else ⟨0, 0, 0, 0, .slice none 0 0, []⟩, fun i hil => ?_⟩
        simp only [hil, dif_pos]
        exact (key i hil).choose_spec
      obtain ⟨b, off, spot⟩ := a'
      have h00 := (hf' 0 (by omega)).2.1
      have hspot : spot = none := by simpa [Addr.add] using World.cell?_spot h00
      subst hspot
      have hlb : b < w.heap.size := World.block_lt_of_cell? w _ h00
      simp only [add_plain] at hf'
      refine ⟨(List.range len).map f, .inr ⟨b, off, cap, by simp, by simpa using hl, hlb, fun j hj => ?_⟩, fun j hj => ?_, by simp; omega⟩
      · have := (hf' j (by simpa using hj)).2
        simpa [Nat.add_assoc, Deed9.cells] using this
      · simpa using (hf' j (by simpa using hj)).1
end
end Go.Proofs.Ythjekbbldejlpaa
