/- Contracts of layer 5's reference (runs): Blocks, Good. -/
import Derived.Test.YtafmekojdaeliaaDoorR51
set_option linter.unusedVariables false
set_option linter.unusedSimpArgs false
namespace Go.Proofs.YtafmekojdaeliaaDoor
open Go.ChangeShapes Go.WideShapes Go.ChangeAt Go.RowKit
theorem goodF_i64 (n : Int) : 0 ≤ goodF n ∧ goodF n ≤ 15 := by
  have := mayB_bd (goodF_may n); omega
theorem map_take_succ (f : Int → Int) (l : List Int) (k : Nat) (h : k < l.length) : (l.take (k + 1)).map f = (l.take k).map f ++ [f l[k]] := by rw [take_succ_get l k h, List.map_append]; rfl
def goodCs (l : List Run) : List Int := (l.take 12).flatMap (fun r => List.replicate (1 + aroundF r.1 40).toNat (goodF r.2))
def goodC (l : List Run) : List Int := if (goodCs l).length = 0 then [0] else goodCs l
theorem goodCs_succ (l : List Run) (k : Nat) (h : k < l.length) : (l.take (k + 1)).flatMap (fun r => List.replicate (1 + aroundF r.1 40).toNat (goodF r.2)) = (l.take k).flatMap (fun r => List.replicate (1 + aroundF r.1 40).toNat (goodF r.2)) ++ List.replicate (1 + aroundF l[k].1 40).toNat (goodF l[k].2) := by
  rw [take_succ_get l k h, List.flatMap_append]; simp
theorem goodCs_len (l : List Run) : ∀ k, ((l.take k).flatMap (fun r => List.replicate (1 + aroundF r.1 40).toNat (goodF r.2))).length ≤ k * 40
  | 0 => by simp
  | k + 1 => by
    by_cases h : k < l.length
    · rw [goodCs_succ l k h, List.length_append, List.length_replicate]
      have := goodCs_len l k
      have hb := around_bd l[k].1 40 (by omega)
      omega
    · rw [List.take_of_length_le (by omega)]
      have := goodCs_len l k
      rw [List.take_of_length_le (by omega)] at this
      omega
set_option maxHeartbeats 4000000 in
theorem r5_good (v : Value) (l : List Run) (w : World) (hl : RunsAt w v l) (hb : ∀ j (h : j < l.length), i64 l[j].1 ∧ i64 l[j].2) : Calls Tryd.prog 9 #[v] w fun e w' =>
    ∃ v', e = .returned v' ∧ w'.ownsRow w.heap.size 49 2 v' (ofF (goodC l)).length (runVs (ofF (goodC l))) ∧ Below w.heap.size w w' := by
  obtain ⟨i0, hi, hz, hsz, hby⟩ := int_info
  obtain ⟨p, c, rfl, hf⟩ := hl.form
  obtain ⟨N, hN⟩ : ∃ N, l.length = N := ⟨_, rfl⟩
  have HN := Lib.hid hN
  have HF := Lib.hid hf
  have HB := Lib.hid hb
  obtain ⟨F, hF⟩ : ∃ F : Nat → List Int, ∀ k, (l.take k).flatMap (fun r => List.replicate (1 + aroundF r.1 40).toNat (goodF r.2)) = F k := ⟨_, fun _ => rfl⟩
  have hlen : ∀ k, (F k).length ≤ k * 40 := fun k => by rw [← hF]; exact goodCs_len l k
  have hsucc : ∀ k (h : k < l.length), F (k + 1) = F k ++ List.replicate (1 + aroundF l[k].1 40).toNat (goodF l[k].2) := fun k h => by rw [← hF, ← hF]; exact goodCs_succ l k h
  have hend : ∀ k, N ≤ k → F k = F N := fun k h => by rw [← hF, ← hF, List.take_of_length_le (by omega), List.take_of_length_le (by omega)]
  have hz0 : F 0 = [] := by rw [← hF]; rfl
  obtain ⟨R, hR⟩ : ∃ R, goodC l = R := ⟨_, rfl⟩
  have hR2 : R = if (F 12).length = 0 then [0] else F 12 := by rw [← hR]; unfold goodC goodCs; rw [hF]
  have HR := Lib.hid hR2
  have HL := Lib.hid hlen
  have HS := Lib.hid hsucc
  have HE := Lib.hid hend
  have HZ := Lib.hid hz0
  rw [hN, hR]
  clear hN hf hb hl hR hF hlen hsucc hR2 hend hz0
  go_enter Tryd.func9, Tryd.ntmps9
  go_wp2_with fail
  go_loopw [3, 4] (fun o i wr => ∃ k : Nat, k ≤ N ∧ k ≤ 12 ∧ i = .int .i64 k ∧ wr.ownsRow w.heap.size 3 1 o (F k).length (intVs (F k)) ∧ Below w.heap.size w wr) (fun _ i _ => N - (intOf i).toNat)
  case atStart =>
    refine ⟨0, by omega, by omega, rfl, ?_, by (repeat (first | with_reducible assumption | with_reducible exact Below.refl _ _ | with_reducible refine Below.drew ?_ | with_reducible refine below_drewN ?_ _ | with_reducible refine al ?_ _ | (with_reducible refine sc ?_ ?_; (focus (first | omega | (simp; done) | (simp; omega)))) | (with_reducible refine chain ?_ (by assumption))))⟩
    rw [HZ.out]
    exact World.ownsRow_made w #[] 0 (Nat.le_refl _) (by simp [maxLen]) (by simp)
  case round =>
    obtain ⟨k, hk, hk2, rfl, ho, kw⟩ := hrel
    by_cases hlt : k < N ∧ k < 12
    · obtain ⟨hlt, hlm⟩ := hlt
      obtain ⟨g, off, rfl, hc, hg, hx⟩ := HF.out (by rw [HN.out]; omega)
      rw [HN.out] at hc
      have h1 := (hx k (by rw [HN.out]; exact hlt)).1
      have h2 := (hx k (by rw [HN.out]; exact hlt)).2
      have hs := HS.out k (by rw [HN.out]; exact hlt)
      obtain ⟨b1, b2⟩ := HB.out k (by rw [HN.out]; exact hlt)
      clear hx
      obtain ⟨⟨x, y⟩, hx⟩ : ∃ x, l[k]'(by rw [HN.out]; exact hlt) = x := ⟨_, rfl⟩
      rw [hx] at h1 h2 hs b1 b2
      simp only [] at h1 h2 hs b1 b2
      clear hx
      have hle := HL.out k
      have ar := fun u => r_around x 40 b1.1 b1.2 (by omega) (by omega) u
      have gd := fun u => r4_good y b2 u
      have ab := around_bd x 40 (by omega)
      generalize aroundF x 40 = n at *
      generalize goodF y = b at *
      generalize hT : (1 + n).toNat = T at *
      have AR := Lib.hid ar
      have GD := Lib.hid gd
      have HS2 := Lib.hid hs
      have H1 := Lib.hid h1
      have H2 := Lib.hid h2
      clear hs ar gd h1 h2 b1 b2
      have zg : g < wr.heap.size := Nat.lt_of_lt_of_le hg kw.size
      have c1 : wr.cell? ⟨g, off + k * 2, none⟩ = some (.int .i64 x) := keepc kw hg H1.out
      go_wp2_with (first | (go_at_call 17; refine (AR.out _).mono ?_; rintro e w' ⟨rfl, rfl⟩))
      clear c1
      go_loopw [3, 6] (fun o j wr => ∃ m : Nat, m ≤ T ∧ j = .int .i64 m ∧ wr.ownsRow w.heap.size 3 1 o ((F k).length + m) (intVs (F k ++ List.replicate m b)) ∧ Below w.heap.size w wr) (fun _ j _ => T - (intOf j).toNat)
      case atStart => exact ⟨0, by omega, rfl, by simpa using ho, kw⟩
      case round =>
        clear ho kw zg
        obtain ⟨m, hm, rfl, ho, kw⟩ := hrel
        have c2 : wr.cell? ⟨g, off + k * 2 + 1, none⟩ = some (.int .i64 y) := keepc kw hg H2.out
        have zg : g < wr.heap.size := Nat.lt_of_lt_of_le hg kw.size
        by_cases hmn : (m : Int) < 1 + n
        · go_wp2_with (first | (go_at_call 25; refine (GD.out _).mono ?_; rintro e w' ⟨rfl, rfl⟩) | (at_builtin; refine app_int _ rfl _ _ 32 rfl w.heap.size 3 i0 _ Tryd.underlying32 hi hz hsz hby rfl _ _ _ rfl (ho.alloc _) wr.heap.size (.int .i64 b) rfl (by go_simp) rfl (by omega) (by have := kw.size; simp; omega) ?_; intro v1 w1 ho1 hg1))
          go_roundw
          case rel => exact ⟨m + 1, by omega, by go_num, by rw [List.replicate_succ', ← List.append_assoc, intVs, List.map_append]; exact ho1, Below.own (al kw _) (ho.alloc _) hg1⟩
          case measure => simp [intOf]; omega
        · obtain rfl : m = T := by omega
          go_wp2_with fail
          go_roundw
          case rel => exact ⟨k + 1, by omega, by omega, by go_num, by rw [HS2.out, List.length_append, List.length_replicate]; exact ho, kw⟩
          case measure => simp [intOf]; omega
    · have e : F k = F 12 := by
        by_cases h : k = 12
        · rw [h]
        · obtain rfl : k = N := by omega
          exact (HE.out 12 (by omega)).symm
      rw [e] at ho
      clear e
      have hle := HL.out 12
      obtain ⟨Z, hZ⟩ : ∃ Z, F 12 = Z := ⟨_, rfl⟩
      have hR := HR.out
      rw [hZ] at ho hR hle
      have hcond : ¬ ((k : Int) < N ∧ (k : Int) < 12) := by omega
      obtain ⟨q, hq⟩ : ∃ q, Z.length = q := ⟨_, rfl⟩
      rw [hq] at ho hle hR
      obtain ⟨po, co, rfl⟩ := own_form ho
      have gen : (k < N ∧ ¬ k < 12) ∨ ¬ k < N := by omega
      have HG := Lib.hid gen
      clear gen hcond
      by_cases h0 : q = 0
      · subst h0
        obtain rfl : Z = [] := List.length_eq_zero_iff.1 hq
        rw [if_pos rfl] at hR
        have HR2 := Lib.hid hR
        clear hR hZ hq
        rcases HG.out with ⟨g1, g2⟩ | g1
        all_goals
          go_wp2_with (at_builtin; refine app_int _ rfl _ _ 32 rfl w.heap.size 3 i0 _ Tryd.underlying32 hi hz hsz hby rfl _ _ _ rfl (ho.alloc _) wr.heap.size (.int .i64 0) rfl (by go_simp) rfl (by omega) (by have := kw.size; simp; omega) ?_; intro v1 w1 ho1 hg1)
          have k1 : Below w.heap.size w w1 := Below.own (al kw _) (ho.alloc _) hg1
          refine (r5_of _ [0] _ (ints_of_owned ho1) (by simp)).mono ?_
          rintro e w2 ⟨v2, rfl, ho2, hb2⟩
          have k2 : Below w.heap.size w w2 := chain k1 hb2
          have ho3 := own_base ho2 k1.size
          clear ho2 hb2
          go_wp2_with fail
          go_ret
          exact ⟨_, rfl, by rw [HR2.out]; exact ho3, k2⟩
      · rw [if_neg h0] at hR
        have HR2 := Lib.hid hR
        have HQ := Lib.hid hq
        clear hR hZ hq
        have hq1 : ((q : Int) == 0) = false := by simp; omega
        rcases HG.out with ⟨g1, g2⟩ | g1
        all_goals
          go_wp2_with fail
          refine (r5_of _ Z _ (ints_of_owned (by rw [HQ.out]; exact ho)) (by rw [HQ.out]; omega)).mono ?_
          rintro e w2 ⟨v2, rfl, ho2, hb2⟩
          have k2 : Below w.heap.size w w2 := chain kw hb2
          have ho3 := own_base ho2 kw.size
          clear ho2 hb2
          go_wp2_with fail
          go_ret
          exact ⟨_, rfl, by rw [HR2.out]; exact ho3, k2⟩
end Go.Proofs.YtafmekojdaeliaaDoor
