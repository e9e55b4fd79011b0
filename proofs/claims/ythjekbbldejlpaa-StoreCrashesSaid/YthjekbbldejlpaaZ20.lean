/- Texts behind each other. -/
import Derived.Test.YthjekbbldejlpaaZ18
import Derived.Test.YthjekbbldejlpaaZ16
import Derived.Test.YthjekbbldejlpaaZ08
/- What the statements of layer 9 call: a deed, of both. Written by gen_m09.py. -/
set_option linter.unusedVariables false
set_option linter.unusedSimpArgs false
namespace Go.Proofs.Ythjekbbldejlpaa
open Go.ChangeShapes Go.WideShapes Go.ChangeAt Go.RowKit
/-- What a deed makes of a state. -/
def does9 (d : St) (kind id num x : Int) (B : List Int) : St :=
  if kind = 0 then (saveSt d (aroundF id 4) (B.take 20)).1 else if kind = 1 then (syncSt d).1 else if kind = 2 then (crashSt d (aroundF num 60)).1 else if kind = 3 then failSt d (aroundF num 5 - 2) else if kind = 4 then (spoilSt d (aroundF num 8) (aroundF id 25) x).1 else d
theorem St9.does {d : St} {i : Nat} (h : St9 d i) (kind id num x : Int) {B : List Int} (hB : bytOk B) (hx : 0 ≤ x ∧ x ≤ 255) : St9 (does9 d kind id num x B) (i + 1) := by
  have hn := around_bd num 5 (by omega)
  have h2 := h.mono (Nat.le_succ i)
  unfold does9
  split
  · exact h.save _ (hB.take 20) (by rw [List.length_take]; omega)
  · split
    · exact h2.sync
    · split
      · exact h2.crash _
      · split
        · exact h2.fail (by omega)
        · split
          · exact h.spoil _ _ hx
          · exact h2
set_option maxRecDepth 10000 in
set_option maxHeartbeats 16000000 in
theorem l9_does (I : StoreI) (w0 w : World) (F : Foot) (p vr : Value) (d : St) (kind id num x : Int) (vb : Value) (B : List Int) (i : Nat) (h0 : Below w0.heap.size w0 w) (hA : I.At w F p d) (hR : RefAt F w vr d) (h9 : St9 d i) (hi : i ≤ 200)
    (hkind : i64 kind) (hid : i64 id) (hnum : i64 num) (hx : 0 ≤ x ∧ x ≤ 255) (hb : BytsAt w0 vb B) (oB : bytOk B) (lB : B.length ≤ maxLen) :
    Calls Try.prog 19 #[p, vr, .agg #[.int .i64 kind, .int .i64 id, .int .i64 num, .int .u8 x, vb]] w fun e w' => ∃ v' F', e = .returned (.tuple #[v', .bool true]) ∧
      I.At w' F' p (does9 d kind id num x B) ∧ RefAt F' w' v' (does9 d kind id num x B) ∧ Step F F' w w' := by
  obtain ⟨p1, n1, c1, q1, m1, e1, rfl⟩ := hR.form
  obtain ⟨sb, rfl⟩ := I.ptr hA
  obtain ⟨pb, cb, rfl⟩ := hb.shape
  obtain ⟨hk0, hk1⟩ := around_bd id 4 (by omega)
  have akey := fun u => r_around id 4 hid.1 hid.2 (by omega) (by omega) u
  obtain ⟨K, hK⟩ : ∃ K, aroundF id 4 = K := ⟨_, rfl⟩
  have ik : i64 K := by constructor <;> omega
  have hbt : BytsAt w0 (slCut (.slice pb B.length cb) (min B.length 20)) (B.take 20) := by
    have h := byts_cut hb (Nat.min_le_left B.length 20)
    rw [show B.take (min B.length 20) = B.take 20 by
      by_cases c : B.length ≤ 20
      · rw [Nat.min_eq_left c, List.take_length, List.take_of_length_le c]
      · rw [Nat.min_eq_right (by omega)]] at h
    exact h
  have few := fun u (hu : BytsAt u (.slice pb B.length cb) B) => r8_few (.slice pb B.length cb) B 20 u hu lB (by omega)
  have ht20 : (B.take 20).length ≤ 20 := by rw [List.length_take]; omega
  obtain ⟨T, hT⟩ : ∃ T, B.take 20 = T := ⟨_, rfl⟩
  have oT : bytOk T := by rw [← hT]; exact oB.take 20
  obtain ⟨nT, hnT⟩ : ∃ x, min B.length 20 = x := ⟨_, rfl⟩
  have hbT : BytsAt w0 (.slice pb nT cb) T := by rw [← hT, ← hnT]; exact hbt
  simp only [hnT, slCut] at few
  obtain ⟨L, hL⟩ : ∃ x, B.length = x := ⟨_, rfl⟩
  have hst : does9 d kind id num x B = if kind = 0 then (saveSt d K T).1 else if kind = 1 then (syncSt d).1 else if kind = 2 then (crashSt d (aroundF num 60)).1 else if kind = 3 then failSt d (aroundF num 5 - 2) else if kind = 4 then (spoilSt d (aroundF num 8) (aroundF id 25) x).1 else d := by unfold does9; rw [hK, hT]
  rw [hK] at akey
  rw [hT] at ht20
  rw [hL] at few hb ⊢
  obtain ⟨D2, hD2⟩ : ∃ D2, does9 d kind id num x B = D2 := ⟨_, rfl⟩
  rw [hD2] at hst ⊢
  have AK := Lib.hid akey
  have FEW := Lib.hid few
  have HST := Lib.hid hst
  have HB := Lib.hid hb
  have HBT := Lib.hid hbT
  have H0 := Lib.hid h0
  have H9 := Lib.hid h9
  have HX := Lib.hid hx
  clear akey few hst hb hbt hbT h0 hD2 hK hT hnT hL lB oB h9 hx
  have bk := hkind
  obtain ⟨bk0, bk1⟩ := hkind
  by_cases e0 : kind = 0
  · subst e0
    have hst := HST.out
    rw [if_pos rfl] at hst
    obtain ⟨C2, hC2⟩ : ∃ C, (saveSt d K T).2 = C := ⟨_, rfl⟩
    have PR := Lib.hid (fun u (hA : I.At u F (.pointer (some ⟨sb, 0, none⟩)) d) (hu : RefAt F u (dV d.room d.fails d.wait (.slice p1 n1 c1) (.slice q1 m1 e1)) d) (hx : BytsAt u (.slice pb nT cb) T) => rf_save (fun b hb => I.lt hA b hb) hu H9.out (by omega) ik hx oT ht20)
    have PD := Lib.hid (fun (F : Foot) u (hu : I.At u F (.pointer (some ⟨sb, 0, none⟩)) d) (hx : BytsAt u (.slice pb nT cb) T) => I.save u F _ d K _ T i hu H9.out (by omega) ik hx oT (.inl ht20))
    rw [hC2, ← hst] at PR PD
    clear hst hC2
    go_enter Try.func19, Try.ntmps19
    go_wp2_with (go_at_call 13; refine (AK.out _).mono ?_; rintro e w' ⟨rfl, rfl⟩)
    have kA : Below w.heap.size w (((w.alloc (.cells #[.int .i64 d.room, .int .i64 d.fails, .int .i64 d.wait, .slice p1 n1 c1, .slice q1 m1 e1] 39)).alloc (.cells #[.int .i64 0, .int .i64 id, .int .i64 num, .int .u8 x, .slice pb L cb] 44)).alloc (.cells #[.int .i64 0, .int .i64 0, .int .i64 0, .slice none 0 0, .slice none 0 0] 39)) := al (al (al (Below.refl _ _) _) _) _
    refine (FEW.out _ (HB.out.keep (Below.trans H0.out (kA.mono H0.out.size)))).mono ?_
    rintro e w1 ⟨rfl, hv⟩
    have rR : RowAt w1 w.heap.size #[.int .i64 d.room, .int .i64 d.fails, .int .i64 d.wait, .slice p1 n1 c1, .slice q1 m1 e1] 39 := (((RowAt.new w _ _).alloc _).alloc _).keep hv
    have rX : RowAt w1 (w.heap.size + 1) #[.int .i64 0, .int .i64 id, .int .i64 num, .int .u8 x, .slice pb L cb] 44 := ((RowAt.make _ _ _ (by simp)).alloc _).keep hv
    have rZ : RowAt w1 (w.heap.size + 1 + 1) #[.int .i64 0, .int .i64 0, .int .i64 0, .slice none 0 0, .slice none 0 0] 39 := (RowAt.make _ _ _ (by simp)).keep hv
    have k1 : Below w.heap.size w w1 := chain kA hv
    clear hv kA
    replace hA := I.keep hA k1
    replace hR := hR.keep k1
    have cr : ∀ jj, w1.cell? ⟨w.heap.size, jj, none⟩ = (#[.int .i64 d.room, .int .i64 d.fails, .int .i64 d.wait, .slice p1 n1 c1, .slice q1 m1 e1] : Array Value)[jj]? := rR.cell
    have fr : ∀ jj, w1.frozen? ⟨w.heap.size, jj, none⟩ = false := rR.frozen
    have zr : w.heap.size < w1.heap.size := rR.lt
    have cx : ∀ jj, w1.cell? ⟨(w.heap.size + 1), jj, none⟩ = (#[.int .i64 0, .int .i64 id, .int .i64 num, .int .u8 x, .slice pb L cb] : Array Value)[jj]? := rX.cell
    have fx : ∀ jj, w1.frozen? ⟨(w.heap.size + 1), jj, none⟩ = false := rX.frozen
    have zx : (w.heap.size + 1) < w1.heap.size := rX.lt
    have cz : ∀ jj, w1.cell? ⟨(w.heap.size + 1 + 1), jj, none⟩ = (#[.int .i64 0, .int .i64 0, .int .i64 0, .slice none 0 0, .slice none 0 0] : Array Value)[jj]? := rZ.cell
    have fz : ∀ jj, w1.frozen? ⟨(w.heap.size + 1 + 1), jj, none⟩ = false := rZ.frozen
    have zz : (w.heap.size + 1 + 1) < w1.heap.size := rZ.lt
    go_wp2_with fail
    refine (PR.out _ hA hR (HBT.out.keep (Below.trans H0.out (k1.mono H0.out.size)))).mono ?_
    rintro e w2 ⟨v2, rfl, hR2, hv2⟩
    obtain ⟨p2, n2, c2, q2, m2, e2, rfl⟩ := hR2.form
    have k2 := chain k1 hv2
    replace rR := rR.keep hv2
    replace rX := rX.keep hv2
    replace rZ := rZ.keep hv2
    replace hA := I.keep hA hv2
    clear hv2 k1 hR
    clear cr fr zr cx fx zx cz fz zz
    have cr : ∀ jj, w2.cell? ⟨w.heap.size, jj, none⟩ = (#[.int .i64 d.room, .int .i64 d.fails, .int .i64 d.wait, .slice p1 n1 c1, .slice q1 m1 e1] : Array Value)[jj]? := rR.cell
    have fr : ∀ jj, w2.frozen? ⟨w.heap.size, jj, none⟩ = false := rR.frozen
    have zr : w.heap.size < w2.heap.size := rR.lt
    have cx : ∀ jj, w2.cell? ⟨(w.heap.size + 1), jj, none⟩ = (#[.int .i64 0, .int .i64 id, .int .i64 num, .int .u8 x, .slice pb L cb] : Array Value)[jj]? := rX.cell
    have fx : ∀ jj, w2.frozen? ⟨(w.heap.size + 1), jj, none⟩ = false := rX.frozen
    have zx : (w.heap.size + 1) < w2.heap.size := rX.lt
    go_upto_region 6 with (fail)
    clear cr fr zr cx fx zx
    have rZw := rZ
    obtain ⟨u2, hu2⟩ : ∃ u, w2.alloc (.cells #[.int .i64 D2.room, .int .i64 D2.fails, .int .i64 D2.wait, .slice p2 n2 c2, .slice q2 m2 e2] 39) = u := ⟨_, rfl⟩
    have kv : Below w2.heap.size w2 u2 := by rw [← hu2]; exact al (Below.refl _ _) _
    have rN : RowAt u2 w2.heap.size #[.int .i64 D2.room, .int .i64 D2.fails, .int .i64 D2.wait, .slice p2 n2 c2, .slice q2 m2 e2] 39 := by rw [← hu2]; exact RowAt.new w2 _ _
    rw [hu2]
    have k3 := chain k2 kv
    replace rZ := rZ.keep kv
    replace rX := rX.keep kv
    replace hA := I.keep hA kv
    replace hR2 := hR2.keep kv
    have hne : w2.heap.size ≠ w.heap.size + 1 + 1 := fun e => by have h1 := rX.lt; have h2 := k2.size; have h3 := rZw.lt; omega
    clear hu2 rR rZw
    refine region_planS (fun x => RowAt x w2.heap.size #[.int .i64 D2.room, .int .i64 D2.fails, .int .i64 D2.wait, .slice p2 n2 c2, .slice q2 m2 e2] 39) 9 (.calm 0 (.calm 1 (.calm 2 (.calm 3 (.calm 5 (.one 4 (.calm 6 (.one 7 (.calm 8 (.done)))))))))) (by kernel_rfl) (by kernel_rfl) (by kernel_rfl) rfl (by kernel_rfl) (fun c a d v w h => by cases d <;> exact h) (by exact rN.keep ((Below.refl _ _).drew)) ?_
    intro u3 hu3 hszu3 hSu3
    repeat (first | (refine' PlanW.skip (by rfl) (by rfl) ?_; simp only [Act.put, List.getElem_toArray, List.getElem_cons_zero, List.getElem_cons_succ, List.setIfInBounds_toArray, List.set_cons_zero, List.set_cons_succ]) | (refine' PlanW.val (by rfl) (by rfl) (fun wr hr => ?_) ?_; rotate_left 1; (focus (have hrc := RowAt.cell hr; have hrf := RowAt.frozen hr; have hrl := RowAt.lt hr; (go_simp <;> with_reducible rfl); done)); simp only [Act.put, List.getElem_toArray, List.getElem_cons_zero, List.getElem_cons_succ, List.setIfInBounds_toArray, List.set_cons_zero, List.set_cons_succ]))
    have k4 := chain k3 hu3
    replace rZ := rZ.keep hu3
    replace rX := rX.keep hu3
    replace hA := I.keep hA hu3
    replace hR2 := hR2.keep hu3
    refine PlanW.one (by rfl) ?_
    go_wp2_with fail
    refine (PD.out _ _ hA (HBT.out.keep (Below.trans H0.out (k4.mono H0.out.size)))).mono ?_
    rintro e w4 ⟨F4, rfl, hA4, hs4⟩
    have st4 := (Step.of k4 (F := F)).trans hs4
    have rN4 := I.row hA hs4 (.inr (.inl rfl)) hSu3
    have rZ4 := I.row hA hs4 (.inr (.inl rfl)) rZ
    have hR4 := I.ref hA hs4 hR2
    clear hs4 hA hR2 rZ rX k4 k3 hu3 hSu3 rN kv
    go_wp2_with fail
    refine ⟨.inr rN4, ?_⟩
    repeat (first | (refine' PlanW.skip (by rfl) (by rfl) ?_; simp only [Act.put, List.getElem_toArray, List.getElem_cons_zero, List.getElem_cons_succ, List.setIfInBounds_toArray, List.set_cons_zero, List.set_cons_succ]) | (refine' PlanW.val (by rfl) (by rfl) (fun wr hr => ?_) ?_; rotate_left 1; (focus (have hrc := RowAt.cell hr; have hrf := RowAt.frozen hr; have hrl := RowAt.lt hr; (go_simp <;> with_reducible rfl); done)); simp only [Act.put, List.getElem_toArray, List.getElem_cons_zero, List.getElem_cons_succ, List.setIfInBounds_toArray, List.set_cons_zero, List.set_cons_succ]))
    refine PlanW.one (by rfl) ?_
    have cz : ∀ jj, w4.cell? ⟨(w.heap.size + 1 + 1), jj, none⟩ = (#[.int .i64 0, .int .i64 0, .int .i64 0, .slice none 0 0, .slice none 0 0] : Array Value)[jj]? := rZ4.cell
    have fz : ∀ jj, w4.frozen? ⟨(w.heap.size + 1 + 1), jj, none⟩ = false := rZ4.frozen
    have zz : (w.heap.size + 1 + 1) < w4.heap.size := rZ4.lt
    go_wp2_with fail
    clear cz fz zz
    have st5 := st4.put5 (b := w.heap.size + 1 + 1) (by omega) (.int .i64 D2.room) (.int .i64 D2.fails) (.int .i64 D2.wait) (.slice p2 n2 c2) (.slice q2 m2 e2)
    have hA5 := I.put5 hA4 rZ4 (.inr (.inl rfl)) (.int .i64 D2.room) (.int .i64 D2.fails) (.int .i64 D2.wait) (.slice p2 n2 c2) (.slice q2 m2 e2)
    have hR5 := hR4.put5 rZ4 (.int .i64 D2.room) (.int .i64 D2.fails) (.int .i64 D2.wait) (.slice p2 n2 c2) (.slice q2 m2 e2)
    have rN5 := row5_other rN4 hne (.int .i64 D2.room) (.int .i64 D2.fails) (.int .i64 D2.wait) (.slice p2 n2 c2) (.slice q2 m2 e2)
    have r5 := row5 rZ4 (.int .i64 D2.room) (.int .i64 D2.fails) (.int .i64 D2.wait) (.slice p2 n2 c2) (.slice q2 m2 e2)
    clear rZ4 rN4 st4 hA4 hR4
    simp only [lay5] at st5 hA5 hR5
    generalize ((((w4.setCell ⟨w.heap.size + 1 + 1, 0, none⟩ (.int .i64 D2.room)).setCell ⟨w.heap.size + 1 + 1, 1, none⟩ (.int .i64 D2.fails)).setCell ⟨w.heap.size + 1 + 1, 2, none⟩ (.int .i64 D2.wait)).setCell ⟨w.heap.size + 1 + 1, 3, none⟩ (.slice p2 n2 c2)).setCell ⟨w.heap.size + 1 + 1, 4, none⟩ (.slice q2 m2 e2) = u5 at *
    refine ⟨.inr rN5, ?_⟩
    repeat (first | (refine' PlanW.skip (by rfl) (by rfl) ?_; simp only [Act.put, List.getElem_toArray, List.getElem_cons_zero, List.getElem_cons_succ, List.setIfInBounds_toArray, List.set_cons_zero, List.set_cons_succ]) | (refine' PlanW.val (by rfl) (by rfl) (fun wr hr => ?_) ?_; rotate_left 1; (focus (have hrc := RowAt.cell hr; have hrf := RowAt.frozen hr; have hrl := RowAt.lt hr; (go_simp <;> with_reducible rfl); done)); simp only [Act.put, List.getElem_toArray, List.getElem_cons_zero, List.getElem_cons_succ, List.setIfInBounds_toArray, List.set_cons_zero, List.set_cons_succ]))
    refine PlanW.done ?_
    have cr := r5.cell
    go_wp2_with fail
    exact bodyPost_ret (v := .tuple #[.agg #[.int .i64 D2.room, .int .i64 D2.fails, .int .i64 D2.wait, .slice p2 n2 c2, .slice q2 m2 e2], .bool true]) (by simp [results, Try.results19, go_sem, cr]) rfl ⟨_, F4, rfl, hA5, hR5, st5⟩
  by_cases e1' : kind = 1
  · subst e1'
    have hst := HST.out
    rw [if_neg (by decide), if_pos rfl] at hst
    obtain ⟨C2, hC2⟩ : ∃ C, (syncSt d).2 = C := ⟨_, rfl⟩
    have PR := Lib.hid (fun u (hu : RefAt F u (dV d.room d.fails d.wait (.slice p1 n1 c1) (.slice q1 m1 e1)) d) => rf_sync hu H9.out (by omega))
    have PD := Lib.hid (fun (F : Foot) u q (hu : I.At u F (.pointer (some ⟨sb, 0, none⟩)) d) (hq : u.cell? ⟨sb, 0, none⟩ = some q) => I.sync u F sb q d i hu hq H9.out (by omega))
    rw [hC2, ← hst] at PR PD
    clear hst hC2
    go_enter Try.func19, Try.ntmps19
    go_wp2_with (go_at_call 13; refine (AK.out _).mono ?_; rintro e w' ⟨rfl, rfl⟩)
    have kA : Below w.heap.size w (((w.alloc (.cells #[.int .i64 d.room, .int .i64 d.fails, .int .i64 d.wait, .slice p1 n1 c1, .slice q1 m1 e1] 39)).alloc (.cells #[.int .i64 1, .int .i64 id, .int .i64 num, .int .u8 x, .slice pb L cb] 44)).alloc (.cells #[.int .i64 0, .int .i64 0, .int .i64 0, .slice none 0 0, .slice none 0 0] 39)) := al (al (al (Below.refl _ _) _) _) _
    refine (FEW.out _ (HB.out.keep (Below.trans H0.out (kA.mono H0.out.size)))).mono ?_
    rintro e w1 ⟨rfl, hv⟩
    have rR : RowAt w1 w.heap.size #[.int .i64 d.room, .int .i64 d.fails, .int .i64 d.wait, .slice p1 n1 c1, .slice q1 m1 e1] 39 := (((RowAt.new w _ _).alloc _).alloc _).keep hv
    have rX : RowAt w1 (w.heap.size + 1) #[.int .i64 1, .int .i64 id, .int .i64 num, .int .u8 x, .slice pb L cb] 44 := ((RowAt.make _ _ _ (by simp)).alloc _).keep hv
    have rZ : RowAt w1 (w.heap.size + 1 + 1) #[.int .i64 0, .int .i64 0, .int .i64 0, .slice none 0 0, .slice none 0 0] 39 := (RowAt.make _ _ _ (by simp)).keep hv
    have k1 : Below w.heap.size w w1 := chain kA hv
    clear hv kA
    replace hA := I.keep hA k1
    replace hR := hR.keep k1
    have cr : ∀ jj, w1.cell? ⟨w.heap.size, jj, none⟩ = (#[.int .i64 d.room, .int .i64 d.fails, .int .i64 d.wait, .slice p1 n1 c1, .slice q1 m1 e1] : Array Value)[jj]? := rR.cell
    have fr : ∀ jj, w1.frozen? ⟨w.heap.size, jj, none⟩ = false := rR.frozen
    have zr : w.heap.size < w1.heap.size := rR.lt
    have cx : ∀ jj, w1.cell? ⟨(w.heap.size + 1), jj, none⟩ = (#[.int .i64 1, .int .i64 id, .int .i64 num, .int .u8 x, .slice pb L cb] : Array Value)[jj]? := rX.cell
    have fx : ∀ jj, w1.frozen? ⟨(w.heap.size + 1), jj, none⟩ = false := rX.frozen
    have zx : (w.heap.size + 1) < w1.heap.size := rX.lt
    have cz : ∀ jj, w1.cell? ⟨(w.heap.size + 1 + 1), jj, none⟩ = (#[.int .i64 0, .int .i64 0, .int .i64 0, .slice none 0 0, .slice none 0 0] : Array Value)[jj]? := rZ.cell
    have fz : ∀ jj, w1.frozen? ⟨(w.heap.size + 1 + 1), jj, none⟩ = false := rZ.frozen
    have zz : (w.heap.size + 1 + 1) < w1.heap.size := rZ.lt
    go_wp2_with fail
    refine (PR.out _ hR).mono ?_
    rintro e w2 ⟨v2, rfl, hR2, hv2⟩
    obtain ⟨p2, n2, c2, q2, m2, e2, rfl⟩ := hR2.form
    have k2 := chain k1 hv2
    replace rR := rR.keep hv2
    replace rX := rX.keep hv2
    replace rZ := rZ.keep hv2
    replace hA := I.keep hA hv2
    clear hv2 k1 hR
    clear cr fr zr cx fx zx cz fz zz
    have cr : ∀ jj, w2.cell? ⟨w.heap.size, jj, none⟩ = (#[.int .i64 d.room, .int .i64 d.fails, .int .i64 d.wait, .slice p1 n1 c1, .slice q1 m1 e1] : Array Value)[jj]? := rR.cell
    have fr : ∀ jj, w2.frozen? ⟨w.heap.size, jj, none⟩ = false := rR.frozen
    have zr : w.heap.size < w2.heap.size := rR.lt
    have cx : ∀ jj, w2.cell? ⟨(w.heap.size + 1), jj, none⟩ = (#[.int .i64 1, .int .i64 id, .int .i64 num, .int .u8 x, .slice pb L cb] : Array Value)[jj]? := rX.cell
    have fx : ∀ jj, w2.frozen? ⟨(w.heap.size + 1), jj, none⟩ = false := rX.frozen
    have zx : (w.heap.size + 1) < w2.heap.size := rX.lt
    go_upto_region 9 with (fail)
    clear cr fr zr cx fx zx
    have rZw := rZ
    obtain ⟨u2, hu2⟩ : ∃ u, w2.alloc (.cells #[.int .i64 D2.room, .int .i64 D2.fails, .int .i64 D2.wait, .slice p2 n2 c2, .slice q2 m2 e2] 39) = u := ⟨_, rfl⟩
    have kv : Below w2.heap.size w2 u2 := by rw [← hu2]; exact al (Below.refl _ _) _
    have rN : RowAt u2 w2.heap.size #[.int .i64 D2.room, .int .i64 D2.fails, .int .i64 D2.wait, .slice p2 n2 c2, .slice q2 m2 e2] 39 := by rw [← hu2]; exact RowAt.new w2 _ _
    rw [hu2]
    have k3 := chain k2 kv
    replace rZ := rZ.keep kv
    replace rX := rX.keep kv
    replace hA := I.keep hA kv
    replace hR2 := hR2.keep kv
    have hne : w2.heap.size ≠ w.heap.size + 1 + 1 := fun e => by have h1 := rX.lt; have h2 := k2.size; have h3 := rZw.lt; omega
    clear hu2 rR rZw
    refine region_planS (fun x => RowAt x w2.heap.size #[.int .i64 D2.room, .int .i64 D2.fails, .int .i64 D2.wait, .slice p2 n2 c2, .slice q2 m2 e2] 39) 10 (.calm 0 (.calm 1 (.calm 2 (.calm 3 (.calm 6 (.one 4 (.one 5 (.calm 7 (.one 8 (.calm 9 (.done))))))))))) (by kernel_rfl) (by kernel_rfl) (by kernel_rfl) rfl (by kernel_rfl) (fun c a d v w h => by cases d <;> exact h) (by exact rN.keep ((Below.refl _ _).drew)) ?_
    intro u3 hu3 hszu3 hSu3
    repeat (first | (refine' PlanW.skip (by rfl) (by rfl) ?_; simp only [Act.put, List.getElem_toArray, List.getElem_cons_zero, List.getElem_cons_succ, List.setIfInBounds_toArray, List.set_cons_zero, List.set_cons_succ]) | (refine' PlanW.val (by rfl) (by rfl) (fun wr hr => ?_) ?_; rotate_left 1; (focus (have hrc := RowAt.cell hr; have hrf := RowAt.frozen hr; have hrl := RowAt.lt hr; (go_simp <;> with_reducible rfl); done)); simp only [Act.put, List.getElem_toArray, List.getElem_cons_zero, List.getElem_cons_succ, List.setIfInBounds_toArray, List.set_cons_zero, List.set_cons_succ]))
    have k4 := chain k3 hu3
    replace rZ := rZ.keep hu3
    replace rX := rX.keep hu3
    replace hA := I.keep hA hu3
    replace hR2 := hR2.keep hu3
    obtain ⟨sb', qa, hq1, hq2, hq3⟩ := I.disk hA
    cases hq1
    refine PlanW.one (by rfl) ?_
    go_wp2_with fail
    refine ⟨.inr hSu3, ?_⟩
    repeat (first | (refine' PlanW.skip (by rfl) (by rfl) ?_; simp only [Act.put, List.getElem_toArray, List.getElem_cons_zero, List.getElem_cons_succ, List.setIfInBounds_toArray, List.set_cons_zero, List.set_cons_succ]) | (refine' PlanW.val (by rfl) (by rfl) (fun wr hr => ?_) ?_; rotate_left 1; (focus (have hrc := RowAt.cell hr; have hrf := RowAt.frozen hr; have hrl := RowAt.lt hr; (go_simp <;> with_reducible rfl); done)); simp only [Act.put, List.getElem_toArray, List.getElem_cons_zero, List.getElem_cons_succ, List.setIfInBounds_toArray, List.set_cons_zero, List.set_cons_succ]))
    refine PlanW.one (by rfl) ?_
    have PDX := Lib.hid (PD.out _ _ _ hA hq3)
    clear hq2 hq3
    go_wp2_with fail
    refine PDX.out.mono ?_
    rintro e w4 ⟨F4, rfl, hA4, hs4⟩
    have st4 := (Step.of k4 (F := F)).trans hs4
    have rN4 := I.row hA hs4 (.inr (.inl rfl)) hSu3
    have rZ4 := I.row hA hs4 (.inr (.inl rfl)) rZ
    have hR4 := I.ref hA hs4 hR2
    clear hs4 hA hR2 rZ rX k4 k3 hu3 hSu3 rN kv
    go_wp2_with fail
    refine ⟨.inr rN4, ?_⟩
    repeat (first | (refine' PlanW.skip (by rfl) (by rfl) ?_; simp only [Act.put, List.getElem_toArray, List.getElem_cons_zero, List.getElem_cons_succ, List.setIfInBounds_toArray, List.set_cons_zero, List.set_cons_succ]) | (refine' PlanW.val (by rfl) (by rfl) (fun wr hr => ?_) ?_; rotate_left 1; (focus (have hrc := RowAt.cell hr; have hrf := RowAt.frozen hr; have hrl := RowAt.lt hr; (go_simp <;> with_reducible rfl); done)); simp only [Act.put, List.getElem_toArray, List.getElem_cons_zero, List.getElem_cons_succ, List.setIfInBounds_toArray, List.set_cons_zero, List.set_cons_succ]))
    refine PlanW.one (by rfl) ?_
    have cz : ∀ jj, w4.cell? ⟨(w.heap.size + 1 + 1), jj, none⟩ = (#[.int .i64 0, .int .i64 0, .int .i64 0, .slice none 0 0, .slice none 0 0] : Array Value)[jj]? := rZ4.cell
    have fz : ∀ jj, w4.frozen? ⟨(w.heap.size + 1 + 1), jj, none⟩ = false := rZ4.frozen
    have zz : (w.heap.size + 1 + 1) < w4.heap.size := rZ4.lt
    go_wp2_with fail
    clear cz fz zz
    have st5 := st4.put5 (b := w.heap.size + 1 + 1) (by omega) (.int .i64 D2.room) (.int .i64 D2.fails) (.int .i64 D2.wait) (.slice p2 n2 c2) (.slice q2 m2 e2)
    have hA5 := I.put5 hA4 rZ4 (.inr (.inl rfl)) (.int .i64 D2.room) (.int .i64 D2.fails) (.int .i64 D2.wait) (.slice p2 n2 c2) (.slice q2 m2 e2)
    have hR5 := hR4.put5 rZ4 (.int .i64 D2.room) (.int .i64 D2.fails) (.int .i64 D2.wait) (.slice p2 n2 c2) (.slice q2 m2 e2)
    have rN5 := row5_other rN4 hne (.int .i64 D2.room) (.int .i64 D2.fails) (.int .i64 D2.wait) (.slice p2 n2 c2) (.slice q2 m2 e2)
    have r5 := row5 rZ4 (.int .i64 D2.room) (.int .i64 D2.fails) (.int .i64 D2.wait) (.slice p2 n2 c2) (.slice q2 m2 e2)
    clear rZ4 rN4 st4 hA4 hR4
    simp only [lay5] at st5 hA5 hR5
    generalize ((((w4.setCell ⟨w.heap.size + 1 + 1, 0, none⟩ (.int .i64 D2.room)).setCell ⟨w.heap.size + 1 + 1, 1, none⟩ (.int .i64 D2.fails)).setCell ⟨w.heap.size + 1 + 1, 2, none⟩ (.int .i64 D2.wait)).setCell ⟨w.heap.size + 1 + 1, 3, none⟩ (.slice p2 n2 c2)).setCell ⟨w.heap.size + 1 + 1, 4, none⟩ (.slice q2 m2 e2) = u5 at *
    refine ⟨.inr rN5, ?_⟩
    repeat (first | (refine' PlanW.skip (by rfl) (by rfl) ?_; simp only [Act.put, List.getElem_toArray, List.getElem_cons_zero, List.getElem_cons_succ, List.setIfInBounds_toArray, List.set_cons_zero, List.set_cons_succ]) | (refine' PlanW.val (by rfl) (by rfl) (fun wr hr => ?_) ?_; rotate_left 1; (focus (have hrc := RowAt.cell hr; have hrf := RowAt.frozen hr; have hrl := RowAt.lt hr; (go_simp <;> with_reducible rfl); done)); simp only [Act.put, List.getElem_toArray, List.getElem_cons_zero, List.getElem_cons_succ, List.setIfInBounds_toArray, List.set_cons_zero, List.set_cons_succ]))
    refine PlanW.done ?_
    have cr := r5.cell
    go_wp2_with fail
    exact bodyPost_ret (v := .tuple #[.agg #[.int .i64 D2.room, .int .i64 D2.fails, .int .i64 D2.wait, .slice p2 n2 c2, .slice q2 m2 e2], .bool true]) (by simp [results, Try.results19, go_sem, cr]) rfl ⟨_, F4, rfl, hA5, hR5, st5⟩
  by_cases e2' : kind = 2
  · subst e2'
    have hst := HST.out
    rw [if_neg (by decide), if_neg (by decide), if_pos rfl] at hst
    have hnb := around_bd num 60 (by omega)
    have an := fun u => r_around num 60 hnum.1 hnum.2 (by omega) (by omega) u
    obtain ⟨Z, hZ⟩ : ∃ Z, aroundF num 60 = Z := ⟨_, rfl⟩
    rw [hZ] at hnb hst an
    have iZ : i64 Z := by constructor <;> omega
    have AN := Lib.hid an
    obtain ⟨C2, hC2⟩ : ∃ C, (crashSt d Z).2 = C := ⟨_, rfl⟩
    have PR := Lib.hid (fun u (hu : RefAt F u (dV d.room d.fails d.wait (.slice p1 n1 c1) (.slice q1 m1 e1)) d) => rf_crash hu H9.out (by omega) iZ)
    have PD := Lib.hid (fun (F : Foot) u q (hu : I.At u F (.pointer (some ⟨sb, 0, none⟩)) d) (hq : u.cell? ⟨sb, 0, none⟩ = some q) => I.crash u F sb q d Z i hu hq H9.out (by omega) iZ)
    rw [hC2, ← hst] at PR PD
    clear hst hC2 an hZ
    go_enter Try.func19, Try.ntmps19
    go_wp2_with (go_at_call 13; refine (AK.out _).mono ?_; rintro e w' ⟨rfl, rfl⟩)
    have kA : Below w.heap.size w (((w.alloc (.cells #[.int .i64 d.room, .int .i64 d.fails, .int .i64 d.wait, .slice p1 n1 c1, .slice q1 m1 e1] 39)).alloc (.cells #[.int .i64 2, .int .i64 id, .int .i64 num, .int .u8 x, .slice pb L cb] 44)).alloc (.cells #[.int .i64 0, .int .i64 0, .int .i64 0, .slice none 0 0, .slice none 0 0] 39)) := al (al (al (Below.refl _ _) _) _) _
    refine (FEW.out _ (HB.out.keep (Below.trans H0.out (kA.mono H0.out.size)))).mono ?_
    rintro e w1 ⟨rfl, hv⟩
    have rR : RowAt w1 w.heap.size #[.int .i64 d.room, .int .i64 d.fails, .int .i64 d.wait, .slice p1 n1 c1, .slice q1 m1 e1] 39 := (((RowAt.new w _ _).alloc _).alloc _).keep hv
    have rX : RowAt w1 (w.heap.size + 1) #[.int .i64 2, .int .i64 id, .int .i64 num, .int .u8 x, .slice pb L cb] 44 := ((RowAt.make _ _ _ (by simp)).alloc _).keep hv
    have rZ : RowAt w1 (w.heap.size + 1 + 1) #[.int .i64 0, .int .i64 0, .int .i64 0, .slice none 0 0, .slice none 0 0] 39 := (RowAt.make _ _ _ (by simp)).keep hv
    have k1 : Below w.heap.size w w1 := chain kA hv
    clear hv kA
    replace hA := I.keep hA k1
    replace hR := hR.keep k1
    have cr : ∀ jj, w1.cell? ⟨w.heap.size, jj, none⟩ = (#[.int .i64 d.room, .int .i64 d.fails, .int .i64 d.wait, .slice p1 n1 c1, .slice q1 m1 e1] : Array Value)[jj]? := rR.cell
    have fr : ∀ jj, w1.frozen? ⟨w.heap.size, jj, none⟩ = false := rR.frozen
    have zr : w.heap.size < w1.heap.size := rR.lt
    have cx : ∀ jj, w1.cell? ⟨(w.heap.size + 1), jj, none⟩ = (#[.int .i64 2, .int .i64 id, .int .i64 num, .int .u8 x, .slice pb L cb] : Array Value)[jj]? := rX.cell
    have fx : ∀ jj, w1.frozen? ⟨(w.heap.size + 1), jj, none⟩ = false := rX.frozen
    have zx : (w.heap.size + 1) < w1.heap.size := rX.lt
    have cz : ∀ jj, w1.cell? ⟨(w.heap.size + 1 + 1), jj, none⟩ = (#[.int .i64 0, .int .i64 0, .int .i64 0, .slice none 0 0, .slice none 0 0] : Array Value)[jj]? := rZ.cell
    have fz : ∀ jj, w1.frozen? ⟨(w.heap.size + 1 + 1), jj, none⟩ = false := rZ.frozen
    have zz : (w.heap.size + 1 + 1) < w1.heap.size := rZ.lt
    go_wp2_with (go_at_call 13; refine (AN.out _).mono ?_; rintro e w' ⟨rfl, rfl⟩)
    refine (PR.out _ hR).mono ?_
    rintro e w2 ⟨v2, rfl, hR2, hv2⟩
    obtain ⟨p2, n2, c2, q2, m2, e2, rfl⟩ := hR2.form
    have k2 := chain k1 hv2
    replace rR := rR.keep hv2
    replace rX := rX.keep hv2
    replace rZ := rZ.keep hv2
    replace hA := I.keep hA hv2
    clear hv2 k1 hR
    clear cr fr zr cx fx zx cz fz zz
    have cr : ∀ jj, w2.cell? ⟨w.heap.size, jj, none⟩ = (#[.int .i64 d.room, .int .i64 d.fails, .int .i64 d.wait, .slice p1 n1 c1, .slice q1 m1 e1] : Array Value)[jj]? := rR.cell
    have fr : ∀ jj, w2.frozen? ⟨w.heap.size, jj, none⟩ = false := rR.frozen
    have zr : w.heap.size < w2.heap.size := rR.lt
    have cx : ∀ jj, w2.cell? ⟨(w.heap.size + 1), jj, none⟩ = (#[.int .i64 2, .int .i64 id, .int .i64 num, .int .u8 x, .slice pb L cb] : Array Value)[jj]? := rX.cell
    have fx : ∀ jj, w2.frozen? ⟨(w.heap.size + 1), jj, none⟩ = false := rX.frozen
    have zx : (w.heap.size + 1) < w2.heap.size := rX.lt
    go_upto_region 13 with (fail)
    clear cr fr zr cx fx zx
    have rZw := rZ
    obtain ⟨u2, hu2⟩ : ∃ u, w2.alloc (.cells #[.int .i64 D2.room, .int .i64 D2.fails, .int .i64 D2.wait, .slice p2 n2 c2, .slice q2 m2 e2] 39) = u := ⟨_, rfl⟩
    have kv : Below w2.heap.size w2 u2 := by rw [← hu2]; exact al (Below.refl _ _) _
    have rN : RowAt u2 w2.heap.size #[.int .i64 D2.room, .int .i64 D2.fails, .int .i64 D2.wait, .slice p2 n2 c2, .slice q2 m2 e2] 39 := by rw [← hu2]; exact RowAt.new w2 _ _
    rw [hu2]
    have k3 := chain k2 kv
    replace rZ := rZ.keep kv
    replace rX := rX.keep kv
    replace hA := I.keep hA kv
    replace hR2 := hR2.keep kv
    have hne : w2.heap.size ≠ w.heap.size + 1 + 1 := fun e => by have h1 := rX.lt; have h2 := k2.size; have h3 := rZw.lt; omega
    clear hu2 rR rZw
    refine region_planS (fun x => RowAt x w2.heap.size #[.int .i64 D2.room, .int .i64 D2.fails, .int .i64 D2.wait, .slice p2 n2 c2, .slice q2 m2 e2] 39) 11 (.calm 0 (.calm 1 (.calm 2 (.calm 3 (.calm 5 (.calm 7 (.one 4 (.one 6 (.calm 8 (.one 9 (.calm 10 (.done)))))))))))) (by kernel_rfl) (by kernel_rfl) (by kernel_rfl) rfl (by kernel_rfl) (fun c a d v w h => by cases d <;> exact h) (by exact rN.keep ((Below.refl _ _).drew)) ?_
    intro u3 hu3 hszu3 hSu3
    repeat (first | (refine' PlanW.skip (by rfl) (by rfl) ?_; simp only [Act.put, List.getElem_toArray, List.getElem_cons_zero, List.getElem_cons_succ, List.setIfInBounds_toArray, List.set_cons_zero, List.set_cons_succ]) | (refine' PlanW.val (by rfl) (by rfl) (fun wr hr => ?_) ?_; rotate_left 1; (focus (have hrc := RowAt.cell hr; have hrf := RowAt.frozen hr; have hrl := RowAt.lt hr; (go_simp <;> with_reducible rfl); done)); simp only [Act.put, List.getElem_toArray, List.getElem_cons_zero, List.getElem_cons_succ, List.setIfInBounds_toArray, List.set_cons_zero, List.set_cons_succ]))
    have k4 := chain k3 hu3
    replace rZ := rZ.keep hu3
    replace rX := rX.keep hu3
    replace hA := I.keep hA hu3
    replace hR2 := hR2.keep hu3
    obtain ⟨sb', qa, hq1, hq2, hq3⟩ := I.disk hA
    cases hq1
    refine PlanW.one (by rfl) ?_
    go_wp2_with fail
    refine ⟨.inr hSu3, ?_⟩
    repeat (first | (refine' PlanW.skip (by rfl) (by rfl) ?_; simp only [Act.put, List.getElem_toArray, List.getElem_cons_zero, List.getElem_cons_succ, List.setIfInBounds_toArray, List.set_cons_zero, List.set_cons_succ]) | (refine' PlanW.val (by rfl) (by rfl) (fun wr hr => ?_) ?_; rotate_left 1; (focus (have hrc := RowAt.cell hr; have hrf := RowAt.frozen hr; have hrl := RowAt.lt hr; (go_simp <;> with_reducible rfl); done)); simp only [Act.put, List.getElem_toArray, List.getElem_cons_zero, List.getElem_cons_succ, List.setIfInBounds_toArray, List.set_cons_zero, List.set_cons_succ]))
    refine PlanW.one (by rfl) ?_
    have PDX := Lib.hid (PD.out _ _ _ hA hq3)
    clear hq2 hq3
    go_wp2_with fail
    refine PDX.out.mono ?_
    rintro e w4 ⟨F4, rfl, hA4, hs4⟩
    have st4 := (Step.of k4 (F := F)).trans hs4
    have rN4 := I.row hA hs4 (.inr (.inl rfl)) hSu3
    have rZ4 := I.row hA hs4 (.inr (.inl rfl)) rZ
    have hR4 := I.ref hA hs4 hR2
    clear hs4 hA hR2 rZ rX k4 k3 hu3 hSu3 rN kv
    go_wp2_with fail
    refine ⟨.inr rN4, ?_⟩
    repeat (first | (refine' PlanW.skip (by rfl) (by rfl) ?_; simp only [Act.put, List.getElem_toArray, List.getElem_cons_zero, List.getElem_cons_succ, List.setIfInBounds_toArray, List.set_cons_zero, List.set_cons_succ]) | (refine' PlanW.val (by rfl) (by rfl) (fun wr hr => ?_) ?_; rotate_left 1; (focus (have hrc := RowAt.cell hr; have hrf := RowAt.frozen hr; have hrl := RowAt.lt hr; (go_simp <;> with_reducible rfl); done)); simp only [Act.put, List.getElem_toArray, List.getElem_cons_zero, List.getElem_cons_succ, List.setIfInBounds_toArray, List.set_cons_zero, List.set_cons_succ]))
    refine PlanW.one (by rfl) ?_
    have cz : ∀ jj, w4.cell? ⟨(w.heap.size + 1 + 1), jj, none⟩ = (#[.int .i64 0, .int .i64 0, .int .i64 0, .slice none 0 0, .slice none 0 0] : Array Value)[jj]? := rZ4.cell
    have fz : ∀ jj, w4.frozen? ⟨(w.heap.size + 1 + 1), jj, none⟩ = false := rZ4.frozen
    have zz : (w.heap.size + 1 + 1) < w4.heap.size := rZ4.lt
    go_wp2_with fail
    clear cz fz zz
    have st5 := st4.put5 (b := w.heap.size + 1 + 1) (by omega) (.int .i64 D2.room) (.int .i64 D2.fails) (.int .i64 D2.wait) (.slice p2 n2 c2) (.slice q2 m2 e2)
    have hA5 := I.put5 hA4 rZ4 (.inr (.inl rfl)) (.int .i64 D2.room) (.int .i64 D2.fails) (.int .i64 D2.wait) (.slice p2 n2 c2) (.slice q2 m2 e2)
    have hR5 := hR4.put5 rZ4 (.int .i64 D2.room) (.int .i64 D2.fails) (.int .i64 D2.wait) (.slice p2 n2 c2) (.slice q2 m2 e2)
    have rN5 := row5_other rN4 hne (.int .i64 D2.room) (.int .i64 D2.fails) (.int .i64 D2.wait) (.slice p2 n2 c2) (.slice q2 m2 e2)
    have r5 := row5 rZ4 (.int .i64 D2.room) (.int .i64 D2.fails) (.int .i64 D2.wait) (.slice p2 n2 c2) (.slice q2 m2 e2)
    clear rZ4 rN4 st4 hA4 hR4
    simp only [lay5] at st5 hA5 hR5
    generalize ((((w4.setCell ⟨w.heap.size + 1 + 1, 0, none⟩ (.int .i64 D2.room)).setCell ⟨w.heap.size + 1 + 1, 1, none⟩ (.int .i64 D2.fails)).setCell ⟨w.heap.size + 1 + 1, 2, none⟩ (.int .i64 D2.wait)).setCell ⟨w.heap.size + 1 + 1, 3, none⟩ (.slice p2 n2 c2)).setCell ⟨w.heap.size + 1 + 1, 4, none⟩ (.slice q2 m2 e2) = u5 at *
    refine ⟨.inr rN5, ?_⟩
    repeat (first | (refine' PlanW.skip (by rfl) (by rfl) ?_; simp only [Act.put, List.getElem_toArray, List.getElem_cons_zero, List.getElem_cons_succ, List.setIfInBounds_toArray, List.set_cons_zero, List.set_cons_succ]) | (refine' PlanW.val (by rfl) (by rfl) (fun wr hr => ?_) ?_; rotate_left 1; (focus (have hrc := RowAt.cell hr; have hrf := RowAt.frozen hr; have hrl := RowAt.lt hr; (go_simp <;> with_reducible rfl); done)); simp only [Act.put, List.getElem_toArray, List.getElem_cons_zero, List.getElem_cons_succ, List.setIfInBounds_toArray, List.set_cons_zero, List.set_cons_succ]))
    refine PlanW.done ?_
    have cr := r5.cell
    go_wp2_with fail
    exact bodyPost_ret (v := .tuple #[.agg #[.int .i64 D2.room, .int .i64 D2.fails, .int .i64 D2.wait, .slice p2 n2 c2, .slice q2 m2 e2], .bool true]) (by simp [results, Try.results19, go_sem, cr]) rfl ⟨_, F4, rfl, hA5, hR5, st5⟩
  by_cases e3' : kind = 3
  · subst e3'
    have hst := HST.out
    rw [if_neg (by decide), if_neg (by decide), if_neg (by decide), if_pos rfl] at hst
    have hnb := around_bd num 5 (by omega)
    have an := fun u => r_around num 5 hnum.1 hnum.2 (by omega) (by omega) u
    obtain ⟨Z, hZ⟩ : ∃ Z, aroundF num 5 = Z := ⟨_, rfl⟩
    rw [hZ] at hnb hst an
    have iZ : i64 (Z - 2) := by constructor <;> omega
    have wZ : IntKind.i64.wrap (Z - 2) = Z - 2 := IntWalk.i64_in _ (by omega)
    have AN := Lib.hid an
    have PR := Lib.hid (fun (F : Foot) u (hu : RefAt F u (dV d.room d.fails d.wait (.slice p1 n1 c1) (.slice q1 m1 e1)) d) => rf_fail hu iZ)
    have PD := Lib.hid (fun (F : Foot) u q (hu : I.At u F (.pointer (some ⟨sb, 0, none⟩)) d) (hq : u.cell? ⟨sb, 0, none⟩ = some q) => I.fail u F sb q d (Z - 2) hu hq iZ)
    rw [← hst] at PR PD
    clear hst an hZ
    go_enter Try.func19, Try.ntmps19
    go_wp2_with (go_at_call 13; refine (AK.out _).mono ?_; rintro e w' ⟨rfl, rfl⟩)
    have kA : Below w.heap.size w (((w.alloc (.cells #[.int .i64 d.room, .int .i64 d.fails, .int .i64 d.wait, .slice p1 n1 c1, .slice q1 m1 e1] 39)).alloc (.cells #[.int .i64 3, .int .i64 id, .int .i64 num, .int .u8 x, .slice pb L cb] 44)).alloc (.cells #[.int .i64 0, .int .i64 0, .int .i64 0, .slice none 0 0, .slice none 0 0] 39)) := al (al (al (Below.refl _ _) _) _) _
    refine (FEW.out _ (HB.out.keep (Below.trans H0.out (kA.mono H0.out.size)))).mono ?_
    rintro e w1 ⟨rfl, hv⟩
    have rR : RowAt w1 w.heap.size #[.int .i64 d.room, .int .i64 d.fails, .int .i64 d.wait, .slice p1 n1 c1, .slice q1 m1 e1] 39 := (((RowAt.new w _ _).alloc _).alloc _).keep hv
    have rX : RowAt w1 (w.heap.size + 1) #[.int .i64 3, .int .i64 id, .int .i64 num, .int .u8 x, .slice pb L cb] 44 := ((RowAt.make _ _ _ (by simp)).alloc _).keep hv
    have rZ : RowAt w1 (w.heap.size + 1 + 1) #[.int .i64 0, .int .i64 0, .int .i64 0, .slice none 0 0, .slice none 0 0] 39 := (RowAt.make _ _ _ (by simp)).keep hv
    have k1 : Below w.heap.size w w1 := chain kA hv
    clear hv kA
    replace hA := I.keep hA k1
    replace hR := hR.keep k1
    have cr : ∀ jj, w1.cell? ⟨w.heap.size, jj, none⟩ = (#[.int .i64 d.room, .int .i64 d.fails, .int .i64 d.wait, .slice p1 n1 c1, .slice q1 m1 e1] : Array Value)[jj]? := rR.cell
    have fr : ∀ jj, w1.frozen? ⟨w.heap.size, jj, none⟩ = false := rR.frozen
    have zr : w.heap.size < w1.heap.size := rR.lt
    have cx : ∀ jj, w1.cell? ⟨(w.heap.size + 1), jj, none⟩ = (#[.int .i64 3, .int .i64 id, .int .i64 num, .int .u8 x, .slice pb L cb] : Array Value)[jj]? := rX.cell
    have fx : ∀ jj, w1.frozen? ⟨(w.heap.size + 1), jj, none⟩ = false := rX.frozen
    have zx : (w.heap.size + 1) < w1.heap.size := rX.lt
    have cz : ∀ jj, w1.cell? ⟨(w.heap.size + 1 + 1), jj, none⟩ = (#[.int .i64 0, .int .i64 0, .int .i64 0, .slice none 0 0, .slice none 0 0] : Array Value)[jj]? := rZ.cell
    have fz : ∀ jj, w1.frozen? ⟨(w.heap.size + 1 + 1), jj, none⟩ = false := rZ.frozen
    have zz : (w.heap.size + 1 + 1) < w1.heap.size := rZ.lt
    obtain ⟨sb', qa, hq1, hq2, hq3⟩ := I.disk hA
    cases hq1
    have PDX := Lib.hid (PD.out _ _ _ hA hq3)
    go_wp2_with (go_at_call 13; refine (AN.out _).mono ?_; rintro e w' ⟨rfl, rfl⟩)
    refine PDX.out.mono ?_
    rintro e w2 ⟨F2, v2, rfl, hA2, hs2⟩
    have st2 := (Step.of k1 (F := F)).trans hs2
    replace rR := I.row hA hs2 (.inr (.inl rfl)) rR
    replace rZ := I.row hA hs2 (.inr (.inl rfl)) rZ
    replace hR := I.ref hA hs2 hR
    clear cr fr zr cx fx zx cz fz zz
    clear rX hA hs2 k1 hq2 hq3
    have cr : ∀ jj, w2.cell? ⟨w.heap.size, jj, none⟩ = (#[.int .i64 d.room, .int .i64 d.fails, .int .i64 d.wait, .slice p1 n1 c1, .slice q1 m1 e1] : Array Value)[jj]? := rR.cell
    have fr : ∀ jj, w2.frozen? ⟨w.heap.size, jj, none⟩ = false := rR.frozen
    have zr : w.heap.size < w2.heap.size := rR.lt
    go_wp2_with fail
    refine (PR.out _ _ hR).mono ?_
    rintro e w3 ⟨v3, rfl, hR3, hv3⟩
    obtain ⟨p2, n2, c2, q2, m2, e2, rfl⟩ := hR3.form
    have st3 := st2.trans (Step.of hv3)
    replace rZ := rZ.keep hv3
    replace hA2 := I.keep hA2 hv3
    clear cr fr zr
    clear st2 hv3 rR hR
    have cz : ∀ jj, w3.cell? ⟨(w.heap.size + 1 + 1), jj, none⟩ = (#[.int .i64 0, .int .i64 0, .int .i64 0, .slice none 0 0, .slice none 0 0] : Array Value)[jj]? := rZ.cell
    have fz : ∀ jj, w3.frozen? ⟨(w.heap.size + 1 + 1), jj, none⟩ = false := rZ.frozen
    have zz : (w.heap.size + 1 + 1) < w3.heap.size := rZ.lt
    go_wp2_with fail
    clear cz fz zz
    have st5 := st3.put5 (b := w.heap.size + 1 + 1) (by omega) (.int .i64 D2.room) (.int .i64 D2.fails) (.int .i64 D2.wait) (.slice p2 n2 c2) (.slice q2 m2 e2)
    have hA5 := I.put5 hA2 rZ (.inr (.inl rfl)) (.int .i64 D2.room) (.int .i64 D2.fails) (.int .i64 D2.wait) (.slice p2 n2 c2) (.slice q2 m2 e2)
    have hR5 := hR3.put5 rZ (.int .i64 D2.room) (.int .i64 D2.fails) (.int .i64 D2.wait) (.slice p2 n2 c2) (.slice q2 m2 e2)
    have r5 := row5 rZ (.int .i64 D2.room) (.int .i64 D2.fails) (.int .i64 D2.wait) (.slice p2 n2 c2) (.slice q2 m2 e2)
    clear rZ st3 hA2 hR3
    simp only [lay5] at st5 hA5 hR5
    generalize ((((w3.setCell ⟨w.heap.size + 1 + 1, 0, none⟩ (.int .i64 D2.room)).setCell ⟨w.heap.size + 1 + 1, 1, none⟩ (.int .i64 D2.fails)).setCell ⟨w.heap.size + 1 + 1, 2, none⟩ (.int .i64 D2.wait)).setCell ⟨w.heap.size + 1 + 1, 3, none⟩ (.slice p2 n2 c2)).setCell ⟨w.heap.size + 1 + 1, 4, none⟩ (.slice q2 m2 e2) = u5 at *
    have cr := r5.cell
    exact bodyPost_ret (v := .tuple #[.agg #[.int .i64 D2.room, .int .i64 D2.fails, .int .i64 D2.wait, .slice p2 n2 c2, .slice q2 m2 e2], .bool true]) (by simp [results, Try.results19, go_sem, cr]) rfl ⟨_, F2, rfl, hA5, hR5, st5⟩
  by_cases e4' : kind = 4
  · subst e4'
    have hst := HST.out
    rw [if_neg (by decide), if_neg (by decide), if_neg (by decide), if_neg (by decide), if_pos rfl] at hst
    have hnb := around_bd num 8 (by omega)
    have an := fun u => r_around num 8 hnum.1 hnum.2 (by omega) (by omega) u
    have hab := around_bd id 25 (by omega)
    have aa := fun u => r_around id 25 hid.1 hid.2 (by omega) (by omega) u
    obtain ⟨Z, hZ⟩ : ∃ Z, aroundF num 8 = Z := ⟨_, rfl⟩
    obtain ⟨Y, hY⟩ : ∃ Z, aroundF id 25 = Z := ⟨_, rfl⟩
    rw [hZ] at hnb hst an
    rw [hY] at hab hst aa
    have iZ : i64 Z := by constructor <;> omega
    have iY : i64 Y := by constructor <;> omega
    have AN := Lib.hid an
    have AA := Lib.hid aa
    obtain ⟨C2, hC2⟩ : ∃ C, (spoilSt d Z Y x).2 = C := ⟨_, rfl⟩
    have PR := Lib.hid (fun u (hA : I.At u F (.pointer (some ⟨sb, 0, none⟩)) d) (hu : RefAt F u (dV d.room d.fails d.wait (.slice p1 n1 c1) (.slice q1 m1 e1)) d) => rf_spoil (fun b hb => I.lt hA b hb) hu H9.out (by omega) iZ iY HX.out)
    have PD := Lib.hid (fun (F : Foot) u (hu : I.At u F (.pointer (some ⟨sb, 0, none⟩)) d) => I.spoil u F _ d Z Y x i hu H9.out (by omega) iZ iY HX.out)
    rw [hC2, ← hst] at PR PD
    clear hst hC2 an hZ aa hY
    go_enter Try.func19, Try.ntmps19
    go_wp2_with (go_at_call 13; refine (AK.out _).mono ?_; rintro e w' ⟨rfl, rfl⟩)
    have kA : Below w.heap.size w (((w.alloc (.cells #[.int .i64 d.room, .int .i64 d.fails, .int .i64 d.wait, .slice p1 n1 c1, .slice q1 m1 e1] 39)).alloc (.cells #[.int .i64 4, .int .i64 id, .int .i64 num, .int .u8 x, .slice pb L cb] 44)).alloc (.cells #[.int .i64 0, .int .i64 0, .int .i64 0, .slice none 0 0, .slice none 0 0] 39)) := al (al (al (Below.refl _ _) _) _) _
    refine (FEW.out _ (HB.out.keep (Below.trans H0.out (kA.mono H0.out.size)))).mono ?_
    rintro e w1 ⟨rfl, hv⟩
    have rR : RowAt w1 w.heap.size #[.int .i64 d.room, .int .i64 d.fails, .int .i64 d.wait, .slice p1 n1 c1, .slice q1 m1 e1] 39 := (((RowAt.new w _ _).alloc _).alloc _).keep hv
    have rX : RowAt w1 (w.heap.size + 1) #[.int .i64 4, .int .i64 id, .int .i64 num, .int .u8 x, .slice pb L cb] 44 := ((RowAt.make _ _ _ (by simp)).alloc _).keep hv
    have rZ : RowAt w1 (w.heap.size + 1 + 1) #[.int .i64 0, .int .i64 0, .int .i64 0, .slice none 0 0, .slice none 0 0] 39 := (RowAt.make _ _ _ (by simp)).keep hv
    have k1 : Below w.heap.size w w1 := chain kA hv
    clear hv kA
    replace hA := I.keep hA k1
    replace hR := hR.keep k1
    have cr : ∀ jj, w1.cell? ⟨w.heap.size, jj, none⟩ = (#[.int .i64 d.room, .int .i64 d.fails, .int .i64 d.wait, .slice p1 n1 c1, .slice q1 m1 e1] : Array Value)[jj]? := rR.cell
    have fr : ∀ jj, w1.frozen? ⟨w.heap.size, jj, none⟩ = false := rR.frozen
    have zr : w.heap.size < w1.heap.size := rR.lt
    have cx : ∀ jj, w1.cell? ⟨(w.heap.size + 1), jj, none⟩ = (#[.int .i64 4, .int .i64 id, .int .i64 num, .int .u8 x, .slice pb L cb] : Array Value)[jj]? := rX.cell
    have fx : ∀ jj, w1.frozen? ⟨(w.heap.size + 1), jj, none⟩ = false := rX.frozen
    have zx : (w.heap.size + 1) < w1.heap.size := rX.lt
    have cz : ∀ jj, w1.cell? ⟨(w.heap.size + 1 + 1), jj, none⟩ = (#[.int .i64 0, .int .i64 0, .int .i64 0, .slice none 0 0, .slice none 0 0] : Array Value)[jj]? := rZ.cell
    have fz : ∀ jj, w1.frozen? ⟨(w.heap.size + 1 + 1), jj, none⟩ = false := rZ.frozen
    have zz : (w.heap.size + 1 + 1) < w1.heap.size := rZ.lt
    go_wp2_with fail
    refine (AN.out _).mono ?_
    rintro e w1' ⟨rfl, rfl⟩
    go_wp2_with fail
    refine (AA.out _).mono ?_
    rintro e w1' ⟨rfl, rfl⟩
    go_wp2_with fail
    refine (PR.out _ hA hR).mono ?_
    rintro e w2 ⟨v2, rfl, hR2, hv2⟩
    obtain ⟨p2, n2, c2, q2, m2, e2, rfl⟩ := hR2.form
    have k2 := chain k1 hv2
    replace rR := rR.keep hv2
    replace rX := rX.keep hv2
    replace rZ := rZ.keep hv2
    replace hA := I.keep hA hv2
    clear hv2 k1 hR
    clear cr fr zr cx fx zx cz fz zz
    have cr : ∀ jj, w2.cell? ⟨w.heap.size, jj, none⟩ = (#[.int .i64 d.room, .int .i64 d.fails, .int .i64 d.wait, .slice p1 n1 c1, .slice q1 m1 e1] : Array Value)[jj]? := rR.cell
    have fr : ∀ jj, w2.frozen? ⟨w.heap.size, jj, none⟩ = false := rR.frozen
    have zr : w.heap.size < w2.heap.size := rR.lt
    have cx : ∀ jj, w2.cell? ⟨(w.heap.size + 1), jj, none⟩ = (#[.int .i64 4, .int .i64 id, .int .i64 num, .int .u8 x, .slice pb L cb] : Array Value)[jj]? := rX.cell
    have fx : ∀ jj, w2.frozen? ⟨(w.heap.size + 1), jj, none⟩ = false := rX.frozen
    have zx : (w.heap.size + 1) < w2.heap.size := rX.lt
    go_upto_region 22 with (fail)
    clear cr fr zr cx fx zx
    have rZw := rZ
    obtain ⟨u2, hu2⟩ : ∃ u, w2.alloc (.cells #[.int .i64 D2.room, .int .i64 D2.fails, .int .i64 D2.wait, .slice p2 n2 c2, .slice q2 m2 e2] 39) = u := ⟨_, rfl⟩
    have kv : Below w2.heap.size w2 u2 := by rw [← hu2]; exact al (Below.refl _ _) _
    have rN : RowAt u2 w2.heap.size #[.int .i64 D2.room, .int .i64 D2.fails, .int .i64 D2.wait, .slice p2 n2 c2, .slice q2 m2 e2] 39 := by rw [← hu2]; exact RowAt.new w2 _ _
    rw [hu2]
    have k3 := chain k2 kv
    replace rZ := rZ.keep kv
    replace rX := rX.keep kv
    replace hA := I.keep hA kv
    replace hR2 := hR2.keep kv
    have hne : w2.heap.size ≠ w.heap.size + 1 + 1 := fun e => by have h1 := rX.lt; have h2 := k2.size; have h3 := rZw.lt; omega
    clear hu2 rR rZw
    refine region_planS (fun x => RowAt x w2.heap.size #[.int .i64 D2.room, .int .i64 D2.fails, .int .i64 D2.wait, .slice p2 n2 c2, .slice q2 m2 e2] 39) 11 (.calm 0 (.calm 1 (.calm 2 (.calm 3 (.calm 4 (.calm 7 (.one 5 (.one 6 (.calm 8 (.one 9 (.calm 10 (.done)))))))))))) (by kernel_rfl) (by kernel_rfl) (by kernel_rfl) rfl (by kernel_rfl) (fun c a d v w h => by cases d <;> exact h) (by exact rN.keep ((Below.refl _ _).drew)) ?_
    intro u3 hu3 hszu3 hSu3
    repeat (first | (refine' PlanW.skip (by rfl) (by rfl) ?_; simp only [Act.put, List.getElem_toArray, List.getElem_cons_zero, List.getElem_cons_succ, List.setIfInBounds_toArray, List.set_cons_zero, List.set_cons_succ]) | (refine' PlanW.val (by rfl) (by rfl) (fun wr hr => ?_) ?_; rotate_left 1; (focus (have hrc := RowAt.cell hr; have hrf := RowAt.frozen hr; have hrl := RowAt.lt hr; (go_simp <;> with_reducible rfl); done)); simp only [Act.put, List.getElem_toArray, List.getElem_cons_zero, List.getElem_cons_succ, List.setIfInBounds_toArray, List.set_cons_zero, List.set_cons_succ]))
    have k4 := chain k3 hu3
    replace rZ := rZ.keep hu3
    replace rX := rX.keep hu3
    replace hA := I.keep hA hu3
    replace hR2 := hR2.keep hu3
    have cx : ∀ jj, u3.cell? ⟨(w.heap.size + 1), jj, none⟩ = (#[.int .i64 4, .int .i64 id, .int .i64 num, .int .u8 x, .slice pb L cb] : Array Value)[jj]? := rX.cell
    have fx : ∀ jj, u3.frozen? ⟨(w.heap.size + 1), jj, none⟩ = false := rX.frozen
    have zx : (w.heap.size + 1) < u3.heap.size := rX.lt
    refine PlanW.one (by rfl) ?_
    go_wp2_with fail
    clear cx fx zx
    refine ⟨.inr hSu3, ?_⟩
    repeat (first | (refine' PlanW.skip (by rfl) (by rfl) ?_; simp only [Act.put, List.getElem_toArray, List.getElem_cons_zero, List.getElem_cons_succ, List.setIfInBounds_toArray, List.set_cons_zero, List.set_cons_succ]) | (refine' PlanW.val (by rfl) (by rfl) (fun wr hr => ?_) ?_; rotate_left 1; (focus (have hrc := RowAt.cell hr; have hrf := RowAt.frozen hr; have hrl := RowAt.lt hr; (go_simp <;> with_reducible rfl); done)); simp only [Act.put, List.getElem_toArray, List.getElem_cons_zero, List.getElem_cons_succ, List.setIfInBounds_toArray, List.set_cons_zero, List.set_cons_succ]))
    refine PlanW.one (by rfl) ?_
    go_wp2_with fail
    refine (PD.out _ _ hA).mono ?_
    rintro e w4 ⟨F4, rfl, hA4, hs4⟩
    have st4 := (Step.of k4 (F := F)).trans hs4
    have rN4 := I.row hA hs4 (.inr (.inl rfl)) hSu3
    have rZ4 := I.row hA hs4 (.inr (.inl rfl)) rZ
    have hR4 := I.ref hA hs4 hR2
    clear hs4 hA hR2 rZ rX k4 k3 hu3 hSu3 rN kv
    go_wp2_with fail
    refine ⟨.inr rN4, ?_⟩
    repeat (first | (refine' PlanW.skip (by rfl) (by rfl) ?_; simp only [Act.put, List.getElem_toArray, List.getElem_cons_zero, List.getElem_cons_succ, List.setIfInBounds_toArray, List.set_cons_zero, List.set_cons_succ]) | (refine' PlanW.val (by rfl) (by rfl) (fun wr hr => ?_) ?_; rotate_left 1; (focus (have hrc := RowAt.cell hr; have hrf := RowAt.frozen hr; have hrl := RowAt.lt hr; (go_simp <;> with_reducible rfl); done)); simp only [Act.put, List.getElem_toArray, List.getElem_cons_zero, List.getElem_cons_succ, List.setIfInBounds_toArray, List.set_cons_zero, List.set_cons_succ]))
    refine PlanW.one (by rfl) ?_
    have cz : ∀ jj, w4.cell? ⟨(w.heap.size + 1 + 1), jj, none⟩ = (#[.int .i64 0, .int .i64 0, .int .i64 0, .slice none 0 0, .slice none 0 0] : Array Value)[jj]? := rZ4.cell
    have fz : ∀ jj, w4.frozen? ⟨(w.heap.size + 1 + 1), jj, none⟩ = false := rZ4.frozen
    have zz : (w.heap.size + 1 + 1) < w4.heap.size := rZ4.lt
    go_wp2_with fail
    clear cz fz zz
    have st5 := st4.put5 (b := w.heap.size + 1 + 1) (by omega) (.int .i64 D2.room) (.int .i64 D2.fails) (.int .i64 D2.wait) (.slice p2 n2 c2) (.slice q2 m2 e2)
    have hA5 := I.put5 hA4 rZ4 (.inr (.inl rfl)) (.int .i64 D2.room) (.int .i64 D2.fails) (.int .i64 D2.wait) (.slice p2 n2 c2) (.slice q2 m2 e2)
    have hR5 := hR4.put5 rZ4 (.int .i64 D2.room) (.int .i64 D2.fails) (.int .i64 D2.wait) (.slice p2 n2 c2) (.slice q2 m2 e2)
    have rN5 := row5_other rN4 hne (.int .i64 D2.room) (.int .i64 D2.fails) (.int .i64 D2.wait) (.slice p2 n2 c2) (.slice q2 m2 e2)
    have r5 := row5 rZ4 (.int .i64 D2.room) (.int .i64 D2.fails) (.int .i64 D2.wait) (.slice p2 n2 c2) (.slice q2 m2 e2)
    clear rZ4 rN4 st4 hA4 hR4
    simp only [lay5] at st5 hA5 hR5
    generalize ((((w4.setCell ⟨w.heap.size + 1 + 1, 0, none⟩ (.int .i64 D2.room)).setCell ⟨w.heap.size + 1 + 1, 1, none⟩ (.int .i64 D2.fails)).setCell ⟨w.heap.size + 1 + 1, 2, none⟩ (.int .i64 D2.wait)).setCell ⟨w.heap.size + 1 + 1, 3, none⟩ (.slice p2 n2 c2)).setCell ⟨w.heap.size + 1 + 1, 4, none⟩ (.slice q2 m2 e2) = u5 at *
    refine ⟨.inr rN5, ?_⟩
    repeat (first | (refine' PlanW.skip (by rfl) (by rfl) ?_; simp only [Act.put, List.getElem_toArray, List.getElem_cons_zero, List.getElem_cons_succ, List.setIfInBounds_toArray, List.set_cons_zero, List.set_cons_succ]) | (refine' PlanW.val (by rfl) (by rfl) (fun wr hr => ?_) ?_; rotate_left 1; (focus (have hrc := RowAt.cell hr; have hrf := RowAt.frozen hr; have hrl := RowAt.lt hr; (go_simp <;> with_reducible rfl); done)); simp only [Act.put, List.getElem_toArray, List.getElem_cons_zero, List.getElem_cons_succ, List.setIfInBounds_toArray, List.set_cons_zero, List.set_cons_succ]))
    refine PlanW.done ?_
    have cr := r5.cell
    go_wp2_with fail
    exact bodyPost_ret (v := .tuple #[.agg #[.int .i64 D2.room, .int .i64 D2.fails, .int .i64 D2.wait, .slice p2 n2 c2, .slice q2 m2 e2], .bool true]) (by simp [results, Try.results19, go_sem, cr]) rfl ⟨_, F4, rfl, hA5, hR5, st5⟩
  have hst := HST.out
  rw [if_neg e0, if_neg e1', if_neg e2', if_neg e3', if_neg e4'] at hst
  subst hst
  have oG := load_ok H9.out K
  have PR := Lib.hid (fun u (hu : RefAt F u (dV D2.room D2.fails D2.wait (.slice p1 n1 c1) (.slice q1 m1 e1)) D2) => rf_load hu H9.out (by omega) ik)
  have PD := Lib.hid (fun (F : Foot) u (hu : I.At u F (.pointer (some ⟨sb, 0, none⟩)) D2) => I.load u F _ D2 K i hu H9.out (by omega) ik)
  obtain ⟨G, vG, bG, hG⟩ : ∃ G v b, loadF D2 K = (G, v, b) := ⟨_, _, _, rfl⟩
  rw [hG] at PR PD oG
  simp only [] at PR PD oG
  have gV : (vG == vG) = true := by simp
  clear hG
  go_enter Try.func19, Try.ntmps19
  go_wp2_with (go_at_call 13; refine (AK.out _).mono ?_; rintro e w' ⟨rfl, rfl⟩)
  have kA : Below w.heap.size w (((w.alloc (.cells #[.int .i64 D2.room, .int .i64 D2.fails, .int .i64 D2.wait, .slice p1 n1 c1, .slice q1 m1 e1] 39)).alloc (.cells #[.int .i64 kind, .int .i64 id, .int .i64 num, .int .u8 x, .slice pb L cb] 44)).alloc (.cells #[.int .i64 0, .int .i64 0, .int .i64 0, .slice none 0 0, .slice none 0 0] 39)) := al (al (al (Below.refl _ _) _) _) _
  refine (FEW.out _ (HB.out.keep (Below.trans H0.out (kA.mono H0.out.size)))).mono ?_
  rintro e w1 ⟨rfl, hv⟩
  have rR : RowAt w1 w.heap.size #[.int .i64 D2.room, .int .i64 D2.fails, .int .i64 D2.wait, .slice p1 n1 c1, .slice q1 m1 e1] 39 := (((RowAt.new w _ _).alloc _).alloc _).keep hv
  have rX : RowAt w1 (w.heap.size + 1) #[.int .i64 kind, .int .i64 id, .int .i64 num, .int .u8 x, .slice pb L cb] 44 := ((RowAt.make _ _ _ (by simp)).alloc _).keep hv
  have rZ : RowAt w1 (w.heap.size + 1 + 1) #[.int .i64 0, .int .i64 0, .int .i64 0, .slice none 0 0, .slice none 0 0] 39 := (RowAt.make _ _ _ (by simp)).keep hv
  have k1 : Below w.heap.size w w1 := chain kA hv
  clear hv kA
  replace hA := I.keep hA k1
  replace hR := hR.keep k1
  have cr : ∀ jj, w1.cell? ⟨w.heap.size, jj, none⟩ = (#[.int .i64 D2.room, .int .i64 D2.fails, .int .i64 D2.wait, .slice p1 n1 c1, .slice q1 m1 e1] : Array Value)[jj]? := rR.cell
  have fr : ∀ jj, w1.frozen? ⟨w.heap.size, jj, none⟩ = false := rR.frozen
  have zr : w.heap.size < w1.heap.size := rR.lt
  have cx : ∀ jj, w1.cell? ⟨(w.heap.size + 1), jj, none⟩ = (#[.int .i64 kind, .int .i64 id, .int .i64 num, .int .u8 x, .slice pb L cb] : Array Value)[jj]? := rX.cell
  have fx : ∀ jj, w1.frozen? ⟨(w.heap.size + 1), jj, none⟩ = false := rX.frozen
  have zx : (w.heap.size + 1) < w1.heap.size := rX.lt
  have cz : ∀ jj, w1.cell? ⟨(w.heap.size + 1 + 1), jj, none⟩ = (#[.int .i64 0, .int .i64 0, .int .i64 0, .slice none 0 0, .slice none 0 0] : Array Value)[jj]? := rZ.cell
  have fz : ∀ jj, w1.frozen? ⟨(w.heap.size + 1 + 1), jj, none⟩ = false := rZ.frozen
  have zz : (w.heap.size + 1 + 1) < w1.heap.size := rZ.lt
  go_wp2_with fail
  refine (PD.out _ _ hA).mono ?_
  rintro e w2 ⟨v2, rfl, hn2, hv2⟩
  have hb2 := hn2.1
  obtain ⟨p2, c2, rfl⟩ := hb2.shape
  have k2 := chain k1 hv2
  replace rR := rR.keep hv2
  replace rX := rX.keep hv2
  replace rZ := rZ.keep hv2
  replace hA := I.keep hA hv2
  replace hR := hR.keep hv2
  clear cr fr zr cx fx zx cz fz zz
  clear hv2 k1 rX hn2
  have cr : ∀ jj, w2.cell? ⟨w.heap.size, jj, none⟩ = (#[.int .i64 D2.room, .int .i64 D2.fails, .int .i64 D2.wait, .slice p1 n1 c1, .slice q1 m1 e1] : Array Value)[jj]? := rR.cell
  have fr : ∀ jj, w2.frozen? ⟨w.heap.size, jj, none⟩ = false := rR.frozen
  have zr : w.heap.size < w2.heap.size := rR.lt
  go_wp2_with fail
  refine (PR.out _ hR).mono ?_
  rintro e w3 ⟨v3, rfl, hb3, hv3⟩
  obtain ⟨p3, c3, rfl⟩ := hb3.shape
  have k3 := chain k2 hv3
  replace rR := rR.keep hv3
  replace rZ := rZ.keep hv3
  replace hA := I.keep hA hv3
  replace hR := hR.keep hv3
  replace hb2 := hb2.keep hv3
  clear cr fr zr
  clear hv3 k2
  go_upto_region 25 with (fail)
  have hB3 := Lib.hid hb3
  clear hb3
  refine region_planS (fun x => RowAt x w.heap.size #[.int .i64 D2.room, .int .i64 D2.fails, .int .i64 D2.wait, .slice p1 n1 c1, .slice q1 m1 e1] 39) 16 (.calm 0 (.calm 1 (.calm 2 (.calm 3 (.calm 4 (.calm 5 (.calm 6 (.calm 7 (.calm 8 (.calm 9 (.calm 10 (.calm 11 (.one 12 (.calm 13 (.one 14 (.calm 15 (.done))))))))))))))))) (by kernel_rfl) (by kernel_rfl) (by kernel_rfl) rfl (by kernel_rfl) (fun c a d v w h => by cases d <;> exact h) (by exact rR.keep ((Below.refl _ _).drew)) ?_
  intro u3 hu3 hszu3 hSu3
  repeat (first | (refine' PlanW.skip (by rfl) (by rfl) ?_; simp only [Act.put, List.getElem_toArray, List.getElem_cons_zero, List.getElem_cons_succ, List.setIfInBounds_toArray, List.set_cons_zero, List.set_cons_succ]) | (refine' PlanW.val (by rfl) (by rfl) (fun wr hr => ?_) ?_; rotate_left 1; (focus (have hrc := RowAt.cell hr; have hrf := RowAt.frozen hr; have hrl := RowAt.lt hr; (go_simp <;> with_reducible rfl); done)); simp only [Act.put, List.getElem_toArray, List.getElem_cons_zero, List.getElem_cons_succ, List.setIfInBounds_toArray, List.set_cons_zero, List.set_cons_succ]))
  refine PlanW.one (by rfl) ?_
  go_wp2_with fail
  refine (r6_same _ _ G G u3 (hb2.keep hu3) (hB3.out.keep hu3) oG oG).mono ?_
  rintro e w4 ⟨rfl, hv4⟩
  have k4 := chain (chain k3 hu3) hv4
  have q4 := chain hu3 hv4
  replace rR := rR.keep q4
  replace rZ := rZ.keep q4
  replace hA := I.keep hA q4
  replace hR := hR.keep q4
  clear hv4 hu3 hSu3 k3 hb2 q4
  go_wp2_with fail
  refine ⟨.inr rR, ?_⟩
  repeat (first | (refine' PlanW.skip (by rfl) (by rfl) ?_; simp only [Act.put, List.getElem_toArray, List.getElem_cons_zero, List.getElem_cons_succ, List.setIfInBounds_toArray, List.set_cons_zero, List.set_cons_succ]) | (refine' PlanW.val (by rfl) (by rfl) (fun wr hr => ?_) ?_; rotate_left 1; (focus (have hrc := RowAt.cell hr; have hrf := RowAt.frozen hr; have hrl := RowAt.lt hr; (go_simp <;> with_reducible rfl); done)); simp only [Act.put, List.getElem_toArray, List.getElem_cons_zero, List.getElem_cons_succ, List.setIfInBounds_toArray, List.set_cons_zero, List.set_cons_succ]))
  refine PlanW.one (by rfl) ?_
  have cz : ∀ jj, w4.cell? ⟨(w.heap.size + 1 + 1), jj, none⟩ = (#[.int .i64 0, .int .i64 0, .int .i64 0, .slice none 0 0, .slice none 0 0] : Array Value)[jj]? := rZ.cell
  have fz : ∀ jj, w4.frozen? ⟨(w.heap.size + 1 + 1), jj, none⟩ = false := rZ.frozen
  have zz : (w.heap.size + 1 + 1) < w4.heap.size := rZ.lt
  go_wp2_with fail
  clear cz fz zz
  have st5 := (Step.of k4 (F := F)).put5 (b := w.heap.size + 1 + 1) (by omega) (.int .i64 D2.room) (.int .i64 D2.fails) (.int .i64 D2.wait) (.slice p1 n1 c1) (.slice q1 m1 e1)
  have hA5 := I.put5 hA rZ (.inr (.inl rfl)) (.int .i64 D2.room) (.int .i64 D2.fails) (.int .i64 D2.wait) (.slice p1 n1 c1) (.slice q1 m1 e1)
  have hR5 := hR.put5 rZ (.int .i64 D2.room) (.int .i64 D2.fails) (.int .i64 D2.wait) (.slice p1 n1 c1) (.slice q1 m1 e1)
  have r5 := row5 rZ (.int .i64 D2.room) (.int .i64 D2.fails) (.int .i64 D2.wait) (.slice p1 n1 c1) (.slice q1 m1 e1)
  have rR5 := row5_other rR (show w.heap.size ≠ w.heap.size + 1 + 1 by omega) (.int .i64 D2.room) (.int .i64 D2.fails) (.int .i64 D2.wait) (.slice p1 n1 c1) (.slice q1 m1 e1)
  clear rZ rR hA hR k4
  simp only [lay5] at st5 hA5 hR5
  generalize ((((w4.setCell ⟨w.heap.size + 1 + 1, 0, none⟩ (.int .i64 D2.room)).setCell ⟨w.heap.size + 1 + 1, 1, none⟩ (.int .i64 D2.fails)).setCell ⟨w.heap.size + 1 + 1, 2, none⟩ (.int .i64 D2.wait)).setCell ⟨w.heap.size + 1 + 1, 3, none⟩ (.slice p1 n1 c1)).setCell ⟨w.heap.size + 1 + 1, 4, none⟩ (.slice q1 m1 e1) = u5 at *
  refine ⟨.inr rR5, ?_⟩
  repeat (first | (refine' PlanW.skip (by rfl) (by rfl) ?_; simp only [Act.put, List.getElem_toArray, List.getElem_cons_zero, List.getElem_cons_succ, List.setIfInBounds_toArray, List.set_cons_zero, List.set_cons_succ]) | (refine' PlanW.val (by rfl) (by rfl) (fun wr hr => ?_) ?_; rotate_left 1; (focus (have hrc := RowAt.cell hr; have hrf := RowAt.frozen hr; have hrl := RowAt.lt hr; (go_simp <;> with_reducible rfl); done)); simp only [Act.put, List.getElem_toArray, List.getElem_cons_zero, List.getElem_cons_succ, List.setIfInBounds_toArray, List.set_cons_zero, List.set_cons_succ]))
  refine PlanW.done ?_
  have cr := r5.cell
  go_wp2_with fail
  exact bodyPost_ret (v := .tuple #[.agg #[.int .i64 D2.room, .int .i64 D2.fails, .int .i64 D2.wait, .slice p1 n1 c1, .slice q1 m1 e1], .bool true]) (by simp [results, Try.results19, go_sem, cr]) rfl ⟨_, F, rfl, hA5, hR5, st5⟩
end Go.Proofs.Ythjekbbldejlpaa
