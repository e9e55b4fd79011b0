/- The landed disk: write. -/
import Derived.Test.YtkephcmjigfepaaB8B
import Derived.Test.YtkephcmjigfepaaK87
import Derived.Test.YtkephcmjigfepaaS06
set_option linter.unusedVariables false
set_option linter.unusedSimpArgs false
namespace Go.Proofs.Ytkephcmjigfepaa
open Go.ChangeShapes Go.WideShapes Go.ChangeAt Go.RowKit
/-- What write leaves. -/
def WroteTo (w w' : World) (F : Foot) (b bl bs : Nat) (S U : Blobs) (cs : Array Value) (K : Nat) : Prop :=
  ∃ R G, RowAt w' b cs 57 ∧ MapAt w' bs R ∧ RelG (BlobIn G w') R (crashGo List.length cutB S K U) ∧ Wr (fun x => x = b ∨ x = bs) w w' ∧ (∀ x, F x → G x) ∧
    (∀ x, G x → F x ∨ (w.heap.size ≤ x ∧ x < w'.heap.size ∧ ∃ cur f, w'.heap[x]? = some (Obj.cells cur 5 f)))
theorem own_mono {w : World} {base base' : Nat} {e : TypeId} {size n : Nat} {v : Value} {xs : List Value} (h : w.ownsRow base e size v n xs) (hb : base' ≤ base) : w.ownsRow base' e size v n xs := by
  refine ⟨h.1, ?_⟩
  rcases h.2 with h1 | ⟨g, cap, cur, hv, hb2, rest⟩
  · exact .inl h1
  · exact .inr ⟨g, cap, cur, hv, Nat.le_trans hb hb2, rest⟩
theorem wrote_full {w wr : World} {F : Foot} {b bl bs : Nat} {vw : Value} {RL RS RW R : List Raw} {d : St} (h : LD w F b bl bs vw RL RS RW d) (hw : Wr (fun x => x = bs) w wr) (hM : MapAt wr bs R) {K : Nat} (hR : RelG (BlobIn F w) R (crashGo List.length cutB d.safe K d.under)) :
    WroteTo w (wr.setCell ⟨b, 4, none⟩ (.slice none 0 0)) F b bl bs d.safe d.under #[.int .i64 d.room, .map (some bl), .int .i64 (sumB d.all), .map (some bs), .slice none 0 0, .bool (decide (0 < d.wait)), .int .i64 d.fails] K := by
  obtain ⟨n1, n2, n3, n4, n5⟩ := h.nb
  have hw2 : Wr (fun x => x = b ∨ x = bs) w (wr.setCell ⟨b, 4, none⟩ (.slice none 0 0)) := (hw.mono fun x hx => .inr hx).put (.inl (.inl rfl)) 4 _
  refine ⟨R, F, (hw.row h.row (fun e => n2 e.symm)).set 4 _, hM.same (Below.heap_setCell wr ⟨b, 4, none⟩ _ bs n2), hR.map fun hb => hb.wr hw2 (fun x c f hx => h.off x c f (by rcases hx with hx | hx; exact .inl hx; exact .inr (.inr (.inl hx)))) (fun _ h => h), hw2, fun _ h => h, fun x hx => .inl hx⟩
theorem wrote_cut {w wr : World} {F : Foot} {b bl bs : Nat} {vw v : Value} {RL RS RW R : List Raw} {d : St} (h : LD w F b bl bs vw RL RS RW d) (ok : Srt d.safe) (hw : Wr (fun x => x = bs) w wr) {K j : Nat} (hj : j < d.under.length)
    {k : Int} (hk : k = d.under[j].1) (hM : MapAt wr bs (insF R (k, v))) (hR : RelG (BlobIn F w) R (nowF d.safe (d.under.take j))) (h1 : sumB (d.under.take j) ≤ K) (h2 : K - sumB (d.under.take j) < d.under[j].2.length)
    (hv : wr.ownsRow w.heap.size 5 1 v (d.under[j].2.take (K - sumB (d.under.take j))).length (bytVs (d.under[j].2.take (K - sumB (d.under.take j))))) :
    WroteTo w (wr.setCell ⟨b, 4, none⟩ (.slice none 0 0)) F b bl bs d.safe d.under #[.int .i64 d.room, .map (some bl), .int .i64 (sumB d.all), .map (some bs), .slice none 0 0, .bool (decide (0 < d.wait)), .int .i64 d.fails] K := by
  obtain ⟨n1, n2, n3, n4, n5⟩ := h.nb
  have hw2 : Wr (fun x => x = b ∨ x = bs) w (wr.setCell ⟨b, 4, none⟩ (.slice none 0 0)) := (hw.mono fun x hx => .inr hx).put (.inl (.inl rfl)) 4 _
  have hb := h.row.lt
  have hlt := hv.lt
  have hv2 : (wr.setCell ⟨b, 4, none⟩ (.slice none 0 0)).ownsRow w.heap.size 5 1 v (d.under[j].2.take (K - sumB (d.under.take j))).length (bytVs (d.under[j].2.take (K - sumB (d.under.take j)))) := by
    refine ⟨hv.1, ?_⟩
    rcases hv.2 with h1 | ⟨g, cap, cur, rfl, hb2, hg, rest⟩
    · exact .inl h1
    · exact .inr ⟨g, cap, cur, rfl, hb2, (Below.heap_setCell wr ⟨b, 4, none⟩ _ g (by show g ≠ b; omega)).trans hg, rest⟩
  have hs : Srt R := rel_srt hR ok.now
  subst hk
  refine ⟨insF R (d.under[j].1, v), fun x => F x ∨ v.ownBlock = some x, (hw.row h.row (fun e => n2 e.symm)).set 4 _, hM.same (Below.heap_setCell wr ⟨b, 4, none⟩ _ bs n2), ?_, hw2, fun _ h => .inl h, fun x hx => hx.elim .inl fun e => ?_⟩
  · rw [crash_cut _ _ _ _ hj h1 h2, ← layF_ins _ hs]
    refine RelG.lay (hR.map fun hb => hb.wr hw2 (fun x c f hx => h.off x c f (by rcases hx with hx | hx; exact .inl hx; exact .inr (.inr (.inl hx)))) (fun _ h => .inl h)) (BlobIn.owned hv2 fun g hg => .inr hg)
  · obtain ⟨l1, l2⟩ := hv2.lt x e
    refine .inr ⟨l1, l2, ?_⟩
    rcases hv2.2 with ⟨rfl, _⟩ | ⟨g, cap, cur, rfl, _, hg, _⟩
    · cases e
    · cases e
      exact ⟨cur, _, hg⟩
theorem bytes_to {g off xn xc M : Nat} (h0 : 0 < xc) (h : M ≤ xc) (u : World) :
    (Instr.sliceAt 32 (.slice (some ⟨g, off, none⟩) xn xc) none (some (.int .i64 (M : Int))) none).run Try.prog u = .ok (.slice (some ⟨g, off, none⟩) M xc) u := by
  have hs : Try.prog.cellsOf 5 = 1 := by kernel_rfl
  have h2 : ¬ 0 = xc := by omega
  have h3 : ¬ xc = 0 := by omega
  simp [go_sem, *]
set_option maxRecDepth 10000 in
set_option maxHeartbeats 8000000 in
theorem b8_write (w : World) (F : Foot) (b bl bs : Nat) (vw : Value) (RL RS RW : List Raw) (d : St) (n m : Nat) (h : LD w F b bl bs vw RL RS RW d) (ok : StOk d n m) (hn : n ≤ 30000) (hm : m ≤ 50000000) (k : Nat) (hk : k ≤ 9223372036854775807) :
    Calls Try.prog 35 #[.pointer (some ⟨b, 0, none⟩), .int .i64 k] w fun e w' => (∃ v, e = .returned v) ∧
      WroteTo w w' F b bl bs d.safe d.under #[.int .i64 d.room, .map (some bl), .int .i64 (sumB d.all), .map (some bs), .slice none 0 0, .bool (decide (0 < d.wait)), .int .i64 d.fails] k := by
  obtain ⟨n1, n2, n3, n4, n5⟩ := h.nb
  have len := h.ru.len
  have okr := h.ru.ok ok.ru
  have at' := rel_nth h.ru
  have hfull := fun (wr : World) (R : List Raw) (hw : Wr (fun x => x = bs) w wr) (hM : MapAt wr bs R) => wrote_full h hw hM (K := k)
  have hcut := fun (wr : World) (R : List Raw) (v : Value) (q : Int) (hw : Wr (fun x => x = bs) w wr) (j : Nat) (hj : j < d.under.length) => wrote_cut (v := v) (R := R) (K := k) (k := q) h ok.srt hw hj
  have hlen := ok.len
  have hsum := ok.sum
  have hsrt := ok.srt
  have hkeys := ok.keyU
  have hall : ∀ j, (nowF d.safe (d.under.take j)).length ≤ 30000 := fun j => by
    have e1 := nowF_len d.safe (d.under.take j) (d.under.take j).length (Nat.le_refl _)
    rw [List.take_length, List.length_take] at e1
    omega
  have off := h.off
  obtain ⟨p, cap, rfl, hf⟩ := own_raws h.way
  have r := h.row
  have zb := r.lt
  have e3 : w.cell? ⟨b, 3, none⟩ = some (.map (some bs)) := by rw [r.cell]; rfl
  have e4 : w.cell? ⟨b, 4, none⟩ = some (.slice p RW.length cap) := by rw [r.cell]; rfl
  have z4 := r.frozen 4
  have ms := h.ms
  have rs := h.rs
  obtain ⟨N, hN⟩ : ∃ N, RW.length = N := ⟨_, rfl⟩
  rw [hN] at e4
  have hU : d.under.length = N := by rw [← len, hN]
  have HN := Lib.hid hN
  have HU := Lib.hid hU
  have HF := Lib.hid hf
  have OK := Lib.hid okr
  have AT := Lib.hid at'
  have FULL := Lib.hid hfull
  have CUT := Lib.hid hcut
  have ALL := Lib.hid hall
  have KEYS := Lib.hid hkeys
  have R0 := Lib.hid r
  have HH := Lib.hid h
  have N2 := Lib.hid n2
  have N5 := Lib.hid n5
  have SRT := Lib.hid hsrt
  have RS0 := Lib.hid rs
  have MS := Lib.hid ms
  clear n1 n3 n4 n5 len okr at' hfull hcut hf hN hU hall hkeys off r hsrt n2 ok rs ms
  clear h
  go_enter Try.func35, Try.ntmps35
  go_wp2_with fail
  go_loopw [1, 5, 11] (fun s _ i wr => ∃ j : Nat, j ≤ N ∧ i = .int .i64 j ∧ sumB (d.under.take j) ≤ k ∧ s = .int .i64 ((k - sumB (d.under.take j) : Nat) : Int) ∧ ∃ R, MapAt wr bs R ∧ RelG (BlobIn F w) R (nowF d.safe (d.under.take j)) ∧ Wr (fun x => x = bs) w wr) (fun _ _ i _ => N - (intOf i).toNat)
  case atStart => exact ⟨0, by omega, rfl, by simp [sumB], by simp [sumB], RS, MS.out, RS0.out, Wr.refl _ _⟩
  case round =>
    obtain ⟨j, hj, rfl, hle, rfl, R, hM, hR, kw⟩ := hrel
    have row := kw.row R0.out (fun e => N2.out e.symm)
    have zb2 : b < wr.heap.size := row.lt
    have c3 : wr.cell? ⟨b, 3, none⟩ = some (.map (some bs)) := by rw [row.cell]; rfl
    have c4 := row.frozen 4
    have c5 : wr.cell? ⟨b, 4, none⟩ = some (.slice p RW.length cap) := by rw [row.cell]; rfl
    by_cases hlt : j < N
    · have hjw : j < RW.length := by rw [HN.out]; exact hlt
      have hju : j < d.under.length := by rw [HU.out]; exact hlt
      obtain ⟨g, rfl, hc, zg0, hx⟩ := HF.out (by omega)
      obtain ⟨h0, h1⟩ := hx j hjw
      obtain ⟨okk, xp, xn, xc, hxs⟩ := OK.out _ (List.getElem_mem hjw)
      obtain ⟨ek, hB⟩ := AT.out j hjw hju
      have hnext := sumB_next d.under j hju
      have htk := sumB_take d.under (j + 1)
      have hcut := CUT.out
      have hnf := nowF_next d.safe d.under j hju
      have hsr : Srt R := rel_srt hR SRT.out.now
      have hRl : R.length ≤ 30000 := by rw [hR.len]; exact ALL.out j
      have hlenB := gr_len hB
      rw [hxs] at h1 hlenB hB
      have hlenB : xn = d.under[j].2.length := hlenB
      rw [← hlenB] at hnext
      have hik := (KEYS.out _ (List.getElem_mem hju)).1
      rw [← ek] at hik
      have hgb : g ≠ bs := fun e => N5.out (by rw [e]; rfl)
      have eg := kw.block g zg0 hgb
      have d0 : wr.cell? ⟨g, j * 2, none⟩ = some (.int .i64 RW[j].1) := (World.cell?_of_block (a := ⟨g, j * 2, none⟩) eg).trans h0
      have d1 : wr.cell? ⟨g, j * 2 + 1, none⟩ = some (.slice xp xn xc) := (World.cell?_of_block (a := ⟨g, j * 2 + 1, none⟩) eg).trans h1
      have zg : g < wr.heap.size := Nat.lt_of_lt_of_le zg0 kw.size
      have hcN : N ≤ cap := by rw [← HN.out]; exact hc
      have hcutj := hcut wr
      obtain ⟨xk, hxk⟩ : ∃ x, RW[j].1 = x := ⟨_, rfl⟩
      rw [hxk] at d0 ek hik
      obtain ⟨M, hM0⟩ : ∃ M, k - sumB (d.under.take j) = M := ⟨_, rfl⟩
      have HM0 := Lib.hid hM0
      obtain ⟨u1, hu⟩ : ∃ u, wr.alloc (.cells #[.int .i64 xk, .slice xp xn xc] 73) = u := ⟨_, rfl⟩
      have k1 : Wr (fun x => x = bs) w u1 := by rw [← hu]; exact kw.alloc _
      have rv : RowAt u1 wr.heap.size #[.int .i64 xk, .slice xp xn xc] 73 := by rw [← hu]; exact RowAt.new wr _ _
      have hM1 : MapAt u1 bs R := by rw [← hu]; exact hM.keep (al (Below.refl _ _) _)
      have row1 := row.alloc (Obj.cells #[.int .i64 xk, .slice xp xn xc] 73)
      rw [hu] at row1
      have HU1 := Lib.hid hu
      rw [hM0]
      have K1 := Lib.hid k1
      have HM1 := Lib.hid hM1
      have HR := Lib.hid hR
      have EK := Lib.hid ek
      have HB := Lib.hid hB
      have HNX := Lib.hid hnext
      have HTK := Lib.hid htk
      have HNF := Lib.hid hnf
      have HSR := Lib.hid hsr
      have HLB := Lib.hid hlenB
      have HLE := Lib.hid hle
      have hmk : M ≤ k := by omega
      have zw : wr.heap.size ≠ bs := fun e => by have := hM.lt; omega
      clear k1 hM1 hR hxk ek hB hnext htk hnf hsr hlenB hle hcut hcutj hM hu hM0 hx h0 h1 hxs okk hjw hc eg hgb zg0
      by_cases hcut : M < xn
      · have g1 : decide ((M : Int) < (xn : Int)) = true := by simpa using hcut
        obtain ⟨p', c', e', hf'⟩ := HB.out.1.form
        simp only [Value.slice.injEq] at e'
        obtain ⟨rfl, e9, rfl⟩ := e'
        clear e9
        obtain ⟨g', off', rfl, hcc, hg', _⟩ := hf' (by rw [← HLB.out]; omega)
        have hxc : xn ≤ xc := by rw [HLB.out]; exact hcc
        have hrun := fun u => bytes_to (g := g') (off := off') (xn := xn) (M := M) (xc := xc) (by omega) (by omega) u
        have hB := HB.out.1.take (k := M) (by omega)
        have hBl : (d.under[j].2.take M).length ≤ 1000000000 := by
          rw [List.length_take]
          have h1 := sumB_next d.under j hju
          have h2 := sumB_take d.under (j + 1)
          omega
        have HBT := Lib.hid hB
        have HBL := Lib.hid hBl
        clear hcc hf' hg' hB hBl
        go_upto_region 4 with (fail)
        rw [HU1.out]
        clear d0 d1 c3 c4 c5 zb2
        have c3 : u1.cell? ⟨b, 3, none⟩ = some (.map (some bs)) := by rw [row1.cell]; rfl
        have v0 : u1.cell? ⟨wr.heap.size, 0, none⟩ = some (.int .i64 xk) := by rw [rv.cell]; rfl
        have v1 : u1.cell? ⟨wr.heap.size, 1, none⟩ = some (.slice (some ⟨g', off', none⟩) xn xc) := by rw [rv.cell]; rfl
        have zb2 : b < u1.heap.size := row1.lt
        have zv : wr.heap.size < u1.heap.size := rv.lt
        clear row1
        refine region_plan 11 (.calm 0 (.calm 1 (.calm 2 (.calm 3 (.calm 4 (.calm 5 (.calm 6 (.calm 7 (.calm 8 (.calm 9 (.one 10 (.one 11 (.done))))))))))))) (by kernel_rfl) (by kernel_rfl) (by kernel_rfl) rfl (by kernel_rfl) (fun c a d v w h => by cases d <;> exact h) ?_
        intro u3 hu3 hszu3
        repeat (first | (refine' PlanW.skip (by rfl) (by rfl) ?_; simp only [Act.put, List.getElem_toArray, List.getElem_cons_zero, List.getElem_cons_succ, List.setIfInBounds_toArray, List.set_cons_zero, List.set_cons_succ]) | (refine' PlanW.val (by rfl) (by rfl) (fun wr hr => ?_) ?_; rotate_left 1; (focus (obtain ⟨hrc, hrf⟩ := bcell hr; (go_simp <;> with_reducible rfl); done)); simp only [Act.put, List.getElem_toArray, List.getElem_cons_zero, List.getElem_cons_succ, List.setIfInBounds_toArray, List.set_cons_zero, List.set_cons_succ]))
        refine PlanW.one (by rfl) ?_
        have k3 := K1.out.below hu3
        go_wp2_with fail
        have hBu := (HB.out.wr k3 (fun x c f hx => HH.out.off x c f (.inr (.inr (.inl hx)))) (fun _ h => h)).1.take (k := M) (by omega)
        refine (b8_clone _ _ u3 hBu HBL.out).mono ?_
        rintro e w4 ⟨v4, rfl, ho, hb4⟩
        have hu4 := chain hu3 hb4
        have k4 := K1.out.below hu4
        obtain ⟨pv, cv, hv4⟩ := own_form ho
        have HV4 := Lib.hid hv4
        clear hv4
        go_wp2_with fail
        refine ⟨.inr hu4, ?_⟩
        refine PlanW.one (by rfl) ?_
        refine wp_upd _ rfl _ _ _ rfl bs R rfl (HM1.out.keep hu4) HSR.out (by omega) xk rfl hik v4 rfl ⟨_, _, _, HV4.out⟩ ?_
        intro w5 hM5 hg5 hs5
        go_wp2_with fail
        refine ⟨by first | trivial | exact .inl rfl, PlanW.done ?_⟩
        have k5 : Wr (fun x => x = bs) w w5 := k4.grown hg5 (fun q e => by cases e; exact .inl rfl)
        have hv5 : w5.ownsRow w.heap.size 5 1 v4 (d.under[j].2.take M).length (bytVs (d.under[j].2.take M)) := by
          have h1 := own_mono ho (Nat.le_trans K1.out.size hu3.size)
          refine ⟨h1.1, ?_⟩
          rcases ho.2 with h2 | ⟨q, cap', cur', e2, hb2, hq, rest⟩
          · exact .inl h2
          · have zbs := (HM1.out.keep hu3).lt
            exact .inr ⟨q, cap', cur', e2, Nat.le_trans (Nat.le_trans K1.out.size hu3.size) hb2, (hg5.block q (Array.getElem?_eq_some_iff.1 hq).1 (fun e => by cases e; omega)).trans hq, rest⟩
        have row5 := k5.row R0.out (fun e => N2.out e.symm)
        have fin := CUT.out w5 R v4 xk k5 j hju EK.out hM5 HR.out HLE.out (by rw [HM0.out, ← HLB.out]; exact hcut) (by rw [HM0.out]; exact hv5)
        have FIN := Lib.hid fin
        clear c3 v0 v1 zb2 zv hu3 k3 hBu ho hb4 hu4 k4 hM5 hg5 hs5 k5 hv5 fin rv
        have c4 := row5.frozen 4
        have c5 : w5.cell? ⟨b, 4, none⟩ = some (.slice (some ⟨g, 0, none⟩) RW.length cap) := by rw [row5.cell]; rfl
        have zb2 : b < w5.heap.size := row5.lt
        clear row5
        go_wp2_with fail
        exact bodyPost_end (v := .tuple #[]) (by simp [results, Try.results35, go_sem]) rfl ⟨⟨_, rfl⟩, FIN.out⟩
      · have g1 : decide ((M : Int) < (xn : Int)) = false := by simpa using hcut
        have g2 : IntKind.i64.wrap ((M : Int) - (xn : Int)) = (M : Int) - xn := IntWalk.i64_in _ (by omega)
        go_upto_region 5 with (fail)
        rw [HU1.out]
        clear d0 d1 c3 c4 c5 zb2
        have c3 : u1.cell? ⟨b, 3, none⟩ = some (.map (some bs)) := by rw [row1.cell]; rfl
        have v0 : u1.cell? ⟨wr.heap.size, 0, none⟩ = some (.int .i64 xk) := by rw [rv.cell]; rfl
        have v1 : u1.cell? ⟨wr.heap.size, 1, none⟩ = some (.slice xp xn xc) := by rw [rv.cell]; rfl
        have zb2 : b < u1.heap.size := row1.lt
        have zv : wr.heap.size < u1.heap.size := rv.lt
        clear row1
        refine region_below 8 (by kernel_rfl) (by kernel_rfl) ?_
        simp only [List.take_succ_cons, List.take_zero, List.drop_succ_cons, List.drop_zero]
        repeat (first | (refine' InText.skip (by rfl) ?_; simp only [Act.put, List.setIfInBounds_toArray, List.set_cons_zero, List.set_cons_succ]) | (refine' InText.val (by rfl) (fun wr hr => ?_) ?_; rotate_left 1; (focus (obtain ⟨hrc, hrf⟩ := bcell hr; (go_simp <;> with_reducible rfl); done)); simp only [Act.put, List.setIfInBounds_toArray, List.set_cons_zero, List.set_cons_succ]))
        refine fun wrs hrs => ?_
        obtain ⟨hrcs, hrfs⟩ := bcell hrs
        refine wp_upd _ rfl _ _ _ rfl bs R rfl (HM1.out.keep hrs) HSR.out (by omega) xk rfl hik _ rfl ⟨_, _, _, rfl⟩ ?_
        intro w3 hM3 hg3 hs3
        have kS := K1.out.below hrs
        have k3 : Wr (fun x => x = bs) w w3 := kS.grown hg3 (fun q e => by cases e; exact .inl rfl)
        have rv3 : RowAt w3 wr.heap.size #[.int .i64 xk, .slice xp xn xc] 73 := (hg3.block _ (rv.keep hrs).lt (fun e => zw (by cases e; rfl))).trans (rv.keep hrs)
        clear c3 v0 v1 zb2 zv hrs hrcs hrfs rv hg3
        have v1 : w3.cell? ⟨wr.heap.size, 1, none⟩ = some (.slice xp xn xc) := by rw [rv3.cell]; rfl
        have zv : wr.heap.size < w3.heap.size := rv3.lt
        go_wp2_with fail
        go_roundw
        case rel =>
          have hlast : R = R := rfl
          refine ⟨j + 1, by omega, by go_num, ?_, ?_, insF R (xk, .slice xp xn xc), hM3, ?_, k3⟩
          · rw [HNX.out]; have := HM0.out; have := HLE.out; omega
          · rw [HNX.out]; have := HM0.out; have := HLE.out; congr 1; omega
          · rw [HNF.out, ← layF_ins _ HSR.out]
            have e := EK.out
            have hp : d.under[j] = (xk, d.under[j].2) := by rw [e]
            rw [hp]
            exact HR.out.lay HB.out
        case measure => simp [intOf]; omega
    · obtain rfl : j = N := by omega
      have e : d.under.take j = d.under := by rw [← HU.out, List.take_length]
      rw [e] at hle hR
      have fin := FULL.out wr R kw hM (by rw [crash_full _ _ _ hle]; exact hR)
      have FIN := Lib.hid fin
      clear hle hR hM kw row fin e
      go_wp2_with fail
      exact bodyPost_end (v := .tuple #[]) (by simp [results, Try.results35, go_sem]) rfl ⟨⟨_, rfl⟩, FIN.out⟩
end Go.Proofs.Ytkephcmjigfepaa
