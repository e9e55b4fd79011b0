/- Texts behind each other. -/
import Derived.Test.YthjekbbldejlpaaZ24
import Derived.Test.YthjekbbldejlpaaZ10
import Derived.Test.YthjekbbldejlpaaZ14
/- The landed store: words; New, find, Load. Over any disk that is what layer 8's laws ask. -/
set_option linter.unusedVariables false
set_option linter.unusedSimpArgs false
namespace Go.Proofs.Ythjekbbldejlpaa
open Go.ChangeShapes Go.WideShapes Go.ChangeAt Go.RowKit
/-- A store: one cell, that points to its disk. -/
def StoreAt (D : DiskI) (w : World) (F : Foot) (p : Value) (d : St) : Prop :=
  ∃ (b : Nat) (q : Value) (G : Foot), p = .pointer (some ⟨b, 0, none⟩) ∧ RowAt w b #[q] 54 ∧ D.At w G q d ∧ ¬ G b ∧ F = fun x => x = b ∨ G x
section
variable {D : DiskI} {w w' : World} {F G G' : Foot} {p q : Value} {d d' : St} {b : Nat}
theorem StoreAt.lt (h : StoreAt D w F p d) : ∀ x, F x → x < w.heap.size := by
  obtain ⟨b, q, G, rfl, r, hD, nb, rfl⟩ := h
  intro x hx
  rcases hx with rfl | hx
  · exact r.lt
  · exact D.lt hD x hx
theorem StoreAt.same (h : StoreAt D w F p d) (hs : ∀ x, F x → w'.heap[x]? = w.heap[x]?) : StoreAt D w' F p d := by
  obtain ⟨b, q, G, rfl, r, hD, nb, rfl⟩ := h
  exact ⟨b, q, G, rfl, (hs b (.inl rfl)).trans r, D.same hD fun x hx => hs x (.inr hx), nb, rfl⟩
theorem StoreAt.keep (h : StoreAt D w F p d) (hb : Below w.heap.size w w') : StoreAt D w' F p d := h.same fun x hx => hb.block x (h.lt x hx)
theorem StoreAt.types (h : StoreAt D w F p d) (x : Nat) (c : Array Value) (t : TypeId) (f : Nat × Nat) (hx : F x) (ht : w.heap[x]? = some (.cells c t f)) : ¬ calmT t := by
  obtain ⟨b, q, G, rfl, r, hD, nb, rfl⟩ := h
  rcases hx with rfl | hx
  · unfold RowAt at r
    rw [ht] at r
    simp only [Option.some.injEq, Obj.cells.injEq] at r
    obtain ⟨_, rfl, _⟩ := r
    unfold calmT
    decide
  · exact D.types hD x c t f hx ht
/-- A deed on its disk. -/
theorem StoreAt.deed (r : RowAt w b #[q] 54) (nb : ¬ G b) (hA : D.At w' G' q d') (hs : Step G G' w w') :
    StoreAt D w' (fun x => x = b ∨ G' x) (.pointer (some ⟨b, 0, none⟩)) d' ∧ Step (fun x => x = b ∨ G x) (fun x => x = b ∨ G' x) w w' ∧ RowAt w' b #[q] 54 ∧ ¬ G' b := by
  have r' : RowAt w' b #[q] 54 := (hs.block b r.lt nb).trans r
  have nb' : ¬ G' b := fun h => by
    rcases hs.fresh b h with h | h
    · exact nb h
    · have := r.lt; omega
  refine ⟨⟨b, q, G', rfl, r', hA, nb', rfl⟩, ⟨hs.os, hs.tape, hs.output, hs.size, fun x hx hn => hs.block x hx (fun h => hn (.inr h)), fun x hx => ?_⟩, r', nb'⟩
  rcases hx with h | h
  · exact .inl (.inl h)
  · exact (hs.fresh x h).imp_left .inr
end
theorem gb9 {d : St} {i : Nat} (h : St9 d i) (q : Int) : bytOk (gb d.all q) ∧ (gb d.all q).length ≤ 29 := by
  by_cases c : gb d.all q = []
  · rw [c]; exact ⟨fun x hx => (by cases hx), by simp⟩
  · have hm := gb_mem c
    exact ⟨(h.ok.allmem _ hm).2, (h.all _ hm).2.2⟩
theorem load_bad9 {d : St} {k : Int} (h : idB k = false) : loadF d k = ([], 0, false) := by unfold loadF; rw [h]; rfl
theorem b9_new (D : DiskI) (room : Int) (w : World) (hr : i64 room) : Calls Try.prog 17 #[.int .i64 room] w fun e w' => ∃ p F, e = .returned p ∧ StoreAt D w' F p (newSt room) ∧ (∀ b, F b → w.heap.size ≤ b) ∧ Below w.heap.size w w' := by
  have HN := Lib.hid (D.new room w hr)
  go_enter Try.func17, Try.ntmps17
  go_wp2_with fail
  refine HN.out.mono ?_
  rintro e w1 ⟨q, G, rfl, hA, hG, hb⟩
  obtain ⟨a, rfl⟩ := D.ptr hA
  have HA := Lib.hid hA
  have HB := Lib.hid hb
  clear hA hb
  go_wp2
  go_ret
  have kv : Below w1.heap.size w1 (w1.alloc (.cells #[.pointer (some a)] 54)) := al (Below.refl _ _) _
  refine ⟨_, _, rfl, ⟨w1.heap.size, _, G, rfl, RowAt.new w1 _ _, D.keep HA.out kv, fun h => absurd (D.lt HA.out _ h) (Nat.lt_irrefl _), rfl⟩, fun b hb => ?_, chain HB.out kv⟩
  rcases hb with rfl | hb
  · exact HB.out.size
  · exact hG b hb
set_option maxRecDepth 10000 in
set_option maxHeartbeats 16000000 in
theorem b9_find (D : DiskI) (w : World) (F : Foot) (p : Value) (d : St) (k : Int) (i : Nat) (hA : StoreAt D w F p d) (h9 : St9 d i) (hi : i ≤ 300) (hk : 0 ≤ k ∧ k ≤ 1099511627776) :
    Calls Try.prog 48 #[p, .int .i64 k] w fun e w' => ∃ vb, e = .returned (.tuple #[vb, .int .i64 (of9 d k).2.1, .int .i64 (4 * k + 1 - (of9 d k).1)]) ∧ BytsNew w w' vb (of9 d k).2.2 ∧ Below w.heap.size w w' := by
  obtain ⟨b, q, G, rfl, r, hD, nb, rfl⟩ := hA
  obtain ⟨aq, rfl⟩ := D.ptr hD
  obtain ⟨k0, k1⟩ := hk
  have i2 : (Try.prog.info? 110).map (·.size) = some 2 := by kernel_rfl
  have ix0 : ∀ (x0 x1 : Int) (w : World), (Instr.index 110 (.agg #[.int .i64 x0, .int .i64 x1]) (.int .i64 0)).run Try.prog w = .ok (.int .i64 x0) w := fun _ _ _ => by kernel_rfl
  have ix1 : ∀ (x0 x1 : Int) (w : World), (Instr.index 110 (.agg #[.int .i64 x0, .int .i64 x1]) (.int .i64 1)).run Try.prog w = .ok (.int .i64 x1) w := fun _ _ _ => by kernel_rfl
  have ga := fun u (hu : Below w.heap.size w u) => D.get u G _ d (2 * k) i (29 * i) (D.keep hD hu) h9.ok (by omega) (by omega) (by constructor <;> omega)
  have gc := fun u (hu : Below w.heap.size w u) => D.get u G _ d (2 * k + 1) i (29 * i) (D.keep hD hu) h9.ok (by omega) (by omega) (by constructor <;> omega)
  obtain ⟨okA, lnA⟩ := gb9 h9 (2 * k)
  obtain ⟨okB, lnB⟩ := gb9 h9 (2 * k + 1)
  have hof : of9 d k = ofP k (getSt d (2 * k)).1 (getSt d (2 * k + 1)).1 := rfl
  rw [hof]
  change bytOk (getSt d (2 * k)).1 at okA
  change (getSt d (2 * k)).1.length ≤ 29 at lnA
  change bytOk (getSt d (2 * k + 1)).1 at okB
  change (getSt d (2 * k + 1)).1.length ≤ 29 at lnB
  generalize (getSt d (2 * k)).1 = a at *
  generalize (getSt d (2 * k + 1)).1 = c at *
  generalize (getSt d (2 * k)).2 = ia at *
  generalize (getSt d (2 * k + 1)).2 = ic at *
  have ra := fun u x (hx : BytsAt u x a) => b9_readN x a u hx okA (by omega)
  have rc := fun u x (hx : BytsAt u x c) => b9_readN x c u hx okB (by omega)
  have pa := fun (h : readE a = 0) => readV_pos h
  have pc := fun (h : readE c = 0) => readV_pos h
  have hofp : ofP k a c = if ¬ readE a = 0 ∧ ¬ readE c = 0 then (2 * k + 1, 0, []) else if ¬ readE c = 0 ∨ (readE a = 0 ∧ readV c ≤ readV a) then (2 * k, readV a, readB a) else (2 * k + 1, readV c, readB c) := rfl
  rw [hofp]
  generalize readE a = ea at *
  generalize readE c = ec at *
  generalize readV a = va at *
  generalize readV c = vc at *
  generalize readB a = xa at *
  generalize readB c = xc at *
  generalize hPR : (if ¬ ea = 0 ∧ ¬ ec = 0 then (2 * k + 1, (0 : Int), ([] : List Int)) else if ¬ ec = 0 ∨ (ea = 0 ∧ vc ≤ va) then (2 * k, va, xa) else (2 * k + 1, vc, xc)) = PR
  have HPR := Lib.hid hPR
  have GA := Lib.hid ga
  have GC := Lib.hid gc
  have RA := Lib.hid ra
  have RC := Lib.hid rc
  have PA := Lib.hid pa
  have PC := Lib.hid pc
  have wz0 : IntKind.i64.wrap 0 = 0 := rfl
  have wz1 : IntKind.i64.wrap 1 = 1 := rfl
  have w2 : IntKind.i64.wrap (2 * k) = 2 * k := IntWalk.i64_in _ (by omega)
  have w3 : IntKind.i64.wrap (2 * k + 1) = 2 * k + 1 := IntWalk.i64_in _ (by omega)
  have f1 : 4 * k + 1 - 2 * k = 2 * k + 1 := by omega
  have f2 : 4 * k + 1 - (2 * k + 1) = 2 * k := by omega
  have F1 := Lib.hid f1
  have F2 := Lib.hid f2
  clear hPR ga gc ra rc pa pc hof hofp hD h9 okA okB lnA lnB f1 f2 k0 k1
  have cS := r.one
  have zS := r.lt
  have fS := r.frozen
  go_enter Try.func48, Try.ntmps48
  go_upto_region 2 with (refine wpList_store_row rfl 110 _ _ rfl w.heap.size #[.int .i64 (2 * k), .int .i64 (2 * k + 1)] rfl rfl _ _ (RowAt.new _ _ _) i2 rfl (by simp [Value.oneCell']) ?_)
  have rt := (RowAt.new w #[.int .i64 0, .int .i64 0] 110).row #[.int .i64 (2 * k), .int .i64 (2 * k + 1)]
  have kw : Below w.heap.size w ((w.alloc (.cells #[.int .i64 0, .int .i64 0] 110)).setRow w.heap.size #[.int .i64 (2 * k), .int .i64 (2 * k + 1)]) := below_setRow (al (Below.refl _ _) _) (Nat.le_refl _) _
  generalize (w.alloc (.cells #[.int .i64 0, .int .i64 0] 110)).setRow w.heap.size #[.int .i64 (2 * k), .int .i64 (2 * k + 1)] = w1 at *
  obtain ⟨tb, htb⟩ : ∃ t, w.heap.size = t := ⟨_, rfl⟩
  have HTB := Lib.hid htb
  rw [htb] at rt ⊢
  clear htb
  have r1 := r.keep kw
  clear cS zS fS
  have cS := r1.one
  have zS := r1.lt
  have fS := r1.frozen
  have c0 := rt.two.1
  have c1 := rt.two.2
  have zt := rt.lt
  have ft := rt.frozen
  go_upto_region 3 with (fail)
  go_wp2_with (refine wpList_load_row rfl 110 _ rfl tb rfl _ _ _ _ rt Try.underlying110 rfl i2 ?_)
  refine wp_loop_rounds 3 ?_
  rw [rounds_succ]
  go_wp2_with fail
  (refine (GA.out _ kw).mono ?_; rintro e w3 ⟨z1, rfl, hz1, hb3⟩)
  have kw3 := chain kw hb3
  have r3 := r1.keep hb3
  have rt3 := rt.keep hb3
  have HZ1 := Lib.hid hz1
  clear hz1 hb3 kw r1 rt
  clear cS zS fS c0 c1 zt ft
  have cS := r3.one
  have zS := r3.lt
  have fS := r3.frozen
  have c0 := rt3.two.1
  have c1 := rt3.two.2
  have zt := rt3.lt
  have ft := rt3.frozen
  go_wp2_with fail
  (refine (RA.out _ _ HZ1.out).mono ?_; rintro e w4 ⟨y1, rfl, hy1, hb4⟩)
  have kw4 := chain kw3 hb4
  have r4 := r3.keep hb4
  have rt4 := rt3.keep hb4
  have HY1 := Lib.hid (hy1.older kw3.size)
  obtain ⟨py1, cy1, hs1⟩ := hy1.1.shape
  have HS1 := Lib.hid hs1
  clear hy1 hb4 kw3 r3 rt3 hs1
  clear cS zS fS c0 c1 zt ft
  have cS := r4.one
  have zS := r4.lt
  have fS := r4.frozen
  have c0 := rt4.two.1
  have c1 := rt4.two.2
  have zt := rt4.lt
  have ft := rt4.frozen
  by_cases ca : ea = 0
  · subst ca
    have va0 := PA.out rfl
    have g1 : decide (0 < va) = true := by simp; omega
    have g2 : decide (va > 0) = true := g1
    go_wp2_with fail
    refine region_below 8 (by kernel_rfl) (by kernel_rfl) ?_
    simp only [List.take_succ_cons, List.take_zero, List.drop_succ_cons, List.drop_zero]
    repeat (first | (refine' InText.skip (by rfl) ?_; simp only [Act.put, List.setIfInBounds_toArray, List.set_cons_zero, List.set_cons_succ]) | (refine' InText.val (by rfl) (fun wr hr => ?_) ?_; rotate_left 1; (focus (obtain ⟨hrc, hrf⟩ := bcell hr; (go_simp <;> with_reducible rfl); done)); simp only [Act.put, List.setIfInBounds_toArray, List.set_cons_zero, List.set_cons_succ]))
    refine fun wrs hrs => ?_
    obtain ⟨hrcs, hrfs⟩ := bcell hrs
    have kw5 := chain kw4 hrs
    have r5 := r4.keep hrs
    have rt5 := rt4.keep hrs
    have HX5 := Lib.hid (HY1.out.keep hrs)
    clear hrs hrcs hrfs kw4 r4 rt4 g1 g2
    clear cS zS fS c0 c1 zt ft
    have cS := r5.one
    have zS := r5.lt
    have fS := r5.frozen
    have c0 := rt5.two.1
    have c1 := rt5.two.2
    have zt := rt5.lt
    have ft := rt5.frozen
    go_wp2_with fail
    rw [rounds_succ]
    go_wp2_with fail
    (refine (GC.out _ kw5).mono ?_; rintro e w6 ⟨z2, rfl, hz2, hb6⟩)
    have kw6 := chain kw5 hb6
    have r6 := r5.keep hb6
    have rt6 := rt5.keep hb6
    have HZ2 := Lib.hid hz2
    have HX6 := Lib.hid (HX5.out.keep hb6)
    clear hz2 hb6 kw5 r5 rt5
    clear cS zS fS c0 c1 zt ft
    have cS := r6.one
    have zS := r6.lt
    have fS := r6.frozen
    have c0 := rt6.two.1
    have c1 := rt6.two.2
    have zt := rt6.lt
    have ft := rt6.frozen
    go_wp2_with fail
    (refine (RC.out _ _ HZ2.out).mono ?_; rintro e w7 ⟨y2, rfl, hy2, hb7⟩)
    have kw7 := chain kw6 hb7
    have r7 := r6.keep hb7
    have rt7 := rt6.keep hb7
    have HY2 := Lib.hid (hy2.older kw6.size)
    obtain ⟨py2, cy2, hs2⟩ := hy2.1.shape
    have HS2 := Lib.hid hs2
    have HX7 := Lib.hid (HX6.out.keep hb7)
    clear hy2 hb7 kw6 r6 rt6 hs2
    clear cS zS fS c0 c1 zt ft
    have cS := r7.one
    have zS := r7.lt
    have fS := r7.frozen
    have c0 := rt7.two.1
    have c1 := rt7.two.2
    have zt := rt7.lt
    have ft := rt7.frozen
    have K7 := Lib.hid kw7
    clear kw7
    by_cases cc : ec = 0
    · subst cc
      have vc0 := PC.out rfl
      by_cases cv : vc ≤ va
      · have g3 : decide (va < vc) = false := by simp; omega
        have g3' : decide (vc > va) = false := g3
        have e := HPR.out
        rw [if_neg (by simp), if_pos (by first | exact .inr ⟨rfl, cv⟩ | simp [cv])] at e
        have EP := Lib.hid e
        clear e cv vc0
        clear r7 rt7 cS zS fS c0 c1 zt ft
        go_wp2_with fail
        rw [rounds_succ]
        go_wp2_with fail
        go_wp2
        exact bodyPost_ret (v := .tuple #[y1, .int .i64 va, .int .i64 (2 * k + 1)]) (by simp [results, Try.results48, go_sem]) rfl ⟨_, by rw [← EP.out, F1.out], by rw [← EP.out]; exact HX7.out, K7.out⟩
      · have g3 : decide (va < vc) = true := by simp; omega
        have g3' : decide (vc > va) = true := g3
        have e := HPR.out
        rw [if_neg (by simp), if_neg (by simpa using cv)] at e
        have EP := Lib.hid e
        clear e cv vc0
        go_wp2_with fail
        refine region_below 8 (by kernel_rfl) (by kernel_rfl) ?_
        simp only [List.take_succ_cons, List.take_zero, List.drop_succ_cons, List.drop_zero]
        repeat (first | (refine' InText.skip (by rfl) ?_; simp only [Act.put, List.setIfInBounds_toArray, List.set_cons_zero, List.set_cons_succ]) | (refine' InText.val (by rfl) (fun wr hr => ?_) ?_; rotate_left 1; (focus (obtain ⟨hrc, hrf⟩ := bcell hr; (go_simp <;> with_reducible rfl); done)); simp only [Act.put, List.setIfInBounds_toArray, List.set_cons_zero, List.set_cons_succ]))
        refine fun wrs hrs => ?_
        obtain ⟨hrcs, hrfs⟩ := bcell hrs
        have K8 := Lib.hid (chain K7.out hrs)
        have HY8 := Lib.hid (HY2.out.keep hrs)
        clear hrs hrcs hrfs r7 rt7 cS zS fS c0 c1 zt ft
        go_wp2_with fail
        rw [rounds_succ]
        go_wp2_with fail
        go_wp2
        exact bodyPost_ret (v := .tuple #[y2, .int .i64 vc, .int .i64 (2 * k)]) (by simp [results, Try.results48, go_sem]) rfl ⟨_, by rw [← EP.out, F2.out], by rw [← EP.out]; exact HY8.out, K8.out⟩
    · have g3 : (ec == 0) = false := by simpa using cc
      have g4 : (ec != 0) = true := by simpa using cc
      have e := HPR.out
      rw [if_neg (by simp), if_pos (.inl cc)] at e
      have EP := Lib.hid e
      clear e cc
      clear r7 rt7 cS zS fS c0 c1 zt ft
      go_wp2_with fail
      rw [rounds_succ]
      go_wp2_with fail
      go_wp2
      exact bodyPost_ret (v := .tuple #[y1, .int .i64 va, .int .i64 (2 * k + 1)]) (by simp [results, Try.results48, go_sem]) rfl ⟨_, by rw [← EP.out, F1.out], by rw [← EP.out]; exact HX7.out, K7.out⟩
  · have g1 : (ea == 0) = false := by simpa using ca
    have g2 : (ea != 0) = true := by simpa using ca
    go_wp2_with fail
    rw [rounds_succ]
    go_wp2_with fail
    (refine (GC.out _ kw4).mono ?_; rintro e w6 ⟨z2, rfl, hz2, hb6⟩)
    have kw6 := chain kw4 hb6
    have r6 := r4.keep hb6
    have rt6 := rt4.keep hb6
    have HZ2 := Lib.hid hz2
    clear hz2 hb6 kw4 r4 rt4
    clear cS zS fS c0 c1 zt ft
    have cS := r6.one
    have zS := r6.lt
    have fS := r6.frozen
    have c0 := rt6.two.1
    have c1 := rt6.two.2
    have zt := rt6.lt
    have ft := rt6.frozen
    go_wp2_with fail
    (refine (RC.out _ _ HZ2.out).mono ?_; rintro e w7 ⟨y2, rfl, hy2, hb7⟩)
    have kw7 := chain kw6 hb7
    have r7 := r6.keep hb7
    have rt7 := rt6.keep hb7
    have HY2 := Lib.hid (hy2.older kw6.size)
    obtain ⟨py2, cy2, hs2⟩ := hy2.1.shape
    have HS2 := Lib.hid hs2
    clear hy2 hb7 kw6 r6 rt6 hs2
    clear cS zS fS c0 c1 zt ft
    have cS := r7.one
    have zS := r7.lt
    have fS := r7.frozen
    have c0 := rt7.two.1
    have c1 := rt7.two.2
    have zt := rt7.lt
    have ft := rt7.frozen
    have K7 := Lib.hid kw7
    clear kw7
    by_cases cc : ec = 0
    · subst cc
      have vc0 := PC.out rfl
      have g3 : decide (0 < vc) = true := by simp; omega
      have g3' : decide (vc > 0) = true := g3
      have e := HPR.out
      rw [if_neg (by simp), if_neg (by simp [ca])] at e
      have EP := Lib.hid e
      clear e ca vc0
      go_wp2_with fail
      refine region_below 8 (by kernel_rfl) (by kernel_rfl) ?_
      simp only [List.take_succ_cons, List.take_zero, List.drop_succ_cons, List.drop_zero]
      repeat (first | (refine' InText.skip (by rfl) ?_; simp only [Act.put, List.setIfInBounds_toArray, List.set_cons_zero, List.set_cons_succ]) | (refine' InText.val (by rfl) (fun wr hr => ?_) ?_; rotate_left 1; (focus (obtain ⟨hrc, hrf⟩ := bcell hr; (go_simp <;> with_reducible rfl); done)); simp only [Act.put, List.setIfInBounds_toArray, List.set_cons_zero, List.set_cons_succ]))
      refine fun wrs hrs => ?_
      obtain ⟨hrcs, hrfs⟩ := bcell hrs
      have K8 := Lib.hid (chain K7.out hrs)
      have HY8 := Lib.hid (HY2.out.keep hrs)
      clear hrs hrcs hrfs r7 rt7 cS zS fS c0 c1 zt ft
      go_wp2_with fail
      rw [rounds_succ]
      go_wp2_with fail
      go_wp2
      exact bodyPost_ret (v := .tuple #[y2, .int .i64 vc, .int .i64 (2 * k)]) (by simp [results, Try.results48, go_sem]) rfl ⟨_, by rw [← EP.out, F2.out], by rw [← EP.out]; exact HY8.out, K8.out⟩
    · have g3 : (ec == 0) = false := by simpa using cc
      have g4 : (ec != 0) = true := by simpa using cc
      have e := HPR.out
      rw [if_pos ⟨ca, cc⟩] at e
      have EP := Lib.hid e
      clear e cc ca
      clear r7 rt7 cS zS fS c0 c1 zt ft
      go_wp2_with fail
      rw [rounds_succ]
      go_wp2_with fail
      go_wp2
      exact bodyPost_ret (v := .tuple #[(.slice none 0 0), .int .i64 0, .int .i64 (2 * k)]) (by simp [results, Try.results48, go_sem]) rfl ⟨_, by rw [← EP.out, F2.out], by rw [← EP.out]; exact BytsNew.none _ _, K7.out⟩
set_option maxRecDepth 10000 in
set_option maxHeartbeats 8000000 in
theorem b9_load (D : DiskI) (w : World) (F : Foot) (p : Value) (d : St) (k : Int) (i : Nat) (hA : StoreAt D w F p d) (h9 : St9 d i) (hi : i ≤ 300) (hk : i64 k) :
    Calls Try.prog 21 #[p, .int .i64 k] w fun e w' => ∃ vb, e = .returned (.tuple #[vb, .int .i64 (loadF d k).2.1, .bool (loadF d k).2.2]) ∧ BytsNew w w' vb (loadF d k).1 ∧ Below w.heap.size w w' := by
  obtain ⟨b, hp⟩ : ∃ b, p = .pointer (some ⟨b, 0, none⟩) := let ⟨b, _, _, e, _⟩ := hA; ⟨b, e⟩
  have hm := b9_may k w hk
  by_cases c : idB k = true
  · have hf := b9_find D w F p d k i hA h9 hi ((idB_iff k).1 c)
    have e : loadF d k = ((of9 d k).2.2, (of9 d k).2.1, decide (0 < (of9 d k).2.1)) := by unfold loadF; rw [if_pos c]
    rw [e]
    rw [c] at hm
    generalize of9 d k = o at *
    obtain ⟨os, ov, ob⟩ := o
    subst hp
    dsimp only at hf ⊢
    have g4 : decide (ov > 0) = decide (0 < ov) := rfl
    have HM := Lib.hid hm
    have HF := Lib.hid hf
    clear hm hf hA h9 e c
    go_enter Try.func21, Try.ntmps21
    go_wp2_with fail
    (refine (HM.out).mono ?_; rintro e w1 ⟨rfl, rfl⟩)
    go_wp2_with fail
    (refine (HF.out).mono ?_; rintro e w1 ⟨vb, rfl, hn, hb⟩)
    obtain ⟨pb, cb, hs⟩ := hn.1.shape
    have HS := Lib.hid hs
    have HN := Lib.hid hn
    have HB := Lib.hid hb
    clear hn hb hs
    go_wp2
    exact bodyPost_ret (v := .tuple #[vb, .int .i64 ov, .bool (decide (0 < ov))]) (by simp [results, Try.results21, go_sem]) rfl ⟨_, rfl, HN.out, HB.out⟩
  · have c' : idB k = false := by simpa using c
    have e : loadF d k = ([], 0, false) := load_bad9 c'
    rw [e]
    rw [c'] at hm
    subst hp
    have HM := Lib.hid hm
    clear hm hA h9 e c c'
    go_enter Try.func21, Try.ntmps21
    go_wp2_with fail
    (refine (HM.out).mono ?_; rintro e w1 ⟨rfl, rfl⟩)
    go_wp2
    exact bodyPost_ret (v := .tuple #[.slice none 0 0, .int .i64 0, .bool false]) (by simp [results, Try.results21, go_sem]) rfl ⟨_, rfl, BytsNew.none _ _, Below.refl _ _⟩
end Go.Proofs.Ythjekbbldejlpaa
/- The landed store: Save, Spoil. Over any disk that is what layer 8's laws ask. -/
set_option linter.unusedVariables false
set_option linter.unusedSimpArgs false
namespace Go.Proofs.Ythjekbbldejlpaa
open Go.ChangeShapes Go.WideShapes Go.ChangeAt Go.RowKit
theorem of9_bd (d : St) (k : Int) : 0 ≤ (of9 d k).2.1 ∧ (of9 d k).2.1 ≤ 1073741824 := by
  unfold of9 ofP
  split
  · exact ⟨Int.le_refl _, by show (0 : Int) ≤ 1073741824; decide⟩
  · split
    · exact readV_bd _
    · exact readV_bd _
set_option maxRecDepth 10000 in
set_option maxHeartbeats 16000000 in
theorem b9_save (D : DiskI) (w : World) (F : Foot) (p : Value) (d : St) (k : Int) (vb : Value) (B : List Int) (i : Nat) (hA : StoreAt D w F p d) (h9 : St9 d i) (hi : i ≤ 300) (hk : i64 k) (hb : BytsAt w vb B) (okB : bytOk B) (hl : B.length ≤ 20 ∨ 65536 < B.length ∧ B.length ≤ 65600) :
    Calls Try.prog 23 #[p, .int .i64 k, vb] w fun e w' => ∃ F', e = .returned (.int .i64 (saveSt d k B).2) ∧ StoreAt D w' F' p (saveSt d k B).1 ∧ Step F F' w w' := by
  have hA0 := hA
  obtain ⟨b, q, G, rfl, r, hD, nb, rfl⟩ := hA
  obtain ⟨aq, rfl⟩ := D.ptr hD
  obtain ⟨pvb, cvb, rfl⟩ := hb.shape
  have hm := b9_may k w hk
  by_cases c : idB k = true
  · have ck := (idB_iff k).1 c
    have hf := b9_find D w _ _ d k i hA0 h9 hi ck
    have hslot := of9_slot d k
    have hnn := of9_bd d k
    have hsv : saveSt d k B = if wr9 ((of9 d k).2.1 + 1) B = true then (if (putSt d (4 * k + 1 - (of9 d k).1) (recF ((of9 d k).2.1 + 1) B)).2 = 0 then syncSt (putSt d (4 * k + 1 - (of9 d k).1) (recF ((of9 d k).2.1 + 1) B)).1 else putSt d (4 * k + 1 - (of9 d k).1) (recF ((of9 d k).2.1 + 1) B)) else (d, 1) := by unfold saveSt; rw [if_pos c]
    rw [hsv]
    rw [c] at hm
    generalize of9 d k = o at *
    obtain ⟨os, ov, ob⟩ := o
    dsimp only at hf hslot hnn ⊢
    have wv : IntKind.i64.wrap (ov + 1) = ov + 1 := IntWalk.i64_in _ (by omega)
    have hwr := fun u (hu : Below w.heap.size w u) => b9_write (ov + 1) _ B u ⟨by omega, by omega⟩ (hb.keep hu) okB (by unfold maxLen; omega)
    have HM := Lib.hid hm
    have HF := Lib.hid hf
    by_cases cw : wr9 (ov + 1) B = true
    · have hW : wrF9 (ov + 1) B = recF (ov + 1) B := if_pos cw
      simp only [if_pos cw, hW] at hwr
      rw [if_pos cw]
      have hB20 : B.length ≤ 20 := by
        simp only [wr9, Bool.and_eq_true, decide_eq_true_eq] at cw
        omega
      have okX := recF_ok (ver := ov + 1) okB
      have lnX := recF_len (ov + 1) B
      generalize recF (ov + 1) B = X at *
      have hs0 : 0 ≤ 4 * k + 1 - os ∧ 4 * k + 1 - os ≤ 2199023255553 := by rcases hslot with h | h <;> omega
      generalize 4 * k + 1 - os = s at *
      have st1 := h9.put (k := s) (B := X) hs0 okX (by omega)
      have put := fun u (hu : Below w.heap.size w u) x (hx : BytsAt u x X) => D.put u G _ d s x X i (29 * i) (D.keep hD hu) h9.ok (by omega) (by omega) (by constructor <;> omega) hx okX (by omega)
      obtain ⟨⟨d1, e1⟩, hp⟩ : ∃ y, putSt d s X = y := ⟨_, rfl⟩
      rw [hp] at st1 put ⊢
      dsimp only at st1 put ⊢
      have sync := fun u G' (hA : D.At u G' (.pointer (some aq)) d1) => D.sync u G' _ d1 (i + 1) (29 * (i + 1)) hA st1.ok (by omega) (by omega)
      obtain ⟨⟨d2, e2⟩, hfin⟩ : ∃ y, (if e1 = 0 then syncSt d1 else (d1, e1)) = y := ⟨_, rfl⟩
      rw [hfin]
      dsimp only
      have HFIN := Lib.hid hfin
      have WR := Lib.hid hwr
      have PUT := Lib.hid put
      have SY := Lib.hid sync
      have HA0 := Lib.hid hA0
      have NB := Lib.hid nb
      clear hm hf hwr put sync hsv hslot hnn hs0 st1 hp hfin h9 okX lnX hb okB hl ck c hW cw hA0
      go_enter Try.func23, Try.ntmps23
      go_wp2_with fail
      (refine (HM.out).mono ?_; rintro e w1 ⟨rfl, rfl⟩)
      go_wp2_with fail
      refine HF.out.mono ?_
      rintro e w1 ⟨vo, rfl, hn, hb1⟩
      obtain ⟨po, co, hso⟩ := hn.1.shape
      subst hso
      have WR1 := Lib.hid (WR.out _ hb1)
      have HB1 := Lib.hid hb1
      clear hn hb1
      go_wp2_with fail
      refine WR1.out.mono ?_
      rintro e w2 ⟨vx, rfl, hox, hb2⟩
      obtain ⟨px, cx, hsx⟩ := own_form hox
      have kw := chain HB1.out hb2
      have P2 := Lib.hid (PUT.out _ kw vx (byts_of_owned hox))
      have r2 := r.keep kw
      have cS := r2.one
      have zS := r2.lt
      have fS := r2.frozen
      have KW := Lib.hid kw
      subst hsx
      clear hox hb2 kw
      go_wp2_with fail
      refine P2.out.mono ?_
      rintro e w3 ⟨G3, rfl, hA3, hs3⟩
      obtain ⟨A3, S3, r3, nb3⟩ := StoreAt.deed r2 NB.out hA3 hs3
      have SY3 := Lib.hid (SY.out _ _ hA3)
      have S3' := Lib.hid ((Step.of KW.out).trans S3)
      have A3' := Lib.hid A3
      clear hA3 hs3 A3 S3 cS zS fS r2 P2
      have cS := r3.one
      have zS := r3.lt
      have fS := r3.frozen
      by_cases ce : e1 = 0
      · subst ce
        have hsy : syncSt d1 = (d2, e2) := by simpa using HFIN.out
        have sy := SY3.out
        rw [hsy] at sy
        have SY5 := Lib.hid sy
        clear hsy sy
        go_wp2_with fail
        refine SY5.out.mono ?_
        rintro e w4 ⟨G4, rfl, hA4, hs4⟩
        obtain ⟨A4, S4, r4, nb4⟩ := StoreAt.deed r3 nb3 hA4 hs4
        have S4' := Lib.hid (S3'.out.trans S4)
        have A4' := Lib.hid A4
        clear hA4 hs4 A4 S4 cS zS fS
        go_wp2
        go_ret
        exact ⟨_, rfl, A4'.out, S4'.out⟩
      · have hfin := HFIN.out
        rw [if_neg ce] at hfin
        cases hfin
        have g1 : (e1 != 0) = true := by simpa using ce
        have g2 : (e1 == 0) = false := by simpa using ce
        clear ce
        go_wp2
        go_ret
        exact ⟨_, rfl, A3'.out, S3'.out⟩
    · rw [if_neg cw]
      simp only [if_neg cw] at hwr
      have WR := Lib.hid hwr
      have HA0 := Lib.hid hA0
      clear hm hf hwr hsv hslot hnn h9 hb okB hl ck c cw hA0 r hD nb
      go_enter Try.func23, Try.ntmps23
      go_wp2_with fail
      (refine (HM.out).mono ?_; rintro e w1 ⟨rfl, rfl⟩)
      go_wp2_with fail
      refine HF.out.mono ?_
      rintro e w1 ⟨vo, rfl, hn, hb1⟩
      obtain ⟨po, co, hso⟩ := hn.1.shape
      subst hso
      have WR1 := Lib.hid (WR.out _ hb1)
      have HB1 := Lib.hid hb1
      clear hn hb1
      go_wp2_with fail
      refine WR1.out.mono ?_
      rintro e w2 ⟨vx, rfl, hox, hb2⟩
      have KW := Lib.hid (chain HB1.out hb2)
      obtain ⟨px, cx, hsx⟩ := own_form hox
      subst hsx
      clear hox hb2
      go_wp2
      go_ret
      exact ⟨_, rfl, HA0.out.keep KW.out, Step.of KW.out⟩
  · have c' : idB k = false := by simpa using c
    have e : saveSt d k B = (d, 1) := by unfold saveSt; rw [c']; rfl
    rw [e]
    rw [c'] at hm
    have HM := Lib.hid hm
    have HA0 := Lib.hid hA0
    clear hm hA0 h9 e c c' r hD nb hb okB hl
    go_enter Try.func23, Try.ntmps23
    go_wp2_with fail
    (refine (HM.out).mono ?_; rintro e w1 ⟨rfl, rfl⟩)
    go_wp2
    go_ret
    exact ⟨_, rfl, HA0.out, Step.of (Below.refl _ _)⟩
set_option maxRecDepth 10000 in
set_option maxHeartbeats 16000000 in
theorem b9_spoil (D : DiskI) (w : World) (F : Foot) (p : Value) (d : St) (k at0 x : Int) (i : Nat) (hA : StoreAt D w F p d) (h9 : St9 d i) (hi : i ≤ 300) (hk : i64 k) (ha : i64 at0) (hx : 0 ≤ x ∧ x ≤ 255) :
    Calls Try.prog 24 #[p, .int .i64 k, .int .i64 at0, .int .u8 x] w fun e w' => ∃ F', e = .returned (.bool (spoilSt d k at0 x).2) ∧ StoreAt D w' F' p (spoilSt d k at0 x).1 ∧ Step F F' w w' := by
  have hA0 := hA
  obtain ⟨b, q, G, rfl, r, hD, nb, rfl⟩ := hA
  obtain ⟨aq, rfl⟩ := D.ptr hD
  have get := D.getO w G _ d k i (29 * i) hD h9.ok (by omega) (by omega) hk
  obtain ⟨okg, lng⟩ := gb9 h9 k
  change Calls _ _ _ _ (fun e w' => ∃ vb, e = .returned (.tuple #[vb, .bool (getSt d k).2]) ∧ w'.ownsRow w.heap.size 5 1 vb (gb d.all k).length (bytVs (gb d.all k)) ∧ Below w.heap.size w w') at get
  generalize (getSt d k).2 = ig at *
  by_cases hin : 0 ≤ at0 ∧ at0 < (gb d.all k).length
  · have hne : gb d.all k ≠ [] := fun e => by rw [e] at hin; simp at hin; omega
    have hkb := h9.all _ (gb_mem hne)
    have hsp : spoilSt d k at0 x = ((syncSt (putSt (failSt d 0) k (spoilB (gb d.all k) at0.toNat x)).1).1, true) := by unfold spoilSt; rw [if_pos hin]
    rw [hsp]
    obtain ⟨j, rfl⟩ : ∃ j : Nat, at0 = j := ⟨at0.toNat, by omega⟩
    rw [Int.toNat_natCast]
    have hj : j < (gb d.all k).length := by omega
    obtain ⟨okS, lnS, eS⟩ := spoilB_ok okg hj hx
    have bj := okg _ (List.getElem_mem hj)
    have yb := (u8_xor bj hx).1
    have st1 := h9.fail (k := 0) (by decide)
    have st2 := st1.put (k := k) (B := spoilB (gb d.all k) j x) ⟨hkb.1, hkb.2.1⟩ okS (by omega)
    have FL := Lib.hid (fun u (hu : Below w.heap.size w u) => D.fail u G _ d 0 (D.keep hD hu) ⟨by decide, by decide⟩)
    have PU := Lib.hid (fun u G' v (hA : D.At u G' (.pointer (some aq)) (failSt d 0)) (hv : BytsAt u v (spoilB (gb d.all k) j x)) => D.put u G' _ _ k v _ i (29 * i) hA st1.ok (by omega) (by omega) hk hv okS (by omega))
    have SY := Lib.hid (fun u G' (hA : D.At u G' (.pointer (some aq)) (putSt (failSt d 0) k (spoilB (gb d.all k) j x)).1) => D.sync u G' _ _ (i + 1) (29 * (i + 1)) hA st2.ok (by omega) (by omega))
    generalize failSt d 0 = d1 at *
    generalize hS : spoilB (gb d.all k) j x = S at *
    generalize putSt d1 k S = pd at *
    obtain ⟨d2, e2⟩ := pd
    dsimp only at *
    generalize syncSt d2 = sd at *
    obtain ⟨d3, e3⟩ := sd
    dsimp only at *
    generalize gb d.all k = B at *
    obtain ⟨y, hy⟩ : ∃ y, bits .xor .u8 B[j] x = y := ⟨_, rfl⟩
    obtain ⟨z, hz⟩ : ∃ z, B[j] = z := ⟨_, rfl⟩
    rw [hy] at eS yb
    rw [hz] at hy bj
    obtain ⟨N, hN⟩ : ∃ N, B.length = N := ⟨_, rfl⟩
    have vS : (bytVs B).set j (.int .u8 y) = bytVs S := by rw [eS]; simp [bytVs, List.map_set]
    have vj : (bytVs B)[j]? = some (.int .u8 z) := by simp [bytVs, hj, hz]
    have lS : S.length = N := by rw [lnS, hN]
    have hj2 : j < N := by omega
    have hji : (j : Int) < N := by omega
    have nj : ¬ (j : Int) < 0 := by omega
    have g1 : decide ((j : Int) < 0) = false := by simp
    have g2 : decide ((j : Int) ≥ N) = false := by simp; omega
    have g3 : decide ((N : Int) ≤ j) = false := by simp; omega
    rw [hN] at get lng
    have GET := Lib.hid get
    have HD := Lib.hid (D.lt hD)
    have HY := Lib.hid hy
    have NB := Lib.hid nb
    have VS := Lib.hid vS
    have VJ := Lib.hid vj
    have LS := Lib.hid lS
    clear get hD h9 okg hin hne hkb hsp hj okS lnS eS st1 st2 hS hz hN vS vj lS hA0 nb hk ha hx lng
    have cS := r.one
    have zS := r.lt
    have fS := r.frozen
    go_enter Try.func24, Try.ntmps24
    go_wp2_with fail
    refine GET.out.mono ?_
    rintro e w1 ⟨vb, rfl, ho, hb1⟩
    obtain ⟨g, cap, rfl⟩ := own_some ho (by omega)
    have hgn : w.heap.size ≤ g := (ho.lt g rfl).1
    have cj := own_cell ho j VJ.out
    obtain ⟨fg, zg⟩ := own_open ho
    have hcap : N ≤ cap := by
      rcases ho.2 with ⟨h, _⟩ | ⟨g', cap', cur, e, _, _, h, _⟩
      · cases h
      · simp only [Value.slice.injEq] at e
        obtain ⟨_, _, rfl⟩ := e
        exact h
    have hos := own_set ho j (by omega) (.int .u8 y)
    rw [VS.out] at hos
    have kw2 := Below.own_set hb1 ho j (.int .u8 y)
    have r1 := r.keep hb1
    have r2 := r.keep kw2
    have OS := Lib.hid hos
    have K2 := Lib.hid kw2
    have R2 := Lib.hid r2
    have HG := Lib.hid hgn
    have oy := HY.out
    clear ho hb1 hos kw2 r2 hgn cS zS fS
    have cS := r1.one
    have zS := r1.lt
    have fS := r1.frozen
    have ng : b ≠ g := by have := r.lt; have := HG.out; omega
    go_upto_region 5 with (fail)
    generalize w1.setCell ⟨g, j, none⟩ (.int .u8 y) = w2 at *
    clear cS zS fS r1 cj fg zg oy
    have r2 := R2.out
    have cS := r2.one
    have zS := r2.lt
    have fS := r2.frozen
    go_wp2_with fail
    refine (FL.out _ K2.out).mono ?_
    rintro e w3 ⟨G3, v3, rfl, hA3, hs3⟩
    obtain ⟨A3, S3, r3, nb3⟩ := StoreAt.deed r2 NB.out hA3 hs3
    have own3 := Step.owned hs3 OS.out HD.out
    have hby : BytsAt w3 (.slice (some ⟨g, 0, none⟩) N cap) S := byts_of_owned (l := S) (by rw [LS.out]; exact own3)
    have PU3 := Lib.hid (PU.out _ _ _ hA3 hby)
    have S3' := Lib.hid ((Step.of K2.out).trans S3)
    clear hA3 hs3 A3 S3 cS zS fS r2 own3 hby
    have cS := r3.one
    have zS := r3.lt
    have fS := r3.frozen
    go_wp2_with fail
    refine PU3.out.mono ?_
    rintro e w4 ⟨G4, rfl, hA4, hs4⟩
    obtain ⟨A4, S4, r4, nb4⟩ := StoreAt.deed r3 nb3 hA4 hs4
    have SY4 := Lib.hid (SY.out _ _ hA4)
    have S4' := Lib.hid (S3'.out.trans S4)
    clear hA4 hs4 A4 S4 cS zS fS r3 nb3
    have cS := r4.one
    have zS := r4.lt
    have fS := r4.frozen
    go_wp2_with fail
    refine SY4.out.mono ?_
    rintro e w5 ⟨G5, rfl, hA5, hs5⟩
    obtain ⟨A5, S5, r5, nb5⟩ := StoreAt.deed r4 nb4 hA5 hs5
    have S5' := Lib.hid (S4'.out.trans S5)
    have A5' := Lib.hid A5
    clear hA5 hs5 A5 S5 cS zS fS r4 nb4
    go_wp2
    go_ret
    exact ⟨_, rfl, A5'.out, S5'.out⟩
  · have hsp : spoilSt d k at0 x = (d, false) := by unfold spoilSt; rw [if_neg hin]
    rw [hsp]
    generalize gb d.all k = B at *
    obtain ⟨N, hN⟩ : ∃ N, B.length = N := ⟨_, rfl⟩
    rw [hN] at get hin
    have GET := Lib.hid get
    have HA0 := Lib.hid hA0
    obtain ⟨a0, a1⟩ := ha
    clear get hA0 hD h9 okg lng hsp hN hk hx nb
    have cS := r.one
    have zS := r.lt
    have fS := r.frozen
    by_cases c1 : at0 < 0
    · have g1 : decide (at0 < 0) = true := by simpa using c1
      go_enter Try.func24, Try.ntmps24
      go_wp2_with fail
      refine GET.out.mono ?_
      rintro e w1 ⟨vb, rfl, ho, hb1⟩
      obtain ⟨pv, cv, rfl⟩ := own_form ho
      have K1 := Lib.hid hb1
      clear ho hb1
      go_wp2
      go_ret
      exact ⟨_, rfl, HA0.out.keep K1.out, Step.of K1.out⟩
    · have g1 : decide (at0 < 0) = false := by simpa using c1
      have g2 : decide (at0 ≥ (N : Int)) = true := by simp; omega
      have g3 : decide ((N : Int) ≤ at0) = true := by simp; omega
      go_enter Try.func24, Try.ntmps24
      go_wp2_with fail
      refine GET.out.mono ?_
      rintro e w1 ⟨vb, rfl, ho, hb1⟩
      obtain ⟨pv, cv, rfl⟩ := own_form ho
      have K1 := Lib.hid hb1
      clear ho hb1
      go_wp2
      go_ret
      exact ⟨_, rfl, HA0.out.keep K1.out, Step.of K1.out⟩
end Go.Proofs.Ythjekbbldejlpaa
