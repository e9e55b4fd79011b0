/- The landed disk: Put. -/
import Derived.Test.YtkephcmjigfepaaB8D
import Derived.Test.YtkephcmjigfepaaK5F
set_option linter.unusedVariables false
set_option linter.unusedSimpArgs false
namespace Go.Proofs.Ytkephcmjigfepaa
open Go.ChangeShapes Go.WideShapes Go.ChangeAt Go.RowKit
/-- One blob more at the end of a row that is owned, and where the row lies then. -/
theorem app_raw_fresh {P : Program} {ops : Array Oper} {rest : List Oper} {o : Oper} {a : Act} {Q : Exit → Act → World → Prop} (w : World) (hgd : o.guard = none) (s x : Operand) (t : TypeId) (ho : o.op = .call { callee := .builtin .append, args := #[s, x], argTypes := #[t, t] }) (base : Nat) (e : TypeId) (i : TypeInfo) (z : Value)
    (ht : P.underlying t = some (.slice e)) (hi : P.info? e = some i) (hz : i.zero = some z) (hsize : i.size = 2) (hby : i.bytes = 32) (hzs : z.cells.size = 2)
    (v : Value) (n : Nat) (xs : List Value) (hs : a.eval s = v) (hown : w.ownsRow base e 2 v n xs) (g : Nat) (c d : Value) (hx : a.eval x = .slice (some ⟨g, 0, none⟩) 1 1) (hc : w.cell? ⟨g, 0, none⟩ = some c) (hd : w.cell? ⟨g, 1, none⟩ = some d)
    (h1 : c.oneCell' = true) (h2 : d.oneCell' = true) (hN : n ≤ 1000000) (hbase : base ≤ w.heap.size)
    (h : ∀ v' w', w'.ownsRow base e 2 v' (n + 1) (xs ++ [c, d]) → w.grownBy w' v.ownBlock → (v'.ownBlock = v.ownBlock ∨ v'.ownBlock = some w.heap.size) → wpList P ops Q rest (a.put o.dst v') w') : wpList P ops Q (o :: rest) a w :=
  wpList_plain hgd fun K hK => by
    have hnews : ∀ j u, [c, d][j]? = some u → w.cell? ((⟨g, 0, none⟩ : Addr).add j) = some u := fun j u hu => by
      match j, hu with
      | 0, hu => simp at hu; subst hu; simpa [Addr.add] using hc
      | 1, hu => simp at hu; subst hu; simpa [Addr.add] using hd
      | j + 2, hu => simp at hu
    have h12 : ∀ u ∈ [c, d], u.oneCell' = true := fun u hu => by
      simp at hu
      rcases hu with rfl | rfl
      · exact h1
      · exact h2
    obtain ⟨v', w', hr, k2, k3, _⟩ := run_append_own (P := P) w base t o.type e i z 2 32 ht hi hz hsize hby hzs (by omega) v n xs hown ⟨g, 0, none⟩ 1 1 [c, d] rfl hnews h12 (by simp only [maxLen]; omega) (by omega) hbase
    obtain ⟨v2, w2, hr2, k5⟩ := run_append_fresh (P := P) w base t o.type e i z ht hi hz v n xs (by rw [hsize]; exact hown) ⟨g, 0, none⟩ 1 1 [c, d] (by rw [hsize]; rfl) hnews h12 (by simp only [maxLen]; omega) (by rw [hby]; omega) (by omega)
    rw [hr] at hr2
    cases hr2
    unfold Oper.wp execOp
    simp only [ho, resolve, invoke, builtin, Sem.run_bind, Sem.run_pure, Result.andThen_ok, List.map_toArray, List.map_cons, List.map_nil, hs, hx, hr]
    exact hK _ _ (h v' w' k2 k3 k5)
theorem sumB_ins {k : Int} {B : List Int} : ∀ {l : Blobs}, Srt l → sumB (insF l (k, B)) + ((getF l k).getD []).length = sumB l + B.length
  | [], _ => by simp [insF, getF, sumB]
  | x :: l, h => by
    obtain ⟨h1, h2⟩ := List.pairwise_cons.1 h
    rw [insF, getF]
    by_cases c : k ≤ x.1
    · rw [if_pos c]
      by_cases c2 : x.1 = k
      · rw [if_pos c2, if_pos c2]; simp only [sumB, Option.getD_some]; omega
      · have hn : getF l k = none := getF_none fun i hi => by
          have := h1 l[i] (List.getElem_mem hi)
          omega
        rw [if_neg c2, if_neg c2, hn]; simp only [sumB, Option.getD_none, List.length_nil]; omega
    · have c2 : ¬ x.1 = k := by omega
      rw [if_neg c, if_neg c2]
      have := sumB_ins (k := k) (B := B) h2
      simp only [sumB]; omega
theorem getF_le {k : Int} : ∀ {l : Blobs}, ((getF l k).getD []).length ≤ sumB l
  | [] => by simp [getF, sumB]
  | x :: l => by
    rw [getF]
    split
    · simp only [sumB, Option.getD_some]; omega
    · have := getF_le (k := k) (l := l)
      simp only [sumB]; omega
theorem put_info : ∃ i, Try.prog.info? 73 = some i ∧ i.zero = some (.agg #[.int .i64 0, .slice none 0 0]) ∧ i.size = 2 ∧ i.bytes = 32 := by
  obtain ⟨i, hi⟩ : ∃ i, Try.prog.info? 73 = some i := Option.isSome_iff_exists.1 (by kernel_rfl)
  have h : (Try.prog.info? 73).map (fun i => (i.zero, i.size, i.bytes)) = some (some (.agg #[.int .i64 0, .slice none 0 0]), 2, 32) := by kernel_rfl
  rw [hi] at h
  simp at h
  exact ⟨i, hi, h.1, h.2.1, h.2.2⟩
theorem exec_look {o : Oper} {a : Act} {u : World} {b : Nat} {S : List Raw} {k : Int} {v : Value} (m x : Operand) (ho : o.op = .lookup 54 m x false) (hm : a.eval m = .map (some b)) (hx : a.eval x = .int .i64 k) (h : MapAt u b S) (hk : i64 k) (hv : (getF S k).getD (.slice none 0 0) = v) :
    (execOp a.eval o).run Try.prog u = .ok (.value v) u := by
  have := h.look hk
  rw [hv] at this
  simp [execOp, ho, hm, hx, this, Result.andThen]
theorem wp_estore {ops : Array Oper} {rest : List Oper} {o : Oper} {a : Act} {Q : Exit → Act → World → Prop} (w w2 : World) (hg : o.guard = none) (m s x : Operand) (hop : o.op = Op.entryStore 54 m s x) (b st : Nat) (y : Value) (hm : a.eval m = .map (some b)) (hs : a.eval s = goInt st) (hv : a.eval x = y)
    (hrun : (Instr.entryStore 54 (.map (some b)) (goInt st) y).run Try.prog w = .ok () w2) (hK : wpList Try.prog ops Q rest (a.put o.dst undef) w2) : wpList Try.prog ops Q (o :: rest) a w := by
  refine wpList_plain hg fun K' hK' => ?_
  unfold Oper.wp
  simp [execOp, hop, hm, hs, hv, hrun, Result.andThen]
  exact hK' _ _ hK
/-- A row of bytes stays when the disk's own row is written. -/
theorem byts_turn {w w' : World} {b : Nat} {v : Value} {B : List Int} {i0 i2 i6 : Int} {m1 m3 : Option Nat} {p : Option Addr} {n c : Nat} {s : Bool} {t : TypeId} (h : BytsAt w v B) (r : RowAt w b #[.int .i64 i0, .map m1, .int .i64 i2, .map m3, .slice p n c, .bool s, .int .i64 i6] t) (hw : Wr (fun x => x = b) w w') : BytsAt w' v B := by
  rcases h with h | ⟨g, off, cap, e, hc, hg, hx⟩
  · exact .inl h
  · rcases Nat.eq_zero_or_pos B.length with h0 | h0
    · obtain rfl := List.length_eq_zero_iff.1 h0
      exact .inl ⟨⟨_, _, e⟩, rfl⟩
    · have hne : g ≠ b := by
        rintro rfl
        have h1 := hx 0 h0
        rw [r.cell] at h1
        revert h1
        generalize B[0] = x0
        match off + 0 with
        | 0 => intro h1; simp at h1
        | 1 => intro h1; simp at h1
        | 2 => intro h1; simp at h1
        | 3 => intro h1; simp at h1
        | 4 => intro h1; simp at h1
        | 5 => intro h1; simp at h1
        | 6 => intro h1; simp at h1
        | q + 7 => intro h1; simp at h1
      have e2 := hw.block g hg hne
      exact .inr ⟨g, off, cap, e, hc, Nat.lt_of_lt_of_le hg hw.size, fun j hj => (World.cell?_of_block (a := ⟨g, off + j, none⟩) e2).trans (hx j hj)⟩
/-- Behind a put. -/
theorem LD.putted {w w' : World} {F : Foot} {b bl bs : Nat} {vw v2 v3 : Value} {RL RS RW : List Raw} {d : St} {k : Int} {B : List Int} (h : LD w F b bl bs vw RL RS RW d) (srt : Srt d.all)
    (hw : Wr (fun x => x = b ∨ x = bl ∨ vw.ownBlock = some x) w w')
    (row' : RowAt w' b #[.int .i64 d.room, .map (some bl), .int .i64 (sumB (layF d.all (k, B))), .map (some bs), v3, .bool (decide (0 < d.wait)), .int .i64 d.fails] 57)
    (ml' : MapAt w' bl (insF RL (k, v2))) (way' : w'.ownsRow 0 73 2 v3 (RW.length + 1) (rawVs RW ++ [.int .i64 k, v2])) (hv2 : w'.ownsRow w.heap.size 5 1 v2 B.length (bytVs B))
    (h3 : v3.ownBlock = vw.ownBlock ∨ ∀ g, v3.ownBlock = some g → w.heap.size ≤ g) :
    ∃ F', LD w' F' b bl bs v3 (insF RL (k, v2)) RS (RW ++ [(k, v2)]) { d with under := d.under ++ [(k, B)] } ∧ Step F F' w w' := by
  obtain ⟨n1, n2, n3, n4, n5⟩ := h.nb
  have ea : ({ d with under := d.under ++ [(k, B)] } : St).all = layF d.all (k, B) := nowF_snoc _ _ _
  have sR : Srt RL := rel_srt h.rl srt
  have w3T : ∀ g, v3.ownBlock = some g → ∃ cur, w'.heap[g]? = some (Obj.cells cur 73 (0, 0)) := fun g hg => by
    rcases way'.2 with ⟨rfl, _⟩ | ⟨g', cap, cur, rfl, _, ht, _⟩
    · cases hg
    · cases hg; exact ⟨cur, ht⟩
  have w2T : ∀ g, v2.ownBlock = some g → ∃ cur, w'.heap[g]? = some (Obj.cells cur 5 (0, 0)) := fun g hg => by
    rcases hv2.2 with ⟨rfl, _⟩ | ⟨g', cap, cur, rfl, _, ht, _⟩
    · cases hg
    · cases hg; exact ⟨cur, ht⟩
  have hB : ∀ {v : Value} {B' : List Int}, BlobIn F w v B' → BlobIn (fun x => (F x ∧ vw.ownBlock ≠ some x) ∨ v3.ownBlock = some x ∨ v2.ownBlock = some x) w' v B' := fun hb =>
    hb.turn (fun g cur f hg ht => hw.block g (h.lt g hg) (fun hx => h.off g cur f (by rcases hx with hx | hx | hx; exact .inl hx; exact .inr (.inl hx); exact .inr (.inr (.inr hx))) ht))
      (fun g cur f hg ht => .inl ⟨hg, fun e => h.off g cur f (.inr (.inr (.inr e))) ht⟩)
  refine ⟨_, h.make hw (fun x hx hF c t f ht => ?_) (by rw [ea]; exact row') ml' (h.ms.same (hw.block bs h.ms.lt (fun e => by rcases e with e | e | e; exact n2 e; exact h.ne e.symm; exact n5 e))) (by rw [List.length_append, rawVs_snoc]; exact way') ?_ (h.rs.map hB) (rel_append (h.ru.map hB) (rel_one ?_))
    (.inl ⟨h.fb, n3⟩) (.inl ⟨h.fl, n4⟩) (.inl ⟨h.fs, n5⟩) (fun g hg => .inr (.inl hg)) h.ne (fun x hx => ?_), hw.step (fun x hx => ?_) (fun x hx => ?_)⟩
  · rcases hx with rfl | rfl | hx
    · exact row_ty row' ht
    · exact (ml'.nocells ht).elim
    · rcases hF with hF | hF | hF
      · exact absurd hx hF.2
      · obtain ⟨cur, h2⟩ := w3T x hF
        rw [h2] at ht; cases ht
        exact notcalm (.inr (.inl rfl))
      · have h1 := h.lt x (h.fw x hx)
        have h2 := (hv2.lt x hF).1
        omega
  · rw [ea, ← layF_ins _ sR]
    exact (h.rl.map hB).lay (BlobIn.owned hv2 fun g hg => .inr (.inr hg))
  · exact BlobIn.owned hv2 fun g hg => .inr (.inr hg)
  · rcases hx with hx | hx | hx
    · exact .inl hx.1
    · rcases h3 with h3 | h3
      · exact .inl (h.fw x (h3 ▸ hx))
      · refine .inr ⟨h3 x hx, (way'.lt x hx).2, fun c t f ht => ?_⟩
        obtain ⟨cur, h2⟩ := w3T x hx
        rw [h2] at ht; cases ht
        exact notcalm (.inr (.inl rfl))
    · refine .inr ⟨(hv2.lt x hx).1, (hv2.lt x hx).2, fun c t f ht => ?_⟩
      obtain ⟨cur, h2⟩ := w2T x hx
      rw [h2] at ht; cases ht
      exact notcalm (.inr (.inr rfl))
  · rcases hx with rfl | rfl | hx
    · exact h.fb
    · exact h.fl
    · exact h.fw x hx
  · rcases hx with hx | hx | hx
    · exact .inl hx.1
    · rcases h3 with h3 | h3
      · exact .inl (h.fw x (h3 ▸ hx))
      · exact .inr (h3 x hx)
    · exact .inr (hv2.lt x hx).1
end Go.Proofs.Ytkephcmjigfepaa
