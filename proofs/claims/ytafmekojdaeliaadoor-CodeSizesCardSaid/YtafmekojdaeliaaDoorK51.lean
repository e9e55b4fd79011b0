/- Words of layer 5: so many cells of one block behind runs; pieces of cells. No program. -/
import Derived.Test.YtafmekojdaeliaaDoorK50
set_option linter.unusedVariables false
namespace Go.Proofs.YtafmekojdaeliaaDoor
open Go Go.RowKit
/-- Runs with n cells of b behind them. -/
def addF (D : List Run) (n b : Int) : List Run := (List.replicate n.toNat b).foldl stepF D
theorem addF_none {D : List Run} {n : Int} (b : Int) (h : n < 1) : addF D n b = D := by
  unfold addF
  rw [show n.toNat = 0 by omega]
  rfl
theorem addF_nil {n : Int} (b : Int) (h : 1 ≤ n) : addF [] n b = [(n, b)] := by
  unfold addF
  have e : (List.replicate (n.toNat - 1) b).foldl stepF [(1, b)] = [(1 + ((n.toNat - 1 : Nat) : Int), b)] := by simpa using fold_rep b (n.toNat - 1) [] 1
  rw [show n.toNat = (n.toNat - 1) + 1 by omega, List.replicate_succ, List.foldl_cons, stepF_nil, e, show (1 : Int) + ((n.toNat - 1 : Nat) : Int) = n by omega]
theorem addF_same {D : List Run} {r n : Int} (b : Int) (h : 1 ≤ n) : addF (D ++ [(r, b)]) n b = D ++ [(r + n, b)] := by
  unfold addF
  rw [fold_rep, show (n.toNat : Int) = n by omega]
theorem addF_other {D : List Run} {r n b c : Int} (h : 1 ≤ n) (hne : c ≠ b) : addF (D ++ [(r, c)]) n b = D ++ [(r, c)] ++ [(n, b)] := by
  unfold addF
  rw [show n.toNat = (n.toNat - 1) + 1 by omega, List.replicate_succ, List.foldl_cons, stepF_other _ _ _ _ hne, fold_rep, show (1 : Int) + ((n.toNat - 1 : Nat) : Int) = n by omega]
theorem addF_of (C : List Int) (n b : Int) : addF (ofF C) n b = ofF (C ++ List.replicate n.toNat b) := by
  unfold addF ofF
  rw [List.foldl_append]
theorem makeF_add (n b : Int) : addF [] n b = makeF n b := by
  unfold makeF
  by_cases h : n < 1
  · rw [if_pos h, addF_none b h]
  · rw [if_neg h, addF_nil b (by omega)]
theorem ofF_last {X : List Int} {D : List Run} {r c : Int} (h : ofF X = D ++ [(r, c)]) : 1 ≤ r ∧ r ≤ X.length ∧ c ∈ X := by
  rcases Nat.eq_zero_or_pos X.length with h0 | h0
  · rw [List.length_eq_zero_iff.1 h0] at h
    simp [ofF] at h
  · obtain ⟨D', r', e, h1, h2, _⟩ := ofF_form X (X.length - 1) (by omega)
    rw [show X.length - 1 + 1 = X.length by omega, List.take_length, h] at e
    have := congrArg List.getLast? e
    simp only [List.getLast?_append, List.getLast?_singleton, Option.some_or, Option.some.injEq, Prod.mk.injEq] at this
    obtain ⟨rfl, rfl⟩ := this
    exact ⟨h1, by omega, by rw [getElem!_pos X (X.length - 1) (by omega)]; exact List.getElem_mem _⟩
/-- What 'add' asks of the runs that it is handed, of cells' runs. -/
theorem last_ok {X : List Int} (hX : X.length ≤ 200000) {n : Int} (h0 : -300000 ≤ n) (h1 : n ≤ 300000) : ∀ D r c, ofF X = D ++ [(r, c)] → i64 r ∧ i64 (r + n) := fun D r c h => by
  obtain ⟨a, b, d⟩ := ofF_last h
  exact ⟨by constructor <;> omega, by constructor <;> omega⟩
theorem may_i64 {X : List Int} (h : ∀ c ∈ X, mayB c = true) : ∀ c ∈ X, i64 c := fun c hc => by
  have := mayB_bd (h c hc)
  constructor <;> omega
/-- The cells of some places. -/
def cutC (C : List Int) (f t : Int) : List Int := (C.take t.toNat).drop f.toNat
theorem cutC_rep (P : List Int) (m : Nat) (b f t : Int) : cutC (P ++ List.replicate m b) f t = cutC P f t ++ List.replicate (min t ((P.length : Int) + m) - max f (P.length : Int)).toNat b := by
  unfold cutC
  rw [List.take_append, List.drop_append, List.take_replicate, List.drop_replicate, List.length_take]
  congr 2
  omega
theorem cutC_len (C : List Int) (f t : Int) : (cutC C f t).length ≤ C.length := by
  unfold cutC
  simp only [List.length_drop, List.length_take]
  omega
theorem cutC_mem {C : List Int} {f t : Int} : ∀ c ∈ cutC C f t, c ∈ C := fun c h => List.mem_of_mem_take (List.mem_of_mem_drop h)
theorem okC_cut {C : List Int} (hC : okC C) (f t : Int) : okC (cutC C f t) := ⟨fun c h => hC.1 c (cutC_mem c h), Nat.le_trans (cutC_len C f t) hC.2⟩
theorem cutC_low (C : List Int) (t : Int) : cutC C 0 t = C.take t.toNat := by unfold cutC; simp
theorem cutC_high (C : List Int) (f : Int) : cutC C f C.length = C.drop f.toNat := by unfold cutC; simp
theorem fillF_at (C : List Int) (f t b : Int) (k j : Nat) (h : j < (fillF C f t b k).length) : (fillF C f t b k)[j] = if mayB b = true ∧ f ≤ j ∧ (j : Int) < t ∧ j < k then b else C[j]'(by rwa [fillF_length] at h) := by simp only [fillF, List.getElem_mapIdx]
/-- Pieces side by side, the middle one filled. -/
theorem fillF_pieces (C : List Int) (f0 t0 f t b : Int) (hb : mayB b = true) (hf : f = max f0 0) (ht : t = min t0 C.length) (h : f < t) : C.take f.toNat ++ List.replicate (t - f).toNat b ++ C.drop t.toNat = fillF C f0 t0 b C.length := by
  have hl : (C.take f.toNat).length = f.toNat := by rw [List.length_take]; omega
  apply List.ext_getElem
  · rw [fillF_length]; simp only [List.length_append, List.length_take, List.length_replicate, List.length_drop]; omega
  · intro j h1 h2
    rw [fillF_at]
    rw [fillF_length] at h2
    by_cases a : j < f.toNat
    · rw [List.getElem_append_left (by simp; omega), List.getElem_append_left (by omega), List.getElem_take, if_neg (by omega)]
    · by_cases c : j < t.toNat
      · rw [List.getElem_append_left (by simp; omega), List.getElem_append_right (by omega), List.getElem_replicate, if_pos ⟨hb, by omega, by omega, by omega⟩]
      · rw [List.getElem_append_right (by simp; omega), List.getElem_drop, if_neg (by omega)]
        congr 1
        simp only [List.length_append, List.length_take, List.length_replicate]
        omega
theorem fillF_none (C : List Int) (f0 t0 f t b : Int) (hf : f = max f0 0) (ht : t = min t0 C.length) (h : ¬ (f < t ∧ mayB b = true)) : fillF C f0 t0 b C.length = C := by
  apply List.ext_getElem (fillF_length _ _ _ _ _)
  intro j h1 h2
  rw [fillF_at, if_neg]
  rintro ⟨h3, h4, h5, h6⟩
  exact h ⟨by omega, h3⟩
theorem setF_fill (C : List Int) (hC : C.length ≤ 100000) (i b : Int) (hi : i64 i) : fillF C i (IntKind.i64.wrap (i + 1)) b C.length = setF C i b := by
  obtain ⟨hi0, hi1⟩ := hi
  have key : ∀ i' : Int, i' = IntKind.i64.wrap (i + 1) → (i' = i + 1 ∨ (i' < i ∧ i ≥ 9223372036854775807)) := fun i' e => by
    by_cases h : i < 9223372036854775807
    · rw [IntWalk.i64_in (i + 1) (by omega)] at e
      exact .inl e
    · obtain rfl : i = 9223372036854775807 := by omega
      rw [show IntKind.i64.wrap (9223372036854775807 + 1) = -9223372036854775808 from by decide] at e
      exact .inr (by omega)
  have key := key _ rfl
  generalize IntKind.i64.wrap (i + 1) = i' at *
  apply List.ext_getElem (by rw [fillF_length, setF_len])
  intro j h1 h2
  rw [fillF_at]
  rw [fillF_length] at h1
  unfold setF
  by_cases hb : mayB b = true ∧ 0 ≤ i ∧ i < C.length
  · simp only [if_pos hb, List.getElem_set]
    by_cases e : i.toNat = j
    · rw [if_pos e, if_pos ⟨hb.1, by omega, by omega, h1⟩]
    · rw [if_neg e, if_neg (by omega)]
  · simp only [if_neg hb]
    rw [if_neg]
    rintro ⟨a1, a2, a3, a4⟩
    exact hb ⟨a1, by omega, by omega⟩
theorem wrap_succ {i : Int} (hi : i64 i) : i64 (IntKind.i64.wrap (i + 1)) := by
  obtain ⟨h0, h1⟩ := hi
  by_cases h : i < 9223372036854775807
  · rw [IntWalk.i64_in (i + 1) (by omega)]
    constructor <;> omega
  · obtain rfl : i = 9223372036854775807 := by omega
    decide
theorem below_own {base : Nat} {w u u' : World} {v : Value} {e : TypeId} {size n : Nat} {xs : List Value} (h : Below base w u) (ho : u.ownsRow base e size v n xs) (hg : u.grownBy u' v.ownBlock) (hb : base ≤ w.heap.size) : Below base w u' :=
  h.trans ⟨hg.os, hg.tape, hg.output, hg.size, fun k hk => hg.block k (Nat.lt_of_lt_of_le (Nat.lt_of_lt_of_le hk hb) h.size) (fun e' => by have := (ho.lt k e'.symm).1; omega)⟩
theorem grow_trans {a b c : World} {row : Option Nat} (h : a.grownBy b row) (k : b.grownBy c row) : a.grownBy c row :=
  ⟨k.os.trans h.os, k.tape.trans h.tape, k.output.trans h.output, Nat.le_trans h.size k.size, fun j hj hne => (k.block j (Nat.lt_of_lt_of_le hj h.size) hne).trans (h.block j hj hne)⟩
theorem grow_refl (a : World) (row : Option Nat) : a.grownBy a row := ⟨rfl, rfl, rfl, Nat.le_refl _, fun _ _ _ => rfl⟩
theorem grow_set (w : World) (b o : Nat) (v : Value) : w.grownBy (w.setCell ⟨b, o, none⟩ v) (some b) :=
  ⟨rfl, rfl, rfl, by simp [World.setCell], fun k _ hne => Below.heap_setCell w ⟨b, o, none⟩ v k (fun e => hne (by simp [e]))⟩
/-- A cell of a block that isn't the row's own. -/
theorem grow_cell {w u u' : World} {base : Nat} {v : Value} {e : TypeId} {size n : Nat} {xs : List Value} (hg : u.grownBy u' v.ownBlock) (ho : w.ownsRow base e size v n xs) {b o : Nat} {x : Value} (h : u.cell? ⟨b, o, none⟩ = some x) (hb : b < base ∨ w.heap.size ≤ b) : u'.cell? ⟨b, o, none⟩ = some x :=
  hg.cell (a := ⟨b, o, none⟩) h (fun e' => by have := ho.lt b e'.symm; omega)
theorem chain_own {w a b : World} (h : Below w.heap.size w a) (k : Below w.heap.size a b) : Below w.heap.size w b := h.trans k
/-- The cells of runs' slice, one behind the other. -/
theorem RunsAt.news {w : World} {v : Value} {l : List Run} (h : RunsAt w v l) : ∃ p cap, v = .slice p l.length cap ∧ (0 < l.length → ∃ g off, p = some ⟨g, off, none⟩ ∧ g < w.heap.size ∧ ∀ j u, (runVs l)[j]? = some u → w.cell? ⟨g, off + j, none⟩ = some u) := by
  obtain ⟨p, cap, e, hf⟩ := h.form
  refine ⟨p, cap, e, fun h0 => ?_⟩
  obtain ⟨g, off, e2, _, hg, hx⟩ := hf h0
  refine ⟨g, off, e2, hg, fun j u hu => ?_⟩
  have hlt : j < l.length * 2 := by
    have := (List.getElem?_eq_some_iff.1 hu).1
    rwa [runVs_length] at this
  have hk : j / 2 < l.length := by omega
  obtain ⟨h1, h2⟩ := runVs_at l (j / 2) hk
  obtain ⟨c1, c2⟩ := hx (j / 2) hk
  rcases Nat.mod_two_eq_zero_or_one j with e | e
  · rw [show j / 2 * 2 = j by omega, hu] at h1
    rw [show off + j / 2 * 2 = off + j by omega] at c1
    rw [c1, Option.some.inj h1]
  · rw [show j / 2 * 2 + 1 = j by omega, hu] at h2
    rw [show off + j / 2 * 2 + 1 = off + j by omega] at c2
    rw [c2, Option.some.inj h2]
theorem runVs_one (l : List Run) : ∀ u ∈ runVs l, u.oneCell' = true := fun u hu => by
  obtain ⟨r, _, h⟩ := List.mem_flatMap.1 hu
  simp at h
  rcases h with rfl | rfl <;> rfl
theorem rep_at (D : List Int) (m n : Nat) (b : Int) (R : List Int) (h : m < n) : ∃ h : D.length + m < (D ++ List.replicate n b ++ R).length, (D ++ List.replicate n b ++ R)[D.length + m] = b := by
  refine ⟨by simp; omega, ?_⟩
  rw [List.getElem_append_left (by simp; omega), List.getElem_append_right (by omega)]
  simp
/-- Where an append's row lies: where it lay, or in a new block. -/
theorem run_append_fresh {P : Program} (w : World) (base : Nat) (t ty e : TypeId) (i : TypeInfo) (z : Value) (ht : P.underlying t = some (.slice e)) (hi : P.info? e = some i) (hz : i.zero = some z)
    (v : Value) (n : Nat) (xs : List Value) (hown : w.ownsRow base e i.size v n xs) (a : Addr) (m c : Nat) (news : List Value) (hl : news.length = m * i.size) (hnews : ∀ j u, news[j]? = some u → w.cell? (a.add j) = some u) (h1 : ∀ u ∈ news, u.oneCell' = true)
    (h63 : n + m ≤ maxLen) (hbytes : (n + m) * i.bytes ≤ 140737488355328) (hm : 0 < m) :
    ∃ v' w', (Builtin.append_ #[t, t] ty #[v, .slice (some a) m c]).run P w = .ok v' w' ∧ (v'.ownBlock = v.ownBlock ∨ v'.ownBlock = some w.heap.size) := by
  have hsmall : n + m ≤ 9223372036854775807 := by simp only [maxLen] at h63; omega
  rcases hown.2 with ⟨rfl, rfl⟩ | ⟨g, cap, cur, rfl, hbg, hg, hnc, hcm, hcs, htake⟩
  · exact ⟨_, _, run_append_nil (P := P) w t ty e i z ht hi hz a m c news hl hnews hm (by omega) (by rw [Nat.zero_add] at hbytes; omega), .inr rfl⟩
  · by_cases hroom : n + m ≤ cap
    · exact ⟨_, _, run_append_room (P := P) w t ty e i ht hi g n cap cur hg a m c news hl hnews h1 hroom (by rw [hl, hcs, ← Nat.add_mul]; exact Nat.mul_le_mul_right _ hroom), .inl rfl⟩
    · exact ⟨_, _, run_append_grow (P := P) w t ty e i z ht hi hz ⟨g, 0, none⟩ n cap xs hown.1 (hown.cells (g := g) rfl) a m c news hl hnews (by omega) (by omega) (growslice_fits (by omega) hbytes), .inr rfl⟩
/-- One run more at the end of a row that is owned, and where the row lies then. -/
theorem app_run_fresh {P : Program} {ops : Array Oper} {rest : List Oper} {o : Oper} {a : Act} {Q : Exit → Act → World → Prop} (w : World) (hgd : o.guard = none) (s x : Operand) (t : TypeId) (ho : o.op = .call { callee := .builtin .append, args := #[s, x], argTypes := #[t, t] }) (base : Nat) (e : TypeId) (i : TypeInfo) (z : Value)
    (ht : P.underlying t = some (.slice e)) (hi : P.info? e = some i) (hz : i.zero = some z) (hsize : i.size = 2) (hby : i.bytes = 16) (hzs : z.cells.size = 2)
    (v : Value) (n : Nat) (xs : List Value) (hs : a.eval s = v) (hown : w.ownsRow base e 2 v n xs) (g : Nat) (c d : Value) (hx : a.eval x = .slice (some ⟨g, 0, none⟩) 1 1) (hc : w.cell? ⟨g, 0, none⟩ = some c) (hd : w.cell? ⟨g, 1, none⟩ = some d)
    (h1 : c.oneCell' = true) (h2 : d.oneCell' = true) (hN : n ≤ 1000000) (hbase : base ≤ w.heap.size)
    (h : ∀ v' w', w'.ownsRow base e 2 v' (n + 1) (xs ++ [c, d]) → w.grownBy w' v.ownBlock → (v'.ownBlock = v.ownBlock ∨ v'.ownBlock = some w.heap.size) → wpList P ops Q rest (a.put o.dst v') w') : wpList P ops Q (o :: rest) a w :=
  wpList_plain hgd fun K hK => by
    have hnews : ∀ j u, [c, d][j]? = some u → w.cell? ((⟨g, 0, none⟩ : Addr).add j) = some u := fun j u hu => by
      match j, hu with
      | 0, hu => simp at hu; subst hu; simpa [Addr.add] using hc
      | 1, hu => simp at hu; subst hu; simpa [Addr.add] using hd
      | j + 2, hu => simp at hu
    have h12 : ∀ u ∈ [c, d], u.oneCell' = true := fun u hu => by
      simp at hu
      rcases hu with rfl | rfl
      · exact h1
      · exact h2
    obtain ⟨v', w', hr, k2, k3, _⟩ := run_append_own (P := P) w base t o.type e i z 2 16 ht hi hz hsize hby hzs (by omega) v n xs hown ⟨g, 0, none⟩ 1 1 [c, d] rfl hnews h12 (by simp only [maxLen]; omega) (by omega) hbase
    obtain ⟨v2, w2, hr2, k5⟩ := run_append_fresh (P := P) w base t o.type e i z ht hi hz v n xs (by rw [hsize]; exact hown) ⟨g, 0, none⟩ 1 1 [c, d] (by rw [hsize]; rfl) hnews h12 (by simp only [maxLen]; omega) (by rw [hby]; omega) (by omega)
    rw [hr] at hr2
    cases hr2
    unfold Oper.wp execOp
    simp only [ho, resolve, invoke, builtin, Sem.run_bind, Sem.run_pure, Result.andThen_ok, List.map_toArray, List.map_cons, List.map_nil, hs, hx, hr]
    exact hK _ _ (h v' w' k2 k3 k5)
theorem runs_grow {u u' : World} {v : Value} {l : List Run} {row : Option Nat} (h : RunsAt u v l) (hg : u.grownBy u' row) (hne : ∀ q, v.ownBlock = some q → some q ≠ row) : RunsAt u' v l := by
  rcases h with h | ⟨g, off, cap, e, hc, hgg, hx⟩
  · exact .inl h
  · have hn := hne g (by rw [e]; rfl)
    exact .inr ⟨g, off, cap, e, hc, Nat.lt_of_lt_of_le hgg hg.size, fun j hj => ⟨hg.cell (a := ⟨g, _, none⟩) (hx j hj).1 hn, hg.cell (a := ⟨g, _, none⟩) (hx j hj).2 hn⟩⟩
end Go.Proofs.YtafmekojdaeliaaDoor
