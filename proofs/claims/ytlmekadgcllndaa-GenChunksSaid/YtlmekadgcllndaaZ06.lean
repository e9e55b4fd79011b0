/- Texts behind each other. -/
import Derived.Test.YtlmekadgcllndaaZ03
import Derived.Test.YtlmekadgcllndaaZ05
import Derived.Test.YtlmekadgcllndaaZ04
import Derived.Laws.AppendOwnNone
import Derived.Lib.Walk
import Derived.Lib.SliceRun
/- Where an append's row lies. No program. -/
set_option linter.unusedVariables false
set_option linter.unusedSimpArgs false
namespace Go.Proofs.Ytlmekadgcllndaa
open Go Go.RowKit
/-- Where an append's row lies: where it lay, or in a new block. -/
theorem run_append_fresh {P : Program} (w : World) (base : Nat) (t ty e : TypeId) (i : TypeInfo) (z : Value) (ht : P.underlying t = some (.slice e)) (hi : P.info? e = some i) (hz : i.zero = some z)
    (v : Value) (n : Nat) (xs : List Value) (hown : w.ownsRow base e i.size v n xs) (a : Addr) (m c : Nat) (news : List Value) (hl : news.length = m * i.size) (hnews : ∀ j u, news[j]? = some u → w.cell? (a.add j) = some u) (h1 : ∀ u ∈ news, u.oneCell' = true)
    (h63 : n + m ≤ maxLen) (hbytes : (n + m) * i.bytes ≤ 140737488355328) (hm : 0 < m) :
    ∃ v' w', (Builtin.append_ #[t, t] ty #[v, .slice (some a) m c]).run P w = .ok v' w' ∧ (v'.ownBlock = v.ownBlock ∨ v'.ownBlock = some w.heap.size) := by
  have hsmall : n + m ≤ 9223372036854775807 := by simp only [maxLen] at h63; omega
  rcases hown.2 with ⟨rfl, rfl⟩ | ⟨g, cap, cur, rfl, hbg, hg, hnc, hcm, hcs, htake⟩
  · exact ⟨_, _, run_append_nil (P := P) w t ty e i z ht hi hz a m c news hl hnews hm (by omega) (by rw [Nat.zero_add] at hbytes; omega), .inr rfl⟩
  · by_cases hroom : n + m ≤ cap
    · exact ⟨_, _, run_append_room (P := P) w t ty e i ht hi g n cap cur hg a m c news hl hnews h1 hroom (by rw [hl, hcs, ← Nat.add_mul]; exact Nat.mul_le_mul_right _ hroom), .inl rfl⟩
    · exact ⟨_, _, run_append_grow (P := P) w t ty e i z ht hi hz ⟨g, 0, none⟩ n cap xs hown.1 (hown.cells (g := g) rfl) a m c news hl hnews (by omega) (by omega) (growslice_fits (by omega) hbytes), .inr rfl⟩
end Go.Proofs.Ytlmekadgcllndaa
/- Words of layer 5: so many cells of one block behind runs; pieces of cells. No program. -/
set_option linter.unusedVariables false
namespace Go.Proofs.Ytlmekadgcllndaa
open Go Go.RowKit
/-- Runs with n cells of b behind them. -/
def addF (D : List Run) (n b : Int) : List Run := (List.replicate n.toNat b).foldl stepF D
theorem addF_none {D : List Run} {n : Int} (b : Int) (h : n < 1) : addF D n b = D := by
  unfold addF
  rw [show n.toNat = 0 by omega]
  rfl
theorem addF_nil {n : Int} (b : Int) (h : 1 ≤ n) : addF [] n b = [(n, b)] := by
  unfold addF
  have e : (List.replicate (n.toNat - 1) b).foldl stepF [(1, b)] = [(1 + ((n.toNat - 1 : Nat) : Int), b)] := by simpa using fold_rep b (n.toNat - 1) [] 1
  rw [show n.toNat = (n.toNat - 1) + 1 by omega, List.replicate_succ, List.foldl_cons, stepF_nil, e, show (1 : Int) + ((n.toNat - 1 : Nat) : Int) = n by omega]
theorem addF_same {D : List Run} {r n : Int} (b : Int) (h : 1 ≤ n) : addF (D ++ [(r, b)]) n b = D ++ [(r + n, b)] := by
  unfold addF
  rw [fold_rep, show (n.toNat : Int) = n by omega]
theorem addF_other {D : List Run} {r n b c : Int} (h : 1 ≤ n) (hne : c ≠ b) : addF (D ++ [(r, c)]) n b = D ++ [(r, c)] ++ [(n, b)] := by
  unfold addF
  rw [show n.toNat = (n.toNat - 1) + 1 by omega, List.replicate_succ, List.foldl_cons, stepF_other _ _ _ _ hne, fold_rep, show (1 : Int) + ((n.toNat - 1 : Nat) : Int) = n by omega]
theorem addF_of (C : List Int) (n b : Int) : addF (ofF C) n b = ofF (C ++ List.replicate n.toNat b) := by
  unfold addF ofF
  rw [List.foldl_append]
theorem makeF_add (n b : Int) : addF [] n b = makeF n b := by
  unfold makeF
  by_cases h : n < 1
  · rw [if_pos h, addF_none b h]
  · rw [if_neg h, addF_nil b (by omega)]
theorem ofF_last {X : List Int} {D : List Run} {r c : Int} (h : ofF X = D ++ [(r, c)]) : 1 ≤ r ∧ r ≤ X.length ∧ c ∈ X := by
  rcases Nat.eq_zero_or_pos X.length with h0 | h0
  · rw [List.length_eq_zero_iff.1 h0] at h
    simp [ofF] at h
  · obtain ⟨D', r', e, h1, h2, _⟩ := ofF_form X (X.length - 1) (by omega)
    rw [show X.length - 1 + 1 = X.length by omega, List.take_length, h] at e
    have := congrArg List.getLast? e
    simp only [List.getLast?_append, List.getLast?_singleton, Option.some_or, Option.some.injEq, Prod.mk.injEq] at this
    obtain ⟨rfl, rfl⟩ := this
    exact ⟨h1, by omega, by rw [getElem!_pos X (X.length - 1) (by omega)]; exact List.getElem_mem _⟩
/-- What 'add' asks of the runs that it is handed, of cells' runs. -/
theorem last_ok {X : List Int} (hX : X.length ≤ 200000) {n : Int} (h0 : -300000 ≤ n) (h1 : n ≤ 300000) : ∀ D r c, ofF X = D ++ [(r, c)] → i64 r ∧ i64 (r + n) := fun D r c h => by
  obtain ⟨a, b, d⟩ := ofF_last h
  exact ⟨by constructor <;> omega, by constructor <;> omega⟩
theorem may_i64 {X : List Int} (h : ∀ c ∈ X, mayB c = true) : ∀ c ∈ X, i64 c := fun c hc => by
  have := mayB_bd (h c hc)
  constructor <;> omega
/-- The cells of some places. -/
def cutC (C : List Int) (f t : Int) : List Int := (C.take t.toNat).drop f.toNat
theorem cutC_rep (P : List Int) (m : Nat) (b f t : Int) : cutC (P ++ List.replicate m b) f t = cutC P f t ++ List.replicate (min t ((P.length : Int) + m) - max f (P.length : Int)).toNat b := by
  unfold cutC
  rw [List.take_append, List.drop_append, List.take_replicate, List.drop_replicate, List.length_take]
  congr 2
  omega
theorem cutC_len (C : List Int) (f t : Int) : (cutC C f t).length ≤ C.length := by
  unfold cutC
  simp only [List.length_drop, List.length_take]
  omega
theorem cutC_mem {C : List Int} {f t : Int} : ∀ c ∈ cutC C f t, c ∈ C := fun c h => List.mem_of_mem_take (List.mem_of_mem_drop h)
theorem okC_cut {C : List Int} (hC : okC C) (f t : Int) : okC (cutC C f t) := ⟨fun c h => hC.1 c (cutC_mem c h), Nat.le_trans (cutC_len C f t) hC.2⟩
theorem cutC_low (C : List Int) (t : Int) : cutC C 0 t = C.take t.toNat := by unfold cutC; simp
theorem cutC_high (C : List Int) (f : Int) : cutC C f C.length = C.drop f.toNat := by unfold cutC; simp
theorem fillF_at (C : List Int) (f t b : Int) (k j : Nat) (h : j < (fillF C f t b k).length) : (fillF C f t b k)[j] = if mayB b = true ∧ f ≤ j ∧ (j : Int) < t ∧ j < k then b else C[j]'(by rwa [fillF_length] at h) := by simp only [fillF, List.getElem_mapIdx]
/-- Pieces side by side, the middle one filled. -/
theorem fillF_pieces (C : List Int) (f0 t0 f t b : Int) (hb : mayB b = true) (hf : f = max f0 0) (ht : t = min t0 C.length) (h : f < t) : C.take f.toNat ++ List.replicate (t - f).toNat b ++ C.drop t.toNat = fillF C f0 t0 b C.length := by
  have hl : (C.take f.toNat).length = f.toNat := by rw [List.length_take]; omega
  apply List.ext_getElem
  · rw [fillF_length]; simp only [List.length_append, List.length_take, List.length_replicate, List.length_drop]; omega
  · intro j h1 h2
    rw [fillF_at]
    rw [fillF_length] at h2
    by_cases a : j < f.toNat
    · rw [List.getElem_append_left (by simp; omega), List.getElem_append_left (by omega), List.getElem_take, if_neg (by omega)]
    · by_cases c : j < t.toNat
      · rw [List.getElem_append_left (by simp; omega), List.getElem_append_right (by omega), List.getElem_replicate, if_pos ⟨hb, by omega, by omega, by omega⟩]
      · rw [List.getElem_append_right (by simp; omega), List.getElem_drop, if_neg (by omega)]
        congr 1
        simp only [List.length_append, List.length_take, List.length_replicate]
        omega
theorem fillF_none (C : List Int) (f0 t0 f t b : Int) (hf : f = max f0 0) (ht : t = min t0 C.length) (h : ¬ (f < t ∧ mayB b = true)) : fillF C f0 t0 b C.length = C := by
  apply List.ext_getElem (fillF_length _ _ _ _ _)
  intro j h1 h2
  rw [fillF_at, if_neg]
  rintro ⟨h3, h4, h5, h6⟩
  exact h ⟨by omega, h3⟩
theorem setF_fill (C : List Int) (hC : C.length ≤ 100000) (i b : Int) (hi : i64 i) : fillF C i (IntKind.i64.wrap (i + 1)) b C.length = setF C i b := by
  obtain ⟨hi0, hi1⟩ := hi
  have key : ∀ i' : Int, i' = IntKind.i64.wrap (i + 1) → (i' = i + 1 ∨ (i' < i ∧ i ≥ 9223372036854775807)) := fun i' e => by
    by_cases h : i < 9223372036854775807
    · rw [IntWalk.i64_in (i + 1) (by omega)] at e
      exact .inl e
    · obtain rfl : i = 9223372036854775807 := by omega
      rw [show IntKind.i64.wrap (9223372036854775807 + 1) = -9223372036854775808 from by decide] at e
      exact .inr (by omega)
  have key := key _ rfl
  generalize IntKind.i64.wrap (i + 1) = i' at *
  apply List.ext_getElem (by rw [fillF_length, setF_len])
  intro j h1 h2
  rw [fillF_at]
  rw [fillF_length] at h1
  unfold setF
  by_cases hb : mayB b = true ∧ 0 ≤ i ∧ i < C.length
  · simp only [if_pos hb, List.getElem_set]
    by_cases e : i.toNat = j
    · rw [if_pos e, if_pos ⟨hb.1, by omega, by omega, h1⟩]
    · rw [if_neg e, if_neg (by omega)]
  · simp only [if_neg hb]
    rw [if_neg]
    rintro ⟨a1, a2, a3, a4⟩
    exact hb ⟨a1, by omega, by omega⟩
theorem wrap_succ {i : Int} (hi : i64 i) : i64 (IntKind.i64.wrap (i + 1)) := by
  obtain ⟨h0, h1⟩ := hi
  by_cases h : i < 9223372036854775807
  · rw [IntWalk.i64_in (i + 1) (by omega)]
    constructor <;> omega
  · obtain rfl : i = 9223372036854775807 := by omega
    decide
theorem below_own {base : Nat} {w u u' : World} {v : Value} {e : TypeId} {size n : Nat} {xs : List Value} (h : Below base w u) (ho : u.ownsRow base e size v n xs) (hg : u.grownBy u' v.ownBlock) (hb : base ≤ w.heap.size) : Below base w u' :=
  h.trans ⟨hg.os, hg.tape, hg.output, hg.size, fun k hk => hg.block k (Nat.lt_of_lt_of_le (Nat.lt_of_lt_of_le hk hb) h.size) (fun e' => by have := (ho.lt k e'.symm).1; omega)⟩
theorem grow_trans {a b c : World} {row : Option Nat} (h : a.grownBy b row) (k : b.grownBy c row) : a.grownBy c row :=
  ⟨k.os.trans h.os, k.tape.trans h.tape, k.output.trans h.output, Nat.le_trans h.size k.size, fun j hj hne => (k.block j (Nat.lt_of_lt_of_le hj h.size) hne).trans (h.block j hj hne)⟩
theorem grow_refl (a : World) (row : Option Nat) : a.grownBy a row := ⟨rfl, rfl, rfl, Nat.le_refl _, fun _ _ _ => rfl⟩
theorem grow_set (w : World) (b o : Nat) (v : Value) : w.grownBy (w.setCell ⟨b, o, none⟩ v) (some b) :=
  ⟨rfl, rfl, rfl, by simp [World.setCell], fun k _ hne => Below.heap_setCell w ⟨b, o, none⟩ v k (fun e => hne (by simp [e]))⟩
/-- A cell of a block that isn't the row's own. -/
theorem grow_cell {w u u' : World} {base : Nat} {v : Value} {e : TypeId} {size n : Nat} {xs : List Value} (hg : u.grownBy u' v.ownBlock) (ho : w.ownsRow base e size v n xs) {b o : Nat} {x : Value} (h : u.cell? ⟨b, o, none⟩ = some x) (hb : b < base ∨ w.heap.size ≤ b) : u'.cell? ⟨b, o, none⟩ = some x :=
  hg.cell (a := ⟨b, o, none⟩) h (fun e' => by have := ho.lt b e'.symm; omega)
theorem chain_own {w a b : World} (h : Below w.heap.size w a) (k : Below w.heap.size a b) : Below w.heap.size w b := h.trans k
/-- The cells of runs' slice, one behind the other. -/
theorem RunsAt.news {w : World} {v : Value} {l : List Run} (h : RunsAt w v l) : ∃ p cap, v = .slice p l.length cap ∧ (0 < l.length → ∃ g off, p = some ⟨g, off, none⟩ ∧ g < w.heap.size ∧ ∀ j u, (runVs l)[j]? = some u → w.cell? ⟨g, off + j, none⟩ = some u) := by
  obtain ⟨p, cap, e, hf⟩ := h.form
  refine ⟨p, cap, e, fun h0 => ?_⟩
  obtain ⟨g, off, e2, _, hg, hx⟩ := hf h0
  refine ⟨g, off, e2, hg, fun j u hu => ?_⟩
  have hlt : j < l.length * 2 := by
    have := (List.getElem?_eq_some_iff.1 hu).1
    rwa [runVs_length] at this
  have hk : j / 2 < l.length := by omega
  obtain ⟨h1, h2⟩ := runVs_at l (j / 2) hk
  obtain ⟨c1, c2⟩ := hx (j / 2) hk
  rcases Nat.mod_two_eq_zero_or_one j with e | e
  · rw [show j / 2 * 2 = j by omega, hu] at h1
    rw [show off + j / 2 * 2 = off + j by omega] at c1
    rw [c1, Option.some.inj h1]
  · rw [show j / 2 * 2 + 1 = j by omega, hu] at h2
    rw [show off + j / 2 * 2 + 1 = off + j by omega] at c2
    rw [c2, Option.some.inj h2]
theorem runVs_one (l : List Run) : ∀ u ∈ runVs l, u.oneCell' = true := fun u hu => by
  obtain ⟨r, _, h⟩ := List.mem_flatMap.1 hu
  simp at h
  rcases h with rfl | rfl <;> rfl
theorem rep_at (D : List Int) (m n : Nat) (b : Int) (R : List Int) (h : m < n) : ∃ h : D.length + m < (D ++ List.replicate n b ++ R).length, (D ++ List.replicate n b ++ R)[D.length + m] = b := by
  refine ⟨by simp; omega, ?_⟩
  rw [List.getElem_append_left (by simp; omega), List.getElem_append_right (by omega)]
  simp
/-- One run more at the end of a row that is owned, and where the row lies then. -/
theorem app_run_fresh {P : Program} {ops : Array Oper} {rest : List Oper} {o : Oper} {a : Act} {Q : Exit → Act → World → Prop} (w : World) (hgd : o.guard = none) (s x : Operand) (t : TypeId) (ho : o.op = .call { callee := .builtin .append, args := #[s, x], argTypes := #[t, t] }) (base : Nat) (e : TypeId) (i : TypeInfo) (z : Value)
    (ht : P.underlying t = some (.slice e)) (hi : P.info? e = some i) (hz : i.zero = some z) (hsize : i.size = 2) (hby : i.bytes = 16) (hzs : z.cells.size = 2)
    (v : Value) (n : Nat) (xs : List Value) (hs : a.eval s = v) (hown : w.ownsRow base e 2 v n xs) (g : Nat) (c d : Value) (hx : a.eval x = .slice (some ⟨g, 0, none⟩) 1 1) (hc : w.cell? ⟨g, 0, none⟩ = some c) (hd : w.cell? ⟨g, 1, none⟩ = some d)
    (h1 : c.oneCell' = true) (h2 : d.oneCell' = true) (hN : n ≤ 1000000) (hbase : base ≤ w.heap.size)
    (h : ∀ v' w', w'.ownsRow base e 2 v' (n + 1) (xs ++ [c, d]) → w.grownBy w' v.ownBlock → (v'.ownBlock = v.ownBlock ∨ v'.ownBlock = some w.heap.size) → wpList P ops Q rest (a.put o.dst v') w') : wpList P ops Q (o :: rest) a w :=
  wpList_plain hgd fun K hK => by
    have hnews : ∀ j u, [c, d][j]? = some u → w.cell? ((⟨g, 0, none⟩ : Addr).add j) = some u := fun j u hu => by
      match j, hu with
      | 0, hu => simp at hu; subst hu; simpa [Addr.add] using hc
      | 1, hu => simp at hu; subst hu; simpa [Addr.add] using hd
      | j + 2, hu => simp at hu
    have h12 : ∀ u ∈ [c, d], u.oneCell' = true := fun u hu => by
      simp at hu
      rcases hu with rfl | rfl
      · exact h1
      · exact h2
    obtain ⟨v', w', hr, k2, k3, _⟩ := run_append_own (P := P) w base t o.type e i z 2 16 ht hi hz hsize hby hzs (by omega) v n xs hown ⟨g, 0, none⟩ 1 1 [c, d] rfl hnews h12 (by simp only [maxLen]; omega) (by omega) hbase
    obtain ⟨v2, w2, hr2, k5⟩ := run_append_fresh (P := P) w base t o.type e i z ht hi hz v n xs (by rw [hsize]; exact hown) ⟨g, 0, none⟩ 1 1 [c, d] (by rw [hsize]; rfl) hnews h12 (by simp only [maxLen]; omega) (by rw [hby]; omega) (by omega)
    rw [hr] at hr2
    cases hr2
    unfold Oper.wp execOp
    simp only [ho, resolve, invoke, builtin, Sem.run_bind, Sem.run_pure, Result.andThen_ok, List.map_toArray, List.map_cons, List.map_nil, hs, hx, hr]
    exact hK _ _ (h v' w' k2 k3 k5)
theorem runs_grow {u u' : World} {v : Value} {l : List Run} {row : Option Nat} (h : RunsAt u v l) (hg : u.grownBy u' row) (hne : ∀ q, v.ownBlock = some q → some q ≠ row) : RunsAt u' v l := by
  rcases h with h | ⟨g, off, cap, e, hc, hgg, hx⟩
  · exact .inl h
  · have hn := hne g (by rw [e]; rfl)
    exact .inr ⟨g, off, cap, e, hc, Nat.lt_of_lt_of_le hgg hg.size, fun j hj => ⟨hg.cell (a := ⟨g, _, none⟩) (hx j hj).1 hn, hg.cell (a := ⟨g, _, none⟩) (hx j hj).2 hn⟩⟩
end Go.Proofs.Ytlmekadgcllndaa
/- Contracts of layer 5's reference (runs): Same, SameCells. -/
set_option linter.unusedVariables false
set_option linter.unusedSimpArgs false
namespace Go.Proofs.Ytlmekadgcllndaa
open Go.ChangeShapes Go.WideShapes Go.ChangeAt Go.RowKit
def eqrB (x z x' z' : Int) : Bool := decide (x = x' ∧ z = z')
theorem neR_run (x z x' z' : Int) (w : World) : (binOp .neq 45 (.agg #[.int .i64 x, .int .i64 z]) (.agg #[.int .i64 x', .int .i64 z'])).run Try.prog w = .ok (.bool (!eqrB x z x' z')) w := by
  unfold eqrB
  by_cases h1 : x = x' <;> by_cases h3 : z = z' <;> simp [go_sem, h1, h3]
set_option maxRecDepth 10000 in
set_option maxHeartbeats 4000000 in
theorem r5_same (va vb : Value) (a b : List Run) (w : World) (ha : RunsAt w va a) (hb : RunsAt w vb b) (hL : a.length ≤ 100000000) : Calls Try.prog 7 #[va, vb] w fun e w' =>
    e = .returned (.bool (decide (a = b))) ∧ Below w.heap.size w w' := by
  obtain ⟨pa, ca, rfl, fa⟩ := ha.form
  obtain ⟨pb, cb, rfl, fb⟩ := hb.form
  clear ha hb
  by_cases hlen : a.length = b.length
  · obtain ⟨N, hN⟩ : ∃ N, a.length = N := ⟨_, rfl⟩
    have hM : b.length = N := by omega
    have HN := Lib.hid hN
    have HM := Lib.hid hM
    have FA := Lib.hid fa
    have FB := Lib.hid fb
    rw [hN] at hL
    rw [hN, hM]
    clear hN hM fa fb hlen
    go_enter Try.func7, Try.ntmps7
    go_wp2_with fail
    go_loopw [5] (fun i wr => ∃ k : Nat, k ≤ N ∧ i = .int .i64 k ∧ (∀ j (h1 : j < a.length) (h2 : j < b.length), j < k → a[j] = b[j]) ∧ Below w.heap.size w wr) (fun i _ => N - (intOf i).toNat)
    case atStart => exact ⟨0, by omega, rfl, fun j _ _ h => absurd h (by omega), by (repeat (first | with_reducible assumption | with_reducible exact Below.refl _ _ | with_reducible refine Below.drew ?_ | with_reducible refine below_drewN ?_ _ | with_reducible refine al ?_ _ | (with_reducible refine sc ?_ ?_; (focus (first | omega | (simp; done) | (simp; omega)))) | (with_reducible refine chain ?_ (by assumption))))⟩
    case round =>
      obtain ⟨k, hk, rfl, hs, kw⟩ := hrel
      have HS := Lib.hid hs
      clear hs
      by_cases hlt : k < N
      · obtain ⟨g, off, rfl, hc, hg, hx⟩ := FA.out (by rw [HN.out]; omega)
        obtain ⟨g', off', rfl, hc', hg', hx'⟩ := FB.out (by rw [HM.out]; omega)
        rw [HN.out] at hc
        rw [HM.out] at hc'
        have h1 := keepc kw hg (hx k (by rw [HN.out]; exact hlt)).1
        have h3 := keepc kw hg (hx k (by rw [HN.out]; exact hlt)).2
        have h2 := keepc kw hg' (hx' k (by rw [HM.out]; exact hlt)).1
        have h4 := keepc kw hg' (hx' k (by rw [HM.out]; exact hlt)).2
        have z1 : g < wr.heap.size := Nat.lt_of_lt_of_le hg kw.size
        have z2 : g' < wr.heap.size := Nat.lt_of_lt_of_le hg' kw.size
        clear hx hx'
        obtain ⟨⟨x, x2⟩, hx⟩ : ∃ x, a[k]'(by rw [HN.out]; exact hlt) = x := ⟨_, rfl⟩
        obtain ⟨⟨y, y2⟩, hy⟩ : ∃ x, b[k]'(by rw [HM.out]; exact hlt) = x := ⟨_, rfl⟩
        rw [hx] at h1 h3
        rw [hy] at h2 h4
        simp only [] at h1 h2 h3 h4
        have q7 := neR_run
        have bk : (k : Int) < N := by omega
        have HXX := Lib.hid hx
        have HYY := Lib.hid hy
        clear hx hy
        obtain ⟨q, hq⟩ : ∃ q, eqrB x x2 y y2 = q := ⟨_, rfl⟩
        cases q
        rotate_left 1
        · have hxy : (x, x2) = (y, y2) := by unfold eqrB at hq; simpa using hq
          go_wp2_with fail
          refine region_below 8 (by kernel_rfl) (by kernel_rfl) ?_
          simp only [List.take_succ_cons, List.take_zero, List.drop_succ_cons, List.drop_zero]
          repeat (first | (refine' InText.skip (by rfl) ?_; simp only [Act.put, List.setIfInBounds_toArray, List.set_cons_zero, List.set_cons_succ]) | (refine' InText.val (by rfl) (fun wr hr => ?_) ?_; rotate_left 1; (focus (obtain ⟨hrc, hrf⟩ := bcell hr; (go_simp <;> with_reducible rfl); done)); simp only [Act.put, List.setIfInBounds_toArray, List.set_cons_zero, List.set_cons_succ]))
          refine fun wrs hrs => ?_
          obtain ⟨hrcs, hrfs⟩ := bcell hrs
          have ks : Below w.heap.size w wrs := chain kw hrs
          clear hrs hrcs hrfs
          go_wp2_with fail
          go_roundw
          case rel =>
            exact ⟨k + 1, by omega, by go_num, fun j h5 h6 hj => by
              by_cases e : j = k
              · subst e; rw [HXX.out, HYY.out]; exact hxy
              · exact HS.out j h5 h6 (by omega), ks⟩
          case measure => simp [intOf]; omega
        · have hxy : (x, x2) ≠ (y, y2) := by unfold eqrB at hq; simpa using hq
          have e : decide (a = b) = false := list_other k (by rw [HN.out]; exact hlt) (by rw [HM.out]; exact hlt) (by rw [HXX.out, HYY.out]; exact hxy)
          have E := Lib.hid e
          clear e hxy
          go_wp2_with fail
          refine region_below 8 (by kernel_rfl) (by kernel_rfl) ?_
          simp only [List.take_succ_cons, List.take_zero, List.drop_succ_cons, List.drop_zero]
          repeat (first | (refine' InText.skip (by rfl) ?_; simp only [Act.put, List.setIfInBounds_toArray, List.set_cons_zero, List.set_cons_succ]) | (refine' InText.val (by rfl) (fun wr hr => ?_) ?_; rotate_left 1; (focus (obtain ⟨hrc, hrf⟩ := bcell hr; (go_simp <;> with_reducible rfl); done)); simp only [Act.put, List.setIfInBounds_toArray, List.set_cons_zero, List.set_cons_succ]))
          refine fun wrs hrs => ?_
          obtain ⟨hrcs, hrfs⟩ := bcell hrs
          have ks : Below w.heap.size w wrs := chain kw hrs
          clear hrs hrcs hrfs
          go_wp2_with fail
          go_ret
          exact ⟨by rw [E.out]; rfl, by (repeat (first | with_reducible assumption | with_reducible exact Below.refl _ _ | with_reducible refine Below.drew ?_ | with_reducible refine below_drewN ?_ _ | with_reducible refine al ?_ _ | (with_reducible refine sc ?_ ?_; (focus (first | omega | (simp; done) | (simp; omega)))) | (with_reducible refine chain ?_ (by assumption))))⟩
      · obtain rfl : k = N := by omega
        have e : decide (a = b) = true := list_same (by rw [HN.out, HM.out]) (fun j h1 h2 => HS.out j h1 h2 (by rw [← HN.out]; exact h1))
        have E := Lib.hid e
        clear e
        go_wp2_with fail
        go_ret
        exact ⟨by rw [E.out]; rfl, by (repeat (first | with_reducible assumption | with_reducible exact Below.refl _ _ | with_reducible refine Below.drew ?_ | with_reducible refine below_drewN ?_ _ | with_reducible refine al ?_ _ | (with_reducible refine sc ?_ ?_; (focus (first | omega | (simp; done) | (simp; omega)))) | (with_reducible refine chain ?_ (by assumption))))⟩
  · have e : decide (a = b) = false := by
      simp only [decide_eq_false_iff_not]
      intro e
      subst e
      exact hlen rfl
    have E := Lib.hid e
    obtain ⟨N, hN⟩ : ∃ N, a.length = N := ⟨_, rfl⟩
    obtain ⟨M, hM⟩ : ∃ N, b.length = N := ⟨_, rfl⟩
    rw [hN, hM] at hlen
    rw [hN, hM]
    have hne : ((N : Int) != M) = true := by simp; omega
    clear e fa fb hN hM hL
    go_enter Try.func7, Try.ntmps7
    go_wp2_with fail
    go_ret
    exact ⟨by rw [E.out]; rfl, by (repeat (first | with_reducible assumption | with_reducible exact Below.refl _ _ | with_reducible refine Below.drew ?_ | with_reducible refine below_drewN ?_ _ | with_reducible refine al ?_ _ | (with_reducible refine sc ?_ ?_; (focus (first | omega | (simp; done) | (simp; omega)))) | (with_reducible refine chain ?_ (by assumption))))⟩
end Go.Proofs.Ytlmekadgcllndaa
/- Contracts of layer 4's reference (blocks): Parse. -/
set_option linter.unusedVariables false
set_option linter.unusedSimpArgs false
namespace Go.Proofs.Ytlmekadgcllndaa
open Go.ChangeShapes Go.WideShapes Go.ChangeAt Go.RowKit
/-- Is it that block's name? -/
def isB (s : ByteArray) (k : Nat) : Bool := mayB k && ((nameF k).toList == s.toList)
def parseF (s : ByteArray) : Option Nat := (List.range 16).find? (isB s)
def parseV (s : ByteArray) : Value := match parseF s with | some k => .tuple #[.int .i64 k, .bool true] | none => .tuple #[.int .i64 0, .bool false]
theorem parse_some {s : ByteArray} {k : Nat} (h : isB s k = true) (hk : k < 16) (hb : ∀ j, j < k → isB s j = false) : parseV s = .tuple #[.int .i64 k, .bool true] := by
  have : parseF s = some k := by
    unfold parseF
    rw [List.find?_range_eq_some]
    exact ⟨h, List.mem_range.2 hk, fun j hj => by simp [hb j hj]⟩
  unfold parseV
  rw [this]
theorem parse_none {s : ByteArray} (hb : ∀ j, j < 16 → isB s j = false) : parseV s = .tuple #[.int .i64 0, .bool false] := by
  have : parseF s = none := by
    unfold parseF
    rw [List.find?_range_eq_none]
    exact fun j hj => by simp [hb j hj]
  unfold parseV
  rw [this]
end Go.Proofs.Ytlmekadgcllndaa
/- Words of layer 4: what names tell. -/
set_option linter.unusedVariables false
set_option linter.unusedSimpArgs false
namespace Go.Proofs.Ytlmekadgcllndaa
open Go.ChangeShapes Go.WideShapes Go.ChangeAt Go.RowKit
def waterF (n : Int) : Int := 8 + min (max n 0) 7
def allL : List Int := [0, 1, 2, 3, 4, 5, 8, 9, 10, 11, 12, 13, 14, 15]
theorem may_cases {b : Int} (h : mayB b = true) : b = 0 ∨ b = 1 ∨ b = 2 ∨ b = 3 ∨ b = 4 ∨ b = 5 ∨ b = 8 ∨ b = 9 ∨ b = 10 ∨ b = 11 ∨ b = 12 ∨ b = 13 ∨ b = 14 ∨ b = 15 := by
  have := mayB_bd h; omega
theorem name_none {b : Int} (h : mayB b = false) : nameF b = ⟨#[]⟩ := by
  unfold mayB at h; unfold nameF
  simp at h
  rw [if_neg (by omega), if_neg (by omega), if_neg (by omega), if_neg (by omega), if_neg (by omega), if_neg (by omega), if_neg (by omega)]
theorem parse_name {b : Int} (h : mayB b = true) : parseV (nameF b) = .tuple #[.int .i64 b, .bool true] := by
  rcases may_cases h with rfl | rfl | rfl | rfl | rfl | rfl | rfl | rfl | rfl | rfl | rfl | rfl | rfl | rfl
  all_goals kernel_rfl
theorem parse_empty : parseV ⟨#[]⟩ = .tuple #[.int .i64 0, .bool false] := by kernel_rfl
theorem parse_odd (b : Int) : parseV (nameF b ++ ⟨#[32]⟩) = .tuple #[.int .i64 0, .bool false] := by
  cases h : mayB b
  · rw [name_none h]; kernel_rfl
  · rcases may_cases h with rfl | rfl | rfl | rfl | rfl | rfl | rfl | rfl | rfl | rfl | rfl | rfl | rfl | rfl
    all_goals kernel_rfl
theorem bytes_eq {a b : ByteArray} (h : a.toList = b.toList) : a = b := by
  rw [ByteArray.toList_eq, ByteArray.toList_eq] at h
  obtain ⟨⟨x⟩⟩ := a
  obtain ⟨⟨y⟩⟩ := b
  have h : x = y := h
  rw [h]
/-- Names tell blocks apart. -/
theorem names_apart (a b : Int) : ((nameF a).toList == (nameF b).toList) = (a == b || (!mayB a && !mayB b)) := by
  rw [Bool.eq_iff_iff]
  simp only [beq_iff_eq, Bool.or_eq_true, Bool.and_eq_true, Bool.not_eq_true']
  constructor
  · intro h
    have h := bytes_eq h
    cases ha : mayB a
    · cases hb : mayB b
      · right; exact ⟨rfl, rfl⟩
      · have h2 := parse_name hb
        rw [← h, name_none ha, parse_empty] at h2
        simp at h2
    · cases hb : mayB b
      · have h2 := parse_name ha
        rw [h, name_none hb, parse_empty] at h2
        simp at h2
      · have h2 := parse_name ha
        rw [h, parse_name hb] at h2
        simp at h2
        exact .inl h2.symm
  · rintro (rfl | ⟨ha, hb⟩)
    · rfl
    · rw [name_none ha, name_none hb]
theorem name_size (b : Int) : (nameF b).size ≤ 6 := by
  unfold nameF
  repeat' split
  all_goals simp [ByteArray.size]
theorem all_good : ∀ i : Nat, i < 14 → ∃ h : i < allL.length, allL[i] = goodF i
  | 0, _ => ⟨by decide, by decide⟩
  | 1, _ => ⟨by decide, by decide⟩
  | 2, _ => ⟨by decide, by decide⟩
  | 3, _ => ⟨by decide, by decide⟩
  | 4, _ => ⟨by decide, by decide⟩
  | 5, _ => ⟨by decide, by decide⟩
  | 6, _ => ⟨by decide, by decide⟩
  | 7, _ => ⟨by decide, by decide⟩
  | 8, _ => ⟨by decide, by decide⟩
  | 9, _ => ⟨by decide, by decide⟩
  | 10, _ => ⟨by decide, by decide⟩
  | 11, _ => ⟨by decide, by decide⟩
  | 12, _ => ⟨by decide, by decide⟩
  | 13, _ => ⟨by decide, by decide⟩
  | n + 14, h => absurd h (by omega)
theorem water_wet (n : Int) : wetB (waterF n) = true := by unfold wetB waterF; simp; omega
theorem water_level (n : Int) : levelF (waterF n) = min (max n 0) 7 := by
  unfold levelF; rw [if_pos (water_wet n)]; unfold waterF; omega
theorem water_i64 (n : Int) : i64 (waterF n) := by unfold waterF; constructor <;> omega
/-- Each block is solid, gives way, or is climbed, and one alone. -/
def kindsF (b : Int) : Int := (if solidB b then 1 else 0) + (if yieldsB b then 1 else 0) + (if b == 4 then 1 else 0)
theorem kinds_one {b : Int} (h : mayB b = true) : kindsF b = 1 := by
  rcases may_cases h with rfl | rfl | rfl | rfl | rfl | rfl | rfl | rfl | rfl | rfl | rfl | rfl | rfl | rfl
  all_goals decide
end Go.Proofs.Ytlmekadgcllndaa
/- Contracts of layer 5 (runs), of the landed code: add, May, Make, Of, Len, Count, Cut, Fill, Set, At, and the library's Clone of runs. -/
set_option linter.unusedVariables false
set_option linter.unusedSimpArgs false
namespace Go.Proofs.Ytlmekadgcllndaa
open Go.ChangeShapes Go.WideShapes Go.ChangeAt Go.RowKit
theorem b5_add (v : Value) (D : List Run) (n b : Int) (hn : i64 n) (base : Nat) (w : World) (ho : w.ownsRow base 45 2 v D.length (runVs D)) (hbase : base ≤ w.heap.size) (hD : D.length ≤ 200000) (hs : ∀ D' r c, D = D' ++ [(r, c)] → i64 r ∧ i64 (r + n)) :
    Calls Try.prog 27 #[v, .int .i64 n, .int .i64 b] w fun e w' => ∃ v', e = .returned v' ∧ w'.ownsRow base 45 2 v' (addF D n b).length (runVs (addF D n b)) ∧ w.grownBy w' v.ownBlock ∧ (v'.ownBlock = v.ownBlock ∨ ∃ q, v'.ownBlock = some q ∧ w.heap.size ≤ q) := by
  obtain ⟨i0, hi, hz, hsz, hby⟩ := run_info
  by_cases h : n < 1
  · rw [addF_none b h]
    obtain ⟨p, cap, rfl⟩ := own_form ho
    have HO := Lib.hid ho
    clear ho hs
    go_enter Try.func27, Try.ntmps27
    go_wp2_with fail
    go_ret
    exact ⟨_, rfl, HO.out, grow_refl _ _, .inl rfl⟩
  · have h1 : 1 ≤ n := by omega
    rcases nil_or_snoc D with rfl | ⟨D, r, c, rfl⟩
    · rw [addF_nil b h1]
      obtain ⟨p, cap, rfl⟩ := own_form ho
      have HO := Lib.hid ho
      clear ho hs
      simp only [List.length_nil]
      go_enter Try.func27, Try.ntmps27
      go_wp2_with (at_builtin; refine app_run_fresh _ rfl _ _ 25 rfl base 45 i0 _ Try.underlying25 hi hz hsz hby rfl _ _ _ rfl (HO.out.alloc _) w.heap.size (.int .i64 n) (.int .i64 b) rfl (by go_simp) (by go_simp) rfl rfl (by simp) (by simp; omega) ?_; intro v1 w1 ho1 hg1 hfr)
      go_ret
      exact ⟨_, rfl, ho1, grow_trans (World.grownBy_alloc _ _ _) hg1, hfr.imp id fun h => ⟨_, h, by simp⟩⟩
    · obtain ⟨hr, hrn⟩ := hs D r c rfl
      have hl : (D ++ [(r, c)]).length = D.length + 1 := by simp
      have zt : (D.length + 1) * 2 ≤ 400002 := by omega
      have d0 : (runVs (D ++ [(r, c)]))[D.length * 2]? = some (.int .i64 r) := by rw [(runVs_at (D ++ [(r, c)]) D.length (by simp)).1]; simp
      have d1 : (runVs (D ++ [(r, c)]))[D.length * 2 + 1]? = some (.int .i64 c) := by rw [(runVs_at (D ++ [(r, c)]) D.length (by simp)).2]; simp
      rcases id ho.2 with ⟨_, hz0⟩ | ⟨g, cap, cur, rfl, hb2, hgg, _⟩
      · simp at hz0
      have c0 : w.cell? ⟨g, D.length * 2, none⟩ = some (.int .i64 r) := own_cell ho _ d0
      have c1 : w.cell? ⟨g, D.length * 2 + 1, none⟩ = some (.int .i64 c) := own_cell ho _ d1
      have zg : g < w.heap.size := (Array.getElem?_eq_some_iff.1 hgg).1
      have fz : ∀ o, w.frozen? ⟨g, o, none⟩ = false := fun o => by simp [World.frozen?, hgg]
      by_cases hcb : c = b
      · subst hcb
        have hos := own_set ho (D.length * 2) (by simp) (.int .i64 (r + n))
        rw [runVs_set] at hos
        have hbl := grow_set w g (D.length * 2) (.int .i64 (r + n))
        rw [addF_same c h1]
        have e2 : (D ++ [(r + n, c)]).length = (D ++ [(r, c)]).length := by simp
        rw [e2]
        obtain ⟨xs, hxs⟩ : ∃ xs, runVs (D ++ [(r + n, c)]) = xs := ⟨_, rfl⟩
        rw [hxs] at hos ⊢
        have HOS := Lib.hid hos
        have HBL := Lib.hid hbl
        rw [hl]
        rw [hl] at hD HOS
        clear ho hos hbl hs d0 d1 e2 hl hgg hxs
        obtain ⟨k, hk⟩ : ∃ k, D.length = k := ⟨_, rfl⟩
        rw [hk] at c0 c1 hD zt HOS HBL ⊢
        clear hk
        have wk : IntKind.i64.wrap (k : Int) = k := IntWalk.i64_in _ (by omega)
        go_enter Try.func27, Try.ntmps27
        go_wp2_with fail
        go_ret
        exact ⟨_, rfl, HOS.out, HBL.out, .inl rfl⟩
      · rw [addF_other h1 hcb]
        have e2 : (D ++ [(r, c)] ++ [(n, b)]).length = (D ++ [(r, c)]).length + 1 := by simp
        have e3 : runVs (D ++ [(r, c)] ++ [(n, b)]) = runVs (D ++ [(r, c)]) ++ [.int .i64 n, .int .i64 b] := by rw [runVs_append]; simp [runVs]
        rw [e2, e3]
        have hcb2 : (c == b) = false := by simpa using hcb
        obtain ⟨xs, hxs⟩ : ∃ xs, runVs (D ++ [(r, c)]) = xs := ⟨_, rfl⟩
        rw [hxs] at ho ⊢
        rw [hl] at ho hD ⊢
        clear hs d0 d1 e2 e3 hl hxs hgg
        obtain ⟨k, hk⟩ : ∃ k, D.length = k := ⟨_, rfl⟩
        rw [hk] at c0 c1 hD zt ho ⊢
        clear hk
        have wk : IntKind.i64.wrap (k : Int) = k := IntWalk.i64_in _ (by omega)
        have HO := Lib.hid ho
        clear ho
        go_enter Try.func27, Try.ntmps27
        go_wp2_with (at_builtin; refine app_run_fresh _ rfl _ _ 25 rfl base 45 i0 _ Try.underlying25 hi hz hsz hby rfl _ _ _ rfl (HO.out.alloc _) w.heap.size (.int .i64 n) (.int .i64 b) rfl (by go_simp) (by go_simp) rfl rfl (by omega) (by simp; omega) ?_; intro v1 w1 ho1 hg1 hfr)
        go_ret
        exact ⟨_, rfl, ho1, grow_trans (World.grownBy_alloc _ _ _) hg1, hfr.imp id fun h => ⟨_, h, by simp⟩⟩
set_option maxRecDepth 10000 in
set_option maxHeartbeats 4000000 in
theorem b5_of (v : Value) (C : List Int) (w : World) (hl : IntsAt w v C) (hL : C.length ≤ 100000) : Calls Try.prog 17 #[v] w fun e w' => ∃ v', e = .returned v' ∧ RunsAt w' v' (ofF C) ∧ Below w.heap.size w w' := by
  obtain ⟨p, c, rfl, hf⟩ := hl.form
  obtain ⟨N, hN⟩ : ∃ N, C.length = N := ⟨_, rfl⟩
  have HN := Lib.hid hN
  have HF := Lib.hid hf
  rw [hN] at hL
  rw [hN]
  clear hN hf hl
  go_enter Try.func17, Try.ntmps17
  go_wp2_with fail
  go_loopw [3, 8] (fun o i wr => ∃ k : Nat, k ≤ N ∧ i = .int .i64 k ∧ wr.ownsRow w.heap.size 45 2 o (ofF (C.take k)).length (runVs (ofF (C.take k))) ∧ Below w.heap.size w wr) (fun _ i _ => N - (intOf i).toNat)
  case atStart => exact ⟨0, by omega, rfl, World.ownsRow_nil _ _ _ _, Below.refl _ _⟩
  case round =>
    obtain ⟨k, hk, rfl, ho, kw⟩ := hrel
    by_cases hlt : k < N
    · obtain ⟨g, off, rfl, hcp, hg, hx⟩ := HF.out (by rw [HN.out]; omega)
      have h1 := keepc kw hg (hx k (by rw [HN.out]; exact hlt))
      have zg : g < wr.heap.size := Nat.lt_of_lt_of_le hg kw.size
      have ad := fun x => b5_add _ (ofF (C.take k)) 1 x (by constructor <;> omega) w.heap.size wr ho kw.size (by have := ofF_len (C.take k); rw [List.length_take] at this; omega) (last_ok (by rw [List.length_take]; omega) (by omega) (by omega))
      have hs : ∀ x, x = C[k]'(by rw [HN.out]; exact hlt) → addF (ofF (C.take k)) 1 x = ofF (C.take (k + 1)) := fun x e => by
        rw [addF_of, take_succ_get C k (by rw [HN.out]; exact hlt), e]; rfl
      generalize hxe : C[k]'(by rw [HN.out]; exact hlt) = x at h1 hs
      have ad := ad x
      rw [hs x rfl] at ad
      obtain ⟨po, co, rfl⟩ := own_form ho
      have AD := Lib.hid ad
      have HO := Lib.hid ho
      clear ad hs hxe ho hx
      go_wp2_with fail
      refine AD.out.mono ?_
      rintro e w1 ⟨v1, rfl, ho, hb1, _⟩
      go_wp2_with fail
      go_roundw
      case rel => exact ⟨k + 1, by omega, by go_num, ho, below_own kw HO.out hb1 (Nat.le_refl _)⟩
      case measure => simp [intOf]; omega
    · obtain rfl : k = N := by omega
      have e : C.take k = C := by rw [← HN.out, List.take_length]
      rw [e] at ho
      clear e
      go_wp2_with fail
      go_ret
      exact ⟨_, rfl, runs_of_owned ho, kw⟩
end Go.Proofs.Ytlmekadgcllndaa
