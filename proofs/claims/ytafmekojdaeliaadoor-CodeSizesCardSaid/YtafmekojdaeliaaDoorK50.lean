/- Words of layer 5: runs that may be, and their cells. No program. -/
import Derived.Test.YtafmekojdaeliaaDoorR53
import Derived.Test.YtafmekojdaeliaaDoorR54
import Derived.Test.YtafmekojdaeliaaDoorR55
set_option linter.unusedVariables false
namespace Go.Proofs.YtafmekojdaeliaaDoor
open Go Go.RowKit
def goodL : Option Int → List Run → Prop
  | _, [] => True
  | p, r :: l => mayB r.2 = true ∧ 1 ≤ r.1 ∧ p ≠ some r.2 ∧ goodL (some r.2) l
def sumL : List Run → Int
  | [] => 0
  | r :: l => r.1 + sumL l
def lastP (p : Option Int) (D : List Run) : Option Int := match D.getLast? with | some r => some r.2 | none => p
theorem sumL_append : ∀ a b : List Run, sumL (a ++ b) = sumL a + sumL b
  | [], b => by simp [sumL]
  | r :: a, b => by rw [List.cons_append, sumL, sumL, sumL_append a b]; omega
theorem goodL_sum : ∀ (l : List Run) (p : Option Int), goodL p l → 0 ≤ sumL l
  | [], _, _ => by simp [sumL]
  | r :: l, p, h => by have := goodL_sum l _ h.2.2.2; have := h.2.1; rw [sumL]; omega
theorem mayGo_iff : ∀ (l : List Run) (p : Option Int) (left : Int), mayGo p left l = true ↔ goodL p l ∧ sumL l = left
  | [], p, left => by simp [mayGo, goodL, sumL]; omega
  | r :: l, p, left => by
    rw [mayGo, goodL, sumL]
    simp only [Bool.and_eq_true, decide_eq_true_eq, Bool.not_eq_true', beq_eq_false_iff_ne, mayGo_iff l]
    constructor
    · rintro ⟨a, b, c, d, e, f⟩
      exact ⟨⟨a, b, d, e⟩, by omega⟩
    · rintro ⟨⟨a, b, d, e⟩, f⟩
      have := goodL_sum l _ e
      exact ⟨a, b, by omega, d, e, by omega⟩
theorem lastP_cons (p : Option Int) (r : Run) (D : List Run) : lastP p (r :: D) = lastP (some r.2) D := by
  unfold lastP
  rw [List.getLast?_cons]
  cases h : D.getLast? <;> simp
theorem goodL_append : ∀ (D l : List Run) (p : Option Int), goodL p (D ++ l) ↔ goodL p D ∧ goodL (lastP p D) l
  | [], l, p => by simp [goodL, lastP]
  | r :: D, l, p => by
    rw [List.cons_append, goodL, goodL, goodL_append D l, lastP_cons]
    constructor
    · rintro ⟨a, b, c, d, e⟩; exact ⟨⟨a, b, c, d⟩, e⟩
    · rintro ⟨⟨a, b, c, d⟩, e⟩; exact ⟨a, b, c, d, e⟩
theorem lastP_snoc (p : Option Int) (D : List Run) (r : Run) : lastP p (D ++ [r]) = some r.2 := by simp [lastP]
theorem goodL_cells : ∀ (l : List Run) (p : Option Int), goodL p l → ((cellsF l).length : Int) = sumL l ∧ ∀ c ∈ cellsF l, mayB c = true
  | [], _, _ => by simp [cellsF, sumL]
  | r :: l, p, h => by
    obtain ⟨h1, h2⟩ := goodL_cells l _ h.2.2.2
    have h3 := h.2.1
    rw [show cellsF (r :: l) = List.replicate r.1.toNat r.2 ++ cellsF l by simp [cellsF], sumL]
    refine ⟨by rw [List.length_append, List.length_replicate]; omega, fun c hc => ?_⟩
    rcases List.mem_append.1 hc with hc | hc
    · rw [(List.mem_replicate.1 hc).2]; exact h.1
    · exact h2 c hc
theorem nil_or_snoc (D : List Run) : D = [] ∨ ∃ D' r b, D = D' ++ [(r, b)] := by
  rcases List.eq_nil_or_concat D with h | ⟨D, ⟨r, b⟩, h⟩
  · exact .inl h
  · exact .inr ⟨D, r, b, by rw [h, List.concat_eq_append]⟩
theorem step_good (D : List Run) (c : Int) (h : goodL none D) (hc : mayB c = true) : goodL none (stepF D c) ∧ sumL (stepF D c) = sumL D + 1 ∧ cellsF (stepF D c) = cellsF D ++ [c] := by
  rcases nil_or_snoc D with rfl | ⟨D, r, b, rfl⟩
  · rw [stepF_nil]
    refine ⟨⟨hc, by simp, by simp, trivial⟩, by simp [sumL], by simp [cellsF]⟩
  · obtain ⟨g0, g1, g2, g3, _⟩ := (goodL_append D [(r, b)] none).1 h
    have g2 : (1 : Int) ≤ r := g2
    by_cases e : b = c
    · subst e
      rw [stepF_same]
      refine ⟨(goodL_append _ _ _).2 ⟨g0, g1, show (1 : Int) ≤ r + 1 by omega, g3, trivial⟩, by rw [sumL_append, sumL_append]; simp [sumL]; omega, ?_⟩
      rw [cellsF_append, cellsF_append, List.append_assoc]
      congr 1
      simp only [cellsF, List.flatMap_cons, List.flatMap_nil, List.append_nil]
      rw [show (r + 1).toNat = r.toNat + 1 by omega, List.replicate_succ']
    · rw [stepF_other _ _ _ _ e]
      refine ⟨(goodL_append _ _ _).2 ⟨h, hc, by simp, ?_, trivial⟩, by rw [sumL_append _ [(1, c)]]; simp [sumL], by rw [cellsF_append _ [(1, c)]]; simp [cellsF]⟩
      rw [lastP_snoc]
      simpa using e
theorem fold_good : ∀ (C : List Int) (D : List Run), goodL none D → (∀ c ∈ C, mayB c = true) → goodL none (C.foldl stepF D) ∧ sumL (C.foldl stepF D) = sumL D + C.length ∧ cellsF (C.foldl stepF D) = cellsF D ++ C
  | [], D, h, _ => by simp [h]
  | c :: C, D, h, hc => by
    obtain ⟨h1, h2, h3⟩ := step_good D c h (hc c (by simp))
    obtain ⟨g1, g2, g3⟩ := fold_good C (stepF D c) h1 (fun x hx => hc x (by simp [hx]))
    rw [List.foldl_cons]
    refine ⟨g1, by rw [g2, h2]; simp; omega, by rw [g3, h3]; simp⟩
theorem ofF_good {C : List Int} (h : ∀ c ∈ C, mayB c = true) : goodL none (ofF C) ∧ sumL (ofF C) = C.length ∧ cellsF (ofF C) = C := by
  obtain ⟨h1, h2, h3⟩ := fold_good C [] trivial h
  exact ⟨h1, by unfold ofF; rw [h2]; simp [sumL], by unfold ofF; rw [h3]; simp [cellsF]⟩
theorem cells_of {C : List Int} (h : ∀ c ∈ C, mayB c = true) : cellsF (ofF C) = C := (ofF_good h).2.2
theorem good_of {C : List Int} (h : ∀ c ∈ C, mayB c = true) : goodL none (ofF C) := (ofF_good h).1
theorem may_of {C : List Int} (h : ∀ c ∈ C, mayB c = true) (h0 : 0 < C.length) : mayR (ofF C) C.length = true := by
  obtain ⟨h1, h2, _⟩ := ofF_good h
  unfold mayR
  rw [(mayGo_iff _ _ _).2 ⟨h1, h2⟩]
  simpa using h0
theorem mayR_iff {l : List Run} {n : Int} : mayR l n = true ↔ goodL none l ∧ sumL l = n ∧ 0 < n := by
  unfold mayR
  rw [Bool.and_eq_true, mayGo_iff]
  simp [and_assoc]
theorem may_other {C : List Int} (h : ∀ c ∈ C, mayB c = true) {n : Int} (hn : n ≠ C.length) : mayR (ofF C) n = false := by
  cases hm : mayR (ofF C) n with
  | false => rfl
  | true =>
    have h1 := mayR_iff.1 hm
    have := (ofF_good h).2.1
    omega
theorem step_new (D : List Run) (b : Int) (h : lastP none D ≠ some b) : stepF D b = D ++ [(1, b)] := by
  rcases nil_or_snoc D with rfl | ⟨D, r, c, rfl⟩
  · rfl
  · rw [lastP_snoc] at h
    exact stepF_other _ _ _ _ (by simpa using h)
theorem fold_rep (b : Int) : ∀ (n : Nat) (D : List Run) (r : Int), (List.replicate n b).foldl stepF (D ++ [(r, b)]) = D ++ [(r + n, b)]
  | 0, D, r => by simp
  | n + 1, D, r => by
    rw [List.replicate_succ, List.foldl_cons, stepF_same, fold_rep b n]
    rw [show r + 1 + (n : Int) = r + ((n + 1 : Nat) : Int) by omega]
theorem fold_of : ∀ (l : List Run) (D : List Run), goodL (lastP none D) l → (cellsF l).foldl stepF D = D ++ l
  | [], D, _ => by simp [cellsF]
  | (r, b) :: l, D, h => by
    obtain ⟨h1, h2, h3, h4⟩ := h
    have h2 : (1 : Int) ≤ r := h2
    rw [show cellsF ((r, b) :: l) = List.replicate r.toNat b ++ cellsF l by simp [cellsF], List.foldl_append, show r.toNat = (r.toNat - 1) + 1 by omega, List.replicate_succ, List.foldl_cons, step_new D b h3, fold_rep]
    rw [show (1 : Int) + ((r.toNat - 1 : Nat) : Int) = r by omega, fold_of l (D ++ [(r, b)]) (by rw [lastP_snoc]; exact h4)]
    simp
theorem of_cells {l : List Run} (h : goodL none l) : ofF (cellsF l) = l := by
  have h := fold_of l [] h
  unfold ofF
  rw [h]
  rfl
theorem ofF_inj {C D : List Int} (hc : ∀ c ∈ C, mayB c = true) (hd : ∀ c ∈ D, mayB c = true) (h : ofF C = ofF D) : C = D := by rw [← cells_of hc, ← cells_of hd, h]
theorem ofF_len (C : List Int) : (ofF C).length ≤ C.length := by
  have := ofF_length C C.length (Nat.le_refl _)
  rwa [List.take_length] at this
theorem ofF_pos {C : List Int} (h : 0 < C.length) : 0 < (ofF C).length := by
  obtain ⟨D, r, e, _⟩ := ofF_form C (C.length - 1) (by omega)
  rw [show C.length - 1 + 1 = C.length by omega, List.take_length] at e
  rw [e]; simp
/-- Runs that may be, and what they are cells of. -/
theorem goodC_may (l : List Run) : ∀ c ∈ goodC l, mayB c = true := by
  unfold goodC
  split
  · intro c hc
    simp at hc
    subst hc
    decide
  · intro c hc
    unfold goodCs at hc
    obtain ⟨r, _, hr⟩ := List.mem_flatMap.1 hc
    rw [(List.mem_replicate.1 hr).2]
    exact goodF_may _
theorem goodC_len (l : List Run) : 0 < (goodC l).length ∧ (goodC l).length ≤ 480 := by
  have h := goodCs_len l 12
  have h : (goodCs l).length ≤ 480 := h
  unfold goodC
  split
  · simp
  · omega
theorem setF_len (C : List Int) (i b : Int) : (setF C i b).length = C.length := by unfold setF; split <;> simp
theorem setF_may {C : List Int} (h : ∀ c ∈ C, mayB c = true) (i b : Int) : ∀ c ∈ setF C i b, mayB c = true := by
  unfold setF
  split
  · rename_i hb
    intro c hc
    rcases List.mem_or_eq_of_mem_set hc with hc | rfl
    · exact h c hc
    · exact hb.1
  · exact h
theorem fillF_may {C : List Int} (h : ∀ c ∈ C, mayB c = true) (f t b : Int) (k : Nat) : ∀ c ∈ fillF C f t b k, mayB c = true := by
  intro c hc
  unfold fillF at hc
  obtain ⟨j, hj, rfl⟩ := List.mem_mapIdx.1 hc
  split
  · rename_i hb; exact hb.1
  · exact h _ (List.getElem_mem _)
theorem ofF_rep (n : Nat) (b : Int) : ofF (List.replicate (n + 1) b) = [(((n + 1 : Nat) : Int), b)] := by
  have h : (List.replicate n b).foldl stepF [(1, b)] = [(1 + (n : Int), b)] := by simpa using fold_rep b n [] 1
  unfold ofF
  rw [List.replicate_succ, List.foldl_cons, stepF_nil, h, show (1 : Int) + (n : Int) = ((n + 1 : Nat) : Int) by omega]
theorem RunsAt.shape {w : World} {v : Value} {l : List Run} (h : RunsAt w v l) : ∃ p cap, v = .slice p l.length cap := let ⟨p, cap, e, _⟩ := h.form; ⟨p, cap, e⟩
theorem IntsAt.shape {w : World} {v : Value} {l : List Int} (h : IntsAt w v l) : ∃ p cap, v = .slice p l.length cap := let ⟨p, cap, e, _⟩ := h.form; ⟨p, cap, e⟩
def okC (C : List Int) : Prop := (∀ c ∈ C, mayB c = true) ∧ C.length ≤ 100000
def makeF (n b : Int) : List Run := if n < 1 then [] else [(n, b)]
def countF (C : List Int) (b : Int) : Int := (C.filter (· == b)).length
theorem len_of {C : List Int} (hC : okC C) : (cellsF (ofF C)).length ≤ 100000 ∧ (ofF C).length ≤ 100000 := ⟨by rw [cells_of hC.1]; exact hC.2, Nat.le_trans (ofF_len C) hC.2⟩
theorem sumL_take (l : List Run) (k : Nat) (h : k < l.length) : sumL (l.take (k + 1)) = sumL (l.take k) + l[k].1 := by
  rw [take_succ_get l k h, sumL_append]; simp [sumL]
theorem goodL_take (l : List Run) (p : Option Int) (h : goodL p l) (k : Nat) : goodL p (l.take k) := by
  have := (List.take_append_drop k l) ▸ h
  exact ((goodL_append _ _ _).1 this).1
def cntL (b : Int) : List Run → Int
  | [] => 0
  | r :: l => (if r.2 = b then r.1 else 0) + cntL b l
theorem cntL_append (b : Int) : ∀ x y : List Run, cntL b (x ++ y) = cntL b x + cntL b y
  | [], y => by simp [cntL]
  | r :: x, y => by rw [List.cons_append, cntL, cntL, cntL_append b x y]; omega
theorem cntL_take (b : Int) (l : List Run) (k : Nat) (h : k < l.length) : cntL b (l.take (k + 1)) = cntL b (l.take k) + (if l[k].2 = b then l[k].1 else 0) := by
  rw [take_succ_get l k h, cntL_append]; simp [cntL]
theorem cntL_cells (b : Int) : ∀ (l : List Run) (p : Option Int), goodL p l → cntL b l = countF (cellsF l) b ∧ 0 ≤ cntL b l ∧ cntL b l ≤ sumL l
  | [], _, _ => by simp [cntL, countF, cellsF, sumL]
  | r :: l, p, h => by
    obtain ⟨h1, h2, h3⟩ := cntL_cells b l _ h.2.2.2
    have h4 := h.2.1
    rw [show cellsF (r :: l) = List.replicate r.1.toNat r.2 ++ cellsF l by simp [cellsF], cntL, sumL]
    have : countF (List.replicate r.1.toNat r.2 ++ cellsF l) b = countF (List.replicate r.1.toNat r.2) b + countF (cellsF l) b := by unfold countF; rw [List.filter_append, List.length_append]; omega
    rw [this, ← h1]
    by_cases e : r.2 = b
    · rw [if_pos e]
      have : countF (List.replicate r.1.toNat r.2) b = r.1 := by unfold countF; rw [List.filter_replicate]; simp [e]; omega
      omega
    · rw [if_neg e]
      have : countF (List.replicate r.1.toNat r.2) b = 0 := by unfold countF; rw [List.filter_replicate]; simp [e]
      omega
theorem goodL_length : ∀ (l : List Run) (p : Option Int), goodL p l → (l.length : Int) ≤ sumL l
  | [], _, _ => by simp [sumL]
  | r :: l, p, h => by have := goodL_length l _ h.2.2.2; have := h.2.1; rw [sumL]; simp; omega
theorem atF_put {C : List Int} {i b : Int} (hb : mayB b = true) (h0 : 0 ≤ i) (h1 : i < C.length) : atF (setF C i b) i = b := by
  unfold atF
  rw [setF_len, if_pos ⟨h0, h1⟩]
  unfold setF
  rw [if_pos ⟨hb, h0, h1⟩]
  have : i.toNat < C.length := by omega
  simp [getElem!_pos, this]
theorem atF_low (C : List Int) : atF C (-1) = -1 := by unfold atF; rw [if_neg (by omega)]
theorem atF_high (C : List Int) (n : Int) (h : (C.length : Int) ≤ n) : atF C n = -1 := by unfold atF; rw [if_neg (by omega)]
theorem set_apart {C : List Int} {i k : Int} (a b : Int) (h : i ≠ k) (h0 : 0 ≤ i) (h2 : 0 ≤ k) : setF (setF C i a) k b = setF (setF C k b) i a := by
  have hne : i.toNat ≠ k.toNat := by omega
  unfold setF
  by_cases ha : mayB a = true ∧ 0 ≤ i ∧ i < C.length
  · by_cases hb : mayB b = true ∧ 0 ≤ k ∧ k < C.length
    · rw [if_pos ha, if_pos hb, if_pos (by simpa using hb), if_pos (by simpa using ha), List.set_comm _ _ hne]
    · rw [if_pos ha, if_neg hb, if_neg (by simpa using hb), if_pos ha]
  · by_cases hb : mayB b = true ∧ 0 ≤ k ∧ k < C.length
    · rw [if_neg ha, if_pos hb, if_neg (by simpa using ha)]
    · rw [if_neg ha, if_neg hb, if_neg ha]
theorem set_twice {C : List Int} {i : Int} {a b : Int} (ha : mayB a = true) (hb : mayB b = true) (h0 : 0 ≤ i) (h1 : i < C.length) : setF (setF C i a) i b = setF C i b := by
  have e1 : setF C i a = C.set i.toNat a := by unfold setF; rw [if_pos ⟨ha, h0, h1⟩]
  have e2 : setF C i b = C.set i.toNat b := by unfold setF; rw [if_pos ⟨hb, h0, h1⟩]
  rw [e1, e2]
  unfold setF
  rw [if_pos ⟨hb, h0, by simpa using h1⟩, List.set_set]
theorem set_back {C : List Int} {i : Int} {b : Int} (hC : ∀ c ∈ C, mayB c = true) (hb : mayB b = true) (h0 : 0 ≤ i) (h1 : i < C.length) : setF (setF C i b) i (atF C i) = C := by
  have hlt : i.toNat < C.length := by omega
  have ea : atF C i = C[i.toNat] := by unfold atF; rw [if_pos ⟨h0, h1⟩, getElem!_pos C i.toNat hlt]
  have hm : mayB (atF C i) = true := by rw [ea]; exact hC _ (List.getElem_mem _)
  rw [set_twice hb hm h0 h1]
  unfold setF
  rw [if_pos ⟨hm, h0, h1⟩, ea, List.set_getElem_self]
theorem atF_may {C : List Int} (hC : ∀ c ∈ C, mayB c = true) {i : Int} (h0 : 0 ≤ i) (h1 : i < C.length) : mayB (atF C i) = true := by
  have hlt : i.toNat < C.length := by omega
  unfold atF
  rw [if_pos ⟨h0, h1⟩, getElem!_pos C i.toNat hlt]
  exact hC _ (List.getElem_mem _)
theorem atF_i64 {C : List Int} (hC : ∀ c ∈ C, mayB c = true) (i : Int) : i64 (atF C i) := by
  by_cases h : 0 ≤ i ∧ i < C.length
  · have := mayB_bd (atF_may hC h.1 h.2)
    constructor <;> omega
  · unfold atF; rw [if_neg h]; decide
def cumF (X : List Int) (j : Int) : Int := (X.filter (fun c => decide (c < j))).length
theorem cumF_succ (X : List Int) (j : Int) : cumF X (j + 1) = cumF X j + countF X j := by
  unfold cumF countF
  induction X with
  | nil => simp
  | cons c X ih =>
    simp only [List.filter_cons]
    by_cases h1 : c < j
    · rw [if_pos (by simp; omega), if_pos (by simpa using h1), if_neg (by simp; omega)]
      simp only [List.length_cons]; omega
    · by_cases h2 : c = j
      · rw [if_pos (by simp; omega), if_neg (by simpa using h1), if_pos (by simpa using h2)]
        simp only [List.length_cons]; omega
      · rw [if_neg (by simp; omega), if_neg (by simpa using h1), if_neg (by simpa using h2)]
        exact ih
theorem cumF_all {X : List Int} (h : ∀ c ∈ X, mayB c = true) : cumF X 16 = X.length ∧ cumF X 0 = 0 := by
  unfold cumF
  constructor
  · rw [List.filter_eq_self.2 (fun c hc => by have := mayB_bd (h c hc); simp; omega)]
  · rw [List.filter_eq_nil_iff.2 (fun c hc => by have := mayB_bd (h c hc); simp; omega)]; rfl
theorem cumF_le (X : List Int) (j : Int) : 0 ≤ cumF X j ∧ cumF X j ≤ X.length := by
  unfold cumF
  exact ⟨by omega, by have := List.length_filter_le (fun c => decide (c < j)) X; omega⟩
theorem countF_le (X : List Int) (j : Int) : 0 ≤ countF X j ∧ countF X j ≤ X.length := by
  unfold countF
  exact ⟨by omega, by have := List.length_filter_le (fun c => c == j) X; omega⟩
theorem goodL_one {n b : Int} (h : mayB b = true) (hn : 1 ≤ n) : goodL none [(n, b)] := ⟨h, hn, by simp, trivial⟩
theorem runVs_put : ∀ (D : List Run) (k : Nat) (a b : Int), k < D.length → ((runVs D).set (k * 2) (.int .i64 a)).set (k * 2 + 1) (.int .i64 b) = runVs (D.set k (a, b))
  | r :: D, 0, a, b, _ => by simp [runVs]
  | r :: D, k + 1, a, b, h => by
    have := runVs_put D k a b (by simpa using h)
    simp only [runVs, List.flatMap_cons, List.set_cons_succ] at *
    rw [← this, show (k + 1) * 2 = k * 2 + 2 by omega, show k * 2 + 2 + 1 = (k * 2 + 1) + 2 by omega]
    simp
theorem i64_put {D : List Run} {k : Nat} {a b : Int} (h : ∀ j (h : j < D.length), i64 D[j].1 ∧ i64 D[j].2) (ha : i64 a) (hb : i64 b) : ∀ j (h : j < (D.set k (a, b)).length), i64 (D.set k (a, b))[j].1 ∧ i64 (D.set k (a, b))[j].2 := fun j hj => by
  rw [List.getElem_set]
  split
  · exact ⟨ha, hb⟩
  · exact h j (by simpa using hj)
theorem i64_take {D : List Run} (k : Nat) (h : ∀ j (h : j < D.length), i64 D[j].1 ∧ i64 D[j].2) : ∀ j (h : j < (D.take k).length), i64 (D.take k)[j].1 ∧ i64 (D.take k)[j].2 := fun j hj => by
  rw [List.getElem_take]
  exact h j (by simp at hj; omega)
theorem okC_set {C : List Int} (hC : okC C) (i b : Int) : okC (setF C i b) := ⟨setF_may hC.1 i b, by rw [setF_len]; exact hC.2⟩
theorem okC_fill {C : List Int} (hC : okC C) (f t b : Int) (k : Nat) : okC (fillF C f t b k) := ⟨fillF_may hC.1 f t b k, by rw [fillF_length]; exact hC.2⟩
theorem okC_len {C : List Int} (hC : okC C) : (ofF C).length ≤ 100000000 := by have := (len_of hC).2; omega
theorem okC_i64 {C : List Int} (hC : okC C) : ∀ j (h : j < (ofF C).length), i64 (ofF C)[j].1 ∧ i64 (ofF C)[j].2 := by
  have hg := good_of hC.1
  have hs := (ofF_good hC.1).2.1
  have hl := hC.2
  generalize ofF C = l at *
  have key : ∀ (l : List Run) (p : Option Int), goodL p l → sumL l ≤ 100000 → ∀ j (h : j < l.length), i64 l[j].1 ∧ i64 l[j].2 := by
    intro l
    induction l with
    | nil => intro p _ _ j h; exact absurd h (by simp)
    | cons r l ih =>
      intro p hg hs j h
      have h0 := goodL_sum l _ hg.2.2.2
      have h1 := hg.2.1
      have h2 := mayB_bd hg.1
      rw [sumL] at hs
      match j with
      | 0 => exact ⟨by constructor <;> simp <;> omega, by constructor <;> simp <;> omega⟩
      | j + 1 => exact ih _ hg.2.2.2 (by omega) j (by simpa using h)
  exact key l none hg (by omega)
end Go.Proofs.YtafmekojdaeliaaDoor
