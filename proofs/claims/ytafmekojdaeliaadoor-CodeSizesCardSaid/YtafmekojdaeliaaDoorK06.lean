/- Words of layer 6: numbers' bytes, runs' bytes, and what they are read as. No program. -/
import Derived.Test.YtafmekojdaeliaaDoorK50
import Derived.Test.YtafmekojdaeliaaDoorK6B
set_option linter.unusedVariables false
namespace Go.Proofs.YtafmekojdaeliaaDoor
open Go Go.RowKit
/-- A Len's bytes. -/
def numF (n : Int) : List Int := if n < 0 ∨ 1048576 < n then [] else if n < 128 then [n] else if n < 16384 then [128 + n % 128, n / 128] else [128 + n % 128, 128 + n / 128 % 128, n / 16384]
/-- The number that bytes begin with, how many it has, and the error. -/
def digF : List Int → Int × Int × Int
  | [] => (0, 0, 3)
  | [c] => if c < 128 then (c, 1, 0) else (0, 0, 3)
  | [c, d] => if c < 128 then (c, 1, 0) else if d < 128 then (if d = 0 then (0, 0, 2) else (c % 128 + d * 128, 2, 0)) else (0, 0, 3)
  | c :: d :: e :: _ => if c < 128 then (c, 1, 0) else if d < 128 then (if d = 0 then (0, 0, 2) else (c % 128 + d * 128, 2, 0))
      else if e < 128 then (if e = 0 ∨ 1048576 < c % 128 + d % 128 * 128 + e * 16384 then (0, 0, 2) else (c % 128 + d % 128 * 128 + e * 16384, 3, 0)) else (0, 0, 2)
theorem num_ok (n : Int) : bytOk (numF n) := by
  unfold numF bytOk
  intro x hx
  split at hx
  · simp at hx
  · split at hx
    · simp at hx; omega
    · split at hx
      · simp at hx; omega
      · simp at hx; omega
theorem num_len (n : Int) : (numF n).length = if n < 0 ∨ 1048576 < n then 0 else if n < 128 then 1 else if n < 16384 then 2 else 3 := by
  unfold numF; repeat' split
  all_goals rfl
theorem num_len3 (n : Int) : (numF n).length ≤ 3 := by rw [num_len]; repeat' split
                                                       all_goals omega
theorem num_pos {n : Int} (h0 : 0 ≤ n) (h1 : n ≤ 1048576) : 1 ≤ (numF n).length := by rw [num_len, if_neg (by omega)]; repeat' split
                                                                                      all_goals omega
theorem dig_num {n : Int} (h0 : 0 ≤ n) (h1 : n ≤ 1048576) (b : List Int) : digF (numF n ++ b) = (n, ((numF n).length : Int), 0) := by
  unfold numF
  rw [if_neg (by omega)]
  by_cases h2 : n < 128
  · rw [if_pos h2]
    match b with
    | [] => simp [digF, h2]
    | [_] => simp [digF, h2]
    | _ :: _ :: _ => simp [digF, h2]
  · rw [if_neg h2]
    by_cases h3 : n < 16384
    · rw [if_pos h3]
      have a1 : ¬ 128 + n % 128 < 128 := by omega
      have a2 : n / 128 < 128 := by omega
      have a3 : ¬ n / 128 = 0 := by omega
      have a4 : (128 + n % 128) % 128 + n / 128 * 128 = n := by omega
      match b with
      | [] => simp only [List.append_nil, digF, if_neg a1, if_pos a2, if_neg a3, a4]; rfl
      | _ :: _ => simp only [List.cons_append, List.nil_append, digF, if_neg a1, if_pos a2, if_neg a3, a4]; rfl
    · rw [if_neg h3]
      have a1 : ¬ 128 + n % 128 < 128 := by omega
      have a2 : ¬ 128 + n / 128 % 128 < 128 := by omega
      have a3 : n / 16384 < 128 := by omega
      have a5 : (128 + n % 128) % 128 + (128 + n / 128 % 128) % 128 * 128 + n / 16384 * 16384 = n := by omega
      have a4 : ¬ (n / 16384 = 0 ∨ 1048576 < (128 + n % 128) % 128 + (128 + n / 128 % 128) % 128 * 128 + n / 16384 * 16384) := by omega
      simp only [List.cons_append, List.nil_append, digF]
      rw [if_neg a1, if_neg a2, if_pos a3, if_neg a4, a5]; rfl
theorem num_dig {b : List Int} (hb : bytOk b) {n k : Int} (h : digF b = (n, k, 0)) : (0 ≤ n ∧ n ≤ 1048576) ∧ k.toNat ≤ b.length ∧ 1 ≤ k ∧ k ≤ 3 ∧ b.take k.toNat = numF n := by
  unfold digF at h
  split at h
  · simp at h
  · rename_i c
    have hc := hb c (by simp)
    split at h
    · simp at h
      obtain ⟨rfl, rfl⟩ := h
      refine ⟨by omega, by simp, by omega, by omega, ?_⟩
      unfold numF
      rw [if_neg (by omega), if_pos (by omega)]; rfl
    · simp at h
  · rename_i c d
    have hc := hb c (by simp)
    have hd := hb d (by simp)
    split at h
    · simp at h
      obtain ⟨rfl, rfl⟩ := h
      refine ⟨by omega, by simp, by omega, by omega, ?_⟩
      unfold numF
      rw [if_neg (by omega), if_pos (by omega)]; rfl
    · split at h
      · split at h
        · simp at h
        · simp at h
          obtain ⟨rfl, rfl⟩ := h
          refine ⟨by omega, by simp, by omega, by omega, ?_⟩
          unfold numF
          rw [if_neg (by omega), if_neg (by omega), if_pos (by omega)]
          show [c, d] = _
          congr 1
          · omega
          · congr 1; omega
      · simp at h
  · rename_i c d e r
    have hc := hb c (by simp)
    have hd := hb d (by simp)
    have he := hb e (by simp)
    split at h
    · simp at h
      obtain ⟨rfl, rfl⟩ := h
      refine ⟨by omega, by simp, by omega, by omega, ?_⟩
      unfold numF
      rw [if_neg (by omega), if_pos (by omega)]; rfl
    · split at h
      · split at h
        · simp at h
        · simp at h
          obtain ⟨rfl, rfl⟩ := h
          refine ⟨by omega, by simp, by omega, by omega, ?_⟩
          unfold numF
          rw [if_neg (by omega), if_neg (by omega), if_pos (by omega)]
          show [c, d] = _
          congr 1
          · omega
          · congr 1; omega
      · split at h
        · split at h
          · simp at h
          · simp at h
            obtain ⟨rfl, rfl⟩ := h
            refine ⟨by omega, by simp, by omega, by omega, ?_⟩
            unfold numF
            rw [if_neg (by omega), if_neg (by omega), if_neg (by omega)]
            show [c, d, e] = _
            congr 1
            · omega
            · congr 1
              · omega
              · congr 1; omega
        · simp at h
/-- The error is one of three, and none goes with a number. -/
theorem dig_err (b : List Int) : (digF b).2.2 = 0 ∨ ((digF b).2.2 = 2 ∨ (digF b).2.2 = 3) ∧ (digF b).1 = 0 ∧ (digF b).2.1 = 0 := by
  unfold digF
  repeat' split
  all_goals simp
/-- Runs' bytes. -/
def bytesF (l : List Run) : List Int := l.flatMap fun r => r.2 :: numF r.1
def wrB (l : List Run) : Bool := mayR l (sumL l) && decide (sumL l ≤ 1048576)
def wrE (l : List Run) : Int := if wrB l = true then 0 else 1
def writeF (l : List Run) : List Int := if wrB l = true then bytesF l else []
theorem bytesF_cons (r : Run) (l : List Run) : bytesF (r :: l) = r.2 :: (numF r.1 ++ bytesF l) := by simp [bytesF]
theorem bytesF_append (a b : List Run) : bytesF (a ++ b) = bytesF a ++ bytesF b := by simp [bytesF]
theorem bytesF_len (l : List Run) : (bytesF l).length ≤ l.length * 4 := by
  induction l with
  | nil => simp [bytesF]
  | cons r l ih => rw [bytesF_cons]; have := num_len3 r.1; simp; omega
theorem wrB_iff {l : List Run} : wrB l = true ↔ goodL none l ∧ 0 < sumL l ∧ sumL l ≤ 1048576 := by
  unfold wrB
  rw [Bool.and_eq_true, mayR_iff]
  simp [and_assoc]
theorem bytesF_ok : ∀ (l : List Run) (p : Option Int), goodL p l → bytOk (bytesF l)
  | [], _, _ => by simp [bytesF, bytOk]
  | r :: l, p, h => by
    rw [bytesF_cons]
    intro x hx
    rcases List.mem_cons.1 hx with rfl | hx
    · have := mayB_bd h.1; omega
    · exact ((num_ok r.1).append (bytesF_ok l _ h.2.2.2)) x hx
/-- The runs that bytes are read as, or the error. -/
def readGo : Nat → Option Int → List Int → Int → Int × List Run
  | 0, _, _, _ => (2, [])
  | f + 1, p, b, n => if n ≤ 0 then (if b = [] then (0, []) else (2, [])) else match b with
    | [] => (3, [])
    | own :: rest => if mayB own = false then (2, []) else if p = some own then (2, []) else
      if (digF rest).2.2 ≠ 0 then ((digF rest).2.2, []) else if (digF rest).1 = 0 ∨ n < (digF rest).1 then (2, []) else
      if (readGo f (some own) (rest.drop (digF rest).2.1.toNat) (n - (digF rest).1)).1 = 0 then (0, ((digF rest).1, own) :: (readGo f (some own) (rest.drop (digF rest).2.1.toNat) (n - (digF rest).1)).2)
      else ((readGo f (some own) (rest.drop (digF rest).2.1.toNat) (n - (digF rest).1)).1, [])
theorem readGo_stop {f : Nat} {p : Option Int} {b : List Int} {n : Int} (h : n ≤ 0) : readGo (f + 1) p b n = if b = [] then (0, []) else (2, []) := by cases b <;> simp [readGo, h]
theorem readGo_nil {f : Nat} {p : Option Int} {n : Int} (h : ¬ n ≤ 0) : readGo (f + 1) p [] n = (3, []) := by simp [readGo, h]
theorem readGo_cons {f : Nat} {p : Option Int} {own : Int} {rest : List Int} {n : Int} (h : ¬ n ≤ 0) : readGo (f + 1) p (own :: rest) n =
    if mayB own = false then (2, []) else if p = some own then (2, []) else
      if (digF rest).2.2 ≠ 0 then ((digF rest).2.2, []) else if (digF rest).1 = 0 ∨ n < (digF rest).1 then (2, []) else
      if (readGo f (some own) (rest.drop (digF rest).2.1.toNat) (n - (digF rest).1)).1 = 0 then (0, ((digF rest).1, own) :: (readGo f (some own) (rest.drop (digF rest).2.1.toNat) (n - (digF rest).1)).2)
      else ((readGo f (some own) (rest.drop (digF rest).2.1.toNat) (n - (digF rest).1)).1, []) := by
  rw [readGo.eq_def]
  simp only [if_neg h]
def readF (b : List Int) (n : Int) : Int × List Run := readGo (b.length + 1) none b n
/-- Whoever is read, was written. -/
theorem read_sound : ∀ (f : Nat) (p : Option Int) (b : List Int) (n : Int) (l : List Run), bytOk b → 0 ≤ n → readGo f p b n = (0, l) → b = bytesF l ∧ goodL p l ∧ sumL l = n
  | 0, _, _, _, _, _, _, h => by simp [readGo] at h
  | f + 1, p, b, n, l, hb, hn, h => by
    by_cases h1 : n ≤ 0
    · rw [readGo_stop h1] at h
      split at h
      · rename_i h2
        simp at h
        subst h h2
        exact ⟨rfl, trivial, by simp [sumL]; omega⟩
      · simp at h
    · cases b with
      | nil => rw [readGo_nil h1] at h; simp at h
      | cons own rest =>
        rw [readGo_cons h1] at h
        split at h
        · simp at h
        · rename_i hm
          split at h
          · simp at h
          · rename_i hp
            split at h
            · rename_i he
              simp at h
              exact absurd h.1 he
            · rename_i he
              split at h
              · simp at h
              · rename_i hs
                split at h
                · rename_i hr
                  have hd : digF rest = ((digF rest).1, (digF rest).2.1, 0) := by
                    have : (digF rest).2.2 = 0 := by simpa using he
                    rw [← this]
                  obtain ⟨⟨n0, n1⟩, k0, k1, k2, ht⟩ := num_dig (fun x hx => hb x (by simp [hx])) hd
                  have hb2 : bytOk (rest.drop (digF rest).2.1.toNat) := fun x hx => hb x (List.mem_cons_of_mem _ (List.mem_of_mem_drop hx))
                  obtain ⟨R, hR⟩ : ∃ R, readGo f (some own) (rest.drop (digF rest).2.1.toNat) (n - (digF rest).1) = R := ⟨_, rfl⟩
                  rw [hR] at h hr
                  obtain ⟨i1, i2, i3⟩ := read_sound f (some own) _ _ R.2 hb2 (by omega) (hR.trans (Prod.ext hr rfl))
                  simp only [Prod.mk.injEq, true_and] at h
                  rw [← h]
                  refine ⟨?_, ⟨by simpa using hm, by show (1 : Int) ≤ (digF rest).1; omega, by simpa using hp, i2⟩, by rw [sumL, i3]; show (digF rest).1 + (n - (digF rest).1) = n; omega⟩
                  rw [bytesF_cons, ← i1]
                  show own :: rest = own :: (numF (digF rest).1 ++ _)
                  rw [← ht, List.take_append_drop]
                · rename_i hr
                  simp at h
                  exact absurd h.1 hr
/-- What is written is read. -/
theorem read_written : ∀ (l : List Run) (f : Nat) (p : Option Int), goodL p l → sumL l ≤ 1048576 → l.length < f → readGo f p (bytesF l) (sumL l) = (0, l)
  | [], f + 1, p, _, _, _ => by simp [readGo, sumL, bytesF]
  | r :: l, f + 1, p, h, hs, hf => by
    obtain ⟨h1, h2, h3, h4⟩ := h
    have hp := goodL_sum l _ h4
    rw [sumL] at hs
    have ih := read_written l f (some r.2) h4 (by omega) (by simpa using hf)
    have hd := dig_num (n := r.1) (by omega) (by omega) (bytesF l)
    rw [bytesF_cons, sumL, readGo_cons (by omega)]
    simp only [h1, hd]
    rw [if_neg (by simp), if_neg h3, if_neg (by simp), if_neg (by omega)]
    rw [show (((numF r.1).length : Int)).toNat = (numF r.1).length by simp, List.drop_left, show r.1 + sumL l - r.1 = sumL l by omega, ih]
    simp
/-- .. and with more behind it, isn't. -/
theorem read_more : ∀ (l : List Run) (f : Nat) (p : Option Int) (x : Int) (r : List Int), goodL p l → sumL l ≤ 1048576 → l.length < f → readGo f p (bytesF l ++ x :: r) (sumL l) = (2, [])
  | [], f + 1, p, x, r, _, _, _ => by simp [readGo, sumL, bytesF]
  | q :: l, f + 1, p, x, r, h, hs, hf => by
    obtain ⟨h1, h2, h3, h4⟩ := h
    have hp := goodL_sum l _ h4
    rw [sumL] at hs
    have ih := read_more l f (some q.2) x r h4 (by omega) (by simpa using hf)
    have hd := dig_num (n := q.1) (by omega) (by omega) (bytesF l ++ x :: r)
    rw [bytesF_cons, sumL, List.cons_append, List.append_assoc, readGo_cons (by omega)]
    simp only [h1, hd]
    rw [if_neg (by simp), if_neg h3, if_neg (by simp), if_neg (by omega)]
    rw [show (((numF q.1).length : Int)).toNat = (numF q.1).length by simp, List.drop_left, show q.1 + sumL l - q.1 = sumL l by omega, ih]
    simp
/-- Bytes of runs that begin bytes of runs are those of the first ones. -/
theorem bytes_prefix : ∀ (a b : List Run) (p q : Option Int) (r : List Int), goodL p a → goodL q b → sumL a ≤ 1048576 → sumL b ≤ 1048576 → bytesF a ++ r = bytesF b → ∃ c, b = a ++ c ∧ r = bytesF c
  | [], b, _, _, r, _, _, _, _, h => ⟨b, rfl, by simpa [bytesF] using h⟩
  | x :: a, [], _, _, r, _, _, _, _, h => by rw [bytesF_cons] at h; simp [bytesF] at h
  | x :: a, y :: b, p, q, r, ha, hb, sa, sb, h => by
    obtain ⟨a1, a2, a3, a4⟩ := ha
    obtain ⟨b1, b2, b3, b4⟩ := hb
    have pa := goodL_sum a _ a4
    have pb := goodL_sum b _ b4
    rw [sumL] at sa sb
    rw [bytesF_cons, bytesF_cons, List.cons_append, List.append_assoc, List.cons.injEq] at h
    obtain ⟨e, h⟩ := h
    have d1 := dig_num (n := x.1) (by omega) (by omega) (bytesF a ++ r)
    have d2 := dig_num (n := y.1) (by omega) (by omega) (bytesF b)
    rw [h, d2] at d1
    have e1 : y.1 = x.1 := by simpa using congrArg Prod.fst d1
    rw [e1] at h
    have h := List.append_cancel_left h
    obtain ⟨c, hc, hr⟩ := bytes_prefix a b _ _ r a4 b4 (by omega) (by omega) h
    exact ⟨c, by rw [hc, List.cons_append]; congr 1; exact Prod.ext e1 e.symm, hr⟩
theorem sum_none {a c : List Run} {p : Option Int} (h : goodL p (a ++ c)) (hs : sumL (a ++ c) = sumL a) : c = [] := by
  have hc := ((goodL_append a c p).1 h).2
  rw [sumL_append] at hs
  cases c with
  | nil => rfl
  | cons r c => have := goodL_sum c _ hc.2.2.2; have := hc.2.1; rw [sumL] at hs; omega
/-- Of another number of cells nothing is read. -/
theorem read_other {l : List Run} {f : Nat} {m : Int} (h : goodL none l) (hs : sumL l ≤ 1048576) (hm : m ≠ sumL l) (h0 : 0 ≤ m) (h1 : m ≤ 1048576) : (readGo f none (bytesF l) m).1 ≠ 0 := by
  intro e
  obtain ⟨i1, i2, i3⟩ := read_sound f none (bytesF l) m _ (bytesF_ok l _ h) h0 (Prod.ext e rfl)
  obtain ⟨c, hc, hr⟩ := bytes_prefix l _ none none [] h i2 hs (by omega) (by rw [List.append_nil]; exact i1)
  have : c = [] := by
    cases c with
    | nil => rfl
    | cons r c => rw [bytesF_cons] at hr; simp at hr
  rw [hc, this, List.append_nil] at i3
  exact hm i3.symm
/-- Of less bytes nothing is read. -/
theorem read_less {l : List Run} {f : Nat} {b r : List Int} (h : goodL none l) (hs : sumL l ≤ 1048576) (hb : b ++ r = bytesF l) (hr : r ≠ []) : (readGo f none b (sumL l)).1 ≠ 0 := by
  intro e
  have hok : bytOk b := fun x hx => bytesF_ok l _ h x (by rw [← hb]; simp [hx])
  obtain ⟨i1, i2, i3⟩ := read_sound f none b (sumL l) _ hok (goodL_sum l _ h) (Prod.ext e rfl)
  obtain ⟨c, hc, hr2⟩ := bytes_prefix _ l none none r i2 h (by omega) hs (by rw [← i1]; exact hb)
  have := sum_none (c := c) (p := none) (by rw [← hc]; exact h) (by rw [← hc, i3])
  rw [this] at hr2
  exact hr hr2
theorem read_err : ∀ (f : Nat) (p : Option Int) (b : List Int) (n : Int), (readGo f p b n).1 = 0 ∨ ((readGo f p b n).1 = 2 ∨ (readGo f p b n).1 = 3) ∧ (readGo f p b n).2 = []
  | 0, _, _, _ => by simp [readGo]
  | f + 1, p, b, n => by
    by_cases h1 : n ≤ 0
    · rw [readGo_stop h1]
      split <;> simp
    · cases b with
      | nil => rw [readGo_nil h1]; simp
      | cons own rest =>
        rw [readGo_cons h1]
        have hd := dig_err rest
        have ih := read_err f (some own) (rest.drop (digF rest).2.1.toNat) (n - (digF rest).1)
        split
        · simp
        · split
          · simp
          · split
            · rename_i he
              rcases hd with hd | ⟨hd, _⟩
              · exact absurd hd he
              · exact .inr ⟨hd, rfl⟩
            · split
              · simp
              · split
                · simp
                · rename_i hr
                  rcases ih with ih | ⟨ih, _⟩
                  · exact absurd ih hr
                  · exact .inr ⟨ih, rfl⟩
/-- What is read so far, and what is read then. -/
def comb (L : List Run) (r : Int × List Run) : Int × List Run := if r.1 = 0 then (0, L ++ r.2) else (r.1, [])
theorem comb_start (f : Nat) (p : Option Int) (b : List Int) (n : Int) : comb [] (readGo f p b n) = readGo f p b n := by
  unfold comb
  rcases read_err f p b n with h | ⟨h, h2⟩
  · rw [if_pos h, ← h]; rfl
  · rw [if_neg (by omega), ← h2]
theorem comb_err {L : List Run} {e : Int} (h : e ≠ 0) : comb L (e, []) = (e, []) := by unfold comb; rw [if_neg h]
theorem comb_step (L : List Run) (r : Run) (q : Int × List Run) : comb L (if q.1 = 0 then (0, r :: q.2) else (q.1, [])) = comb (L ++ [r]) q := by
  unfold comb
  by_cases h : q.1 = 0
  · simp [h]
  · simp [h]
theorem sumL_succ (l : List Run) (k : Nat) (h : k < l.length) : sumL (l.take (k + 1)) = sumL (l.take k) + l[k].1 := by
  rw [take_succ_get l k h, sumL_append]; simp [sumL]
theorem goodL_at : ∀ (l : List Run) (p : Option Int), goodL p l → ∀ k (h : k < l.length), 1 ≤ l[k].1 ∧ mayB l[k].2 = true ∧ sumL (l.take (k + 1)) ≤ sumL l
  | r :: l, p, hg, 0, _ => by
    have := goodL_sum l _ hg.2.2.2
    exact ⟨hg.2.1, hg.1, by simp [sumL]; omega⟩
  | r :: l, p, hg, k + 1, h => by
    obtain ⟨h1, h2, h3⟩ := goodL_at l _ hg.2.2.2 k (by simpa using h)
    exact ⟨h1, h2, by rw [List.take_succ_cons, sumL, sumL]; omega⟩
theorem wr_false {l : List Run} {k : Nat} (h : k < l.length) (hf : l[k].1 < 1 ∨ 1048576 - sumL (l.take k) < l[k].1) : wrB l = false := by
  cases hw : wrB l with
  | false => rfl
  | true =>
    obtain ⟨g, _, s⟩ := wrB_iff.1 hw
    obtain ⟨h1, _, h3⟩ := goodL_at l none g k h
    rw [sumL_succ l k h] at h3
    omega
theorem bytesF_succ (l : List Run) (k : Nat) (h : k < l.length) : bytesF (l.take (k + 1)) = bytesF (l.take k) ++ l[k].2 :: numF l[k].1 := by
  rw [take_succ_get l k h, bytesF_append]; simp [bytesF]
theorem bytesF_pos {l : List Run} (h : 0 < l.length) : 2 ≤ (bytesF l).length ∨ ∃ r ∈ l, numF r.1 = [] := by
  cases l with
  | nil => simp at h
  | cons r l =>
    rw [bytesF_cons]
    cases h2 : numF r.1 with
    | nil => exact .inr ⟨r, by simp, h2⟩
    | cons x y => left; simp
end Go.Proofs.YtafmekojdaeliaaDoor
