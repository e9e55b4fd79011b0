/- Words of layer 8: blobs as bytes; what is done with a disk. No program. -/
import Derived.Test.YtkephcmjigfepaaK82
set_option linter.unusedVariables false
set_option linter.unusedSimpArgs false
namespace Go.Proofs.Ytkephcmjigfepaa
open Go Go.RowKit
abbrev Blobs := List (Int × List Int)
def sumB : Blobs → Nat
  | [] => 0
  | x :: l => x.2.length + sumB l
theorem sumB_append (a b : Blobs) : sumB (a ++ b) = sumB a + sumB b := by
  induction a with
  | nil => simp [sumB]
  | cons x a ih => simp only [List.cons_append, sumB, ih]; omega
/-- What a relation of slices and bytes must keep to be a disk's. -/
class GoodR (R : Value → List Int → Prop) : Prop where
  form : ∀ {v : Value} {B : List Int}, R v B → ∃ p c, v = .slice p B.length c ∧ B.length ≤ c
  cut : ∀ {v : Value} {B : List Int} {k : Nat}, R v B → k ≤ B.length → R (slCut v k) (B.take k)
  nil : R (.slice none 0 0) []
/-- Keys the same, slices that read as the bytes. -/
inductive RelG (R : Value → List Int → Prop) : List Raw → Blobs → Prop
  | nil : RelG R [] []
  | cons {r : Raw} {b : Int × List Int} {rs : List Raw} {bs : Blobs} (hx : r.1 = b.1 ∧ R r.2 b.2) (hr : RelG R rs bs) : RelG R (r :: rs) (b :: bs)
abbrev RelR (w : World) : List Raw → Blobs → Prop := RelG (BytsAt w)
theorem byts_len {w : World} {v : Value} {B : List Int} (h : BytsAt w v B) : slLen v = B.length := by
  obtain ⟨p, c, rfl⟩ := h.shape
  rfl
theorem byts_cut {w : World} {v : Value} {B : List Int} (h : BytsAt w v B) {k : Nat} (hk : k ≤ B.length) : BytsAt w (slCut v k) (B.take k) := by
  obtain ⟨p, c, rfl⟩ := h.shape
  exact h.take hk
instance good_byts (w : World) : GoodR (BytsAt w) where
  form h := by
    obtain ⟨p, c, e, h2⟩ := h.form
    refine ⟨p, c, e, ?_⟩
    rcases Nat.eq_zero_or_pos (List.length _) with h0 | h0
    · omega
    · obtain ⟨_, _, _, h3, _⟩ := h2 h0; exact h3
  cut h hk := byts_cut h hk
  nil := BytsAt.nil
theorem gr_len {R : Value → List Int → Prop} [GoodR R] {v : Value} {B : List Int} (h : R v B) : slLen v = B.length := by
  obtain ⟨p, c, rfl, _⟩ := GoodR.form h
  rfl
theorem gr_cut {R : Value → List Int → Prop} [GoodR R] {v : Value} {B : List Int} (h : R v B) {k : Nat} (hk : k ≤ B.length) : R (slCut v k) (B.take k) := GoodR.cut h hk
theorem RelG.map {R R' : Value → List Int → Prop} {rs : List Raw} {bs : Blobs} (h : RelG R rs bs) (f : ∀ {v : Value} {B : List Int}, R v B → R' v B) : RelG R' rs bs := by
  induction h with
  | nil => exact .nil
  | cons hx _ ih => exact .cons ⟨hx.1, f hx.2⟩ ih
theorem RelG.keep {w w' : World} {rs : List Raw} {bs : Blobs} (h : RelR w rs bs) (hb : Below w.heap.size w w') : RelR w' rs bs := by
  induction h with
  | nil => exact .nil
  | cons hx _ ih => exact .cons ⟨hx.1, hx.2.keep hb⟩ ih
theorem RelG.len {R : Value → List Int → Prop} {rs : List Raw} {bs : Blobs} (h : RelG R rs bs) : rs.length = bs.length := by
  induction h with
  | nil => rfl
  | cons _ _ ih => simp [ih]
theorem rel_append {R : Value → List Int → Prop} {a c : List Raw} {b d : Blobs} (h : RelG R a b) (k : RelG R c d) : RelG R (a ++ c) (b ++ d) := by
  induction h with
  | nil => exact k
  | cons hx _ ih => exact .cons hx ih
theorem rel_one {R : Value → List Int → Prop} {k : Int} {v : Value} {B : List Int} (h : R v B) : RelG R [(k, v)] [(k, B)] := .cons ⟨rfl, h⟩ .nil
theorem rel_fold {R : Value → List Int → Prop} {k : Int} {v : Value} {B : List Int} (hv : R v B) : ∀ (rs : List Raw) (bs : Blobs), RelG R rs bs → ∀ (s : List Raw × Bool) (t : Blobs × Bool), RelG R s.1 t.1 → s.2 = t.2 →
    RelG R (rs.foldl (layStep (k, v)) s).1 (bs.foldl (layStep (k, B)) t).1 ∧ (rs.foldl (layStep (k, v)) s).2 = (bs.foldl (layStep (k, B)) t).2
  | [], [], _, s, t, h1, h2 => ⟨h1, h2⟩
  | (rk, rv) :: rs, (bk, bB) :: bs, h, (s1, s2), (t1, t2), h1, h2 => by
    cases h with
    | cons hx hr =>
      obtain ⟨e, hb⟩ := hx
      have e : rk = bk := e
      subst e
      have h2 : s2 = t2 := h2
      subst h2
      have h1 : RelG R s1 t1 := h1
      rw [List.foldl_cons, List.foldl_cons]
      refine rel_fold hv rs bs hr _ _ ?_ ?_
      · unfold layStep
        by_cases c1 : s2 = false ∧ k ≤ rk
        · simp only [if_pos c1]
          by_cases c2 : rk = k
          · simp only [if_pos c2]; exact rel_append h1 (rel_one hv)
          · simp only [if_neg c2]; exact rel_append (rel_append h1 (rel_one hv)) (rel_one hb)
        · simp only [if_neg c1]
          by_cases c2 : rk = k
          · simp only [if_pos c2]; exact h1
          · simp only [if_neg c2]; exact rel_append h1 (rel_one hb)
      · unfold layStep
        by_cases c1 : s2 = false ∧ k ≤ rk
        · simp only [if_pos c1]
          by_cases c2 : rk = k
          · simp only [if_pos c2]
          · simp only [if_neg c2]
        · simp only [if_neg c1]
          by_cases c2 : rk = k
          · simp only [if_pos c2]
          · simp only [if_neg c2]
  | [], _ :: _, h, _, _, _, _ => by cases h
  | _ :: _, [], h, _, _, _, _ => by cases h
theorem RelG.lay {R : Value → List Int → Prop} {k : Int} {v : Value} {B : List Int} {rs : List Raw} {bs : Blobs} (h : RelG R rs bs) (hv : R v B) : RelG R (layF rs (k, v)) (layF bs (k, B)) := by
  obtain ⟨h1, h2⟩ := rel_fold (k := k) hv rs bs h ([], false) ([], false) .nil rfl
  have h1 : RelG R (layS (k, v) rs).1 (layS (k, B) bs).1 := h1
  have h2 : (layS (k, v) rs).2 = (layS (k, B) bs).2 := h2
  unfold layF
  rw [h2]
  split
  · exact h1
  · exact rel_append h1 (rel_one hv)
theorem RelG.now {R : Value → List Int → Prop} : ∀ {l : List Raw} {m : Blobs}, RelG R l m → ∀ {s : List Raw} {t : Blobs}, RelG R s t → RelG R (nowF s l) (nowF t m)
  | [], [], _, _, _, hs => hs
  | (k, v) :: l, (k', B) :: m, h, s, t, hs => by
    cases h with
    | cons hx hr =>
      obtain ⟨e, hb⟩ := hx
      have e : k = k' := e
      subst e
      exact RelG.now hr (hs.lay hb)
  | [], _ :: _, h, _, _, _ => by cases h
  | _ :: _, [], h, _, _, _ => by cases h
theorem RelG.sum {R : Value → List Int → Prop} [GoodR R] {rs : List Raw} {bs : Blobs} (h : RelG R rs bs) : lenR rs = sumB bs := by
  induction h with
  | nil => rfl
  | cons hx _ ih => rw [lenR, sumB, ih, gr_len hx.2]
theorem RelG.crash {R : Value → List Int → Prop} [GoodR R] : ∀ {l : List Raw} {m : Blobs}, RelG R l m → ∀ {s : List Raw} {t : Blobs} (k : Nat), RelG R s t → RelG R (crashGo slLen slCut s k l) (crashGo List.length (fun B k => B.take k) t k m)
  | [], [], _, _, _, _, hs => hs
  | (q, v) :: l, (q', B) :: m, h, s, t, k, hs => by
    cases h with
    | cons hx hr =>
      obtain ⟨e, hb⟩ := hx
      have e : q = q' := e
      subst e
      have hl := gr_len hb
      have e1 : crashGo slLen slCut s k ((q, v) :: l) = if B.length ≤ k then crashGo slLen slCut (layF s (q, v)) (k - B.length) l else layF s (q, slCut v k) := by
        rw [← hl]; rfl
      have e2 : crashGo List.length (fun B k => B.take k) t k ((q, B) :: m) = if B.length ≤ k then crashGo List.length (fun B k => B.take k) (layF t (q, B)) (k - B.length) m else layF t (q, B.take k) := rfl
      rw [e1, e2]
      by_cases c : B.length ≤ k
      · rw [if_pos c, if_pos c]; exact RelG.crash hr _ (hs.lay hb)
      · rw [if_neg c, if_neg c]; exact hs.lay (gr_cut (k := k) hb (Nat.le_of_lt (Nat.lt_of_not_le c)))
  | [], _ :: _, h, _, _, _, _ => by cases h
  | _ :: _, [], h, _, _, _, _ => by cases h
theorem RelG.get {R : Value → List Int → Prop} {k : Int} : ∀ {l : List Raw} {m : Blobs}, RelG R l m → (getF l k = none ∧ getF m k = none) ∨ ∃ v B, getF l k = some v ∧ getF m k = some B ∧ R v B
  | [], [], _ => .inl ⟨rfl, rfl⟩
  | (q, v) :: l, (q', B) :: m, h => by
    cases h with
    | cons hx hr =>
      obtain ⟨e, hb⟩ := hx
      have e : q = q' := e
      subst e
      rw [getF, getF]
      by_cases c : q = k
      · rw [if_pos c, if_pos c]; exact .inr ⟨v, B, rfl, rfl, hb⟩
      · rw [if_neg c, if_neg c]; exact RelG.get hr
  | [], _ :: _, h => by cases h
  | _ :: _, [], h => by cases h
def keysOk (l : Blobs) : Prop := ∀ x ∈ l, i64 x.1
theorem RelG.ok {R : Value → List Int → Prop} [GoodR R] {rs : List Raw} {bs : Blobs} (h : RelG R rs bs) (hk : keysOk bs) : rawOk rs := by
  induction h with
  | nil => intro x hx; cases hx
  | cons hx _ ih =>
    intro x hm
    rcases List.mem_cons.1 hm with rfl | hm
    · obtain ⟨p, c, e, _⟩ := GoodR.form hx.2
      exact ⟨by rw [hx.1]; exact hk _ (List.mem_cons_self ..), _, _, _, e⟩
    · exact ih (fun y hy => hk y (List.mem_cons_of_mem _ hy)) x hm
theorem RelG.cap {R : Value → List Int → Prop} [GoodR R] {rs : List Raw} {bs : Blobs} (h : RelG R rs bs) : ∀ x ∈ rs, ∀ p n c, x.2 = .slice p n c → n ≤ c := by
  induction h with
  | nil => intro x hx; cases hx
  | cons hx _ ih =>
    intro x hm p n c e
    rcases List.mem_cons.1 hm with rfl | hm
    · obtain ⟨p', c', e2, h2⟩ := GoodR.form hx.2
      rw [e2] at e
      simp only [Value.slice.injEq] at e
      obtain ⟨rfl, rfl, rfl⟩ := e
      exact h2
    · exact ih x hm p n c e
end Go.Proofs.Ytkephcmjigfepaa
