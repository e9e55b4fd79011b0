/- Texts behind each other. -/
import Derived.Test.YthjekbbldejlpaaZ03
import Derived.Laws.AppendOwnNone
import Derived.Test.YthjekbbldejlpaaRows
import Derived.Test.YthjekbbldejlpaaZ01
import Derived.Test.YthjekbbldejlpaaShelf
import Derived.WalkKit
import Derived.ProofKit
import Derived.OpenShut
import Derived.WalkLawsBesides
import Derived.WalkSpells
import Derived.Deep.QuietTactic
import Derived.BigQuiet
import Derived.Lib.Hide
import Derived.Handy
import Derived.Lib.MinMax
import Derived.WalkSmall
import Derived.Test.YthjekbbldejlpaaZ02
import Derived.Deep.Cut
import Derived.Laws.Rows
import Derived.Laws.Tables
import Derived.Laws.CopyOwn
/- Words of layer 8: all blobs as they were put last; how many bytes. No program. -/
set_option linter.unusedVariables false
namespace Go.Proofs.Ythjekbbldejlpaa
open Go Go.RowKit
abbrev isSl (v : Value) : Prop := ∃ p n c, v = .slice p n c
abbrev rawOk (l : List Raw) : Prop := ∀ x ∈ l, i64 x.1 ∧ isSl x.2
def slLen : Value → Nat
  | .slice _ n _ => n
  | _ => 0
def lenR : List Raw → Nat
  | [] => 0
  | x :: l => slLen x.2 + lenR l
theorem lenR_append (a b : List Raw) : lenR (a ++ b) = lenR a + lenR b := by
  induction a with
  | nil => simp [lenR]
  | cons x a ih => simp only [List.cons_append, lenR, ih]; omega
theorem lenR_take (l : List Raw) (k : Nat) : lenR (l.take k) ≤ lenR l := by
  conv => rhs; rw [← List.take_append_drop k l, lenR_append]
  omega
def nowF {β : Type} (s l : List (Int × β)) : List (Int × β) := l.foldl layF s
theorem nowF_snoc {β : Type} (s l : List (Int × β)) (x : Int × β) : nowF s (l ++ [x]) = layF (nowF s l) x := by simp [nowF]
theorem layS_mem {β : Type} (w : Int × β) (l : List (Int × β)) : ∀ k, k ≤ l.length → ∀ x ∈ (layS w (l.take k)).1, x ∈ l ∨ x = w
  | 0, _ => by simp [layS]
  | k + 1, h => by
    have ih := layS_mem w l k (by omega)
    rw [take_succ_get l k (by omega), layS_snoc]
    generalize layS w (l.take k) = s at *
    obtain ⟨A, d⟩ := s
    have hm : l[k] ∈ l := List.getElem_mem (by omega)
    intro x hx
    unfold layStep at hx
    by_cases h1 : w.1 ≤ l[k].1 <;> by_cases h2 : l[k].1 = w.1 <;> cases d <;> simp [h1, h2] at hx ih <;>
      first
      | (rcases hx with hx | hx | hx; first | exact ih _ hx | exact ih _ _ hx; exact .inr hx; exact .inl (hx ▸ hm))
      | (rcases hx with hx | hx; first | exact ih _ hx | exact ih _ _ hx; first | exact .inr hx | exact .inl (hx ▸ hm))
      | exact ih _ hx
      | exact ih _ _ hx
theorem layF_mem {β : Type} {w : Int × β} {l : List (Int × β)} {x : Int × β} (h : x ∈ layF l w) : x ∈ l ∨ x = w := by
  have hm := layS_mem w l l.length (Nat.le_refl _) x
  rw [List.take_length] at hm
  unfold layF at h
  split at h
  · exact hm h
  · rcases List.mem_append.1 h with h | h
    · exact hm h
    · exact .inr (by simpa using h)
theorem rawOk.lay {l : List Raw} {w : Raw} (h : rawOk l) (hw : i64 w.1 ∧ isSl w.2) : rawOk (layF l w) := fun x hx => by
  rcases layF_mem hx with hx | rfl
  · exact h x hx
  · exact hw
theorem rawOk.now {s l : List Raw} (hs : rawOk s) (hl : rawOk l) : ∀ k, k ≤ l.length → rawOk (nowF s (l.take k))
  | 0, _ => by simpa [nowF] using hs
  | k + 1, h => by
    rw [take_succ_get l k (by omega), nowF_snoc]
    exact (rawOk.now hs hl k (by omega)).lay (hl _ (List.getElem_mem _))
theorem nowF_len {β : Type} (s l : List (Int × β)) : ∀ k, k ≤ l.length → (nowF s (l.take k)).length ≤ s.length + k
  | 0, _ => by simp [nowF]
  | k + 1, h => by
    rw [take_succ_get l k (by omega), nowF_snoc]
    have := nowF_len s l k (by omega)
    have h2 := layF_len (nowF s (l.take k)) l[k]
    omega
/-- A key's blob. -/
def getF {β : Type} : List (Int × β) → Int → Option β
  | [], _ => none
  | x :: l, k => if x.1 = k then some x.2 else getF l k
theorem getF_at {β : Type} {k : Int} : ∀ {l : List (Int × β)} {j : Nat} (hj : j < l.length) (h : l[j].1 = k) (hn : ∀ i (hi : i < j), l[i].1 ≠ k), getF l k = some l[j].2
  | x :: l, 0, _, h, _ => by simp only [List.getElem_cons_zero] at h; simp [getF, h]
  | x :: l, j + 1, hj, h, hn => by
    have h0 := hn 0 (by omega)
    simp only [List.getElem_cons_zero] at h0
    simp only [List.getElem_cons_succ] at h ⊢
    rw [getF, if_neg h0]
    exact getF_at (by simpa using hj) h fun i hi => by have := hn (i + 1) (by omega); simpa using this
theorem getF_none {β : Type} {k : Int} : ∀ {l : List (Int × β)} (hn : ∀ i (hi : i < l.length), l[i].1 ≠ k), getF l k = none
  | [], _ => rfl
  | x :: l, hn => by
    have h0 := hn 0 (by simp)
    simp only [List.getElem_cons_zero] at h0
    rw [getF, if_neg h0]
    exact getF_none fun i hi => by have := hn (i + 1) (by simpa using hi); simpa using this
/-- The row lies not in that block. -/
def offR (b : Nat) (v : Value) (l : List Raw) : Prop := l = [] ∨ ∀ g off n c, v = .slice (some ⟨g, off, none⟩) n c → g ≠ b
theorem cell_far {w : World} {g o : Nat} {p : Addr} (hg : g ≠ p.block) (x : Value) : (w.setCell p x).cell? ⟨g, o, none⟩ = w.cell? ⟨g, o, none⟩ := by
  have := Below.heap_setCell w p x g hg
  simp only [World.cell?, this]
theorem RawAt.setCell {w : World} {v : Value} {l : List Raw} (h : RawAt w v l) {p : Addr} (ho : offR p.block v l) (x : Value) : RawAt (w.setCell p x) v l := by
  rcases h with h | ⟨g, off, cap, e, hc, hg, ⟨cur, f, ht⟩, hx⟩
  · exact .inl h
  · rcases ho with rfl | ho
    · exact .inl ⟨⟨_, _, e⟩, rfl⟩
    · have hne := ho _ _ _ _ e
      exact .inr ⟨g, off, cap, e, hc, by simpa using hg, ⟨cur, f, (Below.heap_setCell w p x g hne).trans ht⟩, fun j hj => by rw [cell_far hne, cell_far hne]; exact hx j hj⟩
theorem RawAt.off {w : World} {v : Value} {l : List Raw} (h : RawAt w v l) {b : Nat} (hb : w.heap.size ≤ b) : offR b v l := by
  rcases h with ⟨_, h⟩ | ⟨g, off, cap, e, hc, hg, _, hx⟩
  · exact .inl h
  · exact .inr fun g' off' n c e' => by
      rw [e] at e'
      simp only [Value.slice.injEq, Option.some.injEq, Addr.mk.injEq] at e'
      omega
theorem off_of_owned {w : World} {base : Nat} {e : TypeId} {v : Value} {size n : Nat} {xs : List Value} (h : w.ownsRow base e size v n xs) {b : Nat} (hb : b < base) (l : List Raw) : offR b v l := by
  rcases h.2 with ⟨rfl, hn⟩ | ⟨g, cap, cur, rfl, hg, _⟩
  · exact .inr fun g' off' n c e' => by simp at e'
  · exact .inr fun g' off' n c e' => by
      simp only [Value.slice.injEq, Option.some.injEq, Addr.mk.injEq] at e'
      omega
end Go.Proofs.Ythjekbbldejlpaa
/- Words of layer 8: a row of blobs, appended whole to none. No program. -/
set_option linter.unusedVariables false
set_option linter.unusedSimpArgs false
namespace Go.Proofs.Ythjekbbldejlpaa
open Go Go.RowKit
theorem RawAt.news {w : World} {v : Value} {l : List Raw} (h : RawAt w v l) : ∃ p cap, v = .slice p l.length cap ∧ (0 < l.length → ∃ g off, p = some ⟨g, off, none⟩ ∧ g < w.heap.size ∧ ∀ j u, (rawVs l)[j]? = some u → w.cell? ⟨g, off + j, none⟩ = some u) := by
  obtain ⟨p, cap, e, hf⟩ := h.form
  refine ⟨p, cap, e, fun h0 => ?_⟩
  obtain ⟨g, off, e2, _, hg, hx⟩ := hf h0
  refine ⟨g, off, e2, hg, fun j u hu => ?_⟩
  have hlt : j < l.length * 2 := by
    have := (List.getElem?_eq_some_iff.1 hu).1
    rwa [rawVs_length] at this
  have hk : j / 2 < l.length := by omega
  obtain ⟨h1, h2⟩ := rawVs_at l (j / 2) hk
  obtain ⟨c1, c2⟩ := hx (j / 2) hk
  rcases Nat.mod_two_eq_zero_or_one j with e | e
  · rw [show j / 2 * 2 = j by omega, hu] at h1
    rw [show off + j / 2 * 2 = off + j by omega] at c1
    rw [c1, Option.some.inj h1]
  · rw [show j / 2 * 2 + 1 = j by omega, hu] at h2
    rw [show off + j / 2 * 2 + 1 = off + j by omega] at c2
    rw [c2, Option.some.inj h2]
theorem rawVs_one {l : List Raw} (ok : rawOk l) : ∀ u ∈ rawVs l, u.oneCell' = true := fun u hu => by
  obtain ⟨r, hr, h⟩ := List.mem_flatMap.1 hu
  obtain ⟨_, p, n, c, e⟩ := ok r hr
  simp at h
  rcases h with rfl | rfl
  · rfl
  · rw [e]; rfl
/-- What a crash leaves: of those under way, one behind the other, k bytes are written. -/
def crashGo {β : Type} (len : β → Nat) (cut : β → Nat → β) : List (Int × β) → Nat → List (Int × β) → List (Int × β)
  | s, _, [] => s
  | s, k, x :: l => if len x.2 ≤ k then crashGo len cut (layF s x) (k - len x.2) l else layF s (x.1, cut x.2 k)
def slCut : Value → Nat → Value
  | .slice p _ c, k => .slice p k c
  | v, _ => v
theorem off_keep {b : Nat} {v : Value} {l : List Raw} (h : offR b v l) (l' : List Raw) (hl : l = [] → l' = []) : offR b v l' := by
  rcases h with h | h
  · exact .inl (hl h)
  · exact .inr h
theorem RawAt.set5 {w : World} {v : Value} {l : List Raw} {b : Nat} (h : RawAt w v l) (ho : offR b v l) (x0 x1 x2 x3 x4 : Value) :
    RawAt (((((w.setCell ⟨b, 0, none⟩ x0).setCell ⟨b, 1, none⟩ x1).setCell ⟨b, 2, none⟩ x2).setCell ⟨b, 3, none⟩ x3).setCell ⟨b, 4, none⟩ x4) v l :=
  ((((h.setCell (p := ⟨b, 0, none⟩) ho x0).setCell (p := ⟨b, 1, none⟩) ho x1).setCell (p := ⟨b, 2, none⟩) ho x2).setCell (p := ⟨b, 3, none⟩) ho x3).setCell (p := ⟨b, 4, none⟩) ho x4
section
variable {P : Program} {ops : Array Oper} {rest : List Oper} {o : Oper} {a : Act} {Q : Exit → Act → World → Prop}
/-- Blobs' row, appended to a nil one. -/
theorem app_raws (w : World) (hgd : o.guard = none) (s x : Operand) (t : TypeId) (ho : o.op = .call { callee := .builtin .append, args := #[s, x], argTypes := #[t, t] }) (e : TypeId) (i : TypeInfo) (z : Value)
    (ht : P.underlying t = some (.slice e)) (hi : P.info? e = some i) (hz : i.zero = some z) (hsize : i.size = 2) (hby : i.bytes = 32) (hzs : z.cells.size = 2)
    (hs : a.eval s = .slice none 0 0) (v : Value) (hx : a.eval x = v) (l : List Raw) (hl : RawAt w v l) (ok : rawOk l) (hN : l.length ≤ 1000000)
    (h : ∀ v' w', w'.ownsRow w.heap.size e 2 v' l.length (rawVs l) → Below w.heap.size w w' → wpList P ops Q rest (a.put o.dst v') w') : wpList P ops Q (o :: rest) a w := by
  obtain ⟨p, cap, rfl, hf⟩ := hl.news
  rcases p with _ | ad
  · have h0 : l = [] := by
      rcases Nat.eq_zero_or_pos l.length with h | h
      · exact List.length_eq_zero_iff.1 h
      · obtain ⟨g, off, e, _⟩ := hf h
        cases e
    subst h0
    refine wpList_plain hgd fun K hK => ?_
    have hrun : (Builtin.append_ #[t, t] o.type #[.slice none 0 0, .slice none 0 cap]).run P w = .ok (.slice none 0 0) w := by
      simp [Builtin.append_, run_underlying ht, sizeOf, typeInfo, hi, Builtin.lenOf, Builtin.firstCells, loadCells, loadCellsFrom]
    unfold Oper.wp
    simp [execOp, ho, resolve, invoke, builtin, hs, hx, hrun, Result.andThen]
    exact hK _ _ (h _ _ (World.ownsRow_nil _ _ _ _) (Below.refl _ _))
  · refine wpList_append_own w hgd s x t ho w.heap.size e i z 2 32 ht hi hz hsize hby hzs (by omega) _ 0 [] hs (World.ownsRow_nil _ _ _ _) ad l.length cap (rawVs l) hx (rawVs_length l) (fun j u hu => ?_) (rawVs_one ok) (by simp only [maxLen]; omega) (by omega) (Nat.le_refl _) (fun v' w' h2 h3 _ => h v' w' (by simpa using h2) (Below.own (Below.refl _ _) (World.ownsRow_nil w w.heap.size e 2) h3))
    have hj := (List.getElem?_eq_some_iff.1 hu).1
    rw [rawVs_length] at hj
    obtain ⟨g, off, e, hg, h⟩ := hf (by omega)
    cases e
    rw [Addr.add_lit]
    exact h j u hu
end
end Go.Proofs.Ythjekbbldejlpaa
/- Words of layer 8: blobs as bytes; what is done with a disk. No program. -/
set_option linter.unusedVariables false
set_option linter.unusedSimpArgs false
namespace Go.Proofs.Ythjekbbldejlpaa
open Go Go.RowKit
abbrev Blobs := List (Int × List Int)
def sumB : Blobs → Nat
  | [] => 0
  | x :: l => x.2.length + sumB l
theorem sumB_append (a b : Blobs) : sumB (a ++ b) = sumB a + sumB b := by
  induction a with
  | nil => simp [sumB]
  | cons x a ih => simp only [List.cons_append, sumB, ih]; omega
/-- What a relation of slices and bytes must keep to be a disk's. -/
class GoodR (R : Value → List Int → Prop) : Prop where
  form : ∀ {v : Value} {B : List Int}, R v B → ∃ p c, v = .slice p B.length c ∧ B.length ≤ c
  cut : ∀ {v : Value} {B : List Int} {k : Nat}, R v B → k ≤ B.length → R (slCut v k) (B.take k)
  nil : R (.slice none 0 0) []
/-- Keys the same, slices that read as the bytes. -/
inductive RelG (R : Value → List Int → Prop) : List Raw → Blobs → Prop
  | nil : RelG R [] []
  | cons {r : Raw} {b : Int × List Int} {rs : List Raw} {bs : Blobs} (hx : r.1 = b.1 ∧ R r.2 b.2) (hr : RelG R rs bs) : RelG R (r :: rs) (b :: bs)
abbrev RelR (w : World) : List Raw → Blobs → Prop := RelG (BytsAt w)
theorem byts_len {w : World} {v : Value} {B : List Int} (h : BytsAt w v B) : slLen v = B.length := by
  obtain ⟨p, c, rfl⟩ := h.shape
  rfl
theorem byts_cut {w : World} {v : Value} {B : List Int} (h : BytsAt w v B) {k : Nat} (hk : k ≤ B.length) : BytsAt w (slCut v k) (B.take k) := by
  obtain ⟨p, c, rfl⟩ := h.shape
  exact h.take hk
instance good_byts (w : World) : GoodR (BytsAt w) where
  form h := by
    obtain ⟨p, c, e, h2⟩ := h.form
    refine ⟨p, c, e, ?_⟩
    rcases Nat.eq_zero_or_pos (List.length _) with h0 | h0
    · omega
    · obtain ⟨_, _, _, h3, _⟩ := h2 h0; exact h3
  cut h hk := byts_cut h hk
  nil := BytsAt.nil
theorem gr_len {R : Value → List Int → Prop} [GoodR R] {v : Value} {B : List Int} (h : R v B) : slLen v = B.length := by
  obtain ⟨p, c, rfl, _⟩ := GoodR.form h
  rfl
theorem gr_cut {R : Value → List Int → Prop} [GoodR R] {v : Value} {B : List Int} (h : R v B) {k : Nat} (hk : k ≤ B.length) : R (slCut v k) (B.take k) := GoodR.cut h hk
theorem RelG.map {R R' : Value → List Int → Prop} {rs : List Raw} {bs : Blobs} (h : RelG R rs bs) (f : ∀ {v : Value} {B : List Int}, R v B → R' v B) : RelG R' rs bs := by
  induction h with
  | nil => exact .nil
  | cons hx _ ih => exact .cons ⟨hx.1, f hx.2⟩ ih
theorem RelG.keep {w w' : World} {rs : List Raw} {bs : Blobs} (h : RelR w rs bs) (hb : Below w.heap.size w w') : RelR w' rs bs := by
  induction h with
  | nil => exact .nil
  | cons hx _ ih => exact .cons ⟨hx.1, hx.2.keep hb⟩ ih
theorem RelG.len {R : Value → List Int → Prop} {rs : List Raw} {bs : Blobs} (h : RelG R rs bs) : rs.length = bs.length := by
  induction h with
  | nil => rfl
  | cons _ _ ih => simp [ih]
theorem rel_append {R : Value → List Int → Prop} {a c : List Raw} {b d : Blobs} (h : RelG R a b) (k : RelG R c d) : RelG R (a ++ c) (b ++ d) := by
  induction h with
  | nil => exact k
  | cons hx _ ih => exact .cons hx ih
theorem rel_one {R : Value → List Int → Prop} {k : Int} {v : Value} {B : List Int} (h : R v B) : RelG R [(k, v)] [(k, B)] := .cons ⟨rfl, h⟩ .nil
theorem rel_fold {R : Value → List Int → Prop} {k : Int} {v : Value} {B : List Int} (hv : R v B) : ∀ (rs : List Raw) (bs : Blobs), RelG R rs bs → ∀ (s : List Raw × Bool) (t : Blobs × Bool), RelG R s.1 t.1 → s.2 = t.2 →
    RelG R (rs.foldl (layStep (k, v)) s).1 (bs.foldl (layStep (k, B)) t).1 ∧ (rs.foldl (layStep (k, v)) s).2 = (bs.foldl (layStep (k, B)) t).2
  | [], [], _, s, t, h1, h2 => ⟨h1, h2⟩
  | (rk, rv) :: rs, (bk, bB) :: bs, h, (s1, s2), (t1, t2), h1, h2 => by
    cases h with
    | cons hx hr =>
      obtain ⟨e, hb⟩ := hx
      have e : rk = bk := e
      subst e
      have h2 : s2 = t2 := h2
      subst h2
      have h1 : RelG R s1 t1 := h1
      rw [List.foldl_cons, List.foldl_cons]
      refine rel_fold hv rs bs hr _ _ ?_ ?_
      · unfold layStep
        by_cases c1 : s2 = false ∧ k ≤ rk
        · simp only [if_pos c1]
          by_cases c2 : rk = k
          · simp only [if_pos c2]; exact rel_append h1 (rel_one hv)
          · simp only [if_neg c2]; exact rel_append (rel_append h1 (rel_one hv)) (rel_one hb)
        · simp only [if_neg c1]
          by_cases c2 : rk = k
          · simp only [if_pos c2]; exact h1
          · simp only [if_neg c2]; exact rel_append h1 (rel_one hb)
      · unfold layStep
        by_cases c1 : s2 = false ∧ k ≤ rk
        · simp only [if_pos c1]
          by_cases c2 : rk = k
          · simp only [if_pos c2]
          · simp only [if_neg c2]
        · simp only [if_neg c1]
          by_cases c2 : rk = k
          · simp only [if_pos c2]
          · simp only [if_neg c2]
  | [], _ :: _, h, _, _, _, _ => by cases h
  | _ :: _, [], h, _, _, _, _ => by cases h
theorem RelG.lay {R : Value → List Int → Prop} {k : Int} {v : Value} {B : List Int} {rs : List Raw} {bs : Blobs} (h : RelG R rs bs) (hv : R v B) : RelG R (layF rs (k, v)) (layF bs (k, B)) := by
  obtain ⟨h1, h2⟩ := rel_fold (k := k) hv rs bs h ([], false) ([], false) .nil rfl
  have h1 : RelG R (layS (k, v) rs).1 (layS (k, B) bs).1 := h1
  have h2 : (layS (k, v) rs).2 = (layS (k, B) bs).2 := h2
  unfold layF
  rw [h2]
  split
  · exact h1
  · exact rel_append h1 (rel_one hv)
theorem RelG.now {R : Value → List Int → Prop} : ∀ {l : List Raw} {m : Blobs}, RelG R l m → ∀ {s : List Raw} {t : Blobs}, RelG R s t → RelG R (nowF s l) (nowF t m)
  | [], [], _, _, _, hs => hs
  | (k, v) :: l, (k', B) :: m, h, s, t, hs => by
    cases h with
    | cons hx hr =>
      obtain ⟨e, hb⟩ := hx
      have e : k = k' := e
      subst e
      exact RelG.now hr (hs.lay hb)
  | [], _ :: _, h, _, _, _ => by cases h
  | _ :: _, [], h, _, _, _ => by cases h
theorem RelG.sum {R : Value → List Int → Prop} [GoodR R] {rs : List Raw} {bs : Blobs} (h : RelG R rs bs) : lenR rs = sumB bs := by
  induction h with
  | nil => rfl
  | cons hx _ ih => rw [lenR, sumB, ih, gr_len hx.2]
theorem RelG.crash {R : Value → List Int → Prop} [GoodR R] : ∀ {l : List Raw} {m : Blobs}, RelG R l m → ∀ {s : List Raw} {t : Blobs} (k : Nat), RelG R s t → RelG R (crashGo slLen slCut s k l) (crashGo List.length (fun B k => B.take k) t k m)
  | [], [], _, _, _, _, hs => hs
  | (q, v) :: l, (q', B) :: m, h, s, t, k, hs => by
    cases h with
    | cons hx hr =>
      obtain ⟨e, hb⟩ := hx
      have e : q = q' := e
      subst e
      have hl := gr_len hb
      have e1 : crashGo slLen slCut s k ((q, v) :: l) = if B.length ≤ k then crashGo slLen slCut (layF s (q, v)) (k - B.length) l else layF s (q, slCut v k) := by
        rw [← hl]; rfl
      have e2 : crashGo List.length (fun B k => B.take k) t k ((q, B) :: m) = if B.length ≤ k then crashGo List.length (fun B k => B.take k) (layF t (q, B)) (k - B.length) m else layF t (q, B.take k) := rfl
      rw [e1, e2]
      by_cases c : B.length ≤ k
      · rw [if_pos c, if_pos c]; exact RelG.crash hr _ (hs.lay hb)
      · rw [if_neg c, if_neg c]; exact hs.lay (gr_cut (k := k) hb (Nat.le_of_lt (Nat.lt_of_not_le c)))
  | [], _ :: _, h, _, _, _, _ => by cases h
  | _ :: _, [], h, _, _, _, _ => by cases h
theorem RelG.get {R : Value → List Int → Prop} {k : Int} : ∀ {l : List Raw} {m : Blobs}, RelG R l m → (getF l k = none ∧ getF m k = none) ∨ ∃ v B, getF l k = some v ∧ getF m k = some B ∧ R v B
  | [], [], _ => .inl ⟨rfl, rfl⟩
  | (q, v) :: l, (q', B) :: m, h => by
    cases h with
    | cons hx hr =>
      obtain ⟨e, hb⟩ := hx
      have e : q = q' := e
      subst e
      rw [getF, getF]
      by_cases c : q = k
      · rw [if_pos c, if_pos c]; exact .inr ⟨v, B, rfl, rfl, hb⟩
      · rw [if_neg c, if_neg c]; exact RelG.get hr
  | [], _ :: _, h => by cases h
  | _ :: _, [], h => by cases h
def keysOk (l : Blobs) : Prop := ∀ x ∈ l, i64 x.1
theorem RelG.ok {R : Value → List Int → Prop} [GoodR R] {rs : List Raw} {bs : Blobs} (h : RelG R rs bs) (hk : keysOk bs) : rawOk rs := by
  induction h with
  | nil => intro x hx; cases hx
  | cons hx _ ih =>
    intro x hm
    rcases List.mem_cons.1 hm with rfl | hm
    · obtain ⟨p, c, e, _⟩ := GoodR.form hx.2
      exact ⟨by rw [hx.1]; exact hk _ (List.mem_cons_self ..), _, _, _, e⟩
    · exact ih (fun y hy => hk y (List.mem_cons_of_mem _ hy)) x hm
theorem RelG.cap {R : Value → List Int → Prop} [GoodR R] {rs : List Raw} {bs : Blobs} (h : RelG R rs bs) : ∀ x ∈ rs, ∀ p n c, x.2 = .slice p n c → n ≤ c := by
  induction h with
  | nil => intro x hx; cases hx
  | cons hx _ ih =>
    intro x hm p n c e
    rcases List.mem_cons.1 hm with rfl | hm
    · obtain ⟨p', c', e2, h2⟩ := GoodR.form hx.2
      rw [e2] at e
      simp only [Value.slice.injEq] at e
      obtain ⟨rfl, rfl, rfl⟩ := e
      exact h2
    · exact ih x hm p n c e
end Go.Proofs.Ythjekbbldejlpaa
/- Contracts of layer 2's reference. -/
set_option linter.unusedVariables false
namespace Go.Proofs.Ythjekbbldejlpaa
open Go.ChangeShapes Go.WideShapes Go.ChangeAt Go.RowKit
attribute [local go_sem ↓] Go.wp_at_zero Go.wp_at_succ
end Go.Proofs.Ythjekbbldejlpaa
/- Contracts of layer 2's reference: a box made good; what is near 0. -/
set_option linter.unusedVariables false
namespace Go.Proofs.Ythjekbbldejlpaa
open Go.ChangeShapes Go.WideShapes Go.ChangeAt Go.RowKit
attribute [local go_sem ↓] Go.wp_at_zero Go.wp_at_succ
theorem r_around (n m : Int) (h0 : -9223372036854775808 ≤ n) (h1 : n ≤ 9223372036854775807) (hm : 1 ≤ m) (hm1 : m ≤ 9223372036854775807) (w : World) : Calls Try.prog 13 #[.int .i64 n, .int .i64 m] w fun e w' => e = .returned (.int .i64 (aroundF n m)) ∧ w = w' := by
  have em : (m == 0) = false := by rw [beq_eq_false_iff_ne]; omega
  unfold aroundF
  by_cases hn : n < 0
  · rw [if_pos hn]
    have e : -(n + 1).tmod m = -(n + 1) % m := by rw [← Int.neg_tmod]; exact Int.tmod_eq_emod_of_nonneg (by omega)
    have E := Lib.hid e
    clear e
    go_enter Try.func13, Try.ntmps13
    go_wp2
    go_ret
    exact ⟨ret_int E.out, rfl⟩
  · rw [if_neg hn]
    go_enter Try.func13, Try.ntmps13
    go_wp2
    go_ret
    exact ⟨rfl, rfl⟩
end Go.Proofs.Ythjekbbldejlpaa
/- Rows: a block's cells told whole, and carried from world to world. No program. -/
set_option linter.unusedVariables false
set_option linter.unusedSimpArgs false
namespace Go.Proofs.Ythjekbbldejlpaa
open Go Go.RowKit
/-- Block b holds those cells, and may be written. -/
def RowAt (w : World) (b : Nat) (cs : Array Value) (t : TypeId) : Prop := w.heap[b]? = some (.cells cs t (0, 0))
section
variable {w w' : World} {b : Nat} {cs : Array Value} {t : TypeId}
theorem RowAt.lt (h : RowAt w b cs t) : b < w.heap.size := (Array.getElem?_eq_some_iff.1 h).1
theorem RowAt.cell (h : RowAt w b cs t) (j : Nat) : w.cell? ⟨b, j, none⟩ = cs[j]? := cell_of_row w b j cs t (0, 0) h
theorem RowAt.frozen (h : RowAt w b cs t) (j : Nat) : w.frozen? ⟨b, j, none⟩ = false := by
  unfold RowAt at h
  simp [World.frozen?, h]
theorem RowAt.keep (h : RowAt w b cs t) (hb : Below w.heap.size w w') : RowAt w' b cs t := (hb.block b h.lt).trans h
theorem RowAt.other (h : RowAt w b cs t) {p : Addr} (hp : b ≠ p.block) (v : Value) : RowAt (w.setCell p v) b cs t := (Below.heap_setCell w p v b hp).trans h
theorem RowAt.alloc (h : RowAt w b cs t) (o : Obj) : RowAt (w.alloc o) b cs t := (Below.heap_alloc w o b h.lt).trans h
theorem RowAt.new (w : World) (cs : Array Value) (t : TypeId) : RowAt (w.alloc (.cells cs t)) w.heap.size cs t := by
  show (w.heap.push _)[w.heap.size]? = _
  simp
theorem RowAt.make (w : World) (cs : Array Value) (t : TypeId) {b : Nat} (h : w.heap.size = b) : RowAt (w.alloc (.cells cs t)) b cs t := h ▸ RowAt.new w cs t
theorem RowAt.set (h : RowAt w b cs t) (k : Nat) (v : Value) : RowAt (w.setCell ⟨b, k, none⟩ v) b (cs.setIfInBounds k v) t := by
  unfold RowAt at *
  have hlt : b < w.heap.size := (Array.getElem?_eq_some_iff.1 h).1
  have hv : w.heap[b] = .cells cs t (0, 0) := (Array.getElem?_eq_some_iff.1 h).2
  simp only [World.setCell]
  rw [Array.getElem?_eq_getElem (by simpa using hlt), Array.getElem_modify]
  simp [hv]
theorem RowAt.row (h : RowAt w b cs t) (cs' : Array Value) : RowAt (w.setRow b cs') b cs' t := setRow_heap w b cs cs' t (0, 0) h
theorem RowAt.row_other (h : RowAt w b cs t) {g : Nat} (hg : b ≠ g) (cs' : Array Value) : RowAt (w.setRow g cs') b cs t := (setRow_other w g b cs' hg).trans h
end
theorem RowAt.two {w : World} {b : Nat} {x y : Value} {t : TypeId} (h : RowAt w b #[x, y] t) : w.cell? ⟨b, 0, none⟩ = some x ∧ w.cell? ⟨b, 1, none⟩ = some y := ⟨by rw [h.cell]; rfl, by rw [h.cell]; rfl⟩
theorem RowAt.one {w : World} {b : Nat} {x : Value} {t : TypeId} (h : RowAt w b #[x] t) : w.cell? ⟨b, 0, none⟩ = some x := by rw [h.cell]; rfl
end Go.Proofs.Ythjekbbldejlpaa
