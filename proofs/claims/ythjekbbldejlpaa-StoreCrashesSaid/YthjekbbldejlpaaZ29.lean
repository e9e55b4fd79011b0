/- Texts behind each other. -/
import Derived.Test.YthjekbbldejlpaaZ20
import Derived.Test.YthjekbbldejlpaaZ16
import Derived.Test.YthjekbbldejlpaaZ27
import Derived.Test.YthjekbbldejlpaaZ12
import Derived.Test.YthjekbbldejlpaaZ18
/- The maths of layer 9: what a deed but Spoil does to what is told of a crash. -/
set_option linter.unusedVariables false
set_option linter.unusedSimpArgs false
namespace Go.Proofs.Ythjekbbldejlpaa
open Go Go.RowKit
/-- No blob that is under way is empty. -/
def Full (d : St) : Prop := ∀ x ∈ d.under, 0 < x.2.length
theorem full_nil : ∀ {l : Blobs}, (∀ x ∈ l, 0 < x.2.length) → sumB l = 0 → l = []
  | [], _, _ => rfl
  | (q, B) :: l, h, h0 => by
    have h1 := h (q, B) (List.mem_cons_self ..)
    have e : sumB ((q, B) :: l) = B.length + sumB l := rfl
    rw [e] at h0
    simp only at h1
    omega
theorem save_cases (d : St) (k : Int) (B : List Int) :
    ((saveSt d k B).1.safe = d.safe ∧ (saveSt d k B).1.under = d.under) ∨
    wr9 ((of9 d k).2.1 + 1) B = true ∧ ((saveSt d k B).1.safe = d.safe ∧ (saveSt d k B).1.under = d.under ++ [(4 * k + 1 - (of9 d k).1, recF ((of9 d k).2.1 + 1) B)] ∨
      (saveSt d k B).1.safe = nowF d.safe (d.under ++ [(4 * k + 1 - (of9 d k).1, recF ((of9 d k).2.1 + 1) B)]) ∧ (saveSt d k B).1.under = []) := by
  unfold saveSt
  split
  · split
    · rename_i hw
      generalize (4 * k + 1 - (of9 d k).1) = q
      generalize recF ((of9 d k).2.1 + 1) B = X
      unfold putSt
      split
      · rw [if_neg (by simp)]; exact .inl ⟨rfl, rfl⟩
      · split
        · rw [if_neg (by simp)]; exact .inl ⟨rfl, rfl⟩
        · rw [if_pos rfl]
          refine .inr ⟨hw, ?_⟩
          unfold syncSt
          split
          · exact .inl ⟨rfl, rfl⟩
          · exact .inr ⟨rfl, rfl⟩
    · exact .inl ⟨rfl, rfl⟩
  · exact .inl ⟨rfl, rfl⟩
theorem of9_all {d d' : St} (h : d'.all = d.all) (k : Int) : of9 d' k = of9 d k := by unfold of9; rw [h]
theorem all_same {d d' : St} (h1 : d'.safe = d.safe) (h2 : d'.under = d.under) : d'.all = d.all := by unfold St.all; rw [h1, h2]
/-- The next record is there. -/
theorem Told.next {d : St} {k : Int} {L : List (List Int)} {t : Int} (h : Told d.safe d.under k L t) (hs : Srt d.safe) {B : List Int} (hw : wr9 ((of9 d k).2.1 + 1) B = true) {d' : St}
    (he : d'.all = nowF d.safe (d.under ++ [(4 * k + 1 - (of9 d k).1, recF ((of9 d k).2.1 + 1) B)])) : (of9 d' k).2.1 = (of9 d k).2.1 + 1 := by
  obtain ⟨v, B0, s, Bs, h1, h2, h3, h4, h5⟩ := h.has
  obtain ⟨s', g1, g2⟩ := chain_now h2 hs h1
  have e : of9 d k = (2 * k + (if s' = true then 1 else 0), v + Bs.length, (B0 :: Bs)[Bs.length]?.getD []) := HasP.of g1 k
  rw [e] at hw he ⊢
  simp only at hw he ⊢
  have g3 := g2 hw
  have hto : 4 * k + 1 - (2 * k + (if s' = true then 1 else 0)) = 2 * k + (if s' = true then 0 else 1) := by split <;> omega
  rw [hto] at he
  obtain ⟨s'', r1, _⟩ := chain_now g3 hs h1
  have e2 : of9 d' k = (2 * k + (if s'' = true then 1 else 0), v + ((Bs ++ [B]).length : Nat), (B0 :: (Bs ++ [B]))[(Bs ++ [B]).length]?.getD []) := by
    unfold of9
    rw [he]
    exact HasP.of r1 k
  rw [e2]
  simp only [List.length_append, List.length_singleton]
  omega
theorem told_save {d : St} {k K : Int} {B : List Int} {L : List (List Int)} {t : Int} (h : Told d.safe d.under k L t) (hs : Srt d.safe) :
    Told (saveSt d K B).1.safe (saveSt d K B).1.under k (if k = K ∧ (of9 d k).2.1 < (of9 (saveSt d K B).1 k).2.1 then L.take (of9 d k).2.1.toNat ++ [B] else L) t := by
  rcases save_cases d K B with ⟨e1, e2⟩ | ⟨hw, hc⟩
  · rw [of9_all (all_same e1 e2), if_neg (fun h => Int.lt_irrefl _ h.2), e1, e2]
    exact h
  · have hal : (saveSt d K B).1.all = nowF d.safe (d.under ++ [(4 * K + 1 - (of9 d K).1, recF ((of9 d K).2.1 + 1) B)]) := by
      unfold St.all
      rcases hc with ⟨e1, e2⟩ | ⟨e1, e2⟩ <;> rw [e1, e2]
      rfl
    have key : Told d.safe (d.under ++ [(4 * K + 1 - (of9 d K).1, recF ((of9 d K).2.1 + 1) B)]) k (if k = K ∧ (of9 d k).2.1 < (of9 (saveSt d K B).1 k).2.1 then L.take (of9 d k).2.1.toNat ++ [B] else L) t := by
      by_cases hk : k = K
      · subst hk
        have hn := h.next hs hw hal
        rw [hn, if_pos ⟨rfl, by omega⟩]
        exact h.put hs hw
      · rw [if_neg (fun h => hk h.1)]
        rcases of9_slot d K with e | e <;> rw [e] <;> exact h.other (by omega) (by omega)
    rcases hc with ⟨e1, e2⟩ | ⟨e1, e2⟩
    · rw [e1, e2]; exact key
    · rw [e1, e2]; exact key.sync hs
theorem told_sync {d : St} {k : Int} {L : List (List Int)} {t : Int} (h : Told d.safe d.under k L t) (hs : Srt d.safe) : Told (syncSt d).1.safe (syncSt d).1.under k L t := by
  unfold syncSt
  split
  · exact h
  · exact h.sync hs
/-- What a deed but Spoil does. -/
theorem told_does {d : St} {k : Int} {L : List (List Int)} {t : Int} (h : Told d.safe d.under k L t) (hs : Srt d.safe) (kind id num x : Int) (h4 : kind ≠ 4) (B : List Int) :
    Told (does9 d kind id num x B).safe (does9 d kind id num x B).under k (if k = aroundF id 4 ∧ kind = 0 ∧ (of9 d k).2.1 < (of9 (does9 d kind id num x B) k).2.1 then L.take (of9 d k).2.1.toNat ++ [B.take 20] else L) t := by
  by_cases e0 : kind = 0
  · subst e0
    have e : does9 d 0 id num x B = (saveSt d (aroundF id 4) (B.take 20)).1 := by unfold does9; rw [if_pos rfl]
    rw [e]
    have := told_save (K := aroundF id 4) (B := B.take 20) h hs
    simpa using this
  · rw [if_neg (fun h => e0 h.2.1)]
    unfold does9
    rw [if_neg e0]
    split
    · exact told_sync h hs
    · split
      · exact h.crash hs _
      · split
        · exact h
        · first | exact h | (rw [if_neg h4]; exact h)
theorem full_does {d : St} (h : Full d) (kind id num x : Int) (h4 : kind ≠ 4) (B : List Int) : Full (does9 d kind id num x B) := by
  unfold does9
  split
  · rcases save_cases d (aroundF id 4) (B.take 20) with ⟨e1, e2⟩ | ⟨hw, ⟨e1, e2⟩ | ⟨e1, e2⟩⟩
    · unfold Full; rw [e2]; exact h
    · unfold Full
      rw [e2]
      intro y hy
      rcases List.mem_append.1 hy with h1 | h1
      · exact h y h1
      · rw [List.mem_singleton.1 h1]
        simp only
        rw [recF_len]
        omega
    · unfold Full; rw [e2]; intro y hy; cases hy
  · split
    · unfold syncSt
      split
      · exact h
      · intro y hy; cases hy
    · split
      · intro y hy; cases hy
      · split
        · exact h
        · first | exact h | (rw [if_neg h4]; exact h)
end Go.Proofs.Ythjekbbldejlpaa
/- Layer 9: rows of one's own beside a store: cut, and told apart by where they lie. No program. -/
set_option linter.unusedVariables false
set_option linter.unusedSimpArgs false
namespace Go.Proofs.Ythjekbbldejlpaa
open Go.ChangeShapes Go.WideShapes Go.ChangeAt Go.RowKit
/-- The first of an owned row's elements. -/
theorem own_cut {w : World} {base : Nat} {e : TypeId} {size n n' cap : Nat} {p : Option Addr} {xs : List Value} (h : w.ownsRow base e size (.slice p n cap) n xs) (hn : n' ≤ n) : w.ownsRow base e size (.slice p n' cap) n' (xs.take (n' * size)) := by
  refine ⟨by rw [List.length_take, h.1]; exact Nat.min_eq_left (Nat.mul_le_mul_right _ hn), ?_⟩
  rcases h.2 with ⟨h1, h2⟩ | ⟨g, cap', cur, hv, hb, hg, hc, hm, hs, ht⟩
  · cases h1
    have h0 : n' = 0 := by omega
    subst h0
    exact .inl ⟨rfl, rfl⟩
  · simp only [Value.slice.injEq] at hv
    obtain ⟨rfl, _, rfl⟩ := hv
    refine .inr ⟨g, cap, cur, rfl, hb, hg, by omega, hm, hs, ?_⟩
    rw [← ht, List.take_take, Nat.min_eq_left (Nat.mul_le_mul_right _ hn)]
/-- A row outside of the footprint stays, and stays outside. -/
theorem Step.out {F F' : Foot} {w w' : World} (hs : Step F F' w w') {b : Nat} {cs : Array Value} {t : TypeId} (r : RowAt w b cs t) (hn : ¬ F b) : RowAt w' b cs t ∧ ¬ F' b :=
  ⟨(hs.block b r.lt hn).trans r, fun h => (hs.fresh b h).elim hn (fun h2 => by have := r.lt; omega)⟩
def Outside (F : Foot) (v : Value) : Prop := ∀ g, v.ownBlock = some g → ¬ F g
theorem Step.own_out {F F' : Foot} {w w' : World} (hs : Step F F' w w') {base : Nat} {e : TypeId} {size n : Nat} {v : Value} {xs : List Value} (ho : w.ownsRow base e size v n xs) (hn : Outside F v) : w'.ownsRow base e size v n xs ∧ Outside F' v := by
  refine ⟨⟨ho.1, ?_⟩, fun g hg h => (hs.fresh g h).elim (hn g hg) (fun h2 => by have := (ho.lt g hg).2; omega)⟩
  rcases ho.2 with h1 | ⟨g, cap, cur, hv, hb, hg, hrest⟩
  · exact .inl h1
  · refine .inr ⟨g, cap, cur, hv, hb, ?_, hrest⟩
    have hlt : g < w.heap.size := (Array.getElem?_eq_some_iff.1 hg).1
    rw [hs.block g hlt (hn g (by rw [hv]; rfl))]
    exact hg
end Go.Proofs.Ythjekbbldejlpaa
/- Layer 9: the bodies that were saved, four rows of one's own beside a store. No program. -/
set_option linter.unusedVariables false
set_option linter.unusedSimpArgs false
namespace Go.Proofs.Ythjekbbldejlpaa
open Go.ChangeShapes Go.WideShapes Go.ChangeAt Go.RowKit
/-- One element of one cell more at the end of a row that is owned, and where the row lies then. -/
theorem app_one_fresh {P : Program} {ops : Array Oper} {rest : List Oper} {o : Oper} {a : Act} {Q : Exit → Act → World → Prop} (w : World) (hgd : o.guard = none) (s x : Operand) (t : TypeId) (ho : o.op = .call { callee := .builtin .append, args := #[s, x], argTypes := #[t, t] }) (base : Nat) (e : TypeId) (i : TypeInfo) (z : Value)
    (ht : P.underlying t = some (.slice e)) (hi : P.info? e = some i) (hz : i.zero = some z) (hsize : i.size = 1) (hby : i.bytes = 24) (hzs : z.cells.size = 1)
    (v : Value) (n : Nat) (xs : List Value) (hs : a.eval s = v) (hown : w.ownsRow base e 1 v n xs) (g : Nat) (c : Value) (hx : a.eval x = .slice (some ⟨g, 0, none⟩) 1 1) (hc : w.cell? ⟨g, 0, none⟩ = some c)
    (h1 : c.oneCell' = true) (hN : n ≤ 1000000) (hbase : base ≤ w.heap.size)
    (h : ∀ v' w', w'.ownsRow base e 1 v' (n + 1) (xs ++ [c]) → w.grownBy w' v.ownBlock → (v'.ownBlock = v.ownBlock ∨ v'.ownBlock = some w.heap.size) → wpList P ops Q rest (a.put o.dst v') w') : wpList P ops Q (o :: rest) a w :=
  wpList_plain hgd fun K hK => by
    have hnews : ∀ j u, [c][j]? = some u → w.cell? ((⟨g, 0, none⟩ : Addr).add j) = some u := fun j u hu => by
      match j, hu with
      | 0, hu => simp at hu; subst hu; simpa [Addr.add] using hc
      | j + 1, hu => simp at hu
    have h12 : ∀ u ∈ [c], u.oneCell' = true := fun u hu => by
      simp at hu
      subst hu
      exact h1
    obtain ⟨v', w', hr, k2, k3, _⟩ := run_append_own (P := P) w base t o.type e i z 1 24 ht hi hz hsize hby hzs (by omega) v n xs hown ⟨g, 0, none⟩ 1 1 [c] rfl hnews h12 (by simp only [maxLen]; omega) (by omega) hbase
    obtain ⟨v2, w2, hr2, k5⟩ := run_append_fresh (P := P) w base t o.type e i z ht hi hz v n xs (by rw [hsize]; exact hown) ⟨g, 0, none⟩ 1 1 [c] (by rw [hsize]; rfl) hnews h12 (by simp only [maxLen]; omega) (by rw [hby]; omega) (by omega)
    rw [hr] at hr2
    cases hr2
    unfold Oper.wp execOp
    simp only [ho, resolve, invoke, builtin, Sem.run_bind, Sem.run_pure, Result.andThen_ok, List.map_toArray, List.map_cons, List.map_nil, hs, hx, hr]
    exact hK _ _ (h v' w' k2 k3 k5)
theorem bytss_info : ∃ i, Try.prog.info? 22 = some i ∧ i.zero = some (.slice none 0 0) ∧ i.size = 1 ∧ i.bytes = 24 := by
  obtain ⟨i, hi⟩ : ∃ i, Try.prog.info? 22 = some i := Option.isSome_iff_exists.1 (by kernel_rfl)
  have h : (Try.prog.info? 22).map (fun i => (i.zero, i.size, i.bytes)) = some (some (.slice none 0 0), 1, 24) := by kernel_rfl
  rw [hi] at h
  simp at h
  exact ⟨i, hi, h.1, h.2.1, h.2.2⟩
/-- The bodies that were saved: four rows of one's own, outside of the footprint and apart, of slices that lay so in w0. -/
structure Bods (w0 w : World) (F : Foot) (base : Nat) (vs : Nat → Value) (Ls : Nat → List (List Int)) : Prop where
  own : ∀ k, k < 4 → ∃ xs, w.ownsRow base 22 1 (vs k) (Ls k).length xs ∧ ∀ (j : Nat) (B : List Int), (Ls k)[j]? = some B → ∃ v, xs[j]? = some v ∧ BytsAt w0 v B ∧ bytOk B
  out : ∀ k, k < 4 → Outside F (vs k)
  apart : ∀ i j, i < 4 → j < 4 → i ≠ j → ∀ g, (vs i).ownBlock = some g → (vs j).ownBlock ≠ some g
theorem Bods.step {w0 w w' : World} {F F' : Foot} {base : Nat} {vs : Nat → Value} {Ls : Nat → List (List Int)} (h : Bods w0 w F base vs Ls) (hs : Step F F' w w') : Bods w0 w' F' base vs Ls :=
  ⟨fun k hk => let ⟨xs, h1, h2⟩ := h.own k hk; ⟨xs, (hs.own_out h1 (h.out k hk)).1, h2⟩, fun k hk => let ⟨_, h1, _⟩ := h.own k hk; (hs.own_out h1 (h.out k hk)).2, h.apart⟩
theorem Bods.keep {w0 w w' : World} {F : Foot} {base : Nat} {vs : Nat → Value} {Ls : Nat → List (List Int)} (h : Bods w0 w F base vs Ls) (hb : Below w.heap.size w w') : Bods w0 w' F base vs Ls := h.step (Step.of hb)
theorem Bods.start (w0 w : World) (F : Foot) (base : Nat) : Bods w0 w F base (fun _ => .slice none 0 0) (fun _ => []) :=
  ⟨fun k _ => ⟨[], World.ownsRow_nil _ _ _ _, fun j B h => by simp at h⟩, fun k _ g h => (by cases h), fun i j _ _ _ g h => (by cases h)⟩
/-- Its slice, as it reads. -/
theorem Bods.form {w0 w : World} {F : Foot} {base : Nat} {vs : Nat → Value} {Ls : Nat → List (List Int)} (h : Bods w0 w F base vs Ls) {k : Nat} (hk : k < 4) : ∃ p cap, vs k = .slice p (Ls k).length cap := let ⟨_, h1, _⟩ := h.own k hk; own_form h1
/-- An element. -/
theorem Bods.get {w0 w : World} {F : Foot} {base : Nat} {vs : Nat → Value} {Ls : Nat → List (List Int)} (h : Bods w0 w F base vs Ls) {k : Nat} (hk : k < 4) {j : Nat} {B : List Int} (hj : (Ls k)[j]? = some B) :
    ∃ g cap v, vs k = .slice (some ⟨g, 0, none⟩) (Ls k).length cap ∧ g < w.heap.size ∧ j < (Ls k).length ∧ w.cell? ⟨g, j, none⟩ = some v ∧ BytsAt w0 v B ∧ bytOk B := by
  obtain ⟨xs, h1, h2⟩ := h.own k hk
  have hlt : j < (Ls k).length := (List.getElem?_eq_some_iff.1 hj).1
  obtain ⟨v, e, hb, ho⟩ := h2 j B hj
  obtain ⟨g, cap, hv⟩ := own_some h1 (by omega)
  rw [hv] at h1
  exact ⟨g, cap, v, hv, (own_open h1).2, hlt, own_cell h1 j e, hb, ho⟩
/-- A cell of another kind of row is written. -/
theorem Bods.set {w0 w : World} {F : Foot} {base : Nat} {vs : Nat → Value} {Ls : Nat → List (List Int)} (h : Bods w0 w F base vs Ls) {b : Nat} {cs : Array Value} {t : TypeId} (r : RowAt w b cs t) (ht : t ≠ 22) (o : Nat) (x : Value) : Bods w0 (w.setCell ⟨b, o, none⟩ x) F base vs Ls := by
  refine ⟨fun k hk => ?_, h.out, h.apart⟩
  obtain ⟨xs, h1, h2⟩ := h.own k hk
  refine ⟨xs, ⟨h1.1, ?_⟩, h2⟩
  rcases h1.2 with h3 | ⟨g, cap, cur, hv, hb, hg, hrest⟩
  · exact .inl h3
  · have hne : g ≠ b := fun e => by
      subst e
      have h8 := r
      unfold RowAt at h8
      rw [hg] at h8
      simp only [Option.some.injEq, Obj.cells.injEq] at h8
      exact ht h8.2.1.symm
    exact .inr ⟨g, cap, cur, hv, hb, (Below.heap_setCell w ⟨b, o, none⟩ x g hne).trans hg, hrest⟩
/-- A body more, behind the first of those that were. -/
theorem Bods.app {w0 w w' : World} {F : Foot} {base : Nat} {vs : Nat → Value} {Ls : Nat → List (List Int)} (h : Bods w0 w F base vs Ls) {K : Nat} (hK : K < 4) {v' : Value} {n : Nat} {xs : List Value} {c : Value} {B : List Int}
    (hF : ∀ b, F b → b < w.heap.size) (hn : n ≤ (Ls K).length) (ho : w.ownsRow base 22 1 (vs K) (Ls K).length xs) (hx : ∀ (j : Nat) (B : List Int), (Ls K)[j]? = some B → ∃ v, xs[j]? = some v ∧ BytsAt w0 v B ∧ bytOk B)
    (h1 : w'.ownsRow base 22 1 v' (n + 1) (xs.take n ++ [c])) (h2 : w.grownBy w' (vs K).ownBlock) (h3 : v'.ownBlock = (vs K).ownBlock ∨ v'.ownBlock = some w.heap.size) (hc : BytsAt w0 c B) (oB : bytOk B) :
    Bods w0 w' F base (fun i => if i = K then v' else vs i) (fun i => if i = K then (Ls K).take n ++ [B] else Ls i) := by
  have hlen : ((Ls K).take n ++ [B]).length = n + 1 := by simp; omega
  have hxl : xs.length = (Ls K).length := by have := ho.1; omega
  refine ⟨fun k hk => ?_, fun k hk => ?_, fun i j hi hj hij => ?_⟩
  · by_cases e : k = K
    · simp only [e, if_true, hlen]
      refine ⟨_, h1, fun j C hj => ?_⟩
      by_cases hjn : j < n
      · rw [List.getElem?_append_left (by rw [List.length_take]; omega), List.getElem?_take_of_lt hjn] at hj
        obtain ⟨v, e1, e2⟩ := hx j C hj
        exact ⟨v, by rw [List.getElem?_append_left (by rw [List.length_take]; omega), List.getElem?_take_of_lt hjn]; exact e1, e2⟩
      · have hjl : j < ((Ls K).take n ++ [B]).length := (List.getElem?_eq_some_iff.1 hj).1
        have hj2 : j = n := by omega
        subst hj2
        have hl1 : ((Ls K).take j).length = j := by rw [List.length_take]; omega
        have hl2 : (xs.take j).length = j := by rw [List.length_take]; omega
        rw [List.getElem?_append_right (by omega), hl1] at hj
        simp at hj
        subst hj
        exact ⟨c, by rw [List.getElem?_append_right (by omega), hl2]; simp, hc, oB⟩
    · simp only [if_neg e]
      obtain ⟨ys, g1, g2⟩ := h.own k hk
      refine ⟨ys, g1.kept h2 ?_, g2⟩
      cases hb : (vs k).ownBlock with
      | none => exact .inl rfl
      | some g => exact .inr (fun e2 => h.apart k K hk hK e g hb e2.symm)
  · by_cases e : k = K
    · simp only [e, if_true]
      intro g hg
      rcases h3 with h4 | h4
      · exact h.out K hK g (h4 ▸ hg)
      · rw [h4] at hg
        cases hg
        intro hf
        have := hF _ hf
        omega
    · simp only [if_neg e]
      exact h.out k hk
  · have old : ∀ k, k < 4 → ∀ g, (vs k).ownBlock = some g → g < w.heap.size := fun k hk g hg => let ⟨_, q, _⟩ := h.own k hk; (q.lt g hg).2
    intro g hg
    by_cases e1 : i = K
    · have e2 : ¬ j = K := fun e => hij (e1.trans e.symm)
      simp only [e1, if_true] at hg
      simp only [if_neg e2]
      rcases h3 with h4 | h4
      · exact h.apart K j hK hj (fun e => e2 e.symm) g (h4 ▸ hg)
      · rw [h4] at hg
        cases hg
        intro h5
        have := old j hj _ h5
        omega
    · simp only [if_neg e1] at hg
      by_cases e2 : j = K
      · simp only [e2, if_true]
        rcases h3 with h4 | h4
        · rw [h4]; exact h.apart i K hi hK e1 g hg
        · rw [h4]
          intro h5
          cases h5
          have := old i hi _ hg
          omega
      · simp only [if_neg e2]
        exact h.apart i j hi hj hij g hg
end Go.Proofs.Ythjekbbldejlpaa
/- Layer 9: what rows of other kinds do to a store and to the reference's state. -/
set_option linter.unusedVariables false
set_option linter.unusedSimpArgs false
namespace Go.Proofs.Ythjekbbldejlpaa
open Go.ChangeShapes Go.WideShapes Go.ChangeAt Go.RowKit
theorem RefAt.chg {F : Foot} {w w' : World} {v : Value} {d : St} (h : RefAt F w v d) (hk : ∀ (g : Nat) (c : Array Value) (f : Nat × Nat) (ty : TypeId), (ty = 106 ∨ ty = 5) → w.heap[g]? = some (.cells c ty f) → w'.heap[g]? = w.heap[g]?) : RefAt F w' v d :=
  (DAtR.typed h fun b c f hb => (hk b c f _ (.inl rfl) hb).trans hb).map fun hb => hb.turn (fun g cur f _ ht => hk g cur f _ (.inr rfl) ht) (fun g _ _ h _ => h)
/-- A block that is a row of another type. -/
theorem row_ne {w : World} {b g : Nat} {cs c : Array Value} {t ty : TypeId} {f : Nat × Nat} (r : RowAt w b cs t) (h : w.heap[g]? = some (.cells c ty f)) (ht : t ≠ ty) : g ≠ b := fun e => by
  subst e
  unfold RowAt at r
  rw [h] at r
  simp only [Option.some.injEq, Obj.cells.injEq] at r
  exact ht r.2.1.symm
theorem RefAt.setc {F : Foot} {w : World} {v : Value} {d : St} (h : RefAt F w v d) {b : Nat} {cs : Array Value} {t : TypeId} (r : RowAt w b cs t) (h1 : t ≠ 106) (h2 : t ≠ 5) (o : Nat) (x : Value) : RefAt F (w.setCell ⟨b, o, none⟩ x) v d :=
  h.chg fun g c f ty hty hg => Below.heap_setCell w ⟨b, o, none⟩ x g (row_ne r hg (by rcases hty with rfl | rfl <;> assumption))
theorem StoreI.setc (I : StoreI) {w : World} {F : Foot} {p : Value} {d : St} (h : I.At w F p d) {b : Nat} (hn : ¬ F b) (o : Nat) (x : Value) : I.At (w.setCell ⟨b, o, none⟩ x) F p d :=
  I.same h fun k hF => Below.heap_setCell w ⟨b, o, none⟩ x k (fun e => hn (by have e2 : k = b := e; rw [← e2]; exact hF))
theorem own_ne {w : World} {base : Nat} {e ty : TypeId} {size n : Nat} {v : Value} {xs : List Value} (ho : w.ownsRow base e size v n xs) {g : Nat} {c : Array Value} {f : Nat × Nat} (hg : w.heap[g]? = some (.cells c ty f)) (ht : ty ≠ e) : some g ≠ v.ownBlock := by
  rcases ho.2 with ⟨rfl, _⟩ | ⟨g', cap, cur, rfl, hb, hg', _⟩
  · intro h; cases h
  · intro h
    cases h
    rw [hg'] at hg
    cases hg
    exact ht rfl
theorem RefAt.grown {F : Foot} {w w' : World} {v : Value} {d : St} (h : RefAt F w v d) {base : Nat} {size n : Nat} {y : Value} {xs : List Value} (ho : w.ownsRow base 22 size y n xs) (hg : w.grownBy w' y.ownBlock) : RefAt F w' v d :=
  h.chg fun g c f ty hty hh => hg.block g (Array.getElem?_eq_some_iff.1 hh).1 (fun e => own_ne ho hh (by rcases hty with rfl | rfl <;> decide) e)
theorem StoreI.grown (I : StoreI) {w w' : World} {F : Foot} {p : Value} {d : St} (h : I.At w F p d) {y : Value} (hn : Outside F y) (hg : w.grownBy w' y.ownBlock) : I.At w' F p d :=
  I.same h fun k hF => hg.block k (I.lt h k hF) (fun e => hn k e.symm hF)
theorem row_grown {w w' : World} {b : Nat} {cs : Array Value} {t e : TypeId} (r : RowAt w b cs t) (ht : t ≠ e) {base : Nat} {size n : Nat} {y : Value} {xs : List Value} (ho : w.ownsRow base e size y n xs) (hg : w.grownBy w' y.ownBlock) : RowAt w' b cs t := by
  have h := r
  unfold RowAt at h
  exact (hg.block b r.lt (fun e' => own_ne ho h ht e')).trans r
theorem Bods.put5 {w0 w : World} {F : Foot} {base : Nat} {vs : Nat → Value} {Ls : Nat → List (List Int)} (h : Bods w0 w F base vs Ls) {b : Nat} {cs : Array Value} {t : TypeId} (r : RowAt w b cs t) (ht : t ≠ 22) (x0 x1 x2 x3 x4 : Value) : Bods w0 (lay5 w b x0 x1 x2 x3 x4) F base vs Ls :=
  ((((h.set r ht 0 x0).set (r.set 0 x0) ht 1 x1).set ((r.set 0 x0).set 1 x1) ht 2 x2).set (((r.set 0 x0).set 1 x1).set 2 x2) ht 3 x3).set ((((r.set 0 x0).set 1 x1).set 2 x2).set 3 x3) ht 4 x4
end Go.Proofs.Ythjekbbldejlpaa
/- StoreCrashes: what its rounds want besides. -/
set_option linter.unusedVariables false
set_option linter.unusedSimpArgs false
namespace Go.Proofs.Ythjekbbldejlpaa
open Go.ChangeShapes Go.WideShapes Go.ChangeAt Go.RowKit
/-- A saved record is of the next version. -/
theorem save_next {d : St} {k : Int} {L : List (List Int)} {t : Int} (h : Told d.safe d.under k L t) (hs : Srt d.safe) {B : List Int} (hlt : (of9 d k).2.1 < (of9 (saveSt d k B).1 k).2.1) : (of9 (saveSt d k B).1 k).2.1 = (of9 d k).2.1 + 1 := by
  rcases save_cases d k B with ⟨e1, e2⟩ | ⟨hw, hc⟩
  · rw [of9_all (all_same e1 e2)] at hlt
    omega
  · have hal : (saveSt d k B).1.all = nowF d.safe (d.under ++ [(4 * k + 1 - (of9 d k).1, recF ((of9 d k).2.1 + 1) B)]) := by
      unfold St.all
      rcases hc with ⟨e1, e2⟩ | ⟨e1, e2⟩ <;> rw [e1, e2]
      rfl
    exact h.next hs hw hal
theorem does_next {d : St} {key : Int} {L : List (List Int)} {t : Int} (h : Told d.safe d.under (aroundF key 4) L t) (hs : Srt d.safe) (num x : Int) (B : List Int)
    (hlt : (of9 d (aroundF key 4)).2.1 < (of9 (does9 d 0 key num x B) (aroundF key 4)).2.1) : (of9 (does9 d 0 key num x B) (aroundF key 4)).2.1 = (of9 d (aroundF key 4)).2.1 + 1 := by
  have e : does9 d 0 key num x B = (saveSt d (aroundF key 4) (B.take 20)).1 := by unfold does9; rw [if_pos rfl]
  rw [e] at hlt ⊢
  exact save_next h hs hlt
theorem StoreI.load0 (I : StoreI) (w : World) (F : Foot) (p : Value) (d : St) (k i : Nat) (hk : k < 4) (hA : I.At w F p d) (h9 : St9 d i) (hi : i ≤ 300) :
    Calls Try.prog 21 #[p, .int .i64 (k : Int)] w fun e w' => ∃ vb, e = .returned (.tuple #[vb, .int .i64 (of9 d k).2.1, .bool (decide (0 < (of9 d k).2.1))]) ∧ BytsNew w w' vb (of9 d k).2.2 ∧ Below w.heap.size w w' := by
  have hid : idB (k : Int) = true := by rw [idB_iff]; omega
  have e : loadF d k = ((of9 d k).2.2, (of9 d k).2.1, decide (0 < (of9 d k).2.1)) := by unfold loadF; rw [if_pos hid]
  have h := I.load w F p d k i hA h9 hi (by constructor <;> omega)
  rw [e] at h
  exact h
theorem r6_fewS (p : Option Addr) (cap : Nat) (l : List Int) (M : Nat) (w : World) (hl : BytsAt w (.slice p l.length cap) l) (hL : l.length ≤ maxLen) (hM : M ≤ 100000) : Calls Try.prog 9 #[.slice p l.length cap, .int .i64 M] w fun e w' =>
    e = .returned (.slice p (l.take M).length cap) ∧ Below w.heap.size w w' := by
  obtain ⟨p', cap', he, hf⟩ := hl.form
  have hf2 : 0 < l.length → ∃ g off, p = some ⟨g, off, none⟩ ∧ l.length ≤ cap := fun h => by
    obtain ⟨g, off, e, hc, _⟩ := hf h
    simp only [Value.slice.injEq] at he
    obtain ⟨rfl, _, rfl⟩ := he
    exact ⟨g, off, e, hc⟩
  clear hf he
  obtain ⟨N, hN⟩ : ∃ N, l.length = N := ⟨_, rfl⟩
  rw [hN] at hl hf2 hL ⊢
  unfold maxLen at hL
  by_cases h : (M : Int) < N
  · obtain ⟨g, off, rfl, hc⟩ := hf2 (by omega)
    have hlen : (l.take M).length = M := by simp; omega
    rw [hlen]
    have hc2 : (M : Int) ≤ cap := by omega
    clear hl hf2 hlen hN
    go_enter Try.func9, Try.ntmps9
    go_wp2
    go_ret
    exact ⟨rfl, by (repeat (first | with_reducible assumption | with_reducible exact Below.refl _ _ | with_reducible refine Below.drew ?_ | with_reducible refine below_drewN ?_ _ | with_reducible refine al ?_ _ | (with_reducible refine sc ?_ ?_; (focus (first | omega | (simp; done) | (simp; omega)))) | (with_reducible refine chain ?_ (by assumption))))⟩
  · have e : l.take M = l := List.take_of_length_le (by omega)
    rw [e, hN]
    clear hl hf2 e hN
    go_enter Try.func9, Try.ntmps9
    go_wp2
    go_ret
    exact ⟨rfl, by (repeat (first | with_reducible assumption | with_reducible exact Below.refl _ _ | with_reducible refine Below.drew ?_ | with_reducible refine below_drewN ?_ _ | with_reducible refine al ?_ _ | (with_reducible refine sc ?_ ?_; (focus (first | omega | (simp; done) | (simp; omega)))) | (with_reducible refine chain ?_ (by assumption))))⟩
theorem byts_few {w : World} {p : Option Addr} {cap : Nat} {l : List Int} (h : BytsAt w (.slice p l.length cap) l) (M : Nat) : BytsAt w (.slice p (l.take M).length cap) (l.take M) := by
  have := h.take (k := (l.take M).length) (by rw [List.length_take]; omega)
  have e : l.take (l.take M).length = l.take M := by
    rw [List.length_take]
    rcases Nat.le_total M l.length with h | h
    · rw [Nat.min_eq_left h]
    · rw [Nat.min_eq_right h, List.take_of_length_le h, List.take_length]
  rwa [e] at this
theorem bods_cut {w : World} {base : Nat} {p : Option Addr} {N cap n : Nat} {xs : List Value} (ho : w.ownsRow base 22 1 (.slice p N cap) N xs) (hn : n ≤ N) (u : World) :
    (Instr.sliceAt 31 (.slice p N cap) none (some (.int .i64 (n : Int))) none).run Try.prog u = .ok (.slice p n cap) u := by
  have hs : Try.prog.cellsOf 22 = 1 := by kernel_rfl
  rcases ho.2 with ⟨h1, h2⟩ | ⟨g, cap', cur, hv, _, _, hc, _⟩
  · cases h1
    obtain rfl : n = 0 := by omega
    simp [go_sem, *]
  · simp only [Value.slice.injEq] at hv
    obtain ⟨rfl, _, rfl⟩ := hv
    have h4 : (n : Int) ≤ cap := by omega
    by_cases h0 : cap = 0
    · subst h0
      obtain rfl : n = 0 := by omega
      simp [go_sem, *]
    · have h2 : ¬ 0 = cap := by omega
      simp [go_sem, *]
end Go.Proofs.Ythjekbbldejlpaa
